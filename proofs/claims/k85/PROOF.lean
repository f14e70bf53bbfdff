import PyProof.Rows.All
import Wide.All
import OpenK.AllK
import Wide.FinOn
import Lean
import PyProof.EqAt
import PyProof.EqKinds
import PyProof.TupleCall
import PyProof.Rows.StrInSeq3
import PyProof.Rows.SeqMore2
import PyProof.Rows.StrSplit
import PyProof.Rows.StrItems
import PyProof.Cells
import PyProof.SumWalkG
import PyProof.EnumStmt
import PyProof.EnumMake
import PyProof.InstStoreFacts
import PyProof.StrCalls2
import PySem.Challenge.RW_ohmyard_k85_counted_as_built
set_option Elab.async false
set_option linter.all false
set_option maxRecDepth 100000
namespace L2
open PySem PySem.Spec PyProof.Rows

abbrev Key := Sum Int Str
def keyIs : Key → Value → Bool
  | .inl k, v => Value.isInt k v
  | .inr x, v => Value.isStrOf x v
def keyH (w : World) : Key → Int
  | .inl k => hashInt k
  | .inr x => hashStr w x
theorem keyIs_shape : ∀ {k : Key} {v : Value}, keyIs k v = true → (∃ i t, k = Sum.inl i ∧ v = Value.int i t) ∨ (∃ x t, k = Sum.inr x ∧ v = Value.str x t)
  | .inl i, v, h => by
    obtain ⟨t, e⟩ := Value.isInt_shape (k := i) (v := v) h
    exact .inl ⟨i, t, rfl, e⟩
  | .inr x, v, h => by
    obtain ⟨t, e⟩ := Value.isStrOf_shape (x := x) (v := v) h
    exact .inr ⟨x, t, rfl, e⟩
theorem keyIs_int (i : Int) (t : Tok) : keyIs (.inl i) (.int i t) = true := by simp [keyIs, Value.isInt]
theorem keyIs_str (x : Str) (t : Tok) : keyIs (.inr x) (.str x t) = true := by simp [keyIs, Value.isStrOf]
theorem key_ll (a b : Int) : decide ((Sum.inl a : Key) = Sum.inl b) = (a == b) := by
  by_cases e : a = b
  · subst e; simp
  · have h : ¬ (Sum.inl a : Key) = Sum.inl b := fun q => e (Sum.inl.inj q)
    rw [decide_eq_false h]
    exact (beq_eq_false_iff_ne.mpr e).symm
theorem key_rr (a b : Str) : decide ((Sum.inr a : Key) = Sum.inr b) = decide (a = b) := by
  by_cases e : a = b
  · subst e; simp
  · have h : ¬ (Sum.inr a : Key) = Sum.inr b := fun q => e (Sum.inr.inj q)
    rw [decide_eq_false h, decide_eq_false e]
theorem key_lr (a : Int) (b : Str) : decide ((Sum.inl a : Key) = Sum.inr b) = false := decide_eq_false (fun q => nomatch q)
theorem key_rl (a : Str) (b : Int) : decide ((Sum.inr a : Key) = Sum.inl b) = false := decide_eq_false (fun q => nomatch q)

def mixKind (prog : Program) (w : World) : PySem.KeyKind prog w Key where
  is := keyIs
  hash := keyH w
  inj := fun v a b ha hb => by
    rcases keyIs_shape ha with ⟨i, t, rfl, rfl⟩ | ⟨x, t, rfl, rfl⟩
    · rcases keyIs_shape hb with ⟨j, u, rfl, e⟩ | ⟨y, u, rfl, e⟩
      · injection e with e1 _; rw [e1]
      · exact nomatch e
    · rcases keyIs_shape hb with ⟨j, u, rfl, e⟩ | ⟨y, u, rfl, e⟩
      · exact nomatch e
      · injection e with e1 _; rw [e1]
  byValue := fun k v h => by
    rcases keyIs_shape h with ⟨i, t, rfl, rfl⟩ | ⟨x, t, rfl, rfl⟩ <;> rfl
  pyHash := fun hv h => by
    rcases keyIs_shape hv with ⟨i, t, rfl, rfl⟩ | ⟨x, t, rfl, rfl⟩
    · exact wpAny_pyHash_int h
    · exact wpAny_pyHash_str h
  eqBool := fun hu hv h => by
    rcases keyIs_shape hu with ⟨i, t, rfl, rfl⟩ | ⟨x, t, rfl, rfl⟩
    · rcases keyIs_shape hv with ⟨j, u, rfl, rfl⟩ | ⟨y, u, rfl, rfl⟩
      · rw [key_ll] at h; exact wpAny_eqBool_int h
      · rw [key_lr] at h; exact SeqAt.EqAt.int_str i t y u _ _ _ _ h
    · rcases keyIs_shape hv with ⟨j, u, rfl, rfl⟩ | ⟨y, u, rfl, rfl⟩
      · rw [key_rl] at h; exact SeqAt.EqAt.str_int x t j u _ _ _ _ h
      · rw [key_rr] at h; exact wpAny_eqBool_str h
  «strs» := fun k x t v h => by
    rcases keyIs_shape h with ⟨i, u, rfl, e⟩ | ⟨y, u, rfl, e⟩
    · exact nomatch e
    · injection e with e1 _
      subst e1
      cases v <;> rfl

theorem mixKind_int (prog : Program) (w : World) (i : Int) (t : Tok) : (mixKind prog w).is (.inl i) (.int i t) = true := keyIs_int i t
theorem mixKind_str (prog : Program) (w : World) (x : Str) (t : Tok) : (mixKind prog w).is (.inr x) (.str x t) = true := keyIs_str x t
end L2

namespace L2
open PySem PySem.Spec PyProof.Rows

inductive V where
  | non | bl (b : Bool) | int (i : Int) | str (x : Str) | byt (b : Array UInt8) | flt (b : UInt64) | ref (a : Addr) | ty (n : String)
  deriving DecidableEq

def RelV : V → Value → Prop
  | .non, u => u = Value.none
  | .bl b, u => u = Value.bool b
  | .int i, u => ∃ t, u = Value.int i t
  | .str x, u => ∃ t, u = Value.str x t
  | .byt b, u => ∃ t, u = Value.bytes b t
  | .flt b, u => ∃ t, u = Value.float b t
  | .ref a, u => u = Value.ref a
  | .ty n, u => u = Value.type n

abbrev Vals : List V → List Value → Prop := Paired RelV
theorem Vals.length {xs : List V} {us : List Value} (r : Vals xs us) : xs.length = us.length := Paired.length r
theorem Vals.get : ∀ {xs : List V} {us : List Value} {i : Nat} {x : V}, Vals xs us → xs[i]? = some x → ∃ u, us[i]? = some u ∧ RelV x u
  | _, _, _, _, .nil, e => by simp at e
  | _, _, 0, _, .cons r _, e => by simp at e; subst e; exact ⟨_, rfl, r⟩
  | _, _, i + 1, x, .cons _ t, e => by
    obtain ⟨u, h1, h2⟩ := Vals.get (i := i) (x := x) t (by simpa using e)
    exact ⟨u, by simpa using h1, h2⟩
theorem Vals.append : ∀ {xs ys : List V} {us ws : List Value}, Vals xs us → Vals ys ws → Vals (xs ++ ys) (us ++ ws)
  | _, _, _, _, .nil, s => s
  | _, _, _, _, .cons r t, s => .cons r (Vals.append t s)
theorem Vals.take : ∀ {xs : List V} {us : List Value} (n : Nat), Vals xs us → Vals (xs.take n) (us.take n)
  | _, _, 0, _ => .nil
  | _, _, _ + 1, .nil => .nil
  | _, _, n + 1, .cons r t => .cons r (Vals.take n t)
theorem Vals.drop : ∀ {xs : List V} {us : List Value} (n : Nat), Vals xs us → Vals (xs.drop n) (us.drop n)
  | _, _, 0, r => r
  | _, _, _ + 1, .nil => .nil
  | _, _, n + 1, .cons _ t => Vals.drop n t
def RelO : Option V → Option Value → Prop
  | some v, some u => RelV v u
  | none, none => True
  | _, _ => False
def KV {κ : Type} : List (κ × V) → List (κ × Value) → Prop := Paired fun (p : κ × V) (q : κ × Value) => p.1 = q.1 ∧ RelV p.2 q.2

def kV : Key → V
  | .inl i => .int i
  | .inr x => .str x

inductive HO where
  | lst (xs : List V)
  | tup (xs : List V)
  | dK (kvs : List (Key × V)) | dT (kvs : List (List Key × V))
  | set (S : Int → Bool) (n : Nat)
  | ins (C dx : Addr) (fs : List (Str × V))
  | own (x : Addr)
  | xd (fs : List (Str × V))
  | met (f x : Addr)
  | rng (lo hi : Int)
  | frz (o : Obj) (u : HO)
  | tbl (ps : Array Value)
  | ext (φ : Heap → Prop)

abbrev Hp := Addr → Option HO
def upd (H : Hp) (a : Addr) (o : HO) : Hp := fun b => if b = a then some o else H b
theorem upd_same {H : Hp} {a : Addr} {o : HO} : upd H a o a = some o := by unfold upd; rw [if_pos rfl]
theorem upd_ne {H : Hp} {a b : Addr} {o : HO} (h : b ≠ a) : upd H a o b = H b := by unfold upd; rw [if_neg h]
theorem upd_upd {H : Hp} {a : Addr} {o u : HO} : upd (upd H a o) a u = upd H a u := by
  funext b; unfold upd; split <;> rfl
theorem ne_of {H : Hp} {a b : Addr} {o u : HO} (h : H a = some o) (h' : H b = some u) (d : o ≠ u) : a ≠ b := by
  intro e; subst e; rw [h] at h'; exact d (Option.some.inj h')
theorem ne_of_none {H : Hp} {a b : Addr} {o : HO} (h : H a = some o) (h' : H b = none) : a ≠ b := by
  intro e; subst e; rw [h] at h'; cases h'

section
variable (P : Program) (w : World)
def ObjOk (H : Hp) (h : Heap) (a : Addr) : HO → Prop
  | .lst xs => xs.length ≤ sizeLine ∧ ∃ (its : List Value) (n : Nat), Vals xs its ∧ h.get? a = some { cls := .type "list", data := .seq its.toArray n }
  | .tup xs => xs.length ≤ sizeLine ∧ ∃ its : List Value, Vals xs its ∧ IsTup h a its.toArray
  | .dK kvs => kvs.length ≤ sizeLine ∧ (a == sysModules) = false ∧ ∃ vs, KV kvs vs ∧ h.DictOf (mixKind P w) a vs
  | .dT kvs => kvs.length ≤ sizeLine ∧ (a == sysModules) = false ∧ ∃ xs : List (List Key × Addr × Value),
      Paired (fun (p : List Key × V) (q : List Key × Addr × Value) => p.1 = q.1 ∧ H q.2.1 = some (.tup (p.1.map kV)) ∧ RelV p.2 q.2.2) kvs xs ∧
      ∃ o es ep, h.get? a = some o ∧ o.ExactDict ∧ o.data = .dict es ep ∧ es.toList = xs.map (entryOfKey (tupleKind (mixKind P w))) ∧ (xs.map (·.1)).Nodup
  | .set S n => h.SetOf (intKind P w) a S n
  | .ins C dx fs => H dx = some (.own a) ∧ fs.length ≤ 1000 ∧ dx ≠ a ∧ h.get? a = some (PySem.W.instObj C dx) ∧
      ∃ mA, h.Ns1 dx mA ∧ (∀ f, RelO (fs.lookup f) (mA f)) ∧ PySem.Within mA (fs.map (·.1))
  | .own _ => ∃ o, h.get? a = some o
  | .xd fs => ∃ mA, h.Ns1 a mA ∧ ∀ f, RelO (fs.lookup f) (mA f)
  | .rng lo hi => ∃ t u v, h.get? a = some { cls := .type "range", data := .fields #[.int lo t, .int hi u, .int 1 v] }
  | .frz o u => h.get? a = some o ∧ ObjOk H h a u
  | .tbl ps => h.get? a = some { cls := .none, data := .fields ps }
  | .met f x => h.get? a = some (PySem.W.methodObj (.ref f) (.ref x))
  | .ext φ => φ h ∧ (∃ o, h.get? a = some o) ∧ ∀ h1 h2 : Heap, φ h1 → (∀ o, h1.get? a = some o → h2.get? a = some o) → φ h2
def HOk (H : Hp) (h : Heap) : Prop := ∀ a o, H a = some o → ObjOk P w H h a o
end

section
variable {P : Program} {w : World} {H H' : Hp} {h h' : Heap} {a : Addr} {o : HO}
theorem ObjOk.lt (x : ObjOk P w H h a o) : a < h.objs.size := by
  cases o with
  | lst xs => obtain ⟨_, _, _, _, e⟩ := x; exact Heap.lt_size e
  | tup xs => obtain ⟨_, _, _, p⟩ := x; exact p.lt
  | dK kvs => obtain ⟨_, _, _, _, o, _, _, e, _⟩ := x; exact Heap.lt_size e
  | dT kvs => obtain ⟨_, _, _, _, o, _, _, e, _⟩ := x; exact Heap.lt_size e
  | set S n => obtain ⟨o, _, _, _, e, _⟩ := x; exact Heap.lt_size e
  | ins C dx fs => obtain ⟨_, _, _, e, _⟩ := x; exact Heap.lt_size e
  | own y => obtain ⟨_, e⟩ := x; exact Heap.lt_size e
  | xd fs => obtain ⟨_, ⟨_, _, _, e, _⟩, _⟩ := x; exact Heap.lt_size e
  | rng lo hi => obtain ⟨_, _, _, e⟩ := x; exact Heap.lt_size e
  | frz ob u => obtain ⟨e, _⟩ := x; exact Heap.lt_size e
  | tbl ps => exact Heap.lt_size (show h.get? a = some _ from x)
  | met f y => exact Heap.lt_size (show h.get? a = some _ from x)
  | ext φ => obtain ⟨_, ⟨_, e⟩, _⟩ := x; exact Heap.lt_size e
theorem Paired.mapP {α β : Type} {F G : α → β → Prop} : ∀ {l₁ : List α} {l₂ : List β}, Paired F l₁ l₂ → (∀ a b, F a b → G a b) → Paired G l₁ l₂
  | _, _, .nil, _ => .nil
  | _, _, .cons r t, f => .cons (f _ _ r) (Paired.mapP t f)
theorem ObjOk.stay (x : ObjOk P w H h a o) (k : ∀ b u, (b = a ∨ H b = some (.own a)) → h.get? b = some u → h'.get? b = some u)
    (ho : ∀ b, H b = some (.own a) → H' b = some (.own a)) (ht : ∀ b xs, H b = some (.tup xs) → H' b = some (.tup xs)) : ObjOk P w H' h' a o := by
  induction o with
  | lst xs => obtain ⟨z, its, n, r, e⟩ := x; exact ⟨z, its, n, r, k _ _ (.inl rfl) e⟩
  | tup xs => obtain ⟨z, its, r, ob, e, c⟩ := x; exact ⟨z, its, r, ob, k _ _ (.inl rfl) e, c⟩
  | dK kvs => obtain ⟨z, y, vs, r, ob, es, ep, e, c⟩ := x; exact ⟨z, y, vs, r, ob, es, ep, k _ _ (.inl rfl) e, c⟩
  | dT kvs =>
    obtain ⟨z, y, xs, r, ob, es, ep, e, c⟩ := x
    exact ⟨z, y, xs, Paired.mapP r fun p q z => ⟨z.1, ht _ _ z.2.1, z.2.2⟩, ob, es, ep, k _ _ (.inl rfl) e, c⟩
  | set S n => obtain ⟨ob, es, ep, t, e, c⟩ := x; exact ⟨ob, es, ep, t, k _ _ (.inl rfl) e, c⟩
  | ins C dx fs =>
    obtain ⟨d, z, ne, e, mA, ⟨od, es, ep, e2, c⟩, r⟩ := x
    exact ⟨ho _ d, z, ne, k _ _ (.inl rfl) e, mA, ⟨od, es, ep, k _ _ (.inr d) e2, c⟩, r⟩
  | own y => obtain ⟨ob, e⟩ := x; exact ⟨ob, k _ _ (.inl rfl) e⟩
  | xd fs => obtain ⟨mA, ⟨od, es, ep, e, c⟩, r⟩ := x; exact ⟨mA, ⟨od, es, ep, k _ _ (.inl rfl) e, c⟩, r⟩
  | rng lo hi => obtain ⟨t, u, v, e⟩ := x; exact ⟨t, u, v, k _ _ (.inl rfl) e⟩
  | frz ob u ih => obtain ⟨e, q⟩ := x; exact ⟨k _ _ (.inl rfl) e, ih q⟩
  | tbl ps =>
    have e : h.get? a = some { cls := .none, data := .fields ps } := x
    show h'.get? a = some { cls := .none, data := .fields ps }
    exact k a _ (.inl rfl) e
  | met f y =>
    have e : h.get? a = some (PySem.W.methodObj (.ref f) (.ref y)) := x
    show h'.get? a = some (PySem.W.methodObj (.ref f) (.ref y))
    exact k a _ (.inl rfl) e
  | ext φ => obtain ⟨p, ⟨o, e⟩, st⟩ := x; exact ⟨st _ _ p fun o q => k _ _ (.inl rfl) q, ⟨o, k _ _ (.inl rfl) e⟩, st⟩
theorem HOk.lt (x : HOk P w H h) (e : H a = some o) : a < h.objs.size := (x a o e).lt
theorem HOk.fresh (x : HOk P w H h) (e : h.objs.size ≤ a) : H a = none := by
  cases q : H a with
  | none => rfl
  | some u => exact absurd (Nat.lt_of_lt_of_le (x.lt q) e) (Nat.lt_irrefl _)
theorem HOk.kept (x : HOk P w H h) (k : ∀ b u, h.get? b = some u → h'.get? b = some u) : HOk P w H h' := fun a o e =>
  (x a o e).stay (fun b u _ q => k b u q) (fun _ q => q) fun _ _ q => q
theorem HOk.laid (x : HOk P w H h) (k : ∀ b u, h.get? b = some u → h'.get? b = some u) (hp : h.objs.size ≤ a) (new : ObjOk P w (upd H a o) h' a o) : HOk P w (upd H a o) h' := fun b u e => by
  have hn := x.fresh hp
  by_cases hb : b = a
  · subst hb; rw [upd_same] at e; cases e; exact new
  · rw [upd_ne hb] at e
    exact (x b u e).stay (fun c v _ q => k c v q) (fun c q => by rw [upd_ne (ne_of_none q hn)]; exact q) fun c xs q => by rw [upd_ne (ne_of_none q hn)]; exact q
end

def Rd (H : Hp) (a : Addr) (u : HO) : Prop := H a = some u ∨ ∃ o, H a = some (.frz o u)
theorem Rd.ok {P : Program} {w : World} {H : Hp} {h : Heap} {a : Addr} {u : HO} (r : Rd H a u) (x : HOk P w H h) : ObjOk P w H h a u := by
  rcases r with r | ⟨o, r⟩
  · exact x a u r
  · obtain ⟨_, q⟩ := x a _ r
    exact q
def Mut : Option HO → Prop
  | some (.lst _) => True
  | some (.dK _) => True
  | some (.dT _) => True
  | some (.set _ _) => True
  | some (.ins _ _ _) => True
  | some (.ext _) => True
  | _ => False
section
variable {P : Program} {w : World} {H : Hp} {h h' : Heap} {x e : Addr} {o' : HO}
theorem HOk.write (ok : HOk P w H h) (mu : Mut (H x)) (he : e = x ∨ H e = some (.own x)) (k : ∀ b u, b ≠ e → h.get? b = some u → h'.get? b = some u) (heo : ∃ u, h'.get? e = some u)
    (new : ObjOk P w (upd H x o') h' x o') : HOk P w (upd H x o') h' := fun b u q => by
  have nown : ∀ c y, H c = some (.own y) → c ≠ x := fun c y r z => by subst z; rw [r] at mu; exact mu
  have ntup : ∀ c xs, H c = some (.tup xs) → c ≠ x := fun c xs r z => by subst z; rw [r] at mu; exact mu
  by_cases hb : b = x
  · subst hb; rw [upd_same] at q; cases q; exact new
  · rw [upd_ne hb] at q
    by_cases hbe : b = e
    · have q' : H b = some (.own x) := by
        rcases he with z | z
        · exact absurd (hbe.trans z) hb
        · rw [hbe]; exact z
      rw [q] at q'; cases q'
      obtain ⟨v, hv⟩ := heo
      exact ⟨v, by rw [hbe]; exact hv⟩
    · refine (ok b u q).stay (fun c v hc r => k c v ?_ r) (fun c r => by rw [upd_ne (nown c b r)]; exact r) fun c xs r => by rw [upd_ne (ntup c xs r)]; exact r
      rcases hc with rfl | hc
      · exact hbe
      · rintro rfl
        rcases he with z | z
        · exact nown c b hc z
        · rw [hc] at z; cases z; exact hb rfl
end

structure Un (fs ex : List Addr) (H H' : Hp) (h h' : Heap) : Prop where
  keep : ∀ b o, h.get? b = some o → H b = none → b ∉ fs → b ∉ ex → h'.get? b = some o
  slot : ∀ b o, h.get? b = some o → H b = none → b ∈ fs → b ∉ ex → ∃ sl, h'.get? b = some { o with slots := sl }
  free : ∀ b o, h.get? b = some o → H b = none → b ∉ ex → H' b = none
  there : ∀ b o, h.get? b = some o → b ∉ ex → ∃ o', h'.get? b = some o'
  tups : ∀ b xs, H b = some (.tup xs) → H' b = some (.tup xs)
  frzs : ∀ b o u, H b = some (.frz o u) → H' b = some (.frz o u)
  tbls : ∀ b ps, H b = some (.tbl ps) → ∃ more, H' b = some (.tbl (ps ++ more))
section
variable {fs fs' ex ex' : List Addr} {H H1 H2 : Hp} {h h1 h2 h' : Heap} {a x e : Addr} {o : HO}
theorem Un.any (u : Un fs ex H H1 h h1) {b : Addr} {ob : Obj} (q : h.get? b = some ob) (n : H b = none) (hx : b ∉ ex) : ∃ sl, h1.get? b = some { ob with slots := sl } := by
  by_cases hb : b ∈ fs
  · exact u.slot b ob q n hb hx
  · exact ⟨ob.slots, u.keep b ob q n hb hx⟩
theorem Un.kept (k : ∀ b u, h.get? b = some u → h'.get? b = some u) : Un fs ex H H h h' :=
  ⟨fun b ob q _ _ _ => k b ob q, fun b ob q _ _ _ => ⟨ob.slots, k b ob q⟩, fun _ _ _ n _ => n, fun b ob q _ => ⟨ob, k b ob q⟩, fun _ _ q => q, fun _ _ _ q => q, fun _ ps q => ⟨#[], by rw [q]; simp⟩⟩
theorem Un.refl : Un fs ex H H h h := Un.kept fun _ _ q => q
theorem Un.laid (k : ∀ b u, h.get? b = some u → h'.get? b = some u) (hp : h.objs.size ≤ a) (hn : H a = none) : Un fs ex H (upd H a o) h h' where
  keep := fun b u q _ _ _ => k b u q
  slot := fun b u q _ _ _ => ⟨u.slots, k b u q⟩
  free := fun b u q n _ => by rw [upd_ne (Nat.ne_of_lt (Nat.lt_of_lt_of_le (Heap.lt_size q) hp))]; exact n
  there := fun b u q _ => ⟨u, k b u q⟩
  tups := fun b xs q => by rw [upd_ne (ne_of_none q hn)]; exact q
  frzs := fun b u xs q => by rw [upd_ne (ne_of_none q hn)]; exact q
  tbls := fun b ps q => ⟨#[], by rw [upd_ne (ne_of_none q hn), q]; simp⟩
theorem Un.write (mu : Mut (H x)) (he : e = x ∨ H e = some (.own x)) (k : ∀ b u, b ≠ e → h.get? b = some u → h'.get? b = some u) (heo : ∃ u, h'.get? e = some u) : Un fs ex H (upd H x o) h h' := by
  have hx : ∀ b, H b = none → b ≠ x := fun b n z => by subst z; rw [n] at mu; exact mu
  have hb : ∀ b, H b = none → b ≠ e := fun b n z => by
    subst z
    rcases he with r | r
    · exact hx b n r
    · rw [n] at r; cases r
  have hm : ∀ b u, H b = some u → ¬ Mut (some u) → b ≠ x := fun b u q nm z => by subst z; rw [q] at mu; exact nm mu
  refine ⟨fun b u q n _ _ => k b u (hb b n) q, fun b u q n _ _ => ⟨u.slots, k b u (hb b n) q⟩, fun b u q n _ => by rw [upd_ne (hx b n)]; exact n, fun b u q _ => ?_,
    fun b xs q => by rw [upd_ne (hm b _ q fun z => z)]; exact q, fun b u xs q => by rw [upd_ne (hm b _ q fun z => z)]; exact q, fun b ps q => ⟨#[], by rw [upd_ne (hm b _ q fun z => z), q]; simp⟩⟩
  by_cases hbe : b = e
  · subst hbe; exact heo
  · exact ⟨u, k b u hbe q⟩
end

def trk (h : Heap) (H : Hp) : List Addr := (List.range h.objs.size).filter fun a => (H a).isSome
def hidT (h : Heap) (H : Hp) : Heap := PySem.W.hideAll h (trk h H)
theorem hidT_size (h : Heap) (H : Hp) : (hidT h H).objs.size = h.objs.size := PySem.W.hideAll_size _ _
theorem hidT_get {h : Heap} {H : Hp} {b : Addr} {o : Obj} (e : h.get? b = some o) (n : H b = none) : (hidT h H).get? b = some o :=
  PySem.W.hideAll_get _ e fun hm => by
    have q : (H b).isSome = true := (List.mem_filter.mp hm).2
    rw [n] at q; simp at q
theorem of_hidT {h : Heap} {H : Hp} {b : Addr} {o : Obj} (e : (hidT h H).get? b = some o) : h.get? b = some o ∧ H b = none := by
  have e' : h.get? b = some o := PySem.W.of_hideAll (trk h H) e
  refine ⟨e', ?_⟩
  cases q : H b with
  | none => rfl
  | some x =>
    have hm : b ∈ trk h H := List.mem_filter.mpr ⟨List.mem_range.mpr (Heap.lt_size e'), by simp [q]⟩
    have z : (hidT h H).get? b = none := PySem.W.hideAll_none (trk h H) hm
    rw [z] at e; cases e

end L2

namespace L2
open PySem PySem.Spec PyProof.Rows

structure Mod (K : PySem.W.Frag) (mg : Str → Option Value) (base : Heap) : Prop where
  kin : K.In base
  glob : base.Ns mainGlobals mg
  blt : ∃ mb, base.Ns builtinsNs mb ∧ ∀ x : Str, x ≠ "__name__" → mb x = bootBuiltins x
  nolimit : base.NoLimit

structure Cx where
  prog : Program
  w : World
  K : PySem.W.Frag
  mg : Str → Option Value
  base : Heap
  A : Around
  N : List Str
  s₀ : Shared
  H₀ : Hp
  env : Env
  outer : List Env
  stack : List Env
  ex : List Addr
  fn : Str → Bool
  calm : Bool
  pn : List (Addr × Obj)
  xe : Value → Shared → Prop
def frs (l : List Env) : List Addr := l.filterMap (·.frame)
abbrev Cx.fs (X : Cx) : List Addr := frs X.outer

def Vis (sc : Scope) (x : Str) : Prop := sc.names.lookup x = some .local ∨ sc.names.lookup x = some .cell ∨ sc.names.lookup x = some .free
def Loc (sc : Scope) (x : Str) : Prop := sc.names.lookup x = some .local ∨ sc.names.lookup x = some .cell
def Look (env : Env) (h : Heap) (m : Str → Option Value) (x : Str) (u : Value) : Prop :=
  (env.kindOf x = some .local ∧ m x = some u) ∨ ((env.kindOf x = some .cell ∨ env.kindOf x = some .free) ∧ ∃ c, env.cells.lookup x = some c ∧ h.IsCell c (some u))

structure Cx.Ok (X : Cx) : Prop where
  mod : Mod X.K X.mg X.base
  kind : X.env.scope.kind = .function
  glob : X.env.globals = mainGlobals
  blt : X.env.builtins = builtinsNs
  above : X.s₀.heap.objs.size ≤ X.env.locals
  inj : ∀ x y c, X.env.cells.lookup x = some c → X.env.cells.lookup y = some c → x = y
  has : ∀ x, (X.env.kindOf x = some .cell ∨ X.env.kindOf x = some .free) → ∃ c, X.env.cells.lookup x = some c
  cab : ∀ x c, X.fn x = true → X.env.cells.lookup x = some c → X.s₀.heap.objs.size ≤ c
  hd : X.calm = true → X.A.handled = none
  frames : X.A.frames = some X.stack
  stk : X.stack = X.outer ∨ (X.stack = X.env :: X.outer ∧ X.env.frame = some X.env.locals)
  exf : ∀ b ∈ X.ex, b ≠ X.env.locals ∧ ∀ x c, X.env.cells.lookup x = some c → c ≠ b
  bs : ∀ b o, X.base.get? b = some o → X.s₀.heap.get? b = some o ∧ X.H₀ b = none
  bsz : X.base.objs.size ≤ X.s₀.heap.objs.size
  noex : ∀ b o, X.base.get? b = some o → b ∉ X.ex
  exfs : ∀ b ∈ X.ex, b ∉ X.fs
  funs : X.s₀.heap.FunFrames X.base X.outer
  frf : ∀ b ∈ X.fs, X.H₀ b = none

structure Inv (X : Cx) (pins : List (Addr × Obj)) (σ : List (Option V)) (H : Hp) (s : Shared) : Prop where
  ok : X.Ok
  os : s.os = X.s₀.os
  bare : AllBare s.gens
  base : Un X.fs X.ex X.H₀ H X.s₀.heap s.heap
  loc : ∃ m, s.heap.Ns X.env.locals m ∧ ∀ (i : Nat) (x : Str) (v : V), X.N[i]? = some x → σ[i]? = some (some v) → Vis X.env.scope x → ∃ u, RelV v u ∧ Look X.env s.heap m x u
  cell : ∀ x c, X.env.cells.lookup x = some c → ∃ v, s.heap.IsCell c v
  free : H X.env.locals = none
  freeC : ∀ x c, X.env.cells.lookup x = some c → H c = none
  pin : ∀ p ∈ X.pn ++ pins, s.heap.get? p.1 = some p.2 ∧ H p.1 = none ∧ p.1 ≠ X.env.locals ∧ p.1 ∉ X.fs ∧ ∀ v, p.2.data ≠ .cell v
  hok : HOk X.prog X.w H s.heap
  len : σ.length = X.N.length

section
variable {X : Cx} {pins : List (Addr × Obj)} {σ : List (Option V)} {H H' : Hp} {s : Shared} {h' : Heap}

theorem Cx.Ok.nofr (ok : X.Ok) {b : Addr} {o : Obj} (e : X.base.get? b = some o) : b ∉ X.fs := fun hb => by
  have := (ok.funs.mem hb).1
  rw [e] at this; cases this
theorem Inv.bs (I : Inv X pins σ H s) : ∀ b o, X.base.get? b = some o → s.heap.get? b = some o ∧ H b = none := fun b o e =>
  ⟨I.base.keep b o (I.ok.bs b o e).1 (I.ok.bs b o e).2 (I.ok.nofr e) (I.ok.noex b o e), I.base.free b o (I.ok.bs b o e).1 (I.ok.bs b o e).2 (I.ok.noex b o e)⟩
theorem Inv.bk (I : Inv X pins σ H s) : ∀ b o, X.base.get? b = some o → s.heap.get? b = some o := fun b o e => (I.bs b o e).1
theorem Inv.mod (I : Inv X pins σ H s) : Mod X.K X.mg X.base := I.ok.mod
theorem Inv.kIn (I : Inv X pins σ H s) : X.K.In s.heap := I.ok.mod.kin.keeps I.bk
theorem Inv.nolimit (I : Inv X pins σ H s) : s.heap.NoLimit := I.ok.mod.nolimit.keeps I.bk
theorem Inv.lt (I : Inv X pins σ H s) : X.env.locals < s.heap.objs.size := let ⟨_, hn, _⟩ := I.loc; hn.lt
theorem Inv.sz (I : Inv X pins σ H s) : X.s₀.heap.objs.size ≤ s.heap.objs.size := Nat.le_trans I.ok.above (Nat.le_of_lt I.lt)
theorem Inv.nofs (I : Inv X pins σ H s) {a : Addr} (h : s.heap.objs.size ≤ a) : a ∉ X.fs := fun hb => by
  obtain ⟨_, o, ho, _⟩ := I.ok.funs.mem hb
  exact absurd (Nat.lt_of_lt_of_le (Heap.lt_size ho) (Nat.le_trans I.sz h)) (Nat.lt_irrefl _)
theorem Inv.cne (I : Inv X pins σ H s) : ∀ x c, X.env.cells.lookup x = some c → c ≠ X.env.locals := fun x c e z => by
  obtain ⟨v, o, ho, hd⟩ := I.cell x c e
  obtain ⟨m, ⟨o', es, ep, ho', hd', _⟩, _⟩ := I.loc
  rw [z, ho'] at ho; cases ho; rw [hd'] at hd; cases hd
theorem Inv.funs (I : Inv X pins σ H s) : s.heap.FunFrames X.base X.outer := by
  have all : ∀ (l : List Env), (∀ b ∈ frs l, b ∈ X.fs) → X.s₀.heap.FunFrames X.base l → s.heap.FunFrames X.base l := by
    intro l
    induction l with
    | nil => intro _ _; trivial
    | cons env r ih =>
      intro hs hl
      obtain ⟨hk, ⟨L, o, hf, hn, ho, hd⟩, hr⟩ := hl
      have hL : L ∈ X.fs := hs L (by unfold frs; rw [List.filterMap_cons, hf]; exact List.mem_cons_self)
      obtain ⟨sl, e⟩ := I.base.slot L o ho (I.ok.frf L hL) hL fun z => I.ok.exfs L z hL
      exact ⟨hk, ⟨L, _, hf, hn, e, hd⟩, ih (fun b hb => hs b (by unfold frs; rw [List.filterMap_cons, hf]; exact List.mem_cons_of_mem _ hb)) hr⟩
  exact all X.outer (fun _ hb => hb) I.ok.funs

theorem Inv.stack (I : Inv X pins σ H s) : s.heap.FunFrames X.base X.stack := by
  rcases I.ok.stk with e | ⟨e, hf⟩
  · rw [e]; exact I.funs
  · rw [e]
    obtain ⟨m, hn, _⟩ := I.loc
    refine .cons (by rw [I.ok.kind]; decide) hf hn ?_ I.funs
    exact Heap.get?_none_of_le (Nat.le_trans I.ok.bsz I.ok.above)
theorem Inv.stkSub (I : Inv X pins σ H s) : ∀ b ∈ frs X.stack, b ∈ X.env.locals :: X.fs := fun b hb => by
  rcases I.ok.stk with e | ⟨e, hf⟩
  · rw [e] at hb; exact List.mem_cons_of_mem _ hb
  · rw [e] at hb
    unfold frs at hb
    rw [List.filterMap_cons, hf] at hb
    exact hb
theorem Inv.stkFree (I : Inv X pins σ H s) : ∀ b ∈ frs X.stack, H b = none := fun b hb => by
  rcases List.mem_cons.mp (I.stkSub b hb) with e | hb
  · rw [e]; exact I.free
  · obtain ⟨_, o, ho, _⟩ := I.ok.funs.mem hb
    exact I.base.free b o ho (I.ok.frf b hb) fun z => I.ok.exfs b z hb

theorem Inv.step {g' : Array GenState} {t' : Nat} {d' : Drawn} {ch : List Addr} (I : Inv X pins σ H s)
    (hch : ∀ b ∈ ch, (b ∈ X.ex ∨ X.s₀.heap.objs.size ≤ b) ∧ b ≠ X.env.locals ∧ (∀ x c, X.env.cells.lookup x = some c → c ≠ b) ∧ ∀ p ∈ X.pn ++ pins, p.1 ≠ b)
    (keep : ∀ b o, b ≠ X.env.locals → b ∉ X.fs → b ∉ ch → s.heap.get? b = some o → H b = none → h'.get? b = some o)
    (slot : ∀ b o, b ≠ X.env.locals → b ∈ X.fs → b ∉ ch → s.heap.get? b = some o → H b = none → ∃ sl, h'.get? b = some { o with slots := sl }) (free : ∀ b o, b ∉ ch → s.heap.get? b = some o → H b = none → H' b = none)
    (there : ∀ b o, b ∉ ch → s.heap.get? b = some o → ∃ o', h'.get? b = some o')
    (tups : ∀ b xs, H b = some (.tup xs) → H' b = some (.tup xs)) (frzs : ∀ b o u, H b = some (.frz o u) → H' b = some (.frz o u)) (tbls : ∀ b ps, H b = some (.tbl ps) → ∃ more, H' b = some (.tbl (ps ++ more)))
    (ns : ∀ m, s.heap.Ns X.env.locals m → h'.Ns X.env.locals m) (hok : HOk X.prog X.w H' h') (hg : AllBare g') :
    Inv X pins σ H' { s with heap := h', gens := g', drawn := d', toks := t' } := by
  have neL : ∀ b o, X.s₀.heap.get? b = some o → b ≠ X.env.locals := fun b o e => Nat.ne_of_lt (Nat.lt_of_lt_of_le (Heap.lt_size e) I.ok.above)
  have neC : ∀ b o, X.s₀.heap.get? b = some o → b ∉ X.ex → b ∉ ch := fun b o e hx hb => by
    rcases (hch b hb).1 with z | z
    · exact hx z
    · exact absurd (Nat.lt_of_lt_of_le (Heap.lt_size e) z) (Nat.lt_irrefl _)
  have cellK : ∀ x c, X.env.cells.lookup x = some c → ∀ v, s.heap.IsCell c v → h'.IsCell c v := fun x c e v ⟨o, ho, hd⟩ => by
    have nch : c ∉ ch := fun z => (hch c z).2.2.1 x c e rfl
    by_cases hc : c ∈ X.fs
    · obtain ⟨sl, q⟩ := slot c o (I.cne x c e) hc nch ho (I.freeC x c e)
      exact ⟨_, q, hd⟩
    · exact ⟨o, keep c o (I.cne x c e) hc nch ho (I.freeC x c e), hd⟩
  refine ⟨I.ok, I.os, hg, ⟨fun b o e n hb hx => ?_, fun b o e n hb hx => ?_, fun b o e n hx => ?_, fun b o e hx => ?_, fun b xs e => tups b xs (I.base.tups b xs e), fun b o xs e => frzs b o xs (I.base.frzs b o xs e), fun b ps e => ?_⟩, ?_, fun x c e => ?_, ?_, fun x c e => ?_, fun p hp => ?_, hok, I.len⟩
  · exact keep b o (neL b o e) hb (neC b o e hx) (I.base.keep b o e n hb hx) (I.base.free b o e n hx)
  · obtain ⟨sl, e1⟩ := I.base.slot b o e n hb hx
    obtain ⟨sl', e2⟩ := slot b _ (neL b o e) hb (neC b o e hx) e1 (I.base.free b o e n hx)
    exact ⟨sl', e2⟩
  · obtain ⟨o', e1⟩ := I.base.there b o e hx
    exact free b o' (neC b o e hx) e1 (I.base.free b o e n hx)
  · obtain ⟨o', e1⟩ := I.base.there b o e hx
    exact there b o' (neC b o e hx) e1
  · obtain ⟨m1, e1⟩ := I.base.tbls b ps e
    obtain ⟨m2, e2⟩ := tbls b _ e1
    exact ⟨m1 ++ m2, by rw [e2, Array.append_assoc]⟩
  · obtain ⟨m, hn, hl⟩ := I.loc
    refine ⟨m, ns m hn, fun i x v e1 e2 e3 => ?_⟩
    obtain ⟨u, r, l⟩ := hl i x v e1 e2 e3
    refine ⟨u, r, ?_⟩
    rcases l with l | ⟨k, c, e, z⟩
    · exact .inl l
    · exact .inr ⟨k, c, e, cellK x c e _ z⟩
  · obtain ⟨v, z⟩ := I.cell x c e
    exact ⟨v, cellK x c e v z⟩
  · obtain ⟨m, ⟨o, _, _, ho, _⟩, _⟩ := I.loc
    exact free _ o (fun z => (hch _ z).2.1 rfl) ho I.free
  · obtain ⟨v, o, ho, hd⟩ := I.cell x c e
    exact free c o (fun z => (hch c z).2.2.1 x c e rfl) ho (I.freeC x c e)
  · obtain ⟨e, n, ne, nf, d⟩ := I.pin p hp
    have nch : p.1 ∉ ch := fun z => (hch p.1 z).2.2.2 p hp rfl
    exact ⟨keep p.1 p.2 ne nf nch e n, free p.1 p.2 nch e n, ne, nf, d⟩
theorem Inv.un {t' : Nat} (I : Inv X pins σ H s) (u : Un X.fs [] H H' s.heap h') (hok : HOk X.prog X.w H' h') : Inv X pins σ H' { s with heap := h', toks := t' } := by
  obtain ⟨m, ⟨o, es, ep, ho, r⟩, _⟩ := id I.loc
  obtain ⟨sl, hL⟩ := u.any ho I.free (by simp)
  exact I.step (g' := s.gens) (d' := s.drawn) (ch := []) (fun _ z => nomatch z) (fun b o _ hb _ e n => u.keep b o e n hb (by simp)) (fun b o _ hb _ e n => u.slot b o e n hb (by simp)) (fun b o _ e n => u.free b o e n (by simp)) (fun b o _ e => u.there b o e (by simp)) u.tups u.frzs u.tbls (fun m' hm => by
    obtain ⟨o', es', ep', ho', r'⟩ := hm
    rw [ho] at ho'; cases ho'
    exact ⟨_, es', ep', hL, r'⟩) hok I.bare
theorem Inv.call {g' : Array GenState} {t' : Nat} {d' : Drawn} {ch : List Addr} (I : Inv X pins σ H s) (u : Un (frs X.stack) ch H H' s.heap h') (hok : HOk X.prog X.w H' h') (hg : AllBare g')
    (hch : ∀ b ∈ ch, (b ∈ X.ex ∨ X.s₀.heap.objs.size ≤ b) ∧ b ≠ X.env.locals ∧ (∀ x c, X.env.cells.lookup x = some c → c ≠ b) ∧ ∀ p ∈ X.pn ++ pins, p.1 ≠ b) :
    Inv X pins σ H' { s with heap := h', gens := g', drawn := d', toks := t' } := by
  obtain ⟨m, ⟨o, es, ep, ho, r⟩, _⟩ := id I.loc
  obtain ⟨sl, hL⟩ := u.any ho I.free fun z => (hch _ z).2.1 rfl
  exact I.step (ch := ch) hch (fun b o hL hb hc e n => u.keep b o e n (fun z => (List.mem_cons.mp (I.stkSub b z)).elim hL hb) hc) (fun b o _ _ hc e n => u.any e n hc) (fun b o hc e n => u.free b o e n hc) (fun b o hc e => u.there b o e hc) u.tups u.frzs u.tbls (fun m' hm => by
    obtain ⟨o', es', ep', ho', r'⟩ := hm
    rw [ho] at ho'; cases ho'
    exact ⟨_, es', ep', hL, r'⟩) hok hg
theorem Inv.turned {t' : Nat} {it : Addr} (I : Inv X pins σ H s) (k : ∀ b o, b ≠ it → s.heap.get? b = some o → h'.get? b = some o) (hn : H it = none) (hL : it ≠ X.env.locals)
    (h1 : it ∈ X.ex ∨ X.s₀.heap.objs.size ≤ it) (h2 : ∀ x c, X.env.cells.lookup x = some c → c ≠ it) (h3 : ∀ p ∈ X.pn ++ pins, p.1 ≠ it) : Inv X pins σ H { s with heap := h', toks := t' } := by
  have nit : ∀ b u, H b = some u → b ≠ it := fun b u e z => by rw [z, hn] at e; cases e
  refine I.step (g' := s.gens) (d' := s.drawn) (ch := [it]) (fun b hb => ?_) (fun b o _ _ hc e _ => k b o (fun z => hc (by simp [z])) e) (fun b o _ _ hc e _ => ⟨o.slots, k b o (fun z => hc (by simp [z])) e⟩) (fun _ _ _ _ n => n)
    (fun b o hc e => ⟨o, k b o (fun z => hc (by simp [z])) e⟩) (fun _ _ e => e) (fun _ _ _ e => e) (fun b ps e => ⟨#[], by rw [e]; simp⟩) (fun m hm => ?_) (fun b u e => ?_) I.bare
  · have e : b = it := by simpa using hb
    subst e
    exact ⟨h1, hL, h2, h3⟩
  · obtain ⟨o, es, ep, ho, r⟩ := hm
    exact ⟨o, es, ep, k _ o (Ne.symm hL) ho, r⟩
  · refine (I.hok b u e).stay (fun c v hc q => k c v ?_ q) (fun _ q => q) fun _ _ q => q
    rcases hc with z | z
    · rw [z]; exact nit b u e
    · exact nit c _ z
theorem Inv.tok (I : Inv X pins σ H s) (t : Nat) : Inv X pins σ H { s with toks := t } := I.un (h' := s.heap) (t' := t) Un.refl I.hok
theorem Inv.kept {t' : Nat} (I : Inv X pins σ H s) (k : ∀ b u, s.heap.get? b = some u → h'.get? b = some u) : Inv X pins σ H { s with heap := h', toks := t' } := I.un (Un.kept k) (I.hok.kept k)
theorem Inv.laid {a : Addr} {o : HO} {t' : Nat} (I : Inv X pins σ H s) (k : ∀ b u, s.heap.get? b = some u → h'.get? b = some u) (hp : s.heap.objs.size ≤ a) (new : ObjOk X.prog X.w (upd H a o) h' a o) :
    Inv X pins σ (upd H a o) { s with heap := h', toks := t' } := I.un (Un.laid k hp (I.hok.fresh hp)) (I.hok.laid k hp new)
theorem Inv.write {x e : Addr} {o : HO} {t' : Nat} (I : Inv X pins σ H s) (mu : Mut (H x)) (he : e = x ∨ H e = some (.own x)) (k : ∀ b u, b ≠ e → s.heap.get? b = some u → h'.get? b = some u) (heo : ∃ u, h'.get? e = some u)
    (new : ObjOk X.prog X.w (upd H x o) h' x o) : Inv X pins σ (upd H x o) { s with heap := h', toks := t' } := I.un (Un.write mu he k heo) (I.hok.write mu he k heo new)
theorem Inv.weak {σ' : List (Option V)} (I : Inv X pins σ H s) (hl : σ'.length = σ.length) (w : ∀ (i : Nat) v, σ'[i]? = some (some v) → σ[i]? = some (some v)) : Inv X pins σ' H s :=
  ⟨I.ok, I.os, I.bare, I.base, let ⟨m, hn, hl'⟩ := I.loc; ⟨m, hn, fun i x v e1 e2 e3 => hl' i x v e1 (w i v e2) e3⟩, I.cell, I.free, I.freeC, I.pin, I.hok, hl.trans I.len⟩
theorem Inv.pins_of {pins' : List (Addr × Obj)} (I : Inv X pins σ H s) (h : ∀ p ∈ pins', s.heap.get? p.1 = some p.2 ∧ H p.1 = none ∧ p.1 ≠ X.env.locals ∧ p.1 ∉ X.fs ∧ ∀ v, p.2.data ≠ .cell v) : Inv X pins' σ H s :=
  ⟨I.ok, I.os, I.bare, I.base, I.loc, I.cell, I.free, I.freeC, fun p hp => (List.mem_append.mp hp).elim (fun z => I.pin p (List.mem_append_left _ z)) (h p), I.hok, I.len⟩

theorem nodup_ix {N : List Str} (hN : N.Nodup) {i j : Nat} {x : Str} (a : N[i]? = some x) (b : N[j]? = some x) : i = j := by
  obtain ⟨h1, e1⟩ := List.getElem?_eq_some_iff.mp a
  obtain ⟨h2, e2⟩ := List.getElem?_eq_some_iff.mp b
  exact (List.getElem_inj hN).mp (e1.trans e2.symm)

theorem store_ok2 {M : Model} {A : Around} {E : Value → Shared → Prop} {i : Nat} {x : Str} {v : V} {u : Value} {Q : Unit → Shared → Prop} (I : Inv X pins σ H s) (hN : X.N.Nodup) (hi : X.N[i]? = some x) (hx : Loc X.env.scope x) (r : RelV v u)
    (h : ∀ s', Inv X pins (σ.set i (some v)) H s' → (∃ a, Heap.SameBut a s.heap s'.heap ∧ (a = X.env.locals ∨ X.env.cells.lookup x = some a)) → Q () s') (hf : X.fn x = true ∨ X.env.scope.names.lookup x = some .local := by first | exact .inl rfl | exact .inr rfl | assumption) : wpAny M A (storeName X.env x u) Q E s := by
  obtain ⟨m, hn, hl⟩ := id I.loc
  have hcls : (X.env.scope.kind == .class || (X.env.scope.kind == .module && X.env.locals != X.env.globals)) = false := by rw [I.ok.kind]; rfl
  have hiσ : i < σ.length := by rw [I.len]; exact (List.getElem?_eq_some_iff.mp hi).1
  have cne := I.cne
  have tracked : ∀ {a : Addr} {h' : Heap}, (∃ o, s.heap.get? a = some o ∧ H a = none) → Heap.SameBut a s.heap h' → HOk X.prog X.w H h' := fun {a h'} ha hs b ob e => by
    obtain ⟨_, _, hfree⟩ := ha
    refine (I.hok b ob e).stay (fun c w' hc q => (hs.2 c ?_).trans q) (fun _ q => q) fun _ _ q => q
    rintro rfl
    rcases hc with rfl | hc
    · rw [hfree] at e; cases e
    · rw [hfree] at hc; cases hc
  rcases hx with hk | hk
  · refine wpAny_storeName_local hk hn (fun h' hn' hs => ?_) hcls
    obtain ⟨oL, _, _, hoL, _⟩ := id hn
    refine h _ ⟨I.ok, I.os, I.bare, ⟨fun b o e n hb hx => ?_, fun b o e n hb hx => ?_, I.base.free, fun b o e hx => ?_, I.base.tups, I.base.frzs, I.base.tbls⟩, ⟨_, hn', fun j y v' e1 e2 e3 => ?_⟩, fun y c e => ?_, I.free, I.freeC, fun p hp => ?_, tracked ⟨oL, hoL, I.free⟩ hs, by simpa using I.len⟩ ⟨_, hs, .inl rfl⟩
    · exact (hs.2 b (Nat.ne_of_lt (Nat.lt_of_lt_of_le (Heap.lt_size e) I.ok.above))).trans (I.base.keep b o e n hb hx)
    · obtain ⟨sl, e1⟩ := I.base.slot b o e n hb hx
      exact ⟨sl, (hs.2 b (Nat.ne_of_lt (Nat.lt_of_lt_of_le (Heap.lt_size e) I.ok.above))).trans e1⟩
    · obtain ⟨o', e1⟩ := I.base.there b o e hx
      exact ⟨o', (hs.2 b (Nat.ne_of_lt (Nat.lt_of_lt_of_le (Heap.lt_size e) I.ok.above))).trans e1⟩
    · by_cases hj : j = i
      · subst hj
        rw [hi] at e1; cases e1
        rw [List.getElem?_set_self hiσ] at e2
        cases e2
        exact ⟨u, r, .inl ⟨hk, by simp⟩⟩
      · rw [List.getElem?_set_ne (Ne.symm hj)] at e2
        obtain ⟨u', r', q⟩ := hl j y v' e1 e2 e3
        refine ⟨u', r', ?_⟩
        rcases q with ⟨k, e⟩ | ⟨k, c, e, z⟩
        · refine .inl ⟨k, ?_⟩
          have : y ≠ x := fun e => hj (nodup_ix hN e1 (e ▸ hi))
          simp [this, e]
        · exact .inr ⟨k, c, e, z.sameBut hs (cne y c e)⟩
    · obtain ⟨w', z⟩ := I.cell y c e
      exact ⟨w', z.sameBut hs (cne y c e)⟩
    · obtain ⟨e, n, ne, nf, d⟩ := I.pin p hp
      exact ⟨(hs.2 p.1 ne).trans e, n, ne, nf, d⟩
  · have hfn : X.fn x = true := by
      rcases hf with z | z
      · exact z
      · rw [z] at hk; cases hk
    obtain ⟨c, hc⟩ := I.ok.has x (.inl hk)
    obtain ⟨w', z⟩ := I.cell x c hc
    refine wpAny_storeName_cell I.ok.kind hk hc z (fun h' hc' hs => ?_)
    obtain ⟨oc, hoc, hocd⟩ := id z
    refine h { s with heap := h' } ⟨I.ok, I.os, I.bare, ⟨fun b o e n hb hx => ?_, fun b o e n hb hx => ?_, I.base.free, fun b o e hx => ?_, I.base.tups, I.base.frzs, I.base.tbls⟩, ⟨m, hn.sameBut hs (Ne.symm (cne x c hc)), fun j y v' e1 e2 e3 => ?_⟩, fun y c' e => ?_, I.free, I.freeC, fun p hp => ?_, tracked ⟨oc, hoc, I.freeC x c hc⟩ hs, by simpa using I.len⟩ ⟨c, hs, .inr hc⟩
    · exact (hs.2 b (Nat.ne_of_lt (Nat.lt_of_lt_of_le (Heap.lt_size e) (I.ok.cab x c hfn hc)))).trans (I.base.keep b o e n hb hx)
    · obtain ⟨sl, e1⟩ := I.base.slot b o e n hb hx
      exact ⟨sl, (hs.2 b (Nat.ne_of_lt (Nat.lt_of_lt_of_le (Heap.lt_size e) (I.ok.cab x c hfn hc)))).trans e1⟩
    · obtain ⟨o', e1⟩ := I.base.there b o e hx
      exact ⟨o', (hs.2 b (Nat.ne_of_lt (Nat.lt_of_lt_of_le (Heap.lt_size e) (I.ok.cab x c hfn hc)))).trans e1⟩
    · by_cases hj : j = i
      · subst hj
        rw [hi] at e1; cases e1
        rw [List.getElem?_set_self hiσ] at e2
        cases e2
        exact ⟨u, r, .inr ⟨.inl hk, c, hc, hc'⟩⟩
      · rw [List.getElem?_set_ne (Ne.symm hj)] at e2
        obtain ⟨u', r', q⟩ := hl j y v' e1 e2 e3
        refine ⟨u', r', ?_⟩
        rcases q with q | ⟨k, c', e, z'⟩
        · exact .inl q
        · refine .inr ⟨k, c', e, z'.sameBut hs ?_⟩
          rintro rfl
          exact hj (nodup_ix hN e1 (I.ok.inj _ _ _ e hc ▸ hi))
    · by_cases hcc : c' = c
      · subst hcc; exact ⟨_, hc'⟩
      · obtain ⟨w2, z2⟩ := I.cell y c' e
        exact ⟨w2, z2.sameBut hs hcc⟩
    · obtain ⟨e, n, ne, nf, d⟩ := I.pin p hp
      refine ⟨(hs.2 p.1 ?_).trans e, n, ne, nf, d⟩
      intro q
      rw [q, hoc] at e
      have q' : oc = p.2 := Option.some.inj e
      exact d w' (by rw [← q']; exact hocd)
theorem store_ok {M : Model} {A : Around} {E : Value → Shared → Prop} {i : Nat} {x : Str} {v : V} {u : Value} {Q : Unit → Shared → Prop} (I : Inv X pins σ H s) (hN : X.N.Nodup) (hi : X.N[i]? = some x) (hx : Loc X.env.scope x) (r : RelV v u)
    (h : ∀ s', Inv X pins (σ.set i (some v)) H s' → Q () s') (hf : X.fn x = true ∨ X.env.scope.names.lookup x = some .local := by first | exact .inl rfl | exact .inr rfl | assumption) : wpAny M A (storeName X.env x u) Q E s :=
  store_ok2 I hN hi hx r (fun s' I' _ => h s' I') hf
theorem Inv.call' {s' : Shared} {ch : List Addr} (I : Inv X pins σ H s) (ho : s'.os = s.os) (u : Un (frs X.stack) ch H H' s.heap s'.heap) (hok : HOk X.prog X.w H' s'.heap) (hg : AllBare s'.gens)
    (hch : ∀ b ∈ ch, (b ∈ X.ex ∨ X.s₀.heap.objs.size ≤ b) ∧ b ≠ X.env.locals ∧ (∀ x c, X.env.cells.lookup x = some c → c ≠ b) ∧ ∀ p ∈ X.pn ++ pins, p.1 ≠ b) : Inv X pins σ H' s' := by
  obtain ⟨h', g', d', t', o'⟩ := s'
  have e : o' = s.os := ho
  subst e
  exact I.call (g' := g') (t' := t') (d' := d') u hok hg hch
end

abbrev XK := Value → Option Addr → Hp → Prop
abbrev St := List (Option V)
abbrev VK := V → Hp → Prop
abbrev TE := St → Hp → VK → Prop
abbrev TT := St → Hp → (Bool → Hp → Prop) → Prop
abbrev TA := St → Hp → (List V → Hp → Prop) → Prop
structure Ends where
  nx : St → Hp → Prop
  rt : VK
  bk : St → Hp → Prop := fun _ _ => False
  ct : St → Hp → Prop := fun _ _ => False
abbrev TS := Ends → St → Hp → Prop

def EP (X : Cx) (pins : List (Addr × Obj)) (σ : St) (Q : VK) (u : Value) (s' : Shared) : Prop := ∃ v H', Inv X pins σ H' s' ∧ RelV v u ∧ Q v H'
def TP (X : Cx) (pins : List (Addr × Obj)) (σ : St) (Q : Bool → Hp → Prop) (b : Bool) (s' : Shared) : Prop := ∃ H', Inv X pins σ H' s' ∧ Q b H'
def AP (X : Cx) (pins : List (Addr × Obj)) (σ : St) (Q : List V → Hp → Prop) (us : List Value) (s' : Shared) : Prop := ∃ vs H', Inv X pins σ H' s' ∧ Vals vs us ∧ Q vs H'
def SP (X : Cx) (pins : List (Addr × Obj)) (D : Ends) (f : Flow) (s' : Shared) : Prop :=
  match f with
  | .next => ∃ σ' H', Inv X pins σ' H' s' ∧ D.nx σ' H'
  | .brk => ∃ σ' H', Inv X pins σ' H' s' ∧ D.bk σ' H'
  | .cont => ∃ σ' H', Inv X pins σ' H' s' ∧ D.ct σ' H'
  | .ret u => ∃ v σ' H', Inv X pins σ' H' s' ∧ RelV v u ∧ D.rt v H'

def PE (X : Cx) (e : Expr) (t : TE) : Prop :=
  ∀ (pins : List (Addr × Obj)) (s : Shared) (σ : St) (H : Hp) (Q : VK), Inv X pins σ H s → t σ H Q → wpAny (model X.prog X.w) X.A (eval e X.env) (EP X pins σ Q) X.xe s
def PT (X : Cx) (e : Expr) (t : TT) : Prop :=
  ∀ (pins : List (Addr × Obj)) (s : Shared) (σ : St) (H : Hp) (Q : Bool → Hp → Prop), Inv X pins σ H s → t σ H Q → wpAny (model X.prog X.w) X.A (isTrue e X.env (eval e X.env)) (TP X pins σ Q) X.xe s
def PW (X : Cx) (e : Expr) (t : TT) : Prop :=
  ∀ (whole : Sem Value) (pins : List (Addr × Obj)) (s : Shared) (σ : St) (H : Hp) (Q : Bool → Hp → Prop), Inv X pins σ H s → t σ H Q → wpAny (model X.prog X.w) X.A (isTrue e X.env whole) (TP X pins σ Q) X.xe s
theorem PW.pt {X : Cx} {e : Expr} {t : TT} (h : PW X e t) : PT X e t := h _
def PA (X : Cx) (es : List Expr) (t : TA) : Prop :=
  ∀ (pos : Pos) (pins : List (Addr × Obj)) (s : Shared) (σ : St) (H : Hp) (Q : List V → Hp → Prop), Inv X pins σ H s → t σ H Q → wpAny (model X.prog X.w) X.A (spliced (backTo pos (starEach es X.env))) (AP X pins σ Q) X.xe s
def PS (X : Cx) (st : Stmt) (t : TS) : Prop :=
  ∀ (pins : List (Addr × Obj)) (s : Shared) (σ : St) (H : Hp) (D : Ends), Inv X pins σ H s → t D σ H → wpAny (model X.prog X.w) X.A (exec st X.env) (SP X pins D) X.xe s
def PSs (X : Cx) (st : List Stmt) (t : TS) : Prop :=
  ∀ (pins : List (Addr × Obj)) (s : Shared) (σ : St) (H : Hp) (D : Ends), Inv X pins σ H s → t D σ H → wpAny (model X.prog X.w) X.A (execs st X.env) (SP X pins D) X.xe s
theorem thn {α : Type} {t : Sem α} {Q Q' : α → Shared → Prop} {M : Model} {A : Around} {E : Value → Shared → Prop} {s : Shared} (h : wpAny M A t Q E s) (hQ : ∀ a s, Q a s → Q' a s) : wpAny M A t Q' E s := wpAny_mono h hQ fun _ _ x => x
end L2

namespace L2
open PySem PySem.Spec PyProof.Rows
section
variable {X : Cx}

def tVar (i : Nat) : TE := fun σ H Q => ∃ v, σ[i]? = some (some v) ∧ Q v H
def tC (v : V) : TE := fun _ H Q => Q v H
theorem pe_var {i : Nat} {x : Str} {pos : Pos} (hN : X.N[i]? = some x) (hv : Vis X.env.scope x) (hd : (x == ("__debug__" : Str)) = false := by decide) (hcd : (x == ("__classdict__" : Str)) = false := by decide) : PE X (.Name x pos) (tVar i) := by
  intro pins s σ H Q I h
  obtain ⟨v, e, h⟩ := h
  obtain ⟨m, hn, hl⟩ := I.loc
  obtain ⟨u, r, l⟩ := hl i x v hN e hv
  have fin : EP X pins σ Q u s := ⟨v, H, I, r, h⟩
  rcases l with ⟨hk, hm⟩ | ⟨hk, c, hc, hcell⟩
  · exact wpAny_Name (wpAny_loadName_local I.ok.kind hk hn hm fin) hd
  · rcases hk with hk | hk
    · exact wpAny_Name (wpAny_loadName_cell I.ok.kind hk hc hcell fin) hd
    · exact wpAny_Name (wpAny_loadName_free I.ok.kind hk hc hcell fin hcd) hd
theorem pe_int {i j pos} : PE X (.Constant (.int i) j pos) (tC (.int i)) := fun _ _ _ H _ I h => wpAny_Constant_int ⟨.int i, H, I.tok _, ⟨_, rfl⟩, h⟩
theorem pe_bl {b j pos} : PE X (.Constant (.bool b) j pos) (tC (.bl b)) := fun _ _ _ H _ I h => Constant_bool ⟨.bl b, H, I, rfl, h⟩
theorem pe_non {j pos} : PE X (.Constant .none j pos) (tC .non) := fun _ _ _ H _ I h => Constant_none ⟨.non, H, I, rfl, h⟩
theorem pe_str {x j pos} : PE X (.Constant (.str x) j pos) (tC (.str x)) := fun _ _ _ H _ I h => Calls.Constant_str ⟨.str x, H, I.tok _, ⟨_, rfl⟩, h⟩

def Gl (X : Cx) (x : Str) : Prop := X.env.kindOf x = some .globalImplicit
theorem ld_glob {E : Value → Shared → Prop} {pins : List (Addr × Obj)} {s : Shared} {σ : St} {H : Hp} {x : Str} {u : Value} {pos : Pos} {Q : Value → Shared → Prop} (I : Inv X pins σ H s) (hg : Gl X x) (hm : X.mg x = some u) (h : Q u s)
    (hd : (x == ("__debug__" : Str)) = false := by decide) : wpAny (model X.prog X.w) X.A (eval (.Name x pos) X.env) Q E s :=
  Calls.Name_function_global I.ok.kind hg (Calls.loadGlobal_global (by rw [I.ok.glob]; exact I.mod.glob.keeps I.bk) hm h) hd
theorem ld_blt {E : Value → Shared → Prop} {pins : List (Addr × Obj)} {s : Shared} {σ : St} {H : Hp} {x : Str} {u : Value} {pos : Pos} {Q : Value → Shared → Prop} (I : Inv X pins σ H s) (hg : Gl X x) (hm : X.mg x = none) (hv : bootBuiltins x = some u) (h : Q u s)
    (hn : x ≠ "__name__" := by decide) (hd : (x == ("__debug__" : Str)) = false := by decide) : wpAny (model X.prog X.w) X.A (eval (.Name x pos) X.env) Q E s := by
  obtain ⟨mb, h1, h2⟩ := I.mod.blt
  exact Calls.Name_function_global I.ok.kind hg (Calls.loadGlobal_builtin (by rw [I.ok.glob]; exact I.mod.glob.keeps I.bk) hm (by rw [I.ok.blt]; exact h1.keeps I.bk) ((h2 x hn).trans hv) h) hd
theorem pe_glob {x : Str} {v : V} {u : Value} {pos : Pos} (hg : Gl X x) (hm : X.mg x = some u) (r : RelV v u) (hd : (x == ("__debug__" : Str)) = false := by decide) : PE X (.Name x pos) (tC v) :=
  fun _ _ _ H _ I h => ld_glob I hg hm ⟨v, H, I, r, h⟩ hd
theorem pe_bltn {x : Str} {v : V} {u : Value} {pos : Pos} (hg : Gl X x) (hm : X.mg x = none) (hv : bootBuiltins x = some u) (r : RelV v u) (hn : x ≠ "__name__" := by decide) (hd : (x == ("__debug__" : Str)) = false := by decide) : PE X (.Name x pos) (tC v) :=
  fun _ _ _ H _ I h => ld_blt I hg hm hv ⟨v, H, I, r, h⟩ hn hd

variable {a b : Expr} {ta tb : TE} {pos : Pos}
def PC (X : Cx) (op : CmpOp) (a b : Expr) (t : TE) : Prop :=
  ∀ (pins : List (Addr × Obj)) (s : Shared) (σ : St) (H : Hp) (Q : VK), Inv X pins σ H s → t σ H Q →
    wpAny (model X.prog X.w) X.A (eval a X.env) (fun v s₁ => wpAny (model X.prog X.w) X.A (eval b X.env) (fun u s₂ => wpAny (model X.prog X.w) X.A (compareOp op v u) (EP X pins σ Q) X.xe s₂) X.xe s₁) X.xe s
theorem nobehind (b : Expr) {op : CmpOp} (h : op ≠ .In) (h2 : op ≠ .NotIn) : behindInMarks op b = false := by
  have e1 : (op == CmpOp.In) = false := by cases op <;> first | rfl | exact absurd rfl h
  have e2 : (op == CmpOp.NotIn) = false := by cases op <;> first | rfl | exact absurd rfl h2
  cases b <;> simp [behindInMarks, e1, e2]
def tIsN (ta : TE) : TE := fun σ H Q => ta σ H fun x H1 => Q (.bl (decide (x = .non))) H1
def tNotN (ta : TE) : TE := fun σ H Q => ta σ H fun x H1 => Q (.bl (!decide (x = .non))) H1
theorem RelV.none_iff {x : V} {v : Value} (r : RelV x v) : (v == Value.none) = decide (x = .non) := by
  cases x with
  | non => cases r; rfl
  | bl _ => cases r; rfl
  | int _ => obtain ⟨t, rfl⟩ := r; rfl
  | str _ => obtain ⟨t, rfl⟩ := r; rfl
  | byt _ => obtain ⟨t, rfl⟩ := r; rfl
  | flt _ => obtain ⟨t, rfl⟩ := r; rfl
  | ref _ => cases r; rfl
  | ty _ => cases r; rfl
theorem pc_isN {j pos'} (ha : PE X a ta) : PC X .Is a (.Constant .none j pos') (tIsN ta) := by
  intro pins s σ H Q I h
  refine thn (ha pins s σ H _ I h) fun v s1 ⟨x, H1, I1, r1, q1⟩ => ?_
  exact Constant_none (is_none_gen ⟨.bl _, H1, I1, by rw [r1.none_iff]; rfl, q1⟩)
theorem pc_notN {j pos'} (ha : PE X a ta) : PC X .IsNot a (.Constant .none j pos') (tNotN ta) := by
  intro pins s σ H Q I h
  refine thn (ha pins s σ H _ I h) fun v s1 ⟨x, H1, I1, r1, q1⟩ => ?_
  exact Constant_none (isnot_none_gen ⟨.bl _, H1, I1, by rw [r1.none_iff]; rfl, q1⟩)
def tB (t : TE) : TT := fun σ H Q => t σ H fun x H1 => ∃ c, x = .bl c ∧ Q c H1
theorem pt_cmp {op : CmpOp} {t : TE} (h : PC X op a b t) (h1 : behindInMarks op b = false := by first | exact nobehind _ (by decide) (by decide) | rfl) : PT X (.Compare a [op] [b] pos) (tB t) := by
  intro pins s σ H Q I hw
  refine wpAny_isTrue_Compare1 (thn (h pins s σ H _ I hw) fun v s1 h1 => thn h1 fun u s2 h2 => thn h2 fun c s3 ⟨x, H1, I1, r1, q1⟩ => ?_) h1
  obtain ⟨d, rfl, q⟩ := q1
  cases r1
  exact wpAny_truthy_bool ⟨H1, I1, q⟩
theorem pt_val {e : Expr} {t : TE} (h : PE X e t) (he : ∀ whole, isTrue e X.env whole = (do let v ← whole; standAt e.pos; holding [v] (truthy v)) := by intro _; rfl) : PT X e (tB t) := by
  intro pins s σ H Q I hw
  refine isTrue_plain (thn (h pins s σ H _ I hw) fun v s1 ⟨x, H1, I1, r1, q1⟩ => ?_) (he _)
  obtain ⟨d, rfl, q⟩ := q1
  cases r1
  exact wpAny_truthy_bool ⟨H1, I1, q⟩

variable {tA tB' : TT} {rest : List Expr}
def tAnd (t u : TT) : TT := fun σ H Q => t σ H fun c H1 => if c = true then u σ H1 Q else Q false H1
def tOr (t u : TT) : TT := fun σ H Q => t σ H fun c H1 => if c = true then Q true H1 else u σ H1 Q
def tNot (t : TT) : TT := fun σ H Q => t σ H fun c H1 => Q (!c) H1
theorem pw_and1 (ha : PT X a tA) : PW X (.BoolOp .And [a] pos) tA := by
  intro wh pins s σ H Q I h
  refine isTrue_and (thn (ha pins s σ H Q I h) fun c s1 e => ?_)
  cases c with
  | true => exact isTrue_and_nil e
  | false => exact e
theorem pw_or1 (ha : PT X a tA) : PW X (.BoolOp .Or [a] pos) tA := by
  intro wh pins s σ H Q I h
  refine isTrue_or (thn (ha pins s σ H Q I h) fun c s1 e => ?_)
  cases c with
  | false => exact isTrue_or_nil e
  | true => exact e
theorem pw_and (ha : PT X a tA) (hb : PW X (.BoolOp .And (b :: rest) pos) tB') : PW X (.BoolOp .And (a :: b :: rest) pos) (tAnd tA tB') := by
  intro wh pins s σ H Q I h
  refine isTrue_and (thn (ha pins s σ H _ I h) fun c s1 ⟨H1, I1, q1⟩ => ?_)
  cases c with
  | true => exact hb wh pins s1 σ H1 Q I1 q1
  | false => exact ⟨H1, I1, q1⟩
theorem pw_or (ha : PT X a tA) (hb : PW X (.BoolOp .Or (b :: rest) pos) tB') : PW X (.BoolOp .Or (a :: b :: rest) pos) (tOr tA tB') := by
  intro wh pins s σ H Q I h
  refine isTrue_or (thn (ha pins s σ H _ I h) fun c s1 ⟨H1, I1, q1⟩ => ?_)
  cases c with
  | true => exact ⟨H1, I1, q1⟩
  | false => exact hb wh pins s1 σ H1 Q I1 q1
theorem pt_not (ha : PT X a tA) : PT X (.UnaryOp .Not a pos) (tNot tA) := by
  intro pins s σ H Q I h
  exact isTrue_not (ha pins s σ H (fun c H1 => Q (!c) H1) I h)
def tAndV (ta tb : TE) : TE := fun σ H Q => ta σ H fun x H1 => ∃ c, x = .bl c ∧ if c = true then tb σ H1 Q else Q (.bl false) H1
def tOrV (ta tb : TE) : TE := fun σ H Q => ta σ H fun x H1 => ∃ c, x = .bl c ∧ if c = true then Q (.bl true) H1 else tb σ H1 Q
def tNotV (ta : TE) : TE := fun σ H Q => ta σ H fun x H1 => ∃ c, x = .bl c ∧ Q (.bl (!c)) H1
theorem pe_one {op} {t : TE} (h : PE X a t) : PE X (.BoolOp op [a] pos) t := fun pins s σ H Q I hw => BoolOp_one (h pins s σ H Q I hw)
theorem pe_and (ha : PE X a ta) (hb : PE X (.BoolOp .And (b :: rest) pos) tb) : PE X (.BoolOp .And (a :: b :: rest) pos) (tAndV ta tb) := by
  intro pins s σ H Q I h
  refine BoolOp_and (thn (ha pins s σ H _ I h) fun v s1 ⟨x, H1, I1, r1, q1⟩ => ?_)
  obtain ⟨c, rfl, q1⟩ := q1
  cases r1
  refine wpAny_truthy_bool ?_
  cases c with
  | true => exact hb pins s1 σ H1 Q I1 q1
  | false => exact ⟨.bl false, H1, I1, rfl, q1⟩
theorem pe_or (ha : PE X a ta) (hb : PE X (.BoolOp .Or (b :: rest) pos) tb) : PE X (.BoolOp .Or (a :: b :: rest) pos) (tOrV ta tb) := by
  intro pins s σ H Q I h
  refine BoolOp_or (thn (ha pins s σ H _ I h) fun v s1 ⟨x, H1, I1, r1, q1⟩ => ?_)
  obtain ⟨c, rfl, q1⟩ := q1
  cases r1
  refine wpAny_truthy_bool ?_
  cases c with
  | false => exact hb pins s1 σ H1 Q I1 q1
  | true => exact ⟨.bl true, H1, I1, rfl, q1⟩
theorem pe_not (ha : PE X a ta) : PE X (.UnaryOp .Not a pos) (tNotV ta) := by
  intro pins s σ H Q I h
  refine UnaryOp_ (thn (ha pins s σ H _ I h) fun v s1 ⟨x, H1, I1, r1, q1⟩ => ?_)
  obtain ⟨c, rfl, q1⟩ := q1
  cases r1
  exact not_of (wpAny_truthy_bool ⟨.bl (!c), H1, I1, rfl, q1⟩)
def tIf (t : TT) (ta tb : TE) : TE := fun σ H Q => t σ H fun c H1 => if c = true then ta σ H1 Q else tb σ H1 Q
theorem pe_ifExp {c : Expr} (hc : PT X c tA) (ha : PE X a ta) (hb : PE X b tb) : PE X (.IfExp c a b pos) (tIf tA ta tb) := by
  intro pins s σ H Q I h
  refine wpAny_IfExp (thn (hc pins s σ H _ I h) fun d s1 ⟨H1, I1, q1⟩ => ?_)
  cases d with
  | true => exact ha pins s1 σ H1 Q I1 q1
  | false => exact hb pins s1 σ H1 Q I1 q1
end
end L2

namespace L2
open PySem PySem.Spec PyProof.Rows

def SqL (K : PySem.W.Frag) (H : Hp) (a : Addr) (xs : List V) : Prop :=
  Rd H a (.lst xs) ∨
    ∃ (o : Obj) (its : Array Value) (n : Nat), K.lookup a = some o ∧ o.cls = .type "list" ∧ o.dict = none ∧ o.data = .seq its n ∧ its.size ≤ sizeLine ∧ Vals xs its.toList
def SqT (K : PySem.W.Frag) (H : Hp) (a : Addr) (xs : List V) : Prop :=
  Rd H a (.tup xs) ∨
    ∃ (o : Obj) (its : Array Value) (n : Nat), K.lookup a = some o ∧ o.cls = .type "tuple" ∧ o.data = .seq its n ∧ its.size ≤ sizeLine ∧ Vals xs its.toList
def absV : Value → Option V
  | .none => some .non
  | .bool b => some (.bl b)
  | .int i _ => some (.int i)
  | .str x _ => some (.str x)
  | .bytes b _ => some (.byt b)
  | .float b _ => some (.flt b)
  | .ref a => some (.ref a)
  | .type n => some (.ty n)
  | _ => none
theorem RelV.abs {x : V} {u : Value} (r : RelV x u) : absV u = some x := by
  cases x with
  | non => cases r; rfl
  | bl _ => cases r; rfl
  | int _ => obtain ⟨t, rfl⟩ := r; rfl
  | str _ => obtain ⟨t, rfl⟩ := r; rfl
  | byt _ => obtain ⟨t, rfl⟩ := r; rfl
  | flt _ => obtain ⟨t, rfl⟩ := r; rfl
  | ref _ => cases r; rfl
  | ty _ => cases r; rfl
theorem RelV.inj {x y : V} {u : Value} (r : RelV x u) (q : RelV y u) : x = y := Option.some.inj (r.abs.symm.trans q.abs)
theorem Vals.inj : ∀ {xs ys : List V} {us : List Value}, Vals xs us → Vals ys us → xs = ys
  | _, _, _, .nil, .nil => rfl
  | _, _, _, .cons r t, .cons r' t' => by rw [r.inj r', Vals.inj t t']
section
variable {X : Cx} {pins : List (Addr × Obj)} {σ : St} {H : Hp} {s : Shared} {a : Addr} {xs ys : List V}
theorem SqL.of {K : PySem.W.Frag} (h : H a = some (.lst xs)) : SqL K H a xs := .inl (.inl h)
theorem SqT.of {K : PySem.W.Frag} (h : H a = some (.tup xs)) : SqT K H a xs := .inl (.inl h)
theorem Inv.list (I : Inv X pins σ H s) (h : SqL X.K H a xs) : ∃ its : List Value, Vals xs its ∧ PlainL s.heap a its.toArray ∧ xs.length ≤ sizeLine := by
  rcases h with h | ⟨o, its, n, hk, hc, hd, hs, hz, r⟩
  · obtain ⟨z, its, n, r, e⟩ := h.ok I.hok
    exact ⟨its, r, ⟨_, n, e, rfl, rfl, rfl⟩, z⟩
  · refine ⟨its.toList, r, ⟨o, n, I.kIn a o hk, hc, hd, by simpa using hs⟩, ?_⟩
    have e := r.length
    simp only [Array.length_toList] at e
    omega
theorem Inv.tuple (I : Inv X pins σ H s) (h : SqT X.K H a xs) : ∃ its : List Value, Vals xs its ∧ IsTup s.heap a its.toArray ∧ xs.length ≤ sizeLine := by
  rcases h with h | ⟨o, its, n, hk, hc, hs, hz, r⟩
  · obtain ⟨z, its, r, p⟩ := h.ok I.hok
    exact ⟨its, r, p, z⟩
  · refine ⟨its.toList, r, ⟨o, I.kIn a o hk, hc, n, by simpa using hs⟩, ?_⟩
    have e := r.length
    simp only [Array.length_toList] at e
    omega
theorem Inv.list_inj (I : Inv X pins σ H s) (h : SqL X.K H a xs) (h' : SqL X.K H a ys) : xs = ys := by
  obtain ⟨its, r, ⟨o, n, e, _, _, d⟩, _⟩ := I.list h
  obtain ⟨its', r', ⟨o', n', e', _, _, d'⟩, _⟩ := I.list h'
  rw [e] at e'; cases e'
  rw [d] at d'
  injection d' with d1 _
  have : its = its' := by simpa using congrArg Array.toList d1
  subst this
  exact r.inj r'
end

abbrev Cx.wish (X : Cx) (E : Value → Shared → Prop) : Cx := { X with xe := E }
abbrev Cx.nox (X : Cx) : Cx := X.wish fun _ _ => False
theorem Cx.Ok.wish {X : Cx} (ok : X.Ok) (E : Value → Shared → Prop) : (X.wish E).Ok :=
  ⟨ok.mod, ok.kind, ok.glob, ok.blt, ok.above, ok.inj, ok.has, ok.cab, ok.hd, ok.frames, ok.stk, ok.exf, ok.bs, ok.bsz, ok.noex, ok.exfs, ok.funs, ok.frf⟩
theorem Cx.Ok.unwish {X : Cx} {E : Value → Shared → Prop} (ok : (X.wish E).Ok) : X.Ok :=
  ⟨ok.mod, ok.kind, ok.glob, ok.blt, ok.above, ok.inj, ok.has, ok.cab, ok.hd, ok.frames, ok.stk, ok.exf, ok.bs, ok.bsz, ok.noex, ok.exfs, ok.funs, ok.frf⟩
section
variable {X : Cx} {pins : List (Addr × Obj)} {σ : St} {H : Hp} {s : Shared} {E : Value → Shared → Prop}
theorem Inv.wish (I : Inv X pins σ H s) (E : Value → Shared → Prop) : Inv (X.wish E) pins σ H s := ⟨I.ok.wish E, I.os, I.bare, I.base, I.loc, I.cell, I.free, I.freeC, I.pin, I.hok, I.len⟩
theorem Inv.unwish (I : Inv (X.wish E) pins σ H s) : Inv X pins σ H s := ⟨I.ok.unwish, I.os, I.bare, I.base, I.loc, I.cell, I.free, I.freeC, I.pin, I.hok, I.len⟩
theorem SP.unwish {D : Ends} {f : Flow} {s' : Shared} (h : SP (X.wish E) pins D f s') : SP X pins D f s' := by
  cases f with
  | next => obtain ⟨σ', H', I, q⟩ := h; exact ⟨σ', H', I.unwish, q⟩
  | brk => obtain ⟨σ', H', I, q⟩ := h; exact ⟨σ', H', I.unwish, q⟩
  | cont => obtain ⟨σ', H', I, q⟩ := h; exact ⟨σ', H', I.unwish, q⟩
  | ret u => obtain ⟨v, σ', H', I, r, q⟩ := h; exact ⟨v, σ', H', I.unwish, r, q⟩
theorem PSs.nox {st : List Stmt} {t : TS} (h : PSs X.nox st t) : PSs X st t := fun pins s σ H D I hw =>
  wpAny_mono (h pins s σ H D (I.wish _) hw) (fun _ _ q => q.unwish) fun _ _ z => False.elim z
end

section
variable {X : Cx} {st : Stmt} {rest : List Stmt} {t u : TS} {e : Expr} {te : TE} {pos : Pos}
def tNext : TS := fun D σ H => D.nx σ H
def tSeq (t u : TS) : TS := fun D σ H => t { D with nx := u D } σ H
theorem pss_nil : PSs X [] tNext := fun _ _ σ H _ I h => wpAny_execs_nil ⟨σ, H, I, h⟩
theorem pss_cons (h1 : PS X st t) (h2 : PSs X rest u) : PSs X (st :: rest) (tSeq t u) := by
  intro pins s σ H D I h
  refine wpAny_execs_cons (thn (h1 pins s σ H { D with nx := u D } I h) fun f s1 q => ?_)
  cases f with
  | next =>
    obtain ⟨σ', H', I', q⟩ := q
    exact h2 pins s1 σ' H' D I' q
  | ret v => exact q
  | brk => exact q
  | cont => exact q
theorem pss_one (h1 : PS X st t) : PSs X [st] t := by
  intro pins s σ H D I h
  refine wpAny_execs_cons (thn (h1 pins s σ H D I h) fun f s1 q => ?_)
  cases f with
  | next => exact wpAny_execs_nil q
  | ret v => exact q
  | brk => exact q
  | cont => exact q
theorem Inv.quiet {pins : List (Addr × Obj)} {σ : St} {H : Hp} {s : Shared} (I : Inv X pins σ H s) : interactive X.env = false := by simp [interactive, I.ok.kind]
def tDrop (te : TE) : TS := fun D σ H => te σ H fun _ H1 => D.nx σ H1
theorem ps_expr (he : PE X e te) (hs : swapsWith e none pos.line X.env = pure false := by rfl) : PS X (.Expr e pos) (tDrop te) := by
  intro pins s σ H D I h
  exact wpAny_Expr_any (thn (he pins s σ H _ I h) fun v s1 ⟨x, H1, I1, r1, q1⟩ => ⟨σ, H1, I1, q1⟩) I.quiet hs
def tRet (te : TE) : TS := fun D σ H => te σ H D.rt
theorem ps_ret (he : PE X e te) : PS X (.Return (some e) pos) (tRet te) := by
  intro pins s σ H D I h
  exact wpAny_Return_some (thn (he pins s σ H _ I h) fun v s1 ⟨x, H1, I1, r1, q1⟩ => ⟨x, σ, H1, I1, r1, q1⟩)
def tIfS (c : TT) (t u : TS) : TS := fun D σ H => c σ H fun b H1 => if b = true then t D σ H1 else u D σ H1
theorem ps_if {c : Expr} {a b : List Stmt} {tc : TT} (hc : PT X c tc) (ha : PSs X a t) (hb : PSs X b u) : PS X (.If c a b pos) (tIfS tc t u) := by
  intro pins s σ H D I h
  refine wpAny_If (thn (hc pins s σ H _ I h) fun d s1 ⟨H1, I1, q1⟩ => ?_)
  cases d with
  | true => exact ha pins s1 σ H1 D I1 q1
  | false => exact hb pins s1 σ H1 D I1 q1
def tNever : TS := fun _ _ _ => False
theorem ps_never : PS X st tNever := fun _ _ _ _ _ _ h => h.elim
end

abbrev TG := V → St → Hp → (St → Hp → Prop) → Prop
abbrev TGs := List V → St → Hp → (St → Hp → Prop) → Prop
def PG (X : Cx) (target : Expr) (t : TG) : Prop :=
  ∀ (pins : List (Addr × Obj)) (s : Shared) (σ : St) (H : Hp) (v : V) (u : Value) (Q : St → Hp → Prop), Inv X pins σ H s → RelV v u → t v σ H Q →
    wpAny (model X.prog X.w) X.A (assign target X.env u) (fun _ s' => ∃ σ' H', Inv X pins σ' H' s' ∧ Q σ' H') X.xe s
abbrev TSet := V → V → V → Hp → (Hp → Prop) → Prop
abbrev TIp := V → V → Hp → VK → Prop
section
variable {X : Cx} {pos : Pos}
def gName (i : Nat) : TG := fun v σ H Q => Q (σ.set i (some v)) H
theorem pg_name {i : Nat} {x : Str} (hN : X.N.Nodup) (hi : X.N[i]? = some x) (hx : Loc X.env.scope x) (hf : X.fn x = true ∨ X.env.scope.names.lookup x = some .local := by first | exact .inl rfl | exact .inr rfl | assumption) : PG X (.Name x pos) (gName i) := by
  intro pins s σ H v u Q I r h
  exact wpAny_assign_Name (store_ok I hN hi hx r (fun s' I' => ⟨_, H, I', h⟩) hf)
def tAsg (te : TE) (g : TG) : TS := fun D σ H => te σ H fun x H1 => g x σ H1 D.nx
theorem ps_set {i : Nat} {x : Str} {e : Expr} {te : TE} {pos' : Pos} (hN : X.N.Nodup) (hi : X.N[i]? = some x) (hx : Loc X.env.scope x) (he : PE X e te) (hs : swapsWith e (some (.Name x pos')) pos.line X.env = pure false := by rfl) (hf : X.fn x = true ∨ X.env.scope.names.lookup x = some .local := by first | exact .inl rfl | exact .inr rfl | assumption) :
    PS X (.Assign [.Name x pos'] e pos) (tAsg te (gName i)) := by
  intro pins s σ H D I h
  refine wpAny_Assign_Name (thn (he pins s σ H _ I h) fun v s1 ⟨y, H1, I1, r1, q1⟩ => ?_) hs
  exact store_ok I1 hN hi hx r1 (fun s2 I2 => ⟨_, H1, I2, q1⟩) hf
end

section
variable {X : Cx} {pos : Pos}
def tWhile (c : TT) (tb : TS) : TS := fun D σ H => ∃ W : Nat → St → Hp → Prop, (∃ m, W m σ H) ∧ ∀ m σ H, W m σ H →
  c σ H fun b H1 => if b = true then ∃ N : St → Hp → Prop, (∀ σ' H', N σ' H' → ∃ m', m' < m ∧ W m' σ' H') ∧ tb { D with nx := N, ct := N, bk := D.nx } σ H1 else D.nx σ H1
theorem ps_while {c : Expr} {body : List Stmt} {tc : TT} {tb : TS} (hp : PassesOwn (model X.prog X.w) X.A X.env X.xe) (hc : PT X c tc) (hb : PSs X body tb) : PS X (.While c body [] pos) (tWhile tc tb) := by
  intro pins s σ H D I h
  obtain ⟨W, ⟨m0, w0⟩, turn⟩ := h
  refine wpAny_While (codeAny_whileLoop (fun n s' => ∃ σ' H', Inv X pins σ' H' s' ∧ W n σ' H') ?_ m0 ⟨σ, H, I, w0⟩)
  rintro n s1 ⟨σ1, H1, I1, w1⟩
  refine wpAny_passesOwn hp (thn (hc pins s1 σ1 H1 _ I1 (turn n σ1 H1 w1)) fun b s2 ⟨H2, I2, q2⟩ => ?_)
  cases b with
  | true =>
    obtain ⟨N, hN, q2⟩ := q2
    rw [if_pos rfl]
    refine wpAny_passesOwn hp (thn (hb pins s2 σ1 H2 _ I2 q2) fun f s3 q3 => ?_)
    cases f with
    | next =>
      obtain ⟨σ3, H3, I3, n3⟩ := q3
      obtain ⟨m', hm, w3⟩ := hN σ3 H3 n3
      exact ⟨m', hm, σ3, H3, I3, w3⟩
    | cont =>
      obtain ⟨σ3, H3, I3, n3⟩ := q3
      obtain ⟨m', hm, w3⟩ := hN σ3 H3 n3
      exact ⟨m', hm, σ3, H3, I3, w3⟩
    | brk => exact q3
    | ret v => exact q3
  | false =>
    rw [if_neg Bool.false_ne_true]
    exact wpAny_execs_nil ⟨σ1, H2, I2, q2⟩
end

structure It where
  go : Nat → Hp → Prop
  yld : Nat → Hp → V → Hp → Prop
  stop : Nat → Hp → Prop
def FpOk (X : Cx) (pins : List (Addr × Obj)) (H : Hp) (b : Addr) : Prop :=
  H b = none ∧ b ≠ X.env.locals ∧ b ∉ X.fs ∧ (b ∈ X.ex ∨ X.s₀.heap.objs.size ≤ b) ∧ (∀ x c, X.env.cells.lookup x = some c → c ≠ b) ∧ ∀ p ∈ X.pn ++ pins, p.1 ≠ b
theorem Inv.fpOk {X : Cx} {pins : List (Addr × Obj)} {σ : St} {H H' : Hp} {s : Shared} {b : Addr} (I : Inv X pins σ H s) (hb : s.heap.objs.size ≤ b) (hn : H' b = none) : FpOk X pins H' b := by
  refine ⟨hn, Nat.ne_of_gt (Nat.lt_of_lt_of_le I.lt hb), I.nofs hb, .inr (Nat.le_trans I.sz hb), fun x c e z => ?_, fun p hp z => ?_⟩
  · obtain ⟨v, q⟩ := I.cell x c e
    exact absurd (Nat.lt_of_lt_of_le q.lt (by rw [z]; exact hb)) (Nat.lt_irrefl _)
  · exact absurd (Nat.lt_of_lt_of_le (Heap.lt_size (I.pin p hp).1) (by rw [z]; exact hb)) (Nat.lt_irrefl _)
structure Turn (P : Program) (w : World) (K : PySem.W.Frag) (tg : Expr) (J : It) (fp : List Addr) (it : Addr) (tn : Nat → Heap → Prop) : Prop where
  mem : it ∈ fp
  obj : ∀ i h, tn i h → ∀ b ∈ fp, ∃ o, h.get? b = some o ∧ ∀ v, o.data ≠ .cell v
  keep : ∀ i h h', tn i h → (∀ b ∈ fp, ∀ o, h.get? b = some o → h'.get? b = some o) → tn i h'
  item : ∀ (X : Cx), X.prog = P → X.w = w → X.K = K → X.calm = true → ∀ (i : Nat) (pins : List (Addr × Obj)) (s : Shared) (σ : St) (H : Hp) (E : Value → Shared → Prop), Inv X pins σ H s → (∀ b ∈ fp, FpOk X pins H b) → tn i s.heap → J.go i H →
    wpAny (model P w) X.A (pyNext (.ref it)) (fun r s1 => ∃ u, r = some u ∧
      wpAny (model P w) X.A (letOwnedTupleGo tg (.ref it) u) (fun _ s2 => ∃ x H', Inv X pins σ H' s2 ∧ RelV x u ∧ J.yld i H x H' ∧ tn (i + 1) s2.heap ∧ ∀ b ∈ fp, H' b = none) E s1) E s
  done : ∀ (X : Cx), X.prog = P → X.w = w → X.K = K → X.calm = true → ∀ (i : Nat) (pins : List (Addr × Obj)) (s : Shared) (σ : St) (H : Hp) (E : Value → Shared → Prop), Inv X pins σ H s → (∀ b ∈ fp, FpOk X pins H b) → tn i s.heap → J.stop i H →
    wpAny (model P w) X.A (pyNext (.ref it)) (fun r s1 => r = none ∧ Inv X pins σ H s1) E s
  self : ∀ (A : Around) (i : Nat) (s : Shared) (Q : Value → Shared → Prop) (E : Value → Shared → Prop), tn i s.heap → Q (.ref it) s → wpAny (model P w) A (pyIter (.ref it)) Q E s
abbrev TI := St → Hp → (It → Hp → Prop) → Prop
def PIE (X : Cx) (pins : List (Addr × Obj)) (σ : St) (tg : Expr) (R : It → Hp → Prop) (itv : Value) (s2 : Shared) : Prop :=
  ∃ (it : Addr) (fp : List Addr) (tn : Nat → Heap → Prop) (J : It) (H' : Hp), itv = .ref it ∧ Inv X pins σ H' s2 ∧ Turn X.prog X.w X.K tg J fp it tn ∧ tn 0 s2.heap ∧ (∀ b ∈ fp, FpOk X pins H' b) ∧ R J H'
def PI (X : Cx) (tg iter : Expr) (wi : TI) : Prop :=
  ∀ (pins : List (Addr × Obj)) (s : Shared) (σ : St) (H : Hp) (R : It → Hp → Prop), Inv X pins σ H s → wi σ H R →
    wpAny (model X.prog X.w) X.A (eval iter X.env) (fun v s1 => wpAny (model X.prog X.w) X.A (pyIter v) (PIE X pins σ tg R) X.xe s1) X.xe s

theorem go_of {M : Model} {A : Around} {E : Value → Shared → Prop} {s : Shared} {tg : Expr} {it : Addr} {u : Value} {o : Obj} {n : String} {vs : Array Value} {Q : Unit → Shared → Prop} (ho : s.heap.get? it = some o) (hc : o.cls = .type n) (hd : o.data = .fields vs)
    (hn : ["enumerate", "zip", "dict_itemiterator", "dict_reverseitemiterator", "odict_iterator", "itertools.zip_longest", "itertools.pairwise"].contains n = false) (hQ : Q () s) : wpAny M A (letOwnedTupleGo tg (.ref it) u) Q E s := by
  unfold letOwnedTupleGo
  cases tg <;> first
    | exact wpAny_pure hQ
    | (cases u <;> first
        | exact wpAny_pure hQ
        | (refine wpAny_bind (wpAny_load ho ?_)
           rw [hc, hd]
           show wpAny M A (if (["enumerate", "zip", "dict_itemiterator", "dict_reverseitemiterator", "odict_iterator", "itertools.zip_longest", "itertools.pairwise"].contains n && vs[0]? == some (rawInt _)) = true then _ else _) Q E s
           rw [if_neg (by intro h; rw [hn, Bool.false_and] at h; cases h)]
           exact wpAny_pure hQ))

def Itl (K : PySem.W.Frag) (a : Addr) : It :=
  ⟨fun i H => ∃ xs x, SqL K H a xs ∧ xs[i]? = some x, fun i H x H' => H' = H ∧ ∀ xs, SqL K H a xs → xs[i]? = some x, fun i H => ∃ xs, SqL K H a xs ∧ xs.length ≤ i⟩
def Itr (lo : Int) (n : Nat) : It := ⟨fun i _ => i < n, fun i H x H' => H' = H ∧ x = .int (lo + i), fun i _ => n ≤ i⟩
theorem turn_list {P : Program} {w : World} {K : PySem.W.Frag} {tg : Expr} (a it : Addr) : Turn P w K tg (Itl K a) [it] it (fun i h => h.IsListIter it a i) where
  mem := by simp
  obj := fun i h st b hb => by
    have e : b = it := by simpa using hb
    subst e
    obtain ⟨o, e, c, d⟩ := st
    exact ⟨o, e, fun v z => by rw [d] at z; cases z⟩
  keep := fun i h h' st k => st.at fun o e => k it (by simp) o e
  item := by
    intro X hP hw hK hc i pins s σ H E I hf st hg
    subst hP hw hK
    obtain ⟨xs, x, hq, hx⟩ := hg
    obtain ⟨its, rv, p, hz⟩ := I.list hq
    obtain ⟨u, hu, ru⟩ := rv.get hx
    obtain ⟨f0, f1, f2, f3, f4, f5⟩ := hf it (by simp)
    refine wpAny_pyNext_list_item st p.isList (x := u) (by simpa using hu) fun h' st' sb => ?_
    have I1 : Inv X pins σ H { s with heap := h' } := I.turned (t' := s.toks) (fun b o hb e => (sb.2 b hb).trans e) f0 f1 f3 f4 f5
    obtain ⟨o, e, c, d⟩ := id st'
    exact ⟨u, rfl, go_of (s := { s with heap := h' }) e c d (by decide) ⟨x, H, I1, ru, ⟨rfl, fun ys hy => by rw [I.list_inj hy hq]; exact hx⟩, st', fun b hb => (hf b hb).1⟩⟩
  done := by
    intro X hP hw hK hc i pins s σ H E I hf st hg
    subst hP hw hK
    obtain ⟨xs, hq, hx⟩ := hg
    obtain ⟨its, rv, p, hz⟩ := I.list hq
    obtain ⟨f0, f1, f2, f3, f4, f5⟩ := hf it (by simp)
    have hl := rv.length
    exact wpAny_pyNext_list_end (I.ok.hd hc) st p.isList (by simp; omega) fun h' eb => ⟨rfl, I.turned (t' := s.toks) (fun b o hb e => eb b o hb e) f0 f1 f3 f4 f5⟩
  self := fun _ _ _ _ _ st h => wpAny_pyIter_listiter st h
theorem turn_range {P : Program} {w : World} {K : PySem.W.Frag} {tg : Expr} (it : Addr) (lo : Int) (n : Nat) : Turn P w K tg (Itr lo n) [it] it (fun i h => IsRangeIter h it (lo + (i : Nat) * 1) ((n : Int) - (i : Nat)) 1) where
  mem := by simp
  obj := fun i h st b hb => by
    have e : b = it := by simpa using hb
    subst e
    exact ⟨_, st, fun v z => by
      have z' : Data.fields _ = Data.cell v := z
      cases z'⟩
  keep := fun i h h' st k => k it (by simp) _ st
  item := by
    intro X hP hw hK hc i pins s σ H E I hf st hg
    subst hP hw hK
    obtain ⟨f0, f1, f2, f3, f4, f5⟩ := hf it (by simp)
    have W := Walks.range (prog := X.prog) (w := X.w) (I.ok.hd hc) it lo 1 n
    refine W.item i s _ _ hg st fun v h' tk hv st' kk => ?_
    obtain ⟨t, rfl⟩ := hv
    have I1 : Inv X pins σ H { s with heap := h', toks := tk } := I.turned (fun b o hb e => kk b o (by simpa using hb) e) f0 f1 f3 f4 f5
    refine ⟨_, rfl, go_of (s := { s with heap := h', toks := tk }) (n := "range_iterator") st' rfl rfl (by decide) ⟨.int (lo + i), H, I1, ⟨t, ?_⟩, ⟨rfl, rfl⟩, st', fun b hb => (hf b hb).1⟩⟩
    rw [Int.mul_one]
  done := by
    intro X hP hw hK hc i pins s σ H E I hf st hg
    subst hP hw hK
    obtain ⟨f0, f1, f2, f3, f4, f5⟩ := hf it (by simp)
    exact wpAny_pyNext_range_end (I.ok.hd hc) st (by have : n ≤ i := hg; omega) fun h' eb => ⟨rfl, I.turned (t' := s.toks) (fun b o hb e => eb b o hb e) f0 f1 f3 f4 f5⟩
  self := fun _ _ _ _ _ st h => wpAny_pyIter_rangeiter st h
end L2

namespace L2
open PySem PySem.Spec PyProof.Rows
section
variable {X : Cx} {tg : Expr}
def iList (K : PySem.W.Frag) (tl : TE) : TI := fun σ H R => tl σ H fun x H1 => ∃ a, x = .ref a ∧ (∃ xs, SqL K H1 a xs) ∧ R (Itl K a) H1
theorem pi_list {l : Expr} {tl : TE} (hl : PE X l tl) : PI X tg l (iList X.K tl) := by
  intro pins s σ H R I h
  refine thn (hl pins s σ H _ I h) fun v s1 ⟨x, H1, I1, r1, q1⟩ => ?_
  obtain ⟨a, e, ⟨xs, hq⟩, q⟩ := q1
  subst e
  cases r1
  obtain ⟨its, rv, p, hz⟩ := I1.list hq
  refine wpAny_pyIter_list p.isList ?_
  refine ⟨s1.heap.objs.size, [s1.heap.objs.size], _, _, H1, rfl, I1.kept (t' := s1.toks) fun b o e => Heap.get?_push_of_some _ e, turn_list a _, ⟨_, Heap.get?_push_size _ rfl, rfl, rfl⟩, fun b hb => ?_, q⟩
  have e : b = s1.heap.objs.size := by simpa using hb
  subst e
  exact I1.fpOk (Nat.le_refl _) (I1.hok.fresh (Nat.le_refl _))
theorem range_it {pins : List (Addr × Obj)} {σ : St} {H : Hp} {s : Shared} {R : It → Hp → Prop} {E : Value → Shared → Prop} {lo hi : Int} {t u v : Tok} {tk : Nat} (I : Inv X pins σ H s) (h1 : -(2 ^ 62) ≤ lo) (h2 : lo < 2 ^ 62) (h3 : -(2 ^ 62) ≤ hi) (h4 : hi < 2 ^ 62)
    (q : R (Itr lo (hi - lo).toNat) H) : wpAny (model X.prog X.w) X.A (pyIter (.ref s.heap.objs.size)) (PIE X pins σ tg R) E { s with heap := s.heap.push { cls := .type "range", data := .fields #[.int lo t, .int hi u, .int 1 v] }, toks := tk } := by
  refine wpAny_pyIter_range (IsRange.new ..) (small_one h1 h2 h3 h4) ?_
  have I1 : Inv X pins σ H { s with heap := s.heap.push { cls := .type "range", data := .fields #[.int lo t, .int hi u, .int 1 v] }, toks := tk } := I.kept fun b o e => Heap.get?_push_of_some _ e
  refine ⟨(s.heap.push { cls := .type "range", data := .fields #[.int lo t, .int hi u, .int 1 v] }).objs.size, [(s.heap.push { cls := .type "range", data := .fields #[.int lo t, .int hi u, .int 1 v] }).objs.size], _, _, H, rfl,
    I1.kept (t' := tk) fun b o e => Heap.get?_push_of_some _ e, turn_range _ lo (hi - lo).toNat, ?_, fun b hb => ?_, q⟩
  · have e1 : lo + ((0 : Nat) : Int) * 1 = lo := by simp
    have e2 : (((hi - lo).toNat : Nat) : Int) - ((0 : Nat) : Int) = Builtin.Range.rangeSize lo hi 1 := by rw [rangeSize_one]; split <;> omega
    show IsRangeIter _ _ (lo + ((0 : Nat) : Int) * 1) ((((hi - lo).toNat : Nat) : Int) - ((0 : Nat) : Int)) 1
    rw [e1, e2]
    exact Heap.get?_push_size _ rfl
  · have e : b = (s.heap.push { cls := .type "range", data := .fields #[.int lo t, .int hi u, .int 1 v] }).objs.size := by simpa using hb
    subst e
    exact I1.fpOk (Nat.le_refl _) (I1.hok.fresh (Nat.le_refl _))
def iRng1 (ta : TA) : TI := fun σ H R => ta σ H fun vs H1 => ∃ j : Int, vs = [.int j] ∧ -(2 ^ 62) ≤ j ∧ j < 2 ^ 62 ∧ R (Itr 0 j.toNat) H1
def iRng2 (ta : TA) : TI := fun σ H R => ta σ H fun vs H1 => ∃ i j : Int, vs = [.int i, .int j] ∧ (-(2 ^ 62) ≤ i ∧ i < 2 ^ 62 ∧ -(2 ^ 62) ≤ j ∧ j < 2 ^ 62) ∧ R (Itr i (j - i).toNat) H1
theorem pi_range1 {a : Expr} {ta : TA} {p pos : Pos} (hg : Gl X "range") (hm : X.mg "range" = none) (ha : PA X [a] ta) (hs : starEach [a] X.env = [(false, eval a X.env)] := by rfl) : PI X tg (.Call (.Name "range" p) [a] [] pos) (iRng1 ta) := by
  intro pins s σ H R I h
  refine Call_ (ld_blt I hg hm boot_range (PyProof.Rows.callWith_type1 (thn (ha pos pins s σ H _ I h) fun us s1 ⟨vs, H1, I1, r1, q1⟩ => ?_) hs rfl))
  obtain ⟨j, e, q1, q2, q⟩ := q1
  subst e
  cases r1 with
  | cons r rr =>
    cases rr
    obtain ⟨t, rfl⟩ := r
    exact call_range_1 (range_it I1 (by omega) (by omega) q1 q2 (by simpa using q))
theorem pi_range2 {a b : Expr} {ta : TA} {p pos : Pos} (hg : Gl X "range") (hm : X.mg "range" = none) (ha : PA X [a, b] ta) (hs : starEach [a, b] X.env = [(false, eval a X.env), (false, eval b X.env)] := by rfl) (hs2 : starEach [b] X.env = [(false, eval b X.env)] := by rfl) :
    PI X tg (.Call (.Name "range" p) [a, b] [] pos) (iRng2 ta) := by
  intro pins s σ H R I h
  refine Call_ (ld_blt I hg hm boot_range (PyProof.Rows.callWith_type1 (thn (ha pos pins s σ H _ I h) fun us s1 ⟨vs, H1, I1, r1, q1⟩ => ?_) (by rw [hs, hs2]) (by rw [hs2]; rfl)))
  obtain ⟨i, j, e, ⟨q1, q2, q3, q4⟩, q⟩ := q1
  subst e
  cases r1 with
  | cons r rr =>
    cases rr with
    | cons r' rr =>
      cases rr
      obtain ⟨t, rfl⟩ := r
      obtain ⟨t', rfl⟩ := r'
      exact call_range_2 (range_it I1 q1 q2 q3 q4 q)

def tFor (wi : TI) (g : TG) (tb : TS) : TS := fun D σ H => wi σ H fun J H1 => ∃ W : Nat → Nat → St → Hp → Prop, (∃ m, W 0 m σ H1) ∧ ∀ i m σ H, W i m σ H →
  (J.stop i H ∧ D.nx σ H) ∨ (J.go i H ∧ ∃ N : St → Hp → Prop, (∀ σ' H', N σ' H' → ∃ m', m' < m ∧ W (i + 1) m' σ' H') ∧ ∀ x H', J.yld i H x H' → g x σ H' fun σ2 H2 => tb { D with nx := N, ct := N, bk := D.nx } σ2 H2)
def pinsAt (fp : List Addr) (h : Heap) : List (Addr × Obj) := fp.filterMap fun b => (h.get? b).map fun o => (b, o)
theorem mem_pinsAt {fp : List Addr} {h : Heap} {b : Addr} {o : Obj} (hb : b ∈ fp) (e : h.get? b = some o) : (b, o) ∈ pinsAt fp h := List.mem_filterMap.mpr ⟨b, hb, by rw [e]; rfl⟩
theorem of_pinsAt {fp : List Addr} {h : Heap} {p : Addr × Obj} (hp : p ∈ pinsAt fp h) : p.1 ∈ fp ∧ h.get? p.1 = some p.2 := by
  obtain ⟨b, hb, e⟩ := List.mem_filterMap.mp hp
  cases q : h.get? b with
  | none => rw [q] at e; cases e
  | some o =>
    rw [q] at e
    have e' : (b, o) = p := Option.some.inj e
    subst e'
    exact ⟨hb, q⟩
theorem Inv.pinned {pins : List (Addr × Obj)} {σ : St} {H : Hp} {s : Shared} {fp : List Addr} (I : Inv X pins σ H s) (hf : ∀ b ∈ fp, FpOk X pins H b) (ho : ∀ b ∈ fp, ∃ o, s.heap.get? b = some o ∧ ∀ v, o.data ≠ .cell v) : Inv X (pins ++ pinsAt fp s.heap) σ H s :=
  I.pins_of fun p hp => (List.mem_append.mp hp).elim (fun z => I.pin p (List.mem_append_right _ z)) fun z => by
    obtain ⟨hb, e⟩ := of_pinsAt z
    obtain ⟨f0, f1, f2, _⟩ := hf p.1 hb
    obtain ⟨o, e', d⟩ := ho p.1 hb
    rw [e] at e'; cases e'
    exact ⟨e, f0, f1, f2, d⟩
theorem Inv.unpinned {pins pl : List (Addr × Obj)} {σ : St} {H : Hp} {s : Shared} (I : Inv X (pins ++ pl) σ H s) : Inv X pins σ H s := I.pins_of fun p hp => I.pin p (List.mem_append_right _ (List.mem_append_left _ hp))
theorem ps_for {iter : Expr} {body : List Stmt} {wi : TI} {g : TG} {tb : TS} {pos : Pos} (hp : PassesOwn (model X.prog X.w) X.A X.env X.xe) (hc : X.calm = true) (hi : PI X tg iter wi) (hg : PG X tg g) (hb : PSs X body tb)
    (hs : ∀ x, foldedSetIterable iter X.env x = pure x := by intro _; rfl) : PS X (.For tg iter body [] pos) (tFor wi g tb) := by
  intro pins s σ H D I h
  refine wpAny_For (thn (hi pins s σ H _ I h) fun v s1 h1 => thn h1 fun itv s2 h2 => ?_) hs
  obtain ⟨it, fp, tn, J, H2, e, I2, T, st2, f2, W, ⟨m0, w0⟩, turn⟩ := h2
  subst e
  -- what stays true of the iterator's objects through the loop
  have stat : ∀ {H' : Hp}, (∀ b ∈ fp, H' b = none) → ∀ b ∈ fp, FpOk X pins H' b := fun hn b hb => ⟨hn b hb, (f2 b hb).2⟩
  refine codeAny_forLoop_any (fun n s' => ∃ i σ' H', Inv X pins σ' H' s' ∧ tn i s'.heap ∧ (∀ b ∈ fp, H' b = none) ∧ W i n σ' H') ?_ m0 ⟨0, σ, H2, I2, st2, fun b hb => (f2 b hb).1, w0⟩
  rintro n s3 ⟨i, σ3, H3, I3, st3, fr3, w3⟩
  rcases turn i n σ3 H3 w3 with ⟨stop, qn⟩ | ⟨go, N, hN, step⟩
  · refine wpAny_passesOwn hp (thn (T.done X rfl rfl rfl hc i pins s3 σ3 H3 X.xe I3 (stat fr3) st3 stop) fun r s4 ⟨hr, I4⟩ => ?_)
    subst hr
    exact wpAny_execs_nil ⟨σ3, H3, I4, qn⟩
  · refine wpAny_passesOwn hp (thn (T.item X rfl rfl rfl hc i pins s3 σ3 H3 X.xe I3 (stat fr3) st3 go) fun r s4 ⟨u, hr, h4⟩ => ?_)
    subst hr
    refine wpAny_passesOwn hp (thn h4 fun _ s5 ⟨x, H5, I5, r5, y5, st5, fr5⟩ => ?_)
    have I5' := I5.pinned (stat fr5) (T.obj _ _ st5)
    refine wpAny_passesOwn hp (thn (hg _ s5 σ3 H5 x u _ I5' r5 (step x H5 y5)) fun _ s6 ⟨σ6, H6, I6, q6⟩ => ?_)
    refine wpAny_passesOwn hp (thn (hb _ s6 σ6 H6 _ I6 q6) fun f s7 q7 => ?_)
    have again : ∀ {σ7 : St} {H7 : Hp}, Inv X (pins ++ pinsAt fp s5.heap) σ7 H7 s7 → N σ7 H7 → ∃ m, m < n ∧ ∃ i σ' H', Inv X pins σ' H' s7 ∧ tn i s7.heap ∧ (∀ b ∈ fp, H' b = none) ∧ W i m σ' H' := fun {σ7 H7} I7 n7 => by
      obtain ⟨m', hm, w7⟩ := hN σ7 H7 n7
      refine ⟨m', hm, i + 1, σ7, H7, I7.unpinned, T.keep _ _ _ st5 fun b hb o e => (I7.pin (b, o) (List.mem_append_right _ (List.mem_append_right _ (mem_pinsAt hb e)))).1, fun b hb => ?_, w7⟩
      obtain ⟨o, e, d⟩ := T.obj _ _ st5 b hb
      exact (I7.pin (b, o) (List.mem_append_right _ (List.mem_append_right _ (mem_pinsAt hb e)))).2.1
    cases f with
    | next => obtain ⟨σ7, H7, I7, n7⟩ := q7; exact again I7 n7
    | cont => obtain ⟨σ7, H7, I7, n7⟩ := q7; exact again I7 n7
    | brk => obtain ⟨σ7, H7, I7, q7⟩ := q7; exact ⟨σ7, H7, I7.unpinned, q7⟩
    | ret v => obtain ⟨x7, σ7, H7, I7, r7, q7⟩ := q7; exact ⟨x7, σ7, H7, I7.unpinned, r7, q7⟩
end

theorem for_list {K : PySem.W.Frag} {a : Addr} {xs : List V} {g : TG} {tb : TS} {D : Ends} {σ : St} {H : Hp} (Pv : Nat → St → Hp → Prop) (h0 : Pv 0 σ H) (hl : ∀ i σ H, i ≤ xs.length → Pv i σ H → SqL K H a xs)
    (hs : ∀ i x σ H, xs[i]? = some x → Pv i σ H → g x σ H fun σ2 H2 => tb { D with nx := Pv (i + 1), ct := Pv (i + 1), bk := D.nx } σ2 H2) (hd : ∀ σ H, Pv xs.length σ H → D.nx σ H) :
    ∃ W : Nat → Nat → St → Hp → Prop, (∃ m, W 0 m σ H) ∧ ∀ i m σ H, W i m σ H →
      ((Itl K a).stop i H ∧ D.nx σ H) ∨ ((Itl K a).go i H ∧ ∃ N : St → Hp → Prop, (∀ σ' H', N σ' H' → ∃ m', m' < m ∧ W (i + 1) m' σ' H') ∧ ∀ x H', (Itl K a).yld i H x H' → g x σ H' fun σ2 H2 => tb { D with nx := N, ct := N, bk := D.nx } σ2 H2) := by
  refine ⟨fun i m σ H => m = xs.length - i ∧ i ≤ xs.length ∧ Pv i σ H, ⟨xs.length, by simp, Nat.zero_le _, h0⟩, ?_⟩
  rintro i m σ H ⟨rfl, hi, p⟩
  have q := hl i σ H hi p
  by_cases hlt : i < xs.length
  · refine .inr ⟨⟨xs, xs[i], q, by simp [hlt]⟩, Pv (i + 1), fun σ' H' p' => ⟨xs.length - (i + 1), by omega, rfl, hlt, p'⟩, fun x H' y => ?_⟩
    obtain ⟨e, y⟩ := y
    subst e
    exact hs i x σ _ (y xs q) p
  · have e : i = xs.length := by omega
    subst e
    exact .inl ⟨⟨xs, q, Nat.le_refl _⟩, hd σ H p⟩
theorem for_range {lo : Int} {n : Nat} {g : TG} {tb : TS} {D : Ends} {σ : St} {H : Hp} (Pv : Nat → St → Hp → Prop) (h0 : Pv 0 σ H)
    (hs : ∀ i σ H, i < n → Pv i σ H → g (.int (lo + i)) σ H fun σ2 H2 => tb { D with nx := Pv (i + 1), ct := Pv (i + 1), bk := D.nx } σ2 H2) (hd : ∀ σ H, Pv n σ H → D.nx σ H) :
    ∃ W : Nat → Nat → St → Hp → Prop, (∃ m, W 0 m σ H) ∧ ∀ i m σ H, W i m σ H →
      ((Itr lo n).stop i H ∧ D.nx σ H) ∨ ((Itr lo n).go i H ∧ ∃ N : St → Hp → Prop, (∀ σ' H', N σ' H' → ∃ m', m' < m ∧ W (i + 1) m' σ' H') ∧ ∀ x H', (Itr lo n).yld i H x H' → g x σ H' fun σ2 H2 => tb { D with nx := N, ct := N, bk := D.nx } σ2 H2) := by
  refine ⟨fun i m σ H => m = n - i ∧ i ≤ n ∧ Pv i σ H, ⟨n, by simp, Nat.zero_le _, h0⟩, ?_⟩
  rintro i m σ H ⟨rfl, hi, p⟩
  by_cases hlt : i < n
  · refine .inr ⟨hlt, Pv (i + 1), fun σ' H' p' => ⟨n - (i + 1), by omega, rfl, hlt, p'⟩, fun x H' y => ?_⟩
    obtain ⟨e, y⟩ := y
    subst e y
    exact hs i σ _ hlt p
  · have e : i = n := by omega
    subst e
    exact .inl ⟨Nat.le_refl _, hd σ H p⟩
theorem while_by {c : TT} {tb : TS} {D : Ends} {σ : St} {H : Hp} (Pv : St → Hp → Prop) (μ : St → Hp → Nat) (h0 : Pv σ H)
    (hs : ∀ σ H, Pv σ H → c σ H fun b H1 => if b = true then tb { D with nx := fun σ' H' => Pv σ' H' ∧ μ σ' H' < μ σ H, ct := fun σ' H' => Pv σ' H' ∧ μ σ' H' < μ σ H, bk := D.nx } σ H1 else D.nx σ H1)
    (mono : ∀ σ H Q Q', (∀ b H1, Q b H1 → Q' b H1) → c σ H Q → c σ H Q') : tWhile c tb D σ H := by
  refine ⟨fun m σ H => m = μ σ H ∧ Pv σ H, ⟨_, rfl, h0⟩, ?_⟩
  rintro m σ H ⟨rfl, p⟩
  refine mono σ H _ _ (fun b H1 q => ?_) (hs σ H p)
  cases b with
  | true => exact ⟨_, fun σ' H' ⟨p', l⟩ => ⟨_, l, rfl, p'⟩, q⟩
  | false => exact q
end L2

namespace L2
open PySem PySem.Spec PyProof.Rows

abbrev R2 := V → V → Hp → VK → Prop
def OpR (X : Cx) (f : Value → Value → Sem Value) (r : R2) : Prop :=
  ∀ (pins : List (Addr × Obj)) (s : Shared) (σ : St) (H : Hp) (x y : V) (v u : Value) (Q : VK), Inv X pins σ H s → RelV x v → RelV y u → r x y H Q →
    wpAny (model X.prog X.w) X.A (f v u) (EP X pins σ Q) X.xe s
def UnR (X : Cx) (f : Value → Sem Value) (r : V → Hp → VK → Prop) : Prop :=
  ∀ (pins : List (Addr × Obj)) (s : Shared) (σ : St) (H : Hp) (x : V) (v : Value) (Q : VK), Inv X pins σ H s → RelV x v → r x H Q →
    wpAny (model X.prog X.w) X.A (f v) (EP X pins σ Q) X.xe s
def CallR (X : Cx) (f : Value) (r : List V → Hp → VK → Prop) : Prop :=
  ∀ (pins : List (Addr × Obj)) (s : Shared) (σ : St) (H : Hp) (xs : List V) (us : List Value) (Q : VK), Inv X pins σ H s → Vals xs us → r xs H Q →
    wpAny (model X.prog X.w) X.A (call f us) (EP X pins σ Q) X.xe s
def tOp (r : R2) (ta tb : TE) : TE := fun σ H Q => ta σ H fun x H1 => tb σ H1 fun y H2 => r x y H2 Q
def tUn (r : V → Hp → VK → Prop) (ta : TE) : TE := fun σ H Q => ta σ H fun x H1 => r x H1 Q
def rI (C : Int → Int → Prop) (g : Int → Int → V) : R2 := fun x y H Q => ∃ i j, x = .int i ∧ y = .int j ∧ C i j ∧ Q (g i j) H
def rI0 (g : Int → Int → V) : R2 := fun x y H Q => ∃ i j, x = .int i ∧ y = .int j ∧ Q (g i j) H
def rU (g : Int → V) : V → Hp → VK → Prop := fun x H Q => ∃ i, x = .int i ∧ Q (g i) H

section
variable {X : Cx} {a b c : Expr} {ta tb tc : TE} {pos : Pos}

theorem binT (ha : PE X a ta) (hb : PE X b tb) {pins : List (Addr × Obj)} {s : Shared} {σ : St} {H : Hp} {R : V → V → Hp → Prop} (I : Inv X pins σ H s)
    (h : ta σ H fun x H1 => tb σ H1 fun y H2 => R x y H2) {Q : Value → Shared → Prop} {f : Value → Value → Sem Value}
    (hf : ∀ v u s2 x y H2, Inv X pins σ H2 s2 → RelV x v → RelV y u → R x y H2 → wpAny (model X.prog X.w) X.A (f v u) Q X.xe s2) :
    wpAny (model X.prog X.w) X.A (eval a X.env) (fun v s₁ => wpAny (model X.prog X.w) X.A (eval b X.env) (fun u s₂ => wpAny (model X.prog X.w) X.A (f v u) Q X.xe s₂) X.xe s₁) X.xe s := by
  refine thn (ha pins s σ H _ I h) fun v s1 ⟨x, H1, I1, r1, q1⟩ => ?_
  refine thn (hb pins s1 σ H1 _ I1 q1) fun u s2 ⟨y, H2, I2, r2, q2⟩ => ?_
  exact hf v u s2 x y H2 I2 r1 r2 q2

theorem pe_op {op : Operator} {r : R2} (ho : OpR X (binaryOp op) r) (ha : PE X a ta) (hb : PE X b tb) : PE X (.BinOp a op b pos) (tOp r ta tb) := by
  intro pins s σ H Q I h
  exact wpAny_BinOp (binT ha hb I h fun v u s2 x y H2 I2 rx ry q => ho pins s2 σ H2 x y v u Q I2 rx ry q)
theorem pe_un {op : UnaryOp} {r : V → Hp → VK → Prop} (ho : UnR X (unaryOp op) r) (ha : PE X a ta) : PE X (.UnaryOp op a pos) (tUn r ta) := by
  intro pins s σ H Q I h
  exact UnaryOp_ (thn (ha pins s σ H _ I h) fun v s1 ⟨x, H1, I1, r1, q1⟩ => ho pins s1 σ H1 x v Q I1 r1 q1)
theorem opI {f : Value → Value → Sem Value} {C : Int → Int → Prop} {g : Int → Int → Int}
    (rule : ∀ (i j : Int) (t u : Tok) (s : Shared) (Q : Value → Shared → Prop) (E : Value → Shared → Prop), C i j → Q (.int (g i j) s.toks) { s with toks := s.toks + 1 } → wpAny (model X.prog X.w) X.A (f (.int i t) (.int j u)) Q E s) :
    OpR X f (rI C fun i j => .int (g i j)) := by
  intro pins s σ H x y v u Q I rx ry h
  obtain ⟨i, j, rfl, rfl, hc, q⟩ := h
  obtain ⟨t, rfl⟩ := rx
  obtain ⟨t', rfl⟩ := ry
  exact rule i j t t' s _ _ hc ⟨.int (g i j), H, I.tok _, ⟨_, rfl⟩, q⟩
theorem opI0 {f : Value → Value → Sem Value} {g : Int → Int → Int}
    (rule : ∀ (i j : Int) (t u : Tok) (s : Shared) (Q : Value → Shared → Prop) (E : Value → Shared → Prop), Q (.int (g i j) s.toks) { s with toks := s.toks + 1 } → wpAny (model X.prog X.w) X.A (f (.int i t) (.int j u)) Q E s) :
    OpR X f (rI0 fun i j => .int (g i j)) := by
  intro pins s σ H x y v u Q I rx ry h
  obtain ⟨i, j, rfl, rfl, q⟩ := h
  obtain ⟨t, rfl⟩ := rx
  obtain ⟨t', rfl⟩ := ry
  exact rule i j t t' s _ _ ⟨.int (g i j), H, I.tok _, ⟨_, rfl⟩, q⟩
theorem opB0 {f : Value → Value → Sem Value} {g : Int → Int → Bool}
    (rule : ∀ (i j : Int) (t u : Tok) (s : Shared) (Q : Value → Shared → Prop) (E : Value → Shared → Prop), Q (.bool (g i j)) s → wpAny (model X.prog X.w) X.A (f (.int i t) (.int j u)) Q E s) :
    OpR X f (rI0 fun i j => .bl (g i j)) := by
  intro pins s σ H x y v u Q I rx ry h
  obtain ⟨i, j, rfl, rfl, q⟩ := h
  obtain ⟨t, rfl⟩ := rx
  obtain ⟨t', rfl⟩ := ry
  exact rule i j t t' s _ _ ⟨.bl (g i j), H, I, rfl, q⟩

def CDiv (i j : Int) : Prop := 0 < j ∧ j < 1073741824
def CPow (i j : Int) : Prop := 0 ≤ j ∧ j ≤ 1000000 ∧ i.natAbs < 2 ^ 64
def CMul (i j : Int) : Prop := (-(2 ^ 64) < i ∧ i < 2 ^ 64) ∨ (-(2 ^ 64) < j ∧ j < 2 ^ 64)
theorem CMul.ok {i j : Int} (h : CMul i j) : IntMulOk i j := by
  rcases h with ⟨h1, h2⟩ | ⟨h1, h2⟩
  · exact .of_left (intBits_le_64 h1 h2)
  · exact .of_right (intBits_le_64 h1 h2)
theorem two_pow_nn (k : Nat) : (0 : Int) ≤ 2 ^ k := by
  rw [two_pow_cast]
  exact Int.natCast_nonneg _

theorem op_add : OpR X (binaryOp .Add) (rI0 fun i j => .int (i + j)) := opI0 fun _ _ _ _ _ _ _ q => add_int q
theorem op_sub : OpR X (binaryOp .Sub) (rI0 fun i j => .int (i - j)) := opI0 fun _ _ _ _ _ _ _ q => sub_int q
theorem op_mul : OpR X (binaryOp .Mult) (rI CMul fun i j => .int (i * j)) := opI fun _ _ _ _ _ _ _ hc q => mul_int q hc.ok
theorem op_fdiv : OpR X (binaryOp .FloorDiv) (rI CDiv fun i j => .int (i / j)) := opI fun i j _ _ _ _ _ hc q => by
  have h1 : (0 : Int) < j := hc.1
  have h2 : j < 1073741824 := hc.2
  exact floordiv_int (by omega) (by rw [Int.fdiv_eq_ediv_of_nonneg i (by omega)]; exact q) (.inl (PyProof.noPylong_small (by omega)))
theorem op_mod : OpR X (binaryOp .Mod) (rI (fun _ j => 0 < j) fun i j => .int (i % j)) := opI fun i j _ _ _ _ _ hc q => by
  have h1 : (0 : Int) < j := hc
  exact mod_int' (by omega) (by rw [Int.fmod_eq_emod_of_nonneg i (by omega)]; exact q)
theorem op_modN : OpR X (binaryOp .Mod) (rI (fun _ j => j ≠ 0) fun i j => .int (i.fmod j)) := opI fun _ _ _ _ _ _ _ hc q => mod_int' hc q
theorem op_pow : OpR X (binaryOp .Pow) (rI CPow fun i j => .int (i ^ j.toNat)) := opI fun _ _ _ _ _ _ _ hc q => pow_int_small hc.1 hc.2.1 hc.2.2 q
theorem op_shr : OpR X (binaryOp .RShift) (rI (fun _ j => 0 ≤ j) fun i j => .int (i / 2 ^ j.toNat)) := opI fun i j _ _ _ _ _ hc q =>
  rshift_int hc (by rw [Int.fdiv_eq_ediv_of_nonneg i (two_pow_nn _)]; exact q)
theorem unI {f : Value → Sem Value} {g : Int → Int}
    (rule : ∀ (i : Int) (t : Tok) (s : Shared) (Q : Value → Shared → Prop) (E : Value → Shared → Prop), Q (.int (g i) s.toks) { s with toks := s.toks + 1 } → wpAny (model X.prog X.w) X.A (f (.int i t)) Q E s) :
    UnR X f (rU fun i => .int (g i)) := by
  intro pins s σ H x v Q I rx h
  obtain ⟨i, rfl, q⟩ := h
  obtain ⟨t, rfl⟩ := rx
  exact rule i t s _ _ ⟨.int (g i), H, I.tok _, ⟨_, rfl⟩, q⟩
theorem un_neg : UnR X (unaryOp .USub) (rU fun i => .int (-i)) := unI fun _ _ _ _ _ q => neg_int q
end

def scal : V → V → Bool
  | .non, .non => true | .non, .int _ => true | .int _, .non => true | .non, .bl _ => true | .bl _, .non => true | .non, .str _ => true | .str _, .non => true
  | .int _, .int _ => true | .bl _, .bl _ => true | .str _, .str _ => true | .byt _, .byt _ => true
  | .int _, .str _ => true | .str _, .int _ => true | .bl _, .str _ => true | .str _, .bl _ => true
  | _, _ => false
def rEq : R2 := fun x y H Q => scal x y = true ∧ Q (.bl (decide (x = y))) H
def rNe : R2 := fun x y H Q => scal x y = true ∧ Q (.bl (!decide (x = y))) H

theorem dec_int {i j : Int} : decide (V.int i = V.int j) = (i == j) := by
  rw [Bool.eq_iff_iff]
  simp
theorem dec_bl {i j : Bool} : decide (V.bl i = V.bl j) = (i == j) := by
  rw [Bool.eq_iff_iff]
  simp
theorem dec_str {i j : Str} : decide (V.str i = V.str j) = (i == j) := by
  rw [Bool.eq_iff_iff]
  simp
theorem dec_byt {i j : Array UInt8} : decide (V.byt i = V.byt j) = (i.toList == j.toList) := by
  rw [Bool.eq_iff_iff]
  cases i
  cases j
  simp

section
variable {X : Cx} {a b c : Expr} {ta tb tc : TE} {pos : Pos}
theorem fin_bl {pins : List (Addr × Obj)} {σ : St} {H : Hp} {s : Shared} {Q : VK} {k k' : Bool} (I : Inv X pins σ H s) (q : Q (.bl k) H) (e : k = k') : EP X pins σ Q (.bool k') s := by
  subst e
  exact ⟨.bl k, H, I, rfl, q⟩
theorem op_eq : OpR X (compareOp .Eq) rEq := by
  intro pins s σ H x y v u Q I rx ry h
  obtain ⟨hs, q⟩ := h
  cases x with
  | non =>
    cases rx
    cases y with
    | non => cases ry; exact PySem.EqNone.eq_none_none (fin_bl I q (by simp))
    | bl j => cases ry; exact PySem.EqNone.eq_none_bool (fin_bl I q (by simp))
    | int j => obtain ⟨t', rfl⟩ := ry; exact PySem.EqNone.eq_none_int (fin_bl I q (by simp))
    | str j => obtain ⟨t', rfl⟩ := ry; exact PySem.EqNone.eq_none_str (fin_bl I q (by simp))
    | _ => exact absurd (show false = true from hs) Bool.false_ne_true
  | bl i =>
    cases rx
    cases y with
    | non => cases ry; exact PySem.EqNone.eq_bool_none (fin_bl I q (by simp))
    | bl j => cases ry; exact eq_bool (fin_bl I q dec_bl)
    | str j => obtain ⟨t', rfl⟩ := ry; exact PySem.EqMixed.eq_bool_str (fin_bl I q (by simp))
    | _ => exact absurd (show false = true from hs) Bool.false_ne_true
  | int i =>
    obtain ⟨t, rfl⟩ := rx
    cases y with
    | non => cases ry; exact PySem.EqNone.eq_int_none (fin_bl I q (by simp))
    | int j => obtain ⟨t', rfl⟩ := ry; exact eq_int (fin_bl I q dec_int)
    | str j => obtain ⟨t', rfl⟩ := ry; exact PySem.EqMixed.eq_int_str (fin_bl I q (by simp))
    | _ => exact absurd (show false = true from hs) Bool.false_ne_true
  | str i =>
    obtain ⟨t, rfl⟩ := rx
    cases y with
    | non => cases ry; exact PySem.EqNone.eq_str_none (fin_bl I q (by simp))
    | bl j => cases ry; exact PySem.EqMixed.eq_str_bool (fin_bl I q (by simp))
    | int j => obtain ⟨t', rfl⟩ := ry; exact PySem.EqMixed.eq_str_int (fin_bl I q (by simp))
    | str j => obtain ⟨t', rfl⟩ := ry; exact eq_str (fin_bl I q dec_str)
    | _ => exact absurd (show false = true from hs) Bool.false_ne_true
  | byt i =>
    obtain ⟨t, rfl⟩ := rx
    cases y with
    | byt j => obtain ⟨t', rfl⟩ := ry; exact PySem.W.eq_bytes (fin_bl I q dec_byt)
    | _ => exact absurd (show false = true from hs) Bool.false_ne_true
  | _ => cases y <;> exact absurd (show false = true from hs) Bool.false_ne_true
theorem op_ne : OpR X (compareOp .NotEq) rNe := by
  intro pins s σ H x y v u Q I rx ry h
  obtain ⟨hs, q⟩ := h
  cases x with
  | non =>
    cases rx
    cases y with
    | non => cases ry; exact PySem.EqNone.ne_none_none (fin_bl I q (by simp))
    | bl j => cases ry; exact PySem.EqNone.ne_none_bool (fin_bl I q (by simp))
    | int j => obtain ⟨t', rfl⟩ := ry; exact PySem.EqNone.ne_none_int (fin_bl I q (by simp))
    | str j => obtain ⟨t', rfl⟩ := ry; exact PySem.EqNone.ne_none_str (fin_bl I q (by simp))
    | _ => exact absurd (show false = true from hs) Bool.false_ne_true
  | bl i =>
    cases rx
    cases y with
    | non => cases ry; exact PySem.EqNone.ne_bool_none (fin_bl I q (by simp))
    | bl j => cases ry; exact ne_bool (fin_bl I q (congrArg not dec_bl))
    | str j => obtain ⟨t', rfl⟩ := ry; exact PySem.EqMixed.ne_bool_str (fin_bl I q (by simp))
    | _ => exact absurd (show false = true from hs) Bool.false_ne_true
  | int i =>
    obtain ⟨t, rfl⟩ := rx
    cases y with
    | non => cases ry; exact PySem.EqNone.ne_int_none (fin_bl I q (by simp))
    | int j => obtain ⟨t', rfl⟩ := ry; exact ne_int (fin_bl I q (congrArg not dec_int))
    | str j => obtain ⟨t', rfl⟩ := ry; exact PySem.EqMixed.ne_int_str (fin_bl I q (by simp))
    | _ => exact absurd (show false = true from hs) Bool.false_ne_true
  | str i =>
    obtain ⟨t, rfl⟩ := rx
    cases y with
    | non => cases ry; exact PySem.EqNone.ne_str_none (fin_bl I q (by simp))
    | bl j => cases ry; exact PySem.EqMixed.ne_str_bool (fin_bl I q (by simp))
    | int j => obtain ⟨t', rfl⟩ := ry; exact PySem.EqMixed.ne_str_int (fin_bl I q (by simp))
    | str j => obtain ⟨t', rfl⟩ := ry; exact ne_str (fin_bl I q (congrArg not dec_str))
    | _ => exact absurd (show false = true from hs) Bool.false_ne_true
  | byt i =>
    obtain ⟨t, rfl⟩ := rx
    cases y with
    | byt j => obtain ⟨t', rfl⟩ := ry; exact PySem.W.ne_bytes (fin_bl I q (congrArg not dec_byt))
    | _ => exact absurd (show false = true from hs) Bool.false_ne_true
  | _ => cases y <;> exact absurd (show false = true from hs) Bool.false_ne_true

theorem op_lt : OpR X (compareOp .Lt) (rI0 fun i j => .bl (decide (i < j))) := opB0 fun _ _ _ _ _ _ _ q => lt_int q
theorem op_gt : OpR X (compareOp .Gt) (rI0 fun i j => .bl (decide (j < i))) := opB0 fun _ _ _ _ _ _ _ q => gt_int q
theorem op_ge : OpR X (compareOp .GtE) (rI0 fun i j => .bl (decide (j ≤ i))) := opB0 fun _ _ _ _ _ _ _ q => ge_int q
theorem op_in_str : OpR X (compareOp .In) (fun x y H Q => ∃ i j, x = .str i ∧ y = .str j ∧ Q (.bl (!(Builtin.Str.occurrences j i 0 j.length 1).isEmpty)) H) := by
  intro pins s σ H x y v u Q I rx ry h
  obtain ⟨i, j, rfl, rfl, q⟩ := h
  obtain ⟨t, rfl⟩ := rx
  obtain ⟨t', rfl⟩ := ry
  exact in_str (fin_bl I q rfl)

theorem nomark (b : Expr) {op : CmpOp} (h : op ≠ .In := by decide) (h2 : op ≠ .NotIn := by decide) : behindInMarks op b = false := by
  have e1 : (op == CmpOp.In) = false := by cases op <;> first | rfl | exact absurd rfl h
  have e2 : (op == CmpOp.NotIn) = false := by cases op <;> first | rfl | exact absurd rfl h2
  cases b <;> simp [behindInMarks, e1, e2]
theorem pe_cmpR {op : CmpOp} {r : R2} (ho : OpR X (compareOp op) r) (ha : PE X a ta) (hb : PE X b tb) (hm : behindInMarks op b = false) : PE X (.Compare a [op] [b] pos) (tOp r ta tb) := by
  intro pins s σ H Q I h
  exact wpAny_Compare1 (binT ha hb I h fun v u s2 x y H2 I2 rx ry q => ho pins s2 σ H2 x y v u Q I2 rx ry q) hm
def tTest (t : TE) : TT := fun σ H Q => t σ H fun x H' => ∃ k, x = .bl k ∧ Q k H'
theorem pt_cmpR {op : CmpOp} {r : R2} (ho : OpR X (compareOp op) r) (ha : PE X a ta) (hb : PE X b tb) (hm : behindInMarks op b = false) : PT X (.Compare a [op] [b] pos) (tTest (tOp r ta tb)) := by
  intro pins s σ H Q I h
  refine wpAny_isTrue_Compare1 (thn (ha pins s σ H _ I h) fun v s1 ⟨x, H1, I1, r1, q1⟩ => thn (hb pins s1 σ H1 _ I1 q1) fun u s2 ⟨y, H2, I2, r2, q2⟩ =>
    thn (ho pins s2 σ H2 x y v u _ I2 r1 r2 q2) fun c s3 ⟨z, H3, I3, r3, k, e, q3⟩ => ?_) hm
  subst e
  cases r3
  exact wpAny_truthy_bool ⟨H3, I3, q3⟩
theorem line63 : (sizeLine : Nat) < 2 ^ 63 := by rw [sizeLine_eq]; decide
theorem op_add_str : OpR X (binaryOp .Add) (fun x y H Q => ∃ i j, x = .str i ∧ y = .str j ∧ i.length + j.length ≤ sizeLine ∧ Q (.str (i ++ j)) H) := by
  intro pins s σ H x y v u Q I rx ry h
  obtain ⟨i, j, rfl, rfl, hz, q⟩ := h
  obtain ⟨t, rfl⟩ := rx
  obtain ⟨t', rfl⟩ := ry
  exact add_str (fun t' tk => ⟨.str (i ++ j), H, I.tok _, ⟨_, rfl⟩, q⟩) hz
def PlainIxT (b : Expr) : Prop := ∀ o i, subscripted b false o i = operate [o, i] (getItem o i)
theorem pe_item_str (ha : PE X a ta) (hb : PE X b tb) (hs : PlainIxT b) :
    PE X (.Subscript a b pos) (tOp (fun x y H Q => ∃ z i c, x = .str z ∧ y = .int i ∧ 0 ≤ i ∧ i < 2 ^ 63 ∧ i < z.length ∧ z.cps[i.toNat]? = some c ∧ Q (.str ⟨#[c]⟩) H) ta tb) := by
  intro pins s σ H Q I h
  refine Subscript_ (binT ha hb I h fun v u s2 x y H2 I2 rx ry q => ?_)
  obtain ⟨z, i, c, rfl, rfl, h0, h63, h1, hc, q⟩ := q
  obtain ⟨t, rfl⟩ := rx
  obtain ⟨t', rfl⟩ := ry
  have e : seqIndex? i z.length = some i.toNat := PySem.StrLaws.seqIndex_nonneg h0 h1
  exact tail_any (typeIs_str s2 z t) slot_str_getitem.lookup (getItem_str (c := c) (by
    have e1 : decide (i < -(2 ^ 63 : Int)) = false := decide_eq_false (by omega)
    have e2 : decide (i ≥ 2 ^ 63) = false := decide_eq_false (by omega)
    rw [e1, e2] <;> rfl) (by rw [e]; exact hc) ⟨.str ⟨#[c]⟩, H2, I2.tok _, ⟨_, rfl⟩, q⟩) (hs _ _)
theorem vals1 {x : V} {us : List Value} (r : Vals [x] us) : ∃ u, us = [u] ∧ RelV x u := by
  cases r with
  | cons r1 r2 => cases r2; exact ⟨_, rfl, r1⟩
theorem vals2 {x y : V} {us : List Value} (r : Vals [x, y] us) : ∃ u w', us = [u, w'] ∧ RelV x u ∧ RelV y w' := by
  cases r with
  | cons r1 r2 =>
    cases r2 with
    | cons r3 r4 => cases r4; exact ⟨_, _, rfl, r1, r3⟩
theorem call_abs : CallR X (.builtin "abs") (fun xs H Q => ∃ i, xs = [.int i] ∧ Q (.int (if i < 0 then -i else i)) H) := by
  intro pins s σ H xs us Q I r h
  obtain ⟨i, rfl, q⟩ := h
  obtain ⟨u, rfl, t, rfl⟩ := vals1 r
  exact call_abs_int fun u tk => ⟨.int (if i < 0 then -i else i), H, I.tok _, ⟨_, rfl⟩, q⟩
theorem call_min2 (hc : X.calm = true) : CallR X (.builtin "min") (fun xs H Q => ∃ i j, xs = [.int i, .int j] ∧ Q (.int (if j < i then j else i)) H) := by
  intro pins s σ H xs us Q I r h
  obtain ⟨i, j, rfl, q⟩ := h
  obtain ⟨u, w', rfl, ⟨t, rfl⟩, ⟨t', rfl⟩⟩ := vals2 r
  refine min_two_ints (I.ok.hd hc) fun h' tk k => ⟨_, H, I.kept k, ?_, q⟩
  by_cases hj : j < i
  · rw [if_pos hj, if_pos hj]; exact ⟨_, rfl⟩
  · rw [if_neg hj, if_neg hj]; exact ⟨_, rfl⟩
theorem call_int1 : CallR X (.type "int") (fun xs H Q => (∃ i, xs = [.int i] ∧ Q (.int i) H) ∨ ∃ k, xs = [.bl k] ∧ Q (.int (if k then 1 else 0)) H) := by
  intro pins s σ H xs us Q I r h
  rcases h with ⟨i, rfl, q⟩ | ⟨k, rfl, q⟩
  · obtain ⟨u, rfl, t, rfl⟩ := vals1 r
    exact call_int_int ⟨.int i, H, I, ⟨_, rfl⟩, q⟩
  · obtain ⟨u, rfl, r1⟩ := vals1 r
    cases r1
    exact call_int_bool ⟨.int (if k then 1 else 0), H, I.tok _, ⟨_, rfl⟩, q⟩
end
end L2

namespace L2
open PySem PySem.Spec PyProof.Rows

structure ObjM (h : Heap) (x dx C : Addr) (mA : Str → Option Value) : Prop where
  obj : h.get? x = some (PySem.W.instObj C dx)
  ns : h.Ns1 dx mA
  ne : dx ≠ x

theorem lookIn_ns {h : Heap} {dx : Addr} {mA : Str → Option Value} (n : h.Ns1 dx mA) : ∃ od, h.get? dx = some od ∧ ∀ name, PySem.W.lookIn name od = some (mA name) := by
  obtain ⟨o, es, ep, ho, hd, hk, _, hm⟩ := n
  refine ⟨o, ho, fun name => ?_⟩
  have e := hm name
  unfold nsFind findBy at e
  rw [← Array.find?_toList] at e
  unfold PySem.W.lookIn
  rw [hd]
  dsimp only
  split
  · rename_i y q
    rw [q] at e
    exact congrArg some e
  · rename_i q
    rw [q] at e
    have a : es.toList.any (·.refKey) = false := by
      rw [List.any_eq_false]
      intro y hy
      obtain ⟨z, t, hkey⟩ := hk y (Array.mem_toList_iff.mp hy)
      simp [DictEntry.refKey, hkey]
    have a' : ¬ es.toList.any (·.refKey) = true := by rw [a]; exact Bool.false_ne_true
    rw [if_neg a']
    exact congrArg some e

theorem ObjM.look {h : Heap} {x dx C : Addr} {mA : Str → Option Value} (I : ObjM h x dx C mA) : ∃ od, PySem.W.InstAt h x (PySem.W.instObj C dx) C (some od) ∧ ∀ name, PySem.W.lookIn name od = some (mA name) :=
  let ⟨od, ho, hl⟩ := lookIn_ns I.ns
  ⟨od, ⟨I.obj, rfl, rfl, ho⟩, hl⟩

section
variable {prog : Program} {w : World} {A : Around} {E : Value → Shared → Prop} {s : Shared} {K : PySem.W.Frag} {x dx C f : Addr} {mA : Str → Option Value} {name : Str} {v : Value}

theorem get_map {expr : Bool} {Q : Value → Shared → Prop} (X : K.In s.heap) (I : ObjM s.heap x dx C mA) (hg : PySem.W.plainGet K C name = true) (hh : PySem.W.hasDictIn K C = true)
    (ha : PySem.W.findIn K (.ref C) name = some none) (hv : mA name = some v) (hv' : PySem.W.handedIn v = true) (h : Q v { s with toks := s.toks + 1 }) :
    wpAny (model prog w) A (getAttr (.ref x) name expr) Q E s := by
  obtain ⟨od, J, hl⟩ := I.look
  exact PySem.W.get_value X J (PySem.W.plainGet_of hg).1 (PySem.W.findObj_own hh ha rfl (by rw [hl, hv])) hv' h

theorem get_meth {pl : Sem Bool} {Q : Value × List Value → Shared → Prop} (X : K.In s.heap) (I : ObjM s.heap x dx C mA) (hg : PySem.W.plainGet K C name = true)
    (hf : PySem.W.findIn K (.ref C) name = some (some (.ref f))) (ht : PySem.W.isFn K (.ref f) = true) (hv : mA name = none) (h : Q (.ref f, [.ref x]) s) :
    wpAny (model prog w) A (getMethod (.ref x) name pl) Q E s := by
  obtain ⟨od, J, hl⟩ := I.look
  exact PySem.W.method_fn X J (PySem.W.plainGet_of hg).1 (PySem.W.plainGet_of hg).2 hf (beq_iff_eq.mp ht) (by show (PySem.W.lookIn name od).map (·.isSome) = some false; rw [hl, hv]; rfl) h

theorem set_map {ns : List Str} {Q : Unit → Shared → Prop} (X : K.In s.heap) (I : ObjM s.heap x dx C mA)
    (hs : PySem.W.findIn K (.ref C) "__setattr__" = some (some (.builtin "object.__setattr__"))) (hp : PySem.W.plainOver K C = true) (ht : PySem.W.takerIn K C name = some none) (hh : PySem.W.hasDictIn K C = true)
    (hw : PySem.Within mA ns) (hsz : ns.length ≤ sizeLine)
    (h : ∀ h', ObjM h' x dx C (fun y => if y = name then some v else mA y) → Heap.SameBut dx s.heap h' → Q () { s with heap := h', toks := s.toks + 2 }) :
    wpAny (model prog w) A (setAttr (.ref x) name v) Q E s := by
  obtain ⟨od, J, hl⟩ := I.look
  refine PySem.W.set_plain X J hs (PySem.W.osa_open (s := { s with toks := s.toks + 1 }) (r := none) X J hp ht fun b => ?_)
  obtain ⟨cd, hc, hd'⟩ := PySem.W.any_some hh
  have hx : s.heap.get? x = some ⟨.ref C, some dx, .plain, #[]⟩ := I.obj
  refine wpAny_bind (wpAny_pure (wpAny_bind (wpAny_bind (wpAny_loadPart hx (wpAny_bind (PySem.W.Looks.here (s := { s with toks := s.toks + 1 }) (PySem.W.looks_clsIn X hc) ?_))))))
  rw [hd']
  refine wpAny_pure (a := some dx) (wpAny_bind (wpAny_pure (wpAny_bind ?_)))
  refine wpAny_nsSet1 (s := { s with toks := s.toks + 1 }) I.ns fun h' hn2 hs2 => ?_
  obtain ⟨oD, esD, epD, hoD, hdD, hcD⟩ := hn2.count (PySem.Within.cons name v hw)
  refine wpAny_bind (wpAny_lookBehind hoD (by rw [hdD]; exact pastItsLine_dict (Nat.le_trans hcD (by rw [List.length_cons]; omega))) ?_)
  exact wpAny_pure (h _ ⟨(hs2.2 _ (Ne.symm I.ne)).trans I.obj, hn2, I.ne⟩ hs2)

theorem make_map {R : Result → Shared → Prop} {vs : List Value} {kw : List (Str × Value)} (X : K.In s.heap) (hm : PySem.W.makesIn K C = true)
    (hi : PySem.W.findIn K (.ref C) "__init__" = some (some (.ref f))) (hf : PySem.W.typeIn K (.ref f) = some (.type "function"))
    (h : codeAny (model prog w) (A.under (.builtin "type.__call__" ⟨.ref C :: vs, kw⟩)) (.call (.ref f) ⟨.ref (s.heap.objs.size + 1) :: vs, kw⟩) (PySem.W.InitBack (s.heap.objs.size + 1) R)
      { s with heap := (s.heap.push PySem.W.emptyDict).push (PySem.W.instObj C s.heap.objs.size) }) :
    codeAny (model prog w) A (.call (.ref C) ⟨vs, kw⟩) R s := by
  obtain ⟨hh, g, d, t, os⟩ := s
  exact PySem.W.make_core (PySem.W.makes_of X hm) (PySem.W.looks_findIn X hi) (fun self => PySem.W.bind_fn X self hf) (.inl rfl) h
end

def putF (f : Str) (v : V) : List (Str × V) → List (Str × V)
  | [] => [(f, v)]
  | (g, x) :: r => if g = f then (g, v) :: r else (g, x) :: putF f v r
theorem lookup_putF (f g : Str) (v : V) : ∀ fs : List (Str × V), (putF f v fs).lookup g = if g = f then some v else fs.lookup g
  | [] => by
    show List.lookup g [(f, v)] = _
    by_cases h : g = f
    · have hb : (g == f) = true := beq_iff_eq.mpr h
      simp only [List.lookup, hb, if_pos h]
    · have hb : (g == f) = false := beq_eq_false_iff_ne.mpr h
      simp only [List.lookup, hb, if_neg h]
  | (k, x) :: r => by
    have ih := lookup_putF f g v r
    rw [show putF f v ((k, x) :: r) = (if k = f then (k, v) :: r else (k, x) :: putF f v r) from rfl]
    by_cases hk : k = f
    · rw [if_pos hk]
      by_cases h : g = k
      · have hb : (g == k) = true := beq_iff_eq.mpr h
        simp only [List.lookup, hb, if_pos (h.trans hk)]
      · have hb : (g == k) = false := beq_eq_false_iff_ne.mpr h
        simp only [List.lookup, hb, if_neg (fun e : g = f => h (e.trans hk.symm))]
    · rw [if_neg hk]
      by_cases h : g = k
      · have hb : (g == k) = true := beq_iff_eq.mpr h
        simp only [List.lookup, hb, if_neg (fun e : g = f => hk (h.symm.trans e))]
      · have hb : (g == k) = false := beq_eq_false_iff_ne.mpr h
        simp only [List.lookup, hb]
        exact ih
theorem keys_putF (f : Str) (v : V) : ∀ fs : List (Str × V), f ∈ (putF f v fs).map (·.1) ∧ ∀ g, g ∈ fs.map (·.1) → g ∈ (putF f v fs).map (·.1)
  | [] => ⟨by simp [putF], fun g h => by simp at h⟩
  | (k, x) :: r => by
    obtain ⟨i1, i2⟩ := keys_putF f v r
    rw [show putF f v ((k, x) :: r) = (if k = f then (k, v) :: r else (k, x) :: putF f v r) from rfl]
    by_cases hk : k = f
    · rw [if_pos hk]
      subst hk
      exact ⟨by simp, fun g h => by simpa using h⟩
    · rw [if_neg hk]
      refine ⟨?_, fun g h => ?_⟩
      · rw [List.map_cons]
        exact List.mem_cons_of_mem _ i1
      · rw [List.map_cons] at h ⊢
        rcases List.mem_cons.mp h with e | e
        · exact List.mem_cons.mpr (.inl e)
        · exact List.mem_cons_of_mem _ (i2 g e)
theorem length_putF (f : Str) (v : V) : ∀ fs : List (Str × V), (putF f v fs).length ≤ fs.length + 1
  | [] => by simp [putF]
  | (k, x) :: r => by
    have ih := length_putF f v r
    rw [show putF f v ((k, x) :: r) = (if k = f then (k, v) :: r else (k, x) :: putF f v r) from rfl]
    by_cases hk : k = f
    · rw [if_pos hk, List.length_cons, List.length_cons]; omega
    · rw [if_neg hk, List.length_cons, List.length_cons]; omega

theorem RelO.some_of {v : V} {o : Option Value} (r : RelO (some v) o) : ∃ u, o = some u ∧ RelV v u := by
  cases o with
  | none => exact (show False from r).elim
  | some u => exact ⟨u, rfl, r⟩
theorem RelO.none_of {o : Option Value} (r : RelO none o) : o = none := by
  cases o with
  | none => rfl
  | some u => exact (show False from r).elim
theorem handed_of {v : V} {u : Value} (r : RelV v u) : PySem.W.handedIn u = true := by
  cases v with
  | non => cases (show u = Value.none from r); rfl
  | bl b => cases (show u = Value.bool b from r); rfl
  | int i => obtain ⟨t, e⟩ := (show ∃ t, u = Value.int i t from r); cases e; rfl
  | str x => obtain ⟨t, e⟩ := (show ∃ t, u = Value.str x t from r); cases e; rfl
  | byt b => obtain ⟨t, e⟩ := (show ∃ t, u = Value.bytes b t from r); cases e; rfl
  | flt b => obtain ⟨t, e⟩ := (show ∃ t, u = Value.float b t from r); cases e; rfl
  | ref a => cases (show u = Value.ref a from r); rfl
  | ty n => cases (show u = Value.type n from r); rfl

section
variable {P : Program} {w : World} {H H' : Hp} {h h' : Heap} {a C dx : Addr} {fs fs' : List (Str × V)}
theorem ins_get (hok : HOk P w H h) (e : H a = some (.ins C dx fs)) : ∃ mA, ObjM h a dx C mA ∧ (∀ f, RelO (fs.lookup f) (mA f)) ∧ PySem.Within mA (fs.map (·.1)) ∧ fs.length ≤ 1000 ∧ H dx = some (.own a) := by
  obtain ⟨d, z, ne, ob, mA, n, r, q⟩ := (show ObjOk P w H h a (.ins C dx fs) from hok a _ e)
  exact ⟨mA, ⟨ob, n, ne⟩, r, q, z, d⟩
end

structure Cls (K : PySem.W.Frag) (C : Addr) : Prop where
  pg : PySem.W.plainGet K C Str.empty = true
  hd : PySem.W.hasDictIn K C = true
  po : PySem.W.plainOver K C = true
  sa : PySem.W.findIn K (.ref C) "__setattr__" = some (some (.builtin "object.__setattr__"))
theorem Cls.get {K : PySem.W.Frag} {C : Addr} (c : Cls K C) (f : Str) : PySem.W.plainGet K C f = true := c.pg
def NoAttr (K : PySem.W.Frag) (C : Addr) (f : Str) : Prop := PySem.W.findIn K (.ref C) f = some none
theorem NoAttr.taker {K : PySem.W.Frag} {C : Addr} {f : Str} (n : NoAttr K C f) : PySem.W.takerIn K C f = some none := by
  unfold PySem.W.takerIn
  rw [show PySem.W.findIn K (.ref C) f = some none from n]
  rfl
structure Meth (K : PySem.W.Frag) (C : Addr) (m : Str) (f : Addr) : Prop where
  at_ : PySem.W.findIn K (.ref C) m = some (some (.ref f))
  fn : PySem.W.isFn K (.ref f) = true
  kp : PySem.W.keepIn K (.ref f) = true

section
variable {X : Cx} {pins : List (Addr × Obj)} {σ : St} {H : Hp} {s : Shared} {a C dx : Addr} {fs : List (Str × V)} {f : Str} {v : V} {A : Around} {E : Value → Shared → Prop}

theorem getattr_ok {b : Bool} {Q : Value → Shared → Prop} (I : Inv X pins σ H s) (e : H a = some (.ins C dx fs)) (c : Cls X.K C) (n : NoAttr X.K C f) (l : fs.lookup f = some v)
    (h : ∀ u s', Inv X pins σ H s' → RelV v u → Q u s') : wpAny (model X.prog X.w) A (getAttr (.ref a) f b) Q E s := by
  obtain ⟨mA, O, r, _, _, _⟩ := ins_get I.hok e
  obtain ⟨u, hu, ru⟩ := RelO.some_of (v := v) (o := mA f) (by rw [← l]; exact r f)
  exact get_map I.kIn O (c.get f) c.hd n hu (handed_of ru) (h u _ (I.tok _) ru)

theorem getmeth_ok {m : Str} {g : Addr} {pl : Sem Bool} {Q : Value × List Value → Shared → Prop} (I : Inv X pins σ H s) (e : H a = some (.ins C dx fs)) (c : Cls X.K C) (k : Meth X.K C m g) (l : fs.lookup m = none)
    (h : Q (.ref g, [.ref a]) s) : wpAny (model X.prog X.w) A (getMethod (.ref a) m pl) Q E s := by
  obtain ⟨mA, O, r, _, _, _⟩ := ins_get I.hok e
  have hn : mA m = none := RelO.none_of (by rw [← l]; exact r m)
  exact get_meth I.kIn O (c.get m) k.at_ k.fn hn h

theorem setattr_ok {y : V} {u : Value} {Q : Unit → Shared → Prop} (I : Inv X pins σ H s) (e : H a = some (.ins C dx fs)) (c : Cls X.K C) (n : NoAttr X.K C f) (hl : fs.length < 1000) (ry : RelV y u)
    (h : ∀ s', Inv X pins σ (upd H a (.ins C dx (putF f y fs))) s' → Q () s') : wpAny (model X.prog X.w) A (setAttr (.ref a) f u) Q E s := by
  obtain ⟨mA, O, r, wi, _, ho⟩ := ins_get I.hok e
  have hz : (fs.map (·.1)).length ≤ sizeLine := by rw [List.length_map, sizeLine_eq]; omega
  refine set_map I.kIn O c.sa c.po n.taker c.hd wi hz fun h' O' sb => h _ ?_
  have hd : ∃ o, h'.get? dx = some o := let ⟨o, _, _, e', _⟩ := O'.ns; ⟨o, e'⟩
  refine I.write (x := a) (e := dx) (by rw [e]; exact True.intro) (.inr ho) (fun b q hb z => (sb.2 b hb).trans z) hd ?_
  refine ⟨by rw [upd_ne O.ne]; exact ho, ?_, O.ne, O'.obj, _, O'.ns, fun g => ?_, fun g hg => ?_⟩
  · have := length_putF f y fs; omega
  · show RelO ((putF f y fs).lookup g) (if g = f then some u else mA g)
    rw [lookup_putF]
    by_cases q : g = f
    · rw [if_pos q, if_pos q]; exact ry
    · rw [if_neg q, if_neg q]; exact r g
  · by_cases q : g = f
    · rw [q]; exact (keys_putF f y fs).1
    · refine (keys_putF f y fs).2 g (wi g fun z => hg ?_)
      show (if g = f then some u else mA g) = none
      rw [if_neg q]; exact z

theorem Inv.made (I : Inv X pins σ H s) : Inv X pins σ (upd (upd H s.heap.objs.size (.own (s.heap.objs.size + 1))) (s.heap.objs.size + 1) (.ins C s.heap.objs.size []))
    { s with heap := (s.heap.push PySem.W.emptyDict).push (PySem.W.instObj C s.heap.objs.size) } := by
  have e1 : (s.heap.push PySem.W.emptyDict).get? s.heap.objs.size = some PySem.W.emptyDict := Heap.get?_push_size s.heap rfl
  have e2 : ((s.heap.push PySem.W.emptyDict).push (PySem.W.instObj C s.heap.objs.size)).get? (s.heap.objs.size + 1) = some (PySem.W.instObj C s.heap.objs.size) := by
    have := Heap.get?_push_size (s.heap.push PySem.W.emptyDict) (o := PySem.W.instObj C s.heap.objs.size) rfl
    rwa [Heap.size_push] at this
  have e3 : (s.heap.push PySem.W.emptyDict).Ns s.heap.objs.size (fun _ => none) := ⟨PySem.W.emptyDict, #[], _, e1, rfl, (fun e he => absurd he (by simp)), fun _ => rfl⟩
  have I1 := I.laid (a := s.heap.objs.size) (o := .own (s.heap.objs.size + 1)) (h' := s.heap.push PySem.W.emptyDict) (t' := s.toks) (fun b u q => Heap.get?_push_of_some _ q) (Nat.le_refl _) ⟨_, e1⟩
  refine I1.laid (a := s.heap.objs.size + 1) (o := .ins C s.heap.objs.size []) (t' := s.toks) (fun b u q => Heap.get?_push_of_some _ q) (Nat.le_of_eq (Heap.size_push _ _)) ?_
  have ne : s.heap.objs.size ≠ s.heap.objs.size + 1 := Nat.ne_of_lt (Nat.lt_succ_self _)
  refine ⟨by rw [upd_ne ne, upd_same], Nat.zero_le _, ne, e2, fun _ => none, (Heap.Ns1.of_empty e3).at fun o q => Heap.get?_push_of_some _ q, fun _ => True.intro, fun y hy => absurd rfl hy⟩

theorem attr_of {prog : Program} {w : World} {env : Env} {e : Expr} {f : Str} {pos : Pos} {s : Shared} {Q : Value → Shared → Prop} (hb : attributeBase e f env (eval e env) = eval e env)
    (h : wpAny (model prog w) A (eval e env) (fun o s₁ => wpAny (model prog w) A (getAttr o f true) Q E s₁) E s) : wpAny (model prog w) A (eval (.Attribute e f pos) env) Q E s :=
  Attribute_any_ h (by rw [arm_eval_Attribute, hb])
end

def tFld (K : PySem.W.Frag) (ta : TE) (f : Str) : TE := fun σ H Q => ta σ H fun x H1 => ∃ a C dx fs v, x = .ref a ∧ H1 a = some (.ins C dx fs) ∧ Cls K C ∧ NoAttr K C f ∧ fs.lookup f = some v ∧ Q v H1
def sFld (K : PySem.W.Frag) (ta tv : TE) (f : Str) : TS := fun D σ H => tv σ H fun y H1 => ta σ H1 fun x H2 => ∃ a C dx fs, x = .ref a ∧ H2 a = some (.ins C dx fs) ∧ Cls K C ∧ NoAttr K C f ∧ fs.length < 1000 ∧
  D.nx σ (upd H2 a (.ins C dx (putF f y fs)))
section
variable {X : Cx} {o e value : Expr} {f : Str} {pos pos' tpos : Pos} {ta tv : TE}
theorem pe_fld (he : PE X e ta) (hb : attributeBase e f X.env (eval e X.env) = eval e X.env) : PE X (.Attribute e f pos) (tFld X.K ta f) := by
  intro pins s σ H Q I h
  refine attr_of hb (thn (he pins s σ H _ I h) fun u s1 ⟨x, H1, I1, rx, a, C, dx, fs, v, ex, ea, c, n, l, q⟩ => ?_)
  subst ex
  obtain rfl : u = Value.ref a := rx
  exact getattr_ok I1 ea c n l fun u' s2 I2 ru => ⟨v, H1, I2, ru, q⟩
theorem ps_fld (ha : PE X o ta) (hv : PE X value tv) (hs : swapsWith value (some (.Attribute o f pos')) pos.line X.env = pure false) : PS X (.Assign [.Attribute o f pos'] value pos) (sFld X.K ta tv f) := by
  intro pins s σ H D I h
  refine plainObj_wpAny_Assign_Attribute (thn (hv pins s σ H _ I h) fun u s1 ⟨y, H1, I1, ry, q⟩ => thn (ha pins s1 σ H1 _ I1 q) fun ov s2 ⟨x, H2, I2, rx, a, C, dx, fs, ex, ea, c, n, l, q2⟩ => ?_) hs
  subst ex
  obtain rfl : ov = Value.ref a := rx
  exact setattr_ok I2 ea c n l ry fun s3 I3 => ⟨σ, _, I3, q2⟩
end

section
variable {X : Cx} {pins : List (Addr × Obj)} {σ : St} {H : Hp} {s : Shared} {A : Around} {E : Value → Shared → Prop} {Q : Value → Shared → Prop} {c : Value} {b : Bool}
inductive TyOf (K : PySem.W.Frag) (H : Hp) : V → Value → Prop where
  | non : TyOf K H .non (.type "NoneType")
  | bl (x : Bool) : TyOf K H (.bl x) (.type "bool")
  | int (i : Int) : TyOf K H (.int i) (.type "int")
  | str (x : Str) : TyOf K H (.str x) (.type "str")
  | flt (x : UInt64) : TyOf K H (.flt x) (.type "float")
  | lst {a : Addr} {xs : List V} (e : H a = some (.lst xs)) : TyOf K H (.ref a) (.type "list")
  | frz {a : Addr} {o : Obj} {xs : List V} (e : H a = some (.frz o (.lst xs))) : TyOf K H (.ref a) (.type "list")
  | tup {a : Addr} {xs : List V} (e : H a = some (.tup xs)) : TyOf K H (.ref a) (.type "tuple")
  | dK {a : Addr} {kvs : List (Key × V)} (e : H a = some (.dK kvs)) : TyOf K H (.ref a) (.type "dict")
  | dT {a : Addr} {kvs : List (List Key × V)} (e : H a = some (.dT kvs)) : TyOf K H (.ref a) (.type "dict")
  | ins {a C dx : Addr} {fs : List (Str × V)} (e : H a = some (.ins C dx fs)) (cl : Cls K C) (ha : PySem.W.findIn K (.ref C) "__class__" = some (some (.builtin "object.__class__")))
      (hn : PySem.W.specialIn K (.builtin "object.__class__") "__get__" = some (some (.builtin "getset_descriptor.__get__"))) (htk : PySem.W.takesIn K (.builtin "object.__class__") = some true)
      (hm : PySem.W.mroIn K C (.type "object") = some true) : TyOf K H (.ref a) (.ref C)
theorem isinst_ok {x : V} {u t : Value} (I : Inv X pins σ H s) (rx : RelV x u) (ty : TyOf X.K H x t) (e : PySem.W.kitOne X.K t c = some b) (h : ∀ tk, Q (.bool b) { s with toks := tk }) :
    wpAny (model X.prog X.w) A (call (.builtin "isinstance") [u, c]) Q E s := by
  cases ty with
  | non => cases (show u = Value.none from rx); exact PySem.W.kia_one PySem.W.kitx_none I.kIn True.intro e (fun z => nomatch z) h
  | bl y => cases (show u = Value.bool y from rx); exact PySem.W.kia_one PySem.W.kitx_bool I.kIn True.intro e (fun z => nomatch z) h
  | int i => obtain ⟨t, q⟩ := (show ∃ t, u = Value.int i t from rx); cases q; exact PySem.W.kia_one PySem.W.kitx_int I.kIn True.intro e (fun z => nomatch z) h
  | str y => obtain ⟨t, q⟩ := (show ∃ t, u = Value.str y t from rx); cases q; exact PySem.W.kia_one PySem.W.kitx_str I.kIn True.intro e (fun z => nomatch z) h
  | flt y => obtain ⟨t, q⟩ := (show ∃ t, u = Value.float y t from rx); cases q; exact PySem.W.kia_one PySem.W.kitx_float I.kIn True.intro e (fun z => nomatch z) h
  | @lst a xs ea =>
    cases (show u = Value.ref a from rx)
    obtain ⟨_, _, n, _, h1⟩ := (show ObjOk X.prog X.w H s.heap a (.lst xs) from I.hok a _ ea)
    exact PySem.W.kia_one PySem.W.kitx_list I.kIn ⟨_, h1, rfl⟩ e (fun z => nomatch z) h
  | @frz a ob xs ea =>
    cases (show u = Value.ref a from rx)
    obtain ⟨_, _, _, n, _, h1⟩ := (show ObjOk X.prog X.w H s.heap a (.frz ob (.lst xs)) from I.hok a _ ea)
    exact PySem.W.kia_one PySem.W.kitx_list I.kIn ⟨_, h1, rfl⟩ e (fun z => nomatch z) h
  | @tup a xs ea =>
    cases (show u = Value.ref a from rx)
    obtain ⟨_, _, _, p⟩ := (show ObjOk X.prog X.w H s.heap a (.tup xs) from I.hok a _ ea)
    obtain ⟨o, h1, h2, _⟩ := p
    exact PySem.W.kia_one PySem.W.kitx_tuple I.kIn ⟨o, h1, h2⟩ e (fun z => nomatch z) h
  | @dK a kvs ea =>
    cases (show u = Value.ref a from rx)
    obtain ⟨_, _, vs, _, p⟩ := (show ObjOk X.prog X.w H s.heap a (.dK kvs) from I.hok a _ ea)
    obtain ⟨o, es, ep, h1, h2, _⟩ := p
    exact PySem.W.kia_one PySem.W.kitx_dict I.kIn ⟨o, h1, h2.1⟩ e (fun z => nomatch z) h
  | @dT a kvs ea =>
    cases (show u = Value.ref a from rx)
    obtain ⟨_, _, xs, _, o, es, ep, h1, h2, _⟩ := (show ObjOk X.prog X.w H s.heap a (.dT kvs) from I.hok a _ ea)
    exact PySem.W.kia_one PySem.W.kitx_dict I.kIn ⟨o, h1, h2.1⟩ e (fun z => nomatch z) h
  | @ins a C dx fs ea cl ha hn htk hm =>
    cases (show u = Value.ref a from rx)
    obtain ⟨mA, O, _⟩ := ins_get I.hok ea
    obtain ⟨od, J, _⟩ := O.look
    exact PySem.W.kia_one (PySem.W.kitx_own (cl.get _) cl.hd ha hn htk hm) I.kIn J e (fun z => nomatch z) h
end
end L2

namespace L2
open PySem PySem.Spec PyProof.Rows

structure Room (k : Nat) (A : Around) : Prop where
  hd : A.handled = none
  dp : A.depth + 3 * k + 5 < recursionLimit
  un : A.units + 16 * k + 200 < cLine
theorem Room.mono {j k : Nat} {A : Around} (r : Room k A) (h : j ≤ k) : Room j A := ⟨r.hd, by have := r.dp; omega, by have := r.un; omega⟩
theorem Room.deeper {k : Nat} {A : Around} (r : Room (k + 1) A) (env : Env) : Room k (A.deeper env) :=
  ⟨r.hd, by have := r.dp; show A.depth + 1 + 3 * k + 5 < _; omega, by have := r.un; show A.units + 3 + 16 * k + 200 < _; omega⟩
theorem make_depth {A : Around} {C : Addr} {us : List Value} {kw : List (Str × Value)} : (A.under (.builtin "type.__call__" ⟨.ref C :: us, kw⟩)).depth = A.depth + 1 := by
  first | rfl | simp [Around.under, Code.weight, Code.isCreation, Code.isGuard, Code.isCaller, Code.frames, Code.isFrame, guardIds]
theorem make_units {A : Around} {C : Addr} {us : List Value} {kw : List (Str × Value)} : (A.under (.builtin "type.__call__" ⟨.ref C :: us, kw⟩)).units = A.units + 1 := by
  first | rfl | simp [Around.under, Code.cUnits, Code.frames, Code.isFrame]
theorem Room.make {k : Nat} {A : Around} (r : Room (k + 1) A) (C : Addr) (us : List Value) (kw : List (Str × Value)) : Room k (A.under (.builtin "type.__call__" ⟨.ref C :: us, kw⟩)) :=
  ⟨r.hd, by have := r.dp; rw [make_depth]; omega, by have := r.un; rw [make_units]; omega⟩
theorem Room.depth {k : Nat} {A : Around} (r : Room k A) : A.depth < recursionLimit := by have := r.dp; omega
theorem Room.units {k : Nat} {A : Around} (r : Room k A) : A.units + 64 < cLine := by have := r.un; omega
def tNil : TA := fun _ H Q => Q [] H
def tCons (ta : TE) (tr : TA) : TA := fun σ H Q => ta σ H fun x H1 => tr σ H1 fun xs H2 => Q (x :: xs) H2
section
variable {X : Cx} {e : Expr} {es : List Expr} {te : TE} {t : TA} {pos : Pos}
theorem pa_nil : PA X [] tNil := fun _ _ _ _ H Q I h => Calls.spliced_nil ⟨[], H, I, .nil, h⟩
theorem pa_cons (ha : PE X e te) (hr : PA X es t) (hs : starEach (e :: es) X.env = (false, eval e X.env) :: starEach es X.env := by rfl) : PA X (e :: es) (tCons te t) := by
  intro pos pins s σ H Q I h
  rw [hs]
  show wpAny _ _ (spliced ((false, eval e X.env) :: backTo pos (starEach es X.env))) _ _ s
  refine Calls.spliced_cons (thn (ha pins s σ H _ I h) fun u s1 ⟨x, H1, I1, r1, q1⟩ => ?_)
  exact thn (hr pos pins s1 σ H1 _ I1 q1) fun us s2 ⟨xs, H2, I2, r2, q2⟩ => ⟨x :: xs, H2, I2, .cons r1 r2, q2⟩

def tTup (t : TA) : TE := fun σ H Q => t σ H fun xs H1 => xs.length ≤ sizeLine ∧ ∀ p, H1 p = none → Q (.ref p) (upd H1 p (.tup xs))
def tLst (t : TA) : TE := fun σ H Q => t σ H fun xs H1 => xs.length ≤ sizeLine ∧ ∀ p, H1 p = none → Q (.ref p) (upd H1 p (.lst xs))
theorem pe_tup {x1} (h : PA X es t) : PE X (.Tuple es x1 pos) (tTup t) := by
  intro pins s σ H Q I hq
  refine wpAny_Tuple_spliced (thn (h pos pins s σ H _ I hq) fun us s1 ⟨xs, H1, I1, r, z, q⟩ => ⟨by rw [← r.length]; exact z, ?_⟩)
  have hf : H1 s1.heap.objs.size = none := I1.hok.fresh (Nat.le_refl _)
  refine ⟨.ref s1.heap.objs.size, upd H1 s1.heap.objs.size (.tup xs), I1.laid (t' := s1.toks) (fun b u e => Heap.get?_push_of_some _ e) (Nat.le_refl _) ?_, rfl, q _ hf⟩
  exact ⟨z, us, r, ⟨_, Heap.get?_push_size _ rfl, rfl, _, rfl⟩⟩
theorem pe_lst (h : PA X es t) : PE X (.List es pos) (tLst t) := by
  intro pins s σ H Q I hq
  refine wpAny_List_spliced (thn (h pos pins s σ H _ I hq) fun us s1 ⟨xs, H1, I1, r, z, q⟩ => ⟨by rw [← r.length]; exact z, ?_⟩)
  have hf : H1 s1.heap.objs.size = none := I1.hok.fresh (Nat.le_refl _)
  refine ⟨.ref s1.heap.objs.size, upd H1 s1.heap.objs.size (.lst xs), I1.laid (t' := s1.toks) (fun b u e => Heap.get?_push_of_some _ e) (Nat.le_refl _) ?_, rfl, q _ hf⟩
  exact ⟨z, us, 0, r, Heap.get?_push_size _ rfl⟩
end

abbrev Sp := List V → Hp → VK → XK → Prop
abbrev CXT := List Env → Hp → Shared → XK → Value → Shared → Prop

structure Env0 (P : Program) (w : World) (K : PySem.W.Frag) (mg : Str → Option Value) (base : Heap) (A : Around) (outer : List Env) (s : Shared) (H : Hp) : Prop where
  frames : A.frames = some outer
  mod : Mod K mg base
  bs : ∀ b o, base.get? b = some o → s.heap.get? b = some o ∧ H b = none
  bsz : base.objs.size ≤ s.heap.objs.size
  funs : s.heap.FunFrames base outer
  frf : ∀ b ∈ frs outer, H b = none
  hok : HOk P w H s.heap
  bare : AllBare s.gens
def CE (outer : List Env) (P : Program) (w : World) (H : Hp) (s : Shared) (Q : VK) (u : Value) (s' : Shared) : Prop :=
  ∃ v H', s'.os = s.os ∧ AllBare s'.gens ∧ Un (frs outer) [] H H' s.heap s'.heap ∧ HOk P w H' s'.heap ∧ RelV v u ∧ Q v H'
def CR (CX : CXT) (outer : List Env) (P : Program) (w : World) (H : Hp) (s : Shared) (Q : VK) (E : XK) (r : Result) (s' : Shared) : Prop :=
  match r with
  | .ok (.ret u) => CE outer P w H s Q u s'
  | .ok _ => False
  | .error e => CX outer H s E e s'
structure FnOk (P : Program) (w : World) (K : PySem.W.Frag) (mg : Str → Option Value) (base : Heap) (CX : CXT) (k : Nat) (f : Addr) (fd : FuncData) (ps : List Str) (sp : Sp) : Prop where
  len : ∀ vs H Q E, sp vs H Q E → vs.length = ps.length
  run : ∀ (A : Around) (outer : List Env) (s : Shared) (H : Hp) (args : Args) (us : List Value) (vs : List V) (Q : VK) (E : XK), Room k A → Env0 P w K mg base A outer s H → BindsTo s fd args (ps.zip us) → Vals vs us → sp vs H Q E →
    codeAny (model P w) A (.call (.ref f) args) (CR CX outer P w H s Q E) s
theorem Env0.make {P : Program} {w : World} {K : PySem.W.Frag} {mg : Str → Option Value} {base : Heap} {A : Around} {outer : List Env} {s : Shared} {H : Hp} (e : Env0 P w K mg base A outer s H) (C : Addr) (us : List Value) (kw : List (Str × Value)) :
    Env0 P w K mg base (A.under (.builtin "type.__call__" ⟨.ref C :: us, kw⟩)) outer s H := ⟨by first | exact e.frames | (simpa [Around.under, Code.envs, Code.isFrame, pushEnvs] using e.frames), e.mod, e.bs, e.bsz, e.funs, e.frf, e.hok, e.bare⟩
section
variable {X : Cx} {pins : List (Addr × Obj)} {σ : St} {H : Hp} {s s' : Shared}
theorem Inv.env0 (I : Inv X pins σ H s) : Env0 X.prog X.w X.K X.mg X.base X.A X.stack s H :=
  ⟨I.ok.frames, I.ok.mod, I.bs, Nat.le_trans I.ok.bsz I.sz, I.stack, I.stkFree, I.hok, I.bare⟩
theorem Inv.after {Q : VK} {u : Value} (I : Inv X pins σ H s) (h : CE X.stack X.prog X.w H s Q u s') : EP X pins σ Q u s' := by
  obtain ⟨v, H', os, bare, un, hok, r, q⟩ := h
  obtain ⟨hh, g, d, t, os'⟩ := s'
  obtain rfl : os' = s.os := os
  exact ⟨v, H', I.call (h' := hh) (g' := g) (d' := d) (t' := t) (ch := []) un hok bare (fun b z => absurd z (by simp)), r, q⟩
end

def tCall (sp : Sp) (dvs : List V) (E : XK) (t : TA) : TE := fun σ H Q => t σ H fun vs H1 => sp (vs ++ dvs) H1 Q E
def tMeth (C : Addr) (m : Str) (sp : Sp) (dvs : List V) (E : XK) (ta : TE) (t : TA) : TE := fun σ H Q => ta σ H fun x H1 => ∃ a dx fs, x = .ref a ∧ H1 a = some (.ins C dx fs) ∧ fs.lookup m = none ∧
  t σ H1 fun vs H2 => sp (x :: (vs ++ dvs)) H2 Q E
def tMake (C : Addr) (sp : Sp) (dvs : List V) (E : XK) (t : TA) : TE := fun σ H Q => t σ H fun vs H1 => ∀ x dx, H1 x = none → H1 dx = none → dx ≠ x →
  sp (.ref x :: (vs ++ dvs)) (upd (upd H1 dx (.own x)) x (.ins C dx [])) (fun v H2 => v = .non ∧ Q (.ref x) H2) E

def Binds (K : PySem.W.Frag) (fd : FuncData) (ps : List Str) (ds : List Value) : Prop :=
  ∀ (s : Shared) (us : List Value), K.In s.heap → (us ++ ds).length = ps.length → BindsTo s fd ⟨us, []⟩ (ps.zip (us ++ ds))
theorem Binds.all {K : PySem.W.Frag} {fd : FuncData} {ps : List Str} (h : ∀ us : List Value, us.length = ps.length → bindArgs fd ⟨us, []⟩ = pure (ps.zip us)) : Binds K fd ps [] := fun s us _ hl => by
  rw [List.append_nil] at hl ⊢
  exact .of_eq (h us hl)

def Passes (CX : CXT) (X : Cx) (E : XK) : Prop := ∀ (pins : List (Addr × Obj)) (σ : St) (H : Hp) (s : Shared) (e : Value) (s' : Shared), Inv X pins σ H s → CX X.stack H s E e s' → X.xe e s'

section
variable {X : Cx} {CX : CXT} {k : Nat} {f C : Addr} {fd : FuncData} {ps : List Str} {sp : Sp} {dvs : List V} {ds : List Value} {E : XK} {x m : Str} {p pos apos : Pos} {e o : Expr} {es : List Expr} {ta : TE} {t : TA}

theorem run_fn {pins : List (Addr × Obj)} {σ : St} {H : Hp} {s : Shared} {Q : VK} {us : List Value} {vs : List V} (F : FnOk X.prog X.w X.K X.mg X.base CX k f fd ps sp) (hr : Room k X.A) (hb : Binds X.K fd ps ds) (hd : Vals dvs ds) (hx : Passes CX X E)
    (I : Inv X pins σ H s) (r : Vals vs us) (h : sp (vs ++ dvs) H Q E) : wpAny (model X.prog X.w) X.A (call (.ref f) us) (EP X pins σ Q) X.xe s := by
  have r2 : Vals (vs ++ dvs) (us ++ ds) := r.append hd
  have hl : (us ++ ds).length = ps.length := by rw [← r2.length]; exact F.len _ _ _ _ h
  refine wpAny_call (codeAny_mono (F.run X.A X.stack s H ⟨us, []⟩ (us ++ ds) (vs ++ dvs) Q E hr I.env0 (hb s us I.kIn hl) r2 h) fun r s' hq => ?_)
  cases r with
  | error e => exact hx pins σ H s e s' I hq
  | ok fl =>
    cases fl with
    | ret u => exact I.after hq
    | next => exact False.elim hq
    | brk => exact False.elim hq
    | cont => exact False.elim hq

theorem pe_call (F : FnOk X.prog X.w X.K X.mg X.base CX k f fd ps sp) (hr : Room k X.A) (hg : Gl X x) (hm : X.mg x = some (.ref f)) (hk : PySem.W.keepIn X.K (.ref f) = true) (hb : Binds X.K fd ps ds) (hd : Vals dvs ds) (hx : Passes CX X E)
    (ha : PA X (e :: es) t) (hdb : (x == ("__debug__" : Str)) = false := by decide) (he : starEach (e :: es) X.env = (false, eval e X.env) :: starEach es X.env := by rfl) (hpl : (backTo pos (starEach es X.env)).any (·.1) = false := by rfl) :
    PE X (.Call (.Name x p) (e :: es) [] pos) (tCall sp dvs E t) := by
  intro pins s σ H Q I h
  refine wpAny_Call_Name_kw (ld_glob I hg hm ?_ hdb)
  refine PySem.W.callWith_K (h₀ := X.base) I.ok.mod.kin hk (thn (ha pos pins s σ H _ I h) fun us s1 ⟨vs, H1, I1, r, q⟩ => ⟨I1.kIn, ?_⟩) he hpl
  exact run_fn F hr hb hd hx I1 r q
theorem pe_meth {pl : Sem Bool} (he : PE X o ta) (c : Cls X.K C) (hm : Meth X.K C m f) (F : FnOk X.prog X.w X.K X.mg X.base CX k f fd ps sp) (hr : Room k X.A) (hb : Binds X.K fd ps ds) (hd : Vals dvs ds) (hx : Passes CX X E) (ha : PA X (e :: es) t)
    (hst : starEach (e :: es) X.env = (false, eval e X.env) :: starEach es X.env := by rfl) (hpl : (backTo pos (starEach es X.env)).any (·.1) = false := by rfl)
    (ht : eval (.Call (.Attribute o m apos) (e :: es) [] pos) X.env = (do
      let ov ← eval o X.env
      standAt apos.atName
      let (f, first) ← holding [ov] (getMethod ov m pl)
      callWith pos f first (backTo pos (starEach (e :: es) X.env)) (backToKw pos (keywordEach [] X.env))) := by rfl) :
    PE X (.Call (.Attribute o m apos) (e :: es) [] pos) (tMeth C m sp dvs E ta t) := by
  intro pins s σ H Q I h
  refine PySem.W.methodCall_KW (pl := pl) (thn (he pins s σ H _ I h) fun u s1 ⟨x, H1, I1, rx, a, dx, fs, ex, ea, l, q⟩ => ?_) ht
  subst ex
  obtain rfl : u = Value.ref a := rx
  refine getmeth_ok I1 ea c hm l ?_
  refine PySem.W.callWith_K (first := [.ref a]) (h₀ := X.base) I.ok.mod.kin hm.kp (thn (ha pos pins s1 σ H1 _ I1 q) fun us s2 ⟨vs, H2, I2, r, q2⟩ => ⟨I2.kIn, ?_⟩) hst hpl
  exact run_fn (us := .ref a :: us) (vs := .ref a :: vs) F hr hb hd hx I2 (.cons rfl r) q2
theorem pe_meth0 {pl : Sem Bool} (he : PE X o ta) (c : Cls X.K C) (hm : Meth X.K C m f) (F : FnOk X.prog X.w X.K X.mg X.base CX k f fd ps sp) (hr : Room k X.A) (hb : Binds X.K fd ps ds) (hd : Vals dvs ds) (hx : Passes CX X E)
    (ht : eval (.Call (.Attribute o m apos) [] [] pos) X.env = (do
      let ov ← eval o X.env
      standAt apos.atName
      let (f, first) ← holding [ov] (getMethod ov m pl)
      callWith pos f first (backTo pos (starEach [] X.env)) (backToKw pos (keywordEach [] X.env))) := by rfl) :
    PE X (.Call (.Attribute o m apos) [] [] pos) (tMeth C m sp dvs E ta tNil) := by
  intro pins s σ H Q I h
  refine PySem.W.methodCall_KW (pl := pl) (thn (he pins s σ H _ I h) fun u s1 ⟨x, H1, I1, rx, a, dx, fs, ex, ea, l, q⟩ => ?_) ht
  subst ex
  obtain rfl : u = Value.ref a := rx
  refine getmeth_ok I1 ea c hm l ?_
  exact PySem.W.callWith_K0 (first := [.ref a]) I1.kIn hm.kp (run_fn (us := [.ref a]) (vs := [.ref a]) F hr hb hd hx I1 (.cons rfl .nil) q)

structure Mk (K : PySem.W.Frag) (C f : Addr) : Prop where
  makes : PySem.W.makesIn K C = true
  init : PySem.W.findIn K (.ref C) "__init__" = some (some (.ref f))
  fn : PySem.W.isFn K (.ref f) = true
  kp : PySem.W.keepIn K (.ref C) = true

theorem run_make {pins : List (Addr × Obj)} {σ : St} {H : Hp} {s : Shared} {Q : VK} {us : List Value} {vs : List V} (M : Mk X.K C f) (F : FnOk X.prog X.w X.K X.mg X.base CX k f fd ps sp) (hr : Room (k + 1) X.A) (hb : Binds X.K fd ps ds) (hd : Vals dvs ds)
    (hx : Passes CX X E) (I : Inv X pins σ H s) (r : Vals vs us)
    (h : ∀ x dx, H x = none → H dx = none → dx ≠ x → sp (.ref x :: (vs ++ dvs)) (upd (upd H dx (.own x)) x (.ins C dx [])) (fun v H2 => v = .non ∧ Q (.ref x) H2) E) :
    wpAny (model X.prog X.w) X.A (call (.ref C) us) (EP X pins σ Q) X.xe s := by
  have hq := h (s.heap.objs.size + 1) s.heap.objs.size (I.hok.fresh (Nat.le_succ _)) (I.hok.fresh (Nat.le_refl _)) (Nat.ne_of_lt (Nat.lt_succ_self _))
  have I2 := Inv.made (C := C) I
  have r2 : Vals (V.ref (s.heap.objs.size + 1) :: (vs ++ dvs)) (Value.ref (s.heap.objs.size + 1) :: (us ++ ds)) := .cons rfl (r.append hd)
  have hl : (Value.ref (s.heap.objs.size + 1) :: us ++ ds).length = ps.length := by
    have e := r2.length
    rw [F.len _ _ _ _ hq] at e
    exact e.symm
  refine wpAny_call (make_map (f := f) I.kIn M.makes M.init (beq_iff_eq.mp M.fn) (codeAny_mono (F.run _ X.stack _ _ ⟨Value.ref (s.heap.objs.size + 1) :: us, []⟩ (Value.ref (s.heap.objs.size + 1) :: (us ++ ds)) _ _ E (hr.make C us [])
    (I2.env0.make C us []) (hb _ (Value.ref (s.heap.objs.size + 1) :: us) I2.kIn hl) r2 hq) fun r s' hq' => ?_))
  cases r with
  | error e => exact hx pins σ _ _ e s' I2 hq'
  | ok fl =>
    cases fl with
    | ret u =>
      obtain ⟨v, H', I3, rv, ev, q3⟩ := I2.after hq'
      subst ev
      exact ⟨rv, ⟨V.ref (s.heap.objs.size + 1), H', I3, rfl, q3⟩⟩
    | next => exact False.elim hq'
    | brk => exact False.elim hq'
    | cont => exact False.elim hq'
theorem pe_make (M : Mk X.K C f) (F : FnOk X.prog X.w X.K X.mg X.base CX k f fd ps sp) (hr : Room (k + 1) X.A) (hg : Gl X x) (hm : X.mg x = some (.ref C)) (hb : Binds X.K fd ps ds) (hd : Vals dvs ds) (hx : Passes CX X E)
    (ha : PA X (e :: es) t) (hdb : (x == ("__debug__" : Str)) = false := by decide) (he : starEach (e :: es) X.env = (false, eval e X.env) :: starEach es X.env := by rfl) (hpl : (backTo pos (starEach es X.env)).any (·.1) = false := by rfl) :
    PE X (.Call (.Name x p) (e :: es) [] pos) (tMake C sp dvs E t) := by
  intro pins s σ H Q I h
  refine wpAny_Call_Name_kw (ld_glob I hg hm ?_ hdb)
  refine PySem.W.callWith_K (h₀ := X.base) I.ok.mod.kin M.kp (thn (ha pos pins s σ H _ I h) fun us s1 ⟨vs, H1, I1, r, q⟩ => ⟨I1.kIn, ?_⟩) he hpl
  exact run_make M F hr hb hd hx I1 r q
theorem pe_make0 (M : Mk X.K C f) (F : FnOk X.prog X.w X.K X.mg X.base CX k f fd ps sp) (hr : Room (k + 1) X.A) (hg : Gl X x) (hm : X.mg x = some (.ref C)) (hb : Binds X.K fd ps ds) (hd : Vals dvs ds) (hx : Passes CX X E)
    (hdb : (x == ("__debug__" : Str)) = false := by decide) : PE X (.Call (.Name x p) [] [] pos) (tMake C sp dvs E tNil) := by
  intro pins s σ H Q I h
  refine wpAny_Call_Name_kw (ld_glob I hg hm ?_ hdb)
  exact PySem.W.callWith_K0 I.kIn M.kp (run_make (us := []) M F hr hb hd hx I .nil h)
end

section
variable {X : Cx} {CX : CXT} {k : Nat} {f C : Addr} {fd : FuncData} {ps ks : List Str} {sp : Sp} {E : XK} {x m : Str} {p pos apos kpos : Pos} {e o : Expr} {es : List Expr} {kws : List Keyword} {te ta : TE} {t tk : TA} {nm : Option Str}
variable {g : List Value → List Value → List Value} {gV : List V → List V → List V}
end

structure FnScope (N P : List Str) (sc : Scope) : Prop where
  kind : sc.kind = .function
  co : sc.isCoroutine = false
  gen : sc.isGenerator = false
  nd : N.Nodup
  pre : N.take P.length = P
  par : ∀ x ∈ P, sc.names.lookup x = some .local ∨ sc.names.lookup x = some .cell
  nofree : ∀ y ∈ sc.names, y.2 ≠ .free

theorem bindL_out {kindOf : Str → Option NameKind} {x : Str} : ∀ {binds : List (Str × Value)} {m : Str → Option Value}, (∀ v, (x, v) ∉ binds) → bindL kindOf binds m x = m x
  | [], _, _ => rfl
  | (n, v) :: r, m, h => by
    unfold bindL
    rw [bindL_out fun w hw => h w (List.mem_cons_of_mem _ hw)]
    split
    · have : x ≠ n := by rintro rfl; exact h v List.mem_cons_self
      simp [this]
    · rfl
theorem bindC_out {kindOf : Str → Option NameKind} {x : Str} : ∀ {binds : List (Str × Value)} {m : Str → Option Value}, (∀ v, (x, v) ∉ binds) → bindC kindOf binds m x = m x
  | [], _, _ => rfl
  | (n, v) :: r, m, h => by
    unfold bindC
    rw [bindC_out fun w hw => h w (List.mem_cons_of_mem _ hw)]
    split
    · rfl
    · have : x ≠ n := by rintro rfl; exact h v List.mem_cons_self
      simp [this]
theorem bindL_get {kindOf : Str → Option NameKind} {x : Str} {v : Value} : ∀ {P : List Str} {vs : List Value} {i : Nat} {m : Str → Option Value}, P.Nodup → P[i]? = some x → vs[i]? = some v → kindOf x = some .local →
    bindL kindOf (P.zip vs) m x = some v
  | [], _, _, _, _, h, _, _ => by simp at h
  | _ :: _, [], _, _, _, _, h, _ => by simp at h
  | p :: P, w :: vs, 0, m, nd, h1, h2, hk => by
    simp at h1 h2; subst h1; subst h2
    show bindL kindOf ((p, w) :: P.zip vs) m p = _
    unfold bindL
    rw [bindL_out fun v hv => (List.nodup_cons.mp nd).1 (List.of_mem_zip hv).1, if_pos hk]
    simp
  | p :: P, w :: vs, i + 1, m, nd, h1, h2, hk => by
    show bindL kindOf ((p, w) :: P.zip vs) m x = _
    unfold bindL
    exact bindL_get (i := i) (List.nodup_cons.mp nd).2 (by simpa using h1) (by simpa using h2) hk
theorem bindC_get {kindOf : Str → Option NameKind} {x : Str} {v : Value} : ∀ {P : List Str} {vs : List Value} {i : Nat} {m : Str → Option Value}, P.Nodup → P[i]? = some x → vs[i]? = some v → kindOf x ≠ some .local →
    bindC kindOf (P.zip vs) m x = some v
  | [], _, _, _, _, h, _, _ => by simp at h
  | _ :: _, [], _, _, _, _, h, _ => by simp at h
  | p :: P, w :: vs, 0, m, nd, h1, h2, hk => by
    simp at h1 h2; subst h1; subst h2
    show bindC kindOf ((p, w) :: P.zip vs) m p = _
    unfold bindC
    rw [bindC_out fun v hv => (List.nodup_cons.mp nd).1 (List.of_mem_zip hv).1, if_neg hk]
    simp
  | p :: P, w :: vs, i + 1, m, nd, h1, h2, hk => by
    show bindC kindOf ((p, w) :: P.zip vs) m x = _
    unfold bindC
    exact bindC_get (i := i) (List.nodup_cons.mp nd).2 (by simpa using h1) (by simpa using h2) hk

def start (N : List Str) (vs : List V) : St := vs.map some ++ List.replicate (N.length - vs.length) none

def cxOf (CX : CXT) (P : Program) (w : World) (K : PySem.W.Frag) (mg : Str → Option Value) (base : Heap) (N : List Str) (qual : Str) (scope : Scope) (f : Addr) (cd : Value) (A : Around) (outer : List Env) (s : Shared) (H : Hp) (E : XK) : Cx where
  prog := P
  w := w
  K := K
  mg := mg
  base := base
  A := A.deeper (envOfC qual scope s.heap.objs.size f cd)
  N := N
  s₀ := s
  H₀ := H
  env := envOfC qual scope s.heap.objs.size f cd
  outer := outer
  stack := envOfC qual scope s.heap.objs.size f cd :: outer
  ex := []
  calm := true
  fn := fun _ => true
  pn := []
  xe := fun e s' => wpAny (model P w) (A.deeper (envOfC qual scope s.heap.objs.size f cd)) (leaving (envOfC qual scope s.heap.objs.size f cd) e) (fun _ s'' => CX outer H s E e s'') (fun e' s'' => CX outer H s E e' s'') s'

theorem cell_has {sc : Scope} {n : Nat} {x : Str} (h : sc.names.lookup x = some .cell) : ∃ c, (cellsFrom n sc.names []).lookup x = some c := by
  have q := PySem.W.cellsFrom_some sc.names n [] (.inl h)
  exact Option.isSome_iff_exists.mp q

theorem inv_start {CX : CXT} {P : Program} {w : World} {K : PySem.W.Frag} {mg : Str → Option Value} {base : Heap} {N ps : List Str} {qual : Str} {scope : Scope} {f : Addr} {cd : Value} {A : Around} {outer : List Env} {s s1 : Shared} {H : Hp} {E : XK} {us : List Value} {vs : List V}
    (S : FnScope N ps scope) (hd : A.handled = none) (e0 : Env0 P w K mg base A outer s H) (hl : vs.length = ps.length) (r : Vals vs us)
    (x : InCallC s s.heap.objs.size (bindL (envOfC qual scope s.heap.objs.size f cd).kindOf (ps.zip us) fun _ => none) (cellsFrom (s.heap.objs.size + 1) scope.names []) (bindC (envOfC qual scope s.heap.objs.size f cd).kindOf (ps.zip us) fun _ => none) s1) :
    Inv (cxOf CX P w K mg base N qual scope f cd A outer s H E) [] (start N vs) H s1 := by
  have hpl : ps.length ≤ N.length := by have := congrArg List.length S.pre; rw [List.length_take] at this; omega
  obtain ⟨h1, tk, rfl, hk⟩ := x.done
  have noA : ∀ b : Addr, b ∉ (cxOf CX P w K mg base N qual scope f cd A outer s H E).ex := fun b z => absurd (show b ∈ ([] : List Addr) from z) (by simp)
  refine ⟨⟨e0.mod, S.kind, rfl, rfl, Nat.le_refl _, fun y z c h1 h2 => ?_, fun y hy => ?_, fun y c _ h => ?_, fun _ => hd, Around.frames_deeper e0.frames, .inr ⟨rfl, rfl⟩, fun b z => absurd z (noA b), e0.bs, e0.bsz, fun b _ _ => noA b, fun b z => absurd z (noA b), e0.funs, e0.frf⟩,
    rfl, e0.bare, Un.kept hk, ⟨_, x.toInCall.ns, fun i y v h1 h2 h3 => ?_⟩, fun y c h => ⟨_, x.cell y c h⟩, e0.hok.fresh (Nat.le_refl _), fun y c h => ?_, fun p hp => absurd (show p ∈ ([] : List (Addr × Obj)) from hp) (by simp), e0.hok.kept hk, ?_⟩
  · exact name_of_addr x.apart (PySem.mem_of_lookup h1) (PySem.mem_of_lookup h2)
  · have hy : scope.names.lookup y = some .cell ∨ scope.names.lookup y = some .free := hy
    rcases hy with hy | hy
    · exact cell_has hy
    · exact absurd rfl (S.nofree _ (PySem.mem_of_lookup hy))
  · exact Nat.le_of_lt (x.above y c (PySem.mem_of_lookup h))
  · have hi : i < vs.length := by
      unfold start at h2
      by_cases hi : i < vs.length
      · exact hi
      · rw [List.getElem?_append_right (by simpa using hi)] at h2
        rw [List.getElem?_replicate] at h2
        split at h2 <;> cases h2
    have ha : vs[i]? = some v := by
      unfold start at h2
      rw [List.getElem?_append_left (by simpa using hi), List.getElem?_map] at h2
      cases e : vs[i]? with
      | none => rw [e] at h2; cases h2
      | some a => rw [e] at h2; cases h2; rfl
    obtain ⟨u, hu, rv⟩ := r.get ha
    have hp : ps[i]? = some y := by
      rw [← S.pre, List.getElem?_take_of_lt (by omega)]; exact h1
    have ndP : ps.Nodup := by rw [← S.pre]; exact S.nd.sublist (List.take_sublist _ _)
    refine ⟨u, rv, ?_⟩
    rcases S.par y (List.mem_of_getElem? hp) with k | k
    · exact .inl ⟨k, bindL_get ndP hp hu k⟩
    · obtain ⟨c, e⟩ := cell_has (n := s.heap.objs.size + 1) k
      refine .inr ⟨.inl k, c, e, ?_⟩
      have q := x.cell y c e
      rw [bindC_get ndP hp hu (by show scope.names.lookup y ≠ _; rw [k]; decide)] at q
      exact q
  · exact e0.hok.fresh (Nat.le_of_lt (x.above y c (PySem.mem_of_lookup h)))
  · unfold start
    show _ = N.length
    rw [List.length_append, List.length_map, List.length_replicate]
    omega

theorem fn_of {CX : CXT} {P : Program} {w : World} {K : PySem.W.Frag} {mg : Str → Option Value} {base : Heap} {k : Nat} {f : Addr} {name qual : Str} {params : Arguments} {body : List Stmt} {scope : Scope} {dV kV doc pm cdv ct oc : Value} {an od : Option Addr}
    {osl : Array (Option Value)} {N ps : List Str} {sp : Sp} (lk : K.lookup f = some ⟨oc, od, .func (PySem.W.fnOf name qual params body scope dV kV doc pm an cdv ct), osl⟩) (hcd : PySem.W.codeIn K cdv qual = true) (S : FnScope N ps scope)
    (len : ∀ vs H Q E, sp vs H Q E → vs.length = ps.length)
    (hbody : ∀ (A : Around) (outer : List Env) (s : Shared) (H : Hp) (vs : List V) (Q : VK) (E : XK), Room k (A.deeper (envOfC qual scope s.heap.objs.size f cdv)) → sp vs H Q E →
      ∃ t, PSs (cxOf CX P w K mg base N qual scope f cdv A outer s H E) body t ∧ t { nx := fun _ H' => Q .non H', rt := Q } (start N vs) H) :
    FnOk P w K mg base CX (k + 1) f (PySem.W.fnOf name qual params body scope dV kV doc pm an cdv ct) ps sp := by
  refine ⟨len, fun A outer s H args us vs Q E hr e0 hb r hsp => ?_⟩
  have hl := len _ _ _ _ hsp
  have KX : K.In s.heap := e0.mod.kin.keeps fun b o e => (e0.bs b o e).1
  have lim : s.heap.NoLimit := e0.mod.nolimit.keeps fun b o e => (e0.bs b o e).1
  have hkind : ∀ y ∈ ps.zip us, scope.names.lookup y.1 = some .local ∨ (scope.names.lookup y.1 = some .cell ∧ ((cellsFrom (s.heap.objs.size + 1) scope.names []).lookup y.1).isSome = true) := fun ⟨n, v⟩ hy => by
    rcases S.par n (List.of_mem_zip hy).1 with q | q
    · exact .inl q
    · exact .inr ⟨q, PySem.W.cellsFrom_some _ _ _ (.inl q)⟩
  refine codeAny_call_function hr.depth (KX _ _ lk) rfl S.co S.gen rfl (PySem.W.codeRec_of KX hcd) (hb _ _ _ _ ?_)
  refine wpAny_newFunctionEnv_cells S.kind hkind fun env he s1 x => ?_
  subst he
  refine ⟨lim.keeps x.toInCall.keep, codeAny_func ?_⟩
  obtain ⟨t, ht, hq⟩ := hbody A outer s H vs Q E (hr.deeper _) hsp
  have I : Inv (cxOf CX P w K mg base N qual scope f cdv A outer s H E) [] (start N vs) H s1 := inv_start S hr.hd e0 hl r x
  refine wpAny_mono (ht [] s1 (start N vs) H _ I hq) (fun fl s' hs => ?_) fun e s' hs => hs
  have fin : ∀ {σ' : St} {H' : Hp} {v : V} {u : Value}, Inv (cxOf CX P w K mg base N qual scope f cdv A outer s H E) [] σ' H' s' → RelV v u → Q v H' → CE outer P w H s Q u s' :=
    fun {σ' H' v u} J rv q => ⟨v, H', J.os, J.bare, J.base, J.hok, rv, q⟩
  cases fl with
  | ret u =>
    obtain ⟨v, σ', H', J, rv, q⟩ := hs
    exact fin J rv q
  | next =>
    obtain ⟨σ', H', J, q⟩ := hs
    exact fin (v := V.non) (u := Value.none) J rfl q
  | brk =>
    obtain ⟨_, _, _, q⟩ := hs
    exact False.elim q
  | cont =>
    obtain ⟨_, _, _, q⟩ := hs
    exact False.elim q
end L2

namespace L2
open PySem PySem.Spec PyProof.Rows
section
variable {X : Cx} {x : Str} {p pos : Pos} {e : Expr} {es : List Expr} {t : TA} {id T : String} {r : List V → Hp → VK → Prop}

def tCB (r : List V → Hp → VK → Prop) (t : TA) : TE := fun σ H Q => t σ H fun vs H1 => r vs H1 Q
theorem pe_callB (hc : CallR X (.builtin id) r) (hg : Gl X x) (hm : X.mg x = none) (hv : bootBuiltins x = some (.builtin id)) (ha : PA X (e :: es) t) (hn : x ≠ "__name__" := by decide) (hdb : (x == ("__debug__" : Str)) = false := by decide)
    (he : starEach (e :: es) X.env = (false, eval e X.env) :: starEach es X.env := by rfl) (hpl : (backTo pos (starEach es X.env)).any (·.1) = false := by rfl) : PE X (.Call (.Name x p) (e :: es) [] pos) (tCB r t) := by
  intro pins s σ H Q I h
  refine wpAny_Call_Name_kw (ld_blt I hg hm hv ?_ hn hdb)
  exact PyProof.Rows.callWith_builtin1 (thn (ha pos pins s σ H _ I h) fun us s1 ⟨vs, H1, I1, r1, q1⟩ => hc pins s1 σ H1 vs us Q I1 r1 q1) he hpl
theorem pe_callTy (hc : CallR X (.type T) r) (hg : Gl X x) (hm : X.mg x = none) (hv : bootBuiltins x = some (.type T)) (ha : PA X (e :: es) t) (hn : x ≠ "__name__" := by decide) (hdb : (x == ("__debug__" : Str)) = false := by decide)
    (he : starEach (e :: es) X.env = (false, eval e X.env) :: starEach es X.env := by rfl) (hpl : (backTo pos (starEach es X.env)).any (·.1) = false := by rfl) : PE X (.Call (.Name x p) (e :: es) [] pos) (tCB r t) := by
  intro pins s σ H Q I h
  refine wpAny_Call_Name_kw (ld_blt I hg hm hv ?_ hn hdb)
  exact PyProof.Rows.callWith_type1 (thn (ha pos pins s σ H _ I h) fun us s1 ⟨vs, H1, I1, r1, q1⟩ => hc pins s1 σ H1 vs us Q I1 r1 q1) he hpl
end
end L2

namespace HT
open PySem PyProof.Rows

section
open PySem.SeqAt
open PySem.AutoSeq1 (wpAny_loadPart')
open PySem.MeetsSeq PySem.MeetsSeq2 PySem.MeetsSeq3

end

section
variable {prog : Program} {w : World} {A : Around} {E : Value → Shared → Prop} {s : Shared}

def sIx (n d : Nat) : Option Int → Nat
  | none => d
  | some v => if v < 0 then (v + (n : Int)).toNat else min v.toNat n
theorem sIx_nat (n d k : Nat) : sIx n d (some (k : Int)) = min k n := by
  show (if (k : Int) < 0 then ((k : Int) + (n : Int)).toNat else min (k : Int).toNat n) = min k n
  rw [if_neg (by omega), Int.toNat_natCast]
end
end HT

namespace L2
open PySem PySem.Spec PyProof.Rows

abbrev TO := St → Hp → (Option Int → Hp → Prop) → Prop
def PO (X : Cx) (e : Option Expr) (t : TO) : Prop :=
  ∀ (pins : List (Addr × Obj)) (s : Shared) (σ : St) (H : Hp) (Q : Option Int → Hp → Prop), Inv X pins σ H s → t σ H Q →
    wpAny (model X.prog X.w) X.A (evalPart e X.env) (fun u s' => ∃ o H', Inv X pins σ H' s' ∧ IsPart u o ∧ Q o H') X.xe s
def tNoPart : TO := fun _ H Q => Q none H
def tPart (t : TE) : TO := fun σ H Q => t σ H fun x H1 => ∃ i, x = .int i ∧ Q (some i) H1

section
variable {X : Cx} {e : Expr} {te : TE} {lo hi : Option Expr} {tl th : TO} {pos p2 : Pos}

theorem po_none : PO X none tNoPart := by
  intro pins s σ H Q I h
  rw [evalPart_none]
  exact wpAny_pure ⟨none, H, I, .none, h⟩
theorem po_some (h : PE X e te) : PO X (some e) (tPart te) := by
  intro pins s σ H Q I hw
  rw [evalPart_some]
  refine thn (h pins s σ H _ I hw) fun u s1 ⟨x, H1, I1, r1, q1⟩ => ?_
  obtain ⟨i, rfl, q⟩ := q1
  obtain ⟨t, rfl⟩ := r1
  exact ⟨some i, H1, I1, .int i t, q⟩

def SlR (X : Cx) (r : V → Option Int → Option Int → Hp → VK → Prop) : Prop :=
  ∀ (pins : List (Addr × Obj)) (s : Shared) (σ : St) (H : Hp) (x : V) (v vl vu : Value) (lo hi : Option Int) (sl : Addr) (Q : VK), Inv X pins σ H s → RelV x v → s.heap.IsSliceOf sl vl vu .none → IsPart vl lo → IsPart vu hi → r x lo hi H Q →
    ∃ T id, typeLookup (.type T) "__getitem__" = pure (some (.builtin id)) ∧ s.TypeIs v T ∧ wpAny (model X.prog X.w) X.A (getItem v (.ref sl)) (EP X pins σ Q) X.xe s
def tSl (r : V → Option Int → Option Int → Hp → VK → Prop) (te : TE) (tl th : TO) : TE := fun σ H Q => te σ H fun x H1 => tl σ H1 fun l H2 => th σ H2 fun u H3 => r x l u H3 Q
theorem pe_slice {r : V → Option Int → Option Int → Hp → VK → Prop} (hr : SlR X r) (he : PE X e te) (hl : PO X lo tl) (hu : PO X hi th) : PE X (.Subscript e (.Slice lo hi none p2) pos) (tSl r te tl th) := by
  intro pins s σ H Q I h
  refine Subscript_ (thn (he pins s σ H _ I h) fun v s1 ⟨x, H1, I1, r1, q1⟩ => ?_)
  refine wpAny_Slice (thn (hl pins s1 σ H1 _ I1 q1) fun vl s2 ⟨l, H2, I2, pl, q2⟩ => thn (hu pins s2 σ H2 _ I2 q2) fun vu s3 ⟨u, H3, I3, pu, q3⟩ => ?_)
  rw [evalPart_none]
  refine wpAny_pure ?_
  have I4 : Inv X pins σ H3 { s3 with heap := s3.heap.push { cls := .type "slice", data := .fields #[vl, vu, .none] } } := I3.kept (t' := s3.toks) fun b ob q => Heap.get?_push_of_some _ q
  obtain ⟨T, id, hT, ht, hg⟩ := hr pins { s3 with heap := s3.heap.push { cls := .type "slice", data := .fields #[vl, vu, .none] } } σ H3 x v vl vu l u s3.heap.objs.size Q I4 r1 (Heap.IsSliceOf.new ..) pl pu q3
  show wpAny (model X.prog X.w) X.A (subscriptTail e (.Slice lo hi none p2) v (.ref s3.heap.objs.size)) (EP X pins σ Q) X.xe { s3 with heap := s3.heap.push { cls := .type "slice", data := .fields #[vl, vu, .none] } }
  exact tail_any (ops := [.ref s3.heap.objs.size, v]) ht hT hg (by with_unfolding_all rfl)

def cutV (xs : List V) (lo hi : Option Int) : List V := (xs.drop (HT.sIx xs.length 0 lo)).take (HT.sIx xs.length xs.length hi - HT.sIx xs.length 0 lo)
theorem cutV_length (xs : List V) (lo hi : Option Int) : (cutV xs lo hi).length ≤ xs.length := by
  unfold cutV
  exact Nat.le_trans (List.length_take_le' _ _) (by rw [List.length_drop]; exact Nat.sub_le _ _)
end
end L2

namespace L2
open PySem PySem.Spec PyProof.Rows

def ixN (n : Nat) (i : Int) : Option Nat := if 0 ≤ i then (if i < n then some i.toNat else none) else if -(n : Int) ≤ i then some (i + n).toNat else none
def atI {α : Type} (xs : List α) (i : Int) : Option α := (ixN xs.length i).bind fun j => xs[j]?
theorem ixN_seq {n : Nat} {i : Int} {j : Nat} (h : ixN n i = some j) : seqIndex? i n = some j ∧ j < n ∧ -(n : Int) ≤ i ∧ i < n := by
  unfold ixN at h
  by_cases h0 : 0 ≤ i
  · rw [if_pos h0] at h
    by_cases h1 : i < n
    · rw [if_pos h1] at h
      have e : i.toNat = j := Option.some.inj h
      exact ⟨by rw [seqIndex_of h0 h1, e], by omega, by omega, h1⟩
    · rw [if_neg h1] at h; cases h
  · rw [if_neg h0] at h
    by_cases h1 : -(n : Int) ≤ i
    · rw [if_pos h1] at h
      have e : (i + n).toNat = j := Option.some.inj h
      exact ⟨by rw [seqIndex_neg (by omega) h1, e], by omega, h1, by omega⟩
    · rw [if_neg h1] at h; cases h
theorem atI_get {α : Type} {xs : List α} {i : Int} {v : α} (h : atI xs i = some v) : ∃ j, seqIndex? i xs.length = some j ∧ xs[j]? = some v ∧ j < xs.length ∧ -(xs.length : Int) ≤ i ∧ i < xs.length := by
  unfold atI at h
  cases e : ixN xs.length i with
  | none => rw [e] at h; cases h
  | some j =>
    rw [e] at h
    obtain ⟨h1, h2, h3, h4⟩ := ixN_seq e
    exact ⟨j, h1, h, h2, h3, h4⟩
theorem atI_nat {α : Type} {xs : List α} {j : Nat} {v : α} (h : xs[j]? = some v) : atI xs (j : Int) = some v := by
  have hj : j < xs.length := (List.getElem?_eq_some_iff.mp h).1
  have e : ixN xs.length (j : Int) = some j := by
    unfold ixN
    rw [if_pos (by omega), if_pos (by omega)]; simp
  unfold atI; rw [e]; exact h
def PlainIx (b : Expr) : Prop := ∀ o i, subscripted b false o i = operate [o, i] (getItem o i)
def IxR (X : Cx) (r : R2) : Prop :=
  ∀ (value slice : Expr) (pins : List (Addr × Obj)) (s : Shared) (σ : St) (H : Hp) (x y : V) (v u : Value) (Q : VK), Inv X pins σ H s → RelV x v → RelV y u → r x y H Q →
    subscripted slice false v u = operate [v, u] (getItem v u) → wpAny (model X.prog X.w) X.A (subscriptTail value slice v u) (EP X pins σ Q) X.xe s
def MtR (X : Cx) (id : String) (r : V → List V → Hp → VK → Prop) : Prop :=
  ∀ (pins : List (Addr × Obj)) (s : Shared) (σ : St) (H : Hp) (x : V) (xs : List V) (v : Value) (us : List Value) (Q : VK), Inv X pins σ H s → RelV x v → Vals xs us → r x xs H Q →
    wpAny (model X.prog X.w) X.A (call (.builtin id) (v :: us)) (EP X pins σ Q) X.xe s
section
variable {X : Cx} {a b : Expr} {ta tb : TE} {pos : Pos}
theorem pe_ix {r : R2} (hr : IxR X r) (ha : PE X a ta) (hb : PE X b tb) (hs : PlainIx b) : PE X (.Subscript a b pos) (tOp r ta tb) := by
  intro pins s σ H Q I h
  exact Subscript_ (binT ha hb I h fun v u s2 x y H2 I2 rx ry q => hr a b pins s2 σ H2 x y v u Q I2 rx ry q (hs _ _))

def rIxL (K : PySem.W.Frag) : R2 := fun x y H Q => ∃ p xs i v, x = .ref p ∧ y = .int i ∧ SqL K H p xs ∧ atI xs i = some v ∧ Q v H
def rIxT (K : PySem.W.Frag) : R2 := fun x y H Q => ∃ p xs i v, x = .ref p ∧ y = .int i ∧ SqT K H p xs ∧ atI xs i = some v ∧ Q v H
theorem ix_list : IxR X (rIxL X.K) := by
  intro value slice pins s σ H x y v u Q I rx ry h hs
  obtain ⟨p, xs, i, z, rfl, rfl, hq, he, q⟩ := h
  cases rx
  obtain ⟨t, rfl⟩ := ry
  obtain ⟨its, r, pl, hz⟩ := I.list hq
  obtain ⟨j, h1, h2, h3, h4, h5⟩ := atI_get he
  obtain ⟨w, ew, rw'⟩ := r.get h2
  have hl := r.length
  have hn := line63
  have fin : EP X pins σ Q w s := ⟨z, H, I, rw', q⟩
  by_cases h0 : 0 ≤ i
  · have hj : i.toNat = j := by
      rw [seqIndex_of h0 h5] at h1
      exact Option.some.inj h1
    exact item_listR pl.isList h0 (by omega) (by rw [hj]; simpa using ew) fin hs
  · have hj : (i + (its.toArray.size : Int)).toNat = j := by
      rw [seqIndex_neg (by omega) h4] at h1
      rw [List.size_toArray, ← hl]
      exact Option.some.inj h1
    exact subscriptTail_builtinR (x := w) pl.isList.typeIs slot_list_getitem.lookup
      (wpAny_getItem_list_neg (Q := fun r s' => r = w ∧ EP X pins σ Q r s') pl.isList (by omega) (by rw [List.size_toArray] <;> omega) (by omega) (by rw [hj]; simpa using ew) ⟨rfl, fin⟩) hs
theorem ix_tup : IxR X (rIxT X.K) := by
  intro value slice pins s σ H x y v u Q I rx ry h hs
  obtain ⟨p, xs, i, z, rfl, rfl, hq, he, q⟩ := h
  cases rx
  obtain ⟨t, rfl⟩ := ry
  obtain ⟨its, r, pl, hz⟩ := I.tuple hq
  obtain ⟨j, h1, h2, h3, h4, h5⟩ := atI_get he
  obtain ⟨w, ew, rw'⟩ := r.get h2
  have hl := r.length
  have hn := line63
  have fin : EP X pins σ Q w s := ⟨z, H, I, rw', q⟩
  exact subscriptTail_builtinR (x := w) pl.typeIs slot_tuple_getitem.lookup
    (getItem_tuple (j := j) (Q := fun r s' => r = w ∧ EP X pins σ Q r s') pl (by omega) (by omega) (by rw [List.size_toArray, ← hl]; exact h1) (by simpa using ew) ⟨rfl, fin⟩) hs
theorem sbA (lo hi : Option Int) (n : Nat) : (sliceBounds lo hi none n).1 = ((HT.sIx n 0 lo : Nat) : Int) := by
  cases lo with
  | none => simp [sliceBounds, HT.sIx]
  | some i =>
    simp only [sliceBounds, HT.sIx, Option.getD_none, show (1 : Int) > 0 by decide, if_true]
    by_cases h : i < 0
    · simp only [h, if_true] <;> omega
    · simp only [h, if_false] <;> omega
theorem slice_bounds (lo hi : Option Int) (n : Nat) : (sliceBounds lo hi none n).1 = ((HT.sIx n 0 lo : Nat) : Int) ∧ (sliceBounds lo hi none n).2.1 = ((HT.sIx n n hi : Nat) : Int) ∧ (sliceBounds lo hi none n).2.2 = 1 := by
  refine ⟨sbA lo hi n, ?_, rfl⟩
  cases hi with
  | none => simp [sliceBounds, HT.sIx]
  | some i => exact sbA (some i) lo n
theorem slicePick_cut (its : List Value) (lo hi : Option Int) : slicePick its.toArray lo hi none = ((its.drop (HT.sIx its.length 0 lo)).take (HT.sIx its.length its.length hi - HT.sIx its.length 0 lo)).toArray := by
  obtain ⟨h1, h2, h3⟩ := slice_bounds lo hi its.toArray.size
  unfold slicePick
  rw [h1, h2, h3]
  simp only [sliceRange_one, pick_run, List.size_toArray] <;> rfl
def rSlL (K : PySem.W.Frag) : V → Option Int → Option Int → Hp → VK → Prop := fun x lo hi H Q => ∃ a xs, x = .ref a ∧ SqL K H a xs ∧ ∀ p, H p = none → Q (.ref p) (upd H p (.lst (cutV xs lo hi)))
theorem sl_list : SlR X (rSlL X.K) := by
  intro pins s σ H x v vl vu lo hi sl Q I rx hs pl pu h
  obtain ⟨a, xs, rfl, hx, q⟩ := h
  cases rx
  obtain ⟨its, r, ht, hz⟩ := I.list hx
  have hlen := r.length
  refine ⟨"list", _, slot_list_getitem.lookup, ht.isList.typeIs, ?_⟩
  refine wpAny_getItem_list_slice ht.isList hs pl pu .none (by simp) ?_ (by rw [List.size_toArray] <;> omega)
  rw [slicePick_cut, ← hlen]
  refine ⟨.ref s.heap.objs.size, _, I.laid (t' := s.toks) (o := .lst (cutV xs lo hi)) (fun b ob q => Heap.get?_push_of_some _ q) (Nat.le_refl _) ?_, rfl, q _ (I.hok.fresh (Nat.le_refl _))⟩
  exact ⟨Nat.le_trans (cutV_length xs lo hi) hz, _, 0, (r.drop (HT.sIx xs.length 0 lo)).take (HT.sIx xs.length xs.length hi - HT.sIx xs.length 0 lo), Heap.get?_push_size _ rfl⟩

def flatV : V → Bool
  | .non => true
  | .bl _ => true
  | .int _ => true
  | .str _ => true
  | _ => false
def eqV : V → V → Bool
  | .non, .non => true
  | .bl a, .bl b => a == b
  | .bl a, .int b => (if a then 1 else 0) == b
  | .int a, .bl b => a == (if b then 1 else 0)
  | .int a, .int b => a == b
  | .str a, .str b => a == b
  | _, _ => false
theorem eqAt_V {A : Around} {s : Shared} {y x : V} {u v : Value} (ry : RelV y u) (rx : RelV x v) (fy : flatV y = true) (fx : flatV x = true) : SeqAt.EqAt A s u v (eqV y x) := by
  cases y with
  | non =>
    cases ry
    cases x with
    | non => cases rx; exact SeqAt.EqAt.same _
    | bl b => cases rx; exact SeqAt.EqAt.none_bool b
    | int b => obtain ⟨t, rfl⟩ := rx; exact SeqAt.EqAt.none_int b t
    | str b => obtain ⟨t, rfl⟩ := rx; exact SeqAt.EqAt.none_str b t
    | _ => exact absurd (show false = true from fx) Bool.false_ne_true
  | bl a =>
    cases ry
    cases x with
    | non => cases rx; exact SeqAt.EqAt.bool_none a
    | bl b => cases rx; exact SeqAt.EqAt.bool_bool a b
    | int b => obtain ⟨t, rfl⟩ := rx; exact SeqAt.EqAt.bool_int a b t
    | str b => obtain ⟨t, rfl⟩ := rx; exact SeqAt.EqAt.bool_str a b t
    | _ => exact absurd (show false = true from fx) Bool.false_ne_true
  | int a =>
    obtain ⟨t', rfl⟩ := ry
    cases x with
    | non => cases rx; exact SeqAt.EqAt.int_none a t'
    | bl b => cases rx; exact SeqAt.EqAt.int_bool a t' b
    | int b => obtain ⟨t, rfl⟩ := rx; exact SeqAt.EqAt.int_int a t' b t
    | str b => obtain ⟨t, rfl⟩ := rx; exact SeqAt.EqAt.int_str a t' b t
    | _ => exact absurd (show false = true from fx) Bool.false_ne_true
  | str a =>
    obtain ⟨t', rfl⟩ := ry
    cases x with
    | non => cases rx; exact SeqAt.EqAt.str_none a t'
    | bl b => cases rx; exact SeqAt.EqAt.str_bool a t' b
    | int b => obtain ⟨t, rfl⟩ := rx; exact SeqAt.EqAt.str_int a t' b t
    | str b => obtain ⟨t, rfl⟩ := rx; exact SeqAt.EqAt.str_str a t' b t
    | _ => exact absurd (show false = true from fx) Bool.false_ne_true
  | _ => exact absurd (show false = true from fy) Bool.false_ne_true
def eqU (x : V) (u : Value) : Bool := match u with
  | .none => eqV .non x
  | .bool b => eqV (.bl b) x
  | .int i _ => eqV (.int i) x
  | .str z _ => eqV (.str z) x
  | _ => false
theorem eqU_of {x y : V} {u : Value} (r : RelV y u) (f : flatV y = true) : eqU x u = eqV y x := by
  cases y with
  | non => cases r; rfl
  | bl b => cases r; rfl
  | int i => obtain ⟨t, rfl⟩ := r; rfl
  | str z => obtain ⟨t, rfl⟩ := r; rfl
  | _ => exact absurd (show false = true from f) Bool.false_ne_true
theorem any_eqU {x : V} : ∀ {xs : List V} {us : List Value}, Vals xs us → xs.all flatV = true → us.any (eqU x) = xs.any fun y => eqV y x
  | _, _, .nil, _ => rfl
  | y :: xs, u :: us, .cons r t, f => by
    rw [List.all_cons, Bool.and_eq_true] at f
    rw [List.any_cons, List.any_cons, eqU_of r f.1, any_eqU t f.2]
theorem mem_eqAt {A : Around} {s : Shared} {x : V} {v : Value} (rx : RelV x v) (fx : flatV x = true) : ∀ {xs : List V} {us : List Value}, Vals xs us → xs.all flatV = true → ∀ u ∈ us, SeqAt.EqAt A s u v (eqU x u)
  | _, _, .nil, _ => fun u hu => by cases hu
  | y :: xs, u :: us, .cons r t, f => fun u' hu => by
    rw [List.all_cons, Bool.and_eq_true] at f
    rcases List.mem_cons.mp hu with rfl | hu
    · rw [eqU_of r f.1]; exact eqAt_V r rx f.1 fx
    · exact mem_eqAt rx fx t f.2 u' hu
def inV (x : V) (xs : List V) : Bool := xs.any fun y => eqV y x
def rIn (K : PySem.W.Frag) (neg : Bool) : R2 := fun x y H Q => ∃ p xs, y = .ref p ∧ (SqL K H p xs ∨ SqT K H p xs) ∧ flatV x = true ∧ xs.all flatV = true ∧ Q (.bl (if neg then !inV x xs else inV x xs)) H
theorem op_in_seq : OpR X (compareOp .In) (rIn X.K false) := by
  intro pins s σ H x y v u Q I rx ry h
  obtain ⟨p, xs, rfl, hq, fx, fs, q⟩ := h
  cases ry
  rcases hq with hq | hq
  · obtain ⟨its, r, pl, hz⟩ := I.list hq
    refine SeqAt.in_listAt (eqU x) pl.isList (fun w hw => mem_eqAt rx fx r fs w (by simpa using hw)) ⟨.bl _, H, I, rfl, ?_⟩
    rw [show its.toArray.any (eqU x) = its.any (eqU x) by simp, any_eqU r fs]
    exact q
  · obtain ⟨its, r, pl, hz⟩ := I.tuple hq
    refine SeqAt.in_tupleAt (eqU x) pl (fun w hw => mem_eqAt rx fx r fs w (by simpa using hw)) ⟨.bl _, H, I, rfl, ?_⟩
    rw [show its.toArray.any (eqU x) = its.any (eqU x) by simp, any_eqU r fs]
    exact q
theorem op_notIn_seq : OpR X (compareOp .NotIn) (rIn X.K true) := by
  intro pins s σ H x y v u Q I rx ry h
  obtain ⟨p, xs, rfl, hq, fx, fs, q⟩ := h
  cases ry
  rcases hq with hq | hq
  · obtain ⟨its, r, pl, hz⟩ := I.list hq
    refine SeqAt.notIn_listAt (eqU x) pl.isList (fun w hw => mem_eqAt rx fx r fs w (by simpa using hw)) ⟨.bl _, H, I, rfl, ?_⟩
    rw [show its.toArray.any (eqU x) = its.any (eqU x) by simp, any_eqU r fs]
    exact q
  · obtain ⟨its, r, pl, hz⟩ := I.tuple hq
    refine SeqAt.notIn_tupleAt (eqU x) pl (fun w hw => mem_eqAt rx fx r fs w (by simpa using hw)) ⟨.bl _, H, I, rfl, ?_⟩
    rw [show its.toArray.any (eqU x) = its.any (eqU x) by simp, any_eqU r fs]
    exact q
theorem call_len_seq : CallR X (.builtin "len") (fun xs H Q => ∃ p ys, xs = [.ref p] ∧ (SqL X.K H p ys ∨ SqT X.K H p ys) ∧ Q (.int ys.length) H) := by
  intro pins s σ H xs us Q I r h
  obtain ⟨p, ys, rfl, hq, q⟩ := h
  obtain ⟨u, rfl, rx⟩ := vals1 r
  cases rx
  have hn := line63
  rcases hq with hq | hq
  · obtain ⟨its, r', pl, hz⟩ := I.list hq
    have hlen := r'.length
    exact Calls.call_len_list pl.isList (by simp only [List.size_toArray] <;> omega) ⟨.int ys.length, H, I.tok _, ⟨s.toks + 1, by rw [List.size_toArray, hlen]⟩, q⟩
  · obtain ⟨its, r', pl, hz⟩ := I.tuple hq
    have hlen := r'.length
    exact len_tuple pl (by simp only [List.size_toArray] <;> omega) ⟨.int ys.length, H, I.tok _, ⟨s.toks + 1, by rw [List.size_toArray, hlen]⟩, q⟩
theorem call_len_str : CallR X (.builtin "len") (fun xs H Q => ∃ z, xs = [.str z] ∧ z.length ≤ sizeLine ∧ Q (.int z.length) H) := by
  intro pins s σ H xs us Q I r h
  obtain ⟨z, rfl, hz, q⟩ := h
  obtain ⟨u, rfl, t, rfl⟩ := vals1 r
  have hn := line63
  exact len_str (by omega) ⟨.int z.length, H, I.tok _, ⟨_, rfl⟩, q⟩
theorem call_list_of : CallR X (.type "list") (fun xs H Q => ∃ p ys, xs = [.ref p] ∧ (SqL X.K H p ys ∨ SqT X.K H p ys) ∧ ∀ l, H l = none → Q (.ref l) (upd H l (.lst ys))) := by
  intro pins s σ H xs us Q I r h
  obtain ⟨p, ys, rfl, hq, q⟩ := h
  obtain ⟨u, rfl, rx⟩ := vals1 r
  cases rx
  have fin : ∀ (its : List Value), Vals ys its → ys.length ≤ sizeLine → ∀ (h' : Heap) (c' : Nat), (∀ b o', s.heap.get? b = some o' → h'.get? b = some o') →
      h'.get? s.heap.objs.size = some { cls := .type "list", dict := none, data := .seq its.toArray c', slots := #[] } → EP X pins σ Q (.ref s.heap.objs.size) { s with heap := h' } := fun its r' hz h' c' kp e =>
    ⟨.ref s.heap.objs.size, _, I.laid (t' := s.toks) kp (Nat.le_refl _) (show ObjOk X.prog X.w _ h' _ (.lst ys) from ⟨hz, its, c', r', e⟩), rfl, q _ (I.hok.fresh (Nat.le_refl _))⟩
  rcases hq with hq | hq
  · obtain ⟨its, r', pl, hz⟩ := I.list hq
    have hlen := r'.length
    obtain ⟨o, ho, hc, n, hd⟩ := pl.isList
    exact call_list_seq p (.inl rfl) ho hc hd (fun h' c' kp e => fin its r' hz h' c' kp e) (by simp only [List.size_toArray] <;> omega)
  · obtain ⟨its, r', pl, hz⟩ := I.tuple hq
    have hlen := r'.length
    obtain ⟨o, ho, hc, n, hd⟩ := pl
    exact call_list_seq p (.inr rfl) ho hc hd (fun h' c' kp e => fin its r' hz h' c' kp e) (by simp only [List.size_toArray] <;> omega)
def tyV (K : PySem.W.Frag) (T : String) (x : V) (H : Hp) : Prop := match x with
  | .str _ => T = "str"
  | .int _ => T = "int"
  | .ref p => (T = "list" ∧ ∃ xs, SqL K H p xs) ∨ (T = "tuple" ∧ ∃ o, K.lookup p = some o ∧ o.cls = .type "tuple" ∧ o.dict = none) ∨
      (T = "dict" ∧ ((∃ kvs, H p = some (.dK kvs)) ∨ ∃ kvs, H p = some (.dT kvs))) ∨ (T = "set" ∧ ∃ S n, H p = some (.set S n))
  | _ => False
theorem tyV_is {pins : List (Addr × Obj)} {σ : St} {H : Hp} {s : Shared} {T : String} {x : V} {v : Value} (I : Inv X pins σ H s) (r : RelV x v) (ty : tyV X.K T x H) :
    s.TypeIs v T ∧ ∀ a, v = .ref a → ∃ ob, s.heap.get? a = some ob ∧ ob.dict = none := by
  cases x with
  | str z =>
    obtain ⟨t, rfl⟩ := r
    cases (show T = "str" from ty)
    exact ⟨typeIs_str s z t, fun _ e => nomatch e⟩
  | int i =>
    obtain ⟨t, rfl⟩ := r
    cases (show T = "int" from ty)
    exact ⟨typeIs_int s i t, fun _ e => nomatch e⟩
  | ref p =>
    cases r
    rcases ty with ⟨rfl, xs, hq⟩ | ⟨rfl, o, hk, hc, hd⟩ | ⟨rfl, hk⟩ | ⟨rfl, S, n, hk⟩
    · obtain ⟨its, _, pl, _⟩ := I.list hq
      refine ⟨pl.isList.typeIs, fun a e => ?_⟩
      cases e
      obtain ⟨o, n, e, c, hd, _⟩ := pl
      exact ⟨o, e, hd⟩
    · refine ⟨⟨o, I.kIn p o hk, hc⟩, fun a e => ?_⟩
      cases e
      exact ⟨o, I.kIn _ o hk, hd⟩
    · have z : ∃ o, s.heap.get? p = some o ∧ o.ExactDict := by
        rcases hk with ⟨kvs, hk⟩ | ⟨kvs, hk⟩
        · obtain ⟨_, _, _, _, o, _, _, e, ex, _⟩ := I.hok p _ hk
          exact ⟨o, e, ex⟩
        · obtain ⟨_, _, _, _, o, _, _, e, ex, _⟩ := I.hok p _ hk
          exact ⟨o, e, ex⟩
      obtain ⟨o, e, ex⟩ := z
      refine ⟨⟨o, e, ex.1⟩, fun a e2 => ?_⟩
      cases e2
      exact ⟨o, e, ex.2.1⟩
    · obtain ⟨o, _, _, _, e, ex, _⟩ := I.hok p _ hk
      refine ⟨⟨o, e, ex.1⟩, fun a e2 => ?_⟩
      cases e2
      exact ⟨o, e, ex.2.1⟩
  | _ => exact False.elim ty
def tBM (K : PySem.W.Frag) (T : String) (r : V → List V → Hp → VK → Prop) (to : TE) (t : TA) : TE := fun σ H Q => to σ H fun x H1 => tyV K T x H1 ∧ t σ H1 fun xs H2 => r x xs H2 Q
variable {o e : Expr} {es : List Expr} {to : TE} {t : TA} {name : Str} {apos cpos : Pos} {T id : String} {r : V → List V → Hp → VK → Prop}
theorem pe_bm (pa : PlainAttrs T) (slot : Slot T name id) (hty : typeOf (.builtin id) = pure (.type "method_descriptor")) (hm : MtR X id r) (ho : PE X o to) (ha : PA X (e :: es) t)
    (hbase : attributeBase o name X.env (eval o X.env) = eval o X.env := by rfl)
    (hfew : ((backTo cpos (starEach (e :: es) X.env)).all (fun x => !x.1) && (backToKw cpos (keywordEach [] X.env)).all (fun x => x.1.isSome)
      && decide ((e :: es).length + ([] : List Keyword).length + (if ([] : List Keyword).isEmpty then 0 else 1) < 30)) = true := by rfl)
    (hline : (apos.endLine == cpos.line) = true := by rfl) (hs : starEach (e :: es) X.env = (false, eval e X.env) :: starEach es X.env := by rfl) (hplain : (backTo cpos (starEach es X.env)).any (·.1) = false := by rfl) :
    PE X (.Call (.Attribute o name apos) (e :: es) [] cpos) (tBM X.K T r to t) := by
  intro pins s σ H Q I h
  refine wpAny_Call_method_late hbase hfew hline rfl (thn (ho pins s σ H _ I h) fun v s1 ⟨x, H1, I1, r1, ty, q1⟩ => ?_)
  obtain ⟨h1, h2⟩ := tyV_is I1 r1 ty
  refine ⟨T, id, pa, slot, hty, h1, h2, ?_⟩
  have hA := ha cpos pins s1 σ H1 _ I1 q1
  rw [hs] at hA ⊢
  refine Calls.callWith_builtin (by show (false || (backTo cpos (starEach es X.env)).any (·.1)) = false; rw [hplain] <;> rfl) (Calls.evalArgs_plain ?_)
  exact thn hA fun us s2 ⟨vs, H2, I2, r2, q2⟩ => hm pins s2 σ H2 x vs v us Q I2 r1 r2 q2
/- xs.append(e), list.index on a module's tuple .. are MtR facts of 06m -/
end
end L2

namespace L2
open PySem PySem.Spec PyProof.Rows

def MtM (X : Cx) (id : String) (r : V → List V → Hp → VK → Prop) : Prop :=
  ∀ (pins : List (Addr × Obj)) (s : Shared) (σ : St) (H : Hp) (x : V) (xs : List V) (v : Value) (us : List Value) (Q : VK), Inv X pins σ H s → RelV x v → Vals xs us → r x xs H Q →
    wpAny (model X.prog X.w) X.A (call (.builtin id) (v :: us)) (EP X pins σ Q) X.xe s

theorem Vals.one : ∀ {x : V} {us : List Value}, Vals [x] us → ∃ u, us = [u] ∧ RelV x u
  | _, _, .cons r .nil => ⟨_, rfl, r⟩
section
variable {X : Cx} {pins : List (Addr × Obj)} {σ : St} {H : Hp} {s : Shared} {l b : Addr} {xs ys zs : List V}

theorem Inv.lset {its its' : List Value} {n : Nat} {f : Array Value → Array Value} {t' : Nat} (I : Inv X pins σ H s) (hH : H l = some (.lst xs))
    (e : s.heap.get? l = some { cls := .type "list", data := .seq its.toArray n }) (hf : f its.toArray = its'.toArray) (hv : Vals ys its') (hz : ys.length ≤ sizeLine) :
    Inv X pins σ (upd H l (.lst ys)) { s with heap := s.heap.update l (Obj.mapSeq f), toks := t' } := by
  have q := PySem.IsL.update e f
  rw [hf] at q
  refine I.write (x := l) (e := l) (by rw [hH]; exact trivial) (.inl rfl) (fun b' u hb hu => (Heap.get?_update_other s.heap (Obj.mapSeq f) (Ne.symm hb)).trans hu) ⟨_, q⟩ ?_
  exact ⟨hz, its', _, hv, q⟩
theorem Inv.lnew {its : List Value} {t' : Nat} (I : Inv X pins σ H s) (hv : Vals ys its) (hz : ys.length ≤ sizeLine) :
    Inv X pins σ (upd H s.heap.objs.size (.lst ys)) { s with heap := s.heap.push { cls := .type "list", data := .seq its.toArray }, toks := t' } :=
  I.laid (fun _ _ q => Heap.get?_push_of_some _ q) (Nat.le_refl _) ⟨hz, its, 0, hv, Heap.get?_push_size _ rfl⟩
theorem Inv.fresh (I : Inv X pins σ H s) : H s.heap.objs.size = none := I.hok.fresh (Nat.le_refl _)
theorem Inv.lstM (I : Inv X pins σ H s) (hH : H l = some (.lst xs)) : xs.length ≤ sizeLine ∧ ∃ (its : List Value) (n : Nat), Vals xs its ∧ xs.length = its.length ∧ s.heap.get? l = some { cls := .type "list", data := .seq its.toArray n } := by
  obtain ⟨z, its, n, r, e⟩ := I.hok l _ hH
  exact ⟨z, its, n, r, r.length, e⟩

theorem notLongL {n : Nat} (h : n ≤ sizeLine) : Builtin.List.listTooLong n = false := by
  unfold Builtin.List.listTooLong
  exact decide_eq_false (by omega)
end

section
variable {X : Cx}

def rAppend : V → List V → Hp → VK → Prop := fun x vs H Q => ∃ l xs y, x = .ref l ∧ vs = [y] ∧ H l = some (.lst xs) ∧ xs.length < sizeLine ∧ Q .non (upd H l (.lst (xs ++ [y])))
theorem mt_append : MtM X "list.append" rAppend := by
  intro pins s σ H x vs v us Q I rx rv h
  obtain ⟨l, xs, y, rfl, rfl, hH, hz, q⟩ := h
  cases rx
  obtain ⟨u, rfl, ru⟩ := rv.one
  obtain ⟨z, its, n, r, hl, e⟩ := I.lstM hH
  refine call_meets F.slot_list_append ⟨_, e, rfl⟩ F.entry_list_append (F.args_list_append_2 _ _) (PySem.list_append l its.toArray n u (by rw [List.size_toArray]; omega)) ⟨e, ?_⟩
  refine ⟨.non, _, I.lset (its' := its ++ [u]) hH e (by simp) (r.append (.cons ru .nil)) ?_, rfl, q⟩
  rw [List.length_append, List.length_singleton]
  omega

def rExtend : V → List V → Hp → VK → Prop := fun x vs H Q => ∃ l b xs zs, x = .ref l ∧ vs = [.ref b] ∧ H l = some (.lst xs) ∧ H b = some (.lst zs) ∧ xs.length + zs.length ≤ sizeLine ∧ Q .non (upd H l (.lst (xs ++ zs)))
theorem mt_extend : MtM X "list.extend" rExtend := by
  intro pins s σ H x vs v us Q I rx rv h
  obtain ⟨l, b, xs, zs, rfl, rfl, hH, hB, hz, q⟩ := h
  cases rx
  obtain ⟨u, rfl, ru⟩ := rv.one
  cases ru
  obtain ⟨z, its, n, r, hl, e⟩ := I.lstM hH
  obtain ⟨z2, its2, n2, r2, hl2, e2⟩ := I.lstM hB
  have hsz : its.toArray.size + its2.toArray.size ≤ sizeLine := by rw [List.size_toArray, List.size_toArray]; omega
  have hlong : ¬ (!its.toArray.isEmpty && Builtin.List.listTooLong (its.toArray.size + its2.toArray.size)) = true := by
    rw [notLongL hsz, Bool.and_false]
    exact Bool.false_ne_true
  refine call_meets F.slot_list_extend ⟨_, e, rfl⟩ F.entry_list_extend (F.args_list_extend_2 _ _)
    (AutoSeq1.list_extend_list_list_0 l its.toArray n b its2.toArray n2 hlong (by rw [List.size_toArray]; omega) (by omega)) ⟨e, e2, ?_⟩
  refine ⟨.non, _, I.lset (its' := its ++ its2) hH e (by simp) (r.append r2) ?_, rfl, q⟩
  rw [List.length_append]
  omega

def rCat : R2 := fun x y H Q => ∃ l b xs zs, x = .ref l ∧ y = .ref b ∧ H l = some (.lst xs) ∧ H b = some (.lst zs) ∧ xs.length + zs.length ≤ sizeLine ∧ ∀ p, H p = none → Q (.ref p) (upd H p (.lst (xs ++ zs)))
theorem op_cat : OpR X (binaryOp .Add) rCat := by
  intro pins s σ H x y v u Q I rx ry h
  obtain ⟨l, b, xs, zs, rfl, rfl, hH, hB, hz, q⟩ := h
  cases rx
  cases ry
  obtain ⟨z, its, n, r, hl, e⟩ := I.lstM hH
  obtain ⟨z2, its2, n2, r2, hl2, e2⟩ := I.lstM hB
  refine PySem.P.add_list e e2 ?_ (by rw [List.size_toArray, List.size_toArray]; omega)
  have ea : its.toArray ++ its2.toArray = (its ++ its2).toArray := by simp
  rw [ea]
  exact ⟨.ref _, _, I.lnew (t' := s.toks) (r.append r2) (by rw [List.length_append]; omega), rfl, q _ I.fresh⟩
end

section
variable {prog : Program} {w : World} {A : Around} {E : Value → Shared → Prop} {s : Shared}
set_option maxRecDepth 100000 in
end

section
variable {X : Cx}
end
end L2

namespace Att
open PySem PySem.W PySem.Calls PyProof.Rows

theorem ints_of_wellAll {P : Params} {h : Heap} : ∀ (ns : List Int) (vs : List Value), WellAll P h vs (ns.map WData.int) → IntsAre vs ns := by
  intro ns
  induction ns with
  | nil =>
    intro vs w
    rw [List.map_nil] at w
    cases w
    exact .nil
  | cons n ns ih =>
    intro vs w
    rw [List.map_cons] at w
    cases w with
    | cons a b =>
      cases a
      exact .cons _ _ (ih _ b)

theorem script_of {l : OpenLaw} {n : Nat} (hn : l.most = some n) {P : Params} {h : Heap} {args : List WData} {vals : List Value}
    (hpre : l.row.toRowW.claim.pre args = true) (hwl : WellAll P h vals args) :
    ∃ a vs ns, vals = [Value.ref a] ∧ args = [WData.list (ns.map WData.int)] ∧ h.get? a = some { cls := .type "list", data := .seq vs.toArray } ∧ IntsAre vs ns ∧ ns.length ≤ n := by
  have hsh : WShape.hasAll [] args [.list .int] = true := (pre_splitW hpre).1
  have hc : l.pre.holds [] { args := args } = true := (pre_splitW hpre).2
  obtain ⟨d, r, rfl, h1, h2⟩ := hasAllW_cons hsh
  obtain rfl := hasAllW_nil h2
  obtain ⟨xs, rfl, h3⟩ := hasW_list h1
  obtain ⟨ns, rfl⟩ := items_int h3
  have hlen : ns.length ≤ n := by
    unfold OpenLaw.pre at hc
    have h4 : (WTm.not (.lt (.lit (.int (n : Int))) (.len (.arg 0)))).holds [] { args := [.list (ns.map .int)] } = true := by
      have h4 := (holds_andW hc).1
      rw [hn] at h4
      exact h4
    have h5 := condW_of h4 (w_not (w_lt w_lit (w_len_list (w_arg rfl))))
    rw [List.length_map] at h5
    refine Nat.le_of_not_lt fun q => ?_
    have q' : (n : Int) < ((ns.length : Nat) : Int) := by omega
    first
      | (rw [decide_eq_true q'] at h5; exact absurd h5 (by decide))
      | (simp at h5; omega)
  cases hwl with
  | cons w1 w2 =>
    cases w2
    cases w1 with
    | list ho hall => exact ⟨_, _, ns, rfl, rfl, ho, ints_of_wellAll ns _ hall, hlen⟩

theorem post_true (l : OpenLaw) (args : List WData) : l.row.toRowW.claim.post args (.bool true) args = true :=
  postW_of (r := l.row.toRowW) (X := (true == true))
    (show WShape.has [] (.bool true) .bool = true by first | rfl | decide | simp [WShape.has, WShape.arms, WShape.armsAll])
    (show (WTm.eq .res (.lit (.bool true))).value [] { args := args, res := some (.bool true), after := args } = some (.bool (true == true)) from w_eq_bool (w_res rfl) w_lit) rfl

theorem attach_call {l : OpenLaw} {n : Nat} {q : Program} {loose : List Str} {XP : (Str → Option Value) → Heap → Prop} {YP : World → Heap → Prop} {d : DefRec}
    (hn : l.most = some n) (hdf : d.params.defaults = [])
    (call : ∀ (w : World) (s₀ s₁ : Shared) (mg mb : Str → Option Value) (fa : Addr) (o : Obj) (pm cd doc : Value) (a : Addr) (vs : List Value) (ns : List Int),
      Ground q loose [] XP w s₀ mg mb s₁.heap → YP w s₁.heap →
      s₁.heap.get? fa = some o → o.data = .func (docDef d.name d.params d.body d.scope pm cd doc) → s₁.heap.CodeRec cd d.name → mg d.name = some (.ref fa) →
      s₁.heap.get? a = some { cls := .type "list", data := .seq vs.toArray } → IntsAre vs ns → ns.length ≤ n → s₁.gens = #[] →
      codeAny (model l.prog w) callerA (.call (.ref fa) ⟨[.ref a], []⟩) (fun r s' => r = .ok (.ret (.bool true)) ∧ OldK s₁.heap s'.heap ∧ s'.os = s₁.os ∧ AllBare s'.gens) s₁) :
    WalkO q loose XP YP l.row.toRowW d [] (fun f vs => PySem.call f vs) := by
  intro w s₀ s₁ mg mb G Y fa o pm cd doc dV kV ho hd hcd hD hmg hg args vals as hpre hlay hrd hwl hlo
  obtain rfl : dV = .none := Dflts.none hD hdf
  obtain rfl : kV = .none := Dflts.noKw hD
  obtain ⟨a, vs, ns, rfl, rfl, hobj, hints, hlen⟩ := script_of hn hpre hwl
  refine enter_call (codeAny_mono (call w s₀ s₁ mg mb fa o pm cd doc a vs ns G Y ho (fd_plain hd) hcd hmg hobj hints hlen hg) fun r s' hq => ?_)
  obtain ⟨rfl, h2, h3, h4⟩ := hq
  exact ⟨.inl ⟨.bool true, .bool true, [], rfl, fun _ => rfl, .bool true, post_true l _, fun _ => ⟨List.Pairwise.nil, fun _ hm => (nomatch hm)⟩⟩, h2, h3, h4⟩

section
variable {prog : Program} {w : World} {A : Around} {E : Value → Shared → Prop} {s : Shared} {K : Frag}

end
end Att

namespace L2
open PySem PySem.Spec PyProof.Rows

theorem vals_ints : ∀ {vs : List Value} {ns : List Int}, IntsAre vs ns → Vals (ns.map V.int) vs
  | _, _, .nil => .nil
  | _, _, .cons n t h => .cons ⟨t, rfl⟩ (vals_ints h)

def Only (H : Hp) : Prop := ∀ b, H b = none ∨ ∃ o xs, H b = some (.frz o (.lst xs))

theorem law_call {P : Program} {w : World} {K : PySem.W.Frag} {mg mb : Str → Option Value} {CX : CXT} {k : Nat} {fa a : Addr} {fd : FuncData} {x : Str} {sp : Sp} {s₁ : Shared} {vs : List Value} {ns : List Int}
    (KX : K.In s₁.heap) (hns : s₁.heap.Ns mainGlobals mg) (hb : s₁.heap.Ns builtinsNs mb) (hbb : ∀ x : Str, x ≠ "__name__" → mb x = bootBuiltins x) (hlim : s₁.heap.NoLimit) (hg : s₁.gens = #[])
    (ha : s₁.heap.get? a = some { cls := .type "list", data := .seq vs.toArray }) (hi : IntsAre vs ns) (hl : ns.length ≤ sizeLine) (hr : Room k callerA)
    (F : ∀ base : Heap, K.In base → base.Ns mainGlobals mg → FnOk P w K mg base CX k fa fd [x] sp) (hbind : ∀ (s : Shared) (u : Value), BindsTo s fd ⟨[u], []⟩ [(x, u)])
    (hsp : ∀ H : Hp, Only H → SqL K H a (ns.map V.int) → sp [.ref a] H (fun v _ => v = .bl true) fun _ _ _ => False)
    (hCX : ∀ H e s', CX [] H s₁ (fun _ _ _ => False) e s' → False) :
    codeAny (model P w) callerA (.call (.ref fa) ⟨[.ref a], []⟩) (fun r s' => r = .ok (.ret (.bool true)) ∧ OldK s₁.heap s'.heap ∧ s'.os = s₁.os ∧ AllBare s'.gens) s₁ := by
  have rv := vals_ints hi
  have lenV := hi.length
  -- from an abstract heap in which nothing but the script may be tracked
  have core : ∀ H : Hp, Only H → SqL K H a (ns.map V.int) → HOk P w H s₁.heap → (∀ b, H b ≠ none → b = a) → (H a ≠ none → K.lookup a = none) →
      codeAny (model P w) callerA (.call (.ref fa) ⟨[.ref a], []⟩) (fun r s' => r = .ok (.ret (.bool true)) ∧ OldK s₁.heap s'.heap ∧ s'.os = s₁.os ∧ AllBare s'.gens) s₁ := by
    intro H hO hS hok hA hK
    have base_of : ∀ {b : Addr} {o : Obj}, s₁.heap.get? b = some o → H b = none → (hidT s₁.heap H).get? b = some o := fun e n => hidT_get e n
    have noA : ∀ {b : Addr} {o : Obj} {es : Array DictEntry} {ep : Nat}, s₁.heap.get? b = some o → o.data = .dict es ep → H b = none := fun {b o es ep} e d => by
      cases q : H b with
      | none => rfl
      | some u =>
        have e' : b = a := hA b (by rw [q]; simp)
        subst e'
        rw [ha] at e; cases e
        have d' : Data.seq vs.toArray _ = Data.dict es ep := d
        cases d'
    have nsK : ∀ {b : Addr} {m : Str → Option Value}, s₁.heap.Ns b m → (hidT s₁.heap H).Ns b m := fun {b m} ⟨o, es, ep, e, d, r⟩ => ⟨o, es, ep, base_of e (noA e d), d, r⟩
    have hKb : K.In (hidT s₁.heap H) := fun b o e => base_of (KX b o e) (by
      cases q : H b with
      | none => rfl
      | some u =>
        have e' : b = a := hA b (by rw [q]; simp)
        subst e'
        rw [hK (by rw [q]; simp)] at e; cases e)
    have hM : Mod K mg (hidT s₁.heap H) := ⟨hKb, nsK hns, ⟨mb, nsK hb, hbb⟩, let ⟨mc, h1, h2⟩ := hlim; ⟨mc, nsK h1, h2⟩⟩
    have e0 : Env0 P w K mg (hidT s₁.heap H) callerA [] s₁ H := ⟨rfl, hM, fun b o e => of_hidT e, Nat.le_of_eq (hidT_size _ _), trivial, fun b hb => absurd (show b ∈ ([] : List Addr) from hb) (by simp), hok, .of_eq hg⟩
    refine codeAny_mono ((F _ hKb (nsK hns)).run callerA [] s₁ H ⟨[.ref a], []⟩ [.ref a] [.ref a] _ _ hr e0 (hbind s₁ (.ref a)) (.cons rfl .nil) (hsp H hO hS)) fun r s' h => ?_
    cases r with
    | error e => exact (hCX H e s' h).elim
    | ok fl =>
      cases fl with
      | next => exact False.elim h
      | brk => exact False.elim h
      | cont => exact False.elim h
      | ret u =>
        obtain ⟨v, H', os, bare, un, hok', r', q⟩ := h
        have q' : v = .bl true := q
        subst q'
        obtain rfl : u = Value.bool true := r'
        refine ⟨rfl, OldK.of_keep fun b o e => ?_, os, bare⟩
        cases q : H b with
        | none => exact un.keep b o e q (by intro z; exact absurd (show b ∈ ([] : List Addr) from z) (by simp)) (by simp)
        | some u =>
          rcases hO b with z | ⟨ob, xs, z⟩
          · rw [q] at z; cases z
          · have z2 := un.frzs b ob _ z
            obtain ⟨e1, _⟩ := hok b _ z
            obtain ⟨e2, _⟩ := hok' b _ z2
            rw [e] at e1; cases e1
            exact e2
  cases hk : K.lookup a with
  | some o =>
    -- the script is one of the module's own objects
    have e := KX a o hk
    rw [ha] at e
    cases e
    refine core (fun _ => none) (fun _ => .inl rfl) (.inr ⟨_, vs.toArray, _, hk, rfl, rfl, rfl, by rw [List.size_toArray, lenV]; exact hl, by simpa using rv⟩) (fun b u z => by have z' : (none : Option HO) = some u := z; cases z') (fun b z => absurd rfl z) fun z => absurd rfl z
  | none =>
    refine core (fun b => if b = a then some (.frz { cls := .type "list", data := .seq vs.toArray } (.lst (ns.map V.int))) else none) (fun b => ?_) (.inl (.inr ⟨{ cls := .type "list", data := .seq vs.toArray }, if_pos rfl⟩)) (fun b u z => ?_) (fun b z => ?_) fun _ => hk
    · by_cases hb : b = a
      · exact .inr ⟨_, _, if_pos hb⟩
      · exact .inl (if_neg hb)
    · by_cases hb : b = a
      · have z' := (if_pos hb).symm.trans z
        cases z'
        subst hb
        exact ⟨ha, by rw [List.length_map]; exact hl, vs, _, rv, ha⟩
      · have z' := (if_neg hb).symm.trans z
        cases z'
    · by_cases hb : b = a
      · exact hb
      · exact absurd (if_neg hb) z
end L2

namespace L2
open PySem PySem.Spec PyProof.Rows

abbrev KOf {K : PySem.W.Frag} {h : Heap} (_ : K.In h) : PySem.W.Frag := K

theorem walk_of {l : PySem.W.OpenLaw} {n k : Nat} {q : Program} {loose : List Str} {XP : (Str → Option Value) → Heap → Prop} {YP : World → Heap → Prop} {d : DefRec} {K : Params → PySem.W.Frag} {CX : World → CXT} {sp : World → Sp} {x : Str}
    (hn : l.most = some n) (hn2 : n ≤ sizeLine) (hdf : d.params.defaults = []) (hr : Room k callerA)
    (hY : ∀ (w : World) (h : Heap), YP w h → (K w.params).In h)
    (F : ∀ (w : World) (mg : Str → Option Value) (fa : Addr) (h : Heap), (K w.params).In h → h.Ns mainGlobals mg → mg d.name = some (.ref fa) →
      ∃ fd : FuncData, (∀ (s : Shared) (u : Value), BindsTo s fd ⟨[u], []⟩ [(x, u)]) ∧
        ∀ base : Heap, (K w.params).In base → base.Ns mainGlobals mg → FnOk l.prog w (K w.params) mg base (CX w) k fa fd [x] (sp w))
    (hsp : ∀ (w : World) (H : Hp) (a : Addr) (ns : List Int), ns.length ≤ n → Only H → SqL (K w.params) H a (ns.map V.int) → sp w [.ref a] H (fun v _ => v = .bl true) fun _ _ _ => False)
    (hCX : ∀ (w : World) (H : Hp) (s : Shared) (e : Value) (s' : Shared), CX w [] H s (fun _ _ _ => False) e s' → False) :
    PySem.W.WalkO q loose XP YP l.row.toRowW d [] (fun f vs => PySem.call f vs) := by
  refine Att.attach_call hn hdf fun w s₀ s₁ mg mb fa o pm cd doc a vs ns G Y ho hd hcd hmg hobj hints hlen hg => ?_
  have KX := hY w _ Y
  obtain ⟨fd, hb, hF⟩ := F w mg fa _ KX G.T.g hmg
  exact law_call KX G.T.g G.T.b G.T.builtins G.T.nolimit hg hobj hints (Nat.le_trans hlen hn2) hr hF hb (fun H hO hS => hsp w H a ns hlen hO hS) fun H e s' => hCX w H s₁ e s'
end L2

/- THE LAST THEOREM (shape; LID, My.* are yours):
   My.Adr: a structure of the addresses that your layer names (classes, functions); My.Txt K t: a structure (Prop) of the equations over K;
   My.txt_mk : {K} {implicit addresses ..} (e1 : nsIn K mainGlobals "law" = some (some (.ref f))) (e2 : K.lookup f = some ⟨oc, od, .func (fnOf "law" "law" params body scope dV kV doc pm an cdv ct), sl⟩) (e3 : codeIn K cdv "law" = true) .. : ∃ t, My.Txt K t

set_option maxRecDepth 100000 in
set_option maxHeartbeats 0 in
theorem PySem.Challenge.cw_LID_holds : PySem.Challenge.rw_LID.Holds := by
  w_on; o_law; k_head; (case hw => w_witness2)
  k_fill
  refine L2.walk_of (l := PySem.Challenge.rw_LID) (n := 63) (k := 40) (x := "script") (CX := fun w => ..) (sp := fun _ => My.sp_law) rfl (by decide) rfl ⟨rfl, by decide, by decide⟩ (fun w h Y => PySem.W.kIn_of Y) ?F ?S ?C
  case F =>
    intro w mg fa h KX G hmg
    have T : ∃ t, My.Txt (L2.KOf KX) t := by
      dsimp only [L2.KOf]                          -- K must stand as «<heap const> w.params» for k_is
      refine' My.txt_mk ?e1 ?e2 ?e3 ..
      (case e1 => PySem.W.k_is)                    -- in the order: a name -> its address -> its object -> its parts
      (case e2 => PySem.W.k_is)
      ..
    obtain ⟨t, T⟩ := T
    have e0 := hmg.symm.trans (PySem.W.mg_of KX G T.law)
    cases e0                                       -- fa is the law's own address
    exact ⟨_, fun s u => .of_eq rfl, fun base kb nb => My.law_fn T kb nb⟩     -- if «.of_eq rfl» comes too early: refine' ⟨_, ?b, fun base kb nb => My.law_fn T kb nb⟩; exact fun s u => .of_eq rfl
  case S => exact fun w H a ns hl hO hS => ..
  case C => exact ..
(the tactic k_is has no namespace: write k_is) -/

namespace L2
open PySem PySem.Spec PyProof.Rows

def inClass (s : Stmt) (j : Nat) : Stmt := match s with
  | .ClassDef _ _ _ body _ _ _ _ _ _ _ => body.getD j (.Pass ⟨0, 0, 0, 0⟩)
  | _ => .Pass ⟨0, 0, 0, 0⟩
def defArgs (s : Stmt) : Arguments := match s with
  | .FunctionDef _ a _ _ _ _ _ _ _ _ => a
  | _ => { posonlyargs := [], args := [], vararg := none, kwonlyargs := [], kw_defaults := [], kwarg := none, defaults := [] }
def defBody (s : Stmt) : List Stmt := match s with
  | .FunctionDef _ _ b _ _ _ _ _ _ _ => b
  | _ => []
def defScope (s : Stmt) : Scope := match s with
  | .FunctionDef _ _ _ _ _ _ sc _ _ _ => sc
  | _ => { kind := .function, names := [], isGenerator := false, isCoroutine := false }

abbrev CX0 : CXT := fun _ _ _ _ _ _ => False
abbrev E0 : XK := fun _ _ _ => False
theorem pass0 {X : Cx} : Passes CX0 X E0 := fun _ _ _ _ _ _ _ h => h.elim

section
variable {P : Program} {w : World} {K : PySem.W.Frag} {mg : Str → Option Value} {base : Heap}
end
theorem hu_of {A : Around} {k : Nat} (hr : Room k A) : A.units + 1 < cLine := Nat.lt_of_le_of_lt (Nat.add_le_add_left (by decide : 1 ≤ 64) _) hr.units
theorem small1000 {n : Nat} (h : n ≤ 1000) : n < sizeLine := Nat.lt_of_le_of_lt h (by decide)

section
variable {X : Cx}
theorem pv (i : Nat) {x : Str} {pos : Pos} (hN : X.N[i]? = some x := by rfl) (hv : Vis X.env.scope x := by first | exact Or.inl rfl | exact Or.inr (Or.inl rfl) | exact Or.inr (Or.inr rfl)) (hd : (x == ("__debug__" : Str)) = false := by decide)
    (hcd : (x == ("__classdict__" : Str)) = false := by decide) : PE X (.Name x pos) (tVar i) := pe_var hN hv hd hcd
end

theorem iteF {A B : Prop} (h : B) : if false = true then A else B := by
  rw [if_neg Bool.false_ne_true]
  exact h
theorem iteT {A B : Prop} (h : A) : if true = true then A else B := by
  rw [if_pos rfl]
  exact h
theorem ite2 {c A B : Prop} [Decidable c] (h1 : c → A) (h2 : ¬ c → B) : if c then A else B := by
  by_cases h : c
  · rw [if_pos h]
    exact h1 h
  · rw [if_neg h]
    exact h2 h
def Same (H H' : Hp) : Prop := ∀ b o, H b = some o → H' b = some o
theorem Same.refl (H : Hp) : Same H H := fun _ _ h => h
theorem Same.trans {H H1 H2 : Hp} (a : Same H H1) (b : Same H1 H2) : Same H H2 := fun c o h => b c o (a c o h)
theorem Same.free {H H' : Hp} (e : Same H H') {l : Addr} (h : H' l = Option.none) : H l = Option.none := by
  cases q : H l with
  | none => rfl
  | some o =>
    rw [e l o q] at h
    cases h
theorem Same.seq {K : PySem.W.Frag} {H H' : Hp} {a : Addr} {xs : List V} (e : Same H H') (h : SqL K H a xs) : SqL K H' a xs := by
  rcases h with (h | ⟨o, h⟩) | h
  · exact .inl (.inl (e _ _ h))
  · exact .inl (.inr ⟨o, e _ _ h⟩)
  · exact .inr h

end L2

set_option Elab.async false
set_option linter.all false
set_option maxRecDepth 100000
set_option maxHeartbeats 1000000
namespace L2
open PySem PySem.Spec PyProof.Rows
section
variable {X : Cx}

theorem call_isi : CallR X (.builtin "isinstance") (fun xs H Q => ∃ x n t b, xs = [x, .ty n] ∧ TyOf X.K H x t ∧ PySem.W.kitOne X.K t (.type n) = some b ∧ Q (.bl b) H) := by
  intro pins s σ H xs us Q I r h
  obtain ⟨x, n, t, b, rfl, ty, e, q⟩ := h
  obtain ⟨u, w', rfl, rx, rn⟩ := vals2 r
  cases (show w' = Value.type n from rn)
  exact isinst_ok I rx ty e fun tk => ⟨.bl b, H, I.tok tk, rfl, q⟩

def Bt (n : Nat) (i : Int) : Prop := i.natAbs < 2 ^ n
theorem intBits_of {n : Nat} {i : Int} (h : Bt n i) : Builtin.Int.intBits i ≤ n := by
  unfold Builtin.Int.intBits
  split
  · exact Nat.zero_le _
  · rename_i h0
    have hp : i.natAbs ≠ 0 := by
      intro z
      apply h0
      simp at z ⊢
      exact z
    have : i.natAbs.log2 < n := (Nat.log2_lt hp).mpr h
    omega
def CBig (i j : Int) : Prop := ∃ n m, Bt n i ∧ Bt m j ∧ n ≤ 1048576 ∧ m ≤ 1048576
theorem CBig.ok {i j : Int} (h : CBig i j) : IntMulOk i j := by
  obtain ⟨n, m, h1, h2, h3, h4⟩ := h
  have e : (2 : Nat) ^ 20 = 1048576 := by decide
  exact IntMulOk.of_bits (by have := intBits_of h1; omega) (by have := intBits_of h2; omega)
theorem op_mulB : OpR X (binaryOp .Mult) (rI CBig fun i j => .int (i * j)) := opI fun _ _ _ _ _ _ _ hc q => mul_int q hc.ok
def CDivB (i j : Int) : Prop := j ≠ 0 ∧ ∃ n, Bt n j ∧ n ≤ 9000
theorem CDivB.ok {i j : Int} (h : CDivB i j) : Builtin.divisionGoesByPylong i j = false := by
  obtain ⟨h0, n, h1, h2⟩ := h
  refine PyProof.noPylong_of_log2 ?_
  have hp : j.natAbs ≠ 0 := by omega
  have : j.natAbs.log2 < n := (Nat.log2_lt hp).mpr h1
  omega
theorem op_fdivB : OpR X (binaryOp .FloorDiv) (rI CDivB fun i j => .int (i.fdiv j)) := opI fun _ _ _ _ _ _ _ hc q => floordiv_int hc.1 q (.inl hc.ok)

end
end L2

set_option Elab.async false
set_option linter.all false
set_option maxRecDepth 100000
set_option maxHeartbeats 2000000
namespace L2
open PySem PySem.Spec PyProof.Rows

section
variable {prog : Program} {w : World} {A : Around} {R : Result → Shared → Prop} {s : Shared}
abbrev tests (ifs : List Expr) (env : Env) : Sem Bool := forIn ifs true fun c r => if r = true then do let ok ← isTrue c env (eval c env); pure (ForInStep.yield ok) else pure (ForInStep.yield r)
theorem comp_loop {elt target iter : Expr} {ifs : List Expr} {scope : Scope} {pos : Pos} {it acc : Value} {env : Env} (I : Nat → Shared → Prop)
    (turn : ∀ n s, I n s → wpAny (model prog w) A (pyNext it) (fun r s₁ => match r with
      | none => R (.ok .next) s₁
      | some v => wpAny (model prog w) A (letOwnedTupleGo target it v) (fun _ s₀ => wpAny (model prog w) A (assign target env v) (fun _ s₂ =>
          wpAny (model prog w) A (tests ifs env) (fun ok s₃ =>
            if ok = true then wpAny (model prog w) A (eval elt env) (fun x s₄ =>
              wpAny (model prog w) A (call (.builtin "list.append") [acc, x]) (fun _ s₅ => ∃ m, m < n ∧ I m s₅) (fun _ _ => False) s₄) (fun _ _ => False) s₃
            else ∃ m, m < n ∧ I m s₃) (fun _ _ => False) s₂) (fun _ _ => False) s₀) (fun _ _ => False) s₁) (fun _ _ => False) s)
    (n : Nat) (h : I n s) :
    codeAny (model prog w) A (.compLoop (.ListComp elt [⟨target, iter, ifs, 0⟩] scope pos) 0 it acc env) R s := by
  refine codeAny_loop rfl I (fun n s hI => ?_) n h
  show wpAny _ A ((compTurn (.ListComp elt [⟨target, iter, ifs, 0⟩] scope pos) 0 it acc env).onRaise (fun x => do noteFrame x env; theTreesLotGoes x)) _ _ s
  refine wpAny_noted ?_
  rw [compTurn_list]
  refine wpAny_bind (wpAny_standAt (wpAny_bind (wpAny_mono (turn n s hI) (fun r s₁ h₁ => ?_) fun _ _ z => z.elim)))
  cases r with
  | none => exact wpAny_pure h₁
  | some v =>
    refine wpAny_bind (wpAny_mono h₁ (fun _ s₀ h₀ => ?_) fun _ _ z => z.elim)
    refine wpAny_bind (wpAny_mono h₀ (fun _ s₂ h₂ => wpAny_bind (wpAny_mono h₂ (fun ok s₃ h₃ => ?_) fun _ _ z => z.elim)) fun _ _ z => z.elim)
    cases ok with
    | false => exact wpAny_pure ⟨rfl, h₃⟩
    | true =>
      rw [if_pos rfl] at h₃
      show wpAny _ _ ((do let _ ← call (.builtin "list.append") [acc, ← eval elt env]) >>= fun _ => again (.compLoop (.ListComp elt [⟨target, iter, ifs, 0⟩] scope pos) 0 it acc env)) _ _ _
      exact wpAny_bind (wpAny_bind (wpAny_mono h₃ (fun x s₄ h₄ => wpAny_bind (wpAny_mono h₄ (fun _ s₅ h₅ => wpAny_pure (wpAny_pure ⟨rfl, h₅⟩)) fun _ _ z => z.elim)) fun _ _ z => z.elim))
end

structure CompOk (X : Cx) (scope : Scope) (cl : List (Str × Addr)) (Nc : List Str) (nl : Nat) (fr : List Nat) : Prop where
  clos : closureFor scope X.env = pure cl
  kind : scope.kind = .function
  names : ∀ y ∈ scope.names, y.2 = .local → scope.names.lookup y.1 = some .local
  cell : ∀ y ∈ scope.names, y.2 ≠ .cell
  sub : ∀ x c, cl.lookup x = some c → X.env.cells.lookup x = some c
  has : ∀ x, (relabel scope X.env).names.lookup x = some .cell ∨ (relabel scope X.env).names.lookup x = some .free → ∃ c, cl.lookup x = some c
  len : Nc.length = nl + fr.length
  tail : ∀ i n, Nc[nl + i]? = some n → ∃ j, fr[i]? = some j ∧ X.N[j]? = some n ∧ X.env.kindOf n = some .cell ∧ cl.lookup n = X.env.cells.lookup n ∧ ((relabel scope X.env).names.lookup n = some .cell ∨ (relabel scope X.env).names.lookup n = some .free)
abbrev compCx (X : Cx) (scope : Scope) (cl : List (Str × Addr)) (Nc : List Str) (C : Addr) (s3 : Shared) (H3 : Hp) (fp : List Addr) (pins : List (Addr × Obj)) : Cx :=
  { X with N := Nc, s₀ := s3, H₀ := H3, env := compEnvC scope cl C X.env, outer := X.stack, ex := fp, fn := fun _ => false, pn := X.pn ++ pins, xe := fun _ _ => False }
def σC (nl : Nat) (fr : List Nat) (σ : St) : St := List.replicate nl none ++ fr.map fun j => (σ[j]?).join
abbrev PIf (X : Cx) (ifs : List Expr) (t : TT) : Prop :=
  ∀ (pins : List (Addr × Obj)) (s : Shared) (σ : St) (H : Hp) (Q : Bool → Hp → Prop), Inv X pins σ H s → t σ H Q → wpAny (model X.prog X.w) X.A (tests ifs X.env) (TP X pins σ Q) X.xe s
theorem pif_nil {X : Cx} : PIf X [] (fun _ H Q => Q true H) := fun _ _ _ H _ I h => wpAny_pure ⟨H, I, h⟩
theorem pif_one {X : Cx} {c : Expr} {t : TT} (h : PT X c t) : PIf X [c] t := fun pins s σ H Q I q => wpAny_tests_one (h pins s σ H Q I q)

section
variable {X : Cx} {scope : Scope} {cl : List (Str × Addr)} {Nc : List Str} {nl : Nat} {fr : List Nat} {pins : List (Addr × Obj)} {σ : St} {H3 : Hp} {s3 : Shared} {fp : List Addr} {h4 : Heap} {tk : Nat}
theorem comp_start (ck : CompOk X scope cl Nc nl fr) (I : Inv X pins σ H3 s3) (hf : ∀ b ∈ fp, FpOk X pins H3 b) (hfs : ∀ b ∈ fp, b < s3.heap.objs.size)
    (hns : h4.Ns s3.heap.objs.size fun _ => none) (hk : ∀ b o, s3.heap.get? b = some o → h4.get? b = some o) :
    Inv (compCx X scope cl Nc s3.heap.objs.size s3 H3 fp pins) [] (σC nl fr σ) H3 { s3 with heap := h4, toks := tk } := by
  have stk : ∀ b ∈ frs X.stack, b ∈ X.env.locals :: X.fs := I.stkSub
  have nfs : ∀ b, b ≠ X.env.locals → b ∉ X.fs → b ∉ frs X.stack := fun b h1 h2 z => (List.mem_cons.mp (stk b z)).elim h1 h2
  have ltc : ∀ x c, cl.lookup x = some c → c < s3.heap.objs.size := fun x c e => by
    obtain ⟨v, z⟩ := I.cell x c (ck.sub x c e)
    exact z.lt
  refine ⟨⟨I.ok.mod, ck.kind, I.ok.glob, I.ok.blt, Nat.le_refl _, fun x y c h1 h2 => I.ok.inj x y c (ck.sub x c h1) (ck.sub y c h2), fun x hx => ck.has x hx, fun x c hz => Bool.noConfusion hz, I.ok.hd, I.ok.frames, .inl rfl, fun b hb => ?_, I.bs, Nat.le_trans I.ok.bsz I.sz, fun b o e hb => ?_, fun b hb => ?_, I.stack, I.stkFree⟩,
    rfl, I.bare, Un.kept hk, ⟨_, hns, fun i x v h1 h2 h3 => ?_⟩, fun x c e => ?_, I.hok.fresh (Nat.le_refl _), fun x c e => I.freeC x c (ck.sub x c e), fun p hp => ?_, I.hok.kept hk, ?_⟩
  · obtain ⟨f0, f1, f2, f3, f4, f5⟩ := hf b hb
    exact ⟨Nat.ne_of_lt (hfs b hb), fun x c e => f4 x c (ck.sub x c e)⟩
  · obtain ⟨f0, f1, f2, f3, f4, f5⟩ := hf b hb
    rcases f3 with z | z
    · exact I.ok.noex b o e z
    · exact absurd (Nat.lt_of_lt_of_le (Heap.lt_size e) (Nat.le_trans I.ok.bsz z)) (Nat.lt_irrefl _)
  · obtain ⟨f0, f1, f2, f3, f4, f5⟩ := hf b hb
    exact nfs b f1 f2
  · -- a name's value
    unfold σC at h2
    by_cases hi : i < nl
    · rw [List.getElem?_append_left (by simpa using hi), List.getElem?_replicate] at h2
      split at h2 <;> cases h2
    · have hi' : nl ≤ i := by omega
      rw [List.getElem?_append_right (by simpa using hi'), List.length_replicate, List.getElem?_map] at h2
      obtain ⟨k, rfl⟩ : ∃ k, i = nl + k := ⟨i - nl, by omega⟩
      obtain ⟨j, e1, e2, e3, e4, e5⟩ := ck.tail k x h1
      rw [Nat.add_sub_cancel_left, e1] at h2
      have h2' : (σ[j]?).join = some v := by simpa using h2
      have h2'' : σ[j]? = some (some v) := by
        cases q : σ[j]? with
        | none => rw [q] at h2'; cases h2'
        | some z => rw [q] at h2'; exact congrArg some h2'
      obtain ⟨m, hn, hl⟩ := I.loc
      obtain ⟨u, r, l⟩ := hl j x v e2 h2'' (.inr (.inl e3))
      refine ⟨u, r, ?_⟩
      rcases l with ⟨k1, _⟩ | ⟨k1, c, ec, z⟩
      · rw [e3] at k1; cases k1
      · obtain ⟨o, ho, hd⟩ := z
        exact .inr ⟨e5, c, by show cl.lookup x = some c; rw [e4]; exact ec, o, hk _ _ ho, hd⟩
  · obtain ⟨v, o, ho, hd⟩ := I.cell x c (ck.sub x c e)
    exact ⟨v, o, hk _ _ ho, hd⟩
  · have hp' : p ∈ X.pn ++ pins := by simpa using hp
    obtain ⟨e, n, ne, nf, d⟩ := I.pin p hp'
    exact ⟨hk _ _ e, n, Nat.ne_of_lt (Heap.lt_size e), nfs _ ne nf, d⟩
  · unfold σC
    show _ = Nc.length
    rw [List.length_append, List.length_replicate, List.length_map, ck.len]
theorem comp_end {pins' : List (Addr × Obj)} {σ' : St} {H' : Hp} {s' : Shared} (I : Inv X pins σ H3 s3) (hf : ∀ b ∈ fp, FpOk X pins H3 b)
    (J : Inv (compCx X scope cl Nc s3.heap.objs.size s3 H3 fp pins) pins' σ' H' s') : Inv X pins σ H' s' ∧ FpOk X pins H' s3.heap.objs.size := by
  refine ⟨I.call' (ch := fp) J.os J.base J.hok J.bare fun b hb => ?_, I.fpOk (Nat.le_refl _) J.free⟩
  obtain ⟨f0, f1, f2, f3, f4, f5⟩ := hf b hb
  exact ⟨f3, f1, f4, f5⟩
theorem Inv.off {b : Addr} {H : Hp} {s : Shared} {h' : Heap} (I : Inv X pins σ H s) (f : FpOk X pins H b) (hs : Heap.SameBut b s.heap h') : Inv X pins σ H { s with heap := h' } := by
  obtain ⟨f0, f1, f2, f3, f4, f5⟩ := f
  exact I.turned (t' := s.toks) (it := b) (fun c o hb e => (hs.2 c hb).trans e) f0 f1 f3 f4 f5
end

def CompW (J : It) (nl : Nat) (fr : List Nat) (g : TG) (tt : TT) (te : TE) (σ : St) (D : Addr) (H1 : Hp) (Q : VK) : Prop :=
  ∃ W : Nat → Nat → List V → Hp → Prop, (∃ m, W 0 m [] (upd H1 D (.lst []))) ∧ ∀ i m ys H2, W i m ys H2 → H2 D = some (.lst ys) ∧
    ((J.stop i H2 ∧ Q (.ref D) H2) ∨ (J.go i H2 ∧ ∀ x H3, J.yld i H2 x H3 → g x (σC nl fr σ) H3 fun σ2 H4 => σ2.length = (σC nl fr σ).length ∧ (∀ (i : Nat) v, (σC nl fr σ)[i]? = some (some v) → σ2[i]? = some (some v)) ∧
      tt σ2 H4 fun b H5 => if b = true then te σ2 H5 fun y H6 => H6 D = some (.lst ys) ∧ ys.length < sizeLine ∧ ∃ m', m' < m ∧ W (i + 1) m' (ys ++ [y]) (upd H6 D (.lst (ys ++ [y])))
        else ∃ m', m' < m ∧ W (i + 1) m' ys H5))
def tComp (wi : TI) (nl : Nat) (fr : List Nat) (g : TG) (tt : TT) (te : TE) : TE := fun σ H Q => wi σ H fun J H1 => ∀ D, H1 D = none → CompW J nl fr g tt te σ D H1 Q
section
variable {X : Cx} {scope : Scope} {cl : List (Str × Addr)} {Nc : List Str} {nl : Nat} {fr : List Nat} {elt tg iter : Expr} {ifs : List Expr} {pos : Pos} {wi : TI} {g : TG} {tt : TT} {te : TE}
theorem comp_run (hc : X.calm = true) (ck : CompOk X scope cl Nc nl fr) (hi : PI X tg iter wi)
    (hg : ∀ C s3 H3 fp pins, PG (compCx X scope cl Nc C s3 H3 fp pins) tg g) (ht : ∀ C s3 H3 fp pins, PIf (compCx X scope cl Nc C s3 H3 fp pins) ifs tt) (he : ∀ C s3 H3 fp pins, PE (compCx X scope cl Nc C s3 H3 fp pins) elt te)
    {pins : List (Addr × Obj)} {s : Shared} {σ : St} {H : Hp} {Q : VK} (I : Inv X pins σ H s) (h : tComp wi nl fr g tt te σ H Q) {RR : Value → Addr → Result → Shared → Prop}
    (fin : ∀ D C s', (∃ H', (∃ m, s'.heap.Ns C m) ∧ Inv X pins σ H' s' ∧ FpOk X pins H' C ∧ Q (.ref D) H') → RR (.ref D) C (.ok .next) s') :
    wpAny (model X.prog X.w) X.A (eval iter X.env) (fun x s₁ => wpAny (model X.prog X.w) X.A (pyIter x) (fun it s₂ => wpAny (model X.prog X.w) X.A (newList []) (fun acc s₃ =>
      wpAny (model X.prog X.w) X.A (newFunctionEnv scope X.env.globals cl [] X.env.qual none .none (some X.env)) (fun cenv s₄ =>
        codeAny (model X.prog X.w) X.A (.compStart (.ListComp elt [⟨tg, iter, ifs, 0⟩] scope pos) 0 it acc { cenv with scope := relabel scope X.env }) (RR acc cenv.locals) s₄) X.xe s₃) X.xe s₂) X.xe s₁) X.xe s := by
  refine thn (hi pins s σ H _ I h) fun v s1 h1 => thn h1 fun itv s2 h2 => ?_
  obtain ⟨it, fp, tn, J, H2, e, I2, T, st2, f2, hD⟩ := h2
  subst e
  have hn2 : H2 s2.heap.objs.size = none := I2.hok.fresh (Nat.le_refl _)
  obtain ⟨W, ⟨m0, w0⟩, turn⟩ := hD s2.heap.objs.size hn2
  refine wpAny_newObj_type (wpAny_newFunctionEnv ck.cell (by intro y hy; simp at hy) (fun h4 hns hsb => ?_) ck.kind)
  dsimp only at hns hsb ⊢
  have I3 : Inv X pins σ (upd H2 s2.heap.objs.size (.lst [])) { s2 with heap := s2.heap.push { cls := .type "list", dict := none, data := .seq ([] : List Value).toArray } } :=
    I2.laid (t' := s2.toks) (fun b u e => Heap.get?_push_of_some _ e) (Nat.le_refl _) ⟨Nat.zero_le _, [], 0, .nil, Heap.get?_push_size _ rfl⟩
  have hfs : ∀ b ∈ fp, b < s2.heap.objs.size := fun b hb => by
    obtain ⟨o, e, _⟩ := T.obj 0 _ st2 b hb
    exact Heap.lt_size e
  have f3 : ∀ b ∈ fp, FpOk X pins (upd H2 s2.heap.objs.size (.lst [])) b := fun b hb => ⟨by rw [upd_ne (Nat.ne_of_lt (hfs b hb))]; exact (f2 b hb).1, (f2 b hb).2⟩
  generalize hH3 : upd H2 s2.heap.objs.size (.lst []) = H3 at *
  generalize hs3 : ({ s2 with heap := s2.heap.push { cls := .type "list", dict := none, data := .seq ([] : List Value).toArray } } : Shared) = s3 at *
  have z3 : s3.heap = s2.heap.push { cls := .type "list", dict := none, data := .seq ([] : List Value).toArray } := by rw [← hs3]
  have hsz3 : s3.heap.objs.size = s2.heap.objs.size + 1 := by rw [z3, Heap.size_push]
  rw [← z3] at hns hsb ⊢
  have hk4 : ∀ b o, s3.heap.get? b = some o → h4.get? b = some o := fun b o e => hsb.extBut b o (Nat.ne_of_lt (Heap.lt_size e)) (Heap.get?_push_of_some _ e)
  have hfs3 : ∀ b ∈ fp, b < s3.heap.objs.size := fun b hb => Nat.lt_of_lt_of_le (hfs b hb) (by rw [hsz3]; exact Nat.le_succ _)
  have hns' : h4.Ns s3.heap.objs.size fun _ => none := by simpa using hns
  have K0 := fun tk => comp_start (tk := tk) ck I3 f3 hfs3 hns' hk4
  have stat : ∀ {H' : Hp}, (∀ b ∈ fp, H' b = none) → ∀ b ∈ fp, FpOk (compCx X scope cl Nc s3.heap.objs.size s3 H3 fp pins) [] H' b := fun {H'} hn b hb => by
    obtain ⟨f0, g1, g2, g3, g4, g5⟩ := f3 b hb
    refine ⟨hn b hb, Nat.ne_of_lt (hfs3 b hb), fun z => ?_, .inl hb, fun x c e => g4 x c (ck.sub x c e), fun p hp => g5 p (by simpa using hp)⟩
    exact (List.mem_cons.mp (I3.stkSub b z)).elim g1 g2
  have st4 : tn 0 h4 := T.keep 0 _ _ st2 fun b hb o e => hk4 b o (by rw [z3]; exact Heap.get?_push_of_some _ e)
  have loop : ∀ tk, codeAny (model X.prog X.w) X.A (.compLoop (.ListComp elt [⟨tg, iter, ifs, 0⟩] scope pos) 0 (.ref it) (.ref s2.heap.objs.size) (compEnvC scope cl s3.heap.objs.size X.env)) (RR (.ref s2.heap.objs.size) s3.heap.objs.size) { s3 with heap := h4, toks := tk } := by
    intro tk
    refine comp_loop (fun n s' => ∃ i ys H', Inv (compCx X scope cl Nc s3.heap.objs.size s3 H3 fp pins) [] (σC nl fr σ) H' s' ∧ tn i s'.heap ∧ (∀ b ∈ fp, H' b = none) ∧ W i n ys H') ?_ m0 ⟨0, [], H3, K0 tk, st4, fun b hb => (f3 b hb).1, w0⟩
    rintro n s5 ⟨i, ys, H5, I5, st5, fr5, w5⟩
    obtain ⟨hl5, q5⟩ := turn i n ys H5 w5
    rcases q5 with ⟨stop, qn⟩ | ⟨go, step⟩
    · refine wpAny_mono (T.done (compCx X scope cl Nc s3.heap.objs.size s3 H3 fp pins) rfl rfl rfl hc i [] s5 (σC nl fr σ) H5 (fun _ _ => False) I5 (stat fr5) st5 stop) (fun r s6 h6 => ?_) fun _ _ z => z
      obtain ⟨hr, I6⟩ := h6
      subst hr
      obtain ⟨z1, z2⟩ := comp_end I3 f3 I6
      refine fin _ _ _ ⟨H5, ?_, z1, z2, qn⟩
      obtain ⟨m, hm, _⟩ := I6.loc
      exact ⟨m, hm⟩
    · refine wpAny_mono (T.item (compCx X scope cl Nc s3.heap.objs.size s3 H3 fp pins) rfl rfl rfl hc i [] s5 (σC nl fr σ) H5 (fun _ _ => False) I5 (stat fr5) st5 go) (fun r s6 h6 => ?_) fun _ _ z => z
      obtain ⟨u, hr, h6⟩ := h6
      subst hr
      refine wpAny_mono h6 (fun _ s7 h7 => ?_) fun _ _ z => z
      obtain ⟨x, H7, I7, r7, y7, st7, fr7⟩ := h7
      have I7' := I7.pinned (stat fr7) (T.obj _ _ st7)
      refine wpAny_mono (hg s3.heap.objs.size s3 H3 fp pins _ s7 _ H7 x u _ I7' r7 (step x H7 y7)) (fun _ s8 h8 => ?_) fun _ _ z => z
      obtain ⟨σ8, H8, I8, l8, k8, q8⟩ := h8
      refine wpAny_mono (ht s3.heap.objs.size s3 H3 fp pins _ s8 σ8 H8 _ I8 q8) (fun b s9 h9 => ?_) fun _ _ z => z
      obtain ⟨H9, I9, q9⟩ := h9
      have again : ∀ {ys' : List V} {H' : Hp} {s' : Shared} {m' : Nat}, Inv (compCx X scope cl Nc s3.heap.objs.size s3 H3 fp pins) ([] ++ pinsAt fp s7.heap) σ8 H' s' → m' < n → W (i + 1) m' ys' H' →
          ∃ m, m < n ∧ ∃ i ys H', Inv (compCx X scope cl Nc s3.heap.objs.size s3 H3 fp pins) [] (σC nl fr σ) H' s' ∧ tn i s'.heap ∧ (∀ b ∈ fp, H' b = none) ∧ W i m ys H' := fun {ys' H' s' m'} I' hm w' => by
        refine ⟨m', hm, i + 1, ys', H', I'.unpinned.weak l8.symm k8, T.keep _ _ _ st7 fun b hb o e => (I'.pin (b, o) (List.mem_append_right _ (List.mem_append_right _ (mem_pinsAt hb e)))).1, fun b hb => ?_, w'⟩
        obtain ⟨o, e, d⟩ := T.obj _ _ st7 b hb
        exact (I'.pin (b, o) (List.mem_append_right _ (List.mem_append_right _ (mem_pinsAt hb e)))).2.1
      cases b with
      | false =>
        rw [if_neg Bool.false_ne_true] at q9 ⊢
        obtain ⟨m', hm, w9⟩ := q9
        exact again I9 hm w9
      | true =>
        rw [if_pos rfl] at q9 ⊢
        refine wpAny_mono (he s3.heap.objs.size s3 H3 fp pins _ s9 σ8 H9 _ I9 q9) (fun yv s10 h10 => ?_) fun _ _ z => z
        obtain ⟨y, H10, I10, r10, hl10, hz10, m', hm, w10⟩ := h10
        refine wpAny_mono (mt_append (X := compCx X scope cl Nc s3.heap.objs.size s3 H3 fp pins) _ s10 σ8 H10 (.ref s2.heap.objs.size) [y] _ [yv] (fun v H' => H' = upd H10 s2.heap.objs.size (.lst (ys ++ [y]))) I10 rfl (.cons r10 .nil) ⟨_, ys, y, rfl, rfl, hl10, hz10, rfl⟩) (fun _ s11 h11 => ?_) fun _ _ z => z
        obtain ⟨_, H11, I11, _, e11⟩ := h11
        subst e11
        exact again I11 hm w10
  have L := loop (s2.toks + ([] : List (Str × Value)).length)
  rw [show s3.gens = s2.gens by rw [← hs3], show s3.drawn = s2.drawn by rw [← hs3], show s3.os = s2.os by rw [← hs3]] at L
  exact codeAny_compStart_list L (T.self _ 0 _ _ _ st4 L)
theorem pe_comp (hc : X.calm = true) (ck : CompOk X scope cl Nc nl fr) (hi : PI X tg iter wi)
    (hg : ∀ C s3 H3 fp pins, PG (compCx X scope cl Nc C s3 H3 fp pins) tg g) (ht : ∀ C s3 H3 fp pins, PIf (compCx X scope cl Nc C s3 H3 fp pins) ifs tt) (he : ∀ C s3 H3 fp pins, PE (compCx X scope cl Nc C s3 H3 fp pins) elt te)
    (hs : ∀ x, foldedSetIterable iter X.env x = pure x := by intro _; rfl) : PE X (.ListComp elt [⟨tg, iter, ifs, 0⟩] scope pos) (tComp wi nl fr g tt te) := by
  intro pins s σ H Q I h
  rw [eval_ListComp]
  refine wpAny_comprehension_free (use := none) rfl hs ck.clos ck.kind ck.names (comp_run (RR := fun acc C => compPost (model X.prog X.w) X.A X.xe none (EP X pins σ Q) acc C) hc ck hi hg ht he I h fun D C s' hh => ?_)
  obtain ⟨H', ⟨m, hm⟩, hI, hF, q⟩ := hh
  exact ⟨m, hm, fun h' hs' => ⟨.ref D, H', hI.off hF hs', rfl, q⟩⟩
theorem ps_setC {i : Nat} {y : Str} {py spos : Pos} (hN : X.N.Nodup) (hiy : X.N[i]? = some y) (hy : X.env.scope.names.lookup y = some .local) (hc : X.calm = true) (ck : CompOk X scope cl Nc nl fr) (hi : PI X tg iter wi)
    (hg : ∀ C s3 H3 fp pins, PG (compCx X scope cl Nc C s3 H3 fp pins) tg g) (ht : ∀ C s3 H3 fp pins, PIf (compCx X scope cl Nc C s3 H3 fp pins) ifs tt) (he : ∀ C s3 H3 fp pins, PE (compCx X scope cl Nc C s3 H3 fp pins) elt te)
    (hsw : swapsWith (.ListComp elt [⟨tg, iter, ifs, 0⟩] scope pos) (some (.Name y py)) spos.line X.env = pure true)
    (hs : ∀ x, foldedSetIterable iter X.env x = pure x := by intro _; rfl) : PS X (.Assign [.Name y py] (.ListComp elt [⟨tg, iter, ifs, 0⟩] scope pos) spos) (tAsg (tComp wi nl fr g tt te) (gName i)) := by
  intro pins s σ H D I h
  rw [exec_Assign_Name_used _ _ _ _ hsw]
  refine wpAny_bind (wpAny_standAt (wpAny_bind ?_))
  show wpAny _ X.A (do let _ ← comprehension (.ListComp elt [⟨tg, iter, ifs, 0⟩] scope pos) scope X.env _ (newList []) false (eval iter X.env) (some (assign (.Name y py) X.env))) _ _ s
  refine wpAny_bind (wpAny_mono (wpAny_comprehension_free (use := some (assign (.Name y py) X.env)) (Q := fun _ s' => SP X pins D .next s') rfl hs ck.clos ck.kind ck.names
    (comp_run (RR := fun acc C => compPost (model X.prog X.w) X.A X.xe (some (assign (.Name y py) X.env)) (fun _ s' => SP X pins D .next s') acc C) hc ck hi hg ht he I h fun Dd C s' hh => ?_)) (fun _ s' hq => wpAny_pure (wpAny_pure hq)) fun _ _ e => e)
  obtain ⟨H', ⟨m, hm⟩, hI, hF, q⟩ := hh
  show wpAny _ X.A (assign (.Name y py) X.env (.ref Dd)) _ _ _
  refine wpAny_assign_Name (store_ok2 hI hN hiy (.inl hy) (v := .ref Dd) rfl (fun s2 I2 hsb => ?_) (.inr hy))
  obtain ⟨a, sb, ha⟩ := hsb
  have hCa : C ≠ a := by
    rcases ha with z | z
    · rw [z]; exact hF.2.1
    · exact Ne.symm (hF.2.2.2.2.1 y a z)
  refine ⟨m, hm.sameBut sb hCa, fun h' hs' => ⟨_, H', I2.off hF hs', q⟩⟩
end
end L2

set_option maxHeartbeats 1000000
namespace Mq
abbrev Q2 := Int × Int
def gc (a b : Int) : Int := (Int.gcd a b : Nat)
theorem gc_step (a b : Int) : gc b (Int.fmod a b) = gc a b := by
  unfold gc
  rw [Int.fmod_def, Int.gcd_comm a b, Int.sub_eq_add_neg, ← Int.mul_neg, Int.gcd_add_mul_left_right]
theorem fmod_less {a b : Int} (h : b ≠ 0) : (Int.fmod a b).natAbs < b.natAbs := by
  rcases (by omega : 0 < b ∨ b < 0) with h1 | h1
  · have := Int.fmod_nonneg_of_pos a h1
    have := Int.fmod_lt_of_pos a h1
    omega
  · have h2 : 0 < -b := by omega
    have e : Int.fmod a b = - Int.fmod (-a) (-b) := by
      rw [Int.neg_fmod_neg]; omega
    have := Int.fmod_nonneg_of_pos (-a) h2
    have := Int.fmod_lt_of_pos (-a) h2
    omega
theorem gc_zero (a : Int) : gc a 0 = if a < 0 then -a else a := by
  unfold gc
  rw [Int.gcd_zero]
  split <;> omega
theorem gc_pos {a b : Int} (h : b ≠ 0) : 0 < gc a b := by
  have := Int.gcd_pos_of_ne_zero_right a h
  unfold gc; omega
structure Low (p : Q2) : Prop where
  pos : 1 ≤ p.2
  one : gc p.1 p.2 = 1
def dvr (t b : Int) : Int := if b < 0 then -gc t b else gc t b
def red (t b : Int) : Q2 := (Int.fdiv t (dvr t b), Int.fdiv b (dvr t b))
theorem dvr_ne {t b : Int} (h : b ≠ 0) : dvr t b ≠ 0 := by
  have := gc_pos (a := t) h
  unfold dvr; split <;> omega
theorem fdiv_exact {a g k : Int} (hg : g ≠ 0) (h : a = g * k) : Int.fdiv a g = k := by
  rw [h, Int.mul_fdiv_cancel_left _ hg]
theorem dvr_dvd (t b : Int) : dvr t b ∣ t ∧ dvr t b ∣ b := by
  have h1 : gc t b ∣ t := Int.gcd_dvd_left t b
  have h2 : gc t b ∣ b := Int.gcd_dvd_right t b
  unfold dvr; split
  · exact ⟨Int.neg_dvd.mpr h1, Int.neg_dvd.mpr h2⟩
  · exact ⟨h1, h2⟩
theorem red_parts {t b : Int} (h : b ≠ 0) : t = dvr t b * (red t b).1 ∧ b = dvr t b * (red t b).2 := by
  obtain ⟨⟨x, hx⟩, ⟨y, hy⟩⟩ := dvr_dvd t b
  have hg := dvr_ne (t := t) h
  have e1 : (red t b).1 = x := fdiv_exact hg hx
  have e2 : (red t b).2 = y := fdiv_exact hg hy
  rw [e1, e2]; exact ⟨hx, hy⟩
theorem red_low {t b : Int} (h : b ≠ 0) : Low (red t b) := by
  obtain ⟨h1, h2⟩ := red_parts (t := t) h
  have hg := dvr_ne (t := t) h
  have hp := gc_pos (a := t) h
  have nd : (dvr t b).natAbs = (gc t b).natAbs := by unfold dvr; split <;> simp
  have e : Int.gcd t b = (dvr t b).natAbs * Int.gcd (red t b).1 (red t b).2 := by
    rw [← Int.gcd_mul_left, ← h1, ← h2]
  have e2 : (gc t b).natAbs = Int.gcd t b := by unfold gc; simp
  rw [nd, e2] at e
  have hp' : 0 < Int.gcd t b := by unfold gc at hp; omega
  have one : Int.gcd (red t b).1 (red t b).2 = 1 := by
    have : Int.gcd t b * Int.gcd (red t b).1 (red t b).2 = Int.gcd t b * 1 := by omega
    exact Nat.eq_of_mul_eq_mul_left hp' this
  refine ⟨?_, by unfold gc; rw [one]; rfl⟩
  have sgn : 0 < (red t b).2 := by
    by_cases hb : b < 0
    · have hd : dvr t b < 0 := by unfold dvr; rw [if_pos hb]; omega
      have hq : ¬ (red t b).2 ≤ 0 := fun q => by
        have := Int.mul_nonneg_of_nonpos_of_nonpos (Int.le_of_lt hd) q
        omega
      omega
    · have hd : 0 < dvr t b := by unfold dvr; rw [if_neg hb]; omega
      have hq : ¬ (red t b).2 ≤ 0 := fun q => by
        have := Int.mul_nonpos_of_nonneg_of_nonpos (Int.le_of_lt hd) q
        omega
      omega
  omega
theorem red_cross {t b : Int} (h : b ≠ 0) : (red t b).1 * b = t * (red t b).2 := by
  obtain ⟨h1, h2⟩ := red_parts (t := t) h
  generalize (red t b).1 = x at *
  generalize (red t b).2 = y at *
  generalize dvr t b = g at *
  subst h1 h2; grind
theorem natAbs_fdiv_le {a g k : Int} (hg : g ≠ 0) (h : a = g * k) : k.natAbs ≤ a.natAbs := by
  rw [h, Int.natAbs_mul]
  exact Nat.le_mul_of_pos_left _ (by omega)
theorem red_le {t b : Int} (h : b ≠ 0) : (red t b).1.natAbs ≤ t.natAbs ∧ (red t b).2.natAbs ≤ b.natAbs := by
  obtain ⟨h1, h2⟩ := red_parts (t := t) h
  exact ⟨natAbs_fdiv_le (dvr_ne h) h1, natAbs_fdiv_le (dvr_ne h) h2⟩
theorem dvr_le {t b : Int} (h : b ≠ 0) : (dvr t b).natAbs ≤ b.natAbs := by
  have e : (dvr t b).natAbs = Int.gcd t b := by unfold dvr gc; split <;> simp
  rw [e]; exact Int.gcd_le_natAbs_right t h
theorem low_same {p q : Q2} (hp : Low p) (hq : Low q) (h : p.1 * q.2 = q.1 * p.2) : p = q := by
  have gp : Int.gcd p.2 p.1 = 1 := by have := hp.one; rw [Int.gcd_comm]; unfold gc at this; omega
  have gq : Int.gcd q.2 q.1 = 1 := by have := hq.one; rw [Int.gcd_comm]; unfold gc at this; omega
  have d1 : p.2 ∣ q.2 := by
    have : p.2 ∣ p.1 * q.2 := ⟨q.1, by rw [h, Int.mul_comm]⟩
    have := Int.dvd_gcd_mul_iff_dvd_mul.mpr this
    rw [gp] at this
    simpa using this
  have d2 : q.2 ∣ p.2 := by
    have : q.2 ∣ q.1 * p.2 := ⟨p.1, by rw [← h, Int.mul_comm]⟩
    have := Int.dvd_gcd_mul_iff_dvd_mul.mpr this
    rw [gq] at this
    simpa using this
  have l1 := Int.le_of_dvd (by have := hq.pos; omega) d1
  have l2 := Int.le_of_dvd (by have := hp.pos; omega) d2
  have e2 : p.2 = q.2 := by omega
  have e1 : p.1 = q.1 := by
    rw [e2] at h
    exact Int.eq_of_mul_eq_mul_right (by have := hq.pos; omega) h
  exact Prod.ext e1 e2
theorem low_red {p : Q2} (hp : Low p) : red p.1 p.2 = p := by
  have h : p.2 ≠ 0 := by have := hp.pos; omega
  exact low_same (red_low h) hp (red_cross h)
def B (n : Nat) (i : Int) : Prop := i.natAbs < 2 ^ n
structure Bd (n : Nat) (p : Q2) : Prop where
  a : B n p.1
  b : B n p.2
theorem B.le {n : Nat} {i j : Int} (h : B n i) (l : j.natAbs ≤ i.natAbs) : B n j := Nat.lt_of_le_of_lt l h
end Mq

set_option Elab.async false
set_option linter.all false
set_option maxRecDepth 100000
set_option maxHeartbeats 1000000
namespace L2
open PySem PySem.Spec PyProof.Rows
section
variable {X : Cx} {e st : Expr} {te ts : TE} {p2 pos : Pos}
end

structure FunD (K : PySem.W.Frag) (x qual : Str) (st : Stmt) (dV : Value) (f : Addr) (fd : FuncData) : Prop where
  ex : ∃ (oc : Value) (od : Option Addr) (kV doc pm : Value) (an : Option Addr) (cdv ct : Value) (osl : Array (Option Value)),
    fd = PySem.W.fnOf x qual (defArgs st) (defBody st) (defScope st) dV kV doc pm an cdv ct ∧ K.lookup f = some ⟨oc, od, .func fd, osl⟩ ∧ PySem.W.codeIn K cdv qual = true
  kp : PySem.W.keepIn K (.ref f) = true
section
variable {P : Program} {w : World} {K : PySem.W.Frag} {mg : Str → Option Value} {base : Heap} {CX : CXT}
theorem FunD.okX {x qual : Str} {st : Stmt} {dV : Value} {f : Addr} {fd : FuncData} {N ps : List Str} {k : Nat} {sp : Sp} (F : FunD K x qual st dV f fd) (S : FnScope N ps (defScope st)) (len : ∀ vs H Q E, sp vs H Q E → vs.length = ps.length)
    (hbody : ∀ (cdv : Value) (A : Around) (outer : List Env) (s : Shared) (H : Hp) (vs : List V) (Q : VK) (E : XK), Room k (A.deeper (envOfC qual (defScope st) s.heap.objs.size f cdv)) → sp vs H Q E →
      ∃ t, PSs (cxOf CX P w K mg base N qual (defScope st) f cdv A outer s H E) (defBody st) t ∧ t { nx := fun _ H' => Q .non H', rt := Q } (start N vs) H) : FnOk P w K mg base CX (k + 1) f fd ps sp := by
  obtain ⟨oc, od, kV, doc, pm, an, cdv, ct, osl, rfl, lk, hcd⟩ := F.ex
  exact fn_of lk hcd S len fun A outer s H vs Q E hr hsp => hbody cdv A outer s H vs Q E hr hsp
theorem FunD.ok {x qual : Str} {st : Stmt} {dV : Value} {f : Addr} {fd : FuncData} {N ps : List Str} {k : Nat} {sp : Sp} (F : FunD K x qual st dV f fd) (S : FnScope N ps (defScope st)) (len : ∀ vs H Q E, sp vs H Q E → vs.length = ps.length)
    (hbody : ∀ (cdv : Value) (A : Around) (outer : List Env) (s : Shared) (H : Hp) (vs : List V) (Q : VK) (E : XK), Room k (A.deeper (envOfC qual (defScope st) s.heap.objs.size f cdv)) → sp vs H Q E →
      ∃ t, PSs (cxOf CX P w K mg base N qual (defScope st) f cdv A outer s H E).nox (defBody st) t ∧ t { nx := fun _ H' => Q .non H', rt := Q } (start N vs) H) : FnOk P w K mg base CX (k + 1) f fd ps sp :=
  F.okX S len fun cdv A outer s H vs Q E hr hsp => by
    obtain ⟨t, h, q⟩ := hbody cdv A outer s H vs Q E hr hsp
    exact ⟨t, h.nox, q⟩
theorem FunD.binds {x qual : Str} {st : Stmt} {dV : Value} {f : Addr} {fd : FuncData} {ps : List Str} (F : FunD K x qual st dV f fd)
    (h : ∀ (kV doc pm : Value) (an : Option Addr) (cdv ct : Value) (us : List Value), us.length = ps.length → bindArgs (PySem.W.fnOf x qual (defArgs st) (defBody st) (defScope st) dV kV doc pm an cdv ct) ⟨us, []⟩ = pure (ps.zip us)) : Binds K fd ps [] := by
  obtain ⟨oc, od, kV, doc, pm, an, cdv, ct, osl, rfl, lk, hcd⟩ := F.ex
  exact .all (h kV doc pm an cdv ct)
theorem fund_mk {x qual : Str} {st : Stmt} {dV : Value} {f : Addr} {oc : Value} {od an : Option Addr} {osl : Array (Option Value)} {kV doc pm cdv ct : Value} (l : K.lookup f = some ⟨oc, od, .func (PySem.W.fnOf x qual (defArgs st) (defBody st) (defScope st) dV kV doc pm an cdv ct), osl⟩)
    (c : PySem.W.codeIn K cdv qual = true) (k : PySem.W.keepIn K (.ref f) = true) : FunD K x qual st dV f (PySem.W.fnOf x qual (defArgs st) (defBody st) (defScope st) dV kV doc pm an cdv ct) := ⟨⟨oc, od, kV, doc, pm, an, cdv, ct, osl, rfl, l, c⟩, k⟩
end

abbrev fT (p : Mq.Q2) : HO := .tup [.int p.1, .int p.2]
def Fq (K : PySem.W.Frag) (H : Hp) (a : Addr) (p : Mq.Q2) : Prop := SqT K H a [.int p.1, .int p.2]
theorem Same.seqT {K : PySem.W.Frag} {H H' : Hp} {a : Addr} {xs : List V} (e : Same H H') (h : SqT K H a xs) : SqT K H' a xs := by
  rcases h with (h | ⟨o, h⟩) | h
  · exact .inl (.inl (e _ _ h))
  · exact .inl (.inr ⟨o, e _ _ h⟩)
  · exact .inr h
theorem same_new {H : Hp} {p : Addr} (h : H p = none) (o : HO) : Same H (upd H p o) := fun b u q => by rw [upd_ne (ne_of_none q h)]; exact q
theorem Same.fq {K : PySem.W.Frag} {H H' : Hp} {a : Addr} {p : Mq.Q2} (e : Same H H') (h : Fq K H a p) : Fq K H' a p := e.seqT h
theorem Fq.of {K : PySem.W.Frag} {H : Hp} {a : Addr} {p : Mq.Q2} (h : H a = some (fT p)) : Fq K H a p := SqT.of h
theorem rd_ix0 {K : PySem.W.Frag} {σ : St} {H : Hp} {i : Nat} {a : Addr} {p : Mq.Q2} {Q : VK} (hv : σ[i]? = some (some (.ref a))) (h : Fq K H a p) (q : Q (.int p.1) H) : tOp (rIxT K) (tVar i) (tC (.int 0)) σ H Q :=
  ⟨_, hv, a, _, _, _, rfl, rfl, h, rfl, q⟩
theorem rd_ix1 {K : PySem.W.Frag} {σ : St} {H : Hp} {i : Nat} {a : Addr} {p : Mq.Q2} {Q : VK} (hv : σ[i]? = some (some (.ref a))) (h : Fq K H a p) (q : Q (.int p.2) H) : tOp (rIxT K) (tVar i) (tC (.int 1)) σ H Q :=
  ⟨_, hv, a, _, _, _, rfl, rfl, h, rfl, q⟩
theorem rd_mulB {H : Hp} {n m : Nat} {i j : Int} {Q : VK} (h1 : Mq.B n i) (h2 : Mq.B m j) (h3 : n ≤ 1048576) (h4 : m ≤ 1048576) (q : Q (.int (i * j)) H) : rI CBig (fun i j => .int (i * j)) (.int i) (.int j) H Q :=
  ⟨_, _, rfl, rfl, ⟨n, m, h1, h2, h3, h4⟩, q⟩
theorem rd_fdivB {H : Hp} {n : Nat} {i j : Int} {Q : VK} (h1 : j ≠ 0) (h2 : Mq.B n j) (h3 : n ≤ 9000) (q : Q (.int (i.fdiv j)) H) : rI CDivB (fun i j => .int (i.fdiv j)) (.int i) (.int j) H Q :=
  ⟨_, _, rfl, rfl, ⟨h1, n, h2, h3⟩, q⟩
structure Bl (mg : Str → Option Value) : Prop where
  isi : mg "isinstance" = none
  int : mg "int" = none
  bool : mg "bool" = none
  abs : mg "abs" = none
theorem pe_isi {X : Cx} {i : Nat} {x T : Str} {T' : String} {p1 p2 p3 pos : Pos} (hN : X.N[i]? = some x) (hv : Vis X.env.scope x) (b : X.mg "isinstance" = none) (b2 : X.mg T = none) (g1 : Gl X "isinstance") (g2 : Gl X T) (hT : bootBuiltins T = some (.type T'))
    (hd : (x == ("__debug__" : Str)) = false := by decide) (hcd : (x == ("__classdict__" : Str)) = false := by decide) (hTn : T ≠ "__name__" := by decide) (hTd : (T == ("__debug__" : Str)) = false := by decide)
    (he : starEach [.Name x p2, .Name T p3] X.env = (false, eval (.Name x p2) X.env) :: starEach [.Name T p3] X.env := by rfl)
    (he2 : starEach [.Name T p3] X.env = (false, eval (.Name T p3) X.env) :: starEach [] X.env := by rfl) (hpl : (backTo pos (starEach [.Name T p3] X.env)).any (·.1) = false := by rfl) :
    PE X (.Call (.Name "isinstance" p1) [.Name x p2, .Name T p3] [] pos) (fun σ H Q => ∃ v t b, σ[i]? = some (some v) ∧ TyOf X.K H v t ∧ PySem.W.kitOne X.K t (.type T') = some b ∧ Q (.bl b) H) := by
  have h := pe_callB (X := X) (pos := pos) (p := p1) call_isi g1 b PyProof.Rows.boot_isinstance (pa_cons (pe_var (i := i) (pos := p2) hN hv hd hcd) (pa_cons (pe_bltn (v := .ty T') (pos := p3) g2 b2 hT rfl hTn hTd) pa_nil he2) he) (by decide) (by decide) he hpl
  intro pins s σ H Q I q
  obtain ⟨v, t, bb, h1, h2, h3, h4⟩ := q
  exact h pins s σ H Q I ⟨v, h1, v, T', t, bb, rfl, h2, h3, h4⟩
end L2

set_option Elab.async false
set_option linter.all false
namespace L2
open PySem PySem.Spec PyProof.Rows
def NotWhole (t : Value) : Prop := t = .type "bool" ∨ t = .type "str" ∨ t = .type "NoneType" ∨ t = .type "tuple" ∨ t = .type "list"
def spWhole (K : PySem.W.Frag) : Sp := fun vs H Q _ => ∃ x, vs = [x] ∧ ((∃ i, x = .int i ∧ Q (.bl true) H) ∨ (∃ t, TyOf K H x t ∧ NotWhole t ∧ Q (.bl false) H))
def spGc : Sp := fun vs H Q _ => ∃ a b : Int, vs = [.int a, .int b] ∧ Q (.int (Mq.gc a b)) H
def NewF (H : Hp) (Q : VK) (p : Mq.Q2) : Prop := ∀ a H', Same H H' → H' a = some (fT p) → Q (.ref a) H'
end L2

set_option Elab.async false
set_option linter.all false
set_option maxHeartbeats 1000000
namespace L2
open PySem PySem.Spec PyProof.Rows
theorem Fq.upd {K : PySem.W.Frag} {H : Hp} {a l : Addr} {p : Mq.Q2} {xs : List V} {o : HO} (h : Fq K H a p) (hl : H l = some (.lst xs)) : Fq K (L2.upd H l o) a p := by
  rcases h with (h | ⟨u, h⟩) | h
  · exact .inl (.inl (by rw [upd_ne (ne_of h hl (fun z => by cases z))]; exact h))
  · exact .inl (.inr ⟨u, by rw [upd_ne (ne_of h hl (fun z => by cases z))]; exact h⟩)
  · exact .inr h
theorem Same.change {H H' : Hp} {l : Addr} {o : HO} (s : Same H H') (h : H l = none) : Same H (L2.upd H' l o) := fun b u q => by
  rw [upd_ne (ne_of_none q h)]; exact s b u q
end L2

set_option Elab.async false
set_option linter.all false
set_option maxRecDepth 100000
set_option maxHeartbeats 2000000
namespace L2
open PySem PySem.Spec PyProof.Rows
abbrev CompT (nl : Nat) (fr : List Nat) (g : TG) (tt : TT) (te : TE) (σ : St) (D : Addr) (Pv : Nat → List V → Hp → Prop) (i : Nat) (ys : List V) (x : V) (H : Hp) : Prop :=
  g x (σC nl fr σ) H fun σ2 H4 => σ2.length = (σC nl fr σ).length ∧ (∀ (i : Nat) v, (σC nl fr σ)[i]? = some (some v) → σ2[i]? = some (some v)) ∧
    tt σ2 H4 fun b H5 => if b = true then te σ2 H5 fun y H6 => H6 D = some (.lst ys) ∧ ys.length < sizeLine ∧ Pv (i + 1) (ys ++ [y]) (upd H6 D (.lst (ys ++ [y]))) else Pv (i + 1) ys H5
section
variable {nl : Nat} {fr : List Nat} {g : TG} {tt : TT} {te : TE} {σ : St} {D : Addr} {H1 : Hp} {Q : VK}
theorem comp_range {lo : Int} {n : Nat} (Pv : Nat → List V → Hp → Prop) (h0 : Pv 0 [] (upd H1 D (.lst []))) (hl : ∀ i ys H, Pv i ys H → H D = some (.lst ys))
    (hs : ∀ i ys H, i < n → Pv i ys H → ∀ (C : Nat → List V → Hp → Prop), (∀ ys H, Pv (i + 1) ys H → C (i + 1) ys H) → CompT nl fr g tt te σ D C i ys (.int (lo + i)) H) (hd : ∀ ys H, Pv n ys H → Q (.ref D) H) :
    CompW (Itr lo n) nl fr g tt te σ D H1 Q := by
  refine ⟨fun i m ys H => m = n - i ∧ i ≤ n ∧ Pv i ys H, ⟨n, by simp, Nat.zero_le _, h0⟩, ?_⟩
  rintro i m ys H ⟨rfl, hi, p⟩
  refine ⟨hl i ys H p, ?_⟩
  by_cases hlt : i < n
  · refine .inr ⟨hlt, fun x H' y => ?_⟩
    obtain ⟨e, y⟩ := y
    subst e y
    exact hs i ys _ hlt p (fun j zs Hz => ∃ m', m' < n - i ∧ m' = n - j ∧ j ≤ n ∧ Pv j zs Hz) fun zs Hz z => ⟨n - (i + 1), by omega, rfl, hlt, z⟩
  · have e : i = n := by omega
    subst e
    exact .inl ⟨Nat.le_refl _, hd ys H p⟩
theorem comp_list {K : PySem.W.Frag} {a : Addr} {xs : List V} (Pv : Nat → List V → Hp → Prop) (h0 : Pv 0 [] (upd H1 D (.lst []))) (hl : ∀ i ys H, Pv i ys H → H D = some (.lst ys)) (hx : ∀ i ys H, i ≤ xs.length → Pv i ys H → SqL K H a xs)
    (hs : ∀ i ys x H, xs[i]? = some x → Pv i ys H → ∀ (C : Nat → List V → Hp → Prop), (∀ ys H, Pv (i + 1) ys H → C (i + 1) ys H) → CompT nl fr g tt te σ D C i ys x H) (hd : ∀ ys H, Pv xs.length ys H → Q (.ref D) H) :
    CompW (Itl K a) nl fr g tt te σ D H1 Q := by
  refine ⟨fun i m ys H => m = xs.length - i ∧ i ≤ xs.length ∧ Pv i ys H, ⟨xs.length, by simp, Nat.zero_le _, h0⟩, ?_⟩
  rintro i m ys H ⟨rfl, hi, p⟩
  refine ⟨hl i ys H p, ?_⟩
  have q := hx i ys H hi p
  by_cases hlt : i < xs.length
  · refine .inr ⟨⟨xs, xs[i], q, by simp [hlt]⟩, fun x H' y => ?_⟩
    obtain ⟨e, y⟩ := y
    subst e
    exact hs i ys x _ (y xs q) p (fun j zs Hz => ∃ m', m' < xs.length - i ∧ m' = xs.length - j ∧ j ≤ xs.length ∧ Pv j zs Hz) fun zs Hz z => ⟨xs.length - (i + 1), by omega, rfl, hlt, z⟩
  · have e : i = xs.length := by omega
    subst e
    exact .inl ⟨⟨xs, q, Nat.le_refl _⟩, hd ys H p⟩
end
theorem keep1 {fr : List Nat} {σ : St} {x : V} : ((σC 1 fr σ).set 0 (some x)).length = (σC 1 fr σ).length ∧ ∀ (i : Nat) v, (σC 1 fr σ)[i]? = some (some v) → ((σC 1 fr σ).set 0 (some x))[i]? = some (some v) := by
  refine ⟨by simp, fun i v h => ?_⟩
  match i with
  | 0 => unfold σC at h; simp at h
  | k + 1 => rw [List.getElem?_set_ne (by omega)]; exact h
theorem has_of {names : List (Str × NameKind)} {cl : List (Str × Addr)} (h : names.all (fun y => !(y.2 == .cell || y.2 == .free) || (cl.lookup y.1).isSome) = true) (x : Str) (hx : names.lookup x = some .cell ∨ names.lookup x = some .free) : ∃ c, cl.lookup x = some c := by
  have key : ∀ k, (k = NameKind.cell ∨ k = NameKind.free) → names.lookup x = some k → ∃ c, cl.lookup x = some c := fun k hk e => by
    have m := List.all_eq_true.mp h _ (PySem.mem_of_lookup e)
    have : (k == NameKind.cell || k == NameKind.free) = true := by rcases hk with rfl | rfl <;> rfl
    simp only [this, Bool.not_true, Bool.false_or] at m
    exact Option.isSome_iff_exists.mp m
  rcases hx with e | e
  · exact key _ (.inl rfl) e
  · exact key _ (.inr rfl) e
end L2

set_option Elab.async false
set_option linter.all false
set_option maxHeartbeats 1000000
namespace L2
open PySem PySem.Spec PyProof.Rows
section
variable {X : Cx}
end
end L2

set_option Elab.async false
set_option linter.all false
set_option maxRecDepth 100000
set_option maxHeartbeats 2000000
namespace L2
open PySem PySem.Spec PyProof.Rows
section
variable {X : Cx} {tg : Expr}
theorem find_list {es : Array DictEntry} {name : Str} (h : List.find? (fun x => x.key.isStr name) es.toList = none) : nsFind es name = none := by
  unfold nsFind findBy
  rw [← Array.find?_toList, h]
  rfl
theorem noDig {h : Heap} {K : PySem.W.Frag} (kin : K.In h) (lim : h.NoLimit) (nd : PySem.W.nsIn K cStatics "sys.int_max_str_digits" = some none) : h.NoDigits := by
  obtain ⟨mc, ⟨o, es, ep, e1, e2, sk, hf⟩, _⟩ := lim
  refine ⟨mc, ⟨o, es, ep, e1, e2, sk, hf⟩, ?_⟩
  rw [← hf]
  unfold PySem.W.nsIn at nd
  split at nd
  · rename_i cls dict es' ep' slots q
    have g := kin _ _ q
    rw [e1] at g
    cases g
    have e2' : es' = es := by cases e2; rfl
    subst e2'
    split at nd
    · cases nd
    · rename_i q2; exact find_list q2
  · cases nd
theorem lt_big {n : Nat} {a : Nat} (h : a < 2 ^ n) (hn : n ≤ 12900) : a < 10 ^ 4300 := by
  have h1 : (2 : Nat) ^ n ≤ 2 ^ 12900 := Nat.pow_le_pow_right (by decide) hn
  have h2 : (2 : Nat) ^ 12900 = 8 ^ 4300 := by rw [show (12900 : Nat) = 3 * 4300 from rfl, Nat.pow_mul]
  have h3 : (8 : Nat) ^ 4300 ≤ 10 ^ 4300 := Nat.pow_le_pow_left (by decide) _
  rw [h2] at h1
  exact Nat.lt_of_lt_of_le h (Nat.le_trans h1 h3)
def rStrI : List V → Hp → VK → Prop := fun xs H Q => ∃ i n, xs = [.int i] ∧ Bt n i ∧ n ≤ 12900 ∧ Q (.str (Str.ofString (toString i))) H
theorem call_strB (hc : X.calm = true) (nd : PySem.W.nsIn X.K cStatics "sys.int_max_str_digits" = some none) : CallR X (.type "str") rStrI := by
  intro pins s σ H xs us Q I r h
  obtain ⟨i, n, rfl, hb, hn, q⟩ := h
  obtain ⟨u, rfl, t, rfl⟩ := vals1 r
  have hl := lt_big hb hn
  exact str_of_int_or (I.ok.hd hc) (noDig I.kIn I.nolimit nd) (fun _ => ⟨.str _, H, I.tok _, ⟨_, rfl⟩, q⟩) fun z => absurd hl (Nat.not_lt.mpr z)
def rIntT : List V → Hp → VK → Prop := fun xs H Q => ∃ x n, xs = [.str x] ∧ intText? x = some n ∧ x.length ≤ 640 ∧ Q (.int n) H
theorem call_intT : CallR X (.type "int") rIntT := by
  intro pins s σ H xs us Q I r h
  obtain ⟨x, n, rfl, e, hz, q⟩ := h
  obtain ⟨u, rfl, t, rfl⟩ := vals1 r
  exact PySem.W.KIN.call_text e hz ⟨.int n, H, I.tok _, ⟨_, rfl⟩, q⟩
def rPart : V → List V → Hp → VK → Prop := fun x vs H Q => ∃ a b, x = .str a ∧ vs = [.str b] ∧ b.length ≠ 0 ∧ a.length ≤ sizeLine ∧
  ∀ p, H p = none → Q (.ref p) (upd H p (.tup [.str (Txt.partition a b).1, .str (Txt.partition a b).2.1, .str (Txt.partition a b).2.2]))
theorem mt_partition : MtR X "str.partition" rPart := by
  intro pins s σ H x vs v us Q I rx rv h
  obtain ⟨a, b, rfl, rfl, hb, hz, q⟩ := h
  obtain ⟨t, rfl⟩ := rx
  obtain ⟨u, rfl, t', rfl⟩ := vals1 rv
  have hb' : (b.length == 0) = false := by simpa using hb
  have fin : ∀ (ta tb tc : Tok) (k : Nat), EP X pins σ Q (.ref s.heap.objs.size) { s with heap := s.heap.push { cls := .type "tuple", data := .seq #[.str (Txt.partition a b).1 ta, .str (Txt.partition a b).2.1 tb, .str (Txt.partition a b).2.2 tc] }, toks := k } := fun ta tb tc k =>
    ⟨.ref s.heap.objs.size, _, I.laid (t' := k) (fun b o e => Heap.get?_push_of_some _ e) (Nat.le_refl _) (show ObjOk X.prog X.w _ _ _ (.tup [.str (Txt.partition a b).1, .str (Txt.partition a b).2.1, .str (Txt.partition a b).2.2]) from
      ⟨by show 3 ≤ sizeLine; decide, _, .cons ⟨_, rfl⟩ (.cons ⟨_, rfl⟩ (.cons ⟨_, rfl⟩ .nil)), IsTup.new _ _⟩), rfl, q _ (I.hok.fresh (Nat.le_refl _))⟩
  refine call_meets F.slot_str_partition (typeIs_str s a t) F.entry_str_partition (F.args_str_partition_2 _ _) (meets_str_partition a b t t' hb' hz) ?_
  cases e : Builtin.Str.occurrences a b 0 a.length 1 with
  | nil =>
    simp only [Txt.partition, e] at fin
    simp only [e]
    exact fin _ _ _ _
  | cons i l =>
    simp only [Txt.partition, e] at fin
    simp only [e]
    exact fin _ _ _ _
theorem mt_startswith : MtR X "str.startswith" (fun x vs H Q => ∃ a b, x = .str a ∧ vs = [.str b] ∧ Q (.bl (Txt.startswith a b)) H) := by
  intro pins s σ H x vs v us Q I rx rv h
  obtain ⟨a, b, rfl, rfl, q⟩ := h
  obtain ⟨t, rfl⟩ := rx
  obtain ⟨u, rfl, t', rfl⟩ := vals1 rv
  exact SC.startswith ⟨.bl _, H, I, rfl, q⟩
def rSlS : V → Option Int → Option Int → Hp → VK → Prop := fun x lo hi H Q => ∃ a, x = .str a ∧ a.length ≤ sizeLine ∧ Q (.str (Txt.slice a lo hi)) H
theorem isPart_of {v : Value} {o : Option Int} (p : IsPart v o) : ∃ z : Option (Int × Tok), v = partValue z ∧ z.map (·.1) = o := by
  cases p with
  | none => exact ⟨none, rfl, rfl⟩
  | int i t => exact ⟨some (i, t), rfl, rfl⟩
theorem sm_eq (a : Str) (t : Tok) (l u : Option (Int × Tok)) : sliceMade a t l u none = if ((1 : Int) == 1 && (Builtin.Str.strSliceIndices (Option.map (fun x => x.fst) l) (Option.map (fun x => x.fst) u) 1 a.length).length == a.length) = true then Made.val (Value.str a t) else Made.str ⟨(List.filterMap (fun x => a.cps[x]?) (Builtin.Str.strSliceIndices (Option.map (fun x => x.fst) l) (Option.map (fun x => x.fst) u) 1 a.length)).toArray⟩ := rfl
theorem sl_str : SlR X rSlS := by
  intro pins s σ H x v vl vu lo hi sl Q I rx hs pl pu h
  obtain ⟨a, rfl, hz, q⟩ := h
  obtain ⟨t, rfl⟩ := rx
  obtain ⟨l, rfl, rfl⟩ := isPart_of pl
  obtain ⟨u, rfl, rfl⟩ := isPart_of pu
  refine ⟨"str", _, slot_str_getitem.lookup, typeIs_str s a t, ?_⟩
  refine wpAny_getItem_str_slice (l := l) (u := u) (st := none) hs rfl ?_
  rw [sm_eq]
  unfold Txt.slice at q
  by_cases z : ((1 : Int) == 1 && (Builtin.Str.strSliceIndices (Option.map (fun x => x.fst) l) (Option.map (fun x => x.fst) u) 1 a.length).length == a.length) = true
  · rw [if_pos z] at q ⊢
    exact ⟨.str a, H, I, ⟨_, rfl⟩, q⟩
  · rw [if_neg z] at q ⊢
    refine ⟨?_, .str _, H, I.tok _, ⟨_, rfl⟩, q⟩
    have := Txt.slice_le a (Option.map (fun x => x.fst) l) (Option.map (fun x => x.fst) u)
    unfold Txt.slice at this
    rw [if_neg z] at this
    exact Nat.le_trans this hz
theorem kinds (x : Str) : strIterType x = "str_ascii_iterator" ∨ strIterType x = "str_iterator" := by
  unfold strIterType
  split
  · exact .inl rfl
  · exact .inr rfl
def Its (x : Str) : It := ⟨fun i _ => i < x.cps.size, fun i H v H' => H' = H ∧ ∃ c, x.cps[i]? = some c ∧ v = .str ⟨#[c]⟩, fun i _ => x.cps.size ≤ i⟩
theorem turn_str {P : Program} {w : World} {K : PySem.W.Frag} {tg : Expr} (it : Addr) (x : Str) (t : Tok) : Turn P w K tg (Its x) [it] it (fun i h => h.IsStrIter it (strIterType x) x t i) where
  mem := by simp
  obj := fun i h st b hb => by
    have e : b = it := by simpa using hb
    subst e
    obtain ⟨o, e, c, d⟩ := st
    exact ⟨o, e, fun v z => by rw [d] at z; cases z⟩
  keep := fun i h h' st k => by
    obtain ⟨o, e, c, d⟩ := st
    exact ⟨o, k it (by simp) o e, c, d⟩
  item := by
    intro X hP hw hK hc i pins s σ H E I hf st hg
    subst hP hw hK
    obtain ⟨f0, f1, f2, f3, f4, f5⟩ := hf it (by simp)
    have hg' : i < x.cps.size := hg
    have hx : x.cps[i]? = some x.cps[i] := by simp [hg']
    have fin : ∀ (h' : Heap), h'.IsStrIter it (strIterType x) x t (i + 1) → Heap.SameBut it s.heap h' →
        ∃ u, some (Value.str ⟨#[x.cps[i]]⟩ s.toks) = some u ∧ wpAny (model X.prog X.w) X.A (letOwnedTupleGo tg (.ref it) u) (fun _ s2 => ∃ y H', Inv X pins σ H' s2 ∧ RelV y u ∧ (Its x).yld i H y H' ∧ s2.heap.IsStrIter it (strIterType x) x t (i + 1) ∧ ∀ b ∈ [it], H' b = none) E { s with heap := h', toks := s.toks + 1 } := fun h' st' sb => by
      have I1 : Inv X pins σ H { s with heap := h', toks := s.toks + 1 } := I.turned (fun b o hb e => (sb.2 b hb).trans e) f0 f1 f3 f4 f5
      have fin2 : ∃ y H', Inv X pins σ H' { s with heap := h', toks := s.toks + 1 } ∧ RelV y (Value.str ⟨#[x.cps[i]]⟩ s.toks) ∧ (Its x).yld i H y H' ∧ h'.IsStrIter it (strIterType x) x t (i + 1) ∧ ∀ b ∈ [it], H' b = none :=
        ⟨.str ⟨#[x.cps[i]]⟩, H, I1, ⟨_, rfl⟩, ⟨rfl, _, hx, rfl⟩, st', fun b hb => (hf b hb).1⟩
      refine ⟨_, rfl, ?_⟩
      unfold letOwnedTupleGo
      cases tg <;> exact wpAny_pure fin2
    rcases kinds x with e | e
    · rw [e] at st
      exact wpAny_pyNext_ascii_item st hx fun h' st' sb => fin h' (by rw [e]; exact st') sb
    · rw [e] at st
      exact wpAny_pyNext_wide_item st hx fun h' st' sb => fin h' (by rw [e]; exact st') sb
  done := by
    intro X hP hw hK hc i pins s σ H E I hf st hg
    subst hP hw hK
    obtain ⟨f0, f1, f2, f3, f4, f5⟩ := hf it (by simp)
    have hg' : x.cps.size ≤ i := hg
    have hx : x.cps[i]? = none := by simp [hg']
    unfold strIterType at st
    split at st
    · exact wpAny_pyNext_ascii_end (I.ok.hd hc) st hx fun h' eb => ⟨rfl, I.turned (t' := s.toks) (fun b o hb e => eb b o hb e) f0 f1 f3 f4 f5⟩
    · exact wpAny_pyNext_wide_end (I.ok.hd hc) st hx fun h' eb => ⟨rfl, I.turned (t' := s.toks) (fun b o hb e => eb b o hb e) f0 f1 f3 f4 f5⟩
  self := fun A i s Q E st h => by
    unfold strIterType at st
    split at st
    · exact wpAny_pyIter_striter_ascii st h
    · exact wpAny_pyIter_striter_wide st h
def iStr (tl : TE) : TI := fun σ H R => tl σ H fun x H1 => ∃ a, x = .str a ∧ R (Its a) H1
theorem pi_str {l : Expr} {tl : TE} (hl : PE X l tl) : PI X tg l (iStr tl) := by
  intro pins s σ H R I h
  refine thn (hl pins s σ H _ I h) fun v s1 ⟨x, H1, I1, r1, q1⟩ => ?_
  obtain ⟨a, e, q⟩ := q1
  subst e
  obtain ⟨t, rfl⟩ := r1
  refine wpAny_pyIter_strU ?_
  refine ⟨s1.heap.objs.size, [s1.heap.objs.size], _, _, H1, rfl, I1.kept (t' := s1.toks) fun b o e => Heap.get?_push_of_some _ e, turn_str _ a t, ⟨_, Heap.get?_push_size _ rfl, rfl, rfl⟩, fun b hb => ?_, q⟩
  have e : b = s1.heap.objs.size := by simpa using hb
  subst e
  exact I1.fpOk (Nat.le_refl _) (I1.hok.fresh (Nat.le_refl _))
def rAll (K : PySem.W.Frag) : List V → Hp → VK → Prop := fun xs H Q => ∃ (p : Addr) (bs : List Bool), xs = [.ref p] ∧ SqL K H p (bs.map V.bl) ∧ Q (.bl (bs.all id)) H
theorem call_all (hc : X.calm = true) : CallR X (.builtin "all") (rAll X.K) := by
  intro pins s σ H xs us Q I r h
  obtain ⟨p, bs, rfl, hq, q⟩ := h
  obtain ⟨u, rfl, rx⟩ := vals1 r
  cases rx
  obtain ⟨its, rv, pl, hz⟩ := I.list hq
  have hlen : its.toArray.size = bs.length := by rw [List.size_toArray, ← rv.length, List.length_map]
  have hne : p ≠ s.heap.objs.size := by
    obtain ⟨o, e, _⟩ := pl.isList
    exact Nat.ne_of_lt (Heap.lt_size e)
  refine call_all_walk (wpAny_pyIter_list pl.isList ?_)
  refine ⟨s.heap.objs.size, _, _, _, _, _, fun i => bs.getD i false, rfl, Walks.list (by exact I.ok.hd hc) s.heap.objs.size p hne its.toArray, ⟨⟨_, Heap.get?_push_size _ rfl, rfl, rfl⟩, ?_⟩, ?_, ?_⟩
  · obtain ⟨o, e, c⟩ := pl.isList
    exact ⟨o, Heap.get?_push_of_some _ e, c⟩
  · intro i v s' Q' E' hv q'
    have hv' : its[i]? = some v := by simpa using hv
    have hi : i < its.length := (List.getElem?_eq_some_iff.mp hv').1
    have hb : (bs.map V.bl)[i]? = some (.bl (bs.getD i false)) := by
      rw [List.getElem?_map, List.getElem?_eq_getElem (by rw [← hlen]; simpa using hi)]
      simp [List.getD, List.getElem?_eq_getElem (show i < bs.length by rw [← hlen]; simpa using hi)]
    obtain ⟨u, hu, ru⟩ := rv.get hb
    have e : u = v := by rw [hv'] at hu; cases hu; rfl
    subst e
    cases ru
    exact wpAny_truthy_bool q'
  · intro h' tk kk
    have e : (List.range its.toArray.size).all (fun i => bs.getD i false) = bs.all id := by
      rw [hlen, Bool.eq_iff_iff, List.all_eq_true, List.all_eq_true]
      constructor
      · intro z b hb
        obtain ⟨i, hi, rfl⟩ := List.getElem_of_mem hb
        have := z i (List.mem_range.mpr hi)
        simpa [List.getD, List.getElem?_eq_getElem hi] using this
      · intro z i hi
        have hi' := List.mem_range.mp hi
        have := z bs[i] (List.getElem_mem hi')
        simpa [List.getD, List.getElem?_eq_getElem hi'] using this
    rw [e]
    refine ⟨.bl _, H, I.kept (t' := tk) fun b o hb => ?_, rfl, q⟩
    have hb2 : b ≠ s.heap.objs.size := Nat.ne_of_lt (Heap.lt_size hb)
    exact kk b o (by simpa using hb2) (Heap.get?_push_of_some _ hb)
end
end L2

set_option Elab.async false
set_option linter.all false
set_option maxRecDepth 100000
set_option maxHeartbeats 2000000
namespace Tx
open PySem
def S (cs : List Nat) : Str := ⟨cs.toArray⟩
theorem S_of {x : Str} {cs : List Nat} (h : x.cps.toList = cs) : x = S cs := PySem.StrLaws.mk_of_toList h
theorem S_list (cs : List Nat) : (S cs).cps.toList = cs := by simp [S]
theorem S_size (cs : List Nat) : (S cs).cps.size = cs.length := by simp [S]
theorem S_len (cs : List Nat) : (S cs).length = cs.length := by simp [S, Str.length]
theorem S_app (a b : List Nat) : S a ++ S b = S (a ++ b) := S_of (by show ((S a).cps ++ (S b).cps).toList = _; simp [S])
theorem S_inj {a b : List Nat} : S a = S b ↔ a = b := ⟨fun h => by rw [← S_list a, h, S_list], fun h => by rw [h]⟩
theorem S_self (x : Str) : x = S x.cps.toList := S_of rfl
def dg (m : Nat) : List Nat := (Nat.toDigits 10 m).map Char.toNat
def itx (i : Int) : List Nat := if i < 0 then 45 :: dg i.natAbs else dg i.natAbs
theorem str_nat (m : Nat) : Str.ofString (toString (m : Int)) = S (dg m) := S_of (PySem.W.KIN.signs_num m)
theorem str_int (i : Int) : Str.ofString (toString i) = S (itx i) := by
  unfold itx
  split <;> rename_i h
  · rw [PyProof.Rows.toString_neg h]
    have e : 0 - i = (i.natAbs : Int) := by omega
    rw [e]
    refine S_of ?_
    have h1 := PySem.W.KIN.signs_num i.natAbs
    rw [PyProof.Rows.signs_ofString] at h1 ⊢
    rw [String.toList_append, List.map_append, h1]
    rfl
  · have e : i = (i.natAbs : Int) := by omega
    rw [e, str_nat]
    rfl
theorem isDigit_nat {c : Char} (h : c.isDigit = true) : 48 ≤ c.toNat ∧ c.toNat ≤ 57 := by
  unfold Char.isDigit at h
  simp only [Bool.and_eq_true, decide_eq_true_eq] at h
  exact ⟨UInt32.le_iff_toNat_le.mp h.1, UInt32.le_iff_toNat_le.mp h.2⟩
theorem dg_all (m : Nat) : NumText.AllDigits (dg m) := fun c hc => by
  obtain ⟨d, hd, rfl⟩ := List.mem_map.mp hc
  exact isDigit_nat (Nat.isDigit_of_mem_toDigits (by decide) (by decide) hd)
theorem dg_ne (m : Nat) : dg m ≠ [] := fun h => Nat.toDigits_ne_nil (List.map_eq_nil_iff.mp h)
theorem dg_val (m : Nat) : NumText.digitsVal (dg m) = m := PySem.W.KIN.val_back m
theorem dg_len {m k : Nat} (hk : 0 < k) : (dg m).length ≤ k ↔ m < 10 ^ k := by
  unfold dg
  rw [List.length_map]
  exact Nat.length_toDigits_le_iff (by decide) hk
theorem itx_pos {i : Int} (h : 0 ≤ i) : itx i = dg i.natAbs := if_neg (by omega)
theorem dg_no {m c : Nat} (h : c < 48) : c ∉ dg m := fun z => by have := dg_all m c z; omega
theorem itx_no (i : Int) : 47 ∉ itx i := by
  unfold itx
  split
  · intro z; rcases List.mem_cons.mp z with z | z
    · cases z
    · exact dg_no (by decide) z
  · exact dg_no (by decide)
theorem dg_head45 (m : Nat) : (dg m).head? ≠ some 45 := fun z => dg_no (m := m) (c := 45) (by decide) (List.mem_of_mem_head? (by simpa using z))
def nosign (cs : List Nat) : List Nat := if cs.head? = some 45 then cs.tail else cs
theorem nosign_itx (i : Int) : nosign (itx i) = dg i.natAbs := by
  unfold nosign itx
  split <;> rename_i h
  · simp
  · rw [if_neg (dg_head45 _)]
def Figs (cs : List Nat) : Prop := 1 ≤ cs.length ∧ cs.length ≤ 200 ∧ NumText.AllDigits cs
def ival (cs : List Nat) : Int := if cs.head? = some 45 then -(NumText.digitsVal cs.tail : Int) else (NumText.digitsVal cs : Int)
theorem ival_text {cs : List Nat} (h : Figs (nosign cs)) : intText? (S cs) = some (ival cs) ∧ (S cs).length ≤ 640 := by
  unfold nosign at h
  unfold ival
  rw [S_len]
  obtain ⟨h1, h2, h3⟩ := h
  split at h1 <;> rename_i q
  · rw [if_pos q] at h2 h3 ⊢
    cases cs with
    | nil => cases q
    | cons c r =>
      have q' : c = 45 := by simpa using q
      subst q'
      simp only [List.tail_cons, List.length_cons] at *
      refine ⟨intText_neg (x := S (45 :: r)) (cs := r) (S_list _) h3 (fun z => by rw [z] at h1; simp at h1) ?_, by omega⟩
      rw [S_len, List.length_cons]; omega
  · rw [if_neg q] at h2 h3 ⊢
    refine ⟨?_, by omega⟩
    have := intText_digits (x := S cs) (by rw [S_list]; exact h3) (by rw [S_list]; intro z; rw [z] at h1; simp at h1) (by rw [S_len]; omega)
    rw [this, S_list]
theorem ival_itx (i : Int) : ival (itx i) = i := by
  unfold ival itx
  split <;> rename_i h
  · simp [dg_val]; omega
  · rw [if_neg (dg_head45 _), dg_val]; omega
theorem ival_lt {cs : List Nat} (h : Figs (nosign cs)) : (ival cs).natAbs < 10 ^ 200 := by
  have key : ∀ r : List Nat, NumText.AllDigits r → NumText.digitsVal r < 10 ^ r.length := fun r => by
    intro hr
    have : ∀ (r : List Nat) (a : Nat), NumText.AllDigits r → List.foldl (fun acc c => acc * 10 + (c - 48)) a r < (a + 1) * 10 ^ r.length := fun r => by
      induction r with
      | nil => intro a _; simp
      | cons c r ih =>
        intro a hr
        have h1 := hr c (by simp)
        have h2 := ih (a * 10 + (c - 48)) fun d hd => hr d (List.mem_cons_of_mem _ hd)
        rw [List.foldl_cons, List.length_cons, Nat.pow_succ]
        refine Nat.lt_of_lt_of_le h2 ?_
        rw [Nat.mul_comm (10 ^ r.length) 10, ← Nat.mul_assoc]
        exact Nat.mul_le_mul_right _ (by omega)
    have := this r 0 hr
    simpa [NumText.digitsVal] using this
  have key2 : ∀ r : List Nat, NumText.AllDigits r → r.length ≤ 200 → NumText.digitsVal r < 10 ^ 200 := fun r h1 h2 => Nat.lt_of_lt_of_le (key r h1) (Nat.pow_le_pow_right (by decide) h2)
  unfold nosign at h
  unfold ival
  obtain ⟨h1, h2, h3⟩ := h
  split at h1 <;> rename_i q
  · rw [if_pos q] at h2 h3 ⊢
    have := key2 _ h3 h2
    rw [Int.natAbs_neg]; exact this
  · rw [if_neg q] at h2 h3 ⊢
    exact key2 _ h3 h2
end Tx

set_option Elab.async false
set_option linter.all false
set_option maxRecDepth 100000
set_option maxHeartbeats 2000000
namespace Tx
open PySem
theorem slice_from (cs : List Nat) (k : Nat) : Txt.slice (S cs) (some (k : Int)) none = S (cs.drop k) := by
  show StrLaws.sliceText (S cs) (some (k : Int)) none = _
  rcases Nat.lt_or_ge cs.length k with h | h
  · have e : StrLaws.sliceText (S cs) (some (k : Int)) none = StrLaws.sliceText (S cs) (some (cs.length : Int)) none := by
      unfold StrLaws.sliceText
      have := PyProof.Rows.sliceIdx_lo_beyond (S cs).length (i := (k : Int)) (by rw [S_len]; omega)
      rw [this, S_len]
    rw [e, StrLaws.sliceText_from (by rw [S_list]; omega), S_list]
    unfold S
    simp [List.drop_eq_nil_of_le (Nat.le_of_lt h)]
  · rw [StrLaws.sliceText_from (by rw [S_list]; omega), S_list]
    unfold S
    congr 2
    rw [List.take_of_length_le (by rw [List.length_drop]; omega)]
    rfl
theorem starts_one (cs : List Nat) (c : Nat) : Txt.startswith (S cs) ⟨#[c]⟩ = decide (cs.head? = some c) := by
  have h := StrLaws.subAt_one (S cs) c 0
  rw [S_list] at h
  unfold Txt.startswith
  rw [Bool.eq_iff_iff, Bool.and_eq_true, decide_eq_true_eq, decide_eq_true_eq, h]
  cases cs <;> simp
def ahead (c : Nat) (cs : List Nat) : List Nat := cs.takeWhile (fun x => x != c)
def behind (c : Nat) (cs : List Nat) : List Nat := (cs.dropWhile (fun x => x != c)).tail
theorem part_no {c : Nat} {cs : List Nat} (h : c ∉ cs) : Txt.partition (S cs) ⟨#[c]⟩ = (S cs, Str.empty, Str.empty) := by
  rcases PyProof.Rows.partition_whole (S cs) ⟨#[c]⟩ with ⟨e, _⟩ | ⟨i, _, ha, _⟩
  · exact e
  · have := (StrLaws.subAt_one (S cs) c i).mp ha
    rw [S_list] at this
    exact absurd (List.mem_of_getElem? this) h
theorem split_at {c : Nat} : ∀ {cs : List Nat} {i : Nat}, cs[i]? = some c → (∀ k, k < i → cs[k]? ≠ some c) → ahead c cs = cs.take i ∧ behind c cs = cs.drop (i + 1)
  | [], i, h, _ => by simp at h
  | x :: xs, 0, h, _ => by
    have e : x = c := by simpa using h
    subst e
    simp [ahead, behind]
  | x :: xs, i + 1, h, n => by
    have hx : x ≠ c := fun z => n 0 (by omega) (by simp [z])
    have ih := split_at (cs := xs) (i := i) (c := c) (by simpa using h) fun k hk => by
      have := n (k + 1) (by omega)
      simpa using this
    simp [ahead, behind, hx] at ih ⊢
    exact ih
theorem part_yes {c : Nat} {cs : List Nat} (h : c ∈ cs) : Txt.partition (S cs) ⟨#[c]⟩ = (S (ahead c cs), ⟨#[c]⟩, S (behind c cs)) := by
  rcases PyProof.Rows.partition_whole (S cs) ⟨#[c]⟩ with ⟨_, ha⟩ | ⟨i, e, ha, hk⟩
  · obtain ⟨i, hi, hc⟩ := List.getElem_of_mem h
    exact absurd ((StrLaws.subAt_one (S cs) c i).mpr (by rw [S_list, List.getElem?_eq_getElem hi, hc])) (ha i)
  · have h1 := (StrLaws.subAt_one (S cs) c i).mp ha
    rw [S_list] at h1
    have h2 : ∀ k, k < i → cs[k]? ≠ some c := fun k hk' z => hk k hk' ((StrLaws.subAt_one (S cs) c k).mpr (by rw [S_list]; exact z))
    obtain ⟨e1, e2⟩ := split_at h1 h2
    rw [e, e1, e2]
    have l1 : (⟨#[c]⟩ : Str).length = 1 := rfl
    refine Prod.ext (S_of ?_) (Prod.ext rfl (S_of ?_))
    · show (Builtin.Str.strSub (S cs) 0 i).cps.toList = _
      rw [StrLaws.strSub_toList, S_list]; simp
    · show (Builtin.Str.strSub (S cs) (i + (⟨#[c]⟩ : Str).length) (S cs).length).cps.toList = _
      rw [StrLaws.strSub_toList, S_list, l1, S_len, List.take_of_length_le (by rw [List.length_drop]; omega)]
theorem ahead_app {c : Nat} {a b : List Nat} (h : c ∉ a) : ahead c (a ++ c :: b) = a ∧ behind c (a ++ c :: b) = b := by
  induction a with
  | nil => simp [ahead, behind]
  | cons x xs ih =>
    have hx : x ≠ c := fun z => h (by simp [z])
    have := ih fun z => h (List.mem_cons_of_mem _ z)
    simp [ahead, behind, hx] at this ⊢
    exact this
theorem ahead_len (c : Nat) (cs : List Nat) : (ahead c cs).length ≤ cs.length ∧ (behind c cs).length ≤ cs.length := by
  unfold ahead behind
  have h1 := NumText.len_takeWhile (fun x => x != c) cs
  have h2 := NumText.len_dropWhile (fun x => x != c) cs
  rw [List.length_tail]
  omega
def shw (p : Mq.Q2) : List Nat := if p.2 = 1 then itx p.1 else itx p.1 ++ 47 :: itx p.2
structure Wr (p : Mq.Q2) (cs : List Nat) : Prop where
  low : Mq.Low p
  txt : cs = shw p
  top : p.1.natAbs < 10 ^ 200
  bot : p.2.natAbs < 10 ^ 200
theorem low_pos {p : Mq.Q2} (h : Mq.Low p) : 1 ≤ p.2 := h.1
def belowOf (cs : List Nat) : List Nat := if 47 ∈ cs then behind 47 cs else [49]
def Fine (cs : List Nat) : Prop := Figs (nosign (ahead 47 cs)) ∧ Figs (belowOf cs)
theorem ahead_self {cs : List Nat} (h : 47 ∉ cs) : ahead 47 cs = cs := by
  induction cs with
  | nil => rfl
  | cons x xs ih =>
    have hx : x ≠ 47 := fun z => h (by simp [z])
    have := ih fun z => h (List.mem_cons_of_mem _ z)
    simp only [ahead, List.takeWhile_cons, bne_iff_ne, ne_eq, hx, not_false_eq_true, if_true] at this ⊢
    rw [this]
theorem fine_head {cs : List Nat} (h : Figs cs) : cs.head? ≠ some 45 := fun z => by
  have := h.2.2 45 (List.mem_of_mem_head? (by simpa using z))
  omega
theorem nosign_fig {cs : List Nat} (h : Figs cs) : nosign cs = cs := if_neg (fine_head h)
theorem figs_dg {m : Nat} (h : m < 10 ^ 200) : Figs (dg m) := ⟨List.length_pos_iff.mpr (dg_ne m), (dg_len (by decide)).mpr h, dg_all m⟩
theorem wr_fine {p : Mq.Q2} {cs : List Nat} (h : Wr p cs) : Fine cs ∧ ival (ahead 47 cs) = p.1 ∧ ival (belowOf cs) = p.2 := by
  obtain ⟨low, rfl, ht, hb⟩ := h
  have hp := low_pos low
  unfold shw
  split <;> rename_i e
  · have n47 := itx_no p.1
    unfold Fine belowOf
    rw [ahead_self n47, if_neg n47, nosign_itx, ival_itx, e]
    exact ⟨⟨figs_dg ht, ⟨by decide, by decide, fun c hc => by simp at hc; omega⟩⟩, rfl, rfl⟩
  · have n47 := itx_no p.1
    have ha := ahead_app (b := itx p.2) n47
    unfold Fine belowOf
    rw [ha.1, ha.2, if_pos (by simp), nosign_itx, ival_itx, ival_itx]
    refine ⟨⟨figs_dg ht, ?_⟩, rfl, rfl⟩
    rw [itx_pos (by omega)]
    exact figs_dg hb
theorem red_wr {p : Mq.Q2} {cs : List Nat} (h : Wr p cs) : Mq.red (ival (ahead 47 cs)) (ival (belowOf cs)) = p := by
  obtain ⟨_, e1, e2⟩ := wr_fine h
  rw [e1, e2]
  exact Mq.low_red h.low
theorem fine_wr {cs : List Nat} (h : Fine cs) (h0 : ival (belowOf cs) ≠ 0) (e : shw (Mq.red (ival (ahead 47 cs)) (ival (belowOf cs))) = cs) : Wr (Mq.red (ival (ahead 47 cs)) (ival (belowOf cs))) cs := by
  have hl := Mq.red_le (t := ival (ahead 47 cs)) h0
  exact ⟨Mq.red_low h0, e.symm, Nat.lt_of_le_of_lt hl.1 (ival_lt h.1), Nat.lt_of_le_of_lt hl.2 (ival_lt (by rw [nosign_fig h.2]; exact h.2))⟩
theorem wr_one {p q : Mq.Q2} {cs : List Nat} (h : Wr p cs) (k : Wr q cs) : p = q := by rw [← red_wr h, ← red_wr k]
end Tx

set_option Elab.async false
set_option linter.all false
set_option maxRecDepth 100000
set_option maxHeartbeats 1000000
namespace L2
open PySem PySem.Spec PyProof.Rows

def Tb (h0 : Heap) (H : Hp) (h : Heap) (a : Addr) (v : Value) : Prop :=
  v = .none ∨ ∃ T oT ts, v = .ref T ∧ T ≠ a ∧ h0.get? T = none ∧ H T = none ∧ h.get? T = some oT ∧ oT.data = .fields ts ∧ ts[3]? = some .none
structure Fl (h0 : Heap) (H : Hp) (h : Heap) (a : Addr) (C : Value) (d : Option Addr) : Prop where
  new : h0.get? a = none
  free : H a = none
  at_ : ∃ oe vs v, h.get? a = some oe ∧ oe.cls = C ∧ oe.dict = d ∧ oe.data = .fields vs ∧ vs[1]? = some v ∧ Tb h0 H h a v
theorem Fl.older {h0 h1 : Heap} {H : Hp} {h : Heap} {a : Addr} {C : Value} {d : Option Addr} (F : Fl h0 H h a C d) (k : ∀ b, h0.get? b = none → h1.get? b = none) : Fl h1 H h a C d := by
  obtain ⟨n, f, oe, vs, v, e1, e2, e3, e4, e5, t⟩ := F
  refine ⟨k _ n, f, oe, vs, v, e1, e2, e3, e4, e5, ?_⟩
  rcases t with t | ⟨T, oT, ts, t1, t2, t3, t4⟩
  · exact .inl t
  · exact .inr ⟨T, oT, ts, t1, t2, k _ t3, t4⟩

theorem dict_mapFields (f : Array Value → Array Value) (o : Obj) : (o.mapFields f).dict = o.dict := by
  obtain ⟨c, d, dt, sl⟩ := o
  cases dt <;> rfl
section
variable {M : Model} {A : Around} {E : Value → Shared → Prop} {s : Shared}
theorem entry_raw {base : Heap} {env : Env} {outer : List Env} {L e : Addr} {oe : Obj} {vs : Array Value} {head : Value} {hadNext : Bool} {Q : Unit → Shared → Prop}
    (hfr : A.frames = some (env :: outer)) (hl : s.heap.FunFrames base (env :: outer)) (hf : env.frame = some L)
    (he : s.heap.get? e = some oe) (hd : oe.data = .fields vs) (hsz : 1 < vs.size)
    (h : ∀ h' T oT ts, s.heap.objs.size ≤ T → (∀ b o, b ∉ frs (env :: outer) → b ≠ e → s.heap.get? b = some o → h'.get? b = some o) → (∀ b o, b ∈ frs (env :: outer) → s.heap.get? b = some o → ∃ sl, h'.get? b = some { o with slots := sl }) →
      h'.get? e = some (oe.mapFields (·.setIfInBounds 1 (.ref T))) → h'.get? T = some oT → oT.data = .fields ts → ts[3]? = some .none → T ≠ e → Q () { s with heap := h' }) :
    wpAny M A (do let a ← frameOf env; let pl ← entryPlaceOf L hadNext; let b ← EntryCells.newEntry head a .none (rawInt L) .none pl; setField (.ref e) 1 b) (fun _ s' => wpAny M A (setFlight (.ref e) none) Q E s') E s := by
  have hene : e ∉ frs (env :: outer) := fun hm => by
    obtain ⟨_, o, ho, hnf⟩ := hl.mem hm
    rw [he] at ho; injection ho with ho; subst ho; exact hnf vs hd
  refine wpAny_bind (wpAny_frameOf_fun hfr hl hf fun h₁ hs₁ => ?_)
  refine wpAny_bind (wpAny_entryPlaceOf fun pl hpl => ?_)
  unfold EntryCells.newEntry newFields
  refine wpAny_bind (wpAny_newObj_type ?_ (hpl.sizeOk5 _ _ _ _ _))
  have he₁ : h₁.get? e = some oe := (hs₁.2.1 e hene).trans he
  have he₂ := Heap.get?_push_of_some (h := h₁) { cls := .type "traceback", dict := none, data := .fields ([head, .ref L, .none, rawInt L, .none] ++ (if pl.isEmpty then List.replicate 6 Value.none else pl)).toArray } he₁
  refine wpAny_setField he₂ hd hsz ?_
  have hTe : h₁.objs.size ≠ e := Nat.ne_of_gt (Heap.lt_size he₁)
  have hd₃ := Obj.data_mapFields hd (·.setIfInBounds 1 (Value.ref h₁.objs.size))
  have he₃ := Heap.get?_update_self (Obj.mapFields (·.setIfInBounds 1 (Value.ref h₁.objs.size))) he₂ (Obj.isFreed_of_fields hd₃)
  have hT₃ := (Heap.get?_update_other (h₁.push { cls := .type "traceback", dict := none, data := .fields ([head, .ref L, .none, rawInt L, .none] ++ (if pl.isEmpty then List.replicate 6 Value.none else pl)).toArray })
    (Obj.mapFields (·.setIfInBounds 1 (Value.ref h₁.objs.size))) (Ne.symm hTe)).trans (Heap.get?_push_size h₁ rfl)
  unfold setFlight
  refine wpAny_bind (wpAny_field he₃ hd₃ (x := .ref h₁.objs.size) (by simp [hsz]) ?_)
  rw [if_pos (show (Value.ref h₁.objs.size != Value.none) = true from by simp)]
  have keep : ∀ b o, b ≠ e → h₁.get? b = some o →
      (((h₁.push { cls := .type "traceback", dict := none, data := .fields ([head, .ref L, .none, rawInt L, .none] ++ (if pl.isEmpty then List.replicate 6 Value.none else pl)).toArray }).update e (Obj.mapFields (·.setIfInBounds 1 (Value.ref h₁.objs.size)))).update h₁.objs.size
        (Obj.mapFields (·.setIfInBounds 3 ((none : Option Addr).elim Value.none fun f => rawInt f)))).get? b = some o := fun b o hbe hb => by
    have hbT : h₁.objs.size ≠ b := Nat.ne_of_gt (Heap.lt_size hb)
    rw [Heap.get?_update_other _ _ hbT, Heap.get?_update_other _ _ (Ne.symm hbe)]
    exact Heap.get?_push_of_some _ hb
  refine wpAny_setField hT₃ rfl (by simp only [List.size_toArray, List.length_append, List.length_cons, List.length_nil] <;> omega) (h _ h₁.objs.size _ _ (Nat.le_of_eq hs₁.1.symm) ?_ ?_ ?_
    (Heap.get?_update_self _ hT₃ (Obj.isFreed_of_fields (Obj.data_mapFields rfl _))) (Obj.data_mapFields rfl _) ?_ hTe)
  · exact fun b o hb hbe q => keep b o hbe ((hs₁.2.1 b hb).trans q)
  · intro b o hb q
    obtain ⟨sl, e1⟩ := hs₁.2.2 b o q
    exact ⟨sl, keep b _ (fun z => hene (z ▸ hb)) e1⟩
  · rw [Heap.get?_update_other _ _ hTe]; exact he₃
  · first | (simp; done) | (rcases hpl with rfl | ⟨_, _, _, _, _, _, _, rfl⟩ <;> simp)

theorem note_raw {base h0 : Heap} {H : Hp} {env : Env} {outer : List Env} {L e : Addr} {C : Value} {d : Option Addr} {Q : Unit → Shared → Prop}
    (hfr : A.frames = some (env :: outer)) (hl : s.heap.FunFrames base (env :: outer)) (hf : env.frame = some L) (F : Fl h0 H s.heap e C d)
    (hnew : ∀ b, s.heap.objs.size ≤ b → h0.get? b = none ∧ H b = none)
    (h : ∀ (h' : Heap) (ch : List Addr), (∀ b ∈ ch, h0.get? b = none ∧ H b = none ∧ ∃ o vs, s.heap.get? b = some o ∧ o.data = .fields vs) → (∀ b o, b ∉ frs (env :: outer) → b ∉ ch → s.heap.get? b = some o → h'.get? b = some o) →
      (∀ b o, b ∈ frs (env :: outer) → s.heap.get? b = some o → ∃ sl, h'.get? b = some { o with slots := sl }) → Fl h0 H h' e C d → Q () { s with heap := h' }) :
    wpAny M A (noteFrame (.ref e) env) (fun _ s' => wpAny M A (setFlight (.ref e) none) Q E s') E s := by
  obtain ⟨n, f, oe, vs, v, e1, e2, e3, e4, e5, t⟩ := F
  have hsz : 1 < vs.size := (Array.getElem?_eq_some_iff.mp e5).1
  have fin : ∀ {h' : Heap} {T : Addr} {oT : Obj} {ts : Array Value}, s.heap.objs.size ≤ T → h'.get? e = some (oe.mapFields (·.setIfInBounds 1 (.ref T))) → h'.get? T = some oT → oT.data = .fields ts → ts[3]? = some .none → T ≠ e → Fl h0 H h' e C d := by
    intro h' T oT ts z he hT hd h3 hTe
    refine ⟨n, f, _, _, .ref T, he, ?_, ?_, Obj.data_mapFields e4 _, by simp [hsz], .inr ⟨T, oT, ts, rfl, hTe, (hnew T z).1, (hnew T z).2, hT, hd, h3⟩⟩
    · rw [Obj.cls_mapFields]; exact e2
    · rw [dict_mapFields]; exact e3
  rcases t with rfl | ⟨T, oT, ts, rfl, t2, t3, t4, t5, t6, t7⟩
  · unfold noteFrame
    simp only [hf]
    refine wpAny_bind (wpAny_field e1 e4 e5 ?_)
    rw [if_neg (by decide)]
    refine entry_raw hfr hl hf e1 e4 hsz fun h' T oT ts z k1 k2 he hT hd h3 hTe => ?_
    refine h h' [e] (fun b hb => ?_) (fun b o h1 h2 q => k1 b o h1 (fun w => h2 (by simp [w])) q) k2 (fin z he hT hd h3 hTe)
    have hb : b = e := by simpa using hb
    subst hb
    exact ⟨n, f, _, _, e1, e4⟩
  · unfold noteFrame
    simp only [hf]
    refine wpAny_bind (wpAny_field e1 e4 e5 ?_)
    rw [if_pos (show (Value.ref T != Value.none) = true from by simp)]
    refine wpAny_bind (wpAny_field t5 t6 t7 ?_)
    rw [if_neg (show ¬ ((Value.none == rawInt L) = true) from by simp [rawInt])]
    refine wpAny_bind (wpAny_setField t5 t6 (Array.getElem?_eq_some_iff.mp t7).1 ?_)
    have other : ∀ b, b ≠ T → (s.heap.update T (Obj.mapFields (·.setIfInBounds 3 Value.none))).get? b = s.heap.get? b := fun b hb => Heap.get?_update_other _ _ (Ne.symm hb)
    have noRecord : ∀ b o, s.heap.get? b = some o → (∀ vs, o.data ≠ .fields vs) → b ≠ T := fun b o hb hnf q => by
      rw [q, t5] at hb; injection hb with hb; subst hb; exact hnf ts t6
    have nofr : ∀ b, b ∈ frs (env :: outer) → b ≠ T := fun b hb => by
      obtain ⟨_, o, ho, hnf⟩ := hl.mem hb
      exact noRecord b o ho hnf
    refine entry_raw (s := { s with heap := s.heap.update T (Obj.mapFields (·.setIfInBounds 3 Value.none)) }) (base := base) hfr (hl.of_keeps fun b o hb hnf => ⟨o, (other b (noRecord b o hb hnf)).trans hb, rfl⟩) hf ((other e (Ne.symm t2)).trans e1) e4 hsz
      fun h' T' oT' ts' z k1 k2 he hT hd h3 hTe => ?_
    have z' : s.heap.objs.size ≤ T' := by
      have := Heap.size_after_update s.heap T (Obj.mapFields (·.setIfInBounds 3 Value.none))
      exact Nat.le_trans (Nat.le_of_eq this.symm) z
    refine h h' [e, T] (fun b hb => ?_) (fun b o h1 h2 q => ?_) (fun b o hb q => ?_) (fin z' he hT hd h3 hTe)
    · rcases List.mem_cons.mp hb with hb | hb
      · subst hb; exact ⟨n, f, _, _, e1, e4⟩
      · have hb : b = T := by simpa using hb
        subst hb; exact ⟨t3, t4, _, _, t5, t6⟩
    · exact k1 b o h1 (fun w => h2 (by simp [w])) ((other b fun w => h2 (by simp [w])).trans q)
    · exact k2 b o hb ((other b (nofr b hb)).trans q)
end

section
variable {X : Cx} {pins : List (Addr × Obj)} {σ : List (Option V)} {H H' : Hp} {s : Shared} {h' : Heap}
theorem ObjOk.ex {P : Program} {w : World} {h : Heap} {a : Addr} {o : HO} (x : ObjOk P w H h a o) : ∃ u, h.get? a = some u := by
  cases o with
  | lst xs => obtain ⟨_, _, _, _, e⟩ := x; exact ⟨_, e⟩
  | tup xs => obtain ⟨_, _, _, o, e, _⟩ := x; exact ⟨_, e⟩
  | dK kvs => obtain ⟨_, _, _, _, o, _, _, e, _⟩ := x; exact ⟨_, e⟩
  | dT kvs => obtain ⟨_, _, _, _, o, _, _, e, _⟩ := x; exact ⟨_, e⟩
  | set S n => obtain ⟨o, _, _, _, e, _⟩ := x; exact ⟨_, e⟩
  | ins C dx fs => obtain ⟨_, _, _, e, _⟩ := x; exact ⟨_, e⟩
  | own y => obtain ⟨_, e⟩ := x; exact ⟨_, e⟩
  | xd fs => obtain ⟨_, ⟨_, _, _, e, _⟩, _⟩ := x; exact ⟨_, e⟩
  | rng lo hi => obtain ⟨_, _, _, e⟩ := x; exact ⟨_, e⟩
  | frz ob u => obtain ⟨e, _⟩ := x; exact ⟨_, e⟩
  | tbl ps => exact ⟨_, (show h.get? a = some _ from x)⟩
  | met f y => exact ⟨_, (show h.get? a = some _ from x)⟩
  | ext φ => obtain ⟨_, ⟨_, e⟩, _⟩ := x; exact ⟨_, e⟩
theorem HOk.none_of {P : Program} {w : World} {h : Heap} {a : Addr} (x : HOk P w H h) (e : h.get? a = none) : H a = none := by
  cases q : H a with
  | none => rfl
  | some o =>
    obtain ⟨u, hu⟩ := (x a o q).ex
    rw [e] at hu; cases hu
theorem Inv.stepN {g' : Array GenState} {t' : Nat} {d' : Drawn} {ch : List Addr} (I : Inv X pins σ H s)
    (hch : ∀ b ∈ ch, X.s₀.heap.get? b = none ∧ b ≠ X.env.locals ∧ (∀ x c, X.env.cells.lookup x = some c → c ≠ b) ∧ ∀ p ∈ X.pn ++ pins, p.1 ≠ b)
    (keep : ∀ b o, b ≠ X.env.locals → b ∉ X.fs → b ∉ ch → s.heap.get? b = some o → H b = none → h'.get? b = some o)
    (slot : ∀ b o, b ≠ X.env.locals → b ∈ X.fs → b ∉ ch → s.heap.get? b = some o → H b = none → ∃ sl, h'.get? b = some { o with slots := sl })
    (there : ∀ b o, b ∉ ch → s.heap.get? b = some o → ∃ o', h'.get? b = some o')
    (ns : ∀ m, s.heap.Ns X.env.locals m → h'.Ns X.env.locals m) (hok : HOk X.prog X.w H h') (hg : AllBare g') :
    Inv X pins σ H { s with heap := h', gens := g', drawn := d', toks := t' } := by
  have neL : ∀ b o, X.s₀.heap.get? b = some o → b ≠ X.env.locals := fun b o e => Nat.ne_of_lt (Nat.lt_of_lt_of_le (Heap.lt_size e) I.ok.above)
  have neC : ∀ b o, X.s₀.heap.get? b = some o → b ∉ ch := fun b o e hb => by rw [(hch b hb).1] at e; cases e
  have cellK : ∀ x c, X.env.cells.lookup x = some c → ∀ v, s.heap.IsCell c v → h'.IsCell c v := fun x c e v ⟨o, ho, hd⟩ => by
    have nch : c ∉ ch := fun z => (hch c z).2.2.1 x c e rfl
    by_cases hc : c ∈ X.fs
    · obtain ⟨sl, q⟩ := slot c o (I.cne x c e) hc nch ho (I.freeC x c e)
      exact ⟨_, q, hd⟩
    · exact ⟨o, keep c o (I.cne x c e) hc nch ho (I.freeC x c e), hd⟩
  refine ⟨I.ok, I.os, hg, ⟨fun b o e n hb hx => ?_, fun b o e n hb hx => ?_, fun b o e n hx => ?_, fun b o e hx => ?_, fun b xs e => I.base.tups b xs e, fun b o xs e => I.base.frzs b o xs e, fun b ps e => I.base.tbls b ps e⟩, ?_, fun x c e => ?_, I.free, I.freeC, fun p hp => ?_, hok, I.len⟩
  · exact keep b o (neL b o e) hb (neC b o e) (I.base.keep b o e n hb hx) (I.base.free b o e n hx)
  · obtain ⟨sl, e1⟩ := I.base.slot b o e n hb hx
    obtain ⟨sl', e2⟩ := slot b _ (neL b o e) hb (neC b o e) e1 (I.base.free b o e n hx)
    exact ⟨sl', e2⟩
  · exact I.base.free b o e n hx
  · obtain ⟨o', e1⟩ := I.base.there b o e hx
    exact there b o' (neC b o e) e1
  · obtain ⟨m, hn, hl⟩ := I.loc
    refine ⟨m, ns m hn, fun i x v e1 e2 e3 => ?_⟩
    obtain ⟨u, r, l⟩ := hl i x v e1 e2 e3
    refine ⟨u, r, ?_⟩
    rcases l with l | ⟨k, c, e, z⟩
    · exact .inl l
    · exact .inr ⟨k, c, e, cellK x c e _ z⟩
  · obtain ⟨v, z⟩ := I.cell x c e
    exact ⟨v, cellK x c e v z⟩
  · obtain ⟨e, n, ne, nf, d⟩ := I.pin p hp
    have nch : p.1 ∉ ch := fun z => (hch p.1 z).2.2.2 p hp rfl
    exact ⟨keep p.1 p.2 ne nf nch e n, n, ne, nf, d⟩

structure Frm (X : Cx) : Prop where
  ex : X.ex = []
  st : X.stack = X.env :: X.outer
  fr : X.env.frame = some X.env.locals
def Lies (X : Cx) (pins : List (Addr × Obj)) (σ : List (Option V)) (H : Hp) (s : Shared) (a : Addr) (C : Value) (d : Option Addr) : Prop :=
  Inv X pins σ H s ∧ ∃ h0 : Heap, (∀ p ∈ X.pn ++ pins, h0.get? p.1 ≠ none) ∧ (∀ b o, X.s₀.heap.get? b = some o → ∃ o', h0.get? b = some o') ∧ (∀ b o, h0.get? b = some o → ∃ o', s.heap.get? b = some o') ∧ Fl h0 H s.heap a C d
theorem none_back {h1 h2 : Heap} (k : ∀ b o, h1.get? b = some o → ∃ o', h2.get? b = some o') (b : Addr) (e : h2.get? b = none) : h1.get? b = none := by
  cases q : h1.get? b with
  | none => rfl
  | some o => obtain ⟨o', z⟩ := k b o q; rw [e] at z; cases z
theorem none_le {h : Heap} {b : Addr} (e : h.objs.size ≤ b) : h.get? b = none := Heap.get?_none_of_le e

theorem fields_ne {h : Heap} {b c : Addr} {o : Obj} {vs : Array Value} (e : h.get? b = some o) (hd : o.data = .fields vs) {o' : Obj} (e' : h.get? c = some o') (hd' : ∀ vs, o'.data ≠ .fields vs) : b ≠ c := by
  intro z; subst z; rw [e] at e'; cases e'; exact hd' vs hd

theorem lies_ch {a : Addr} {C : Value} {d : Option Addr} {h0 : Heap} (I : Inv X pins σ H s) (hp : ∀ p ∈ X.pn ++ pins, h0.get? p.1 ≠ none) (hs : ∀ b o, X.s₀.heap.get? b = some o → ∃ o', h0.get? b = some o') {b : Addr}
    (hb : h0.get? b = none ∧ H b = none ∧ ∃ o vs, s.heap.get? b = some o ∧ o.data = .fields vs) :
    X.s₀.heap.get? b = none ∧ b ≠ X.env.locals ∧ (∀ x c, X.env.cells.lookup x = some c → c ≠ b) ∧ ∀ p ∈ X.pn ++ pins, p.1 ≠ b := by
  obtain ⟨h1, h2, o, vs, h3, h4⟩ := hb
  refine ⟨none_back hs b h1, ?_, fun x c e => ?_, fun p hq z => hp p hq (by rw [z]; exact h1)⟩
  · obtain ⟨m, ⟨o', es, ep, ho', hd', _⟩, _⟩ := I.loc
    exact fields_ne h3 h4 ho' fun vs z => by rw [hd'] at z; cases z
  · obtain ⟨v, o', ho', hd'⟩ := I.cell x c e
    exact Ne.symm (fields_ne h3 h4 ho' fun vs z => by rw [hd'] at z; cases z)

theorem note_ok {A' : Around} {E : Value → Shared → Prop} {a : Addr} {C : Value} {d : Option Addr} {Q : Unit → Shared → Prop} (hA : A'.frames = some X.stack) (fm : Frm X) (L : Lies X pins σ H s a C d)
    (h : ∀ s', Lies X pins σ H s' a C d → Q () s') :
    wpAny (model X.prog X.w) A' (noteFrame (.ref a) X.env) (fun _ s2 => wpAny (model X.prog X.w) A' (setFlight (.ref a) none) Q E s2) E s := by
  obtain ⟨I, h0, hp, hs, ht, F⟩ := L
  have hstk := I.stack
  have hfree := I.stkFree
  rw [fm.st] at hA hstk hfree
  have hfrs : frs (X.env :: X.outer) = X.env.locals :: X.fs := by unfold frs; rw [List.filterMap_cons, fm.fr]; rfl
  refine note_raw (base := X.base) hA hstk fm.fr F (fun b hb => ⟨none_back ht b (none_le hb), I.hok.fresh hb⟩) fun h' ch c1 c2 c3 F' => ?_
  have tr : ∀ c u, H c = some u → ∀ v, s.heap.get? c = some v → h'.get? c = some v := fun c u e v q =>
    c2 c v (fun z => by rw [hfree c z] at e; cases e) (fun z => by rw [(c1 c z).2.1] at e; cases e) q
  have th : ∀ b o, b ∉ ch → s.heap.get? b = some o → ∃ o', h'.get? b = some o' := fun b o hb q => by
    by_cases hf : b ∈ frs (X.env :: X.outer)
    · obtain ⟨sl, e⟩ := c3 b o hf q; exact ⟨_, e⟩
    · exact ⟨o, c2 b o hf hb q⟩
  have J : Inv X pins σ H { s with heap := h', gens := s.gens, drawn := s.drawn, toks := s.toks } := by
    refine I.stepN (ch := ch) (fun b hb => lies_ch (a := a) (C := C) (d := d) I hp hs (c1 b hb)) (fun b o h1 h2 h3 e _ => c2 b o (by rw [hfrs]; intro z; rcases List.mem_cons.mp z with z | z; exact h1 z; exact h2 z) h3 e)
      (fun b o _ h2 _ e _ => c3 b o (by rw [hfrs]; exact List.mem_cons_of_mem _ h2) e) th (fun m hm => ?_) (fun b u e => ?_) I.bare
    · obtain ⟨o, es, ep, ho, r⟩ := hm
      obtain ⟨sl, e⟩ := c3 _ o (by rw [hfrs]; exact List.mem_cons_self) ho
      exact ⟨_, es, ep, e, r⟩
    · refine (I.hok b u e).stay (fun c v hc q => ?_) (fun _ q => q) fun _ _ q => q
      rcases hc with rfl | hc
      · exact tr c u e v q
      · exact tr c _ hc v q
  refine h _ ⟨J, h0, hp, hs, fun b o e => ?_, F'⟩
  obtain ⟨o', e'⟩ := ht b o e
  exact th b o' (fun z => by rw [(c1 b z).1] at e; cases e) e'

theorem land_ok {A' : Around} {E : Value → Shared → Prop} {a : Addr} {C : Value} {d : Option Addr} {Q : Unit → Shared → Prop} (L : Lies X pins σ H s a C d)
    (h : ∀ s', Lies X pins σ H s' a C d → Q () s') : wpAny (model X.prog X.w) A' (setFlight (.ref a) none) Q E s := by
  have L' := L
  obtain ⟨I, h0, hp, hs, ht, F⟩ := L'
  obtain ⟨n, f, oe, vs, v, e1, e2, e3, e4, e5, t⟩ := F
  unfold setFlight
  refine wpAny_bind (wpAny_field e1 e4 e5 ?_)
  rcases t with rfl | ⟨T, oT, ts, rfl, t2, t3, t4, t5, t6, t7⟩
  · rw [if_neg (by decide)]
    exact wpAny_pure (h s L)
  · rw [if_pos (show (Value.ref T != Value.none) = true from by simp)]
    have hsz3 : 3 < ts.size := (Array.getElem?_eq_some_iff.mp t7).1
    have other : ∀ b, b ≠ T → (s.heap.update T (Obj.mapFields (·.setIfInBounds 3 ((none : Option Addr).elim Value.none fun f => rawInt f)))).get? b = s.heap.get? b := fun b hb => Heap.get?_update_other _ _ (Ne.symm hb)
    have hT' := Heap.get?_update_self (Obj.mapFields (·.setIfInBounds 3 ((none : Option Addr).elim Value.none fun f => rawInt f))) t5 (Obj.isFreed_of_fields (Obj.data_mapFields t6 _))
    refine wpAny_setField t5 t6 hsz3 ?_
    have c1 : ∀ b ∈ [T], h0.get? b = none ∧ H b = none ∧ ∃ o vs, s.heap.get? b = some o ∧ o.data = .fields vs := fun b hb => by
      have hb : b = T := by simpa using hb
      subst hb; exact ⟨t3, t4, _, _, t5, t6⟩
    have nT : ∀ b, b ∉ [T] → b ≠ T := fun b hb z => hb (by simp [z])
    have J : Inv X pins σ H { s with heap := (s.heap.update T (Obj.mapFields (·.setIfInBounds 3 ((none : Option Addr).elim Value.none fun f => rawInt f)))), gens := s.gens, drawn := s.drawn, toks := s.toks } := by
      refine I.stepN (ch := [T]) (fun b hb => lies_ch (a := a) (C := C) (d := d) I hp hs (c1 b hb)) (fun b o _ _ h3 e _ => (other b (nT b h3)).trans e) (fun b o _ _ h3 e _ => ⟨o.slots, (other b (nT b h3)).trans e⟩)
        (fun b o h3 e => ⟨o, (other b (nT b h3)).trans e⟩) (fun m hm => ?_) (fun b u e => ?_) I.bare
      · obtain ⟨o, es, ep, ho, hd, r⟩ := hm
        exact ⟨o, es, ep, (other _ (Ne.symm (fields_ne t5 t6 ho fun vs z => by rw [hd] at z; cases z))).trans ho, hd, r⟩
      · refine (I.hok b u e).stay (fun c v hc q => (other c ?_).trans q) (fun _ q => q) fun _ _ q => q
        rintro rfl
        rcases hc with rfl | hc
        · rw [t4] at e; cases e
        · rw [t4] at hc; cases hc
    refine h _ ⟨J, h0, hp, hs, fun b o e => ?_, ⟨n, f, oe, vs, .ref T, (other a (Ne.symm t2)).trans e1, e2, e3, e4, e5, .inr ⟨T, _, _, rfl, t2, t3, t4, hT', Obj.data_mapFields t6 _, by simp [hsz3]⟩⟩⟩
    obtain ⟨o', e'⟩ := ht b o e
    exact ⟨o', (other b (fun z => by rw [z, t3] at e; cases e)).trans e'⟩
end

def CX1 (P : Program) (w : World) : CXT := fun outer H s E e s' => ∃ a C d H', e = .ref a ∧ s'.os = s.os ∧ AllBare s'.gens ∧ Un (frs outer) [] H H' s.heap s'.heap ∧ HOk P w H' s'.heap ∧ Fl s.heap H' s'.heap a C d ∧ E C d H'
def XeOk (X : Cx) (E : XK) : Prop := ∀ (pins : List (Addr × Obj)) (σ : St) (H : Hp) (s : Shared) (a : Addr) (C : Value) (d : Option Addr), Lies X pins σ H s a C d → E C d H → X.xe (.ref a) s
section
variable {X : Cx} {pins : List (Addr × Obj)} {σ : List (Option V)} {H : Hp} {s s' : Shared} {E : XK} {e : Value}
theorem lies_of_call (fm : Frm X) (I : Inv X pins σ H s) (hcx : CX1 X.prog X.w X.stack H s E e s') : ∃ a C d H', e = .ref a ∧ Lies X pins σ H' s' a C d ∧ E C d H' := by
  obtain ⟨a, C, d, H', rfl, os, bare, un, hok, F, q⟩ := hcx
  refine ⟨a, C, d, H', rfl, ⟨I.call' (ch := []) os un hok bare (fun b z => absurd z (by simp)), s.heap, fun p hp z => ?_, fun b o e => I.base.there b o e (by rw [fm.ex]; simp), fun b o e => un.there b o e (by simp), F⟩, q⟩
  rw [(I.pin p hp).1] at z; cases z
theorem passes_cx (fm : Frm X) (xo : XeOk X E) : Passes (CX1 X.prog X.w) X E := fun pins σ H s e s' I hcx => by
  obtain ⟨a, C, d, H', rfl, L, q⟩ := lies_of_call fm I hcx
  exact xo pins σ H' s' a C d L q
end
theorem frm_cxOf {CX : CXT} {P : Program} {w : World} {K : PySem.W.Frag} {mg : Str → Option Value} {base : Heap} {N : List Str} {qual : Str} {scope : Scope} {f : Addr} {cd : Value} {A : Around} {outer : List Env} {s : Shared} {H : Hp} {E : XK} :
    Frm (cxOf CX P w K mg base N qual scope f cd A outer s H E) := ⟨rfl, rfl, rfl⟩
theorem xe_cxOf {P : Program} {w : World} {K : PySem.W.Frag} {mg : Str → Option Value} {base : Heap} {N : List Str} {qual : Str} {scope : Scope} {f : Addr} {cd : Value} {A : Around} {outer : List Env} {s : Shared} {H : Hp} {E : XK} :
    XeOk (cxOf (CX1 P w) P w K mg base N qual scope f cd A outer s H E) E := by
  intro pins σ H' s' a C d L q
  show wpAny (model P w) (A.deeper (envOfC qual scope s.heap.objs.size f cd)) (leaving (envOfC qual scope s.heap.objs.size f cd) (.ref a)) (fun _ s'' => CX1 P w outer H s E (.ref a) s'') (fun e' s'' => CX1 P w outer H s E e' s'') s'
  unfold leaving
  refine wpAny_bind (note_ok (X := cxOf (CX1 P w) P w K mg base N qual scope f cd A outer s H E) L.1.ok.frames frm_cxOf L fun s'' L'' => ?_)
  obtain ⟨J, h0, hp, hs0, hth, F⟩ := L''
  exact ⟨a, C, d, H', rfl, J.os, J.bare, J.base, J.hok, F.older fun b z => none_back hs0 b z, q⟩
end L2

set_option Elab.async false
set_option linter.all false
set_option maxRecDepth 100000
set_option maxHeartbeats 1000000
namespace L2
open PySem PySem.Spec PyProof.Rows

abbrev bmVE : List Value := [.type "ValueError", .type "Exception", .type "BaseException", .type "object"]
def ExcC (K : PySem.W.Frag) (C : Addr) : Prop := PySem.W.excIn K C bmVE "ValueError.__new__" = true
theorem exc_of {K : PySem.W.Frag} {h : Heap} {C : Addr} {bmB : List Value} {newId : String} (X : K.In h) (q : PySem.W.excIn K C bmB newId = true) :
    ∃ bm N nm qn bs hdct sn sub ab col dd k0 k1 k2 k3 k5 mN, h.get? C = some (excClassObj nm qn C N bs bm hdct sn sub ab col dd k0 k1 k2 k3 k5 newId) ∧ h.Ns N mN ∧ mN "__init__" = none ∧ OwnTail h bmB bm := by
  unfold PySem.W.excIn at q
  split at q
  · rename_i dd cd sl ho
    split at q
    · rename_i C' bm k0 k1 k2 k3 n k5 hm hs
      simp only [Bool.and_eq_true, beq_iff_eq, Bool.not_eq_true'] at q
      obtain ⟨⟨⟨⟨⟨rfl, rfl⟩, hdel⟩, ht⟩, hok⟩, hni⟩ := q
      obtain ⟨nm, bs, mro, ns, qn, hd, sn, sub, ab, col, del⟩ := cd
      dsimp only at hm hdel hok hni
      subst hm hdel
      have hsl : sl = #[k0, k1, k2, k3, some (.builtin n), k5] := by
        obtain ⟨l⟩ := sl
        simp only at hs
        rw [hs]
      subst hsl
      exact ⟨bm, ns, nm, qn, bs, hd, sn, sub, ab, col, dd, k0, k1, k2, k3, k5, _, X _ _ ho, .of_isNs (PySem.W.isNs_of_in X hok), PySem.W.nsMap_none_of_in X hok hni, PySem.W.tail_of_in X ht⟩
    · cases q
  · cases q

section
variable {X : Cx} {pins : List (Addr × Obj)} {σ : List (Option V)} {H : Hp} {s : Shared}
def tRaise (C : Addr) (E : XK) (ta : TA) : TS := fun _ σ H => ta σ H fun vs H1 => vs.length ≤ sizeLine ∧ E (.ref C) none H1
theorem ps_raise {E : XK} {x : Str} {C : Addr} {np cpos pos : Pos} {e₀ : Expr} {es : List Expr} {ta : TA} (fm : Frm X) (xo : XeOk X E) (hc : X.calm = true) (hg : Gl X x) (hm : X.mg x = some (.ref C)) (q : ExcC X.K C) (ha : PA X (e₀ :: es) ta)
    (hdb : (x == ("__debug__" : Str)) = false := by decide) (he : starEach (e₀ :: es) X.env = (false, eval e₀ X.env) :: starEach es X.env := by rfl) (hpl : (backTo cpos (starEach es X.env)).any (·.1) = false := by rfl) :
    PS X (.Raise (some (.Call (.Name x np) (e₀ :: es) [] cpos)) none pos) (tRaise C E ta) := by
  intro pins s σ H D I h
  obtain ⟨tl, N, nm, qn, bs, hdct, sn, sub, ab, col, dd, k0, k1, k2, k3, k5, mN, hC, hN, hni, T⟩ := exc_of I.mod.kin q
  have FB := PySem.F.excBase_ValueError
  refine wpAny_Raise_call_subU (C := C) (nm := nm) (q := qn) (N := N) (bs := bs) (bm := tl) (hdct := hdct) (sn := sn) (sub := sub) (ab := ab) (col := col) (dd := dd) (k0 := k0) (k1 := k1) (k2 := k2) (k3 := k3) (k5 := k5)
    FB (by decide) FB (mN := mN) (T.hasType FB.hasBase) (I.ok.hd hc) (by rw [he]; show (false || (backTo cpos (starEach es X.env)).any (·.1)) = false; rw [hpl]; rfl) hni (ld_glob I hg hm ⟨rfl, ?_⟩ hdb)
  have ha' := ha cpos pins s σ H _ I h
  rw [he] at ha' ⊢
  refine Calls.evalArgs_plain (wpAny_mono ha' (fun vs s2 h2 => ?_) fun _ _ y => y)
  obtain ⟨xs, H1, I1, r, hz, q1⟩ := h2
  refine ⟨rfl, by rw [← r.length]; exact hz, I1.bk _ _ hC, hN.keeps I1.bk, T.keeps I1.bk, fun h' e hx => ?_⟩
  obtain ⟨t, he1, htn, ht⟩ := hx.there
  refine xo pins σ H1 _ e (.ref C) none ⟨I1.kept (t' := s2.toks) hx.keeps, s2.heap, fun p hp z => ?_, fun b o e => I1.base.there b o e (by rw [fm.ex]; simp), fun b o z => ⟨o, hx.keeps b o z⟩, ⟨hx.new, I1.hok.none_of hx.new, _, _, .none, he1, rfl, rfl, rfl, rfl, .inl rfl⟩⟩ q1
  rw [(I1.pin p hp).1] at z; cases z
end

abbrev TEX := St → Hp → VK → XK → Prop
abbrev TSX := Ends → (St → XK) → St → Hp → Prop
def XP (X : Cx) (pins : List (Addr × Obj)) (E : St → XK) (e : Value) (s' : Shared) : Prop := ∃ a C d σ' H', e = .ref a ∧ Lies X pins σ' H' s' a C d ∧ E σ' C d H'
def PX (X : Cx) (e : Expr) (t : TEX) : Prop :=
  ∀ (pins : List (Addr × Obj)) (s : Shared) (σ : St) (H : Hp) (Q : VK) (E : XK), Inv X pins σ H s → t σ H Q E → wpAny (model X.prog X.w) X.A (eval e X.env) (EP X pins σ Q) (XP X pins fun σ' C d H' => σ' = σ ∧ E C d H') s
def PSX (X : Cx) (st : Stmt) (t : TSX) : Prop :=
  ∀ (pins : List (Addr × Obj)) (s : Shared) (σ : St) (H : Hp) (D : Ends) (E : St → XK), Inv X pins σ H s → t D E σ H → wpAny (model X.prog X.w) X.A (exec st X.env) (SP X pins D) (XP X pins E) s
def PSXs (X : Cx) (st : List Stmt) (t : TSX) : Prop :=
  ∀ (pins : List (Addr × Obj)) (s : Shared) (σ : St) (H : Hp) (D : Ends) (E : St → XK), Inv X pins σ H s → t D E σ H → wpAny (model X.prog X.w) X.A (execs st X.env) (SP X pins D) (XP X pins E) s
theorem XP.at {X : Cx} {pins : List (Addr × Obj)} {σ : St} {E : St → XK} {e : Value} {s' : Shared} (h : XP X pins (fun σ' C d H' => σ' = σ ∧ E σ C d H') e s') : XP X pins E e s' := by
  obtain ⟨a, C, d, σ', H', rfl, L, rfl, q⟩ := h
  exact ⟨a, C, d, σ', H', rfl, L, q⟩
section
variable {X : Cx} {k : Nat} {f C : Addr} {fd : FuncData} {ps : List Str} {sp : Sp} {dvs : List V} {ds : List Value} {x m : Str} {p pos apos : Pos} {e o : Expr} {es : List Expr} {ta : TE} {t : TA}
theorem run_x {pins : List (Addr × Obj)} {σ : St} {H : Hp} {s : Shared} {Q : VK} {E : XK} {us : List Value} {vs : List V} (F : FnOk X.prog X.w X.K X.mg X.base (CX1 X.prog X.w) k f fd ps sp) (fm : Frm X) (hr : Room k X.A) (hb : Binds X.K fd ps ds) (hd : Vals dvs ds)
    (I : Inv X pins σ H s) (r : Vals vs us) (h : sp (vs ++ dvs) H Q E) : wpAny (model X.prog X.w) X.A (call (.ref f) us) (EP X pins σ Q) (XP X pins fun σ' C d H' => σ' = σ ∧ E C d H') s := by
  have r2 : Vals (vs ++ dvs) (us ++ ds) := r.append hd
  have hl : (us ++ ds).length = ps.length := by rw [← r2.length]; exact F.len _ _ _ _ h
  refine wpAny_call (codeAny_mono (F.run X.A X.stack s H ⟨us, []⟩ (us ++ ds) (vs ++ dvs) Q E hr I.env0 (hb s us I.kIn hl) r2 h) fun r s' hq => ?_)
  cases r with
  | error e =>
    obtain ⟨a, C, d, H', rfl, L, q⟩ := lies_of_call fm I hq
    exact ⟨a, C, d, σ, H', rfl, L, rfl, q⟩
  | ok fl =>
    cases fl with
    | ret u => exact I.after hq
    | next => exact False.elim hq
    | brk => exact False.elim hq
    | cont => exact False.elim hq
def xMeth (C : Addr) (m : Str) (sp : Sp) (dvs : List V) (ta : TE) (t : TA) : TEX := fun σ H Q E => ta σ H fun x H1 => ∃ a dx fs, x = .ref a ∧ H1 a = some (.ins C dx fs) ∧ fs.lookup m = none ∧ t σ H1 fun vs H2 => sp (x :: (vs ++ dvs)) H2 Q E
theorem px_meth {pl : Sem Bool} (he : PE X.nox o ta) (c : Cls X.K C) (hm : Meth X.K C m f) (F : FnOk X.prog X.w X.K X.mg X.base (CX1 X.prog X.w) k f fd ps sp) (fm : Frm X) (hr : Room k X.A) (hb : Binds X.K fd ps ds) (hd : Vals dvs ds) (ha : PA X.nox (e :: es) t)
    (hst : starEach (e :: es) X.env = (false, eval e X.env) :: starEach es X.env := by rfl) (hpl : (backTo pos (starEach es X.env)).any (·.1) = false := by rfl)
    (ht : eval (.Call (.Attribute o m apos) (e :: es) [] pos) X.env = (do
      let ov ← eval o X.env
      standAt apos.atName
      let (f, first) ← holding [ov] (getMethod ov m pl)
      callWith pos f first (backTo pos (starEach (e :: es) X.env)) (backToKw pos (keywordEach [] X.env))) := by rfl) :
    PX X (.Call (.Attribute o m apos) (e :: es) [] pos) (xMeth C m sp dvs ta t) := by
  intro pins s σ H Q E I h
  refine PySem.W.methodCall_KW (pl := pl) (wpAny_mono (he pins s σ H _ (I.wish _) h) (fun u s1 h1 => ?_) fun _ _ z => False.elim z) ht
  obtain ⟨x, H1, I1, rx, a, dx, fs, ex, ea, l, q⟩ := h1
  subst ex
  obtain rfl : u = Value.ref a := rx
  refine getmeth_ok (X := X.nox) I1 ea c hm l ?_
  refine PySem.W.callWith_K (first := [.ref a]) (h₀ := X.base) I.ok.mod.kin hm.kp (wpAny_mono (ha pos pins s1 σ H1 _ I1 q) (fun us s2 h2 => ?_) fun _ _ z => False.elim z) hst hpl
  obtain ⟨vs, H2, I2, r, q2⟩ := h2
  exact ⟨I2.kIn, run_x (us := .ref a :: us) (vs := .ref a :: vs) F fm hr hb hd I2.unwish (.cons rfl r) q2⟩

def xExpr (te : TEX) : TSX := fun D E σ H => te σ H (fun _ H1 => D.nx σ H1) (E σ)
theorem psx_expr (he : PX X e te) (hs : swapsWith e none pos.line X.env = pure false := by rfl) : PSX X (.Expr e pos) (xExpr te) := by
  intro pins s σ H D E I h
  exact wpAny_Expr_any (wpAny_mono (he pins s σ H _ _ I h) (fun v s1 ⟨x, H1, I1, r1, q1⟩ => ⟨σ, H1, I1, q1⟩) fun _ _ z => XP.at z) I.quiet hs
theorem psxs_one {st : Stmt} {t : TSX} (h1 : PSX X st t) : PSXs X [st] t := by
  intro pins s σ H D E I h
  refine wpAny_execs_cons (wpAny_mono (h1 pins s σ H D E I h) (fun f s1 q => ?_) fun _ _ z => z)
  cases f with
  | next => exact wpAny_execs_nil q
  | ret v => exact q
  | brk => exact q
  | cont => exact q
end

abbrev Cx.sup (X : Cx) (a : Addr) : Cx := { X with A := X.A.mark (some (.ref a)), calm := false, xe := fun _ _ => False }
section
variable {X : Cx} {pins : List (Addr × Obj)} {σ : List (Option V)} {H : Hp} {s : Shared} {a : Addr}
theorem Cx.Ok.sup (ok : X.Ok) (a : Addr) : (X.sup a).Ok :=
  ⟨ok.mod, ok.kind, ok.glob, ok.blt, ok.above, ok.inj, ok.has, ok.cab, fun z => Bool.noConfusion z, ok.frames, ok.stk, ok.exf, ok.bs, ok.bsz, ok.noex, ok.exfs, ok.funs, ok.frf⟩
theorem Inv.sup (I : Inv X pins σ H s) (a : Addr) : Inv (X.sup a) pins σ H s := ⟨I.ok.sup a, I.os, I.bare, I.base, I.loc, I.cell, I.free, I.freeC, I.pin, I.hok, I.len⟩
theorem Inv.unsup (ok : X.Ok) (I : Inv (X.sup a) pins σ H s) : Inv X pins σ H s := ⟨ok, I.os, I.bare, I.base, I.loc, I.cell, I.free, I.freeC, I.pin, I.hok, I.len⟩
def excO (a : Addr) (C : Value) (d : Option Addr) : HO := .ext fun h => ∃ o vs, h.get? a = some o ∧ o.cls = C ∧ o.dict = d ∧ o.data = .fields vs
theorem Lies.track {C : Value} {d : Option Addr} (L : Lies X pins σ H s a C d) (fm : Frm X) : Inv X pins σ (upd H a (excO a C d)) s := by
  obtain ⟨I, h0, hp, hs, ht, F⟩ := L
  obtain ⟨n, f, oe, vs, v, e1, e2, e3, e4, e5, t⟩ := F
  obtain ⟨c1, c2, c3, c4⟩ := lies_ch (a := a) (C := C) (d := d) I hp hs (b := a) ⟨n, f, _, _, e1, e4⟩
  have tr : ∀ b u, H b = some u → upd H a (excO a C d) b = some u := fun b u e => by rw [upd_ne (ne_of_none e f)]; exact e
  refine ⟨I.ok, I.os, I.bare, ⟨I.base.keep, I.base.slot, fun b o e n' hx => ?_, I.base.there, fun b xs e => tr _ _ (I.base.tups b xs e), fun b o u e => tr _ _ (I.base.frzs b o u e), fun b ps e => ?_⟩, I.loc, I.cell, ?_, fun x c e => ?_, fun p hp' => ?_, fun b o e => ?_, I.len⟩
  · have : b ≠ a := fun z => by rw [z, c1] at e; cases e
    rw [upd_ne this]; exact I.base.free b o e n' hx
  · obtain ⟨more, z⟩ := I.base.tbls b ps e
    exact ⟨more, tr _ _ z⟩
  · rw [upd_ne (Ne.symm c2)]; exact I.free
  · rw [upd_ne (c3 x c e)]; exact I.freeC x c e
  · obtain ⟨z1, z2, z3⟩ := I.pin p hp'
    exact ⟨z1, by rw [upd_ne (c4 p hp')]; exact z2, z3⟩
  · by_cases hb : b = a
    · subst hb
      rw [upd_same] at e; cases e
      refine ⟨⟨oe, vs, e1, e2, e3, e4⟩, ⟨oe, e1⟩, fun h1 h2 p k => ?_⟩
      obtain ⟨o, vs', z1, z2⟩ := p
      exact ⟨o, vs', k o z1, z2⟩
    · rw [upd_ne hb] at e
      exact (I.hok b o e).stay (fun _ _ _ q => q) (fun c q => tr _ _ q) fun c xs q => tr _ _ q
theorem forget_ok {A' : Around} {E : Value → Shared → Prop} {j : Nat} {n : Str} {pos : Pos} {Q : Unit → Shared → Prop} (I : Inv X pins σ H s) (hN : X.N.Nodup) (hj : X.N[j]? = some n) (hl : X.env.scope.names.lookup n = some .local)
    (h : ∀ s', Inv X pins (σ.set j none) H s' → Q () s') : wpAny (model X.prog X.w) A' (do bindName X.env n .none; unbindBehindTheSuite X.env n pos) Q E s := by
  obtain ⟨m, hn, hlk⟩ := id I.loc
  have hcls : (X.env.scope.kind == .class || (X.env.scope.kind == .module && X.env.locals != X.env.globals)) = false := by rw [I.ok.kind]; rfl
  have hiσ : j < σ.length := by rw [I.len]; exact (List.getElem?_eq_some_iff.mp hj).1
  have cne := I.cne
  refine wpAny_nameGoes_keeps hl hn hcls fun h' v hn' hs => ?_
  obtain ⟨oL, _, _, hoL, _⟩ := id hn
  refine h _ ⟨I.ok, I.os, I.bare, ⟨fun b o e n hb hx => ?_, fun b o e n hb hx => ?_, I.base.free, fun b o e hx => ?_, I.base.tups, I.base.frzs, I.base.tbls⟩, ⟨_, hn', fun i y v' e1 e2 e3 => ?_⟩, fun y c e => ?_, I.free, I.freeC, fun p hp => ?_, fun b ob e => ?_, by simpa using I.len⟩
  · exact (hs.2 b (Nat.ne_of_lt (Nat.lt_of_lt_of_le (Heap.lt_size e) I.ok.above))).trans (I.base.keep b o e n hb hx)
  · obtain ⟨sl, e1⟩ := I.base.slot b o e n hb hx
    exact ⟨sl, (hs.2 b (Nat.ne_of_lt (Nat.lt_of_lt_of_le (Heap.lt_size e) I.ok.above))).trans e1⟩
  · obtain ⟨o', e1⟩ := I.base.there b o e hx
    exact ⟨o', (hs.2 b (Nat.ne_of_lt (Nat.lt_of_lt_of_le (Heap.lt_size e) I.ok.above))).trans e1⟩
  · by_cases hij : i = j
    · subst hij
      rw [List.getElem?_set_self hiσ] at e2
      cases e2
    · rw [List.getElem?_set_ne (Ne.symm hij)] at e2
      obtain ⟨u', r', q⟩ := hlk i y v' e1 e2 e3
      refine ⟨u', r', ?_⟩
      rcases q with ⟨k, e⟩ | ⟨k, c, e, z⟩
      · refine .inl ⟨k, ?_⟩
        have : y ≠ n := fun e => hij (nodup_ix hN e1 (e ▸ hj))
        simp [this, e]
      · exact .inr ⟨k, c, e, z.sameBut hs (cne y c e)⟩
  · obtain ⟨w', z⟩ := I.cell y c e
    exact ⟨w', z.sameBut hs (cne y c e)⟩
  · obtain ⟨e, n, ne, nf, d⟩ := I.pin p hp
    exact ⟨(hs.2 p.1 ne).trans e, n, ne, nf, d⟩
  · refine (I.hok b ob e).stay (fun c w' hc q => (hs.2 c ?_).trans q) (fun _ q => q) fun _ _ q => q
    rintro rfl
    rcases hc with rfl | hc
    · rw [I.free] at e; cases e
    · rw [I.free] at hc; cases hc
end

abbrev TH := Addr → Value → Option Addr → Ends → St → Hp → Prop
def PH (X : Cx) (hs : List ExceptHandler) (t : TH) : Prop :=
  ∀ (pins : List (Addr × Obj)) (s : Shared) (σ : St) (H : Hp) (D : Ends) (a : Addr) (C : Value) (d : Option Addr), Lies X pins σ H s a C d → t a C d D σ H → wpAny (model X.prog X.w) X.A (handleBy (.ref a) X.env hs) (SP X pins D) X.xe s
section
variable {X : Cx} {pos np : Pos} {T : Str} {tc : Value} {b₀ : Stmt} {suite : List Stmt} {rest : List ExceptHandler} {ts : TS} {tr : TH}
def hNever : TH := fun _ _ _ _ _ _ => False
theorem ph_never {hs : List ExceptHandler} : PH X hs hNever := fun _ _ _ _ _ _ _ _ _ h => h.elim
def NameC (X : Cx) (T : Str) (c : Value) : Prop := X.mg T = some c ∨ (X.mg T = none ∧ bootBuiltins T = some c ∧ T ≠ "__name__")
theorem ld_cls {E : Value → Shared → Prop} {pins : List (Addr × Obj)} {s : Shared} {σ : St} {H : Hp} {Q : Value → Shared → Prop} (I : Inv X pins σ H s) (hg : Gl X T) (hc : NameC X T tc) (h : Q tc s)
    (hd : (T == ("__debug__" : Str)) = false := by decide) : wpAny (model X.prog X.w) X.A (eval (.Name T np) X.env) Q E s := by
  rcases hc with e | ⟨e, hv, hn⟩
  · exact ld_glob I hg e h hd
  · exact ld_blt I hg e hv h hn hd
theorem Lies.ty {M : Model} {pins : List (Addr × Obj)} {s : Shared} {σ : St} {H : Hp} {a : Addr} {C : Value} {d : Option Addr} (L : Lies X pins σ H s a C d) : PySem.W.Looks M s.heap (typeOf (.ref a)) C := by
  obtain ⟨I, h0, hp, hs, ht, n, f, oe, vs, v, e1, e2, _⟩ := L
  subst e2
  exact (PySem.W.Looks.ld e1).andThen .now
def hTestAs (K : PySem.W.Frag) (tc : Value) (j : Nat) (ts : TS) (tr : TH) : TH := fun a C d D σ H => ∃ b, PySem.W.exmOne K C tc = some b ∧
  if b = true then ts { nx := fun σ' H' => D.nx (σ'.set j none) H', rt := D.rt, bk := fun σ' H' => D.bk (σ'.set j none) H', ct := fun σ' H' => D.ct (σ'.set j none) H' } (σ.set j (some (.ref a))) (upd H a (excO a C d)) else tr a C d D σ H
theorem ph_as {j : Nat} {n : Str} (fm : Frm X) (hN : X.N.Nodup) (hj : X.N[j]? = some n) (hl : X.env.scope.names.lookup n = some .local) (hg : Gl X T) (hc : NameC X T tc) (hs : ∀ a, PSs (X.sup a) (b₀ :: suite) ts) (hr : PH X rest tr) (hd : (T == ("__debug__" : Str)) = false := by decide) :
    PH X (.ExceptHandler (some (.Name T np)) (some n) (b₀ :: suite) pos :: rest) (hTestAs X.K tc j ts tr) := by
  intro pins s σ H D a C d L h
  obtain ⟨b, hb, h⟩ := h
  have I := L.1
  refine wpAny_handleBy_cons (codeAny_handlers_test (ld_cls (X := X.sup a) (I.sup a) hg hc ((PySem.W.exm_one I.kIn L.ty hb).here ?_) hd)) (by intro q; cases q)
  cases b with
  | false =>
    rw [if_neg Bool.false_ne_true] at h
    exact hr pins s σ H D a C d L h
  | true =>
    rw [if_pos rfl] at h
    refine codeAny_handlers_suite_as (land_ok (X := X) L fun s' L' => ?_)
    refine store_ok (X := X.sup a) ((L'.track fm).sup a) hN hj (.inl hl) (v := .ref a) rfl (fun s2 I2 => ?_) (.inr hl)
    refine wpAny_mono (hs a pins s2 _ _ _ I2 h) (fun f s3 q => ?_) fun _ _ z => False.elim z
    cases f with
    | next =>
      obtain ⟨σ', H', J, q⟩ := q
      exact forget_ok (J.unsup I.ok) hN hj hl fun s4 J4 => ⟨_, H', J4, q⟩
    | brk =>
      obtain ⟨σ', H', J, q⟩ := q
      exact forget_ok (J.unsup I.ok) hN hj hl fun s4 J4 => ⟨_, H', J4, q⟩
    | cont =>
      obtain ⟨σ', H', J, q⟩ := q
      exact forget_ok (J.unsup I.ok) hN hj hl fun s4 J4 => ⟨_, H', J4, q⟩
    | ret u =>
      obtain ⟨v, σ', H', J, r, q⟩ := q
      exact forget_ok (J.unsup I.ok) hN hj hl fun s4 J4 => ⟨v, _, H', J4, r, q⟩
def tTry (tb : TSX) (to : TS) (th : TH) : TS := fun D σ H => tb { D with nx := to D } (fun σ' C d H' => ∀ a, H' a = none → th a C d D σ' H') σ H
theorem ps_try {body orelse : List Stmt} {h₀ : ExceptHandler} {hs : List ExceptHandler} {tb : TSX} {to : TS} {th : TH} (fm : Frm X) (hb : PSXs X body tb) (ho : PSs X orelse to) (hh : PH X (h₀ :: hs) th) : PS X (.Try body (h₀ :: hs) orelse [] pos) (tTry tb to th) := by
  intro pins s σ H D I h
  refine wpAny_Try_except (wpAny_mono (hb pins s σ H _ _ I h) (fun f s1 q => ?_) fun e s1 q => ?_)
  · cases f with
    | next =>
      obtain ⟨σ', H', I', q⟩ := q
      exact ho pins s1 σ' H' D I' q
    | ret v => exact q
    | brk => exact q
    | cont => exact q
  · obtain ⟨a, C, d, σ', H', rfl, L, q⟩ := q
    refine note_ok I.ok.frames fm L fun s2 L2 => ?_
    exact hh pins s2 σ' H' D a C d L2 (q a L2.2.choose_spec.2.2.2.free)
end

structure ExcK (K : PySem.W.Frag) (C : Addr) : Prop where
  ga : PySem.W.findIn K (.ref C) "__getattribute__" = some (some (.builtin "BaseException.__getattribute__"))
  gn : PySem.W.findIn K (.ref C) "__getattr__" = some none
  bx : PySem.W.mroIn K C (.type "BaseException") = some true
  ob : PySem.W.mroIn K C (.type "object") = some true
  ca : PySem.W.findIn K (.ref C) "__class__" = some (some (.builtin "object.__class__"))
  hn : PySem.W.specialIn K (.builtin "object.__class__") "__get__" = some (some (.builtin "getset_descriptor.__get__"))
  tk : PySem.W.takesIn K (.builtin "object.__class__") = some true
  cl : (PySem.W.clsIn K C).isSome = true
end L2

set_option Elab.async false
set_option linter.all false
set_option maxRecDepth 100000
set_option maxHeartbeats 1000000
namespace L2
open PySem PySem.Spec PyProof.Rows

section
variable {prog : Program} {w : World} {A : Around} {E : Value → Shared → Prop} {s : Shared} {K : PySem.W.Frag} {x D : Addr} {ox : Obj} {odo : Option Obj} {name : Str}
theorem exc_check {nameV : Value} {Q : Unit → Shared → Prop} (k : ExcK K D) (X : K.In s.heap) (I : PySem.W.InstAt s.heap x ox D odo) (h : Q () s) :
    wpAny (model prog w) A (checkBuiltinCall "BaseException.__getattribute__" ⟨[.ref x, nameV], []⟩) Q E s := by
  have hk : builtinKind "BaseException.__getattribute__" = some .slot := by decide +kernel
  have hsplit : splitId "BaseException.__getattribute__" = some ("BaseException", "__getattribute__") := by decide +kernel
  obtain ⟨hh, g, d, t, os⟩ := s
  have L0 := I.type (M := model prog w)
  have L1 := PySem.W.looks_mroIn (M := model prog w) X k.bx
  have LI : PySem.W.Looks (model prog w) hh (isInstance (.ref x) (.type "BaseException")) true := L0.andThen L1
  have ha := PySem.F.args_bexc_ga (.ref x) nameV
  simp only [checkBuiltinCall, hk, hsplit]
  refine wpAny_bind (LI.at ?_)
  repeat (first | lk | wp_step)
  exact h
theorem exc_by {v : Value} {tk : Tok} {fill expr : Bool} {P : Value → Shared → Prop} (k : ExcK K D) (X : K.In s.heap) (I : PySem.W.InstAt s.heap x ox D odo) (hv : PySem.W.handedIn v = true)
    (hf : PySem.W.findObj K D odo name = some (.value v) ∨ ∃ g a, PySem.W.findObj K D odo name = some (.bind g a) ∧ ∀ (A' : Around) (R : Result → Shared → Prop), R (.ok (.ret v)) s → codeAny (model prog w) A' (.call g ⟨[a, .ref x, .ref D], []⟩) R s) (h : P v s) :
    wpAny (model prog w) A (getAttrBy (.ref x) (.str name tk) fill expr) P E s := by
  obtain ⟨hh, g, d, t, os⟩ := s
  have L0 := I.type (M := model prog w)
  have L1 := PySem.W.looks_findIn (M := model prog w) X k.ga
  have L2 := PySem.W.looks_findIn (M := model prog w) X k.gn
  unfold getAttrBy
  refine wpAny_holding (wpAny_bind (L0.at (wpAny_bind (L1.at ?_))))
  show wpAny _ _ (getAttrByItsOwn (.ref x) (.str name tk) (.ref D) (.builtin "BaseException.__getattribute__") fill expr) _ _ _
  unfold getAttrByItsOwn hookBefore
  have f3 := PySem.F.attr_ValueError.ga.bind (.ref x)
  refine wpAny_bind (L2.at ?_)
  refine wpAny_bind (wpAny_attempt (wpAny_holding ?_))
  unfold callGetattribute boundAndCalled
  rw [if_neg (by cases expr <;> decide)]
  refine wpAny_bind (wpAny_of_eq f3 ?_)
  refine wpAny_call (codeAny_call_builtin PySem.F.attr_ValueError.ga.plain PySem.F.entry_bexc_ga (exc_check k X I ?_))
  unfold Builtin.«object.__getattribute__»
  refine wpAny_bind (wpAny_pure ?_)
  refine wpAny_bind (wpAny_pure ?_)
  refine wpAny_bind (L0.at ?_)
  rcases hf with hf | ⟨gg, a, hf, hc⟩
  · refine wpAny_bind ((PySem.W.looks_find (M := model prog w) X I hf).at ?_)
    refine wpAny_pure ?_
    show wpAny _ _ (handedOut v) _ _ _
    rw [PySem.W.handedOut_of hv]
    exact wpAny_pure h
  · refine wpAny_bind ((PySem.W.looks_find (M := model prog w) X I hf).at ?_)
    show wpAny _ _ (Builtin.ObjectAttr.bindTo gg a (.ref x) (.ref D)) _ _ _
    show wpAny _ _ (holding [a] (call gg [a, .ref x, .ref D]) >>= ret) _ _ _
    refine wpAny_bind (wpAny_holding (wpAny_call (hc _ _ ?_)))
    refine wpAny_pure ?_
    show wpAny _ _ (handedOut v) _ _ _
    rw [PySem.W.handedOut_of hv]
    exact wpAny_pure h
theorem exc_class {Q : Option Value → Shared → Prop} (k : ExcK K D) (X : K.In s.heap) (I : PySem.W.InstAt s.heap x ox D odo) (h : Q (some (.ref D)) { s with toks := s.toks + 1 }) :
    wpAny (model prog w) A (getAttr? (.ref x) "__class__") Q E s := by
  have hf : PySem.W.findObj K D odo "__class__" = some (.bind (.builtin "getset_descriptor.__get__") (.builtin "object.__class__")) := by
    obtain ⟨cd, hc⟩ := Option.isSome_iff_exists.mp k.cl
    unfold PySem.W.findObj
    rw [hc, Option.bind_some, k.ca, Option.bind_some]
    simp [k.hn, k.tk]
  unfold getAttr? getAttrBy?
  refine wpAny_bind (wpAny_mkText (wpAny_bind (wpAny_attempt (exc_by (s := { s with toks := s.toks + 1 }) k X I rfl (.inr ⟨_, _, hf, fun A' R q => PySem.W.class_get (s := { s with toks := s.toks + 1 }) X I k.ob q⟩) ?_))))
  exact wpAny_pure h
theorem kitx_exc (k : ExcK K D) : PySem.W.KitX K (.ref x) (.ref D) (fun h => PySem.W.InstAt h x ox D odo) where
  ty := fun _ _ _ I => I.type
  it := fun _ _ X _ => by
    obtain ⟨cdD, hcD⟩ := Option.isSome_iff_exists.mp k.cl
    unfold PySem.W.clsIn at hcD
    split at hcD
    · rename_i c' d' cd' sl' ho
      intro A' Q' E' s' kk q
      unfold isType loadHead
      exact wpAny_bind (wpAny_loadPart (kk _ _ (X _ _ ho)) (wpAny_pure q))
    · cases hcD
  ne := fun h tp dd its n sl X htp => by
    obtain ⟨cdD, hcD⟩ := Option.isSome_iff_exists.mp k.cl
    refine Bool.eq_false_iff.mpr fun q => ?_
    have e : D = tp := Value.ref.inj (beq_iff_eq.mp q)
    subst e
    unfold PySem.W.clsIn at hcD
    split at hcD
    · rename_i c' d' cd' sl' ho
      have z := (X _ _ ho).symm.trans htp
      cases z
    · cases hcD
  ca := fun X I h => exc_class k X I h
end
section
variable {X : Cx}
theorem exc_inst {pins : List (Addr × Obj)} {σ : St} {H : Hp} {s : Shared} {a C : Addr} (I : Inv X pins σ H s) (e : H a = some (excO a (.ref C) none)) : ∃ ox, PySem.W.InstAt s.heap a ox C none := by
  obtain ⟨⟨o, vs, h1, h2, h3, h4⟩, _⟩ := (show ObjOk X.prog X.w H s.heap a (excO a (.ref C) none) from I.hok a _ e)
  refine ⟨o, h1, h2, ?_, ?_⟩
  · unfold PySem.W.notCls; rw [h4]
  · rw [h3]; trivial
theorem call_isiX : CallR X (.builtin "isinstance") (fun xs H Q => ∃ a C c cv b, xs = [.ref a, c] ∧ H a = some (excO a (.ref C) none) ∧ ExcK X.K C ∧ RelV c cv ∧ (∀ u, RelV c u → u = cv) ∧ PySem.W.kitOne X.K (.ref C) cv = some b ∧ Q (.bl b) H) := by
  intro pins s σ H xs us Q I r h
  obtain ⟨a, C, c, cv, b, rfl, ha, k, rc, ru, e, q⟩ := h
  obtain ⟨u, w', rfl, rx, rn⟩ := vals2 r
  cases (show u = Value.ref a from rx)
  cases ru w' rn
  obtain ⟨ox, hi⟩ := exc_inst I ha
  exact PySem.W.kia_one (kitx_exc (ox := ox) (odo := none) k) I.kIn hi e (fun z => nomatch z) fun tk => ⟨.bl b, H, I.tok tk, rfl, q⟩
theorem pe_cls {x : Str} {C : Addr} {pos : Pos} (hg : Gl X x) (hm : X.mg x = some (.ref C)) (hd : (x == ("__debug__" : Str)) = false := by decide) : PE X (.Name x pos) (tC (.ref C)) := pe_glob hg hm rfl hd
theorem vals_refs : ∀ {cs : List Addr} {its : List Value}, Vals (cs.map V.ref) its → its = cs.map Value.ref
  | [], _, .nil => rfl
  | _ :: _, _, .cons r t => by rw [show _ = Value.ref _ from r, vals_refs t]; rfl
theorem call_isiXT : CallR X (.builtin "isinstance") (fun xs H Q => ∃ (a C tp : Addr) (cs : List Addr) (b : Bool), xs = [.ref a, .ref tp] ∧ H a = some (excO a (.ref C) none) ∧ ExcK X.K C ∧ H tp = some (.tup (cs.map V.ref)) ∧ PySem.W.kitAny X.K (.ref C) (cs.map Value.ref) = some b ∧ Q (.bl b) H) := by
  intro pins s σ H xs us Q I r h
  obtain ⟨a, C, tp, cs, b, rfl, ha, k, ht, e, q⟩ := h
  obtain ⟨u, w', rfl, rx, rn⟩ := vals2 r
  cases (show u = Value.ref a from rx)
  cases (show w' = Value.ref tp from rn)
  obtain ⟨ox, hi⟩ := exc_inst I ha
  obtain ⟨its, rv, ⟨o, h1, h2, n, h3⟩, _⟩ := I.tuple (SqT.of ht)
  have ei := vals_refs rv
  subst ei
  obtain ⟨oc, od, oda, osl⟩ := o
  dsimp only at h2 h3
  subst h2 h3
  exact PySem.W.kia_tup (kitx_exc (ox := ox) (odo := none) k) I.kIn hi h1 e (fun z => nomatch z) fun tk => ⟨.bl b, H, I.tok tk, rfl, q⟩
end
end L2

set_option maxHeartbeats 1000000
namespace Mq
end Mq

set_option Elab.async false
set_option linter.all false
set_option maxHeartbeats 1000000
namespace L2
open PySem PySem.Spec PyProof.Rows
def NW (K : PySem.W.Frag) (H : Hp) (x : V) : Prop := ∃ t, TyOf K H x t ∧ NotWhole t
def BadF (K : PySem.W.Frag) (H : Hp) (x y : V) : Prop := NW K H x ∨ (∃ t, x = .int t) ∧ (NW K H y ∨ y = .int 0)
def spFracX (K : PySem.W.Frag) (CN : Addr) : Sp := fun vs H Q E => ∃ x y, vs = [x, y] ∧
  ((∃ (t b : Int) (n : Nat), x = .int t ∧ y = .int b ∧ b ≠ 0 ∧ Mq.B n b ∧ n ≤ 9000 ∧ NewF H Q (Mq.red t b)) ∨ (BadF K H x y ∧ E (.ref CN) none H))
def spUnder (K : PySem.W.Frag) : Sp := fun vs H Q _ => ∃ (a b : Addr) (p q : Mq.Q2) (n m : Nat), vs = [.ref a, .ref b] ∧ Fq K H a p ∧ Fq K H b q ∧ Mq.Bd n p ∧ Mq.Bd m q ∧ n + m + 1 ≤ 9000 ∧ Q (.bl (decide (p.1 * q.2 < q.1 * p.2))) H
def pickN (ns : List Int) (k : Nat) : Int := ns.getD k 0
def spPick (K : PySem.W.Frag) : Sp := fun vs H Q _ => ∃ (a : Addr) (ns : List Int) (j : Int) (k : Nat), vs = [.ref a, .int j] ∧ j = (k : Int) ∧ SqL K H a (ns.map V.int) ∧ ns.length ≤ 63 ∧ ∀ H', Same H H' → Q (.int (pickN ns k)) H'
theorem pick_at (ns : List Int) (k : Nat) : atI (cutV (ns.map V.int) (some (k : Int)) (some ((k : Int) + 1)) ++ [V.int 0]) 0 = some (.int (pickN ns k)) := by
  have e1 : ((k : Int) + 1) = ((k + 1 : Nat) : Int) := by omega
  refine atI_nat (j := 0) ?_
  unfold cutV pickN
  rw [e1, HT.sIx_nat, HT.sIx_nat, List.length_map]
  by_cases h : k < ns.length
  · rw [Nat.min_eq_left (by omega), Nat.min_eq_left (by omega)]
    have e2 : k + 1 - k = 1 := by omega
    rw [e2]
    have e3 : (ns.map V.int).drop k = .int ns[k] :: (ns.map V.int).drop (k + 1) := by
      rw [List.drop_eq_getElem_cons (by simpa using h)]
      simp
    rw [e3]
    simp [List.getD, h]
  · rw [Nat.min_eq_right (by omega), Nat.min_eq_right (by omega), Nat.sub_self, List.take_zero]
    simp [List.getD, h]
end L2

set_option Elab.async false
set_option linter.all false
set_option maxRecDepth 100000
set_option maxHeartbeats 2000000
namespace L2
open PySem PySem.Spec PyProof.Rows Tx
section
variable {nl : Nat} {fr : List Nat} {g : TG} {tt : TT} {te : TE} {σ : St} {D : Addr} {H1 : Hp} {Q : VK}
theorem comp_str {cs : List Nat} (Pv : Nat → List V → Hp → Prop) (h0 : Pv 0 [] (upd H1 D (.lst []))) (hl : ∀ i ys H, Pv i ys H → H D = some (.lst ys))
    (hs : ∀ i ys c H, cs[i]? = some c → Pv i ys H → ∀ (C : Nat → List V → Hp → Prop), (∀ ys H, Pv (i + 1) ys H → C (i + 1) ys H) → CompT nl fr g tt te σ D C i ys (.str ⟨#[c]⟩) H) (hd : ∀ ys H, Pv cs.length ys H → Q (.ref D) H) :
    CompW (Its (S cs)) nl fr g tt te σ D H1 Q := by
  refine ⟨fun i m ys H => m = cs.length - i ∧ i ≤ cs.length ∧ Pv i ys H, ⟨cs.length, by simp, Nat.zero_le _, h0⟩, ?_⟩
  rintro i m ys H ⟨rfl, hi, p⟩
  refine ⟨hl i ys H p, ?_⟩
  by_cases hlt : i < cs.length
  · refine .inr ⟨by show i < (S cs).cps.size; rw [S_size]; exact hlt, fun x H' y => ?_⟩
    obtain ⟨e, c, hc, y⟩ := y
    subst e y
    have hc' : cs[i]? = some c := by rw [← S_list cs]; simpa using hc
    exact hs i ys c _ hc' p (fun j zs Hz => ∃ m', m' < cs.length - i ∧ m' = cs.length - j ∧ j ≤ cs.length ∧ Pv j zs Hz) fun zs Hz z => ⟨cs.length - (i + 1), by omega, rfl, hlt, z⟩
  · have e : i = cs.length := by omega
    subst e
    exact .inl ⟨by show (S cs).cps.size ≤ _; rw [S_size]; exact Nat.le_refl _, hd ys H p⟩
end
def digB (c : Nat) : Bool := decide (48 ≤ c ∧ c ≤ 57)
def figB (cs : List Nat) : Bool := decide (1 ≤ cs.length ∧ cs.length ≤ 200) && cs.all digB
theorem figB_iff (cs : List Nat) : figB cs = true ↔ Figs cs := by
  unfold figB Figs digB NumText.AllDigits
  simp only [Bool.and_eq_true, decide_eq_true_eq, List.all_eq_true]
  exact ⟨fun h => ⟨h.1.1, h.1.2, h.2⟩, fun h => ⟨⟨h.1, h.2.1⟩, h.2.2⟩⟩
theorem in_figs (c : Nat) : (!(Builtin.Str.occurrences "0123456789" ⟨#[c]⟩ 0 ("0123456789" : Str).length 1).isEmpty) = digB c := by
  rw [StrLaws.found_one]
  unfold digB
  rw [Bool.eq_iff_iff, decide_eq_true_eq, decide_eq_true_eq]
  have e : ("0123456789" : Str).cps.toList = [48, 49, 50, 51, 52, 53, 54, 55, 56, 57] := by decide +kernel
  rw [e]
  simp only [List.mem_cons, List.not_mem_nil, or_false]
  omega
theorem itx_len {i : Int} {n : Nat} (h : Mq.B n i) (hn : n ≤ 12900) : (itx i).length ≤ 4301 := by
  have h1 := lt_big h hn
  have h2 : (dg i.natAbs).length ≤ 4300 := (dg_len (by decide)).mpr h1
  unfold itx
  split
  · rw [List.length_cons]; omega
  · omega
theorem b200 {i : Int} (h : i.natAbs < 10 ^ 200) : Mq.B 700 i := by
  have h1 : (10 : Nat) ^ 200 ≤ 2 ^ 700 := by
    have : ((10 : Nat) ^ 2) ^ 100 ≤ (2 ^ 7) ^ 100 := Nat.pow_le_pow_left (by decide) _
    rw [← Nat.pow_mul, ← Nat.pow_mul] at this
    exact this
  exact Nat.lt_of_lt_of_le h h1
def stk (cs : List Nat) : Str := if 47 ∈ cs then "/" else Str.empty
theorem part_47 (cs : List Nat) : ∃ tl, Txt.partition (S cs) "/" = (S (ahead 47 cs), stk cs, S tl) ∧ (47 ∈ cs → tl = behind 47 cs) := by
  unfold stk
  rw [show ("/" : Str) = ⟨#[47]⟩ by decide +kernel]
  by_cases h : 47 ∈ cs
  · rw [if_pos h]
    exact ⟨_, part_yes h, fun _ => rfl⟩
  · rw [if_neg h, ahead_self h]
    exact ⟨[], part_no h, fun z => absurd z h⟩
theorem below_len {cs : List Nat} (h : cs.length ≤ 1000000) : (belowOf cs).length ≤ 1000000 := by
  unfold belowOf
  have := (ahead_len 47 cs).2
  split
  · omega
  · simp
def spFigs : Sp := fun vs H Q _ => ∃ cs, vs = [.str (S cs)] ∧ cs.length ≤ 1000000 ∧ ∀ H', Same H H' → Q (.bl (figB cs)) H'
def spNosign : Sp := fun vs H Q _ => ∃ cs, vs = [.str (S cs)] ∧ cs.length ≤ 1000000 ∧ Q (.str (S (nosign cs))) H
def spShow (K : PySem.W.Frag) : Sp := fun vs H Q _ => ∃ (a : Addr) (p : Mq.Q2) (n : Nat), vs = [.ref a] ∧ Fq K H a p ∧ Mq.Bd n p ∧ n ≤ 12900 ∧ Q (.str (S (shw p))) H
def NoTx (K : PySem.W.Frag) (H : Hp) (x : V) : Prop := ∃ t, TyOf K H x t ∧ (t = .type "NoneType" ∨ t = .type "bool" ∨ t = .type "int" ∨ t = .type "tuple" ∨ t = .type "list")
def spRead (K : PySem.W.Frag) (CN : Addr) : Sp := fun vs H Q E => ∃ x, vs = [x] ∧
  ((∃ cs, x = .str (S cs) ∧ cs.length ≤ 1000000 ∧ (∀ p, Wr p cs → NewF H Q p) ∧ ((¬ ∃ p, Wr p cs) → ∀ H', Same H H' → E (.ref CN) none H')) ∨ (NoTx K H x ∧ E (.ref CN) none H))
end L2

set_option Elab.async false
set_option linter.all false
namespace L2
open PySem PySem.Spec PyProof.Rows PySem.Builtin.Str PySem.SeqAt
variable {X : Cx}
def rSplit : V → List V → Hp → VK → Prop := fun x vs H Q => ∃ a b, x = .str a ∧ vs = [.str b] ∧ b.length ≠ 0 ∧ a.length + 2 ≤ sizeLine ∧ ∀ p, H p = none → Q (.ref p) (upd H p (.lst ((Txt.split a b).map V.str)))
theorem vals_strs : ∀ (l : List (Str × Tok)), Vals ((l.map (·.1)).map V.str) (strValues l)
  | [] => .nil
  | (a, t) :: l => .cons ⟨t, rfl⟩ (vals_strs l)
theorem mt_split : MtR X "str.split" rSplit := by
  intro pins s σ H x vs v us Q I rx rv h
  obtain ⟨a, b, rfl, rfl, hb, hz, q⟩ := h
  obtain ⟨t, rfl⟩ := rx
  obtain ⟨u, rfl, t', rfl⟩ := vals1 rv
  have hb' : (b.length == 0) = false := by simpa using hb
  have hle := split_le a b
  have fin : ∀ (l : List (Str × Tok)) (k : Nat), l.map (·.1) = Txt.split a b → EP X pins σ Q (.ref s.heap.objs.size) { s with heap := s.heap.push { cls := .type "list", data := .seq (strValues l).toArray }, toks := k } := fun l k e =>
    ⟨.ref s.heap.objs.size, _, I.laid (t' := k) (fun b o e => Heap.get?_push_of_some _ e) (Nat.le_refl _) (show ObjOk X.prog X.w _ _ _ (.lst ((Txt.split a b).map V.str)) from
      ⟨by rw [List.length_map]; omega, _, _, (by rw [← e]; exact vals_strs l), Heap.get?_push_size _ rfl⟩), rfl, q _ (I.hok.fresh (Nat.le_refl _))⟩
  cases h1 : (decide (a.length < b.length) || decide (strKind a < strKind b))
  · cases hf : (occurrences a b 0 a.length (a.length + 1)).isEmpty
    · have es : Txt.split a b = partsBetween a (occurrences a b 0 a.length (a.length + 1)) b.length := (if_neg (ne_true_of_eq_false h1)).trans (if_neg (ne_true_of_eq_false hf))
      refine call_meets F.slot_str_split (typeIs_str _ _ _) F.entry_str_split (F.args_str_split_2 _ _) (meets_str_split_sep a b t t' h1 hb' hf (by omega) (by rw [← es]; omega)) ?_
      show wants _ _ _ { s with toks := _, heap := s.heap.push { cls := .type "list", data := .seq (strsFrom s.toks (partsBetween a (occurrences a b 0 a.length (a.length + 1)) b.length)).toArray } }
      rw [strsFrom_eq]
      exact fin (numbered s.toks _) _ ((numbered_texts _ _).trans es.symm)
    · exact call_meets F.slot_str_split (typeIs_str _ _ _) F.entry_str_split (F.args_str_split_2 _ _) (meets_str_split_not_found a b t t' h1 hb' hf)
        (fin [(a, t)] s.toks ((if_neg (ne_true_of_eq_false h1)).trans (if_pos hf)).symm)
  · exact call_meets F.slot_str_split (typeIs_str _ _ _) F.entry_str_split (F.args_str_split_2 _ _) (meets_str_split_cannot_occur a b t t' h1)
      (fin [(a, t)] s.toks (if_pos h1).symm)
theorem strs_are : ∀ {ns : List Str} {us : List Value}, Vals (ns.map V.str) us → StrsAre us ns
  | [], _, .nil => .nil
  | n :: ns, _, .cons ⟨t, e⟩ q => by subst e; exact .cons _ _ (strs_are q)
theorem isStr_at (k : Str) : ∀ {vs : List Value} {ns : List Str}, StrsAre vs ns → ∀ (j : Nat) (h1 : j < vs.length) (h2 : j < ns.length), isStrOf k vs[j] = (ns[j] == k)
  | _, _, .cons n t _, 0, _, _ => rfl
  | _, _, .cons n t r, j + 1, h1, h2 => isStr_at k r j (Nat.lt_of_succ_lt_succ h1) (Nat.lt_of_succ_lt_succ h2)
theorem StrsAre_len : ∀ {vs : List Value} {ns : List Str}, StrsAre vs ns → vs.length = ns.length
  | _, _, .nil => rfl
  | _, _, .cons n t r => by rw [List.length_cons, List.length_cons, StrsAre_len r]
def rIndexS (K : PySem.W.Frag) : V → List V → Hp → VK → Prop := fun x vs H Q => ∃ (p : Addr) (ns : List Str) (k : Str) (j : Nat), x = .ref p ∧ vs = [.str k] ∧ SqL K H p (ns.map V.str) ∧ ns[j]? = some k ∧ (∀ i, i < j → ns[i]? ≠ some k) ∧ j ≤ 1000 ∧ Q (.int (j : Nat)) H
theorem mt_indexS : MtR X "list.index" (rIndexS X.K) := by
  intro pins s σ H x xs v us Q I rx rv h
  obtain ⟨p, ns, k, j, rfl, rfl, hq, hk, hno, hj, q⟩ := h
  cases rx
  obtain ⟨u, rfl, t, rfl⟩ := vals1 rv
  obtain ⟨its, r, pl, hz⟩ := I.list hq
  have hi := strs_are r
  have hlen := StrsAre_len hi
  obtain ⟨hjn, hjk⟩ := List.getElem?_eq_some_iff.mp hk
  obtain ⟨⟨cls, dd, data, sl⟩, ho, hc, n, hd⟩ := id pl.isList
  simp only at hc hd
  subst hc hd
  refine call_meets PySem.F.slot_list_index ⟨_, ho, rfl⟩ PySem.F.entry_list_index (PySem.F.args_list_index_2 _ _)
    (list_indexAt p its.toArray n dd sl (.str k t) (isStrOf k) j (by simpa [hlen] using hjn) (by omega) ?_ ?_) ⟨ho, fun y hy => (eq_isStrOf k t hi y (by simpa using hy)).at _ _, ⟨.int _, H, I.tok _, ⟨_, rfl⟩, q⟩⟩
  · show isStrOf k its[j] = true
    rw [isStr_at k hi _ (by omega) hjn, hjk]
    simp
  · intro i hjs hlt
    show isStrOf k its[i] = false
    have hi2 : i < ns.length := by simp at hjs; omega
    rw [isStr_at k hi i (by simpa using hjs) hi2]
    have := hno i hlt
    rw [List.getElem?_eq_getElem hi2] at this
    simpa using this
theorem app_sep {c : Nat} : ∀ {x y A B : List Nat}, c ∉ x → c ∉ y → x ++ c :: A = y ++ c :: B → x = y ∧ A = B
  | [], [], _, _, _, _, e => ⟨rfl, by simpa using e⟩
  | [], b :: y, _, _, _, h2, e => by
    have : c = b := by simpa using congrArg List.head? e
    exact absurd (List.mem_cons.mpr (.inl this)) h2
  | a :: x, [], _, _, h1, _, e => by
    have : a = c := by simpa using congrArg List.head? e
    exact absurd (List.mem_cons.mpr (.inl this.symm)) h1
  | a :: x, b :: y, A, B, h1, h2, e => by
    have e' : a = b ∧ x ++ c :: A = y ++ c :: B := by simpa using e
    obtain ⟨r1, r2⟩ := app_sep (fun z => h1 (List.mem_cons_of_mem _ z)) (fun z => h2 (List.mem_cons_of_mem _ z)) e'.2
    exact ⟨by rw [e'.1, r1], r2⟩
def jnc (c : Nat) : List (List Nat) → List Nat
  | [] => []
  | [x] => x
  | x :: y :: r => x ++ c :: jnc c (y :: r)
theorem jnc_inj {c : Nat} : ∀ {xs ys : List (List Nat)}, xs ≠ [] → ys ≠ [] → (∀ x ∈ xs, c ∉ x) → (∀ y ∈ ys, c ∉ y) → jnc c xs = jnc c ys → xs = ys
  | [], _, h, _, _, _, _ => absurd rfl h
  | _ :: _, [], _, h, _, _, _ => absurd rfl h
  | [x], [y], _, _, _, _, e => by rw [show x = y from e]
  | [x], y :: z :: r, _, _, h1, _, e => by
    have e : x = y ++ c :: jnc c (z :: r) := e
    exact absurd (by rw [e]; simp) (h1 x (by simp))
  | x :: z :: r, [y], _, _, _, h2, e => by
    have e : x ++ c :: jnc c (z :: r) = y := e
    exact absurd (by rw [← e]; simp) (h2 y (by simp))
  | x :: z :: r, y :: w :: q, _, _, h1, h2, e => by
    have e : x ++ c :: jnc c (z :: r) = y ++ c :: jnc c (w :: q) := e
    obtain ⟨r1, r2⟩ := app_sep (h1 x (by simp)) (h2 y (by simp)) e
    rw [r1, jnc_inj (xs := z :: r) (ys := w :: q) (by simp) (by simp) (fun a ha => h1 a (List.mem_cons_of_mem _ ha)) (fun a ha => h2 a (List.mem_cons_of_mem _ ha)) r2]
theorem join_jnc (c : Nat) : ∀ xs : List Str, (Str.join ⟨#[c]⟩ xs).cps.toList = jnc c (xs.map fun x => x.cps.toList)
  | [] => rfl
  | [x] => rfl
  | x :: y :: r => by
    have ih := join_jnc c (y :: r)
    show ((x ++ ⟨#[c]⟩ ++ Str.join ⟨#[c]⟩ (y :: r) : Str)).cps.toList = x.cps.toList ++ c :: jnc c ((y :: r).map fun x => x.cps.toList)
    rw [← ih]
    show ((x.cps ++ #[c]) ++ (Str.join ⟨#[c]⟩ (y :: r)).cps).toList = _
    simp
theorem split_is {c : Nat} {xs : List (List Nat)} (h0 : xs ≠ []) (h : ∀ x ∈ xs, c ∉ x) : Txt.split (Tx.S (jnc c xs)) ⟨#[c]⟩ = xs.map Tx.S := by
  have j := StrLaws.join_split (Tx.S (jnc c xs)) ⟨#[c]⟩
  have f := StrLaws.split_free (Tx.S (jnc c xs)) c
  have p := split_pos (Tx.S (jnc c xs)) ⟨#[c]⟩
  generalize Txt.split (Tx.S (jnc c xs)) ⟨#[c]⟩ = ys at j f p ⊢
  have e := congrArg (fun s : Str => s.cps.toList) j
  simp only [join_jnc, Tx.S_list] at e
  have := jnc_inj (c := c) (xs := ys.map fun x => x.cps.toList) (ys := xs) (fun z => by rw [List.map_eq_nil_iff] at z; rw [z] at p; simp at p) h0 (fun x hx => by
    obtain ⟨y, hy, rfl⟩ := List.mem_map.mp hx
    exact f y hy) h e
  rw [← this, List.map_map]
  conv => lhs; rw [← List.map_id ys]
  exact List.map_congr_left fun y _ => Tx.S_self y
end L2

set_option Elab.async false
set_option linter.all false
set_option maxRecDepth 100000
set_option maxHeartbeats 2000000
namespace L2
open PySem PySem.Spec PyProof.Rows
section
variable {X : Cx} {pins : List (Addr × Obj)} {σ : St} {H : Hp} {s : Shared} {h' : Heap}
end
section
variable {X : Cx}
end
end L2

set_option Elab.async false
set_option linter.all false
set_option maxRecDepth 100000
set_option maxHeartbeats 2000000
namespace L2
open PySem PySem.Spec PyProof.Rows
section
variable {X : Cx}
end
end L2

set_option Elab.async false
set_option linter.all false
set_option maxRecDepth 100000
set_option maxHeartbeats 2000000
namespace L2
open PySem PySem.Spec PyProof.Rows
inductive TyQ (K : PySem.W.Frag) (H : Hp) : V → Value → Prop where
  | of {x : V} {t : Value} (h : TyOf K H x t) : TyQ K H x t
  | tup {a : Addr} {xs : List V} (h : SqT K H a xs) : TyQ K H (.ref a) (.type "tuple")
  | lst {a : Addr} {xs : List V} (h : SqL K H a xs) : TyQ K H (.ref a) (.type "list")
section
variable {X : Cx} {pins : List (Addr × Obj)} {σ : St} {H : Hp} {s : Shared} {A : Around} {E : Value → Shared → Prop} {Q : Value → Shared → Prop} {c : Value} {b : Bool}
theorem isinst_okQ {x : V} {u t : Value} (I : Inv X pins σ H s) (rx : RelV x u) (ty : TyQ X.K H x t) (e : PySem.W.kitOne X.K t c = some b) (h : ∀ tk, Q (.bool b) { s with toks := tk }) :
    wpAny (model X.prog X.w) A (call (.builtin "isinstance") [u, c]) Q E s := by
  cases ty with
  | of ty => exact isinst_ok I rx ty e h
  | @tup a xs ht =>
    cases (show u = Value.ref a from rx)
    obtain ⟨its, _, p, _⟩ := I.tuple ht
    obtain ⟨o, h1, h2, _⟩ := p
    exact PySem.W.kia_one PySem.W.kitx_tuple I.kIn ⟨o, h1, h2⟩ e (fun z => nomatch z) h
  | @lst a xs ht =>
    cases (show u = Value.ref a from rx)
    obtain ⟨its, _, p, _⟩ := I.list ht
    obtain ⟨o, h1, h2, _⟩ := p.isList
    exact PySem.W.kia_one PySem.W.kitx_list I.kIn ⟨_, h1, h2⟩ e (fun z => nomatch z) h
end
section
variable {X : Cx}
theorem call_isiQ : CallR X (.builtin "isinstance") (fun xs H Q => ∃ x n t b, xs = [x, .ty n] ∧ TyQ X.K H x t ∧ PySem.W.kitOne X.K t (.type n) = some b ∧ Q (.bl b) H) := by
  intro pins s σ H vs us Q I rv h
  obtain ⟨x, n, t, b, rfl, ty, e, q⟩ := h
  obtain ⟨u, u2, rfl, r1, r2⟩ := vals2 rv
  cases (show u2 = Value.type n from r2)
  exact isinst_okQ I r1 ty e fun tk => ⟨.bl b, H, I.tok tk, rfl, q⟩
theorem pe_isiQ {i : Nat} {x T : Str} {T' : String} {p1 p2 p3 pos : Pos} (hN : X.N[i]? = some x) (hv : Vis X.env.scope x) (b : X.mg "isinstance" = none) (b2 : X.mg T = none) (g1 : Gl X "isinstance") (g2 : Gl X T) (hT : bootBuiltins T = some (.type T'))
    (hd : (x == ("__debug__" : Str)) = false := by decide) (hcd : (x == ("__classdict__" : Str)) = false := by decide) (hTn : T ≠ "__name__" := by decide) (hTd : (T == ("__debug__" : Str)) = false := by decide)
    (he : starEach [.Name x p2, .Name T p3] X.env = (false, eval (.Name x p2) X.env) :: starEach [.Name T p3] X.env := by rfl)
    (he2 : starEach [.Name T p3] X.env = (false, eval (.Name T p3) X.env) :: starEach [] X.env := by rfl) (hpl : (backTo pos (starEach [.Name T p3] X.env)).any (·.1) = false := by rfl) :
    PE X (.Call (.Name "isinstance" p1) [.Name x p2, .Name T p3] [] pos) (fun σ H Q => ∃ v t b, σ[i]? = some (some v) ∧ TyQ X.K H v t ∧ PySem.W.kitOne X.K t (.type T') = some b ∧ Q (.bl b) H) := by
  have h := pe_callB (X := X) (pos := pos) (p := p1) call_isiQ g1 b PyProof.Rows.boot_isinstance (pa_cons (pe_var (i := i) (pos := p2) hN hv hd hcd) (pa_cons (pe_bltn (v := .ty T') (pos := p3) g2 b2 hT rfl hTn hTd) pa_nil he2) he) (by decide) (by decide) he hpl
  intro pins s σ H Q I q
  obtain ⟨v, t, bb, h1, h2, h3, h4⟩ := q
  exact h pins s σ H Q I ⟨v, h1, v, T', t, bb, rfl, h2, h3, h4⟩
end
theorem SqT.upd {K : PySem.W.Frag} {H : Hp} {a l : Addr} {xs ys : List V} {o : HO} (h : SqT K H a xs) (hl : H l = some (.lst ys)) : SqT K (L2.upd H l o) a xs := by
  rcases h with (h | ⟨u, h⟩) | h
  · exact .inl (.inl (by rw [upd_ne (ne_of h hl (fun z => by cases z))]; exact h))
  · exact .inl (.inr ⟨u, by rw [upd_ne (ne_of h hl (fun z => by cases z))]; exact h⟩)
  · exact .inr h
theorem B_of {n : Nat} {i : Int} (lo : -(2 ^ n : Int) < i) (hi : i < 2 ^ n) : Mq.B n i := by
  unfold Mq.B
  have e : ((2 ^ n : Nat) : Int) = 2 ^ n := by simp
  omega
end L2

set_option Elab.async false
set_option linter.all false
set_option maxRecDepth 100000
set_option maxHeartbeats 2000000
namespace L2
open PySem PySem.Spec PyProof.Rows
section
variable {X : Cx}
theorem call_isiO : CallR X (.builtin "isinstance") (fun xs H Q => ∃ x C t b, xs = [x, .ref C] ∧ TyQ X.K H x t ∧ PySem.W.kitOne X.K t (.ref C) = some b ∧ Q (.bl b) H) := by
  intro pins s σ H xs us Q I r h
  obtain ⟨x, C, t, b, rfl, ty, e, q⟩ := h
  obtain ⟨u, w', rfl, rx, rn⟩ := vals2 r
  cases (show w' = Value.ref C from rn)
  exact isinst_okQ I rx ty e fun tk => ⟨.bl b, H, I.tok tk, rfl, q⟩
end
def tMethD {ι : Type} (C : ι → Addr) (m : Str) (sp : ι → Sp) (dvs : List V) (E : XK) (ta : TE) (t : TA) : TE := fun σ H Q => ta σ H fun x H1 => ∃ i a dx fs, x = .ref a ∧ H1 a = some (.ins (C i) dx fs) ∧ fs.lookup m = none ∧
  t σ H1 fun vs H2 => sp i (x :: (vs ++ dvs)) H2 Q E
section
variable {X : Cx} {ι : Type} {C f : ι → Addr} {fd : ι → FuncData} {sp : ι → Sp} {m : Str} {CX : CXT} {k : Nat} {ps : List Str} {ds : List Value} {dvs : List V} {E : XK} {o e : Expr} {es : List Expr} {ta : TE} {t : TA} {apos pos : Pos}
theorem pe_methD {pl : Sem Bool} (he : PE X o ta) (c : ∀ i, Cls X.K (C i)) (hm : ∀ i, Meth X.K (C i) m (f i)) (F : ∀ i, FnOk X.prog X.w X.K X.mg X.base CX k (f i) (fd i) ps (sp i)) (hr : Room k X.A) (hb : ∀ i, Binds X.K (fd i) ps ds) (hd : Vals dvs ds) (hx : Passes CX X E) (ha : PA X (e :: es) t)
    (hst : starEach (e :: es) X.env = (false, eval e X.env) :: starEach es X.env := by rfl) (hpl : (backTo pos (starEach es X.env)).any (·.1) = false := by rfl)
    (ht : eval (.Call (.Attribute o m apos) (e :: es) [] pos) X.env = (do
      let ov ← eval o X.env
      standAt apos.atName
      let (f, first) ← holding [ov] (getMethod ov m pl)
      callWith pos f first (backTo pos (starEach (e :: es) X.env)) (backToKw pos (keywordEach [] X.env))) := by rfl) :
    PE X (.Call (.Attribute o m apos) (e :: es) [] pos) (tMethD C m sp dvs E ta t) := by
  intro pins s σ H Q I h
  refine PySem.W.methodCall_KW (pl := pl) (thn (he pins s σ H _ I h) fun u s1 ⟨x, H1, I1, rx, i, a, dx, fs, ex, ea, l, q⟩ => ?_) ht
  subst ex
  obtain rfl : u = Value.ref a := rx
  refine getmeth_ok I1 ea (c i) (hm i) l ?_
  refine PySem.W.callWith_K (first := [.ref a]) (h₀ := X.base) I.ok.mod.kin (hm i).kp (thn (ha pos pins s1 σ H1 _ I1 q) fun us s2 ⟨vs, H2, I2, r, q2⟩ => ⟨I2.kIn, ?_⟩) hst hpl
  exact run_fn (us := .ref a :: us) (vs := .ref a :: vs) (F i) hr (hb i) hd hx I2 (.cons rfl r) q2
theorem pe_methD0 {pl : Sem Bool} (he : PE X o ta) (c : ∀ i, Cls X.K (C i)) (hm : ∀ i, Meth X.K (C i) m (f i)) (F : ∀ i, FnOk X.prog X.w X.K X.mg X.base CX k (f i) (fd i) ps (sp i)) (hr : Room k X.A) (hb : ∀ i, Binds X.K (fd i) ps ds) (hd : Vals dvs ds) (hx : Passes CX X E)
    (ht : eval (.Call (.Attribute o m apos) [] [] pos) X.env = (do
      let ov ← eval o X.env
      standAt apos.atName
      let (f, first) ← holding [ov] (getMethod ov m pl)
      callWith pos f first (backTo pos (starEach [] X.env)) (backToKw pos (keywordEach [] X.env))) := by rfl) :
    PE X (.Call (.Attribute o m apos) [] [] pos) (tMethD C m sp dvs E ta tNil) := by
  intro pins s σ H Q I h
  refine PySem.W.methodCall_KW (pl := pl) (thn (he pins s σ H _ I h) fun u s1 ⟨x, H1, I1, rx, i, a, dx, fs, ex, ea, l, q⟩ => ?_) ht
  subst ex
  obtain rfl : u = Value.ref a := rx
  refine getmeth_ok I1 ea (c i) (hm i) l ?_
  exact PySem.W.callWith_K0 (first := [.ref a]) I1.kIn (hm i).kp (run_fn (us := [.ref a]) (vs := [.ref a]) (F i) hr (hb i) hd hx I1 (.cons rfl .nil) q)
end
inductive Kd where
  | pc | pu | ho
  deriving DecidableEq
def Kd.wd : Kd → Str
  | .pc => "piece"
  | .pu => "push"
  | .ho => "hold"
def Kd.cn : Kd → Str
  | .pc => "Piece"
  | .pu => "Push"
  | .ho => "Hold"
theorem Kd.wd_inj {k j : Kd} (h : k.wd = j.wd) : k = j := by
  cases k <;> cases j <;> first | rfl | exact absurd h (by decide +kernel)
theorem fsg : ¬ (("start" : Str) = "goal") := by decide +kernel
theorem fsz : ¬ (("start" : Str) = "size") := by decide +kernel
theorem fgz : ¬ (("goal" : Str) = "size") := by decide +kernel
def rflds (s g z : V) : List (Str × V) := putF "size" z (putF "goal" g (putF "start" s []))
theorem rflds_start (s g z : V) : (rflds s g z).lookup ("start" : Str) = some s := by
  unfold rflds
  rw [lookup_putF, if_neg fsz, lookup_putF, if_neg fsg, lookup_putF, if_pos rfl]
theorem rflds_goal (s g z : V) : (rflds s g z).lookup ("goal" : Str) = some g := by
  unfold rflds
  rw [lookup_putF, if_neg fgz, lookup_putF, if_pos rfl]
theorem rflds_size (s g z : V) : (rflds s g z).lookup ("size" : Str) = some z := by
  unfold rflds
  rw [lookup_putF, if_pos rfl]
theorem rflds_no (s g z : V) {m : Str} (h1 : ¬ m = "start") (h2 : ¬ m = "goal") (h3 : ¬ m = "size") : (rflds s g z).lookup m = none := by
  unfold rflds
  rw [lookup_putF, if_neg h3, lookup_putF, if_neg h2, lookup_putF, if_neg h1]
  rfl
def Rw (CK : Kd → Addr) (H : Hp) (x : Addr) (k : Kd) (s g z : V) : Prop := ∃ dx, H x = some (.ins (CK k) dx (rflds s g z))
structure RT (K : PySem.W.Frag) (mg : Str → Option Value) (CR : Addr) (CK : Kd → Addr) : Prop where
  cl : ∀ k, Cls K (CK k)
  nS : ∀ k, NoAttr K (CK k) "start"
  nG : ∀ k, NoAttr K (CK k) "goal"
  nZ : ∀ k, NoAttr K (CK k) "size"
  t1 : ∀ k, PySem.W.findIn K (.ref (CK k)) "__class__" = some (some (.builtin "object.__class__"))
  t2 : PySem.W.specialIn K (.builtin "object.__class__") "__get__" = some (some (.builtin "getset_descriptor.__get__"))
  t3 : PySem.W.takesIn K (.builtin "object.__class__") = some true
  t4 : ∀ k, PySem.W.mroIn K (CK k) (.type "object") = some true
  isR : ∀ k, PySem.W.kitOne K (.ref (CK k)) (.ref CR) = some true
  isK : ∀ k j, PySem.W.kitOne K (.ref (CK k)) (.ref (CK j)) = some (decide (k = j))
  mR : mg "Row" = some (.ref CR)
  mK : ∀ k, mg (Kd.cn k) = some (.ref (CK k))
section
variable {K : PySem.W.Frag} {mg : Str → Option Value} {CR : Addr} {CK : Kd → Addr} {H : Hp} {x : Addr} {k : Kd} {s g z : V}
theorem Rw.new {C x dx : Addr} {fs : List (Str × V)} (h1 : H x = none) (h2 : H dx = none) (ne : dx ≠ x) : Same H (L2.upd (L2.upd H dx (.own x)) x (.ins C dx fs)) := fun b o e => by
  rw [upd_ne (ne_of_none e h1), upd_ne (ne_of_none e h2)]; exact e
end
def spRInit (CK : Kd → Addr) : Sp := fun vs H Q _ => ∃ (x dx : Addr) (k : Kd) (s g z : V), vs = [.ref x, s, g, z] ∧ H x = some (.ins (CK k) dx []) ∧ Q .non (upd H x (.ins (CK k) dx (rflds s g z)))
def spWord (k : Kd) : Sp := fun vs H Q _ => ∃ x, vs = [x] ∧ Q (.str k.wd) H
def spRTold (CK : Kd → Addr) : Sp := fun vs H Q _ => ∃ (x : Addr) (k : Kd) (s g z : V), vs = [.ref x] ∧ Rw CK H x k s g z ∧ ∀ t, H t = none → Q (.ref t) (upd H t (.tup [.str k.wd, s, g, z]))
def NewR (CK : Kd → Addr) (H : Hp) (Q : VK) (k : Kd) (s g z : V) : Prop := ∀ x H', Same H H' → H x = none → Rw CK H' x k s g z → Q (.ref x) H'
end L2
namespace L2
open PySem PySem.Spec PyProof.Rows
theorem ifT {c : Bool} {A B : Prop} (h : c = true) (x : A) : if c = true then A else B := by rw [if_pos h]; exact x
theorem ifF {c : Bool} {A B : Prop} (h : c = false) (x : B) : if c = true then A else B := by rw [if_neg (by rw [h]; decide)]; exact x
theorem dec_wd (k j : Kd) : decide (V.str k.wd = V.str j.wd) = decide (k = j) := by
  by_cases h : k = j
  · subst h; simp
  · rw [decide_eq_false h]
    exact decide_eq_false fun z => h (Kd.wd_inj (V.str.inj z))
end L2
namespace L2
open PySem PySem.Spec PyProof.Rows
end L2
namespace L2
theorem all3 {p : Kd → Prop} (a : p .pc) (b : p .pu) (c : p .ho) : ∀ k, p k := fun k => by cases k <;> assumption
def kd3 {α : Type} (a b c : α) : Kd → α
  | .pc => a
  | .pu => b
  | .ho => c
end L2

set_option maxHeartbeats 1000000
namespace Mq
end Mq

set_option Elab.async false
set_option linter.all false
set_option maxRecDepth 100000
namespace L2
open PySem PySem.Spec PyProof.Rows

section
variable {κ : Type} [DecidableEq κ]
def valV (kvs : List (κ × V)) (k : κ) : Option V := (kvs.find? fun kv => decide (kv.1 = k)).map (·.2)
def putK (kvs : List (κ × V)) (k : κ) (v : V) : List (κ × V) :=
  if (kvs.any fun kv => decide (kv.1 = k)) = true then kvs.map (fun kv => if kv.1 = k then (kv.1, v) else kv) else kvs ++ [(k, v)]
theorem valV_pos {p : κ × V} {r : List (κ × V)} {k : κ} (e : p.1 = k) : valV (p :: r) k = some p.2 := by simp [valV, List.find?_cons, e]
theorem valV_neg {p : κ × V} {r : List (κ × V)} {k : κ} (e : ¬ p.1 = k) : valV (p :: r) k = valV r k := by simp [valV, List.find?_cons, e]
theorem valV_any (k : κ) : ∀ kvs : List (κ × V), (kvs.any fun kv => decide (kv.1 = k)) = (valV kvs k).isSome
  | [] => rfl
  | p :: r => by
    rw [List.any_cons]
    by_cases e : p.1 = k
    · simp only [valV_pos e, decide_eq_true e, Bool.true_or, Option.isSome_some]
    · rw [valV_neg e, decide_eq_false e, Bool.false_or]; exact valV_any k r
theorem length_putK (kvs : List (κ × V)) (k : κ) (v : V) : (putK kvs k v).length ≤ kvs.length + 1 := by
  unfold putK
  split
  · rw [List.length_map]; omega
  · rw [List.length_append, List.length_cons, List.length_nil]; omega
theorem RelO.isSome_eq {o : Option V} {u : Option Value} (r : RelO o u) : o.isSome = u.isSome := by
  cases o with
  | none => cases u with
    | none => rfl
    | some _ => exact (show False from r).elim
  | some _ => cases u with
    | none => exact (show False from r).elim
    | some _ => rfl
theorem KV.val {kvs : List (κ × V)} {vs : List (κ × Value)} (r : KV kvs vs) (k : κ) : RelO (valV kvs k) (valueAt vs k) := by
  unfold KV at r
  induction r with
  | nil => exact True.intro
  | @cons p q ps qs h t ih =>
    obtain ⟨h1, h2⟩ := h
    by_cases e : p.1 = k
    · have e' : q.1 = k := h1.symm.trans e
      have b : valueAt (q :: qs) k = some q.2 := by simp [valueAt, List.find?_cons, e']
      rw [valV_pos e, b]; exact h2
    · have e' : ¬ q.1 = k := fun z => e (h1.trans z)
      have b : valueAt (q :: qs) k = valueAt qs k := by simp [valueAt, List.find?_cons, e']
      rw [valV_neg e, b]; exact ih
theorem KV.any {kvs : List (κ × V)} {vs : List (κ × Value)} (r : KV kvs vs) (k : κ) : (kvs.any fun kv => decide (kv.1 = k)) = vs.any fun kv => decide (kv.1 = k) := by
  unfold KV at r
  induction r with
  | nil => rfl
  | cons h t ih => rw [List.any_cons, List.any_cons, ih, h.1]
theorem KV.repl {kvs : List (κ × V)} {vs : List (κ × Value)} (r : KV kvs vs) (k : κ) {y : V} {u : Value} (ry : RelV y u) :
    KV (kvs.map fun kv => if kv.1 = k then (kv.1, y) else kv) (vs.map fun kv => if kv.1 = k then (kv.1, u) else kv) := by
  unfold KV at r ⊢
  induction r with
  | nil => exact .nil
  | @cons p q ps qs h t ih =>
    rw [List.map_cons, List.map_cons]
    refine .cons ?_ ih
    obtain ⟨h1, h2⟩ := h
    by_cases e : p.1 = k
    · rw [if_pos e, if_pos (h1.symm.trans e)]; exact ⟨h1, ry⟩
    · rw [if_neg e, if_neg (fun z => e (h1.trans z))]; exact ⟨h1, h2⟩
theorem KV.put {kvs : List (κ × V)} {vs : List (κ × Value)} (r : KV kvs vs) (k : κ) {y : V} {u : Value} (ry : RelV y u) : KV (putK kvs k y) (stored vs k u) := by
  unfold putK stored
  rw [r.any k]
  by_cases e : (vs.any fun kv => decide (kv.1 = k)) = true
  · rw [if_pos e, if_pos e]; exact r.repl k ry
  · rw [if_neg e, if_neg e]; exact Paired.snoc r ⟨rfl, ry⟩
theorem KV.length {kvs : List (κ × V)} {vs : List (κ × Value)} (r : KV kvs vs) : kvs.length = vs.length := Paired.length r
end


theorem kV_is {P : Program} {w : World} {k : Key} {u : Value} (r : RelV (kV k) u) : (mixKind P w).is k u = true := by
  cases k with
  | inl i => obtain ⟨t, e⟩ := (show ∃ t, u = Value.int i t from r); subst e; exact mixKind_int P w i t
  | inr x => obtain ⟨t, e⟩ := (show ∃ t, u = Value.str x t from r); subst e; exact mixKind_str P w x t
theorem items_are {P : Program} {w : World} : ∀ {ks : List Key} {us : List Value}, Vals (ks.map kV) us → ItemsAre (mixKind P w) ks us
  | [], _, r => by rw [List.map_nil] at r; cases r; exact .nil
  | k :: ks, _, r => by
    rw [List.map_cons] at r
    cases r with
    | cons h t => exact .cons (kV_is h) (items_are t)

abbrev KT (H : Hp) : List (List Key × V) → List (List Key × Addr × Value) → Prop := Paired fun p q => p.1 = q.1 ∧ H q.2.1 = some (.tup (p.1.map kV)) ∧ RelV p.2 q.2.2
theorem KT.val {H : Hp} {kvs : List (List Key × V)} {xs : List (List Key × Addr × Value)} (r : KT H kvs xs) (k : List Key) : RelO (valV kvs k) ((atKey xs k).map (·.2)) := by
  induction r with
  | nil => exact True.intro
  | @cons p q ps qs h t ih =>
    obtain ⟨h1, _, h2⟩ := h
    by_cases e : p.1 = k
    · have e' : q.1 = k := h1.symm.trans e
      have b : atKey (q :: qs) k = some q.2 := by simp [atKey, List.find?_cons, e']
      rw [valV_pos e, b]; exact h2
    · have e' : ¬ q.1 = k := fun z => e (h1.trans z)
      have b : atKey (q :: qs) k = atKey qs k := by simp [atKey, List.find?_cons, e']
      rw [valV_neg e, b]; exact ih
theorem KT.repl {H : Hp} {kvs : List (List Key × V)} {xs : List (List Key × Addr × Value)} (r : KT H kvs xs) (k : List Key) {y : V} {u : Value} (ry : RelV y u) :
    KT H (kvs.map fun kv => if kv.1 = k then (kv.1, y) else kv) (xs.map (putAt k u)) := by
  induction r with
  | nil => exact .nil
  | @cons p q ps qs h t ih =>
    rw [List.map_cons, List.map_cons]
    refine .cons ?_ ih
    obtain ⟨h1, h2, h3⟩ := h
    unfold putAt
    by_cases e : p.1 = k
    · rw [if_pos e, if_pos (h1.symm.trans e)]; exact ⟨h1, h2, ry⟩
    · rw [if_neg e, if_neg (fun z => e (h1.trans z))]; exact ⟨h1, h2, h3⟩
theorem KT.put {H : Hp} {kvs : List (List Key × V)} {xs : List (List Key × Addr × Value)} (r : KT H kvs xs) (k : List Key) {b : Addr} {y : V} {u : Value} (hb : H b = some (.tup (k.map kV))) (ry : RelV y u) :
    KT H (putK kvs k y) (storedH xs k b u) := by
  have e : (kvs.any fun kv => decide (kv.1 = k)) = (atKey xs k).isSome := by
    rw [valV_any, (r.val k).isSome_eq, Option.isSome_map]
  unfold putK storedH
  rw [e]
  by_cases q : (atKey xs k).isSome = true
  · rw [if_pos q, if_pos q]; exact r.repl k ry
  · rw [if_neg q, if_neg q]; exact Paired.snoc r ⟨rfl, hb, ry⟩
theorem KT.keeps {H H' : Hp} {kvs : List (List Key × V)} {xs : List (List Key × Addr × Value)} (r : KT H kvs xs) (ht : ∀ b ys, H b = some (.tup ys) → H' b = some (.tup ys)) : KT H' kvs xs :=
  Paired.mapP r fun _ _ z => ⟨z.1, ht _ _ z.2.1, z.2.2⟩

section
variable {P : Program} {w : World} {H : Hp} {h : Heap} {a : Addr}
theorem rd_of {u : HO} (ok : HOk P w H h) (e : Rd H a u) : ObjOk P w H h a u := e.ok ok
theorem dk_rd {kvs : List (Key × V)} (ok : HOk P w H h) (e : Rd H a (.dK kvs)) : kvs.length ≤ sizeLine ∧ (a == sysModules) = false ∧ ∃ vs, KV kvs vs ∧ h.DictOf (mixKind P w) a vs :=
  show ObjOk P w H h a (.dK kvs) from rd_of ok e
theorem dk_of {kvs : List (Key × V)} (ok : HOk P w H h) (e : H a = some (.dK kvs)) : kvs.length ≤ sizeLine ∧ (a == sysModules) = false ∧ ∃ vs, KV kvs vs ∧ h.DictOf (mixKind P w) a vs := dk_rd ok (.inl e)
theorem key_of {ks : List Key} (ok : HOk P w H h) (e : H a = some (.tup (ks.map kV))) : (tupleKind (mixKind P w)).is h ks a := by
  obtain ⟨_, its, r, o, h1, h2, n, h3⟩ := (show ObjOk P w H h a (.tup (ks.map kV)) from ok a _ e)
  exact ⟨o, its.toArray, n, h1, h2, h3, by simpa using items_are r⟩
theorem dt_rd {kvs : List (List Key × V)} (ok : HOk P w H h) (e : Rd H a (.dT kvs)) : kvs.length ≤ sizeLine ∧ (a == sysModules) = false ∧
    ∃ xs, KT H kvs xs ∧ h.DictOfH (tupleKind (mixKind P w)) a xs := by
  obtain ⟨z, y, xs, r, o, es, ep, h1, h2, h3, h4, h5⟩ := (show ObjOk P w H h a (.dT kvs) from rd_of ok e)
  refine ⟨z, y, xs, r, o, es, ep, h1, h2, h3, h4, fun x hx => ?_, h5⟩
  have all : ∀ {l : List (List Key × V)} {m : List (List Key × Addr × Value)}, KT H l m → ∀ x ∈ m, (tupleKind (mixKind P w)).is h x.1 x.2.1 := by
    intro l m q
    induction q with
    | nil => intro x hx; exact nomatch hx
    | @cons p q ps qs hq t ih =>
      intro x hx
      rcases List.mem_cons.mp hx with e | hx
      · subst e
        exact key_of ok (by rw [← hq.1]; exact hq.2.1)
      · exact ih x hx
  exact all r x hx
theorem dt_of {kvs : List (List Key × V)} (ok : HOk P w H h) (e : H a = some (.dT kvs)) : kvs.length ≤ sizeLine ∧ (a == sysModules) = false ∧
    ∃ xs, KT H kvs xs ∧ h.DictOfH (tupleKind (mixKind P w)) a xs := dt_rd ok (.inl e)
end

def DGet (H : Hp) (a : Addr) (y : V) (r : Option V) : Prop :=
  (∃ kvs k, Rd H a (.dK kvs) ∧ y = kV k ∧ r = valV kvs k) ∨ ∃ kvs k b, Rd H a (.dT kvs) ∧ y = .ref b ∧ H b = some (.tup (k.map kV)) ∧ r = valV kvs k
def DPut (H : Hp) (a : Addr) (y v : V) (H' : Hp) : Prop :=
  (∃ kvs k, H a = some (.dK kvs) ∧ y = kV k ∧ kvs.length < sizeLine ∧ H' = upd H a (.dK (putK kvs k v))) ∨
  ∃ kvs k b, H a = some (.dT kvs) ∧ y = .ref b ∧ H b = some (.tup (k.map kV)) ∧ kvs.length < sizeLine ∧ H' = upd H a (.dT (putK kvs k v))
theorem DGet.k {H : Hp} {a : Addr} {kvs : List (Key × V)} {k : Key} (e : H a = some (.dK kvs)) : DGet H a (kV k) (valV kvs k) := .inl ⟨kvs, k, .inl e, rfl, rfl⟩
theorem DPut.k {H : Hp} {a : Addr} {kvs : List (Key × V)} {k : Key} {v : V} (e : H a = some (.dK kvs)) (hl : kvs.length < sizeLine) : DPut H a (kV k) v (upd H a (.dK (putK kvs k v))) := .inl ⟨kvs, k, e, rfl, hl, rfl⟩
section
variable {X : Cx} {pins : List (Addr × Obj)} {σ : St} {H : Hp} {s : Shared} {a : Addr} {y v : V} {u r : Value} {o : Option V} {A : Around} {E : Value → Shared → Prop}

theorem Inv.big (I : Inv X pins σ H s) : sysModules < s.heap.objs.size := by
  have h : mainGlobals < s.heap.objs.size := (I.mod.glob.keeps I.bk).lt
  exact Nat.lt_trans (by decide) h

theorem d_getItem {Q : Value → Shared → Prop} (hu : A.units + 1 < cLine) (I : Inv X pins σ H s) (g : DGet H a y (some v)) (ry : RelV y u) (h : ∀ w' s', Inv X pins σ H s' → RelV v w' → Q w' s') :
    wpAny (model X.prog X.w) A (getItem (.ref a) u) Q E s := by
  rcases g with ⟨kvs, k, e, ey, l⟩ | ⟨kvs, k, b, e, ey, eb, l⟩
  · subst ey
    obtain ⟨z, hd, vs, rel, dd⟩ := dk_rd I.hok e
    obtain ⟨w', hw, rw'⟩ := RelO.some_of (v := v) (o := valueAt vs k) (by rw [l]; exact rel.val k)
    exact wpAny_getItem_of (kV_is ry) dd.mapOf hw (h w' _ (I.tok _) rw')
  · subst ey
    cases (show u = Value.ref b from ry)
    obtain ⟨z, hd, xs, rel, dd⟩ := dt_rd I.hok e
    obtain ⟨w', hw, rw'⟩ := RelO.some_of (v := v) (o := (atKey xs k).map (·.2)) (by rw [l]; exact rel.val k)
    obtain ⟨p, hp, hp2⟩ := Option.map_eq_some_iff.mp hw
    refine wpAny_getItem_heap (tupleKind_room_in1 hu) (key_of I.hok eb) dd hp ?_
    rw [hp2]
    exact h w' _ (I.tok _) rw'
theorem d_in {Q : Value → Shared → Prop} (hu : A.units + 1 < cLine) (I : Inv X pins σ H s) (g : DGet H a y o) (ry : RelV y u) (h : ∀ s', Inv X pins σ H s' → Q (.bool o.isSome) s') :
    wpAny (model X.prog X.w) A (compareOp .In u (.ref a)) Q E s := by
  rcases g with ⟨kvs, k, e, ey, l⟩ | ⟨kvs, k, b, e, ey, eb, l⟩
  · subst ey
    obtain ⟨z, hd, vs, rel, dd⟩ := dk_rd I.hok e
    refine wpAny_in_of (kV_is ry) hd dd.mapOf ?_
    rw [← (rel.val k).isSome_eq, ← l]
    exact h _ (I.tok _)
  · subst ey
    cases (show u = Value.ref b from ry)
    obtain ⟨z, hd, xs, rel, dd⟩ := dt_rd I.hok e
    refine wpAny_in_heap (tupleKind_room_in1 hu) (key_of I.hok eb) hd dd ?_
    have q := (rel.val k).isSome_eq
    rw [Option.isSome_map] at q
    rw [← q, ← l]
    exact h _ (I.tok _)
theorem d_notIn {Q : Value → Shared → Prop} (hu : A.units + 1 < cLine) (I : Inv X pins σ H s) (g : DGet H a y o) (ry : RelV y u) (h : ∀ s', Inv X pins σ H s' → Q (.bool (!o.isSome)) s') :
    wpAny (model X.prog X.w) A (compareOp .NotIn u (.ref a)) Q E s := by
  rcases g with ⟨kvs, k, e, ey, l⟩ | ⟨kvs, k, b, e, ey, eb, l⟩
  · subst ey
    obtain ⟨z, hd, vs, rel, dd⟩ := dk_rd I.hok e
    refine wpAny_notIn_of (kV_is ry) hd dd.mapOf ?_
    rw [← (rel.val k).isSome_eq, ← l]
    exact h _ (I.tok _)
  · subst ey
    cases (show u = Value.ref b from ry)
    obtain ⟨z, hd, xs, rel, dd⟩ := dt_rd I.hok e
    refine wpAny_notIn_heap (tupleKind_room_in1 hu) (key_of I.hok eb) hd dd ?_
    have q := (rel.val k).isSome_eq
    rw [Option.isSome_map] at q
    rw [← q, ← l]
    exact h _ (I.tok _)
theorem d_write {h' : Heap} {t' : Nat} {ob : HO} (I : Inv X pins σ H s) (mu : Mut (H a)) (hs : Heap.SameBut a s.heap h') (he : ∃ q, h'.get? a = some q) (new : ObjOk X.prog X.w (upd H a ob) h' a ob) :
    Inv X pins σ (upd H a ob) { s with heap := h', toks := t' } :=
  I.write (x := a) (e := a) mu (.inl rfl) (fun b q hb z => (hs.2 b hb).trans z) he new
theorem dk_new {P : Program} {w : World} {H' : Hp} {h' : Heap} {kvs : List (Key × V)} {vs : List (Key × Value)} (z : kvs.length ≤ sizeLine) (hd : (a == sysModules) = false) (rel : KV kvs vs) (dd : h'.DictOf (mixKind P w) a vs) :
    ObjOk P w H' h' a (.dK kvs) := ⟨z, hd, vs, rel, dd⟩
theorem d_setItem {H' : Hp} {Q : Unit → Shared → Prop} (hu : A.units + 1 < cLine) (I : Inv X pins σ H s) (g : DPut H a y v H') (ry : RelV y u) (rv : RelV v r) (h : ∀ s', Inv X pins σ H' s' → Q () s') :
    wpAny (model X.prog X.w) A (setItem (.ref a) u r) Q E s := by
  rcases g with ⟨kvs, k, e, ey, l, eH⟩ | ⟨kvs, k, b, e, ey, eb, l, eH⟩
  · subst ey eH
    obtain ⟨z, hd, vs, rel, dd⟩ := dk_of I.hok e
    have hz : vs.length ≤ sizeLine := by rw [← rel.length]; exact z
    have hl : (putK kvs k v).length ≤ sizeLine := by have := length_putK kvs k v; omega
    refine wpAny_setItem_pairs (hsz := hz) (kV_is ry) dd fun h' dd' hs => h _ ?_
    have he : ∃ q, h'.get? a = some q := let ⟨q, _, _, hq, _⟩ := dd'; ⟨q, hq⟩
    exact d_write I (by rw [e]; exact True.intro) hs he (dk_new hl hd (rel.put k rv) dd')
  · subst ey eH
    cases (show u = Value.ref b from ry)
    obtain ⟨z, hd, xs, rel, dd⟩ := dt_of I.hok e
    have hz : xs.length ≤ sizeLine := by rw [← Paired.length rel]; exact z
    have hl : (putK kvs k v).length ≤ sizeLine := by have := length_putK kvs k v; omega
    refine wpAny_setItem_heap (hsz := hz) (tupleKind_room_in1 hu) (key_of I.hok eb) dd fun h' dd' hs => h _ ?_
    obtain ⟨q, es, ep, hq, h2, h3, h4, _, h5⟩ := dd'
    refine d_write I (by rw [e]; exact True.intro) hs ⟨q, hq⟩ ⟨hl, hd, _, (rel.put k eb rv).keeps fun c ys ec => ?_, q, es, ep, hq, h2, h3, h4, h5⟩
    rw [upd_ne (ne_of ec e (fun z => nomatch z))]
    exact ec
end

section
variable {X : Cx} {pins : List (Addr × Obj)} {σ : St} {H : Hp} {s : Shared} {a : Addr} {kvs : List (Key × V)} {k : Key} {u : Value} {A : Around} {E : Value → Shared → Prop}
theorem d_len {Q : Value → Shared → Prop} (I : Inv X pins σ H s) (e : Rd H a (.dK kvs)) (h : ∀ t s', Inv X pins σ H s' → Q (.int kvs.length t) s') : wpAny (model X.prog X.w) A (call (.builtin "len") [.ref a]) Q E s := by
  obtain ⟨z, hd, vs, rel, dd⟩ := dk_rd I.hok e
  refine call_len_dict hd dd (by rw [← rel.length]; rw [sizeLine_eq] at z; omega) ?_
  rw [← rel.length]
  exact h _ _ (I.tok _)
end


def NoSl (i : Expr) : Prop := ∀ ov iv, subscripted i false ov iv = operate [ov, iv] (getItem ov iv)
theorem subD_of {prog : Program} {w : World} {A : Around} {E : Value → Shared → Prop} {s : Shared} {env : Env} {value slice : Expr} {pos : Pos} {T id : String} {Q : Value → Shared → Prop}
    (hl : typeLookup (.type T) "__getitem__" = pure (some (.builtin id))) (hs : NoSl slice)
    (h : wpAny (model prog w) A (eval value env) (fun o s₁ => wpAny (model prog w) A (eval slice env) (fun i s₂ => s₂.TypeIs o T ∧ wpAny (model prog w) A (getItem o i) Q E s₂) E s₁) E s) :
    wpAny (model prog w) A (eval (.Subscript value slice pos) env) Q E s := by
  refine Subscript_ (wpAny_mono h (fun o s₁ h₁ => wpAny_mono h₁ (fun i s₂ h₂ => ?_) fun _ _ x => x) fun _ _ x => x)
  obtain ⟨hT, h₂⟩ := h₂
  unfold subscriptTail
  refine wpAny_bind ?_
  rw [getitemInPython_of_ne hT.not_modules]
  refine wpAny_bind (wpAny_specialOf hT hl ?_)
  have fin : wpAny (model prog w) A (subscripted slice false o i) (fun r s₃ => wpAny (model prog w) A (letTemporaryGo value o r >>= fun _ => pure r) Q E s₃) E s₂ := by
    rw [hs o i]
    exact wpAny_operating (wpAny_mono h₂ (fun r s₃ h₃ => wpAny_bind (wpAny_letTemporaryGo (wpAny_pure h₃))) fun _ _ x => x)
  first
    | exact wpAny_pure (wpAny_bind fin)
    | exact wpAny_bind (wpAny_pure (wpAny_bind fin))
    | exact wpAny_bind fin

theorem dict_typeIs {X : Cx} {pins : List (Addr × Obj)} {σ : St} {H : Hp} {s : Shared} {a : Addr} {y : V} {o : Option V} (I : Inv X pins σ H s) (g : DGet H a y o) : s.TypeIs (.ref a) "dict" := by
  rcases g with ⟨kvs, k, e, _, _⟩ | ⟨kvs, k, b, e, _, _, _⟩
  · obtain ⟨_, _, vs, _, dd⟩ := dk_rd I.hok e
    exact dd.typeIs
  · obtain ⟨_, _, xs, _, dd⟩ := dt_rd I.hok e
    exact dd.typeIs
def tDGet (td ty : TE) : TE := fun σ H Q => td σ H fun x H1 => ty σ H1 fun y H2 => ∃ a v, x = .ref a ∧ DGet H2 a y (some v) ∧ Q v H2
def tDIn (ty td : TE) : TE := fun σ H Q => ty σ H fun y H1 => td σ H1 fun x H2 => ∃ a o, x = .ref a ∧ DGet H2 a y o ∧ Q (.bl o.isSome) H2
def tDNotIn (ty td : TE) : TE := fun σ H Q => ty σ H fun y H1 => td σ H1 fun x H2 => ∃ a o, x = .ref a ∧ DGet H2 a y o ∧ Q (.bl (!o.isSome)) H2
def sDPut (td ty tv : TE) : TS := fun D σ H => tv σ H fun v H1 => td σ H1 fun x H2 => ty σ H2 fun y H3 => ∃ a H4, x = .ref a ∧ DPut H3 a y v H4 ∧ D.nx σ H4
section
variable {X : Cx} {o i e value : Expr} {pos pos' tpos : Pos} {td ty tv : TE}
theorem pe_dget (hu : X.A.units + 1 < cLine) (ho : PE X o td) (hi : PE X i ty) (hs : NoSl i) : PE X (.Subscript o i pos) (tDGet td ty) := by
  intro pins s σ H Q I h
  refine subD_of PySem.F.slot_dict_getitem.lookup hs (thn (ho pins s σ H _ I h) fun u s1 ⟨x, H1, I1, rx, q1⟩ => thn (hi pins s1 σ H1 _ I1 q1) fun iv s2 ⟨y, H2, I2, ry, a, v, ex, g, q2⟩ => ?_)
  subst ex
  obtain rfl : u = Value.ref a := rx
  exact ⟨dict_typeIs I2 g, d_getItem hu I2 g ry fun w' s3 I3 rw' => ⟨v, H2, I3, rw', q2⟩⟩
theorem pc_din (hu : X.A.units + 1 < cLine) (hi : PE X i ty) (ho : PE X o td) : PC X .In i o (tDIn ty td) := by
  intro pins s σ H Q I h
  refine thn (hi pins s σ H _ I h) fun iv s1 ⟨y, H1, I1, ry, q1⟩ => thn (ho pins s1 σ H1 _ I1 q1) fun u s2 ⟨x, H2, I2, rx, a, ov, ex, g, q2⟩ => ?_
  subst ex
  obtain rfl : u = Value.ref a := rx
  exact d_in hu I2 g ry fun s3 I3 => ⟨.bl ov.isSome, H2, I3, rfl, q2⟩
theorem pc_dnotin (hu : X.A.units + 1 < cLine) (hi : PE X i ty) (ho : PE X o td) : PC X .NotIn i o (tDNotIn ty td) := by
  intro pins s σ H Q I h
  refine thn (hi pins s σ H _ I h) fun iv s1 ⟨y, H1, I1, ry, q1⟩ => thn (ho pins s1 σ H1 _ I1 q1) fun u s2 ⟨x, H2, I2, rx, a, ov, ex, g, q2⟩ => ?_
  subst ex
  obtain rfl : u = Value.ref a := rx
  exact d_notIn hu I2 g ry fun s3 I3 => ⟨.bl (!ov.isSome), H2, I3, rfl, q2⟩
theorem ps_dput (hu : X.A.units + 1 < cLine) (ho : PE X o td) (hi : PE X i ty) (hv : PE X value tv) (hs : swapsWith value (some (.Subscript o i pos')) pos.line X.env = pure false) :
    PS X (.Assign [.Subscript o i pos'] value pos) (sDPut td ty tv) := by
  intro pins s σ H D I h
  refine wpAny_Assign_Subscript (thn (hv pins s σ H _ I h) fun r s1 ⟨v, H1, I1, rv, q1⟩ => thn (ho pins s1 σ H1 _ I1 q1) fun u s2 ⟨x, H2, I2, rx, q2⟩ => thn (hi pins s2 σ H2 _ I2 q2) fun iv s3 ⟨y, H3, I3, ry, a, H4, ex, g, q3⟩ => ?_) hs
  subst ex
  obtain rfl : u = Value.ref a := rx
  exact d_setItem hu I3 g ry rv fun s4 I4 => ⟨σ, H4, I4, q3⟩
end


theorem dk_empty {P : Program} {w : World} {H : Hp} (h : Heap) (hb : sysModules < h.objs.size) : ObjOk P w H (h.push { cls := .type "dict", data := .dict #[] }) h.objs.size (.dK []) :=
  ⟨Nat.zero_le _, beq_eq_false_iff_ne.mpr (Ne.symm (Nat.ne_of_lt hb)), [], .nil, Heap.DictOf.new h⟩
def tDNewK : TE := fun _ H Q => ∀ p, H p = none → Q (.ref p) (upd H p (.dK []))
section
variable {X : Cx} {pos : Pos}
theorem pe_dnewK : PE X (.Dict [] [] pos) tDNewK := fun pins s σ H Q I h =>
  wpAny_Dict_empty ⟨.ref s.heap.objs.size, _, I.laid (a := s.heap.objs.size) (o := .dK []) (t' := s.toks) (fun _ _ q => Heap.get?_push_of_some _ q) (Nat.le_refl _) (dk_empty s.heap I.big), rfl, h _ (I.hok.fresh (Nat.le_refl _))⟩
end

abbrev VV : List (V × V) → List (Value × Value) → Prop := Paired fun p q => RelV p.1 q.1 ∧ RelV p.2 q.2
section
variable {X : Cx} {pins : List (Addr × Obj)} {σ : St} {H : Hp} {s : Shared} {a : Addr} {y d : V} {u r : Value} {o : Option V} {A : Around} {E : Value → Shared → Prop}
end

section
variable {X : Cx} {o e f : Expr} {apos cpos : Pos} {td ty tx : TE}
end

section
variable {X : Cx} {pins : List (Addr × Obj)} {σ : St} {H : Hp} {s : Shared} {a : Addr} {kvs : List (Key × V)} {A : Around} {E : Value → Shared → Prop}
end


section
variable {X : Cx} {pins : List (Addr × Obj)} {σ : St} {H : Hp} {s : Shared} {a : Addr} {y : V} {u : Value} {A : Around} {E : Value → Shared → Prop}
end
end L2

namespace L2
open PySem PySem.Spec PyProof.Rows
section
variable {X : Cx}
theorem call_lenD : CallR X (.builtin "len") (fun xs H Q => ∃ a kvs, xs = [V.ref a] ∧ H a = some (.dK kvs) ∧ Q (.int kvs.length) H) := by
  intro pins s σ H xs us Q I r h
  obtain ⟨a, kvs, rfl, ha, q⟩ := h
  obtain ⟨u, rfl, ru⟩ := vals1 r
  cases ru
  exact d_len I (.inl ha) fun t s' I' => ⟨.int kvs.length, H, I', ⟨t, rfl⟩, q⟩
end
section
variable {κ : Type} [DecidableEq κ]
end
end L2

set_option Elab.async false
set_option linter.all false
set_option maxRecDepth 100000
set_option maxHeartbeats 2000000
namespace Mq
end Mq
namespace L2
open PySem PySem.Spec PyProof.Rows
theorem NewR.same {CK : Kd → Addr} {H H1 : Hp} {Q : VK} {k : Kd} {s g z : V} (h : NewR CK H Q k s g z) (e : Same H H1) : NewR CK H1 Q k s g z := fun x H' s' n r => h x H' (e.trans s') (e.free n) r
def spAtL (K : PySem.W.Frag) (CK : Kd → Addr) : Sp := fun vs H Q _ => ∃ (x l : Addr) (k : Kd) (i j : Int) (z v w : V) (xs : List V), vs = [.ref x, .ref l] ∧ Rw CK H x k (.int i) (.int j) z ∧ SqL K H l xs ∧ atI xs i = some v ∧ atI xs j = some w ∧ NewR CK H Q k v w z
theorem Fq.mod {K : PySem.W.Frag} {a : Addr} {d : Option Addr} {n : Nat} {sl : Array (Option Value)} {i j : Int} {t u : Tok} (l : K.lookup a = some ⟨.type "tuple", d, .seq #[.int i t, .int j u] n, sl⟩) (H : Hp) : Fq K H a (i, j) :=
  .inr ⟨_, _, _, l, rfl, rfl, (by show 2 ≤ sizeLine; decide), .cons ⟨_, rfl⟩ (.cons ⟨_, rfl⟩ .nil)⟩
end L2

set_option Elab.async false
set_option linter.all false
set_option maxRecDepth 100000
set_option maxHeartbeats 2000000
namespace L2
open PySem PySem.Spec PyProof.Rows
abbrev RD := Kd × Int × Int × Mq.Q2
inductive Rts (K : PySem.W.Frag) (H : Hp) : List V → List RD → Prop where
  | nil : Rts K H [] []
  | cons {t z : Addr} {k : Kd} {i j : Int} {p : Mq.Q2} {xs : List V} {ds : List RD} (h : SqT K H t [.str k.wd, .int i, .int j, .ref z]) (f : Fq K H z p) (q : Rts K H xs ds) : Rts K H (.ref t :: xs) ((k, i, j, p) :: ds)
section
variable {K : PySem.W.Frag} {H H' : Hp}
theorem Rts.same (e : Same H H') : ∀ {xs : List V} {ds : List RD}, Rts K H xs ds → Rts K H' xs ds
  | _, _, .nil => .nil
  | _, _, .cons h f q => .cons (e.seqT h) (e.fq f) (Rts.same e q)
theorem Rts.length : ∀ {xs : List V} {ds : List RD}, Rts K H xs ds → xs.length = ds.length
  | _, _, .nil => rfl
  | _, _, .cons _ _ q => by simp [Rts.length q]
theorem Rts.app : ∀ {xs ys : List V} {ds es : List RD}, Rts K H xs ds → Rts K H ys es → Rts K H (xs ++ ys) (ds ++ es)
  | _, _, _, _, .nil, r => r
  | _, _, _, _, .cons h f q, r => .cons h f (Rts.app q r)
theorem Rts.at : ∀ {xs : List V} {ds : List RD} {q : Nat} {d : RD}, Rts K H xs ds → ds[q]? = some d → ∃ t z, xs[q]? = some (.ref t) ∧ SqT K H t [.str d.1.wd, .int d.2.1, .int d.2.2.1, .ref z] ∧ Fq K H z d.2.2.2
  | _, _, _, _, .nil, h => by simp at h
  | _, _, 0, _, .cons h f _, e => by simp at e; subst e; exact ⟨_, _, rfl, h, f⟩
  | _, _, i + 1, _, .cons _ _ q, e => by simpa using Rts.at q (by simpa using e)
theorem Rts.upd {l : Addr} {ys : List V} {o : HO} (hl : H l = some (.lst ys)) : ∀ {xs : List V} {ds : List RD}, Rts K H xs ds → Rts K (L2.upd H l o) xs ds
  | _, _, .nil => .nil
  | _, _, .cons h f q => .cons (h.upd hl) (f.upd hl) (Rts.upd hl q)
end
def SameX (l : Addr) (H H' : Hp) : Prop := ∀ b o, H b = some o → b ≠ l → H' b = some o
theorem Same.x {l : Addr} {H H' : Hp} (s : Same H H') : SameX l H H' := fun b o h _ => s b o h
theorem SameX.write {l : Addr} {H H1 : Hp} {o : HO} (a : SameX l H H1) : SameX l H (upd H1 l o) := fun c u h n => by rw [upd_ne n]; exact a c u h n
section
variable {K : PySem.W.Frag} {H H' : Hp} {l : Addr}
theorem SameX.seqT {a : Addr} {xs ys : List V} (hl : H l = some (.lst ys)) (e : SameX l H H') (h : SqT K H a xs) : SqT K H' a xs := by
  rcases h with (h | ⟨u, h⟩) | h
  · exact .inl (.inl (e _ _ h (ne_of h hl (fun z => by cases z))))
  · exact .inl (.inr ⟨u, e _ _ h (ne_of h hl (fun z => by cases z))⟩)
  · exact .inr h
theorem SameX.rts {ys : List V} (hl : H l = some (.lst ys)) (e : SameX l H H') : ∀ {xs : List V} {ds : List RD}, Rts K H xs ds → Rts K H' xs ds
  | _, _, .nil => .nil
  | _, _, .cons h f q => .cons (e.seqT hl h) (e.seqT hl f) (SameX.rts hl e q)
end
theorem fpk : ¬ (("point_count" : Str) = "kept") := by decide +kernel
def nflds (m : Int) (l : Addr) : List (Str × V) := putF "kept" (.ref l) (putF "point_count" (.int m) [])
theorem nflds_pc (m : Int) (l : Addr) : (nflds m l).lookup ("point_count" : Str) = some (.int m) := by
  unfold nflds
  rw [lookup_putF, if_neg fpk, lookup_putF, if_pos rfl]
theorem nflds_kept (m : Int) (l : Addr) : (nflds m l).lookup ("kept" : Str) = some (.ref l) := by
  unfold nflds
  rw [lookup_putF, if_pos rfl]
theorem nflds_no (m : Int) (l : Addr) {x : Str} (h1 : ¬ x = "point_count") (h2 : ¬ x = "kept") : (nflds m l).lookup x = none := by
  unfold nflds
  rw [lookup_putF, if_neg h2, lookup_putF, if_neg h1]
  rfl
def RdOk (m : Int) (d : RD) : Prop := 0 ≤ d.2.1 ∧ d.2.1 < m ∧ 0 ≤ d.2.2.1 ∧ d.2.2.1 < m ∧ Mq.Low d.2.2.2 ∧ (d.1 = .pc → 0 < d.2.2.2.1) ∧ Mq.Bd 100 d.2.2.2
structure NetAt (CN : Addr) (K : PySem.W.Frag) (H : Hp) (n l : Addr) (m : Int) (ds : List RD) : Prop where
  ob : ∃ dx, H n = some (.ins CN dx (nflds m l))
  ls : ∃ ts, H l = some (.lst ts) ∧ Rts K H ts ds
theorem NetAt.same {CN : Addr} {K : PySem.W.Frag} {H H' : Hp} {n l : Addr} {m : Int} {ds : List RD} (e : Same H H') (h : NetAt CN K H n l m ds) : NetAt CN K H' n l m ds :=
  let ⟨⟨dx, a⟩, ts, b, c⟩ := h; ⟨⟨dx, e _ _ a⟩, ts, e _ _ b, c.same e⟩
structure NT (K : PySem.W.Frag) (mg : Str → Option Value) (CN : Addr) : Prop where
  cl : Cls K CN
  nP : NoAttr K CN "point_count"
  nK : NoAttr K CN "kept"
  t1 : PySem.W.findIn K (.ref CN) "__class__" = some (some (.builtin "object.__class__"))
  t2 : PySem.W.specialIn K (.builtin "object.__class__") "__get__" = some (some (.builtin "getset_descriptor.__get__"))
  t3 : PySem.W.takesIn K (.builtin "object.__class__") = some true
  t4 : PySem.W.mroIn K CN (.type "object") = some true
  mN : mg "Net" = some (.ref CN)
def spRowOfG (K : PySem.W.Frag) (CK : Kd → Addr) : Sp := fun vs H Q _ => ∃ (t : Addr) (v s g z : V), vs = [.ref t] ∧ SqT K H t [v, s, g, z] ∧ ∃ k : Kd, v = .str k.wd ∧ NewR CK H Q k s g z
def spNB : Sp := fun vs H Q _ => ∃ i b : Int, vs = [.int i, .int b] ∧ 0 ≤ i ∧ i < b ∧ Q (.bl true) H
def spRS (K : PySem.W.Frag) : Sp := fun vs H Q _ => ∃ (k : Kd) (z : Addr) (p : Mq.Q2), vs = [.str k.wd, .ref z] ∧ Fq K H z p ∧ Mq.Low p ∧ (k = .pc → 0 < p.1) ∧ Mq.Bd 100 p ∧ Q .non H
def spMany (CN : Addr) (K : PySem.W.Frag) : Sp := fun vs H Q _ => ∃ (n l : Addr) (m : Int) (ds : List RD), vs = [.ref n] ∧ NetAt CN K H n l m ds ∧ Q (.int m) H
def spCount (CN : Addr) (K : PySem.W.Frag) : Sp := fun vs H Q _ => ∃ (n l : Addr) (m : Int) (ds : List RD), vs = [.ref n] ∧ NetAt CN K H n l m ds ∧ Q (.int ds.length) H
def spAdd (CN : Addr) (K : PySem.W.Frag) (CK : Kd → Addr) : Sp := fun vs H Q _ => ∃ (n l x z : Addr) (m : Int) (ds : List RD) (k : Kd) (i j : Int) (p : Mq.Q2), vs = [.ref n, .ref x] ∧ NetAt CN K H n l m ds ∧ Rw CK H x k (.int i) (.int j) (.ref z) ∧ Fq K H z p ∧ RdOk m (k, i, j, p) ∧ ds.length < 40 ∧
  ∀ H', SameX l H H' → NetAt CN K H' n l m (ds ++ [(k, i, j, p)]) → Q (.int ds.length) H'
end L2

set_option Elab.async false
set_option linter.all false
set_option maxRecDepth 100000
set_option maxHeartbeats 2000000
namespace L2
open PySem PySem.Spec PyProof.Rows
section
variable {K : PySem.W.Frag} {H H' : Hp} {l r : Addr} {as bs : List V}
end
section
variable {CN : Addr} {K : PySem.W.Frag} {H H' : Hp} {N R : Addr} {rs : List NR}
end
theorem cut1 {a1 u : TS} {D : Ends} {σ : St} {H : Hp} (P : St → Hp → Prop) (h1 : ∀ X : St → Hp → Prop, (∀ σ' H', P σ' H' → X σ' H') → (a1) { D with nx := X } σ H) (h2 : ∀ σ' H', P σ' H' → u D σ' H') : (tSeq a1 (u)) D σ H := h1 _ h2
theorem cut2 {a1 a2 u : TS} {D : Ends} {σ : St} {H : Hp} (P : St → Hp → Prop) (h1 : ∀ X : St → Hp → Prop, (∀ σ' H', P σ' H' → X σ' H') → (tSeq a1 (a2)) { D with nx := X } σ H) (h2 : ∀ σ' H', P σ' H' → u D σ' H') : (tSeq a1 (tSeq a2 (u))) D σ H := h1 _ h2
theorem cut3 {a1 a2 a3 u : TS} {D : Ends} {σ : St} {H : Hp} (P : St → Hp → Prop) (h1 : ∀ X : St → Hp → Prop, (∀ σ' H', P σ' H' → X σ' H') → (tSeq a1 (tSeq a2 (a3))) { D with nx := X } σ H) (h2 : ∀ σ' H', P σ' H' → u D σ' H') : (tSeq a1 (tSeq a2 (tSeq a3 (u)))) D σ H := h1 _ h2
theorem cut4 {a1 a2 a3 a4 u : TS} {D : Ends} {σ : St} {H : Hp} (P : St → Hp → Prop) (h1 : ∀ X : St → Hp → Prop, (∀ σ' H', P σ' H' → X σ' H') → (tSeq a1 (tSeq a2 (tSeq a3 (a4)))) { D with nx := X } σ H) (h2 : ∀ σ' H', P σ' H' → u D σ' H') : (tSeq a1 (tSeq a2 (tSeq a3 (tSeq a4 (u))))) D σ H := h1 _ h2
theorem cut5 {a1 a2 a3 a4 a5 u : TS} {D : Ends} {σ : St} {H : Hp} (P : St → Hp → Prop) (h1 : ∀ X : St → Hp → Prop, (∀ σ' H', P σ' H' → X σ' H') → (tSeq a1 (tSeq a2 (tSeq a3 (tSeq a4 (a5))))) { D with nx := X } σ H) (h2 : ∀ σ' H', P σ' H' → u D σ' H') : (tSeq a1 (tSeq a2 (tSeq a3 (tSeq a4 (tSeq a5 (u)))))) D σ H := h1 _ h2
end L2

set_option linter.all false
namespace Mq
end Mq

set_option linter.all false
namespace Mq
abbrev z0 : Q2 := (0, 1)
abbrev Row := Nat × Nat × Q2
end Mq

set_option linter.all false
namespace Mq
end Mq

set_option Elab.async false
set_option linter.all false
set_option maxRecDepth 100000
set_option maxHeartbeats 2000000
namespace L2
open PySem PySem.Spec PyProof.Rows
section
variable {M : Model} {A : Around} {E : Value → Shared → Prop} {s : Shared}
end
abbrev compEnv1 (scope : Scope) (cl : List (Str × Addr)) (x0 : Str) (C : Addr) (env : Env) : Env := { compEnvC scope cl C env with cells := (x0, C + 1) :: cl }
abbrev compCx1 (X : Cx) (scope : Scope) (cl : List (Str × Addr)) (x0 : Str) (Nc : List Str) (C : Addr) (s3 : Shared) (H3 : Hp) (fp : List Addr) (pins : List (Addr × Obj)) : Cx :=
  { X with N := Nc, s₀ := s3, H₀ := H3, env := compEnv1 scope cl x0 C X.env, outer := X.stack, ex := fp, fn := fun x => x == x0, pn := X.pn ++ pins, xe := fun _ _ => False }
section
variable {X : Cx} {scope : Scope} {cl : List (Str × Addr)} {x0 : Str} {Nc : List Str} {nl : Nat} {fr : List Nat} {pins : List (Addr × Obj)} {σ : St} {H3 : Hp} {s3 : Shared} {fp : List Addr} {h4 : Heap} {tk : Nat}
end
section
variable {X : Cx} {scope : Scope} {cl : List (Str × Addr)} {x0 : Str} {Nc : List Str} {nl : Nat} {fr : List Nat} {elt tg iter : Expr} {ifs : List Expr} {pos : Pos} {wi : TI} {g : TG} {tt : TT} {te : TE}
end
end L2

set_option Elab.async false
set_option linter.all false
set_option maxRecDepth 100000
set_option maxHeartbeats 2000000
namespace L2
open PySem PySem.Spec PyProof.Rows
section
variable {X : Cx}
end
end L2
namespace L2
open PySem PySem.Spec PyProof.Rows
end L2
namespace L2
open PySem PySem.Spec PyProof.Rows
end L2
namespace L2
open PySem PySem.Spec PyProof.Rows
end L2

set_option Elab.async false
set_option linter.all false
set_option maxRecDepth 100000
set_option maxHeartbeats 2000000
namespace L2
open PySem PySem.Spec PyProof.Rows
section
variable {X : Cx}
end
end L2

set_option Elab.async false
set_option linter.all false
namespace L2
open PySem PySem.Spec PyProof.Rows
end L2

set_option Elab.async false
set_option linter.all false
set_option maxRecDepth 100000
set_option maxHeartbeats 4000000
namespace Shp
open PySem L2
end Shp

set_option Elab.async false
set_option linter.all false
set_option maxRecDepth 100000
set_option maxHeartbeats 4000000
namespace Shp
open PySem L2
end Shp

set_option linter.all false
namespace Mq
abbrev Mat := Nat → Nat → Rat
end Mq

set_option linter.all false
namespace Mq
section
variable {m : Nat} {A E : Mat} {r col : Nat} {d : Rat} {c : Nat → Nat}
end
end Mq

set_option linter.all false
namespace Mq
end Mq

set_option Elab.async false
set_option linter.all false
set_option maxRecDepth 100000
set_option maxHeartbeats 4000000
namespace Shp
open PySem L2
end Shp
namespace L2
open PySem
end L2

set_option linter.all false
set_option maxHeartbeats 1000000
namespace Mq
end Mq

set_option Elab.async false
set_option linter.all false
set_option maxRecDepth 100000
set_option maxHeartbeats 2000000
namespace PySem
open Sem (wp)
section
variable {prog : Program} {w : World} {A : Around} {E : Value → Shared → Prop} {h : Heap} {g : Array GenState} {d : Drawn} {t : Nat} {os : OsState}
variable {nm q : Str} {C N f : Addr} {bs bm bmB : List Value} {hdct : Bool} {sn : List Str} {sub : List Value} {ab : Bool} {col : Option Bool} {dd : Option Addr} {k0 k1 k2 k3 k5 : Option Value} {B Bn newId nid initId inN : String} {bmN : List Value}
abbrev newExcHeap (h : Heap) (C : Addr) (rest : List Value) : Heap := (h.push { cls := .type "tuple", data := .seq rest.toArray }).push { cls := .ref C, data := .fields #[.ref h.objs.size, .none, .none, .none, .bool false, .none] }
end
section
variable {M : Model} {A : Around} {E : Value → Shared → Prop} {env : Env}
variable {nm q : Str} {C N : Addr} {bs bm : List Value} {hdct : Bool} {sn : List Str} {sub : List Value} {ab : Bool} {col : Option Bool} {dd : Option Addr} {k0 k1 k2 k3 k5 : Option Value} {newId : String}
end
section
variable {prog : Program} {w : World} {A : Around} {E : Value → Shared → Prop} {s : Shared} {env : Env}
variable {nm q : Str} {C N f : Addr} {bs bm bmB : List Value} {hdct : Bool} {sn : List Str} {sub : List Value} {ab : Bool} {col : Option Bool} {dd : Option Addr} {k0 k1 k2 k3 k5 : Option Value} {B Bn newId nid initId inN : String} {bmN : List Value}
end
end PySem

set_option Elab.async false
set_option linter.all false
set_option maxRecDepth 100000
set_option maxHeartbeats 2000000
namespace L2
open PySem PySem.Spec PyProof.Rows
section
variable {X : Cx} {pins : List (Addr × Obj)} {σ : List (Option V)} {H : Hp} {s : Shared}
end
section
variable {X : Cx} {pins : List (Addr × Obj)} {σ : List (Option V)} {H : Hp} {s : Shared} {k : Nat} {f C C0 : Addr} {fd : FuncData} {ps : List Str} {sp : Sp}
end
end L2

set_option Elab.async false
set_option linter.all false
set_option maxRecDepth 100000
set_option maxHeartbeats 2000000
namespace L2
open PySem PySem.Spec PyProof.Rows
section
variable {X : Cx} {C C0 f : Addr}
end
section
variable {prog : Program} {w : World} {A : Around} {E : Value → Shared → Prop} {s : Shared} {K : PySem.W.Frag} {x C C0 f : Addr} {name : Str} {v : Value} {vs : Array Value}
end
section
variable {X : Cx} {o value : Expr} {nm : Str} {pos pos' : Pos} {ta tv : TE}
end
section
variable {X : Cx} {o : Expr} {nm : Str} {pos : Pos} {ta : TE}
end
end L2

set_option Elab.async false
set_option linter.all false
set_option maxRecDepth 100000
set_option maxHeartbeats 4000000
namespace Shp
open PySem L2
end Shp
namespace L2
open PySem
end L2

set_option linter.all false
set_option maxHeartbeats 2000000
namespace Mq
end Mq

set_option Elab.async false
set_option linter.all false
set_option maxRecDepth 100000
set_option maxHeartbeats 4000000
namespace L2
open PySem
end L2
namespace Mq
end Mq
namespace Shp
open PySem L2
end Shp

set_option linter.all false
set_option maxHeartbeats 1000000
namespace Mq
end Mq

set_option Elab.async false
set_option linter.all false
set_option maxRecDepth 100000
set_option maxHeartbeats 4000000
namespace Shp
open PySem L2
section
variable {X : List (List Mq.Q2)} {qs : List Mq.Q2}
end
end Shp

set_option linter.all false
set_option maxHeartbeats 1000000
namespace Mq
section
variable {m : Nat} {A E : Mat} {r col : Nat} {d : Rat} {c : Nat → Nat} {n : Nat}
end
end Mq

set_option Elab.async false
set_option linter.all false
set_option maxRecDepth 100000
set_option maxHeartbeats 4000000
namespace Shp
open PySem L2
abbrev bq (n m : Nat) : Nat := (n + 4) * (m + 1) + 7
end Shp

set_option Elab.async false
set_option linter.all false
set_option maxRecDepth 100000
set_option maxHeartbeats 4000000
namespace L2
open PySem PyProof.Rows
theorem FnOk.calm {P : Program} {w : World} {K : PySem.W.Frag} {mg : Str → Option Value} {base : Heap} {k : Nat} {f : Addr} {fd : FuncData} {ps : List Str} {sp : Sp} (F : FnOk P w K mg base (CX1 P w) k f fd ps sp) :
    FnOk P w K mg base CX0 k f fd ps (fun vs H Q _ => sp vs H Q (fun _ _ _ => False)) :=
  ⟨fun vs H Q E q => F.len vs H Q _ q, fun A outer s H args us vs Q E hr he hb hv hs => codeAny_mono (F.run A outer s H args us vs Q _ hr he hb hv hs) fun r s' h => by
    cases r with
    | ok fl => cases fl <;> exact h
    | error e =>
      obtain ⟨a, C, d, H', _, _, _, _, _, _, z⟩ := h
      exact z.elim⟩
end L2

set_option Elab.async false
set_option linter.all false
set_option maxRecDepth 100000
set_option maxHeartbeats 2000000
namespace L2
open PySem PySem.Spec PyProof.Rows
section
variable {X : Cx} {k : Nat} {f C : Addr} {fd : FuncData} {ps : List Str} {sp : Sp} {dvs : List V} {ds : List Value} {x : Str} {p pos : Pos} {e : Expr} {es : List Expr} {t : TA}
end
theorem FnOk.weak {P : Program} {w : World} {K : PySem.W.Frag} {mg : Str → Option Value} {base : Heap} {CX : CXT} {k : Nat} {f : Addr} {fd : FuncData} {ps : List Str} {sp sp' : Sp} (F : FnOk P w K mg base CX k f fd ps sp) (h : ∀ vs H Q E, sp' vs H Q E → sp vs H Q E) : FnOk P w K mg base CX k f fd ps sp' :=
  ⟨fun vs H Q E q => F.len vs H Q E (h _ _ _ _ q), fun A outer s H args us vs Q E hr he hb hv hs => F.run A outer s H args us vs Q E hr he hb hv (h _ _ _ _ hs)⟩
abbrev PtOk (m i j : Int) : Prop := 0 ≤ i ∧ i < m ∧ 0 ≤ j ∧ j < m
def BadM (K : PySem.W.Frag) (H : Hp) (v : V) : Prop := (∃ m : Int, v = .int m ∧ (m < 1 ∨ 20 < m)) ∨ ∃ t, TyOf K H v t ∧ NotWhole t
def spNInitX (CN : Addr) (K : PySem.W.Frag) (CP : Addr) : Sp := fun vs H Q E => ∃ (n dx : Addr) (v : V), vs = [.ref n, v] ∧ H n = some (.ins CN dx []) ∧ ((∃ m : Int, v = .int m ∧ 1 ≤ m ∧ m ≤ 20 ∧ ∀ l H', H l = none → (∀ b o, H b = some o → b ≠ n → H' b = some o) → H' n = some (.ins CN dx (nflds m l)) → H' l = some (.lst []) → Q .non H') ∨ (BadM K H v ∧ E (.ref CP) none H))
end L2

set_option Elab.async false
set_option linter.all false
set_option maxRecDepth 100000
set_option maxHeartbeats 2000000
namespace L2
open PySem PySem.Spec PyProof.Rows
inductive Zv (K : PySem.W.Frag) (H : Hp) : V → Option Mq.Q2 → Prop where
  | fr {u : Addr} {p : Mq.Q2} (h : Fq K H u p) (l : Mq.Low p) : Zv K H (.ref u) (some p)
  | ty {v : V} {t : Value} (h : TyQ K H v t) (n : PySem.W.kitOne K t (.type "tuple") = some false) : Zv K H v none
  | len {u : Addr} {x y z : V} (h : SqT K H u [x, y, z]) : Zv K H (.ref u) none
  | n0 {u : Addr} {x y : V} {t : Value} (h : SqT K H u [x, y]) (ty : TyOf K H x t) (n : NotWhole t) : Zv K H (.ref u) none
  | n1 {u : Addr} {i : Int} {y : V} {t : Value} (h : SqT K H u [.int i, y]) (ty : TyOf K H y t) (n : NotWhole t) : Zv K H (.ref u) none
  | fb {u : Addr} {p : Mq.Q2} (h : Fq K H u p) (c : p.2 < 1 ∨ (1 ≤ p.2 ∧ Mq.gc p.1 p.2 ≠ 1)) : Zv K H (.ref u) none
def okz (k : Kd) (o : Option Mq.Q2) : Bool := match o with
  | none => false
  | some p => match k with
    | .pc => decide (0 < p.1)
    | _ => true
abbrev Bz (o : Option Mq.Q2) : Prop := ∀ p, o = some p → Mq.Bd 100 p
def spIsFV (K : PySem.W.Frag) : Sp := fun vs H Q _ => ∃ (v : V) (o : Option Mq.Q2), vs = [v] ∧ Zv K H v o ∧ Q (.bl o.isSome) H
def spPSV (K : PySem.W.Frag) : Sp := fun vs H Q _ => ∃ (v : V) (o : Option Mq.Q2), vs = [v] ∧ Zv K H v o ∧ Bz o ∧ Q (.bl (okz .pc o)) H
def spRSV (K : PySem.W.Frag) (CZ : Addr) : Sp := fun vs H Q E => ∃ (k : Kd) (v : V) (o : Option Mq.Q2), vs = [.str k.wd, v] ∧ Zv K H v o ∧ Bz o ∧ (okz k o = true → Q .non H) ∧ (okz k o = false → E (.ref CZ) none H)
section
variable {CK : Kd → Addr} {K : PySem.W.Frag} {H H' : Hp}
end
end L2

set_option Elab.async false
set_option linter.all false
namespace L2
open PySem PySem.Spec PyProof.Rows
section
variable {X : Cx}
end
end L2

set_option Elab.async false
set_option linter.all false
set_option maxRecDepth 100000
namespace L2
open PySem
def pfl (l : Addr) (e : Int) (t p : Addr) : List (Str × V) := [("labels", .ref l), ("end_count", .int e), ("entries", .ref t), ("put_names", .ref p)]
def yfl (g d : Addr) (o q : V) : List (Str × V) := [("ground", .ref g), ("parts", .ref d), ("opened", o), ("opened_plan", q)]
theorem pfl_make (l : Addr) (e : Int) (t p : Addr) : putF "put_names" (.ref p) (putF "entries" (.ref t) (putF "end_count" (.int e) (putF "labels" (.ref l) []))) = pfl l e t p := by with_unfolding_all rfl
theorem pfl_en (l : Addr) (e : Int) (t p t' : Addr) : putF "entries" (.ref t') (pfl l e t p) = pfl l e t' p := by with_unfolding_all rfl
theorem pfl_pn (l : Addr) (e : Int) (t p p' : Addr) : putF "put_names" (.ref p') (pfl l e t p) = pfl l e t p' := by with_unfolding_all rfl
theorem pfl_l (l : Addr) (e : Int) (t p : Addr) : (pfl l e t p).lookup ("labels" : Str) = some (.ref l) := by with_unfolding_all rfl
theorem pfl_e (l : Addr) (e : Int) (t p : Addr) : (pfl l e t p).lookup ("end_count" : Str) = some (.int e) := by with_unfolding_all rfl
theorem pfl_t (l : Addr) (e : Int) (t p : Addr) : (pfl l e t p).lookup ("entries" : Str) = some (.ref t) := by with_unfolding_all rfl
theorem pfl_p (l : Addr) (e : Int) (t p : Addr) : (pfl l e t p).lookup ("put_names" : Str) = some (.ref p) := by with_unfolding_all rfl
theorem yfl_make (g d : Addr) (o q : V) : putF "opened_plan" q (putF "opened" o (putF "parts" (.ref d) (putF "ground" (.ref g) []))) = yfl g d o q := by with_unfolding_all rfl
theorem yfl_gr (g d g' : Addr) (o q : V) : putF "ground" (.ref g') (yfl g d o q) = yfl g' d o q := by with_unfolding_all rfl
theorem yfl_g (g d : Addr) (o q : V) : (yfl g d o q).lookup ("ground" : Str) = some (.ref g) := by with_unfolding_all rfl
theorem yfl_d (g d : Addr) (o q : V) : (yfl g d o q).lookup ("parts" : Str) = some (.ref d) := by with_unfolding_all rfl
theorem yfl_o (g d : Addr) (o q : V) : (yfl g d o q).lookup ("opened" : Str) = some o := by with_unfolding_all rfl
theorem yfl_q (g d : Addr) (o q : V) : (yfl g d o q).lookup ("opened_plan" : Str) = some q := by with_unfolding_all rfl
structure PlT (K : PySem.W.Frag) (mg : Str → Option Value) (CP : Addr) : Prop where
  cl : Cls K CP
  nl : NoAttr K CP "labels"
  ne : NoAttr K CP "end_count"
  nt : NoAttr K CP "entries"
  np : NoAttr K CP "put_names"
  mP : mg "Plan" = some (.ref CP)
structure YaT (K : PySem.W.Frag) (mg : Str → Option Value) (CY : Addr) : Prop where
  cl : Cls K CY
  ng : NoAttr K CY "ground"
  nd : NoAttr K CY "parts"
  no : NoAttr K CY "opened"
  nq : NoAttr K CY "opened_plan"
  mY : mg "Yard" = some (.ref CY)
structure PlAt (CP : Addr) (H : Hp) (g l : Addr) (e : Int) (t p : Addr) (ls : List Str) (es ps : List V) : Prop where
  ob : ∃ dg, H g = some (.ins CP dg (pfl l e t p))
  hl : H l = some (.lst (ls.map V.str))
  ht : H t = some (.lst es)
  hp : H p = some (.lst ps)
  lt : l ≠ t
  lp : l ≠ p
  tp : t ≠ p
theorem PlAt.same {CP : Addr} {H H' : Hp} {g l t p : Addr} {e : Int} {ls : List Str} {es ps : List V} (s : Same H H') (h : PlAt CP H g l e t p ls es ps) : PlAt CP H' g l e t p ls es ps :=
  let ⟨⟨dg, o⟩, a, b, c, x, y, z⟩ := h; ⟨⟨dg, s _ _ o⟩, s _ _ a, s _ _ b, s _ _ c, x, y, z⟩
end L2

set_option Elab.async false
set_option linter.all false
set_option maxRecDepth 100000
set_option maxHeartbeats 4000000
namespace K85
open PySem L2 Tx
def top (i : Nat) : Stmt := PySem.Challenge.pw_ohmyard_k85_counted_as_built.main.body.getD i (.Pass ⟨0, 0, 0, 0⟩)
section
variable {P : Program} {w : World} {K : PySem.W.Frag} {mg : Str → Option Value} {base : Heap} {f g1 g2 g3 g4 g5 g6 g7 g8 : Addr} {fd gd1 gd2 gd3 gd4 gd5 gd6 gd7 gd8 : FuncData} {CX : CXT}
abbrev sWhole : Stmt := top 12
theorem scWhole : FnScope ["thing"] ["thing"] (defScope sWhole) := ⟨rfl, rfl, rfl, by decide +kernel, rfl, by decide +kernel, by decide +kernel⟩
theorem ok_whole {dV : Value} (F : FunD K "is_whole" "is_whole" sWhole dV f fd) (b : Bl mg) : FnOk P w K mg base CX 1 f fd ["thing"] (spWhole K) := by
  refine F.ok scWhole (fun vs H Q E h => ?_) (fun cdv A outer s H vs Q E hr h => ?_)
  · obtain ⟨x, rfl, _⟩ := h
    rfl
  obtain ⟨x, rfl, h⟩ := h
  refine ⟨_, pss_one (ps_ret (pe_and (pe_isiQ (i := 0) rfl (Or.inl rfl) b.isi b.int rfl rfl PyProof.Rows.boot_int) (pe_one (pe_not (pe_isiQ (i := 0) rfl (Or.inl rfl) b.isi b.bool rfl rfl PyProof.Rows.boot_bool))))), ?_⟩
  rcases h with ⟨i, rfl, q⟩ | ⟨t, ty, nw, q⟩
  · exact ⟨_, _, _, rfl, .of (.int i), rfl, _, rfl, iteT ⟨_, _, false, rfl, .of (.int i), (by with_unfolding_all rfl), _, rfl, q⟩⟩
  · rcases nw with rfl | rfl | rfl | rfl | rfl
    · exact ⟨_, _, true, rfl, .of ty, (by with_unfolding_all rfl), _, rfl, iteT ⟨_, _, _, rfl, .of ty, rfl, _, rfl, q⟩⟩
    all_goals exact ⟨_, _, false, rfl, .of ty, (by with_unfolding_all rfl), _, rfl, iteF q⟩
abbrev sGc : Stmt := top 14
theorem scGc : FnScope ["one", "other", "rest"] ["one", "other"] (defScope sGc) := ⟨rfl, rfl, rfl, by decide +kernel, rfl, by decide +kernel, by decide +kernel⟩
theorem ok_gc {dV : Value} (F : FunD K "greatest_common" "greatest_common" sGc dV f fd) (b : Bl mg) : FnOk P w K mg base CX 1 f fd ["one", "other"] spGc := by
  refine F.ok scGc (fun vs H Q E h => ?_) (fun cdv A outer s H vs Q E hr h => ?_)
  · obtain ⟨x, y, rfl, _⟩ := h
    rfl
  obtain ⟨x, y, rfl, q⟩ := h
  refine ⟨_, pss_cons (ps_while PassesOwn.never (pt_cmpR op_ne (pv 1) pe_int (nomark _)) (pss_cons (ps_set (i := 2) scGc.nd rfl (Or.inl rfl) (pe_op op_modN (pv 0) (pv 1)))
    (pss_cons (ps_set (i := 0) scGc.nd rfl (Or.inl rfl) (pv 1)) (pss_one (ps_set (i := 1) scGc.nd rfl (Or.inl rfl) (pv 2))))))
    (pss_one (ps_ret (pe_callB call_abs rfl b.abs PyProof.Rows.boot_abs (pa_cons (pv 0) pa_nil)))), ?_⟩
  refine while_by (fun σ H' => H' = H ∧ ∃ u v z, σ = [some (.int u), some (.int v), z] ∧ Mq.gc u v = Mq.gc x y) (fun σ _ => match σ with | [_, some (.int v), _] => v.natAbs | _ => 0) ⟨rfl, x, y, none, rfl, rfl⟩ ?_ ?_
  · rintro σ H' ⟨rfl, u, v, z, rfl, e⟩
    refine ⟨_, rfl, rfl, _, rfl, ?_⟩
    refine ite2 (fun c => ?_) (fun c => ?_)
    · have hv : v ≠ 0 := by intro q; subst q; simp at c
      refine ⟨_, rfl, _, rfl, _, _, rfl, rfl, hv, _, rfl, _, rfl, ⟨rfl, v, Int.fmod u v, _, rfl, (Mq.gc_step u v).trans e⟩, Mq.fmod_less hv⟩
    · have hv : v = 0 := by
        simp at c
        exact c
      subst hv
      refine ⟨_, rfl, _, rfl, ?_⟩
      rw [← Mq.gc_zero, e]
      exact q
  · rintro σ H Q Q' m ⟨v, h1, h2, k, h3, h4⟩
    exact ⟨v, h1, h2, k, h3, m _ _ h4⟩
abbrev sUnder : Stmt := top 16
theorem scUnder : FnScope ["one", "other"] ["one", "other"] (defScope sUnder) := ⟨rfl, rfl, rfl, by decide +kernel, rfl, by decide +kernel, by decide +kernel⟩
theorem ok_under {dV : Value} (F : FunD K "under" "under" sUnder dV f fd) : FnOk P w K mg base CX 1 f fd ["one", "other"] (spUnder K) := by
  refine F.ok scUnder (fun vs H Q E h => ?_) (fun cdv A outer s H vs Q E hr h => ?_)
  · obtain ⟨a, b, p, q, n, m, rfl, _⟩ := h
    rfl
  obtain ⟨a, b, p, q, n, m, rfl, ha, hb, bp, bq, hn, z⟩ := h
  refine ⟨_, pss_one (ps_ret (pe_cmpR op_lt (pe_op op_mulB (pe_ix ix_tup (pv 0) pe_int (fun _ _ => rfl)) (pe_ix ix_tup (pv 1) pe_int (fun _ _ => rfl))) (pe_op op_mulB (pe_ix ix_tup (pv 1) pe_int (fun _ _ => rfl)) (pe_ix ix_tup (pv 0) pe_int (fun _ _ => rfl))) (nomark _))), ?_⟩
  exact rd_ix0 rfl ha (rd_ix1 rfl hb (rd_mulB bp.a bq.b (by omega) (by omega) (rd_ix0 rfl hb (rd_ix1 rfl ha (rd_mulB bq.a bp.b (by omega) (by omega) ⟨_, _, rfl, rfl, z⟩)))))
abbrev sFrac : Stmt := top 15
theorem scFrac : FnScope ["top", "bottom", "shared"] ["top", "bottom"] (defScope sFrac) := ⟨rfl, rfl, rfl, by decide +kernel, rfl, by decide +kernel, by decide +kernel⟩
theorem ok_frac {dV : Value} {CN : Addr} (F : FunD K "fraction" "fraction" sFrac dV f fd)
    (G1 : FnOk P w K mg base CX0 1 g1 gd1 ["thing"] (spWhole K)) (b1 : Binds K gd1 ["thing"] []) (k1 : PySem.W.keepIn K (.ref g1) = true) (m1 : mg "is_whole" = some (.ref g1))
    (G2 : FnOk P w K mg base CX0 1 g2 gd2 ["one", "other"] spGc) (b2 : Binds K gd2 ["one", "other"] []) (k2 : PySem.W.keepIn K (.ref g2) = true) (m2 : mg "greatest_common" = some (.ref g2))
    (mN : mg "NoNumber" = some (.ref CN)) (xN : ExcC K CN) :
    FnOk P w K mg base (CX1 P w) 2 f fd ["top", "bottom"] (spFracX K CN) := by
  refine F.okX scFrac (fun vs H Q E h => ?_) (fun cdv A outer s H vs Q E hr h => ?_)
  · obtain ⟨x, y, rfl, _⟩ := h
    rfl
  obtain ⟨x, y, rfl, h⟩ := h
  refine ⟨_, pss_cons (ps_if (PW.pt (pw_or (pt_not (pt_val (pe_call G1 hr rfl m1 k1 b1 .nil pass0 (pa_cons (pv 0) pa_nil)))) (pw_or (pt_not (pt_val (pe_call G1 hr rfl m1 k1 b1 .nil pass0 (pa_cons (pv 1) pa_nil)))) (pw_or1 (pt_cmpR op_eq (pv 1) pe_int (nomark _)))))) (pss_one (ps_raise frm_cxOf xe_cxOf rfl rfl mN xN (pa_cons pe_str pa_nil))) pss_nil)
    (pss_cons (ps_set (i := 2) scFrac.nd rfl (Or.inl rfl) (pe_call G2 hr rfl m2 k2 b2 .nil pass0 (pa_cons (pv 0) (pa_cons (pv 1) pa_nil))))
    (pss_cons (ps_if (pt_cmpR op_lt (pv 1) pe_int (nomark _)) (pss_one (ps_set (i := 2) scFrac.nd rfl (Or.inl rfl) (pe_un un_neg (pv 2)))) pss_nil)
    (pss_one (ps_ret (pe_tup (pa_cons (pe_op op_fdivB (pv 0) (pv 2)) (pa_cons (pe_op op_fdivB (pv 1) (pv 2)) pa_nil))))))), ?_⟩
  have one : ([V.str "a fraction is made of two whole numbers, the second not 0"] : List V).length ≤ sizeLine := by show 1 ≤ sizeLine; decide
  rcases h with ⟨t, b, n, rfl, rfl, hb, hB, hn, q⟩ | ⟨h, q⟩
  · have hd := Mq.dvr_ne (t := t) hb
    have hdB : Mq.B n (Mq.dvr t b) := hB.le (Mq.dvr_le hb)
    have c0 : decide (V.int b = V.int 0) = false := decide_eq_false (fun z => hb (by cases z; rfl))
    refine ⟨_, rfl, _, rfl, .inl ⟨t, rfl, _, rfl, iteF ⟨_, rfl, _, rfl, .inl ⟨b, rfl, _, rfl, iteF ⟨_, rfl, rfl, _, rfl, ?_⟩⟩⟩⟩⟩
    rw [c0]
    refine iteF ⟨_, rfl, _, rfl, t, b, rfl, ?_⟩
    refine ⟨_, rfl, _, _, rfl, rfl, _, rfl, ?_⟩
    refine ite2 (fun c => ?_) (fun c => ?_)
    · have hlt : b < 0 := of_decide_eq_true c
      have e : Mq.dvr t b = -Mq.gc t b := by unfold Mq.dvr; rw [if_pos hlt]
      rw [e] at hd hdB
      have q' : NewF H Q (t.fdiv (-Mq.gc t b), b.fdiv (-Mq.gc t b)) := by
        have z := q
        unfold Mq.red at z
        rw [e] at z
        exact z
      refine ⟨_, rfl, _, rfl, ?_⟩
      refine ⟨_, rfl, _, rfl, ?_⟩
      refine rd_fdivB hd hdB hn ⟨_, rfl, _, rfl, rd_fdivB hd hdB hn ⟨by show 2 ≤ sizeLine; decide, fun p hp => ?_⟩⟩
      exact q' p _ (same_new hp _) upd_same
    · have hlt : ¬ b < 0 := fun z => c (decide_eq_true z)
      have e : Mq.dvr t b = Mq.gc t b := by unfold Mq.dvr; rw [if_neg hlt]
      rw [e] at hd hdB
      have q' : NewF H Q (t.fdiv (Mq.gc t b), b.fdiv (Mq.gc t b)) := by
        have z := q
        unfold Mq.red at z
        rw [e] at z
        exact z
      refine ⟨_, rfl, _, rfl, ?_⟩
      refine rd_fdivB hd hdB hn ⟨_, rfl, _, rfl, rd_fdivB hd hdB hn ⟨by show 2 ≤ sizeLine; decide, fun p hp => ?_⟩⟩
      exact q' p _ (same_new hp _) upd_same
  · rcases h with ⟨t, ty, nw⟩ | ⟨⟨t, rfl⟩, ⟨t', ty, nw⟩ | rfl⟩
    · exact ⟨_, rfl, _, rfl, .inr ⟨t, ty, nw, _, rfl, iteT ⟨one, q⟩⟩⟩
    · exact ⟨_, rfl, _, rfl, .inl ⟨t, rfl, _, rfl, iteF ⟨_, rfl, _, rfl, .inr ⟨t', ty, nw, _, rfl, iteT ⟨one, q⟩⟩⟩⟩⟩
    · exact ⟨_, rfl, _, rfl, .inl ⟨t, rfl, _, rfl, iteF ⟨_, rfl, _, rfl, .inl ⟨0, rfl, _, rfl, iteF ⟨_, rfl, rfl, _, rfl, iteT ⟨one, q⟩⟩⟩⟩⟩⟩
abbrev sShow : Stmt := top 20
theorem scShow : FnScope ["one"] ["one"] (defScope sShow) := ⟨rfl, rfl, rfl, by decide +kernel, rfl, by decide +kernel, by decide +kernel⟩
theorem ok_show {dV : Value} (F : FunD K "show" "show" sShow dV f fd) (ms : mg "str" = none) (nd : PySem.W.nsIn K cStatics "sys.int_max_str_digits" = some none) : FnOk P w K mg base CX 1 f fd ["one"] (spShow K) := by
  refine F.ok scShow (fun vs H Q E h => ?_) (fun cdv A outer s H vs Q E hr h => ?_)
  · obtain ⟨a, p, n, rfl, _⟩ := h
    rfl
  obtain ⟨a, p, n, rfl, hF, hB, hn, q⟩ := h
  refine ⟨_, pss_cons (ps_if (pt_cmpR op_eq (pe_ix ix_tup (pv 0) pe_int (fun _ _ => rfl)) pe_int (nomark _)) (pss_one (ps_ret (pe_callTy (call_strB rfl nd) rfl ms PyProof.Rows.boot_str (pa_cons (pe_ix ix_tup (pv 0) pe_int (fun _ _ => rfl)) pa_nil)))) pss_nil)
    (pss_one (ps_ret (pe_op op_add_str (pe_op op_add_str (pe_callTy (call_strB rfl nd) rfl ms PyProof.Rows.boot_str (pa_cons (pe_ix ix_tup (pv 0) pe_int (fun _ _ => rfl)) pa_nil)) pe_str) (pe_callTy (call_strB rfl nd) rfl ms PyProof.Rows.boot_str (pa_cons (pe_ix ix_tup (pv 0) pe_int (fun _ _ => rfl)) pa_nil))))), ?_⟩
  have hz : sizeLine = 16777216 := sizeLine_eq
  have l1 := itx_len hB.a hn
  have l2 := itx_len hB.b hn
  refine rd_ix1 rfl hF ⟨rfl, _, rfl, ?_⟩
  by_cases e : p.2 = 1
  · rw [decide_eq_true (show V.int p.2 = V.int 1 by rw [e])]
    refine iteT (rd_ix0 rfl hF ⟨p.1, n, rfl, hB.a, hn, ?_⟩)
    rw [str_int]
    unfold shw at q
    rw [if_pos e] at q
    exact q
  · rw [decide_eq_false (fun z => e (by injection z))]
    refine iteF (rd_ix0 rfl hF ⟨p.1, n, rfl, hB.a, hn, ⟨_, _, rfl, rfl, ?_, ?_⟩⟩)
    · rw [str_int, S_len]
      have : ("/" : Str).length = 1 := by decide
      omega
    · refine rd_ix1 rfl hF ⟨p.2, n, rfl, hB.b, hn, _, _, rfl, rfl, ?_, ?_⟩
      · rw [str_int, str_int, show ("/" : Str) = S [47] by decide +kernel, S_app, S_len, S_len, List.length_append]
        simp only [List.length_cons, List.length_nil]
        omega
      · rw [str_int, str_int, show ("/" : Str) = S [47] by decide +kernel, S_app, S_app]
        unfold shw at q
        rw [if_neg e] at q
        rw [List.append_assoc]
        exact q
abbrev sNosign : Stmt := top 22
theorem scNosign : FnScope ["text"] ["text"] (defScope sNosign) := ⟨rfl, rfl, rfl, by decide +kernel, rfl, by decide +kernel, by decide +kernel⟩
theorem ok_nosign {dV : Value} (F : FunD K "without_sign" "without_sign" sNosign dV f fd) : FnOk P w K mg base CX 1 f fd ["text"] spNosign := by
  refine F.ok scNosign (fun vs H Q E h => ?_) (fun cdv A outer s H vs Q E hr h => ?_)
  · obtain ⟨cs, rfl, _⟩ := h
    rfl
  obtain ⟨cs, rfl, hl, q⟩ := h
  refine ⟨_, pss_cons (ps_if (pt_val (pe_bm PySem.F.plainAttrs_str PySem.F.slot_str_startswith PySem.F.type_str_startswith mt_startswith (pv 0) (pa_cons pe_str pa_nil))) (pss_one (ps_ret (pe_slice sl_str (pv 0) (po_some pe_int) po_none))) pss_nil)
    (pss_one (ps_ret (pv 0))), ?_⟩
  have hz : sizeLine = 16777216 := sizeLine_eq
  refine ⟨_, rfl, rfl, _, _, rfl, rfl, _, rfl, ?_⟩
  rw [show ("-" : Str) = ⟨#[45]⟩ by decide +kernel, starts_one]
  unfold nosign at q
  by_cases e : cs.head? = some 45
  · rw [decide_eq_true e]
    rw [if_pos e] at q
    refine iteT ⟨_, rfl, _, rfl, _, rfl, by rw [S_len]; omega, ?_⟩
    rw [show (1 : Int) = ((1 : Nat) : Int) from rfl, slice_from, List.drop_one]
    exact q
  · rw [decide_eq_false e]
    rw [if_neg e] at q
    exact iteF ⟨_, rfl, q⟩
abbrev sFigs : Stmt := top 23
theorem scFigs : FnScope ["text"] ["text"] (defScope sFigs) := ⟨rfl, rfl, rfl, by decide +kernel, rfl, by decide +kernel, by decide +kernel⟩
theorem ndFigs : (["sign"] : List Str).Nodup := by decide +kernel
theorem ok_figs {dV : Value} {tF tM : Tok} (F : FunD K "are_figures" "are_figures" sFigs dV f fd) (ml : mg "len" = none) (ma : mg "all" = none) (mF : mg "FIGURES" = some (.str "0123456789" tF)) (mM : mg "MOST_FIGURES" = some (.int 200 tM)) : FnOk P w K mg base CX 1 f fd ["text"] spFigs := by
  refine F.ok scFigs (fun vs H Q E h => ?_) (fun cdv A outer s H vs Q E hr h => ?_)
  · obtain ⟨cs, rfl, _⟩ := h
    rfl
  obtain ⟨cs, rfl, hl, q⟩ := h
  refine ⟨_, pss_cons (ps_if (PW.pt (pw_or (pt_cmpR op_lt (pe_callB call_len_str rfl ml PySem.boot_len (pa_cons (pv 0) pa_nil)) pe_int (nomark _)) (pw_or1 (pt_cmpR op_gt (pe_callB call_len_str rfl ml PySem.boot_len (pa_cons (pv 0) pa_nil)) (pe_glob (v := .int 200) rfl mM ⟨_, rfl⟩) (nomark _))))) (pss_one (ps_ret pe_bl)) pss_nil)
    (pss_one (ps_ret (pe_callB (call_all rfl) rfl ma PyProof.Rows.boot_all (pa_cons (pe_comp (nl := 1) (fr := []) (Nc := ["sign"]) (cl := []) rfl
        ⟨rfl, rfl, by decide +kernel, by decide +kernel, fun x c h => (nomatch h), has_of rfl, rfl, fun i n h => by rw [show 1 + i = i + 1 by omega] at h; cases h⟩
        (pi_str (pv 0)) (fun C s3 H3 fp pins => pg_name (i := 0) ndFigs rfl (Or.inl rfl)) (fun _ _ _ _ _ => pif_nil)
        (fun C s3 H3 fp pins => pe_cmpR op_in_str (pv 0) (pe_glob (v := .str "0123456789") rfl mF ⟨_, rfl⟩) rfl)) pa_nil)))), ?_⟩
  have hz : sizeLine = 16777216 := sizeLine_eq
  refine ⟨_, rfl, _, rfl, by rw [S_len]; omega, _, _, rfl, rfl, _, rfl, ?_⟩
  rw [S_len]
  have no : ¬ (1 ≤ cs.length ∧ cs.length ≤ 200) → Q (.bl false) H := fun c => by
    have := q H (Same.refl H)
    unfold figB at this
    rw [decide_eq_false c, Bool.false_and] at this
    exact this
  refine ite2 (fun c => ?_) (fun c => ?_)
  · have c' := of_decide_eq_true c
    exact no (by omega)
  have c1 : 1 ≤ cs.length := by
    simp only [decide_eq_true_eq] at c
    omega
  refine ⟨_, rfl, _, rfl, by rw [S_len]; omega, _, _, rfl, rfl, _, rfl, ?_⟩
  rw [S_len]
  refine ite2 (fun c => ?_) (fun c => ?_)
  · have c' := of_decide_eq_true c
    exact no (by omega)
  have c2 : cs.length ≤ 200 := by
    simp only [decide_eq_true_eq] at c
    omega
  refine ⟨_, rfl, _, rfl, fun D hD => ?_⟩
  have sD := same_new hD (.lst [])
  refine comp_str (fun i ys H' => Same H H' ∧ H' D = some (.lst ys) ∧ ys = (cs.take i).map (fun c => V.bl (digB c))) ⟨sD, upd_same, rfl⟩ (fun i ys H' h => h.2.1) ?_ ?_
  · rintro i ys c H1 hc ⟨s1, e1, rfl⟩ C hC
    refine ⟨keep1.1, keep1.2, iteT ?_⟩
    refine ⟨_, rfl, _, _, rfl, rfl, ?_⟩
    rw [in_figs]
    have hi : i < cs.length := (List.getElem?_eq_some_iff.mp hc).1
    refine ⟨e1, by simp only [List.length_map, List.length_take]; omega, hC _ _ ⟨s1.change hD, upd_same, ?_⟩⟩
    rw [List.take_succ, hc, List.map_append]
    rfl
  · rintro ys H1 ⟨s1, e1, rfl⟩
    refine ⟨D, cs.map digB, rfl, ?_, ?_⟩
    · rw [List.take_length] at e1
      rw [List.map_map]
      exact SqL.of e1
    · have := q H1 s1
      unfold figB at this
      rw [decide_eq_true ⟨c1, c2⟩, Bool.true_and] at this
      rw [List.all_map]
      exact this
abbrev sRead : Stmt := top 21
abbrev NRead : List Str := ["text", "parts", "above", "below", "one"]
theorem scRead : FnScope NRead ["text"] (defScope sRead) := ⟨rfl, rfl, rfl, by decide +kernel, rfl, by decide +kernel, by decide +kernel⟩
theorem ok_read {dV : Value} {CN : Addr} (F : FunD K "read" "read" sRead dV f fd) (b : Bl mg) (ms : mg "str" = none)
    (G1 : FnOk P w K mg base CX0 1 g1 gd1 ["text"] spNosign) (b1 : Binds K gd1 ["text"] []) (k1 : PySem.W.keepIn K (.ref g1) = true) (m1 : mg "without_sign" = some (.ref g1))
    (G2 : FnOk P w K mg base CX0 1 g2 gd2 ["text"] spFigs) (b2 : Binds K gd2 ["text"] []) (k2 : PySem.W.keepIn K (.ref g2) = true) (m2 : mg "are_figures" = some (.ref g2))
    (G3 : FnOk P w K mg base (CX1 P w) 2 g3 gd3 ["top", "bottom"] (spFracX K CN)) (b3 : Binds K gd3 ["top", "bottom"] []) (k3 : PySem.W.keepIn K (.ref g3) = true) (m3 : mg "fraction" = some (.ref g3))
    (G4 : FnOk P w K mg base CX0 1 g4 gd4 ["one"] (spShow K)) (b4 : Binds K gd4 ["one"] []) (k4 : PySem.W.keepIn K (.ref g4) = true) (m4 : mg "show" = some (.ref g4))
    (mN : mg "NoNumber" = some (.ref CN)) (xN : ExcC K CN) : FnOk P w K mg base (CX1 P w) 3 f fd ["text"] (spRead K CN) := by
  refine F.okX scRead (fun vs H Q E h => ?_) (fun cdv A outer s H vs Q E hr h => ?_)
  · obtain ⟨x, rfl, _⟩ := h
    rfl
  obtain ⟨x, rfl, h⟩ := h
  have r1 := hr.mono (show 1 ≤ 2 by omega)
  refine ⟨_, pss_cons (ps_if (pt_not (pt_val (pe_isi (i := 0) rfl (Or.inl rfl) b.isi ms rfl rfl PyProof.Rows.boot_str))) (pss_one (ps_raise frm_cxOf xe_cxOf rfl rfl mN xN (pa_cons pe_str pa_nil))) pss_nil)
    (pss_cons (ps_set (i := 1) scRead.nd rfl (Or.inl rfl) (pe_bm PySem.F.plainAttrs_str PySem.F.slot_str_partition PySem.F.type_str_partition mt_partition (pv 0) (pa_cons pe_str pa_nil)))
    (pss_cons (ps_set (i := 2) scRead.nd rfl (Or.inl rfl) (pe_ix ix_tup (pv 1) pe_int (fun _ _ => rfl)))
    (pss_cons (ps_set (i := 3) scRead.nd rfl (Or.inl rfl) (pe_ifExp (pt_cmpR op_eq (pe_ix ix_tup (pv 1) pe_int (fun _ _ => rfl)) pe_str (nomark _)) (pe_ix ix_tup (pv 1) pe_int (fun _ _ => rfl)) pe_str))
    (pss_cons (ps_if (PW.pt (pw_or (pt_not (pt_val (pe_call G2 r1 rfl m2 k2 b2 .nil pass0 (pa_cons (pe_call G1 r1 rfl m1 k1 b1 .nil pass0 (pa_cons (pv 2) pa_nil)) pa_nil)))) (pw_or1 (pt_not (pt_val (pe_call G2 r1 rfl m2 k2 b2 .nil pass0 (pa_cons (pv 3) pa_nil))))))) (pss_one (ps_raise frm_cxOf xe_cxOf rfl rfl mN xN (pa_cons pe_str pa_nil))) pss_nil)
    (pss_cons (ps_set (i := 4) scRead.nd rfl (Or.inl rfl) (pe_call G3 hr rfl m3 k3 b3 .nil (passes_cx frm_cxOf xe_cxOf) (pa_cons (pe_callTy call_intT rfl b.int PyProof.Rows.boot_int (pa_cons (pv 2) pa_nil)) (pa_cons (pe_callTy call_intT rfl b.int PyProof.Rows.boot_int (pa_cons (pv 3) pa_nil)) pa_nil))))
    (pss_cons (ps_if (pt_cmpR op_ne (pe_call G4 r1 rfl m4 k4 b4 .nil pass0 (pa_cons (pv 4) pa_nil)) (pv 0) (nomark _)) (pss_one (ps_raise frm_cxOf xe_cxOf rfl rfl mN xN (pa_cons pe_str pa_nil))) pss_nil)
    (pss_one (ps_ret (pv 4))))))))), ?_⟩
  have hz : sizeLine = 16777216 := sizeLine_eq
  have one : ∀ y : Str, ([V.str y] : List V).length ≤ sizeLine := fun _ => by show 1 ≤ sizeLine; decide
  rcases h with ⟨cs, rfl, hl, qy, qn⟩ | ⟨⟨t, ty, nw⟩, q⟩
  rotate_left
  · rcases nw with rfl | rfl | rfl | rfl | rfl
    all_goals exact ⟨_, _, false, rfl, ty, (by with_unfolding_all rfl), _, rfl, iteT ⟨one _, q⟩⟩
  obtain ⟨tl, hp, ht⟩ := part_47 cs
  refine ⟨_, _, true, rfl, .str _, (by with_unfolding_all rfl), _, rfl, iteF ?_⟩
  refine ⟨_, rfl, rfl, _, _, rfl, rfl, by decide, by rw [S_len]; omega, fun D hD => ?_⟩
  rw [hp]
  have sD := same_new hD (.tup [.str (S (ahead 47 cs)), .str (stk cs), .str (S tl)])
  have eD : upd H D (.tup [.str (S (ahead 47 cs)), .str (stk cs), .str (S tl)]) D = some (.tup [.str (S (ahead 47 cs)), .str (stk cs), .str (S tl)]) := upd_same
  dsimp only
  generalize upd H D (.tup [.str (S (ahead 47 cs)), .str (stk cs), .str (S tl)]) = H1 at sD eD ⊢
  refine ⟨_, rfl, D, _, _, _, rfl, rfl, SqT.of eD, rfl, ?_⟩
  refine ⟨_, rfl, D, _, _, _, rfl, rfl, SqT.of eD, rfl, rfl, _, rfl, ?_⟩
  have bel : ∀ {R : VK}, R (.str (S (belowOf cs))) H1 → (if decide (V.str (stk cs) = V.str "/") = true then tOp (rIxT K) (tVar 1) (tC (.int 2)) (List.set (List.set (L2.start NRead [V.str (S cs)]) 1 (some (V.ref D))) 2 (some (V.str (S (ahead 47 cs))))) H1 R else R (.str "1") H1) := fun {R} z => by
    unfold belowOf at z
    unfold stk
    by_cases h : 47 ∈ cs
    · rw [if_pos h] at z ⊢
      rw [decide_eq_true rfl]
      rw [← ht h] at z
      refine iteT ⟨_, rfl, D, _, _, _, rfl, rfl, SqT.of eD, rfl, z⟩
    · rw [if_neg h] at z ⊢
      rw [decide_eq_false (by intro q; injection q with q; exact absurd q (by decide +kernel))]
      refine iteF ?_
      rw [show ("1" : Str) = S [49] by decide +kernel]
      exact z
  refine bel ?_
  have la := (ahead_len 47 cs).1
  have lb := below_len hl
  refine ⟨_, rfl, _, rfl, by omega, _, rfl, ?_, fun H2 s2 => ?_⟩
  · unfold nosign; split
    · rw [List.length_tail]; omega
    · omega
  refine ⟨_, rfl, ?_⟩
  have no : ¬ Fine cs → ∀ H', Same H H' → E (.ref CN) none H' := fun h => qn fun ⟨p, z⟩ => h (wr_fine z).1
  by_cases f1 : figB (nosign (ahead 47 cs)) = true
  rotate_left
  · rw [Bool.eq_false_iff.mpr f1]
    exact iteT ⟨one _, no (fun z => f1 ((figB_iff _).mpr z.1)) _ (sD.trans s2)⟩
  rw [f1]
  refine iteF ⟨_, rfl, _, rfl, lb, fun H3 s3 => ⟨_, rfl, ?_⟩⟩
  by_cases f2 : figB (belowOf cs) = true
  rotate_left
  · rw [Bool.eq_false_iff.mpr f2]
    exact iteT ⟨one _, no (fun z => f2 ((figB_iff _).mpr z.2)) _ (sD.trans (s2.trans s3))⟩
  rw [f2]
  have hf : Fine cs := ⟨(figB_iff _).mp f1, (figB_iff _).mp f2⟩
  obtain ⟨ia, ja⟩ := ival_text hf.1
  obtain ⟨ib, jb⟩ := ival_text (cs := belowOf cs) (by rw [nosign_fig hf.2]; exact hf.2)
  have bb : (ival (belowOf cs)).natAbs < 10 ^ 200 := ival_lt (by rw [nosign_fig hf.2]; exact hf.2)
  have ba := ival_lt hf.1
  have sA := sD.trans (s2.trans s3)
  refine iteF ⟨_, rfl, _, _, rfl, ia, ja, _, rfl, _, _, rfl, ib, jb, ?_⟩
  refine ⟨_, _, rfl, ?_⟩
  by_cases h0 : ival (belowOf cs) = 0
  · refine .inr ⟨.inr ⟨⟨_, rfl⟩, .inr (by rw [h0])⟩, ?_⟩
    refine qn (fun ⟨p, z⟩ => ?_) _ sA
    have := (wr_fine z).2.2
    have := low_pos z.low
    omega
  refine .inl ⟨_, _, 700, rfl, rfl, h0, b200 bb, by omega, fun r H4 s4 e4 => ?_⟩
  have hl2 := Mq.red_le (t := ival (ahead 47 cs)) h0
  refine ⟨_, rfl, r, _, 700, rfl, Fq.of e4, ⟨b200 (Nat.lt_of_le_of_lt hl2.1 ba), b200 (Nat.lt_of_le_of_lt hl2.2 bb)⟩, by omega, _, rfl, rfl, _, rfl, ?_⟩
  by_cases e : shw (Mq.red (ival (ahead 47 cs)) (ival (belowOf cs))) = cs
  · rw [decide_eq_true (show V.str (S (shw (Mq.red (ival (ahead 47 cs)) (ival (belowOf cs))))) = V.str (S cs) by rw [e])]
    exact iteF ⟨_, rfl, qy _ (fine_wr hf h0 e) r H4 (sA.trans s4) e4⟩
  · rw [decide_eq_false (fun z => e (S_inj.mp (by injection z)))]
    refine iteT ⟨one _, qn (fun ⟨p, z⟩ => ?_) _ (sA.trans s4)⟩
    apply e
    rw [red_wr z]
    exact z.txt.symm
variable {CR : Addr} {CK : Kd → Addr} {fW fJ fT fS : Kd → Addr} {fdW fdJ fdT fdS : Kd → FuncData}
abbrev sRInit : Stmt := inClass (top 25) 0
theorem scRInit : FnScope ["self", "start", "goal", "size"] ["self", "start", "goal", "size"] (defScope sRInit) := ⟨rfl, rfl, rfl, by decide +kernel, rfl, by decide +kernel, by decide +kernel⟩
theorem ok_rinit {dV : Value} (F : FunD K "__init__" "Row.__init__" sRInit dV f fd) (T : RT K mg CR CK) : FnOk P w K mg base CX 1 f fd ["self", "start", "goal", "size"] (spRInit CK) := by
  refine F.ok scRInit (fun vs H Q E h => ?_) (fun cdv A outer s H vs Q E hr h => ?_)
  · obtain ⟨x, dx, k, s, g, z, rfl, _⟩ := h
    rfl
  obtain ⟨x, dx, k, s, g, z, rfl, hx, q⟩ := h
  refine ⟨_, (pss_cons (ps_fld (pv 0) (pv 1) rfl) (pss_cons (ps_fld (pv 0) (pv 2) rfl) (pss_one (ps_fld (pv 0) (pv 3) rfl)))), ?_⟩
  have l1 := length_putF ("start" : Str) s []
  have l2 := length_putF ("goal" : Str) g (putF "start" s [])
  simp only [List.length_nil] at l1
  refine ⟨_, rfl, _, rfl, x, CK k, dx, [], rfl, hx, T.cl k, T.nS k, (by show 0 < 1000; decide), ?_⟩
  refine ⟨_, rfl, _, rfl, x, CK k, dx, _, rfl, upd_same, T.cl k, T.nG k, by omega, ?_⟩
  refine ⟨_, rfl, _, rfl, x, CK k, dx, _, rfl, upd_same, T.cl k, T.nZ k, by omega, ?_⟩
  rw [upd_upd, upd_upd]
  exact q
abbrev sWord_pc : Stmt := inClass (top 26) 0
theorem scWord_pc : FnScope ["self"] ["self"] (defScope sWord_pc) := ⟨rfl, rfl, rfl, by decide +kernel, rfl, by decide +kernel, by decide +kernel⟩
theorem ok_word_pc {dV : Value} (F : FunD K "word" "Piece.word" sWord_pc dV f fd) : FnOk P w K mg base CX 1 f fd ["self"] (spWord .pc) := by
  refine F.ok scWord_pc (fun vs H Q E h => ?_) (fun cdv A outer s H vs Q E hr h => ?_)
  · obtain ⟨x, rfl, _⟩ := h
    rfl
  obtain ⟨x, rfl, q⟩ := h
  exact ⟨_, (pss_one (ps_ret pe_str)), q⟩
abbrev sWord_pu : Stmt := inClass (top 27) 0
theorem scWord_pu : FnScope ["self"] ["self"] (defScope sWord_pu) := ⟨rfl, rfl, rfl, by decide +kernel, rfl, by decide +kernel, by decide +kernel⟩
theorem ok_word_pu {dV : Value} (F : FunD K "word" "Push.word" sWord_pu dV f fd) : FnOk P w K mg base CX 1 f fd ["self"] (spWord .pu) := by
  refine F.ok scWord_pu (fun vs H Q E h => ?_) (fun cdv A outer s H vs Q E hr h => ?_)
  · obtain ⟨x, rfl, _⟩ := h
    rfl
  obtain ⟨x, rfl, q⟩ := h
  exact ⟨_, (pss_one (ps_ret pe_str)), q⟩
abbrev sWord_ho : Stmt := inClass (top 28) 0
theorem scWord_ho : FnScope ["self"] ["self"] (defScope sWord_ho) := ⟨rfl, rfl, rfl, by decide +kernel, rfl, by decide +kernel, by decide +kernel⟩
theorem ok_word_ho {dV : Value} (F : FunD K "word" "Hold.word" sWord_ho dV f fd) : FnOk P w K mg base CX 1 f fd ["self"] (spWord .ho) := by
  refine F.ok scWord_ho (fun vs H Q E h => ?_) (fun cdv A outer s H vs Q E hr h => ?_)
  · obtain ⟨x, rfl, _⟩ := h
    rfl
  obtain ⟨x, rfl, q⟩ := h
  exact ⟨_, (pss_one (ps_ret pe_str)), q⟩
abbrev sRTold : Stmt := inClass (top 25) 1
theorem scRTold : FnScope ["self"] ["self"] (defScope sRTold) := ⟨rfl, rfl, rfl, by decide +kernel, rfl, by decide +kernel, by decide +kernel⟩
theorem ok_rtold {dV : Value} (F : FunD K "told" "Row.told" sRTold dV f fd) (T : RT K mg CR CK)
    (GW : ∀ k, FnOk P w K mg base CX0 1 (fW k) (fdW k) ["self"] (spWord k)) (bW : ∀ k, Binds K (fdW k) ["self"] []) (mW : ∀ k, Meth K (CK k) "word" (fW k)) : FnOk P w K mg base CX 2 f fd ["self"] (spRTold CK) := by
  refine F.ok scRTold (fun vs H Q E h => ?_) (fun cdv A outer s H vs Q E hr h => ?_)
  · obtain ⟨x, k, s, g, z, rfl, _⟩ := h
    rfl
  obtain ⟨x, k, s, g, z, rfl, ⟨dx, hx⟩, q⟩ := h
  refine ⟨_, (pss_one (ps_ret (pe_tup (pa_cons (pe_methD0 (pv 0) T.cl mW GW hr bW .nil pass0) (pa_cons (pe_fld (pv 0) rfl) (pa_cons (pe_fld (pv 0) rfl) (pa_cons (pe_fld (pv 0) rfl) pa_nil))))))), ?_⟩
  refine ⟨_, rfl, k, x, dx, _, rfl, hx, (rflds_no _ _ _ (by decide +kernel) (by decide +kernel) (by decide +kernel)), _, rfl, ?_⟩
  refine ⟨_, rfl, x, CK k, dx, _, _, rfl, hx, T.cl k, T.nS k, rflds_start _ _ _, ?_⟩
  refine ⟨_, rfl, x, CK k, dx, _, _, rfl, hx, T.cl k, T.nG k, rflds_goal _ _ _, ?_⟩
  refine ⟨_, rfl, x, CK k, dx, _, _, rfl, hx, T.cl k, T.nZ k, rflds_size _ _ _, ?_⟩
  exact ⟨by show 4 ≤ sizeLine; decide, q⟩
abbrev sRowOf : Stmt := top 29
theorem scRowOf : FnScope ["told", "word"] ["told"] (defScope sRowOf) := ⟨rfl, rfl, rfl, by decide +kernel, rfl, by decide +kernel, by decide +kernel⟩
theorem ok_rowof {dV : Value} {gI : Addr} {gdI : FuncData} (F : FunD K "row_of" "row_of" sRowOf dV f fd) (T : RT K mg CR CK) (b : Bl mg) (ms : mg "str" = none)
    (GI : FnOk P w K mg base CX0 1 gI gdI ["self", "start", "goal", "size"] (spRInit CK)) (bI : Binds K gdI ["self", "start", "goal", "size"] []) (MK : ∀ k, Mk K (CK k) gI) : FnOk P w K mg base CX 3 f fd ["told"] (spRowOfG K CK) := by
  refine F.ok scRowOf (fun vs H Q E h => ?_) (fun cdv A outer s H vs Q E hr h => ?_)
  · obtain ⟨t, v, s, g, z, rfl, _⟩ := h
    rfl
  obtain ⟨t, v, s, g, z, rfl, hT, k, rfl, q⟩ := h
  refine ⟨_, (pss_cons (ps_set (i := 1) scRowOf.nd rfl (Or.inl rfl) (pe_ix ix_tup (pv 0) pe_int (fun _ _ => rfl)))
    (pss_cons (ps_if (PW.pt (pw_and (pt_val (pe_isiQ (i := 1) rfl (Or.inl rfl) b.isi ms rfl rfl PyProof.Rows.boot_str)) (pw_and1 (pt_cmpR op_eq (pv 1) pe_str (nomark _))))) (pss_one (ps_ret (pe_make (MK .pc) GI hr rfl (T.mK .pc) bI .nil pass0 (pa_cons (pe_ix ix_tup (pv 0) pe_int (fun _ _ => rfl)) (pa_cons (pe_ix ix_tup (pv 0) pe_int (fun _ _ => rfl)) (pa_cons (pe_ix ix_tup (pv 0) pe_int (fun _ _ => rfl)) pa_nil)))))) pss_nil)
    (pss_cons (ps_if (PW.pt (pw_and (pt_val (pe_isiQ (i := 1) rfl (Or.inl rfl) b.isi ms rfl rfl PyProof.Rows.boot_str)) (pw_and1 (pt_cmpR op_eq (pv 1) pe_str (nomark _))))) (pss_one (ps_ret (pe_make (MK .pu) GI hr rfl (T.mK .pu) bI .nil pass0 (pa_cons (pe_ix ix_tup (pv 0) pe_int (fun _ _ => rfl)) (pa_cons (pe_ix ix_tup (pv 0) pe_int (fun _ _ => rfl)) (pa_cons (pe_ix ix_tup (pv 0) pe_int (fun _ _ => rfl)) pa_nil)))))) pss_nil)
    (pss_cons (ps_if (PW.pt (pw_and (pt_val (pe_isiQ (i := 1) rfl (Or.inl rfl) b.isi ms rfl rfl PyProof.Rows.boot_str)) (pw_and1 (pt_cmpR op_eq (pv 1) pe_str (nomark _))))) (pss_one (ps_ret (pe_make (MK .ho) GI hr rfl (T.mK .ho) bI .nil pass0 (pa_cons (pe_ix ix_tup (pv 0) pe_int (fun _ _ => rfl)) (pa_cons (pe_ix ix_tup (pv 0) pe_int (fun _ _ => rfl)) (pa_cons (pe_ix ix_tup (pv 0) pe_int (fun _ _ => rfl)) pa_nil)))))) pss_nil)
    (pss_one ps_never))))), ?_⟩
  cases k
  · refine cut2 (fun _ _ => False) (fun X _ => ?_) (fun _ _ h => h.elim)
    refine ⟨_, rfl, t, _, 0, _, rfl, rfl, hT, rfl, ?_⟩
    exact ⟨_, _, true, rfl, .of (.str _), rfl, _, rfl, iteT ⟨_, rfl, rfl, _, rfl, ifT (dec_wd .pc .pc) ⟨_, rfl, t, _, 1, s, rfl, rfl, hT, rfl, _, rfl, t, _, 2, g, rfl, rfl, hT, rfl, _, rfl, t, _, 3, z, rfl, rfl, hT, rfl, fun x dx h1 h2 ne => ⟨x, dx, .pc, s, g, z, rfl, upd_same, rfl, by rw [upd_upd]; exact q x _ (Rw.new h1 h2 ne) h1 ⟨dx, upd_same⟩⟩⟩⟩⟩
  · refine cut3 (fun _ _ => False) (fun X _ => ?_) (fun _ _ h => h.elim)
    refine ⟨_, rfl, t, _, 0, _, rfl, rfl, hT, rfl, ?_⟩
    exact ⟨_, _, true, rfl, .of (.str _), rfl, _, rfl, iteT ⟨_, rfl, rfl, _, rfl, ifF (dec_wd .pu .pc) (⟨_, _, true, rfl, .of (.str _), rfl, _, rfl, iteT ⟨_, rfl, rfl, _, rfl, ifT (dec_wd .pu .pu) ⟨_, rfl, t, _, 1, s, rfl, rfl, hT, rfl, _, rfl, t, _, 2, g, rfl, rfl, hT, rfl, _, rfl, t, _, 3, z, rfl, rfl, hT, rfl, fun x dx h1 h2 ne => ⟨x, dx, .pu, s, g, z, rfl, upd_same, rfl, by rw [upd_upd]; exact q x _ (Rw.new h1 h2 ne) h1 ⟨dx, upd_same⟩⟩⟩⟩⟩)⟩⟩
  · refine cut4 (fun _ _ => False) (fun X _ => ?_) (fun _ _ h => h.elim)
    refine ⟨_, rfl, t, _, 0, _, rfl, rfl, hT, rfl, ?_⟩
    exact ⟨_, _, true, rfl, .of (.str _), rfl, _, rfl, iteT ⟨_, rfl, rfl, _, rfl, ifF (dec_wd .ho .pc) (⟨_, _, true, rfl, .of (.str _), rfl, _, rfl, iteT ⟨_, rfl, rfl, _, rfl, ifF (dec_wd .ho .pu) (⟨_, _, true, rfl, .of (.str _), rfl, _, rfl, iteT ⟨_, rfl, rfl, _, rfl, ifT (dec_wd .ho .ho) ⟨_, rfl, t, _, 1, s, rfl, rfl, hT, rfl, _, rfl, t, _, 2, g, rfl, rfl, hT, rfl, _, rfl, t, _, 3, z, rfl, rfl, hT, rfl, fun x dx h1 h2 ne => ⟨x, dx, .ho, s, g, z, rfl, upd_same, rfl, by rw [upd_upd]; exact q x _ (Rw.new h1 h2 ne) h1 ⟨dx, upd_same⟩⟩⟩⟩⟩)⟩⟩)⟩⟩
abbrev sIsF : Stmt := top 13
theorem scIsF : FnScope ["thing"] ["thing"] (defScope sIsF) := ⟨rfl, rfl, rfl, by decide +kernel, rfl, by decide +kernel, by decide +kernel⟩
theorem ok_isf {dV : Value} (F : FunD K "is_fraction" "is_fraction" sIsF dV f fd)
    (b : Bl mg) (ml : mg "len" = none) (mt : mg "tuple" = none)
    (G1 : FnOk P w K mg base CX0 1 g1 gd1 ["thing"] (spWhole K)) (b1 : Binds K gd1 ["thing"] []) (k1 : PySem.W.keepIn K (.ref g1) = true) (m1 : mg "is_whole" = some (.ref g1))
    (G2 : FnOk P w K mg base CX0 1 g2 gd2 ["one", "other"] spGc) (b2 : Binds K gd2 ["one", "other"] []) (k2 : PySem.W.keepIn K (.ref g2) = true) (m2 : mg "greatest_common" = some (.ref g2)) :
    FnOk P w K mg base CX 2 f fd ["thing"] (spIsFV K) := by
  refine F.ok scIsF (fun vs H Q E h => ?_) (fun cdv A outer s H vs Q E hr h => ?_)
  · obtain ⟨v, o, rfl, hz, q⟩ := h
    rfl
  obtain ⟨v, o, rfl, hz, q⟩ := h
  refine ⟨_, (pss_cons (ps_if (PW.pt (pw_or (pt_not (pt_val (pe_isiQ (i := 0) rfl (Or.inl rfl) b.isi mt rfl rfl PyProof.Rows.boot_tuple))) (pw_or1 (pt_cmpR op_ne (pe_callB call_len_seq rfl ml PySem.boot_len (pa_cons (pv 0) pa_nil)) pe_int (nomark _))))) (pss_one (ps_ret pe_bl)) pss_nil)
    (pss_cons (ps_if (PW.pt (pw_or (pt_not (pt_val (pe_call G1 hr rfl m1 k1 b1 .nil pass0 (pa_cons (pe_ix ix_tup (pv 0) pe_int (fun _ _ => rfl)) pa_nil)))) (pw_or1 (pt_not (pt_val (pe_call G1 hr rfl m1 k1 b1 .nil pass0 (pa_cons (pe_ix ix_tup (pv 0) pe_int (fun _ _ => rfl)) pa_nil))))))) (pss_one (ps_ret pe_bl)) pss_nil)
    (pss_one (ps_ret (pe_and (pe_cmpR op_ge (pe_ix ix_tup (pv 0) pe_int (fun _ _ => rfl)) pe_int (nomark _)) (pe_one (pe_cmpR op_eq (pe_call G2 hr rfl m2 k2 b2 .nil pass0 (pa_cons (pe_ix ix_tup (pv 0) pe_int (fun _ _ => rfl)) (pa_cons (pe_ix ix_tup (pv 0) pe_int (fun _ _ => rfl)) pa_nil))) pe_int (nomark _)))))))), ?_⟩
  cases hz with
  | fr fa hp =>
    refine ⟨_, _, true, rfl, .tup fa, rfl, _, rfl, iteF ⟨_, rfl, _, _, rfl, .inr fa, rfl, _, rfl, iteF ?_⟩⟩
    refine rd_ix0 rfl fa ⟨_, rfl, .inl ⟨_, rfl, _, rfl, iteF (rd_ix1 rfl fa ⟨_, rfl, .inl ⟨_, rfl, _, rfl, iteF ?_⟩⟩)⟩⟩
    have h1 := hp.pos
    refine rd_ix1 rfl fa ⟨_, _, rfl, rfl, _, rfl, ifT (decide_eq_true (by omega)) (rd_ix0 rfl fa (rd_ix1 rfl fa ⟨_, _, rfl, rfl, ?_⟩))⟩
    rw [hp.one]
    exact q
  | ty h n => exact ⟨_, _, false, rfl, h, n, _, rfl, iteT q⟩
  | len h => exact ⟨_, _, true, rfl, .tup h, rfl, _, rfl, iteF ⟨_, rfl, _, _, rfl, .inr h, rfl, _, rfl, iteT q⟩⟩
  | n0 h ty n =>
    refine ⟨_, _, true, rfl, .tup h, rfl, _, rfl, iteF ⟨_, rfl, _, _, rfl, .inr h, rfl, _, rfl, iteF ?_⟩⟩
    exact ⟨_, rfl, _, _, 0, _, rfl, rfl, h, rfl, _, rfl, .inr ⟨_, ty, n, _, rfl, iteT q⟩⟩
  | n1 h ty n =>
    refine ⟨_, _, true, rfl, .tup h, rfl, _, rfl, iteF ⟨_, rfl, _, _, rfl, .inr h, rfl, _, rfl, iteF ?_⟩⟩
    exact ⟨_, rfl, _, _, 0, _, rfl, rfl, h, rfl, _, rfl, .inl ⟨_, rfl, _, rfl, iteF ⟨_, rfl, _, _, 1, _, rfl, rfl, h, rfl, _, rfl, .inr ⟨_, ty, n, _, rfl, iteT q⟩⟩⟩⟩
  | fb fa c =>
    refine ⟨_, _, true, rfl, .tup fa, rfl, _, rfl, iteF ⟨_, rfl, _, _, rfl, .inr fa, rfl, _, rfl, iteF ?_⟩⟩
    refine rd_ix0 rfl fa ⟨_, rfl, .inl ⟨_, rfl, _, rfl, iteF (rd_ix1 rfl fa ⟨_, rfl, .inl ⟨_, rfl, _, rfl, iteF ?_⟩⟩)⟩⟩
    rcases c with c | ⟨c, d⟩
    · exact rd_ix1 rfl fa ⟨_, _, rfl, rfl, _, rfl, ifF (decide_eq_false (by omega)) q⟩
    · refine rd_ix1 rfl fa ⟨_, _, rfl, rfl, _, rfl, ifT (decide_eq_true c) (rd_ix0 rfl fa (rd_ix1 rfl fa ⟨_, _, rfl, rfl, ?_⟩))⟩
      rw [decide_eq_false (fun e => d (by injection e))]
      exact q
abbrev sPS : Stmt := top 30
theorem scPS : FnScope ["thing"] ["thing"] (defScope sPS) := ⟨rfl, rfl, rfl, by decide +kernel, rfl, by decide +kernel, by decide +kernel⟩
theorem ok_ps {dV : Value} (F : FunD K "is_piece_size" "is_piece_size" sPS dV f fd)
    {aN : Addr} (fN : ∀ H, Fq K H aN (0, 1)) (mNO : mg "NOUGHT" = some (.ref aN))
    (G1 : FnOk P w K mg base CX0 2 g1 gd1 ["thing"] (spIsFV K)) (b1 : Binds K gd1 ["thing"] []) (k1 : PySem.W.keepIn K (.ref g1) = true) (m1 : mg "is_fraction" = some (.ref g1))
    (G2 : FnOk P w K mg base CX0 1 g2 gd2 ["one", "other"] (spUnder K)) (b2 : Binds K gd2 ["one", "other"] []) (k2 : PySem.W.keepIn K (.ref g2) = true) (m2 : mg "under" = some (.ref g2)) :
    FnOk P w K mg base CX 3 f fd ["thing"] (spPSV K) := by
  refine F.ok scPS (fun vs H Q E h => ?_) (fun cdv A outer s H vs Q E hr h => ?_)
  · obtain ⟨v, o, rfl, hz, hb, q⟩ := h
    rfl
  obtain ⟨v, o, rfl, hz, hb, q⟩ := h
  have r1 := hr.mono (show 1 ≤ 2 by omega)
  refine ⟨_, (pss_one (ps_ret (pe_and (pe_call G1 hr rfl m1 k1 b1 .nil pass0 (pa_cons (pv 0) pa_nil)) (pe_one (pe_call G2 r1 rfl m2 k2 b2 .nil pass0 (pa_cons (pe_glob (v := .ref aN) rfl mNO rfl) (pa_cons (pv 0) pa_nil))))))), ?_⟩
  refine ⟨_, rfl, v, o, rfl, hz, _, rfl, ?_⟩
  cases o with
  | none => exact iteF q
  | some p =>
    cases hz with
    | fr fa hp =>
      refine iteT ⟨_, rfl, aN, _, _, p, 1, 100, rfl, fN _, fa, ⟨show (0 : Nat) < 2 ^ 1 by decide, show (1 : Nat) < 2 ^ 1 by decide⟩, hb p rfl, by omega, ?_⟩
      have e : decide ((0, 1).1 * p.2 < p.1 * (0, 1).2) = okz .pc (some p) := by
        show decide ((0 : Int) * p.2 < p.1 * 1) = decide (0 < p.1)
        rw [Int.zero_mul, Int.mul_one]
      rw [e]
      exact q
abbrev sNB : Stmt := top 35
theorem scNB : FnScope ["thing", "bound"] ["thing", "bound"] (defScope sNB) := ⟨rfl, rfl, rfl, by decide +kernel, rfl, by decide +kernel, by decide +kernel⟩
theorem ok_nb {dV : Value} (F : FunD K "is_number_below" "is_number_below" sNB dV f fd)
    (G1 : FnOk P w K mg base CX0 1 g1 gd1 ["thing"] (spWhole K)) (b1 : Binds K gd1 ["thing"] []) (k1 : PySem.W.keepIn K (.ref g1) = true) (m1 : mg "is_whole" = some (.ref g1)) :
    FnOk P w K mg base CX 2 f fd ["thing", "bound"] spNB := by
  refine F.ok scNB (fun vs H Q E h => ?_) (fun cdv A outer s H vs Q E hr h => ?_)
  · obtain ⟨i, b', rfl, h0, h1, q⟩ := h
    rfl
  obtain ⟨i, b', rfl, h0, h1, q⟩ := h
  refine ⟨_, (pss_one (ps_ret (pe_and (pe_call G1 hr rfl m1 k1 b1 .nil pass0 (pa_cons (pv 0) pa_nil)) (pe_and (pe_cmpR op_ge (pv 0) pe_int (nomark _)) (pe_one (pe_cmpR op_lt (pv 0) (pv 1) (nomark _))))))), ?_⟩
  refine ⟨_, rfl, _, rfl, .inl ⟨i, rfl, _, rfl, iteT ⟨_, rfl, _, _, rfl, rfl, _, rfl, ifT (decide_eq_true h0) ⟨_, rfl, _, rfl, _, _, rfl, rfl, ?_⟩⟩⟩⟩
  show Q (.bl (decide (i < b'))) H
  rw [decide_eq_true h1]
  exact q
abbrev sRS : Stmt := top 37
theorem scRS : FnScope ["word", "size"] ["word", "size"] (defScope sRS) := ⟨rfl, rfl, rfl, by decide +kernel, rfl, by decide +kernel, by decide +kernel⟩
theorem ok_rs {dV : Value} (F : FunD K "refuse_size" "refuse_size" sRS dV f fd)
    {CZ : Addr}
    (G1 : FnOk P w K mg base CX0 2 g1 gd1 ["thing"] (spIsFV K)) (b1 : Binds K gd1 ["thing"] []) (k1 : PySem.W.keepIn K (.ref g1) = true) (m1 : mg "is_fraction" = some (.ref g1))
    (G2 : FnOk P w K mg base CX0 3 g2 gd2 ["thing"] (spPSV K)) (b2 : Binds K gd2 ["thing"] []) (k2 : PySem.W.keepIn K (.ref g2) = true) (m2 : mg "is_piece_size" = some (.ref g2))
    (mN : mg "NoSize" = some (.ref CZ)) (xN : ExcC K CZ) :
    FnOk P w K mg base (CX1 P w) 4 f fd ["word", "size"] (spRSV K CZ) := by
  refine F.okX scRS (fun vs H Q E h => ?_) (fun cdv A outer s H vs Q E hr h => ?_)
  · obtain ⟨k, v, o, rfl, hz, hb, q1, q2⟩ := h
    rfl
  obtain ⟨k, v, o, rfl, hz, hb, q1, q2⟩ := h
  have r2 := hr.mono (show 2 ≤ 3 by omega)
  refine ⟨_, (pss_cons (ps_if (pt_not (pt_val (pe_call G1 r2 rfl m1 k1 b1 .nil pass0 (pa_cons (pv 1) pa_nil)))) (pss_one (ps_raise frm_cxOf xe_cxOf rfl rfl mN xN (pa_cons pe_str pa_nil))) pss_nil)
    (pss_one (ps_if (PW.pt (pw_and (pt_cmpR op_eq (pv 0) pe_str (nomark _)) (pw_and1 (pt_not (pt_val (pe_call G2 hr rfl m2 k2 b2 .nil pass0 (pa_cons (pv 1) pa_nil))))))) (pss_one (ps_raise frm_cxOf xe_cxOf rfl rfl mN xN (pa_cons pe_str pa_nil))) pss_nil))), ?_⟩
  refine ⟨_, rfl, v, o, rfl, hz, _, rfl, ?_⟩
  cases o with
  | none => exact iteT ⟨by show 1 ≤ sizeLine; decide, q2 rfl⟩
  | some p =>
    refine iteF ?_
    cases k
    · refine ⟨_, rfl, rfl, _, rfl, ifT (dec_wd .pc .pc) ⟨_, rfl, v, some p, rfl, hz, hb, _, rfl, ?_⟩⟩
      cases e : okz .pc (some p) with
      | true => exact iteF (q1 e)
      | false => exact iteT ⟨by show 1 ≤ sizeLine; decide, q2 e⟩
    · exact ⟨_, rfl, rfl, _, rfl, ifF (dec_wd .pu .pc) (iteF (q1 rfl))⟩
    · exact ⟨_, rfl, rfl, _, rfl, ifF (dec_wd .ho .pc) (iteF (q1 rfl))⟩
theorem nd_point_many : (["point", "many"] : List Str).Nodup := by decide +kernel
def spRP (K : PySem.W.Frag) : Sp := fun vs H Q _ => ∃ (l : Addr) (i j m : Int), vs = [.ref l, .int m] ∧ SqL K H l [.int i, .int j] ∧ 0 ≤ i ∧ i < m ∧ 0 ≤ j ∧ j < m ∧ ∀ H', Same H H' → Q .non H'
abbrev sRP : Stmt := top 36
theorem scRP : FnScope ["some", "many"] ["some", "many"] (defScope sRP) := ⟨rfl, rfl, rfl, by decide +kernel, rfl, by decide +kernel, by decide +kernel⟩
theorem ok_rp {dV : Value} (F : FunD K "refuse_points" "refuse_points" sRP dV f fd)
    (ma : mg "all" = none)
    (G1 : FnOk P w K mg base CX0 2 g1 gd1 ["thing", "bound"] spNB) (b1 : Binds K gd1 ["thing", "bound"] []) (k1 : PySem.W.keepIn K (.ref g1) = true) (m1 : mg "is_number_below" = some (.ref g1)) :
    FnOk P w K mg base CX 3 f fd ["some", "many"] (spRP K) := by
  refine F.ok scRP (fun vs H Q E h => ?_) (fun cdv A outer s H vs Q E hr h => ?_)
  · obtain ⟨l, i, j, m, rfl, hl, i0, i1, j0, j1, q⟩ := h
    rfl
  obtain ⟨l, i, j, m, rfl, hl, i0, i1, j0, j1, q⟩ := h
  refine ⟨_, (pss_one (ps_if (pt_not (pt_val (pe_callB (call_all rfl) rfl ma PyProof.Rows.boot_all (pa_cons (pe_comp (nl := 1) (fr := [1]) (Nc := ["point", "many"]) (cl := [("many", s.heap.objs.size + 1)]) rfl ⟨rfl, rfl, by decide +kernel, by decide +kernel, fun x c h => h, has_of rfl, rfl, fun i n h => match i, h with | 0, h => by cases h; exact ⟨1, rfl, rfl, rfl, rfl, .inl rfl⟩ | k + 1, h => by rw [show 1 + (k + 1) = k + 2 by omega] at h; cases h⟩
        (pi_list (pv 0)) (fun C s3 H3 fp pins => (pg_name (i := 0) nd_point_many rfl (Or.inl rfl))) (fun C s3 H3 fp pins => pif_nil)
        (fun C s3 H3 fp pins => (pe_call G1 hr rfl m1 k1 b1 .nil pass0 (pa_cons (pv 0) (pa_cons (pv 1) pa_nil))))) pa_nil)))) (pss_one ps_never) pss_nil)), ?_⟩
  refine ⟨_, rfl, l, rfl, ⟨_, hl⟩, fun D hD => ?_⟩
  have sD := same_new hD (.lst [])
  refine comp_list (xs := [.int i, .int j]) (fun k zs H' => Same H H' ∧ H' D = some (.lst zs) ∧ zs = (List.replicate k true).map V.bl) ⟨sD, upd_same, rfl⟩ (fun k zs H' h => h.2.1) (fun k zs H' _ h => h.1.seq hl) ?_ ?_
  · rintro k zs x H1 hx ⟨s1, e1, rfl⟩ C hC
    have hk : k < 2 := (List.getElem?_eq_some_iff.mp hx).1
    obtain ⟨y, rfl, y0, y1⟩ : ∃ y, x = .int y ∧ 0 ≤ y ∧ y < m := by
      rcases List.mem_cons.mp (List.mem_of_getElem? hx) with z | z
      · exact ⟨i, z, i0, i1⟩
      · exact ⟨j, by simpa using z, j0, j1⟩
    refine ⟨keep1.1, keep1.2, iteT ?_⟩
    refine ⟨_, rfl, _, rfl, y, m, rfl, y0, y1, e1, small1000 (by rw [List.length_map, List.length_replicate]; omega), hC _ _ ⟨s1.change hD, upd_same, ?_⟩⟩
    rw [List.replicate_succ', List.map_append]; rfl
  · rintro zs H1 ⟨s1, e1, rfl⟩
    refine ⟨D, _, rfl, SqL.of e1, _, rfl, ifF ?_ ?_⟩
    · simp
    · exact q _ s1
abbrev sNInit : Stmt := inClass (top 34) 0
theorem scNInit : FnScope ["self", "many"] ["self", "many"] (defScope sNInit) := ⟨rfl, rfl, rfl, by decide +kernel, rfl, by decide +kernel, by decide +kernel⟩
theorem ok_ninit {dV : Value} {CN : Addr} (F : FunD K "__init__" "Net.__init__" sNInit dV f fd) (NTx : NT K mg CN)
    {tM : Tok} {CP : Addr} (mN : mg "NoPoint" = some (.ref CP)) (xN : ExcC K CP) (mMP : mg "MOST_POINTS" = some (.int 20 tM))
    (G1 : FnOk P w K mg base CX0 1 g1 gd1 ["thing"] (spWhole K)) (b1 : Binds K gd1 ["thing"] []) (k1 : PySem.W.keepIn K (.ref g1) = true) (m1 : mg "is_whole" = some (.ref g1)) : FnOk P w K mg base (CX1 P w) 2 f fd ["self", "many"] (spNInitX CN K CP) := by
  refine F.okX scNInit (fun vs H Q E h => ?_) (fun cdv A outer s H vs Q E hr h => ?_)
  · obtain ⟨n, dx, v, rfl, hn, h⟩ := h
    rfl
  obtain ⟨n, dx, v, rfl, hn, h⟩ := h
  refine ⟨_, (pss_cons (ps_if (PW.pt (pw_or (pt_not (pt_val (pe_call G1 hr rfl m1 k1 b1 .nil pass0 (pa_cons (pv 1) pa_nil)))) (pw_or (pt_cmpR op_lt (pv 1) pe_int (nomark _)) (pw_or1 (pt_cmpR op_gt (pv 1) (pe_glob (v := .int 20) rfl mMP ⟨_, rfl⟩) (nomark _)))))) (pss_one (ps_raise frm_cxOf xe_cxOf rfl rfl mN xN (pa_cons pe_str pa_nil))) pss_nil)
    (pss_cons (ps_fld (pv 0) (pv 1) rfl)
    (pss_one (ps_fld (pv 0) (pe_lst pa_nil) rfl)))), ?_⟩
  have one : ([V.str "x"] : List V).length ≤ sizeLine := by show 1 ≤ sizeLine; decide
  rcases h with ⟨m, rfl, h1, h20, q⟩ | ⟨⟨m, rfl, h⟩ | ⟨t, ty, nw⟩, q⟩
  · refine ⟨_, rfl, _, rfl, .inl ⟨m, rfl, _, rfl, iteF ⟨_, rfl, _, _, rfl, rfl, _, rfl, ifF (decide_eq_false (by omega)) ⟨_, rfl, _, _, rfl, rfl, _, rfl, ifF (decide_eq_false (by omega)) ?_⟩⟩⟩⟩
    refine ⟨_, rfl, _, rfl, n, CN, dx, [], rfl, hn, NTx.cl, NTx.nP, (by show 0 < 1000; decide), ?_⟩
    refine ⟨by show 0 ≤ sizeLine; decide, fun l hl => ?_⟩
    have nl : n ≠ l := fun z => by subst z; rw [upd_same] at hl; cases hl
    have hl0 : H l = none := by rw [upd_ne (Ne.symm nl)] at hl; exact hl
    have l1 := length_putF ("point_count" : Str) (.int m) []
    simp only [List.length_nil] at l1
    refine ⟨_, rfl, n, CN, dx, putF "point_count" (.int m) [], rfl, by rw [upd_ne nl]; exact upd_same, NTx.cl, NTx.nK, by omega, ?_⟩
    refine q l _ hl0 (fun b o e hb => ?_) upd_same (by rw [upd_ne (Ne.symm nl)]; exact upd_same)
    rw [upd_ne hb, upd_ne (ne_of_none e hl0), upd_ne hb]
    exact e
  · refine ⟨_, rfl, _, rfl, .inl ⟨m, rfl, _, rfl, iteF ⟨_, rfl, _, _, rfl, rfl, _, rfl, ?_⟩⟩⟩
    by_cases h1 : m < 1
    · exact ifT (decide_eq_true h1) ⟨one, q⟩
    · exact ifF (decide_eq_false h1) ⟨_, rfl, _, _, rfl, rfl, _, rfl, ifT (decide_eq_true (by omega)) ⟨one, q⟩⟩
  · exact ⟨_, rfl, _, rfl, .inr ⟨t, ty, nw, _, rfl, iteT ⟨one, q⟩⟩⟩
abbrev sMany : Stmt := inClass (top 34) 1
theorem scMany : FnScope ["self"] ["self"] (defScope sMany) := ⟨rfl, rfl, rfl, by decide +kernel, rfl, by decide +kernel, by decide +kernel⟩
theorem ok_many {dV : Value} {CN : Addr} (F : FunD K "many" "Net.many" sMany dV f fd) (NTx : NT K mg CN) : FnOk P w K mg base CX 1 f fd ["self"] (spMany CN K) := by
  refine F.ok scMany (fun vs H Q E h => ?_) (fun cdv A outer s H vs Q E hr h => ?_)
  · obtain ⟨n, l, m, ds, rfl, ⟨⟨dx, hn⟩, ts, hl, hr'⟩, q⟩ := h
    rfl
  obtain ⟨n, l, m, ds, rfl, ⟨⟨dx, hn⟩, ts, hl, hr'⟩, q⟩ := h
  exact ⟨_, (pss_one (ps_ret (pe_fld (pv 0) rfl))), _, rfl, n, CN, dx, _, _, rfl, hn, NTx.cl, NTx.nP, nflds_pc _ _, q⟩
abbrev sCount : Stmt := inClass (top 34) 2
theorem scCount : FnScope ["self"] ["self"] (defScope sCount) := ⟨rfl, rfl, rfl, by decide +kernel, rfl, by decide +kernel, by decide +kernel⟩
theorem ok_count {dV : Value} {CN : Addr} (F : FunD K "count" "Net.count" sCount dV f fd) (NTx : NT K mg CN)
    (ml : mg "len" = none) : FnOk P w K mg base CX 1 f fd ["self"] (spCount CN K) := by
  refine F.ok scCount (fun vs H Q E h => ?_) (fun cdv A outer s H vs Q E hr h => ?_)
  · obtain ⟨n, l, m, ds, rfl, ⟨⟨dx, hn⟩, ts, hl, hr'⟩, q⟩ := h
    rfl
  obtain ⟨n, l, m, ds, rfl, ⟨⟨dx, hn⟩, ts, hl, hr'⟩, q⟩ := h
  refine ⟨_, (pss_one (ps_ret (pe_callB call_len_seq rfl ml PySem.boot_len (pa_cons (pe_fld (pv 0) rfl) pa_nil)))), _, rfl, n, CN, dx, _, _, rfl, hn, NTx.cl, NTx.nK, nflds_kept _ _, l, ts, rfl, .inl (SqL.of hl), ?_⟩
  rw [hr'.length]
  exact q
abbrev sNTold : Stmt := inClass (top 34) 6
abbrev sAdd : Stmt := inClass (top 34) 3
theorem scAdd : FnScope ["self", "row", "told"] ["self", "row"] (defScope sAdd) := ⟨rfl, rfl, rfl, by decide +kernel, rfl, by decide +kernel, by decide +kernel⟩
theorem ok_add {dV : Value} {CN : Addr} (F : FunD K "add" "Net.add" sAdd dV f fd) (NTx : NT K mg CN)
    {tR : Tok} (mMR : mg "MOST_ROWS" = some (.int 40 tR)) (ml : mg "len" = none) {gT : Addr} {gdT : FuncData} (T : RT K mg CR CK) (GT : FnOk P w K mg base CX0 2 gT gdT ["self"] (spRTold CK)) (bT : Binds K gdT ["self"] []) (mT : ∀ k, Meth K (CK k) "told" gT)
    (G1 : FnOk P w K mg base CX0 3 g1 gd1 ["some", "many"] (spRP K)) (b1 : Binds K gd1 ["some", "many"] []) (k1 : PySem.W.keepIn K (.ref g1) = true) (m1 : mg "refuse_points" = some (.ref g1))
    (G2 : FnOk P w K mg base CX0 4 g2 gd2 ["word", "size"] (spRS K)) (b2 : Binds K gd2 ["word", "size"] []) (k2 : PySem.W.keepIn K (.ref g2) = true) (m2 : mg "refuse_size" = some (.ref g2)) : FnOk P w K mg base CX 5 f fd ["self", "row"] (spAdd CN K CK) := by
  refine F.ok scAdd (fun vs H Q E h => ?_) (fun cdv A outer s H vs Q E hr h => ?_)
  · obtain ⟨n, l, x, z, m, ds, k, i, j, p, rfl, ⟨⟨dx, hn⟩, ts, hl, hR⟩, rw, fz, ⟨i0, i1, j0, j1, lp, h0, bp⟩, h40, q⟩ := h
    rfl
  obtain ⟨n, l, x, z, m, ds, k, i, j, p, rfl, ⟨⟨dx, hn⟩, ts, hl, hR⟩, rw, fz, ⟨i0, i1, j0, j1, lp, h0, bp⟩, h40, q⟩ := h
  have r2 := hr.mono (show 2 ≤ 4 by omega)
  have r3 := hr.mono (show 3 ≤ 4 by omega)
  refine ⟨_, (pss_cons (ps_set (i := 2) scAdd.nd rfl (Or.inl rfl) (pe_methD0 (f := fun _ => gT) (fd := fun _ => gdT) (sp := fun _ => spRTold CK) (pv 1) T.cl mT (fun _ => GT) r2 (fun _ => bT) .nil pass0))
    (pss_cons (ps_expr (pe_call G1 r3 rfl m1 k1 b1 .nil pass0 (pa_cons (pe_lst (pa_cons (pe_ix ix_tup (pv 2) pe_int (fun _ _ => rfl)) (pa_cons (pe_ix ix_tup (pv 2) pe_int (fun _ _ => rfl)) pa_nil))) (pa_cons (pe_fld (pv 0) rfl) pa_nil))))
    (pss_cons (ps_expr (pe_call G2 hr rfl m2 k2 b2 .nil pass0 (pa_cons (pe_ix ix_tup (pv 2) pe_int (fun _ _ => rfl)) (pa_cons (pe_ix ix_tup (pv 2) pe_int (fun _ _ => rfl)) pa_nil))))
    (pss_cons (ps_if (pt_cmpR op_ge (pe_callB call_len_seq rfl ml PySem.boot_len (pa_cons (pe_fld (pv 0) rfl) pa_nil)) (pe_glob (v := .int 40) rfl mMR ⟨_, rfl⟩) (nomark _)) (pss_one ps_never) pss_nil)
    (pss_cons (ps_expr (pe_bm PySem.F.plainAttrs_list PySem.F.slot_list_append PySem.F.type_list_append mt_append (pe_fld (pv 0) rfl) (pa_cons (pv 2) pa_nil)))
    (pss_one (ps_ret (pe_op op_sub (pe_callB call_len_seq rfl ml PySem.boot_len (pa_cons (pe_fld (pv 0) rfl) pa_nil)) pe_int)))))))), ?_⟩
  obtain ⟨dr, hx⟩ := id rw
  have len := hR.length
  refine ⟨_, rfl, k, x, dr, _, rfl, hx, (rflds_no _ _ _ (by decide +kernel) (by decide +kernel) (by decide +kernel)), x, k, _, _, _, rfl, rw, fun t ht => ?_⟩
  have st := same_new ht (.tup [.str k.wd, .int i, .int j, .ref z])
  have et : SqT K (upd H t (.tup [.str k.wd, .int i, .int j, .ref z])) t [.str k.wd, .int i, .int j, .ref z] := SqT.of upd_same
  generalize upd H t (.tup [.str k.wd, .int i, .int j, .ref z]) = H1a at st et ⊢
  have hn1 := st _ _ hn
  have hl1 := st _ _ hl
  refine ⟨_, rfl, t, _, 1, _, rfl, rfl, et, rfl, _, rfl, t, _, 2, _, rfl, rfl, et, rfl, by show 2 ≤ sizeLine; decide, fun lq hlq => ?_⟩
  have sq := same_new hlq (.lst [.int i, .int j])
  have eq : upd H1a lq (.lst [.int i, .int j]) lq = some (.lst [.int i, .int j]) := upd_same
  generalize upd H1a lq (.lst [.int i, .int j]) = H1b at sq eq ⊢
  have hnb := sq _ _ hn1
  refine ⟨_, rfl, n, CN, dx, _, _, rfl, hnb, NTx.cl, NTx.nP, nflds_pc _ _, lq, i, j, m, rfl, SqL.of eq, i0, i1, j0, j1, fun H1 sc => ?_⟩
  have sqc := sq.trans sc
  have st := st.trans sqc
  have et := sqc.seqT et
  have hn1 := sqc _ _ hn1
  have hl1 := sqc _ _ hl1
  refine ⟨_, rfl, t, _, 0, _, rfl, rfl, et, rfl, _, rfl, t, _, 3, _, rfl, rfl, et, rfl, k, z, p, rfl, st.fq fz, lp, h0, bp, ?_⟩
  refine ⟨_, rfl, n, CN, dx, _, _, rfl, hn1, NTx.cl, NTx.nK, nflds_kept _ _, l, ts, rfl, .inl (SqL.of hl1), _, _, rfl, rfl, _, rfl, ifF (decide_eq_false (by omega)) ?_⟩
  refine ⟨_, rfl, n, CN, dx, _, _, rfl, hn1, NTx.cl, NTx.nK, nflds_kept _ _, .inl ⟨rfl, _, SqL.of hl1⟩, _, rfl, l, ts, .ref t, rfl, rfl, hl1, small1000 (by omega), ?_⟩
  have nn : n ≠ l := ne_of hn1 hl1 (fun z => by cases z)
  have hn2 : upd H1 l (.lst (ts ++ [.ref t])) n = some (.ins CN dx (nflds m l)) := by rw [upd_ne nn]; exact hn1
  have hl2 : upd H1 l (.lst (ts ++ [.ref t])) l = some (.lst (ts ++ [.ref t])) := upd_same
  refine ⟨_, rfl, n, CN, dx, _, _, rfl, hn2, NTx.cl, NTx.nK, nflds_kept _ _, l, _, rfl, .inl (SqL.of hl2), _, _, rfl, rfl, ?_⟩
  show Q (.int (((ts ++ [V.ref t]).length : Int) - 1)) _
  rw [List.length_append, List.length_singleton, len, show (((ds.length + 1 : Nat) : Int) - 1) = (ds.length : Int) by omega]
  refine q _ (st.x.write) ⟨⟨dx, hn2⟩, _, hl2, Rts.upd hl1 ((hR.same st).app (.cons et (st.fq fz) .nil))⟩
theorem rs_good {g CZ : Addr} {gd : FuncData} (F : FnOk P w K mg base (CX1 P w) 4 g gd ["word", "size"] (spRSV K CZ)) : FnOk P w K mg base CX0 4 g gd ["word", "size"] (spRS K) :=
  F.calm.weak fun vs H Q E h => by
    obtain ⟨k, z, p, rfl, f, l, p0, bd, q⟩ := h
    have ok : okz k (some p) = true := by cases k <;> first | exact decide_eq_true (p0 rfl) | rfl
    exact ⟨k, _, some p, rfl, .fr f l, fun p' e => by cases e; exact bd, fun _ => q, fun z => by rw [ok] at z; cases z⟩
abbrev sRAt : Stmt := inClass (top 25) 2
theorem scRAt : FnScope ["self", "places"] ["self", "places"] (defScope sRAt) := ⟨rfl, rfl, rfl, by decide +kernel, rfl, by decide +kernel, by decide +kernel⟩
theorem ok_rat {dV : Value} (F : FunD K "at" "Row.at" sRAt dV f fd) (T : RT K mg CR CK)
    (GW : ∀ k, FnOk P w K mg base CX0 1 (fW k) (fdW k) ["self"] (spWord k)) (bW : ∀ k, Binds K (fdW k) ["self"] []) (mW : ∀ k, Meth K (CK k) "word" (fW k))
    (G1 : FnOk P w K mg base CX0 3 g1 gd1 ["told"] (spRowOfG K CK)) (b1 : Binds K gd1 ["told"] []) (k1 : PySem.W.keepIn K (.ref g1) = true) (m1 : mg "row_of" = some (.ref g1)) : FnOk P w K mg base CX 4 f fd ["self", "places"] (spAtL K CK) := by
  refine F.ok scRAt (fun vs H Q E h => ?_) (fun cdv A outer s H vs Q E hr h => ?_)
  · obtain ⟨x, l, k, i, j, z, v, w', xs, rfl, _⟩ := h
    rfl
  obtain ⟨x, l, k, i, j, z, v, w', xs, rfl, ⟨dx, hx⟩, hS, hi, hj, q⟩ := h
  have r1 := hr.mono (show 1 ≤ 3 by omega)
  refine ⟨_, (pss_one (ps_ret (pe_call G1 hr rfl m1 k1 b1 .nil pass0 (pa_cons (pe_tup (pa_cons (pe_methD0 (pv 0) T.cl mW GW r1 bW .nil pass0) (pa_cons (pe_ix ix_list (pv 1) (pe_fld (pv 0) rfl) (fun _ _ => rfl)) (pa_cons (pe_ix ix_list (pv 1) (pe_fld (pv 0) rfl) (fun _ _ => rfl)) (pa_cons (pe_fld (pv 0) rfl) pa_nil))))) pa_nil)))), ?_⟩
  refine ⟨_, rfl, k, x, dx, _, rfl, hx, (rflds_no _ _ _ (by decide +kernel) (by decide +kernel) (by decide +kernel)), _, rfl, ?_⟩
  refine ⟨_, rfl, _, rfl, x, CK k, dx, _, _, rfl, hx, T.cl _, T.nS _, rflds_start _ _ _, l, xs, _, _, rfl, rfl, hS, hi, ?_⟩
  refine ⟨_, rfl, _, rfl, x, CK k, dx, _, _, rfl, hx, T.cl _, T.nG _, rflds_goal _ _ _, l, xs, _, _, rfl, rfl, hS, hj, ?_⟩
  refine ⟨_, rfl, x, CK k, dx, _, _, rfl, hx, T.cl _, T.nZ _, rflds_size _ _ _, by show 4 ≤ sizeLine; decide, fun t ht => ?_⟩
  have st := same_new ht (.tup [.str k.wd, v, w', z])
  exact ⟨t, _, v, w', z, rfl, SqT.of upd_same, k, rfl, q.same st⟩
end
end K85

set_option Elab.async false
set_option linter.all false
set_option maxRecDepth 100000
set_option maxHeartbeats 4000000
namespace K85
open PySem L2 Tx
section
variable {P : Program} {w : World} {K : PySem.W.Frag} {mg : Str → Option Value} {base : Heap} {f g1 g2 g3 g4 g5 g6 g7 g8 : Addr} {fd gd1 gd2 gd3 gd4 gd5 gd6 gd7 gd8 : FuncData} {CX : CXT}
variable {CR : Addr} {CK : Kd → Addr} {fW fJ fT fS : Kd → Addr} {fdW fdJ fdT fdS : Kd → FuncData}
def ltB (c : Nat) : Bool := decide (97 ≤ c ∧ c ≤ 122)
def nmB (cs : List Nat) : Bool := decide (1 ≤ cs.length ∧ cs.length ≤ 8) && cs.all ltB
theorem in_letters (c : Nat) : (!(Builtin.Str.occurrences "abcdefghijklmnopqrstuvwxyz" ⟨#[c]⟩ 0 ("abcdefghijklmnopqrstuvwxyz" : Str).length 1).isEmpty) = ltB c := by
  rw [StrLaws.found_one]
  unfold ltB
  rw [Bool.eq_iff_iff, decide_eq_true_eq, decide_eq_true_eq]
  have e : ("abcdefghijklmnopqrstuvwxyz" : Str).cps.toList = [97, 98, 99, 100, 101, 102, 103, 104, 105, 106, 107, 108, 109, 110, 111, 112, 113, 114, 115, 116, 117, 118, 119, 120, 121, 122] := by decide +kernel
  rw [e]
  simp only [List.mem_cons, List.not_mem_nil, or_false]
  omega
def NoStr (K : PySem.W.Frag) (H : Hp) (x : V) : Prop := ∃ t, TyQ K H x t ∧ PySem.W.kitOne K t (.type "str") = some false
def spName (K : PySem.W.Frag) : Sp := fun vs H Q _ => ∃ x, vs = [x] ∧ ((∃ cs, x = .str (S cs) ∧ cs.length ≤ 1000000 ∧ ∀ H', Same H H' → Q (.bl (nmB cs)) H') ∨ (NoStr K H x ∧ Q (.bl false) H))
theorem nd_sign : (["sign"] : List Str).Nodup := by decide +kernel
abbrev sName : Stmt := top 45
theorem scName : FnScope ["thing"] ["thing"] (defScope sName) := ⟨rfl, rfl, rfl, by decide +kernel, rfl, by decide +kernel, by decide +kernel⟩
theorem ok_name {dV : Value} (F : FunD K "is_name" "is_name" sName dV f fd)
    (b : Bl mg) (ms : mg "str" = none) (ml : mg "len" = none) (ma : mg "all" = none) {tL tM : Tok} (mLE : mg "LETTERS" = some (.str "abcdefghijklmnopqrstuvwxyz" tL)) (mML : mg "MOST_LETTERS" = some (.int 8 tM)) :
    FnOk P w K mg base CX 1 f fd ["thing"] (spName K) := by
  refine F.ok scName (fun vs H Q E h => ?_) (fun cdv A outer s H vs Q E hr h => ?_)
  · obtain ⟨x, rfl, h⟩ := h
    rfl
  obtain ⟨x, rfl, h⟩ := h
  refine ⟨_, (pss_cons (ps_if (PW.pt (pw_or (pt_not (pt_val (pe_isiQ (i := 0) rfl (Or.inl rfl) b.isi ms rfl rfl PyProof.Rows.boot_str))) (pw_or (pt_cmpR op_lt (pe_callB call_len_str rfl ml PySem.boot_len (pa_cons (pv 0) pa_nil)) pe_int (nomark _)) (pw_or1 (pt_cmpR op_gt (pe_callB call_len_str rfl ml PySem.boot_len (pa_cons (pv 0) pa_nil)) (pe_glob (v := .int 8) rfl mML ⟨_, rfl⟩) (nomark _)))))) (pss_one (ps_ret pe_bl)) pss_nil)
    (pss_one (ps_ret (pe_callB (call_all rfl) rfl ma PyProof.Rows.boot_all (pa_cons (pe_comp (nl := 1) (fr := []) (Nc := ["sign"]) (cl := []) rfl ⟨rfl, rfl, by decide +kernel, by decide +kernel, fun x c h => (by cases h), has_of rfl, rfl, fun i n h => (by simp at h)⟩
        (pi_str (pv 0)) (fun C s3 H3 fp pins => (pg_name (i := 0) nd_sign rfl (Or.inl rfl))) (fun C s3 H3 fp pins => pif_nil)
        (fun C s3 H3 fp pins => (pe_cmpR op_in_str (pv 0) (pe_glob (v := .str "abcdefghijklmnopqrstuvwxyz") rfl mLE ⟨_, rfl⟩) rfl))) pa_nil))))), ?_⟩
  have hz : sizeLine = 16777216 := sizeLine_eq
  rcases h with ⟨cs, rfl, hl, q⟩ | ⟨⟨t, ty, nw⟩, q⟩
  rotate_left
  · exact ⟨_, _, false, rfl, ty, nw, _, rfl, iteT q⟩
  refine ⟨_, _, true, rfl, .of (.str _), (by with_unfolding_all rfl), _, rfl, iteF ?_⟩
  have no : ¬ (1 ≤ cs.length ∧ cs.length ≤ 8) → Q (.bl false) H := fun c => by
    have := q H (Same.refl H)
    unfold nmB at this
    rw [decide_eq_false c, Bool.false_and] at this
    exact this
  refine ⟨_, rfl, _, rfl, by rw [S_len]; omega, _, _, rfl, rfl, _, rfl, ?_⟩
  rw [S_len]
  refine ite2 (fun c => ?_) (fun c => ?_)
  · have c' := of_decide_eq_true c
    exact no (by omega)
  have c1 : 1 ≤ cs.length := by
    simp only [decide_eq_true_eq] at c
    omega
  refine ⟨_, rfl, _, rfl, by rw [S_len]; omega, _, _, rfl, rfl, _, rfl, ?_⟩
  rw [S_len]
  refine ite2 (fun c => ?_) (fun c => ?_)
  · have c' := of_decide_eq_true c
    exact no (by omega)
  have c2 : cs.length ≤ 8 := by
    simp only [decide_eq_true_eq] at c
    omega
  refine ⟨_, rfl, _, rfl, fun D hD => ?_⟩
  have sD := same_new hD (.lst [])
  refine comp_str (fun i ys H' => Same H H' ∧ H' D = some (.lst ys) ∧ ys = (cs.take i).map (fun c => V.bl (ltB c))) ⟨sD, upd_same, rfl⟩ (fun i ys H' h => h.2.1) ?_ ?_
  · rintro i ys c H1 hc ⟨s1, e1, rfl⟩ C hC
    refine ⟨keep1.1, keep1.2, iteT ?_⟩
    refine ⟨_, rfl, _, _, rfl, rfl, ?_⟩
    rw [in_letters]
    have hi : i < cs.length := (List.getElem?_eq_some_iff.mp hc).1
    refine ⟨e1, by simp only [List.length_map, List.length_take]; omega, hC _ _ ⟨s1.change hD, upd_same, ?_⟩⟩
    rw [List.take_succ, hc, List.map_append]
    rfl
  · rintro ys H1 ⟨s1, e1, rfl⟩
    refine ⟨D, cs.map ltB, rfl, ?_, ?_⟩
    · rw [List.take_length] at e1
      rw [List.map_map]
      exact SqL.of e1
    · have := q H1 s1
      unfold nmB at this
      rw [decide_eq_true ⟨c1, c2⟩, Bool.true_and] at this
      rw [List.all_map]
      exact this
def spRNames (K : PySem.W.Frag) (CM : Addr) : Sp := fun vs H Q E => ∃ (l : Addr) (X : List (List Nat)), vs = [.ref l] ∧ SqL K H l (X.map fun cs => V.str (S cs)) ∧ X.length ≤ 1000 ∧ (∀ cs ∈ X, cs.length ≤ 1000000) ∧ ∀ H', Same H H' → (X.all nmB = true → Q .non H') ∧ (X.all nmB = false → E (.ref CM) none H')
theorem nd_word : (["word"] : List Str).Nodup := by decide +kernel
abbrev sRNames : Stmt := top 50
theorem scRNames : FnScope ["words"] ["words"] (defScope sRNames) := ⟨rfl, rfl, rfl, by decide +kernel, rfl, by decide +kernel, by decide +kernel⟩
theorem ok_rnames {dV : Value} (F : FunD K "refuse_names" "refuse_names" sRNames dV f fd)
    {CM : Addr} (ma : mg "all" = none)
    (G1 : FnOk P w K mg base CX0 1 g1 gd1 ["thing"] (spName K)) (b1 : Binds K gd1 ["thing"] []) (k1 : PySem.W.keepIn K (.ref g1) = true) (m1 : mg "is_name" = some (.ref g1))
    (mN : mg "NoName" = some (.ref CM)) (xN : ExcC K CM) :
    FnOk P w K mg base (CX1 P w) 2 f fd ["words"] (spRNames K CM) := by
  refine F.okX scRNames (fun vs H Q E h => ?_) (fun cdv A outer s H vs Q E hr h => ?_)
  · obtain ⟨l, X, rfl, hl, h1000, hX, q⟩ := h
    rfl
  obtain ⟨l, X, rfl, hl, h1000, hX, q⟩ := h
  refine ⟨_, (pss_one (ps_if (pt_not (pt_val (pe_callB (call_all rfl) rfl ma PyProof.Rows.boot_all (pa_cons (pe_comp (nl := 1) (fr := []) (Nc := ["word"]) (cl := []) rfl ⟨rfl, rfl, by decide +kernel, by decide +kernel, fun x c h => (by cases h), has_of rfl, rfl, fun i n h => (by simp at h)⟩
        (pi_list (pv 0)) (fun C s3 H3 fp pins => (pg_name (i := 0) nd_word rfl (Or.inl rfl))) (fun C s3 H3 fp pins => pif_nil)
        (fun C s3 H3 fp pins => (pe_call G1 hr rfl m1 k1 b1 .nil pass0 (pa_cons (pv 0) pa_nil)))) pa_nil)))) (pss_one (ps_raise frm_cxOf xe_cxOf rfl rfl mN xN (pa_cons pe_str pa_nil))) pss_nil)), ?_⟩
  refine ⟨_, rfl, l, rfl, ⟨_, hl⟩, fun D hD => ?_⟩
  have sD := same_new hD (.lst [])
  refine comp_list (xs := X.map fun cs => V.str (S cs)) (fun k zs H' => Same H H' ∧ H' D = some (.lst zs) ∧ zs = (X.take k).map fun cs => V.bl (nmB cs)) ⟨sD, upd_same, rfl⟩ (fun k zs H' h => h.2.1) (fun k zs H' _ h => h.1.seq hl) ?_ ?_
  · rintro k zs x H1 hx ⟨s1, e1, rfl⟩ C hC
    have hk : k < X.length := by have := (List.getElem?_eq_some_iff.mp hx).1; rw [List.length_map] at this; exact this
    obtain ⟨cs, hcs⟩ : ∃ cs, X[k]? = some cs := ⟨_, List.getElem?_eq_getElem hk⟩
    have ex : x = .str (S cs) := by rw [List.getElem?_map, hcs] at hx; cases hx; rfl
    subst ex
    refine ⟨keep1.1, keep1.2, iteT ?_⟩
    refine ⟨_, rfl, _, rfl, .inl ⟨cs, rfl, hX cs (List.mem_of_getElem? hcs), fun H2 s2 => ?_⟩⟩
    refine ⟨s2 _ _ e1, small1000 (by rw [List.length_map, List.length_take]; omega), hC _ _ ⟨(s1.trans s2).change hD, upd_same, ?_⟩⟩
    rw [List.take_add_one, hcs, List.map_append]; rfl
  · rintro zs H1 ⟨s1, e1, rfl⟩
    rw [List.length_map, List.take_length] at e1
    refine ⟨D, X.map nmB, rfl, by rw [List.map_map]; exact SqL.of e1, _, rfl, ?_⟩
    rw [show (X.map nmB).all id = X.all nmB by rw [List.all_map]; rfl]
    cases e : X.all nmB with
    | true => exact iteF ((q _ s1).1 e)
    | false => exact iteT ⟨by show 1 ≤ sizeLine; decide, (q _ s1).2 e⟩
end
end K85

set_option Elab.async false
set_option linter.all false
set_option maxRecDepth 100000
set_option maxHeartbeats 4000000
namespace K85
open PySem L2 Tx
section
variable {P : Program} {w : World} {K : PySem.W.Frag} {mg : Str → Option Value} {base : Heap} {f g1 g2 g3 g4 g5 g6 g7 g8 : Addr} {fd gd1 gd2 gd3 gd4 gd5 gd6 gd7 gd8 : FuncData} {CX : CXT}
variable {CR : Addr} {CK : Kd → Addr} {fW fJ fT fS : Kd → Addr} {fdW fdJ fdT fdS : Kd → FuncData}
def spWordsX (K : PySem.W.Frag) (CR : Addr) : Sp := fun vs H Q E => ∃ x, vs = [x] ∧ ((∃ (xs : List (List Nat)), x = .str (S (jnc 32 xs)) ∧ xs ≠ [] ∧ (∀ x ∈ xs, 32 ∉ x) ∧ (jnc 32 xs).length ≤ 1000000 ∧ ∀ l H', Same H H' → H l = none → H' l = some (.lst (xs.map fun x => V.str (S x))) → Q (.ref l) H') ∨ (NoStr K H x ∧ E (.ref CR) none H))
def rowW : List Str := ["piece", "push", "hold"]
def formM (w : Str) (n : Int) : Bool := if w ∈ rowW then decide (n = 4) else if w = "part" then decide (3 ≤ n) else if w = "put" then decide (4 ≤ n) else decide (w = "done") && decide (n = 1)
def spFormX : Sp := fun vs H Q _ => ∃ (w : Str) (n : Int), vs = [.str w, .int n] ∧ Q (.bl (formM w n)) H
def spRFormX (K : PySem.W.Frag) (CR : Addr) : Sp := fun vs H Q E => ∃ (l : Addr) (w : Str) (r : List V), vs = [.ref l] ∧ SqL K H l (.str w :: r) ∧ r.length ≤ 1000000 ∧ (formM w ((r.length : Int) + 1) = true → Q .non H) ∧ (formM w ((r.length : Int) + 1) = false → E (.ref CR) none H)
theorem mod3 {K : PySem.W.Frag} {a : Addr} {d : Option Addr} {n : Nat} {sl : Array (Option Value)} {x y z : Str} {t u v : Tok} (l : K.lookup a = some ⟨.type "tuple", d, .seq #[.str x t, .str y u, .str z v] n, sl⟩) (H : Hp) : SqT K H a [.str x, .str y, .str z] :=
  .inr ⟨_, _, _, l, rfl, rfl, (by show 3 ≤ sizeLine; decide), .cons ⟨_, rfl⟩ (.cons ⟨_, rfl⟩ (.cons ⟨_, rfl⟩ .nil))⟩
theorem eqV_str (p c : Str) : eqV (.str p) (.str c) = decide (p = c) := by unfold eqV; first | rfl | simp
theorem inV_strs (c : Str) : ∀ ps : List Str, inV (.str c) (ps.map V.str) = decide (c ∈ ps)
  | [] => rfl
  | p :: ps => by
    have ih := inV_strs c ps
    show (eqV (.str p) (.str c) || inV (.str c) (ps.map V.str)) = _
    rw [ih, eqV_str]
    by_cases h : p = c
    · subst h; simp
    · have h' : c ≠ p := fun z => h z.symm
      simp [h, h']
abbrev sWords : Stmt := top 47
theorem scWords : FnScope ["row"] ["row"] (defScope sWords) := ⟨rfl, rfl, rfl, by decide +kernel, rfl, by decide +kernel, by decide +kernel⟩
theorem ok_words {dV : Value} (F : FunD K "words_of" "words_of" sWords dV f fd)
    {CR' : Addr} (b : Bl mg) (ms : mg "str" = none) (mN : mg "NoRow" = some (.ref CR')) (xN : ExcC K CR') :
    FnOk P w K mg base (CX1 P w) 1 f fd ["row"] (spWordsX K CR') := by
  refine F.okX scWords (fun vs H Q E h => ?_) (fun cdv A outer s H vs Q E hr h => ?_)
  · obtain ⟨x, rfl, h⟩ := h
    rfl
  obtain ⟨x, rfl, h⟩ := h
  refine ⟨_, (pss_cons (ps_if (pt_not (pt_val (pe_isiQ (i := 0) rfl (Or.inl rfl) b.isi ms rfl rfl PyProof.Rows.boot_str))) (pss_one (ps_raise frm_cxOf xe_cxOf rfl rfl mN xN (pa_cons pe_str pa_nil))) pss_nil)
    (pss_one (ps_ret (pe_bm PySem.F.plainAttrs_str PySem.F.slot_str_split PySem.F.type_str_split mt_split (pv 0) (pa_cons pe_str pa_nil))))), ?_⟩
  have hz : sizeLine = 16777216 := sizeLine_eq
  rcases h with ⟨xs, rfl, h0, h32, hl, q⟩ | ⟨⟨t, ty, nw⟩, q⟩
  rotate_left
  · exact ⟨_, _, false, rfl, ty, nw, _, rfl, iteT ⟨by show 1 ≤ sizeLine; decide, q⟩⟩
  refine ⟨_, _, true, rfl, .of (.str _), (by with_unfolding_all rfl), _, rfl, iteF ?_⟩
  refine ⟨_, rfl, rfl, _, _, rfl, rfl, by decide, by rw [S_len]; omega, fun D hD => ?_⟩
  rw [show (" " : Str) = ⟨#[32]⟩ by decide +kernel, split_is h0 h32]
  exact q D _ (same_new hD _) hD (by rw [upd_same, List.map_map]; rfl)
abbrev sForm : Stmt := top 49
theorem scForm : FnScope ["word", "count"] ["word", "count"] (defScope sForm) := ⟨rfl, rfl, rfl, by decide +kernel, rfl, by decide +kernel, by decide +kernel⟩
theorem ok_form {dV : Value} (F : FunD K "has_form" "has_form" sForm dV f fd)
    {aW : Addr} (hW : ∀ H, SqT K H aW [.str "piece", .str "push", .str "hold"]) (mRW : mg "ROW_WORDS" = some (.ref aW)) :
    FnOk P w K mg base CX 1 f fd ["word", "count"] spFormX := by
  refine F.ok scForm (fun vs H Q E h => ?_) (fun cdv A outer s H vs Q E hr h => ?_)
  · obtain ⟨w, n, rfl, q⟩ := h
    rfl
  obtain ⟨w, n, rfl, q⟩ := h
  refine ⟨_, (pss_cons (ps_if (pt_cmpR op_in_seq (pv 0) (pe_glob (v := .ref aW) rfl mRW rfl) rfl) (pss_one (ps_ret (pe_cmpR op_eq (pv 1) pe_int (nomark _)))) pss_nil)
    (pss_cons (ps_if (pt_cmpR op_eq (pv 0) pe_str (nomark _)) (pss_one (ps_ret (pe_cmpR op_ge (pv 1) pe_int (nomark _)))) pss_nil)
    (pss_cons (ps_if (pt_cmpR op_eq (pv 0) pe_str (nomark _)) (pss_one (ps_ret (pe_cmpR op_ge (pv 1) pe_int (nomark _)))) pss_nil)
    (pss_one (ps_ret (pe_and (pe_cmpR op_eq (pv 0) pe_str (nomark _)) (pe_one (pe_cmpR op_eq (pv 1) pe_int (nomark _))))))))), ?_⟩
  unfold formM at q
  refine ⟨_, rfl, aW, rowW.map V.str, rfl, .inr (hW _), rfl, rfl, _, rfl, ?_⟩
  show (if inV (.str w) (rowW.map V.str) = true then _ else _)
  rw [inV_strs]
  have e : ∀ x : Str, decide (V.str w = V.str x) = decide (w = x) := fun x => decide_eq_decide.mpr ⟨fun z => by injection z, fun z => by rw [z]⟩
  have en : ∀ k : Int, decide (V.int n = V.int k) = decide (n = k) := fun k => decide_eq_decide.mpr ⟨fun z => by injection z, fun z => by rw [z]⟩
  by_cases hw : w ∈ rowW
  · refine L2.ifT (decide_eq_true hw) ⟨_, rfl, rfl, ?_⟩
    rw [if_pos hw] at q
    show Q (.bl (decide (V.int n = V.int 4))) H
    rw [en]
    exact q
  · refine L2.ifF (decide_eq_false hw) ?_
    rw [if_neg hw] at q
    by_cases h1 : w = "part"
    · rw [if_pos h1] at q
      exact ⟨_, rfl, rfl, _, rfl, L2.ifT (by rw [e]; exact decide_eq_true h1) ⟨_, rfl, _, _, rfl, rfl, q⟩⟩
    · rw [if_neg h1] at q
      refine ⟨_, rfl, rfl, _, rfl, L2.ifF (by rw [e]; exact decide_eq_false h1) ?_⟩
      by_cases h2 : w = "put"
      · rw [if_pos h2] at q
        exact ⟨_, rfl, rfl, _, rfl, L2.ifT (by rw [e]; exact decide_eq_true h2) ⟨_, rfl, _, _, rfl, rfl, q⟩⟩
      · rw [if_neg h2] at q
        refine ⟨_, rfl, rfl, _, rfl, L2.ifF (by rw [e]; exact decide_eq_false h2) ?_⟩
        by_cases h3 : w = "done"
        · rw [decide_eq_true h3, Bool.true_and] at q
          refine ⟨_, rfl, rfl, _, rfl, L2.ifT (by rw [e]; exact decide_eq_true h3) ⟨_, rfl, rfl, ?_⟩⟩
          show Q (.bl (decide (V.int n = V.int 1))) H
          rw [en]
          exact q
        · rw [decide_eq_false h3, Bool.false_and] at q
          exact ⟨_, rfl, rfl, _, rfl, L2.ifF (by rw [e]; exact decide_eq_false h3) q⟩
abbrev sRForm : Stmt := top 48
theorem scRForm : FnScope ["words"] ["words"] (defScope sRForm) := ⟨rfl, rfl, rfl, by decide +kernel, rfl, by decide +kernel, by decide +kernel⟩
theorem ok_rform {dV : Value} (F : FunD K "refuse_form" "refuse_form" sRForm dV f fd)
    {CR' : Addr} (ml : mg "len" = none)
    (G1 : FnOk P w K mg base CX0 1 g1 gd1 ["word", "count"] spFormX) (b1 : Binds K gd1 ["word", "count"] []) (k1 : PySem.W.keepIn K (.ref g1) = true) (m1 : mg "has_form" = some (.ref g1))
    (mN : mg "NoRow" = some (.ref CR')) (xN : ExcC K CR') :
    FnOk P w K mg base (CX1 P w) 2 f fd ["words"] (spRFormX K CR') := by
  refine F.okX scRForm (fun vs H Q E h => ?_) (fun cdv A outer s H vs Q E hr h => ?_)
  · obtain ⟨l, w, r, rfl, hl, h6, q1, q2⟩ := h
    rfl
  obtain ⟨l, w, r, rfl, hl, h6, q1, q2⟩ := h
  refine ⟨_, (pss_one (ps_if (pt_not (pt_val (pe_call G1 hr rfl m1 k1 b1 .nil pass0 (pa_cons (pe_ix ix_list (pv 0) pe_int (fun _ _ => rfl)) (pa_cons (pe_callB call_len_seq rfl ml PySem.boot_len (pa_cons (pv 0) pa_nil)) pa_nil))))) (pss_one (ps_raise frm_cxOf xe_cxOf rfl rfl mN xN (pa_cons pe_str pa_nil))) pss_nil)), ?_⟩
  refine ⟨_, rfl, l, _, _, _, rfl, rfl, hl, atI_nat (j := 0) rfl, _, rfl, l, _, rfl, .inl hl, w, _, rfl, _, rfl, ?_⟩
  rw [show (((V.str w :: r).length : Nat) : Int) = (r.length : Int) + 1 by rw [List.length_cons]; omega]
  cases c : formM w ((r.length : Int) + 1) with
  | true => exact iteF (q1 c)
  | false => exact iteT ⟨by show 1 ≤ sizeLine; decide, q2 c⟩
end
end K85

set_option Elab.async false
set_option linter.all false
set_option maxRecDepth 100000
set_option maxHeartbeats 4000000
namespace K85
open PySem L2 Tx
section
variable {P : Program} {w : World} {K : PySem.W.Frag} {mg : Str → Option Value} {base : Heap} {f g1 g2 g3 g4 g5 g6 g7 g8 : Addr} {fd gd1 gd2 gd3 gd4 gd5 gd6 gd7 gd8 : FuncData} {CX : CXT}
variable {CR : Addr} {CK : Kd → Addr} {fW fJ fT fS : Kd → Addr} {fdW fdJ fdT fdS : Kd → FuncData}
def spPInit (CP : Addr) (K : PySem.W.Frag) : Sp := fun vs H Q _ => ∃ (g dg a : Addr) (e : Int) (ls : List Str), vs = [.ref g, .ref a, .int e] ∧ H g = some (.ins CP dg []) ∧ SqL K H a (ls.map V.str) ∧ g ≠ a ∧
  ∀ l t p H', (∀ b o, H b = some o → b ≠ g → H' b = some o) → H l = none → H t = none → H p = none → H' g = some (.ins CP dg (pfl l e t p)) → H' l = some (.lst (ls.map V.str)) → H' t = some (.lst []) → H' p = some (.lst []) → l ≠ t → l ≠ p → t ≠ p → Q .non H'
def spPCopy (CP : Addr) : Sp := fun vs H Q _ => ∃ (g l t p : Addr) (e : Int) (ls : List Str) (es ps : List V), vs = [.ref g] ∧ PlAt CP H g l e t p ls es ps ∧
  ∀ g' l' t' p' H', Same H H' → H g' = none → H l' = none → H t' = none → H p' = none → PlAt CP H' g' l' e t' p' ls es ps → Q (.ref g') H'
def lput (ls : List Str) (x : Str) : List Str := if x ∈ ls then ls else ls ++ [x]
def spPlace (CP : Addr) : Sp := fun vs H Q _ => ∃ (g l t p : Addr) (e : Int) (ls : List Str) (es ps : List V) (x : Str), vs = [.ref g, .str x] ∧ PlAt CP H g l e t p ls es ps ∧ ls.length ≤ 500 ∧
  ∀ (j : Nat) H', SameX l H H' → PlAt CP H' g l e t p (lput ls x) es ps → (lput ls x)[j]? = some x → Q (.int (j : Int)) H'
def spEnter (CP : Addr) (K : PySem.W.Frag) : Sp := fun vs H Q _ => ∃ (g l t p : Addr) (e : Int) (ls : List Str) (es ps : List V) (wd x y : Str) (z : V), vs = [.ref g, .str wd, .str x, .str y, z] ∧ PlAt CP H g l e t p ls es ps ∧ ls.length ≤ 400 ∧ es.length ≤ 500 ∧
  ∀ (i j : Nat) u H', (∀ b o, H b = some o → b ≠ l → b ≠ t → H' b = some o) → SqT K H' u [.str wd, .int (i : Int), .int (j : Int), z] → (lput (lput ls x) y)[i]? = some x → (lput (lput ls x) y)[j]? = some y → PlAt CP H' g l e t p (lput (lput ls x) y) (es ++ [.ref u]) ps → Q .non H'
def spOver (CP : Addr) : Sp := fun vs H Q _ => ∃ (g l t p : Addr) (e : Int) (ls : List Str) (es ps : List V), vs = [.ref g] ∧ PlAt CP H g l e t p ls es ps ∧ Q (.bl (decide (20 < ls.length) || decide (40 < es.length))) H
theorem first_at (x : Str) : ∀ (ls : List Str), x ∈ ls → ∃ j, ls[j]? = some x ∧ (∀ i, i < j → ls[i]? ≠ some x) ∧ j < ls.length
  | [], h => by cases h
  | a :: r, h => by
    by_cases e : a = x
    · exact ⟨0, by rw [e]; rfl, fun i hi => by omega, by simp⟩
    · obtain ⟨j, h1, h2, h3⟩ := first_at x r (by rcases List.mem_cons.mp h with z | z; exact absurd z.symm e; exact z)
      refine ⟨j + 1, h1, fun i hi => ?_, by simp; omega⟩
      cases i with
      | zero => intro z; exact e (by simpa using z)
      | succ i => exact h2 i (by omega)
theorem lput_in (ls : List Str) (x : Str) : x ∈ lput ls x := by
  unfold lput
  by_cases h : x ∈ ls
  · rw [if_pos h]; exact h
  · rw [if_neg h]; simp
theorem lput_len (ls : List Str) (x : Str) : (lput ls x).length ≤ ls.length + 1 := by
  unfold lput
  by_cases h : x ∈ ls
  · rw [if_pos h]; omega
  · rw [if_neg h]; simp
theorem lput_keep {ls : List Str} {x : Str} (y : Str) {i : Nat} (h : ls[i]? = some x) : (lput ls y)[i]? = some x := by
  unfold lput
  by_cases c : y ∈ ls
  · rw [if_pos c]; exact h
  · rw [if_neg c, List.getElem?_append_left (List.getElem?_eq_some_iff.mp h).1]; exact h
theorem flat_strs : ∀ ps : List Str, (ps.map V.str).all flatV = true
  | [] => rfl
  | p :: ps => by show (true && (ps.map V.str).all flatV) = true; rw [flat_strs ps]; rfl
abbrev sPInit : Stmt := inClass (top 39) 0
theorem scPInit : FnScope ["self", "labels", "end_count"] ["self", "labels", "end_count"] (defScope sPInit) := ⟨rfl, rfl, rfl, by decide +kernel, rfl, by decide +kernel, by decide +kernel⟩
theorem ok_pinit {dV : Value} {CP : Addr} (F : FunD K "__init__" "Plan.__init__" sPInit dV f fd) (PTx : PlT K mg CP)
    (mli : mg "list" = none) : FnOk P w K mg base CX 1 f fd ["self", "labels", "end_count"] (spPInit CP K) := by
  refine F.ok scPInit (fun vs H Q E h => ?_) (fun cdv A outer s H vs Q E hr h => ?_)
  · obtain ⟨g, dg, a, e, ls, rfl, hg, hA, nga, q⟩ := h
    rfl
  obtain ⟨g, dg, a, e, ls, rfl, hg, hA, nga, q⟩ := h
  refine ⟨_, (pss_cons (ps_fld (pv 0) (pe_callTy call_list_of rfl mli PyProof.Rows.boot_list (pa_cons (pv 1) pa_nil)) rfl)
    (pss_cons (ps_fld (pv 0) (pv 2) rfl)
    (pss_cons (ps_fld (pv 0) (pe_lst pa_nil) rfl)
    (pss_one (ps_fld (pv 0) (pe_lst pa_nil) rfl))))), ?_⟩
  refine ⟨_, rfl, a, _, rfl, .inl hA, fun l hl => ?_⟩
  have nl : g ≠ l := fun z => by rw [z, hl] at hg; cases hg
  have s1 := same_new hl (.lst (ls.map V.str))
  have e1 : upd H l (.lst (ls.map V.str)) l = some (.lst (ls.map V.str)) := upd_same
  have g1' := s1 _ _ hg
  generalize upd H l (.lst (ls.map V.str)) = H1 at s1 e1 g1' ⊢
  refine ⟨_, rfl, g, CP, dg, [], rfl, g1', PTx.cl, PTx.nl, by show 0 < 1000; decide, ?_⟩
  have l1 := length_putF ("labels" : Str) (.ref l) []
  simp only [List.length_nil] at l1
  refine ⟨_, rfl, _, rfl, g, CP, dg, putF "labels" (.ref l) [], rfl, upd_same, PTx.cl, PTx.ne, by omega, ?_⟩
  have l2 := length_putF ("end_count" : Str) (.int e) (putF "labels" (.ref l) [])
  refine ⟨by show 0 ≤ sizeLine; decide, fun t ht => ?_⟩
  have nt : g ≠ t := fun z => by rw [← z, upd_same] at ht; cases ht
  have ht1 : H1 t = none := by rw [upd_ne (Ne.symm nt), upd_ne (Ne.symm nt)] at ht; exact ht
  refine ⟨_, rfl, g, CP, dg, putF "end_count" (.int e) (putF "labels" (.ref l) []), rfl, (by rw [upd_ne nt]; exact upd_same), PTx.cl, PTx.nt, by omega, ?_⟩
  have l3 := length_putF ("entries" : Str) (.ref t) (putF "end_count" (.int e) (putF "labels" (.ref l) []))
  refine ⟨by show 0 ≤ sizeLine; decide, fun p hp => ?_⟩
  have np : g ≠ p := fun z => by rw [← z, upd_same] at hp; cases hp
  have ntp : t ≠ p := fun z => by rw [← z, upd_ne (Ne.symm nt), upd_same] at hp; cases hp
  have hp1 : H1 p = none := by rw [upd_ne (Ne.symm np), upd_ne (Ne.symm ntp), upd_ne (Ne.symm np), upd_ne (Ne.symm np)] at hp; exact hp
  refine ⟨_, rfl, g, CP, dg, putF "entries" (.ref t) (putF "end_count" (.int e) (putF "labels" (.ref l) [])), rfl, (by rw [upd_ne np]; exact upd_same), PTx.cl, PTx.np, by omega, ?_⟩
  rw [pfl_make]
  have nlt : l ≠ t := ne_of_none e1 ht1
  have nlp : l ≠ p := ne_of_none e1 hp1
  refine q l t p _ (fun b o h nb => ?_) hl (s1.free ht1) (s1.free hp1) upd_same ?_ ?_ ?_ nlt nlp ntp
  · have hb := s1 _ _ h
    rw [upd_ne nb, upd_ne (ne_of_none hb hp1), upd_ne nb, upd_ne (ne_of_none hb ht1), upd_ne nb, upd_ne nb]
    exact hb
  · rw [upd_ne (Ne.symm nl), upd_ne nlp, upd_ne (Ne.symm nl), upd_ne nlt, upd_ne (Ne.symm nl), upd_ne (Ne.symm nl)]
    exact e1
  · rw [upd_ne (Ne.symm nt), upd_ne ntp, upd_ne (Ne.symm nt)]
    exact upd_same
  · rw [upd_ne (Ne.symm np)]
    exact upd_same
abbrev sPCopy : Stmt := inClass (top 39) 1
theorem scPCopy : FnScope ["self", "made"] ["self"] (defScope sPCopy) := ⟨rfl, rfl, rfl, by decide +kernel, rfl, by decide +kernel, by decide +kernel⟩
theorem ok_pcopy {dV : Value} {CP : Addr} (F : FunD K "copy" "Plan.copy" sPCopy dV f fd) (PTx : PlT K mg CP)
    (mli : mg "list" = none)
    {gPI : Addr} {gdPI : FuncData} (GPI : FnOk P w K mg base CX0 1 gPI gdPI ["self", "labels", "end_count"] (spPInit CP K)) (bPI : Binds K gdPI ["self", "labels", "end_count"] []) (MP : Mk K CP gPI) : FnOk P w K mg base CX 3 f fd ["self"] (spPCopy CP) := by
  refine F.ok scPCopy (fun vs H Q E h => ?_) (fun cdv A outer s H vs Q E hr h => ?_)
  · obtain ⟨g, l, t, p, e, ls, es, ps, rfl, PA, q⟩ := h
    rfl
  obtain ⟨g, l, t, p, e, ls, es, ps, rfl, PA, q⟩ := h
  obtain ⟨⟨dg, hg⟩, hl, ht, hp, lt, lp, tp⟩ := PA
  refine ⟨_, (pss_cons (ps_set (i := 1) scPCopy.nd rfl (Or.inl rfl) (pe_make MP GPI hr rfl PTx.mP bPI .nil pass0 (pa_cons (pe_fld (pv 0) rfl) (pa_cons (pe_fld (pv 0) rfl) pa_nil))))
    (pss_cons (ps_fld (pv 1) (pe_callTy call_list_of rfl mli PyProof.Rows.boot_list (pa_cons (pe_fld (pv 0) rfl) pa_nil)) rfl)
    (pss_cons (ps_fld (pv 1) (pe_callTy call_list_of rfl mli PyProof.Rows.boot_list (pa_cons (pe_fld (pv 0) rfl) pa_nil)) rfl)
    (pss_one (ps_ret (pv 1)))))), ?_⟩
  refine ⟨_, rfl, g, CP, dg, _, _, rfl, hg, PTx.cl, PTx.nl, pfl_l _ _ _ _, _, rfl, g, CP, dg, _, _, rfl, hg, PTx.cl, PTx.ne, pfl_e _ _ _ _, fun x dx h1 h2 ne => ?_⟩
  have hgx : ∀ b o, H b = some o → (upd (upd H dx (.own x)) x (.ins CP dx [])) b = some o := fun b o h => by rw [upd_ne (ne_of_none h h1), upd_ne (ne_of_none h h2)]; exact h
  refine ⟨x, dx, l, e, ls, rfl, upd_same, SqL.of (hgx _ _ hl), Ne.symm (ne_of_none hl h1), fun l1 t1 p1 H2 keep nl nt np hx hl1 ht1 hp1 a1 a2 a3 => ⟨rfl, ?_⟩⟩
  have s2 : Same H H2 := fun b o h => keep b o (hgx b o h) (ne_of_none h h1)
  have nn : ∀ b, (upd (upd H dx (.own x)) x (.ins CP dx [])) b = none → H b = none := fun b h => by
    cases o : H b with
    | none => rfl
    | some o' => rw [hgx _ _ o] at h; cases h
  have nxl : x ≠ l1 := fun z => by rw [← z, upd_same] at nl; cases nl
  clear keep
  refine ⟨_, rfl, g, CP, dg, _, _, rfl, (s2 _ _ hg), PTx.cl, PTx.nt, pfl_t _ _ _ _, t, es, rfl, .inl (SqL.of (s2 _ _ ht)), fun t2 ht2 => ?_⟩
  have s3 := same_new ht2 (.lst es)
  have e3 : upd H2 t2 (.lst es) t2 = some (.lst es) := upd_same
  generalize upd H2 t2 (.lst es) = H3 at s3 e3 ⊢
  refine ⟨_, rfl, x, CP, dx, pfl l1 e t1 p1, rfl, (s3 _ _ hx), PTx.cl, PTx.nt, by show 4 < 1000; decide, ?_⟩
  rw [pfl_en]
  have nxg : g ≠ x := ne_of_none hg h1
  have nxt2 : x ≠ t2 := ne_of_none hx ht2
  have n12 : l1 ≠ t2 := ne_of_none hl1 ht2
  have hx3 : upd H3 x (.ins CP dx (pfl l1 e t2 p1)) x = some (.ins CP dx (pfl l1 e t2 p1)) := upd_same
  have s4 : Same H (upd H3 x (.ins CP dx (pfl l1 e t2 p1))) := (s2.trans s3).change h1
  have hl3 : upd H3 x (.ins CP dx (pfl l1 e t2 p1)) l1 = some (.lst (ls.map V.str)) := by rw [upd_ne (Ne.symm nxl)]; exact s3 _ _ hl1
  have ht3 : upd H3 x (.ins CP dx (pfl l1 e t2 p1)) t2 = some (.lst es) := by rw [upd_ne (Ne.symm nxt2)]; exact e3
  generalize upd H3 x (.ins CP dx (pfl l1 e t2 p1)) = H4 at hx3 s4 hl3 ht3 ⊢
  refine ⟨_, rfl, g, CP, dg, _, _, rfl, (s4 _ _ hg), PTx.cl, PTx.np, pfl_p _ _ _ _, p, ps, rfl, .inl (SqL.of (s4 _ _ hp)), fun p2 hp2 => ?_⟩
  have s5 := same_new hp2 (.lst ps)
  have e5 : upd H4 p2 (.lst ps) p2 = some (.lst ps) := upd_same
  generalize upd H4 p2 (.lst ps) = H5 at s5 e5 ⊢
  refine ⟨_, rfl, x, CP, dx, pfl l1 e t2 p1, rfl, (s5 _ _ hx3), PTx.cl, PTx.np, by show 4 < 1000; decide, ?_⟩
  rw [pfl_pn]
  have nxp2 : x ≠ p2 := ne_of_none hx3 hp2
  refine ⟨_, rfl, q x l1 t2 p2 _ ((s4.trans s5).change h1) h1 (nn _ nl) (s2.free ht2) (s4.free hp2) ⟨⟨dx, upd_same⟩, ?_, ?_, ?_, n12, ne_of_none hl3 hp2, ne_of_none ht3 hp2⟩⟩
  · rw [upd_ne (Ne.symm nxl)]; exact s5 _ _ hl3
  · rw [upd_ne (Ne.symm nxt2)]; exact s5 _ _ ht3
  · rw [upd_ne (Ne.symm nxp2)]; exact e5
abbrev sPlace : Stmt := inClass (top 39) 2
theorem scPlace : FnScope ["self", "label"] ["self", "label"] (defScope sPlace) := ⟨rfl, rfl, rfl, by decide +kernel, rfl, by decide +kernel, by decide +kernel⟩
theorem ok_place {dV : Value} {CP : Addr} (F : FunD K "place_of" "Plan.place_of" sPlace dV f fd) (PTx : PlT K mg CP) : FnOk P w K mg base CX 1 f fd ["self", "label"] (spPlace CP) := by
  refine F.ok scPlace (fun vs H Q E h => ?_) (fun cdv A outer s H vs Q E hr h => ?_)
  · obtain ⟨g, l, t, p, e, ls, es, ps, x, rfl, PA, h500, q⟩ := h
    rfl
  obtain ⟨g, l, t, p, e, ls, es, ps, x, rfl, PA, h500, q⟩ := h
  obtain ⟨⟨dg, hg⟩, hl, ht, hp, lt, lp, tp⟩ := PA
  refine ⟨_, (pss_cons (ps_if (pt_cmpR op_notIn_seq (pv 1) (pe_fld (pv 0) rfl) rfl) (pss_one (ps_expr (pe_bm PySem.F.plainAttrs_list PySem.F.slot_list_append PySem.F.type_list_append mt_append (pe_fld (pv 0) rfl) (pa_cons (pv 1) pa_nil)))) pss_nil)
    (pss_one (ps_ret (pe_bm PySem.F.plainAttrs_list PySem.F.slot_list_index PySem.F.type_list_index mt_indexS (pe_fld (pv 0) rfl) (pa_cons (pv 1) pa_nil))))), ?_⟩
  refine ⟨_, rfl, _, rfl, g, CP, dg, _, _, rfl, hg, PTx.cl, PTx.nl, pfl_l _ _ _ _, l, _, rfl, .inl (SqL.of hl), rfl, flat_strs _, _, rfl, ?_⟩
  show (if (!inV (.str x) (ls.map V.str)) = true then _ else _)
  rw [inV_strs]
  have ngl : g ≠ l := ne_of hg hl (fun z => by cases z)
  by_cases hx : x ∈ ls
  · refine L2.ifF (by rw [decide_eq_true hx]; rfl) ?_
    obtain ⟨j, j1, j2, j3⟩ := first_at x ls hx
    refine ⟨_, rfl, g, CP, dg, _, _, rfl, hg, PTx.cl, PTx.nl, pfl_l _ _ _ _, .inl ⟨rfl, _, SqL.of hl⟩, _, rfl, l, ls, x, j, rfl, rfl, SqL.of hl, j1, j2, by omega, ?_⟩
    have el : lput ls x = ls := if_pos hx
    exact q j H (fun b o h _ => h) (by rw [el]; exact ⟨⟨dg, hg⟩, hl, ht, hp, lt, lp, tp⟩) (by rw [el]; exact j1)
  · refine L2.ifT (by rw [decide_eq_false hx]; rfl) ?_
    have el : lput ls x = ls ++ [x] := if_neg hx
    refine ⟨_, rfl, g, CP, dg, _, _, rfl, hg, PTx.cl, PTx.nl, pfl_l _ _ _ _, .inl ⟨rfl, _, SqL.of hl⟩, _, rfl, l, _, _, rfl, rfl, hl, small1000 (by rw [List.length_map]; omega), ?_⟩
    have hg2 : upd H l (.lst (ls.map V.str ++ [.str x])) g = some (.ins CP dg (pfl l e t p)) := by rw [upd_ne ngl]; exact hg
    have hl2 : upd H l (.lst (ls.map V.str ++ [.str x])) l = some (.lst ((lput ls x).map V.str)) := by rw [upd_same, el, List.map_append]; rfl
    have ht2 : upd H l (.lst (ls.map V.str ++ [.str x])) t = some (.lst es) := by rw [upd_ne (Ne.symm lt)]; exact ht
    have hp2 : upd H l (.lst (ls.map V.str ++ [.str x])) p = some (.lst ps) := by rw [upd_ne (Ne.symm lp)]; exact hp
    have sx : SameX l H (upd H l (.lst (ls.map V.str ++ [.str x]))) := fun b o h n => by rw [upd_ne n]; exact h
    generalize upd H l (.lst (ls.map V.str ++ [.str x])) = H1 at hg2 hl2 ht2 hp2 sx ⊢
    obtain ⟨j, j1, j2, j3⟩ := first_at x (lput ls x) (lput_in _ _)
    have ll := lput_len ls x
    refine ⟨_, rfl, g, CP, dg, _, _, rfl, hg2, PTx.cl, PTx.nl, pfl_l _ _ _ _, .inl ⟨rfl, _, SqL.of hl2⟩, _, rfl, l, lput ls x, x, j, rfl, rfl, SqL.of hl2, j1, j2, by omega, ?_⟩
    exact q j H1 sx ⟨⟨dg, hg2⟩, hl2, ht2, hp2, lt, lp, tp⟩ j1
abbrev sEnter : Stmt := inClass (top 39) 3
theorem scEnter : FnScope ["self", "word", "start", "goal", "size", "begin", "end"] ["self", "word", "start", "goal", "size"] (defScope sEnter) := ⟨rfl, rfl, rfl, by decide +kernel, rfl, by decide +kernel, by decide +kernel⟩
theorem ok_enter {dV : Value} {CP : Addr} (F : FunD K "enter" "Plan.enter" sEnter dV f fd) (PTx : PlT K mg CP)
    {gPl : Addr} {gdPl : FuncData} (GPl : FnOk P w K mg base CX0 1 gPl gdPl ["self", "label"] (spPlace CP)) (bPl : Binds K gdPl ["self", "label"] []) (mPl : Meth K CP "place_of" gPl) : FnOk P w K mg base CX 2 f fd ["self", "word", "start", "goal", "size"] (spEnter CP K) := by
  refine F.ok scEnter (fun vs H Q E h => ?_) (fun cdv A outer s H vs Q E hr h => ?_)
  · obtain ⟨g, l, t, p, e, ls, es, ps, wd, x, y, z, rfl, PA, h400, h500, q⟩ := h
    rfl
  obtain ⟨g, l, t, p, e, ls, es, ps, wd, x, y, z, rfl, PA, h400, h500, q⟩ := h
  obtain ⟨dg, hg⟩ := PA.ob
  have l1 := lput_len ls x
  have l2 := lput_len (lput ls x) y
  refine ⟨_, (pss_cons (ps_set (i := 5) scEnter.nd rfl (Or.inl rfl) (pe_meth (pv 0) PTx.cl mPl GPl hr bPl .nil pass0 (pa_cons (pv 2) pa_nil)))
    (pss_cons (ps_set (i := 6) scEnter.nd rfl (Or.inl rfl) (pe_meth (pv 0) PTx.cl mPl GPl hr bPl .nil pass0 (pa_cons (pv 3) pa_nil)))
    (pss_one (ps_expr (pe_bm PySem.F.plainAttrs_list PySem.F.slot_list_append PySem.F.type_list_append mt_append (pe_fld (pv 0) rfl) (pa_cons (pe_tup (pa_cons (pv 1) (pa_cons (pv 5) (pa_cons (pv 6) (pa_cons (pv 4) pa_nil))))) pa_nil)))))), ?_⟩
  refine ⟨_, rfl, g, dg, _, rfl, hg, (by with_unfolding_all rfl), _, rfl, g, l, t, p, e, ls, es, ps, x, rfl, PA, by omega, fun i H1 x1 P1 hi => ?_⟩
  obtain ⟨dg1, hg1⟩ := P1.ob
  refine ⟨_, rfl, g, dg1, _, rfl, hg1, (by with_unfolding_all rfl), _, rfl, g, l, t, p, e, _, es, ps, y, rfl, P1, by omega, fun j H2 x2 P2 hj => ?_⟩
  obtain ⟨⟨dg2, hg2⟩, hl2, ht2, hp2, lt, lp, tp⟩ := P2
  refine ⟨_, rfl, g, CP, dg2, _, _, rfl, hg2, PTx.cl, PTx.nt, pfl_t _ _ _ _, .inl ⟨rfl, _, SqL.of ht2⟩, _, rfl, _, rfl, _, rfl, _, rfl, by show 4 ≤ sizeLine; decide, fun u hu => ?_⟩
  have s3 := same_new hu (.tup [.str wd, .int (i : Int), .int (j : Int), z])
  have e3 : upd H2 u (.tup [.str wd, .int (i : Int), .int (j : Int), z]) u = some (.tup [.str wd, .int (i : Int), .int (j : Int), z]) := upd_same
  generalize upd H2 u (.tup [.str wd, .int (i : Int), .int (j : Int), z]) = H3 at s3 e3 ⊢
  refine ⟨t, es, .ref u, rfl, rfl, s3 _ _ ht2, small1000 (by omega), ?_⟩
  have ngt : g ≠ t := ne_of hg2 ht2 (fun z => by cases z)
  have nut : u ≠ t := Ne.symm (ne_of_none ht2 hu)
  refine q i j u _ (fun b o h n1 n2 => by rw [upd_ne n2]; exact s3 _ _ (x2 _ _ (x1 _ _ h n1) n1)) (SqT.of (by rw [upd_ne nut]; exact e3)) (lput_keep y hi) hj ⟨⟨dg2, by rw [upd_ne ngt]; exact s3 _ _ hg2⟩, by rw [upd_ne lt]; exact s3 _ _ hl2, upd_same, by rw [upd_ne (Ne.symm tp)]; exact s3 _ _ hp2, lt, lp, tp⟩
abbrev sOver : Stmt := inClass (top 39) 5
theorem scOver : FnScope ["self"] ["self"] (defScope sOver) := ⟨rfl, rfl, rfl, by decide +kernel, rfl, by decide +kernel, by decide +kernel⟩
theorem ok_over {dV : Value} {CP : Addr} (F : FunD K "is_overfull" "Plan.is_overfull" sOver dV f fd) (PTx : PlT K mg CP)
    {tM tR : Tok} (mMP : mg "MOST_POINTS" = some (.int 20 tM)) (mMR : mg "MOST_ROWS" = some (.int 40 tR)) (ml : mg "len" = none) : FnOk P w K mg base CX 1 f fd ["self"] (spOver CP) := by
  refine F.ok scOver (fun vs H Q E h => ?_) (fun cdv A outer s H vs Q E hr h => ?_)
  · obtain ⟨g, l, t, p, e, ls, es, ps, rfl, PA, q⟩ := h
    rfl
  obtain ⟨g, l, t, p, e, ls, es, ps, rfl, PA, q⟩ := h
  obtain ⟨⟨dg, hg⟩, hl, ht, hp, lt, lp, tp⟩ := PA
  refine ⟨_, (pss_one (ps_ret (pe_or (pe_cmpR op_gt (pe_callB call_len_seq rfl ml PySem.boot_len (pa_cons (pe_fld (pv 0) rfl) pa_nil)) (pe_glob (v := .int 20) rfl mMP ⟨_, rfl⟩) (nomark _)) (pe_one (pe_cmpR op_gt (pe_callB call_len_seq rfl ml PySem.boot_len (pa_cons (pe_fld (pv 0) rfl) pa_nil)) (pe_glob (v := .int 40) rfl mMR ⟨_, rfl⟩) (nomark _)))))), ?_⟩
  refine ⟨_, rfl, g, CP, dg, _, _, rfl, hg, PTx.cl, PTx.nl, pfl_l _ _ _ _, l, _, rfl, .inl (SqL.of hl), _, _, rfl, rfl, _, rfl, ?_⟩
  have e1 : decide (((ls.map V.str).length : Int) > 20) = decide (20 < ls.length) := by rw [List.length_map]; exact decide_eq_decide.mpr (by omega)
  have e2 : decide ((es.length : Int) > 40) = decide (40 < es.length) := decide_eq_decide.mpr (by omega)
  by_cases h : 20 < ls.length
  · refine L2.ifT (by show decide (((ls.map V.str).length : Int) > 20) = true; rw [e1]; exact decide_eq_true h) ?_
    rw [decide_eq_true h, Bool.true_or] at q
    exact q
  · refine L2.ifF (by show decide (((ls.map V.str).length : Int) > 20) = false; rw [e1]; exact decide_eq_false h) ?_
    refine ⟨_, rfl, g, CP, dg, _, _, rfl, hg, PTx.cl, PTx.nt, pfl_t _ _ _ _, t, _, rfl, .inl (SqL.of ht), _, _, rfl, rfl, ?_⟩
    show Q (.bl (decide ((es.length : Int) > 40))) H
    rw [e2]
    rw [decide_eq_false h, Bool.false_or] at q
    exact q
def spYInit (CY CP : Addr) : Sp := fun vs H Q _ => ∃ (y dy : Addr), vs = [.ref y] ∧ H y = some (.ins CY dy []) ∧
  ∀ g l t p d H', (∀ b o, H b = some o → b ≠ y → H' b = some o) → H' y = some (.ins CY dy (yfl g d .non .non)) → H l = none → H t = none → H p = none → H d = none → PlAt CP H' g l 0 t p [] [] [] → H' d = some (.dK []) → Q .non H'
abbrev sYInit : Stmt := inClass (top 46) 0
theorem scYInit : FnScope ["self"] ["self"] (defScope sYInit) := ⟨rfl, rfl, rfl, by decide +kernel, rfl, by decide +kernel, by decide +kernel⟩
theorem ok_yinit {dV : Value} {CY : Addr} (F : FunD K "__init__" "Yard.__init__" sYInit dV f fd) (YTx : YaT K mg CY) {CP : Addr} (PTx : PlT K mg CP)
    {gPI : Addr} {gdPI : FuncData} (GPI : FnOk P w K mg base CX0 1 gPI gdPI ["self", "labels", "end_count"] (spPInit CP K)) (bPI : Binds K gdPI ["self", "labels", "end_count"] []) (MP : Mk K CP gPI) : FnOk P w K mg base CX 3 f fd ["self"] (spYInit CY CP) := by
  refine F.ok scYInit (fun vs H Q E h => ?_) (fun cdv A outer s H vs Q E hr h => ?_)
  · obtain ⟨y, dy, rfl, hy, q⟩ := h
    rfl
  obtain ⟨y, dy, rfl, hy, q⟩ := h
  refine ⟨_, (pss_cons (ps_fld (pv 0) (pe_make MP GPI hr rfl PTx.mP bPI .nil pass0 (pa_cons (pe_lst pa_nil) (pa_cons pe_int pa_nil))) rfl)
    (pss_cons (ps_fld (pv 0) pe_dnewK rfl)
    (pss_cons (ps_fld (pv 0) pe_non rfl)
    (pss_one (ps_fld (pv 0) pe_non rfl))))), ?_⟩
  refine ⟨by show 0 ≤ sizeLine; decide, fun a ha => ?_⟩
  have nya : y ≠ a := ne_of_none hy ha
  have s1 := same_new ha (.lst [])
  have e1 : upd H a (.lst []) a = some (.lst []) := upd_same
  generalize upd H a (.lst []) = H1 at s1 e1 ⊢
  have hy1 := s1 _ _ hy
  intro x dx h1 h2 ne
  have hgx : ∀ b o, H1 b = some o → (upd (upd H1 dx (.own x)) x (.ins CP dx [])) b = some o := fun b o h => by rw [upd_ne (ne_of_none h h1), upd_ne (ne_of_none h h2)]; exact h
  refine ⟨x, dx, a, 0, [], rfl, upd_same, SqL.of (hgx _ _ e1), Ne.symm (ne_of_none e1 h1), fun l1 t1 p1 H2 keep nl nt np hx hl1 ht1 hp1 a1 a2 a3 => ⟨rfl, ?_⟩⟩
  have s2 : Same H1 H2 := fun b o h => keep b o (hgx b o h) (ne_of_none h h1)
  clear keep
  have nn : ∀ {b : Addr}, (upd (upd H1 dx (.own x)) x (.ins CP dx [])) b = none → H b = none := fun {b} h => by
    cases o : H b with
    | none => rfl
    | some o' => rw [hgx _ _ (s1 _ _ o)] at h; cases h
  have nn2 : ∀ {b : Addr}, H2 b = none → H b = none := fun {b} h => by
    cases o : H b with
    | none => rfl
    | some o' => rw [s2 _ _ (s1 _ _ o)] at h; cases h
  have hy2 := s2 _ _ hy1
  refine ⟨_, rfl, y, CY, dy, [], rfl, hy2, YTx.cl, YTx.ng, by show 0 < 1000; decide, ?_⟩
  have nyx : y ≠ x := ne_of_none hy1 h1
  have nyl : l1 ≠ y := Ne.symm (ne_of hy2 hl1 (fun z => by cases z))
  have nyt : t1 ≠ y := Ne.symm (ne_of hy2 ht1 (fun z => by cases z))
  have nyp : p1 ≠ y := Ne.symm (ne_of hy2 hp1 (fun z => by cases z))
  have l1' := length_putF ("ground" : Str) (.ref x) []
  simp only [List.length_nil] at l1'
  have l2' := fun d : Addr => length_putF ("parts" : Str) (.ref d) (putF "ground" (.ref x) [])
  have l3' := fun d : Addr => length_putF ("opened" : Str) .non (putF "parts" (.ref d) (putF "ground" (.ref x) []))
  intro d hd
  have nyd : y ≠ d := fun z => by rw [← z, upd_same] at hd; cases hd
  have hd2 : H2 d = none := by rw [upd_ne (Ne.symm nyd)] at hd; exact hd
  have l2 := l2' d
  have l3 := l3' d
  refine ⟨_, rfl, y, CY, dy, putF "ground" (.ref x) [], rfl, (by rw [upd_ne nyd]; exact upd_same), YTx.cl, YTx.nd, by omega, ?_⟩
  refine ⟨_, rfl, y, CY, dy, putF "parts" (.ref d) (putF "ground" (.ref x) []), rfl, upd_same, YTx.cl, YTx.no, by omega, ?_⟩
  refine ⟨_, rfl, y, CY, dy, putF "opened" .non (putF "parts" (.ref d) (putF "ground" (.ref x) [])), rfl, upd_same, YTx.cl, YTx.nq, by omega, ?_⟩
  rw [yfl_make]
  have far : ∀ b, b ≠ y → b ≠ d → upd (upd (upd (upd (upd H2 y (.ins CY dy (putF "ground" (.ref x) []))) d (.dK [])) y (.ins CY dy (putF "parts" (.ref d) (putF "ground" (.ref x) [])))) y (.ins CY dy (putF "opened" .non (putF "parts" (.ref d) (putF "ground" (.ref x) []))))) y (.ins CY dy (yfl x d .non .non)) b = H2 b := fun b n1 n2 => by rw [upd_ne n1, upd_ne n1, upd_ne n1, upd_ne n2, upd_ne n1]
  refine q x l1 t1 p1 d _ (fun b o h nb => ?_) upd_same (nn nl) (nn nt) (nn np) (nn2 hd2) ⟨⟨dx, ?_⟩, ?_, ?_, ?_, a1, a2, a3⟩ ?_
  · have hb := s2 _ _ (s1 _ _ h)
    rw [far b nb (ne_of_none hb hd2)]; exact hb
  · rw [far x (Ne.symm nyx) (ne_of_none hx hd2)]; exact hx
  · rw [far l1 nyl (ne_of_none hl1 hd2)]; exact hl1
  · rw [far t1 nyt (ne_of_none ht1 hd2)]; exact ht1
  · rw [far p1 nyp (ne_of_none hp1 hd2)]; exact hp1
  · rw [upd_ne (Ne.symm nyd), upd_ne (Ne.symm nyd), upd_ne (Ne.symm nyd)]; exact upd_same
def spROverX (CP CT : Addr) : Sp := fun vs H Q E => ∃ (g l t p : Addr) (e : Int) (ls : List Str) (es ps : List V), vs = [.ref g] ∧ PlAt CP H g l e t p ls es ps ∧ ((ls.length ≤ 20 ∧ es.length ≤ 40) → Q .non H) ∧ (¬ (ls.length ≤ 20 ∧ es.length ≤ 40) → E (.ref CT) none H)
abbrev sROver : Stmt := top 51
theorem scROver : FnScope ["plan"] ["plan"] (defScope sROver) := ⟨rfl, rfl, rfl, by decide +kernel, rfl, by decide +kernel, by decide +kernel⟩
theorem ok_rover {dV : Value} (F : FunD K "refuse_overfull" "refuse_overfull" sROver dV f fd)
    {CP CT : Addr} (PTx : PlT K mg CP)
    {gOv : Addr} {gdOv : FuncData} (GOv : FnOk P w K mg base CX0 1 gOv gdOv ["self"] (spOver CP)) (bOv : Binds K gdOv ["self"] []) (mOv : Meth K CP "is_overfull" gOv)
    (mN : mg "TooMany" = some (.ref CT)) (xN : ExcC K CT) :
    FnOk P w K mg base (CX1 P w) 2 f fd ["plan"] (spROverX CP CT) := by
  refine F.okX scROver (fun vs H Q E h => ?_) (fun cdv A outer s H vs Q E hr h => ?_)
  · obtain ⟨g, l, t, p, e, ls, es, ps, rfl, PA, q1, q2⟩ := h
    rfl
  obtain ⟨g, l, t, p, e, ls, es, ps, rfl, PA, q1, q2⟩ := h
  obtain ⟨dg, hg⟩ := PA.ob
  refine ⟨_, (pss_one (ps_if (pt_val (pe_meth0 (pv 0) PTx.cl mOv GOv hr bOv .nil pass0)) (pss_one (ps_raise frm_cxOf xe_cxOf rfl rfl mN xN (pa_cons pe_str pa_nil))) pss_nil)), ?_⟩
  refine ⟨_, rfl, g, dg, _, rfl, hg, (by with_unfolding_all rfl), g, l, t, p, e, ls, es, ps, rfl, PA, _, rfl, ?_⟩
  by_cases h : ls.length ≤ 20 ∧ es.length ≤ 40
  · exact L2.ifF (by rw [decide_eq_false (by omega), decide_eq_false (by omega)]; rfl) (q1 h)
  · refine L2.ifT ?_ ⟨by show 1 ≤ sizeLine; decide, q2 h⟩
    by_cases h1 : 20 < ls.length
    · rw [decide_eq_true h1]; rfl
    · rw [decide_eq_true (show 40 < es.length by omega), Bool.or_true]
end
end K85

set_option Elab.async false
set_option linter.all false
set_option maxRecDepth 100000
set_option maxHeartbeats 4000000
namespace K85
open PySem L2 Tx
section
variable {P : Program} {w : World} {K : PySem.W.Frag} {mg : Str → Option Value} {base : Heap} {f g1 g2 g3 g4 g5 g6 g7 g8 : Addr} {fd gd1 gd2 gd3 gd4 gd5 gd6 gd7 gd8 : FuncData} {CX : CXT}
variable {CR : Addr} {CK : Kd → Addr} {fW fJ fT fS : Kd → Addr} {fdW fdJ fdT fdS : Kd → FuncData}
theorem sub_nil {ec : List (Str × Addr)} : ∀ (x : Str) (c : Addr), ([] : List (Str × Addr)).lookup x = some c → ec.lookup x = some c := fun _ _ h => by cases h
theorem sub_cons {ec cl : List (Str × Addr)} {a : Str} {d : Addr} (h : ec.lookup a = some d) (r : ∀ x c, cl.lookup x = some c → ec.lookup x = some c) : ∀ x c, ((a, d) :: cl).lookup x = some c → ec.lookup x = some c := fun x c e => by
  rw [List.lookup_cons] at e
  cases q : x == a with
  | true => rw [q] at e; rw [eq_of_beq q, h]; exact e
  | false => rw [q] at e; exact r x c e
def inn (nm : Str) (e : Nat) (ls : List Str) : List Str := (ls.drop e).map fun x => nm ++ "." ++ x
def lps (ls labs : List Str) : List Str := labs.foldl lput ls
def mvD (sp : List Int) (d : RD) : RD := (d.1, sp.getD d.2.1.toNat 0, sp.getD d.2.2.1.toNat 0, d.2.2.2)
theorem cut_from (xs : List V) (e : Nat) : cutV xs (some (e : Int)) none = xs.drop e := by
  unfold cutV
  have h2 : HT.sIx xs.length 0 (some (e : Int)) = min e xs.length := by
    simp only [HT.sIx]
    rw [if_neg (by omega), show ((e : Int)).toNat = e by omega]
  have h1 : HT.sIx xs.length xs.length none = xs.length := rfl
  rw [h1, h2]
  rw [List.take_of_length_le (by rw [List.length_drop]; exact Nat.le_refl _)]
  by_cases h : e ≤ xs.length
  · rw [Nat.min_eq_left h]
  · rw [Nat.min_eq_right (by omega), List.drop_length, List.drop_eq_nil_of_le (by omega)]
theorem lps_len : ∀ (labs ls : List Str), (lps ls labs).length ≤ ls.length + labs.length
  | [], ls => by show ls.length ≤ ls.length + 0; omega
  | x :: r, ls => by
    have h := lps_len r (lput ls x)
    have h2 := lput_len ls x
    show (lps (lput ls x) r).length ≤ _
    rw [List.length_cons]; omega
theorem lps_snoc (ls labs : List Str) (x : Str) : lps ls (labs ++ [x]) = lput (lps ls labs) x := by unfold lps; rw [List.foldl_append]; rfl
def SpAt (ls : List Str) (labs : List Str) (sp : List Int) : Prop := sp.length = labs.length ∧ ∀ (i : Nat) (x : Str), labs[i]? = some x → ∃ j : Nat, sp[i]? = some (j : Int) ∧ ls[j]? = some x
def spPut (CP : Addr) (K : PySem.W.Frag) : Sp := fun vs H Q _ => ∃ (g l t p h l2 t2 p2 pt : Addr) (e : Int) (e2 : Nat) (nm : Str) (ls ls2 pts : List Str) (es ps es2 ps2 : List V) (ds2 : List RD), vs = [.ref g, .str nm, .ref h, .ref pt] ∧ PlAt CP H g l e t p ls es ps ∧ PlAt CP H h l2 (e2 : Int) t2 p2 ls2 es2 ps2 ∧ H pt = some (.lst (pts.map V.str)) ∧ Rts K H es2 ds2 ∧
  (∀ d ∈ ds2, 0 ≤ d.2.1 ∧ d.2.1.toNat < (pts ++ inn nm e2 ls2).length ∧ 0 ≤ d.2.2.1 ∧ d.2.2.1.toNat < (pts ++ inn nm e2 ls2).length) ∧
  (l2 ≠ l ∧ l2 ≠ t ∧ l2 ≠ p ∧ t2 ≠ l ∧ t2 ≠ t ∧ t2 ≠ p ∧ pt ≠ l ∧ pt ≠ t ∧ pt ≠ p) ∧ h ≠ g ∧
  ls.length ≤ 100 ∧ ls2.length ≤ 100 ∧ pts.length ≤ 100 ∧ es.length ≤ 200 ∧ es2.length ≤ 200 ∧ ps.length ≤ 500 ∧ nm.length ≤ 1000 ∧ (∀ x ∈ ls2, x.length ≤ 100000) ∧
  ∀ sp us H', (∀ b o, H b = some o → b ≠ l → b ≠ t → b ≠ p → H' b = some o) → PlAt CP H' g l e t p (lps ls (pts ++ inn nm e2 ls2)) (es ++ us) (ps ++ [.str nm]) → Rts K H' us (ds2.map (mvD sp)) → SpAt (lps ls (pts ++ inn nm e2 ls2)) (pts ++ inn nm e2 ls2) sp → Q .non H'
theorem nd_label_name : (["label", "name"] : List Str).Nodup := by decide +kernel
theorem nd_entry_spots : (["entry", "spots"] : List Str).Nodup := by decide +kernel
abbrev sPut : Stmt := inClass (top 39) 4
theorem scPut : FnScope ["self", "name", "part", "points", "inner", "spots", "label"] ["self", "name", "part", "points"] (defScope sPut) := ⟨rfl, rfl, rfl, by decide +kernel, rfl, by decide +kernel, by decide +kernel⟩
theorem ok_put {dV : Value} {CP : Addr} (F : FunD K "put_in" "Plan.put_in" sPut dV f fd) (PTx : PlT K mg CP)
    {gPl : Addr} {gdPl : FuncData} (GPl : FnOk P w K mg base CX0 1 gPl gdPl ["self", "label"] (spPlace CP)) (bPl : Binds K gdPl ["self", "label"] []) (mPl : Meth K CP "place_of" gPl)
    {gT : Addr} {gdT : FuncData} (T : RT K mg CR CK) (GT : FnOk P w K mg base CX0 2 gT gdT ["self"] (spRTold CK)) (bT : Binds K gdT ["self"] []) (mT : ∀ k, Meth K (CK k) "told" gT)
    {gA : Addr} {gdA : FuncData} (GA : FnOk P w K mg base CX0 4 gA gdA ["self", "places"] (spAtL K CK)) (bA : Binds K gdA ["self", "places"] []) (mA : ∀ k, Meth K (CK k) "at" gA)
    (G1 : FnOk P w K mg base CX0 3 g1 gd1 ["told"] (spRowOfG K CK)) (b1 : Binds K gd1 ["told"] []) (k1 : PySem.W.keepIn K (.ref g1) = true) (m1 : mg "row_of" = some (.ref g1)) : FnOk P w K mg base CX 5 f fd ["self", "name", "part", "points"] (spPut CP K) := by
  refine F.ok scPut (fun vs H Q E h => ?_) (fun cdv A outer s H vs Q E hr h => ?_)
  · obtain ⟨g, l, t, p, h, l2, t2, p2, pt, e, e2, nm, ls, ls2, pts, es, ps, es2, ps2, ds2, rfl, PA, PB, hpt, hR, hD, ⟨x1, x2, x3, x4, x5, x6, x7, x8, x9⟩, nhg, b1', b2', b3', b4', b5', b6', b7', b8', q⟩ := h
    rfl
  obtain ⟨g, l, t, p, h, l2, t2, p2, pt, e, e2, nm, ls, ls2, pts, es, ps, es2, ps2, ds2, rfl, PA, PB, hpt, hR, hD, ⟨x1, x2, x3, x4, x5, x6, x7, x8, x9⟩, nhg, b1', b2', b3', b4', b5', b6', b7', b8', q⟩ := h
  have hz : sizeLine = 16777216 := sizeLine_eq
  have r1 := hr.mono (show 1 ≤ 4 by omega)
  have r2 := hr.mono (show 2 ≤ 4 by omega)
  have r3 := hr.mono (show 3 ≤ 4 by omega)
  obtain ⟨⟨dh, hh⟩, hl2, ht2, hp2, _, _, _⟩ := id PB
  refine ⟨_, (pss_cons (ps_setC (i := 4) (nl := 1) (fr := [1]) (Nc := ["label", "name"]) (cl := [("name", s.heap.objs.size + 1)]) scPut.nd rfl rfl rfl ⟨rfl, rfl, by decide +kernel, by decide +kernel, (sub_cons rfl (sub_nil)), has_of rfl, rfl, fun i n h => match i, h with | 0, h => by cases h; exact ⟨1, rfl, rfl, rfl, rfl, .inl rfl⟩ | k + 1, h => by rw [show 1 + (k + 1) = k + 2 by omega] at h; cases h⟩
        (pi_list (pe_slice sl_list (pe_fld (pv 2) rfl) (po_some (pe_fld (pv 2) rfl)) po_none)) (fun C s3 H3 fp pins => (pg_name (i := 0) nd_label_name rfl (Or.inl rfl))) (fun C s3 H3 fp pins => pif_nil)
        (fun C s3 H3 fp pins => (pe_op op_add_str (pe_op op_add_str (pv 1) pe_str) (pv 0))) rfl)
    (pss_cons (ps_set (i := 5) scPut.nd rfl (Or.inr rfl) (pe_lst pa_nil))
    (pss_cons (ps_for PassesOwn.never rfl (pi_list (pe_op op_cat (pv 3) (pv 4))) (pg_name (i := 6) scPut.nd rfl (Or.inl rfl))
      (pss_one (ps_expr (pe_bm PySem.F.plainAttrs_list PySem.F.slot_list_append PySem.F.type_list_append mt_append (pv 5) (pa_cons (pe_meth (pv 0) PTx.cl mPl GPl r1 bPl .nil pass0 (pa_cons (pv 6) pa_nil)) pa_nil)))))
    (pss_cons (ps_expr (pe_bm PySem.F.plainAttrs_list PySem.F.slot_list_extend PySem.F.type_list_extend mt_extend (pe_fld (pv 0) rfl) (pa_cons (pe_comp (nl := 1) (fr := [5]) (Nc := ["entry", "spots"]) (cl := [("spots", s.heap.objs.size + 2)]) rfl ⟨rfl, rfl, by decide +kernel, by decide +kernel, (sub_cons rfl (sub_nil)), has_of rfl, rfl, fun i n h => match i, h with | 0, h => by cases h; exact ⟨5, rfl, rfl, rfl, rfl, .inl rfl⟩ | k + 1, h => by rw [show 1 + (k + 1) = k + 2 by omega] at h; cases h⟩
        (pi_list (pe_fld (pv 2) rfl)) (fun C s3 H3 fp pins => (pg_name (i := 0) nd_entry_spots rfl (Or.inl rfl))) (fun C s3 H3 fp pins => pif_nil)
        (fun C s3 H3 fp pins => (pe_methD0 (f := fun _ => gT) (fd := fun _ => gdT) (sp := fun _ => spRTold CK) (pe_methD (f := fun _ => gA) (fd := fun _ => gdA) (sp := fun _ => spAtL K CK) (pe_call G1 r3 rfl m1 k1 b1 .nil pass0 (pa_cons (pv 0) pa_nil)) T.cl mA (fun _ => GA) hr (fun _ => bA) .nil pass0 (pa_cons (pv 1) pa_nil)) T.cl mT (fun _ => GT) r2 (fun _ => bT) .nil pass0))) pa_nil)))
    (pss_one (ps_expr (pe_bm PySem.F.plainAttrs_list PySem.F.slot_list_append PySem.F.type_list_append mt_append (pe_fld (pv 0) rfl) (pa_cons (pv 1) pa_nil)))))))), ?_⟩
  have ed : (".": Str).length = 1 := by decide +kernel
  refine ⟨_, rfl, h, CP, dh, _, _, rfl, hh, PTx.cl, PTx.nl, pfl_l _ _ _ _, _, rfl, h, CP, dh, _, _, rfl, hh, PTx.cl, PTx.ne, pfl_e _ _ _ _, (e2 : Int), rfl, l2, _, rfl, SqL.of hl2, fun S1 hS1 => ?_⟩
  rw [cut_from, ← List.map_drop]
  have s1 := same_new hS1 (.lst ((ls2.drop e2).map V.str))
  have e1 : upd H S1 (.lst ((ls2.drop e2).map V.str)) S1 = some (.lst ((ls2.drop e2).map V.str)) := upd_same
  generalize upd H S1 (.lst ((ls2.drop e2).map V.str)) = H1 at s1 e1 ⊢
  refine ⟨S1, rfl, ⟨_, SqL.of e1⟩, fun I hI => ?_⟩
  have sI := same_new hI (.lst [])
  have ld : (ls2.drop e2).length ≤ 100 := by rw [List.length_drop]; omega
  refine comp_list (xs := (ls2.drop e2).map V.str) (fun k zs H' => Same H1 H' ∧ H' I = some (.lst zs) ∧ zs = (((ls2.drop e2).take k).map fun x => nm ++ "." ++ x).map V.str) ⟨sI, upd_same, rfl⟩ (fun k zs H' h => h.2.1) (fun k zs H' _ h => h.1.seq (SqL.of e1)) ?_ ?_
  · rintro k zs x H2 hx ⟨s2, e2', rfl⟩ C hC
    rw [List.getElem?_map] at hx
    obtain ⟨y, hy, rfl⟩ := Option.map_eq_some_iff.mp hx
    have hk := (List.getElem?_eq_some_iff.mp hy).1
    have ly := b8' y (List.mem_of_mem_drop (List.mem_of_getElem? hy))
    refine ⟨keep1.1, keep1.2, iteT ?_⟩
    refine ⟨_, rfl, _, _, rfl, rfl, by omega, _, rfl, _, _, rfl, rfl, ?_, e2', small1000 (by rw [List.length_map, List.length_map, List.length_take]; omega), hC _ _ ⟨s2.change hI, upd_same, ?_⟩⟩
    · rw [show (nm ++ "." : Str).length = nm.length + 1 by show (nm.cps ++ (".": Str).cps).size = _; rw [Array.size_append]; rfl]; omega
    · rw [List.take_add_one, hy, List.map_append, List.map_append]; rfl
  rintro zs H2 ⟨s2, eI, rfl⟩
  rw [List.length_map, List.take_length] at eI
  have eI : H2 I = some (.lst ((inn nm e2 ls2).map V.str)) := eI
  have s02 := s1.trans s2
  have li : (inn nm e2 ls2).length ≤ 100 := by unfold inn; rw [List.length_map]; exact ld
  refine ⟨by show 0 ≤ sizeLine; decide, fun SP hSP => ?_⟩
  have s3 := same_new hSP (.lst [])
  have e3 : upd H2 SP (.lst []) SP = some (.lst []) := upd_same
  generalize upd H2 SP (.lst []) = H3 at s3 e3 ⊢
  have s03 := s02.trans s3
  refine ⟨_, rfl, _, rfl, pt, I, _, _, rfl, rfl, s03 _ _ hpt, s3 _ _ eI, by rw [List.length_map, List.length_map]; omega, fun C hC => ?_⟩
  rw [← List.map_append]
  generalize hlab : pts ++ inn nm e2 ls2 = labs at hD q ⊢
  have ll : labs.length ≤ 200 := by rw [← hlab, List.length_append]; omega
  have s4 := same_new hC (.lst (labs.map V.str))
  have e4 : upd H3 C (.lst (labs.map V.str)) C = some (.lst (labs.map V.str)) := upd_same
  generalize upd H3 C (.lst (labs.map V.str)) = H4 at s4 e4 ⊢
  have s04 := s03.trans s4
  have nfree : ∀ b, H b ≠ none → b ≠ SP ∧ b ≠ C := fun b hb => ⟨fun z => by rw [z] at hb; exact hb (s02.free hSP), fun z => by rw [z] at hb; exact hb (s03.free hC)⟩
  have nl := nfree l (by rw [PA.hl]; simp)
  have nSC : SP ≠ C := ne_of_none e3 hC
  refine ⟨C, rfl, ⟨_, SqL.of e4⟩, ?_⟩
  refine for_list (xs := labs.map V.str) (fun k σ H' => (∀ b o, H b = some o → b ≠ l → H' b = some o) ∧ H' C = some (.lst (labs.map V.str)) ∧ ∃ (sp : List Int) (z : Option V), σ = [some (.ref g), some (.str nm), some (.ref h), some (.ref pt), some (.ref I), some (.ref SP), z] ∧ H' SP = some (.lst (sp.map V.int)) ∧ PlAt CP H' g l e t p (lps ls (labs.take k)) es ps ∧ SpAt (lps ls (labs.take k)) (labs.take k) sp) ⟨fun b o hb _ => s04 _ _ hb, e4, [], none, rfl, s4 _ _ e3, PA.same s04, rfl, fun i x hx => by simp at hx⟩ (fun k σ H' _ hh => SqL.of hh.2.1) ?_ ?_
  · rintro k x σ H5 hx ⟨k5, c5, sp, z, rfl, sp5, PA5, at5⟩
    rw [List.getElem?_map] at hx
    obtain ⟨y, hy, rfl⟩ := Option.map_eq_some_iff.mp hx
    have hk := (List.getElem?_eq_some_iff.mp hy).1
    obtain ⟨dg5, hg5⟩ := PA5.ob
    have lsp := at5.1
    rw [List.length_take] at lsp
    have lk := lps_len (labs.take k) ls
    rw [List.length_take] at lk
    refine ⟨_, rfl, .inl ⟨rfl, _, SqL.of sp5⟩, _, rfl, g, dg5, _, rfl, hg5, (by with_unfolding_all rfl), _, rfl, g, l, t, p, e, _, es, ps, y, rfl, PA5, by omega, fun j H6 x6 PA6 hj => ?_⟩
    have sp6 := x6 _ _ sp5 (Ne.symm nl.1)
    refine ⟨SP, _, _, rfl, rfl, sp6, small1000 (by rw [List.length_map]; omega), ?_⟩
    have et : labs.take (k + 1) = labs.take k ++ [y] := by rw [List.take_add_one, hy]; rfl
    rw [et, lps_snoc]
    obtain ⟨⟨dg6, hg6⟩, hl6, ht6, hp6, n1, n2, n3⟩ := PA6
    have nt := nfree t (by rw [PA.ht]; simp)
    have np := nfree p (by rw [PA.hp]; simp)
    have ngS : g ≠ SP := fun z => by rw [z] at hg6; rw [hg6] at sp6; cases sp6
    refine ⟨fun b o hb nb => ?_, by rw [upd_ne (Ne.symm nSC)]; exact x6 _ _ c5 (Ne.symm nl.2), sp ++ [(j : Int)], _, rfl, by rw [upd_same, List.map_append]; rfl, ⟨⟨dg6, by rw [upd_ne ngS]; exact hg6⟩, by rw [upd_ne nl.1]; exact hl6, by rw [upd_ne nt.1]; exact ht6, by rw [upd_ne np.1]; exact hp6, n1, n2, n3⟩, by rw [List.length_append, List.length_append, at5.1]; rfl, fun i x hx => ?_⟩
    · rw [upd_ne (fun z => by rw [z] at hb; rw [s02.free hSP] at hb; cases hb)]
      exact x6 _ _ (k5 b o hb nb) nb
    · by_cases hi : i < (labs.take k).length
      · rw [List.getElem?_append_left hi] at hx
        obtain ⟨j', h1, h2⟩ := at5.2 i x hx
        exact ⟨j', by rw [List.getElem?_append_left (by rw [at5.1]; exact hi)]; exact h1, lput_keep y h2⟩
      · rw [List.getElem?_append_right (by omega)] at hx
        have i0 : i - (labs.take k).length = 0 := by have := (List.getElem?_eq_some_iff.mp hx).1; simp only [List.length_cons, List.length_nil] at this; omega
        rw [i0] at hx
        have : y = x := by simpa using hx
        subst this
        exact ⟨j, by rw [List.getElem?_append_right (by rw [at5.1]; omega), at5.1, i0]; rfl, hj⟩
  rintro σ H5 ⟨k5, c5, sp, z, rfl, sp5, PA5, at5⟩
  rw [List.length_map, List.take_length] at PA5 at5
  have nhl : h ≠ l := ne_of hh PA.hl (fun z => by cases z)
  have hh5 := k5 _ _ hh nhl
  have ht25 := k5 _ _ ht2 x4
  have hR5 : Rts K H5 es2 ds2 := SameX.rts PA.hl k5 hR
  obtain ⟨⟨dg5, hg5⟩, hl5, ht5, hp5, n1, n2, n3⟩ := PA5
  have les2 := hR5.length
  have lsp := at5.1
  have spat : ∀ u : Int, 0 ≤ u → u.toNat < labs.length → atI (sp.map V.int) u = some (.int (sp.getD u.toNat 0)) := fun u u0 ul => by
    obtain ⟨n, rfl⟩ : ∃ n : Nat, u = (n : Int) := ⟨u.toNat, by omega⟩
    refine atI_nat ?_
    rw [List.getElem?_map, show ((n : Int)).toNat = n by omega, List.getElem?_eq_getElem (by rw [lsp]; simpa using ul), List.getD_eq_getElem?_getD, List.getElem?_eq_getElem (by rw [lsp]; simpa using ul)]
    rfl
  refine ⟨_, rfl, g, CP, dg5, _, _, rfl, hg5, PTx.cl, PTx.nt, pfl_t _ _ _ _, .inl ⟨rfl, _, SqL.of ht5⟩, _, rfl, h, CP, dh, _, _, rfl, hh5, PTx.cl, PTx.nt, pfl_t _ _ _ _, t2, rfl, ⟨_, SqL.of ht25⟩, fun D hD' => ?_⟩
  have sD := same_new hD' (.lst [])
  refine comp_list (xs := es2) (fun k zs H' => Same H5 H' ∧ H' D = some (.lst zs) ∧ Rts K H' zs ((ds2.take k).map (mvD sp))) ⟨sD, upd_same, .nil⟩ (fun k zs H' hh => hh.2.1) (fun k zs H' _ hh => hh.1.seq (SqL.of ht25)) ?_ ?_
  · rintro k' zs x H6 hx ⟨s6, e6, R6⟩ C' hC'
    have hk := (List.getElem?_eq_some_iff.mp hx).1
    obtain ⟨⟨kd, u, v, pz⟩, hd⟩ : ∃ d, ds2[k']? = some d := ⟨_, List.getElem?_eq_getElem (by omega)⟩
    obtain ⟨t', z', et, hT, fz⟩ := hR5.at hd
    have ex : x = .ref t' := by rw [et] at hx; exact (Option.some.inj hx).symm
    subst ex
    obtain ⟨u0, ul, v0, vl⟩ := hD _ (List.mem_of_getElem? hd)
    have lz := R6.length
    rw [List.length_map, List.length_take] at lz
    refine ⟨keep1.1, keep1.2, iteT ?_⟩
    refine ⟨_, rfl, t', _, _, _, _, rfl, s6.seqT hT, kd, rfl, fun y1 H7 s7 ny1 rw1 => ?_⟩
    obtain ⟨dy1, hy1⟩ := id rw1
    refine ⟨kd, y1, dy1, _, rfl, hy1, (rflds_no _ _ _ (by decide +kernel) (by decide +kernel) (by decide +kernel)), _, rfl, y1, SP, kd, u, v, _, _, _, _, rfl, rw1, SqL.of ((s6.trans s7) _ _ sp5), spat u u0 ul, spat v v0 vl, fun y2 H8 s8 ny2 rw2 => ?_⟩
    obtain ⟨dy2, hy2⟩ := id rw2
    refine ⟨kd, y2, dy2, _, rfl, hy2, (rflds_no _ _ _ (by decide +kernel) (by decide +kernel) (by decide +kernel)), y2, kd, _, _, _, rfl, rw2, fun T' hT' => ?_⟩
    have s9 := same_new hT' (.tup [.str kd.wd, .int (sp.getD u.toNat 0), .int (sp.getD v.toNat 0), .ref z'])
    have e9 : SqT K (upd H8 T' (.tup [.str kd.wd, .int (sp.getD u.toNat 0), .int (sp.getD v.toNat 0), .ref z'])) T' [.str kd.wd, .int (sp.getD u.toNat 0), .int (sp.getD v.toNat 0), .ref z'] := SqT.of upd_same
    generalize upd H8 T' (.tup [.str kd.wd, .int (sp.getD u.toNat 0), .int (sp.getD v.toNat 0), .ref z']) = H9 at s9 e9 ⊢
    have s69 := s7.trans (s8.trans s9)
    refine ⟨s69 _ _ e6, small1000 (by omega), hC' _ _ ⟨(s6.trans s69).change hD', upd_same, ?_⟩⟩
    rw [List.take_add_one, hd, List.map_append]
    exact Rts.upd (s69 _ _ e6) ((R6.same s69).app (.cons e9 ((s6.trans s69).fq fz) .nil))
  rintro zs H6 ⟨s6, e6, R6⟩
  rw [les2, List.take_length] at R6
  have lz := R6.length
  rw [List.length_map] at lz
  have ht6 := s6 _ _ ht5
  refine ⟨t, D, _, _, rfl, rfl, ht6, e6, by omega, ?_⟩
  have ntD : t ≠ D := ne_of_none ht5 hD'
  have ngt : g ≠ t := ne_of hg5 ht5 (fun z => by cases z)
  have nlt : l ≠ t := n1
  have hg7 : upd H6 t (.lst (es ++ zs)) g = some (.ins CP dg5 (pfl l e t p)) := by rw [upd_ne ngt]; exact s6 _ _ hg5
  have hp7 : upd H6 t (.lst (es ++ zs)) p = some (.lst ps) := by rw [upd_ne (Ne.symm n3)]; exact s6 _ _ hp5
  have hl7 : upd H6 t (.lst (es ++ zs)) l = some (.lst ((lps ls labs).map V.str)) := by rw [upd_ne nlt]; exact s6 _ _ hl5
  have ht7 : upd H6 t (.lst (es ++ zs)) t = some (.lst (es ++ zs)) := upd_same
  have R7 := Rts.upd (o := .lst (es ++ zs)) ht6 R6
  have k7 : ∀ b o, H b = some o → b ≠ l → b ≠ t → upd H6 t (.lst (es ++ zs)) b = some o := fun b o hb n1 n2 => by rw [upd_ne n2]; exact s6 _ _ (k5 b o hb n1)
  generalize upd H6 t (.lst (es ++ zs)) = H7 at hg7 hp7 hl7 ht7 R7 k7 ⊢
  refine ⟨_, rfl, g, CP, dg5, _, _, rfl, hg7, PTx.cl, PTx.np, pfl_p _ _ _ _, .inl ⟨rfl, _, SqL.of hp7⟩, _, rfl, p, ps, _, rfl, rfl, hp7, small1000 (by omega), ?_⟩
  have ngp : g ≠ p := ne_of hg7 hp7 (fun z => by cases z)
  refine q sp zs _ (fun b o hb n1 n2 n3 => by rw [upd_ne n3]; exact k7 b o hb n1 n2) ⟨⟨dg5, by rw [upd_ne ngp]; exact hg7⟩, by rw [upd_ne n2]; exact hl7, by rw [upd_ne n3]; exact ht7, upd_same, n1, n2, n3⟩ (Rts.upd hp7 R7) at5
end
end K85

set_option Elab.async false
set_option linter.all false
set_option maxRecDepth 100000
set_option maxHeartbeats 4000000
namespace K85
open PySem L2 Tx
section
variable {P : Program} {w : World} {K : PySem.W.Frag} {mg : Str → Option Value} {base : Heap} {f g1 g2 g3 g4 g5 g6 g7 g8 : Addr} {fd gd1 gd2 gd3 gd4 gd5 gd6 gd7 gd8 : FuncData} {CX : CXT}
variable {CR : Addr} {CK : Kd → Addr} {fW fJ fT fS : Kd → Addr} {fdW fdJ fdT fdS : Kd → FuncData}
structure PD where
  ls : List Str
  e : Nat
  ds : List RD
  pn : List Str
structure YS where
  gr : PD
  pa : List (Str × PD)
  op : Option (Str × PD)
def YS.cur (Y : YS) : PD := match Y.op with
  | none => Y.gr
  | some q => q.2
def YS.keep (Y : YS) (P : PD) : YS := match Y.op with
  | none => { Y with gr := P }
  | some q => { Y with op := some (q.1, P) }
def PlOk (CP : Addr) (K : PySem.W.Frag) (av : List Addr) (H : Hp) (g : Addr) (P : PD) : Prop :=
  ∃ (l t p : Addr) (es : List V), PlAt CP H g l (P.e : Int) t p P.ls es (P.pn.map V.str) ∧ Rts K H es P.ds ∧ l ∉ av ∧ t ∉ av ∧ p ∉ av
def PaOk (CP : Addr) (K : PySem.W.Frag) (av : List Addr) (H : Hp) : List (Key × V) → List (Str × PD) → Prop
  | [], [] => True
  | kv :: kvs, nP :: pa => kv.1 = Sum.inr nP.1 ∧ (∃ g, kv.2 = .ref g ∧ PlOk CP K av H g nP.2) ∧ PaOk CP K av H kvs pa
  | _, _ => False
def OpOk (CP : Addr) (K : PySem.W.Frag) (av : List Addr) (H : Hp) (o q : V) : Option (Str × PD) → Prop
  | none => o = .non ∧ q = .non
  | some nP => o = .str nP.1 ∧ ∃ g, q = .ref g ∧ PlOk CP K av H g nP.2
def YG (CY CP : Addr) (K : PySem.W.Frag) (av : List Addr) (H : Hp) (y d : Addr) (Y : YS) : Prop :=
  ∃ (dy g : Addr) (o q : V) (kvs : List (Key × V)), H y = some (.ins CY dy (yfl g d o q)) ∧ PlOk CP K av H g Y.gr ∧ H d = some (.dK kvs) ∧ PaOk CP K av H kvs Y.pa ∧ OpOk CP K av H o q Y.op ∧ ∀ a ∈ av, H a ≠ none
def SYd (y d : Addr) (H H' : Hp) : Prop := ∀ b o, H b = some o → b ≠ y → b ≠ d → H' b = some o
theorem PlOk.mv {CP CY dy : Addr} {K : PySem.W.Frag} {av : List Addr} {H H' : Hp} {y d g : Addr} {P : PD} {fs : List (Str × V)} {kvs : List (Key × V)} (hy : H y = some (.ins CY dy fs)) (hd : H d = some (.dK kvs)) (s : SYd y d H H') (ng : g ≠ y) (h : PlOk CP K av H g P) : PlOk CP K av H' g P := by
  obtain ⟨l, t, p, es, ⟨⟨dg, hg⟩, hl, ht, hp, n1, n2, n3⟩, hR, x1, x2, x3⟩ := h
  have mt : ∀ {a : Addr} {xs : List V}, SqT K H a xs → SqT K H' a xs := fun h => by
    rcases h with (h | ⟨u, h⟩) | h
    · exact .inl (.inl (s _ _ h (ne_of h hy (fun z => by cases z)) (ne_of h hd (fun z => by cases z))))
    · exact .inl (.inr ⟨u, s _ _ h (ne_of h hy (fun z => by cases z)) (ne_of h hd (fun z => by cases z))⟩)
    · exact .inr h
  have mr : ∀ {xs : List V} {ds : List RD}, Rts K H xs ds → Rts K H' xs ds := fun h => by
    induction h with
    | nil => exact .nil
    | cons a b c ih => exact .cons (mt a) (mt b) ih
  have ml : ∀ {a : Addr} {xs : List V}, H a = some (.lst xs) → H' a = some (.lst xs) := fun h => s _ _ h (ne_of h hy (fun z => by cases z)) (ne_of h hd (fun z => by cases z))
  exact ⟨l, t, p, es, ⟨⟨dg, s _ _ hg ng (ne_of hg hd (fun z => by cases z))⟩, ml hl, ml ht, ml hp, n1, n2, n3⟩, mr hR, x1, x2, x3⟩
theorem PlOk.same {CP : Addr} {K : PySem.W.Frag} {av : List Addr} {H H' : Hp} {g : Addr} {P : PD} (s : Same H H') (h : PlOk CP K av H g P) : PlOk CP K av H' g P :=
  let ⟨l, t, p, es, a, b, c⟩ := h; ⟨l, t, p, es, a.same s, b.same s, c⟩
theorem PaOk.imp {CP : Addr} {K : PySem.W.Frag} {av : List Addr} {H H' : Hp} (f : ∀ g P, PlOk CP K av H g P → PlOk CP K av H' g P) : ∀ {kvs : List (Key × V)} {pa : List (Str × PD)}, PaOk CP K av H kvs pa → PaOk CP K av H' kvs pa
  | [], [], h => h
  | [], _ :: _, h => h
  | _ :: _, [], h => h
  | _ :: _, _ :: _, ⟨a, ⟨g, e, p⟩, c⟩ => ⟨a, ⟨g, e, f g _ p⟩, PaOk.imp f c⟩
theorem OpOk.imp {CP : Addr} {K : PySem.W.Frag} {av : List Addr} {H H' : Hp} {o q : V} (f : ∀ g P, PlOk CP K av H g P → PlOk CP K av H' g P) : ∀ {x : Option (Str × PD)}, OpOk CP K av H o q x → OpOk CP K av H' o q x
  | none, h => h
  | some _, ⟨a, g, e, p⟩ => ⟨a, g, e, f g _ p⟩
theorem YG.same {CY CP : Addr} {K : PySem.W.Frag} {av : List Addr} {H H' : Hp} {y d : Addr} {Y : YS} (s : Same H H') (h : YG CY CP K av H y d Y) : YG CY CP K av H' y d Y := by
  obtain ⟨dy, g, o, q, kvs, hy, hg, hd, hp, ho, ha⟩ := h
  refine ⟨dy, g, o, q, kvs, s _ _ hy, hg.same s, s _ _ hd, hp.imp fun _ _ h => h.same s, ho.imp fun _ _ h => h.same s, fun a hin z => ?_⟩
  cases e : H a with
  | none => exact ha a hin e
  | some o' => rw [s _ _ e] at z; cases z
def spCoTG (CY CP : Addr) (K : PySem.W.Frag) : Sp := fun vs H Q _ => ∃ (av : List Addr) (y d : Addr) (Y : YS), vs = [.ref y] ∧ YG CY CP K av H y d Y ∧ ∀ g' l' t' p' es H', Same H H' → H g' = none → H l' = none → H t' = none → H p' = none → PlAt CP H' g' l' (Y.cur.e : Int) t' p' Y.cur.ls es (Y.cur.pn.map V.str) → Rts K H' es Y.cur.ds → Q (.ref g') H'
abbrev sCoT : Stmt := inClass (top 46) 6
theorem scCoT : FnScope ["self"] ["self"] (defScope sCoT) := ⟨rfl, rfl, rfl, by decide +kernel, rfl, by decide +kernel, by decide +kernel⟩
theorem ok_cot {dV : Value} {CY : Addr} (F : FunD K "copy_of_told" "Yard.copy_of_told" sCoT dV f fd) (YTx : YaT K mg CY) {CP : Addr} (PTx : PlT K mg CP)
    {gCp : Addr} {gdCp : FuncData} (GCp : FnOk P w K mg base CX0 3 gCp gdCp ["self"] (spPCopy CP)) (bCp : Binds K gdCp ["self"] []) (mCp : Meth K CP "copy" gCp) : FnOk P w K mg base CX 4 f fd ["self"] (spCoTG CY CP K) := by
  refine F.ok scCoT (fun vs H Q E h => ?_) (fun cdv A outer s H vs Q E hr h => ?_)
  · obtain ⟨av, y, d, Y, rfl, ⟨dy, g, o, q', kvs, hy, hg, hd, hp, ho, ha⟩, q⟩ := h
    rfl
  obtain ⟨av, y, d, Y, rfl, ⟨dy, g, o, q', kvs, hy, hg, hd, hp, ho, ha⟩, q⟩ := h
  refine ⟨_, (pss_cons (ps_if (pt_cmp (pc_isN (pe_fld (pv 0) rfl))) (pss_one (ps_ret (pe_meth0 (pe_fld (pv 0) rfl) PTx.cl mCp GCp hr bCp .nil pass0))) pss_nil)
    (pss_one (ps_ret (pe_meth0 (pe_fld (pv 0) rfl) PTx.cl mCp GCp hr bCp .nil pass0)))), ?_⟩
  cases e : Y.op with
  | none =>
    rw [e] at ho
    obtain ⟨rfl, rfl⟩ := ho
    have ec : Y.cur = Y.gr := by unfold YS.cur; rw [e]
    rw [ec] at q
    obtain ⟨l, t, p, es, PA, hR, _⟩ := hg
    obtain ⟨dg, hgo⟩ := PA.ob
    refine ⟨_, rfl, y, CY, dy, _, _, rfl, hy, YTx.cl, YTx.no, yfl_o _ _ _ _, _, rfl, iteT ?_⟩
    exact ⟨_, rfl, y, CY, dy, _, _, rfl, hy, YTx.cl, YTx.ng, yfl_g _ _ _ _, g, dg, _, rfl, hgo, (by with_unfolding_all rfl), g, l, t, p, _, _, es, _, rfl, PA, fun g' l' t' p' H' s a1 a2 a3 a4 PA' => q g' l' t' p' es H' s a1 a2 a3 a4 PA' (hR.same s)⟩
  | some nP =>
    rw [e] at ho
    obtain ⟨rfl, g2, rfl, l, t, p, es, PA, hR, _⟩ := ho
    have ec : Y.cur = nP.2 := by unfold YS.cur; rw [e]
    rw [ec] at q
    obtain ⟨dg, hgo⟩ := PA.ob
    refine ⟨_, rfl, y, CY, dy, _, _, rfl, hy, YTx.cl, YTx.no, yfl_o _ _ _ _, _, rfl, iteF ?_⟩
    exact ⟨_, rfl, y, CY, dy, _, _, rfl, hy, YTx.cl, YTx.nq, yfl_q _ _ _ _, g2, dg, _, rfl, hgo, (by with_unfolding_all rfl), g2, l, t, p, _, _, es, _, rfl, PA, fun g' l' t' p' H' s a1 a2 a3 a4 PA' => q g' l' t' p' es H' s a1 a2 a3 a4 PA' (hR.same s)⟩
end
end K85

set_option Elab.async false
set_option linter.all false
set_option maxRecDepth 100000
set_option maxHeartbeats 4000000
namespace K85
open PySem L2 Tx
section
variable {P : Program} {w : World} {K : PySem.W.Frag} {mg : Str → Option Value} {base : Heap} {f g1 g2 g3 g4 g5 g6 g7 g8 : Addr} {fd gd1 gd2 gd3 gd4 gd5 gd6 gd7 gd8 : FuncData} {CX : CXT}
variable {CR : Addr} {CK : Kd → Addr} {fW fJ fT fS : Kd → Addr} {fdW fdJ fdT fdS : Kd → FuncData}
theorem py_ne (l : Addr) (e : Int) (t p g d : Addr) (o q : V) : pfl l e t p ≠ yfl g d o q := fun h => by
  have := congrArg (fun x => x.head?.map (·.1)) h
  have : ("labels" : Str) = "ground" := by simpa [pfl, yfl] using this
  exact absurd this (by decide +kernel)
theorem pl_ne {CP CY dy g y : Addr} {H : Hp} {K : PySem.W.Frag} {av : List Addr} {P : PD} {g' d : Addr} {o q : V} (h : PlOk CP K av H g P) (hy : H y = some (.ins CY dy (yfl g' d o q))) : g ≠ y := fun z => by
  obtain ⟨l, t, p, es, PA, _⟩ := h
  obtain ⟨dg, hg⟩ := PA.ob
  rw [z, hy] at hg
  injection hg with hg
  injection hg with _ _ hg
  exact py_ne _ _ _ _ _ _ _ _ hg.symm
theorem yfl_o' (g d : Addr) (o q o' : V) : putF "opened" o' (yfl g d o q) = yfl g d o' q := by with_unfolding_all rfl
theorem yfl_q' (g d : Addr) (o q q' : V) : putF "opened_plan" q' (yfl g d o q) = yfl g d o q' := by with_unfolding_all rfl
def spKeepG (CY CP CT : Addr) (K : PySem.W.Frag) : Sp := fun vs H Q E => ∃ (av : List Addr) (y d g' : Addr) (Y : YS) (P' : PD), vs = [.ref y, .ref g'] ∧ YG CY CP K av H y d Y ∧ PlOk CP K av H g' P' ∧ ((P'.ls.length ≤ 20 ∧ P'.ds.length ≤ 40) → ∀ H', SYd y d H H' → YG CY CP K av H' y d (Y.keep P') → Q .non H') ∧ (¬ (P'.ls.length ≤ 20 ∧ P'.ds.length ≤ 40) → E (.ref CT) none H)
theorem YG.put {CY CP dy : Addr} {K : PySem.W.Frag} {av : List Addr} {H : Hp} {y d g g2 : Addr} {o q o2 q2 : V} {kvs : List (Key × V)} {Y2 : YS} (hy : H y = some (.ins CY dy (yfl g d o q))) (hd : H d = some (.dK kvs)) (hg : PlOk CP K av H g2 Y2.gr) (hp : PaOk CP K av H kvs Y2.pa) (ho : OpOk CP K av H o2 q2 Y2.op) (ha : ∀ a ∈ av, H a ≠ none) : SYd y d H (upd H y (.ins CY dy (yfl g2 d o2 q2))) ∧ YG CY CP K av (upd H y (.ins CY dy (yfl g2 d o2 q2))) y d Y2 := by
  have s : SYd y d H (upd H y (.ins CY dy (yfl g2 d o2 q2))) := fun b o h n1 _ => by rw [upd_ne n1]; exact h
  have m : ∀ g P, PlOk CP K av H g P → PlOk CP K av (upd H y (.ins CY dy (yfl g2 d o2 q2))) g P := fun g P h => h.mv hy hd s (pl_ne h hy)
  have ndy : d ≠ y := fun z => by rw [z, hy] at hd; cases hd
  refine ⟨s, dy, g2, o2, q2, kvs, upd_same, m _ _ hg, by rw [upd_ne ndy]; exact hd, hp.imp m, ho.imp m, fun a hin z => ?_⟩
  by_cases h : a = y
  · rw [h, upd_same] at z; cases z
  · rw [upd_ne h] at z; exact ha a hin z
abbrev sKeep : Stmt := inClass (top 46) 7
theorem scKeep : FnScope ["self", "plan"] ["self", "plan"] (defScope sKeep) := ⟨rfl, rfl, rfl, by decide +kernel, rfl, by decide +kernel, by decide +kernel⟩
theorem ok_keep {dV : Value} {CY : Addr} (F : FunD K "keep" "Yard.keep" sKeep dV f fd) (YTx : YaT K mg CY) {CP CT : Addr}
    (G1 : FnOk P w K mg base (CX1 P w) 2 g1 gd1 ["plan"] (spROverX CP CT)) (b1 : Binds K gd1 ["plan"] []) (k1 : PySem.W.keepIn K (.ref g1) = true) (m1 : mg "refuse_overfull" = some (.ref g1)) : FnOk P w K mg base (CX1 P w) 3 f fd ["self", "plan"] (spKeepG CY CP CT K) := by
  refine F.okX scKeep (fun vs H Q E h => ?_) (fun cdv A outer s H vs Q E hr h => ?_)
  · obtain ⟨av, y, d, g', Y, P', rfl, ⟨dy, g, o, q', kvs, hy, hg, hd, hp, ho, ha⟩, hP, q1, q2⟩ := h
    rfl
  obtain ⟨av, y, d, g', Y, P', rfl, ⟨dy, g, o, q', kvs, hy, hg, hd, hp, ho, ha⟩, hP, q1, q2⟩ := h
  refine ⟨_, (pss_cons (ps_expr (pe_call G1 hr rfl m1 k1 b1 .nil (passes_cx frm_cxOf xe_cxOf) (pa_cons (pv 1) pa_nil)))
    (pss_one (ps_if (pt_cmp (pc_isN (pe_fld (pv 0) rfl))) (pss_one (ps_fld (pv 0) (pv 1) rfl)) (pss_one (ps_fld (pv 0) (pv 1) rfl))))), ?_⟩
  obtain ⟨l, t, p, es, PA, hR, hav⟩ := id hP
  have les := hR.length
  refine ⟨_, rfl, g', l, t, p, _, _, es, _, rfl, PA, fun ok => ?_, fun no => q2 (by omega)⟩
  have ok' : P'.ls.length ≤ 20 ∧ P'.ds.length ≤ 40 := by omega
  cases e : Y.op with
  | none =>
    rw [e] at ho
    obtain ⟨rfl, rfl⟩ := ho
    refine ⟨_, rfl, y, CY, dy, _, _, rfl, hy, YTx.cl, YTx.no, yfl_o _ _ _ _, _, rfl, iteT ?_⟩
    refine ⟨_, rfl, _, rfl, y, CY, dy, yfl g d .non .non, rfl, hy, YTx.cl, YTx.ng, by show 4 < 1000; decide, ?_⟩
    rw [yfl_gr]
    have ek : Y.keep P' = { Y with gr := P' } := by unfold YS.keep; rw [e]
    rw [ek] at q1
    obtain ⟨s1, y1⟩ := YG.put (g2 := g') (o2 := .non) (q2 := .non) (Y2 := { Y with gr := P' }) hy hd hP hp (by show OpOk CP K av H .non .non Y.op; rw [e]; exact ⟨rfl, rfl⟩) ha
    exact q1 ok' _ s1 y1
  | some nP =>
    rw [e] at ho
    obtain ⟨rfl, g2, rfl, hP2⟩ := ho
    refine ⟨_, rfl, y, CY, dy, _, _, rfl, hy, YTx.cl, YTx.no, yfl_o _ _ _ _, _, rfl, iteF ?_⟩
    refine ⟨_, rfl, _, rfl, y, CY, dy, yfl g d (.str nP.1) (.ref g2), rfl, hy, YTx.cl, YTx.nq, by show 4 < 1000; decide, ?_⟩
    rw [yfl_q']
    have ek : Y.keep P' = { Y with op := some (nP.1, P') } := by unfold YS.keep; rw [e]
    rw [ek] at q1
    obtain ⟨s1, y1⟩ := YG.put (g2 := g) (o2 := .str nP.1) (q2 := .ref g') (Y2 := { Y with op := some (nP.1, P') }) hy hd hg hp ⟨rfl, g', rfl, hP⟩ ha
    exact q1 ok' _ s1 y1
end
end K85

set_option Elab.async false
set_option linter.all false
set_option maxRecDepth 100000
set_option maxHeartbeats 4000000
namespace L2
open PySem PyProof.Rows
section
variable {P : Program} {w : World} {A : Around} {E : Value → Shared → Prop} {s : Shared} {b : Bool}
section
variable {R : Result → Shared → Prop} {I : Addr} {fp wr : List Addr} {G : Array GenState → Array GenState → Prop} {n : Nat} {Pv : Nat → Value → Prop} {St : Nat → Shared → Prop}
theorem SetOf_eq {K : Type} [DecidableEq K] {knd : PySem.KeyKind P w K} {h : Heap} {a : Addr} {S S' : K → Bool} {n n' : Nat} (q : h.SetOf knd a S n) (e : S = S') (en : n = n') : h.SetOf knd a S' n' := by subst e en; exact q
end
end
end L2

set_option Elab.async false
set_option linter.all false
set_option maxRecDepth 100000
set_option maxHeartbeats 4000000
namespace L2
open PySem PyProof.Rows
abbrev emp (g : Bool) : Obj := { cls := .type "set", dict := none, data := .set #[] 0 (.fresh 0 0 g) }
section
variable {P : Program} {w : World} {A : Around} {E : Value → Shared → Prop} {s : Shared} {b : Bool}
end
end L2

set_option Elab.async false
set_option linter.all false
set_option maxRecDepth 100000
set_option maxHeartbeats 4000000
namespace L2
open PySem PyProof.Rows
theorem set_boot : bootBuiltins "set" = some (.type "set") := by decide +kernel
section
variable {X : Cx}
end
end L2

set_option Elab.async false
set_option linter.all false
set_option maxRecDepth 100000
set_option maxHeartbeats 2000000
namespace PySem.SeqAt
open AutoSeq1 (wpAny_loadPart')
open MeetsSeq MeetsSeq2 MeetsSeq3
end PySem.SeqAt
namespace L2
open PySem PySem.Spec PyProof.Rows
variable {X : Cx}
end L2

set_option Elab.async false
set_option linter.all false
set_option maxRecDepth 100000
set_option maxHeartbeats 4000000
namespace L2
open PySem PyProof.Rows
section
variable {P : Program} {w : World} {A : Around} {E : Value → Shared → Prop} {s : Shared}
section
variable {R : Result → Shared → Prop} {I : Addr} {fp wr : List Addr} {G : Array GenState → Array GenState → Prop} {n : Nat} {Pv : Nat → Value → Prop} {St : Nat → Shared → Prop}
end
end
section
variable {P : Program} {w : World} {A : Around} {E : Value → Shared → Prop} {s : Shared} 
end
section
variable {X : Cx}
end
end L2

set_option Elab.async false
set_option linter.all false
set_option maxRecDepth 100000
set_option maxHeartbeats 4000000
namespace L2
open PySem PyProof.Rows
theorem vstrT {ns : List Str} {its : List Value} (rv : Vals (ns.map V.str) its) {i : Nat} {p : Str} (h : ns[i]? = some p) : ∃ t, its[i]? = some (.str p t) := by
  obtain ⟨u, hu, ru⟩ := rv.get (show (ns.map V.str)[i]? = some (.str p) by rw [List.getElem?_map, h]; rfl)
  obtain ⟨t, rfl⟩ := (show ∃ t, u = Value.str p t from ru)
  exact ⟨t, hu⟩
def dtS (acc : List Str) (x : Str) : List Str := if x ∈ acc then acc else acc ++ [x]
def dt (ns : List Str) : List Str := ns.foldl dtS []
theorem dt_snoc (ns : List Str) (x : Str) : dt (ns ++ [x]) = if x ∈ dt ns then dt ns else dt ns ++ [x] := by
  unfold dt
  rw [List.foldl_append]; rfl
theorem snoc_indT {P : List Str → Prop} (h0 : P []) (h1 : ∀ l x, P l → P (l ++ [x])) (l : List Str) : P l := by
  have : ∀ n (l : List Str), l.length = n → P l := by
    intro n
    induction n with
    | zero => intro l h; rw [List.length_eq_zero_iff.mp h]; exact h0
    | succ n ih =>
      intro l h
      have hn : l ≠ [] := by intro z; rw [z] at h; cases h
      rw [← List.dropLast_concat_getLast hn]
      exact h1 _ _ (ih _ (by rw [List.length_dropLast, h]; rfl))
  exact this _ l rfl
theorem dt_mem (ns : List Str) : ∀ x, x ∈ dt ns ↔ x ∈ ns := by
  refine snoc_indT (P := fun ns => ∀ x, x ∈ dt ns ↔ x ∈ ns) (fun x => Iff.rfl) (fun l y ih x => ?_) ns
  rw [dt_snoc, List.mem_append]
  split
  · rename_i h
    rw [ih]
    refine ⟨.inl, fun z => z.elim id fun z => ?_⟩
    have : x = y := by simpa using z
    rw [this]; exact (ih y).mp h
  · rw [List.mem_append, ih]
theorem dt_le (ns : List Str) : (dt ns).length ≤ ns.length := by
  refine snoc_indT (P := fun ns => (dt ns).length ≤ ns.length) (Nat.le_refl _) (fun l y ih => ?_) ns
  rw [dt_snoc, List.length_append]
  split
  · omega
  · rw [List.length_append]; omega
section
variable {P : Program} {w : World} {A : Around} {E : Value → Shared → Prop} {s : Shared}
section
variable {R : Result → Shared → Prop} {I : Addr} {fp wr : List Addr} {G : Array GenState → Array GenState → Prop} {n : Nat} {Pv : Nat → Value → Prop} {St : Nat → Shared → Prop}
theorem upd_str (W : WalksS P w A.in1 I fp wr G n Pv St) (T : Addr) (hT : T ∉ fp) {ns : List Str} (hn : n = ns.length) (hn9 : ns.length ≤ 1000) (hv : ∀ i v, Pv i v → ∃ z t, ns[i]? = some z ∧ v = .str z t) : ∀ (k i : Nat) (s : Shared), n - i = k → i ≤ n → St i s → s.heap.SetOf (PySem.strKind P w) T (fun z => decide (z ∈ ns.take i)) (dt (ns.take i)).length →
      (∀ s', Moved (T :: wr) G s s' → s'.heap.SetOf (PySem.strKind P w) T (fun z => decide (z ∈ ns.take n)) (dt (ns.take n)).length → R (.ok (.ret .none)) s') → codeAny (model P w) A (.builtin "set.update.loop" ⟨[.ref T, .ref I], []⟩) R s := by
  have hTw : T ∉ wr := fun h => hT (W.sub _ h)
  have up : ∀ x ∈ wr, x ∈ T :: wr := fun x hx => List.mem_cons_of_mem _ hx
  intro k
  induction k with
  | zero =>
    intro i s hk hi st hS hR
    obtain rfl : i = n := by omega
    refine codeAny_builtin PyProof.Rows.F.entry_set_update_loop ?_
    rw [Around.under_plainId PyProof.Rows.F.plain_set_update_loop _]
    refine wpAny_bind (m := pyNext (.ref I)) (W.done s _ _ st fun s' mv => ?_)
    refine wpAny_pure (hR s' (mv.mono up) ?_)
    obtain ⟨o, es, ep, t, ho, q⟩ := hS
    exact ⟨o, es, ep, t, mv.heap T _ hTw ho, q⟩
  | succ k ih =>
    intro i s hk hi st hS hR
    have lt : i < n := by omega
    refine codeAny_builtin PyProof.Rows.F.entry_set_update_loop ?_
    rw [Around.under_plainId PyProof.Rows.F.plain_set_update_loop _]
    refine wpAny_bind (m := pyNext (.ref I)) (W.item i s _ _ lt st fun v s' hp st' mv => ?_)
    obtain ⟨z, tz, hz, rfl⟩ := hv i v hp
    have hS1 : s'.heap.SetOf (PySem.strKind P w) T (fun z => decide (z ∈ ns.take i)) (dt (ns.take i)).length := by
      obtain ⟨o, es, ep, t, ho, q⟩ := hS
      exact ⟨o, es, ep, t, mv.heap T _ hTw ho, q⟩
    refine wpAny_bind (m := holding [Value.str z tz] (setAdd T (.str z tz))) (wpAny_holding ?_)
    unfold setAdd
    refine wpAny_holding (wpAny_bind ((PySem.strKind P w).pyHash (k := z) (strKind_is _ _ _ _) ?_))
    refine wpAny_setAddHashed_of (knd := PySem.strKind P w) (k := z) (s := { s' with toks := s'.toks + 1 }) (strKind_is _ _ _ _) rfl hS1 (by have := dt_le (ns.take i); rw [List.length_take] at this; unfold scanBound; omega) fun h' sb hS2 => ?_
    have et : ns.take (i + 1) = ns.take i ++ [z] := by rw [List.take_add_one, hz]; rfl
    have hS3 : h'.SetOf (PySem.strKind P w) T (fun z => decide (z ∈ ns.take (i + 1))) (dt (ns.take (i + 1))).length := by
      refine SetOf_eq hS2 (by funext u; rw [et]; simp) ?_
      rw [et, dt_snoc]
      by_cases h0 : z ∈ ns.take i
      · rw [if_pos (by simpa using h0), if_pos ((dt_mem _ z).mpr h0)]
      · rw [if_neg (by simpa using h0), if_neg (fun y => h0 ((dt_mem _ z).mp y)), List.length_append]; rfl
    refine wpAny_pure ⟨plainId_quiet PyProof.Rows.F.plain_set_update_loop _, ih (i + 1) _ (by omega) lt (W.frame _ s' _ _ st' (Nat.le_succ _) fun x hx o e => ?_) hS3 fun s2 mv2 q => ?_⟩
    · rw [sb.2 x (fun z => hT (by rw [← z]; exact hx))]; exact e
    · refine hR s2 (Moved.trans W.gtrans ((mv.mono up).then_heap (Nat.le_succ _) fun x o hx e => ?_) mv2) q
      rw [sb.2 x (fun z => hx (by rw [z]; exact List.mem_cons_self))]; exact e
end
end
section
variable {P : Program} {w : World} {A : Around} {E : Value → Shared → Prop} {s : Shared} 
def TxtS (P : Program) (w : World) (ns : List Str) (s : Shared) (h' : Heap) : Prop :=
  h'.SetOf (PySem.strKind P w) s.heap.objs.size (fun z => decide (z ∈ ns)) (dt ns).length ∧ ∀ x o, x < s.heap.objs.size → s.heap.get? x = some o → h'.get? x = some o
theorem call_setT {l : Addr} {ns : List Str} {its : Array Value} {Q : Value → Shared → Prop} (hh : A.handled = none) (hl : s.heap.IsList l its) (hn9 : ns.length ≤ 1000) (hsz : its.size = ns.length) (hi : ∀ (i : Nat) (v : Value), its[i]? = some v → ∃ z t, ns[i]? = some z ∧ v = .str z t)
    (h : ∀ (h' : Heap) (tk : Nat), TxtS P w ns s h' → Q (.ref s.heap.objs.size) { s with heap := h', toks := tk }) : wpAny (model P w) A (call (.type "set") [.ref l]) Q E s := by
  obtain ⟨c, tl, mro⟩ := PySem.F.called_set.mro
  have made := PySem.F.called_set.made
  have sub := PySem.F.called_set.sub
  have nt := PySem.F.called_set.notType
  have cc := PySem.F.called_set.canCreate
  have tc := PySem.F.typeCall_set_1 (.ref l)
  refine wpAny_call (codeAny_of_tree (show wpAny _ _ (callAny (.type "set") _) _ _ _ from wpAny_pure ⟨Code.quiet_builtin _ (by decide +kernel), codeAny_builtin PySem.F.entry_type_call ?_⟩))
  rw [Around.under_plain (weight_type_call_type "set" [.ref l] []) rfl]
  repeat (any_goals (first | assumption | wp_step))
  refine codeAny_mono (code_set_new_1 (.ref l) (E := E) (Q₁ := fun x t => ∃ g : Bool, x = .ref s.heap.objs.size ∧ t = { s with heap := s.heap.push (emp g) }) fun g => ⟨g, rfl, rfl⟩) fun r t hr => ?_
  cases r with
  | error e => exact hr
  | ok fl =>
    cases fl with
    | ret x =>
      obtain ⟨g, rfl, rfl⟩ := hr
      have hS : (s.heap.push (emp g)).get? s.heap.objs.size = some (emp g) := Heap.get?_push_size _ rfl
      have hT : Shared.TypeIs { s with heap := s.heap.push (emp g) } (.ref s.heap.objs.size) "set" := ⟨_, hS, rfl⟩
      have li := PySem.F.called_set.init.lookup
      have bi := PySem.F.called_set.init.bind (.ref s.heap.objs.size)
      repeat (any_goals (first | assumption | wp_step))
      refine codeAny_mono (codeAny_call_builtin (R := wants (fun r t => r = .none ∧ ∃ h' tk, t = { s with heap := h', toks := tk } ∧ TxtS P w ns s h') E) PySem.F.called_set.init.plain PySem.F.entry_set_init (check_set_init_1 hT ?_)) fun r t hr => ?_
      · obtain ⟨ol, hol, hc, m, hd⟩ := hl
        obtain ⟨cls, dict, data, sls⟩ := ol
        simp only at hc hd
        subst hc hd
        have hol' : (s.heap.push (emp g)).get? l = some ⟨.type "list", dict, .seq its m, sls⟩ := Heap.get?_push_of_some _ hol
        have n1 := PySem.F.sub_list_set
        have n2 := PySem.F.sub_list_frozenset
        have n3 : (Value.type "list" == Value.type "dict") = false := rfl
        have hl1 : (s.heap.push (emp g)).IsList l its := ⟨_, hol', rfl, m, rfl⟩
        unfold Builtin.«set.__init__» noKeywords Builtin.Frozenset.updateFrom
        generalize hPI : pyIter = PI
        wp_walk
        subst hPI
        refine wpAny_pyIter_list hl1 (wpAny_bind (wpAny_runValue ?_))
        have lts : l < s.heap.objs.size := Heap.lt_size hol
        have h3 : A.in1.in1.in1.handled = none := by simp [hh]
        have sz : (s.heap.push (emp g)).objs.size = s.heap.objs.size + 1 := Heap.size_push ..
        have ne1 : l ≠ (s.heap.push (emp g)).objs.size := by rw [sz]; exact Nat.ne_of_lt (Nat.lt_succ_of_lt lts)
        have ne2 : s.heap.objs.size ∉ [(s.heap.push (emp g)).objs.size, l] := by rw [sz]; simp only [List.mem_cons, List.not_mem_nil, or_false, not_or]; exact ⟨Nat.ne_of_lt (Nat.lt_succ_self _), Nat.ne_of_gt lts⟩
        refine upd_str ((Walks.list h3 _ l ne1 its).toS) s.heap.objs.size ne2 (ns := ns) hsz hn9 hi (its.size - 0) 0 _ rfl (Nat.zero_le _) ⟨⟨_, Heap.get?_push_size _ rfl, rfl, rfl⟩, hl1.push _⟩ ?s0 ?sR
        case s0 =>
          exact SetOf_eq ((setObjOf_fresh (knd := PySem.strKind P w) g).setOf (Heap.get?_push_of_some _ hS) (by unfold scanBound; omega)) rfl rfl
        case sR =>
          intro s' mv hS'
          obtain ⟨h', g', d', tk', os'⟩ := s'
          have eg : g' = s.gens := mv.gens
          have ed : d' = s.drawn := mv.drawn
          have eo : os' = s.os := mv.os
          subst eg ed eo
          refine wpAny_pure (show wpAny _ _ (ret Value.none) _ _ _ from wpAny_pure ⟨rfl, h', tk', rfl, SetOf_eq hS' (by rw [hsz, List.take_length]) (by rw [hsz, List.take_length]), fun x o hx e => ?_⟩)
          refine mv.heap x o ?_ (Heap.get?_push_of_some _ (Heap.get?_push_of_some _ e))
          rw [sz]
          simp only [List.mem_cons, List.not_mem_nil, or_false, not_or]
          exact ⟨Nat.ne_of_lt hx, Nat.ne_of_lt (Nat.lt_succ_of_lt hx)⟩
      · cases r with
        | error e => exact hr
        | ok fl =>
          cases fl with
          | ret r =>
            obtain ⟨rfl, h', tk, rfl, q⟩ := hr
            repeat (any_goals (first | assumption | wp_step))
            exact h _ _ q
          | _ => exact hr.elim
    | _ => exact hr.elim
end
section
variable {X : Cx}
def tLenSetT (K : PySem.W.Frag) (ta : TE) : TE := fun σ H Q => tCons ta tNil σ H fun vs H1 => ∃ p ns, vs = [.ref p] ∧ SqL K H1 p (ns.map V.str) ∧ ns.length ≤ 1000 ∧ Q (.int ((dt ns).length : Nat)) H1
theorem pe_lensetT {e : Expr} {ta : TE} {p p2 pos pos2 : Pos} (hc : X.calm = true) (hgl : Gl X "len") (hml : X.mg "len" = none) (hgs : Gl X "set") (hms : X.mg "set" = none) (ha : PE X e ta)
    (hs : starEach [e] X.env = (false, eval e X.env) :: starEach [] X.env := by rfl) (hs2 : starEach [.Call (.Name "set" p2) [e] [] pos2] X.env = (false, eval (.Call (.Name "set" p2) [e] [] pos2) X.env) :: starEach [] X.env := by rfl) :
    PE X (.Call (.Name "len" p) [.Call (.Name "set" p2) [e] [] pos2] [] pos) (tLenSetT X.K ta) := by
  intro pins s σ H Q I h
  refine wpAny_Call_Name_kw (ld_blt I hgl hml PySem.boot_len (PyProof.Rows.callWith_builtin1 ?_ hs2 rfl))
  rw [hs2]
  show wpAny _ _ (spliced ((false, eval (.Call (.Name "set" p2) [e] [] pos2) X.env) :: backTo pos (starEach [] X.env))) _ _ s
  refine Calls.spliced_cons (wpAny_Call_Name_kw (ld_blt I hgs hms set_boot (PyProof.Rows.callWith_type1 ?_ hs rfl)))
  refine thn (pa_cons ha pa_nil hs pos2 pins s σ H _ I h) fun us s1 ⟨vs, H1, I1, r1, pq, ns, e1, hq, hn9, q⟩ => ?_
  cases e1
  obtain ⟨u, rfl, rx⟩ := vals1 r1
  cases rx
  obtain ⟨its, rv, pl, hz⟩ := I1.list hq
  have hlen : its.toArray.size = ns.length := by rw [List.size_toArray, ← rv.length, List.length_map]
  refine call_setT (ns := ns) (I1.ok.hd hc) pl.isList hn9 hlen (fun i v hv => ?_) fun h' tk ⟨⟨o, es, ep, t, ho, ex, hd, _, _, hbd, hf, hn⟩, kp⟩ => ?_
  · have hv' : its[i]? = some v := by simpa using hv
    have hi : i < its.length := (List.getElem?_eq_some_iff.mp hv').1
    have hi' : i < ns.length := by rw [← hlen]; simpa using hi
    obtain ⟨t, ht⟩ := vstrT rv (List.getElem?_eq_getElem hi')
    rw [hv'] at ht
    cases ht
    exact ⟨_, t, List.getElem?_eq_getElem hi', rfl⟩
  · refine Calls.spliced_nil ?_
    have le := dt_le ns
    refine call_len_set ho ex hd hf (by rw [hn]; omega) ?_
    rw [hn]
    exact ⟨.int ((dt ns).length : Nat), H1, I1.kept (t' := _) fun x o e => kp x o (Heap.lt_size e) e, ⟨_, rfl⟩, q⟩
end
end L2

set_option Elab.async false
set_option linter.all false
set_option maxRecDepth 100000
set_option maxHeartbeats 4000000
namespace K85
open PySem L2 Tx
section
variable {P : Program} {w : World} {K : PySem.W.Frag} {mg : Str → Option Value} {base : Heap} {f g1 g2 g3 g4 g5 g6 g7 g8 : Addr} {fd gd1 gd2 gd3 gd4 gd5 gd6 gd7 gd8 : FuncData} {CX : CXT}
variable {CR : Addr} {CK : Kd → Addr} {fW fJ fT fS : Kd → Addr} {fdW fdJ fdT fdS : Kd → FuncData}
theorem putK_new {k : Key} {v : V} {kvs : List (Key × V)} (h : ∀ kv ∈ kvs, kv.1 ≠ k) : putK kvs k v = kvs ++ [(k, v)] := by
  unfold putK
  rw [if_neg]
  intro z
  obtain ⟨kv, hk, e⟩ := List.any_eq_true.mp z
  exact h kv hk (of_decide_eq_true e)
theorem PaOk.keys {CP : Addr} {K : PySem.W.Frag} {av : List Addr} {H : Hp} {n : Str} : ∀ {kvs : List (Key × V)} {pa : List (Str × PD)}, PaOk CP K av H kvs pa → n ∉ pa.map (·.1) → ∀ kv ∈ kvs, kv.1 ≠ Sum.inr n
  | [], [], _, _, _, h => by cases h
  | [], _ :: _, h, _, _, _ => h.elim
  | _ :: _, [], h, _, _, _ => h.elim
  | kv :: kvs, nP :: pa, ⟨a, _, c⟩, hn, x, hx => by
    rcases List.mem_cons.mp hx with rfl | hx
    · rw [a]
      intro z
      injection z with z
      exact hn (by rw [← z]; simp)
    · exact PaOk.keys c (fun z => hn (by rw [List.map_cons]; exact List.mem_cons_of_mem _ z)) x hx
theorem PaOk.snoc {CP : Addr} {K : PySem.W.Frag} {av : List Addr} {H : Hp} {n : Str} {g : Addr} {P : PD} (hP : PlOk CP K av H g P) : ∀ {kvs : List (Key × V)} {pa : List (Str × PD)}, PaOk CP K av H kvs pa → PaOk CP K av H (kvs ++ [(Sum.inr n, .ref g)]) (pa ++ [(n, P)])
  | [], [], _ => ⟨rfl, ⟨g, rfl, hP⟩, True.intro⟩
  | [], _ :: _, h => h.elim
  | _ :: _, [], h => h.elim
  | _ :: _, _ :: _, ⟨a, b, c⟩ => ⟨a, b, PaOk.snoc hP c⟩
theorem PaOk.length {CP : Addr} {K : PySem.W.Frag} {av : List Addr} {H : Hp} : ∀ {kvs : List (Key × V)} {pa : List (Str × PD)}, PaOk CP K av H kvs pa → kvs.length = pa.length
  | [], [], _ => rfl
  | [], _ :: _, h => h.elim
  | _ :: _, [], h => h.elim
  | _ :: _, _ :: _, ⟨_, _, c⟩ => by rw [List.length_cons, List.length_cons, c.length]
def EndG (CY CP CR' : Addr) (K : PySem.W.Frag) (av : List Addr) (y d : Addr) (Y : YS) (H : Hp) (Q : VK) (E : XK) : Prop :=
  (Y.op = none → ∀ H', Same H H' → E (.ref CR') none H') ∧ ∀ n P, Y.op = some (n, P) → n ∉ Y.pa.map (·.1) ∧ ∀ H', SYd y d H H' → YG CY CP K av H' y d { Y with pa := Y.pa ++ [(n, P)], op := none } → Q .non H'
theorem EndG.mono {CY CP CR' : Addr} {K : PySem.W.Frag} {av : List Addr} {y d : Addr} {Y : YS} {H H1 : Hp} {Q : VK} {E : XK} (s : Same H H1) (h : EndG CY CP CR' K av y d Y H Q E) : EndG CY CP CR' K av y d Y H1 Q E :=
  ⟨fun x H' s' => h.1 x H' (s.trans s'), fun n P e => ⟨(h.2 n P e).1, fun H' s' => (h.2 n P e).2 H' (fun b o hb n1 n2 => s' b o (s _ _ hb) n1 n2)⟩⟩
def spEndG (CY CP CR' : Addr) (K : PySem.W.Frag) : Sp := fun vs H Q E => ∃ (av : List Addr) (y d : Addr) (Y : YS), vs = [.ref y] ∧ YG CY CP K av H y d Y ∧ Y.pa.length ≤ 100 ∧ EndG CY CP CR' K av y d Y H Q E
abbrev sEnd : Stmt := inClass (top 46) 3
theorem scEnd : FnScope ["self"] ["self"] (defScope sEnd) := ⟨rfl, rfl, rfl, by decide +kernel, rfl, by decide +kernel, by decide +kernel⟩
theorem ok_end {dV : Value} {CY : Addr} (F : FunD K "end_part" "Yard.end_part" sEnd dV f fd) (YTx : YaT K mg CY) {CP CR' : Addr}
    (mN : mg "NoRow" = some (.ref CR')) (xN : ExcC K CR') : FnOk P w K mg base (CX1 P w) 1 f fd ["self"] (spEndG CY CP CR' K) := by
  refine F.okX scEnd (fun vs H Q E h => ?_) (fun cdv A outer s H vs Q E hr h => ?_)
  · obtain ⟨av, y, d, Y, rfl, ⟨dy, g, o, q', kvs, hy, hg, hd, hp, ho, ha⟩, h100, ⟨q1, q2⟩⟩ := h
    rfl
  obtain ⟨av, y, d, Y, rfl, ⟨dy, g, o, q', kvs, hy, hg, hd, hp, ho, ha⟩, h100, ⟨q1, q2⟩⟩ := h
  refine ⟨_, (pss_cons (ps_if (pt_cmp (pc_isN (pe_fld (pv 0) rfl))) (pss_one (ps_raise frm_cxOf xe_cxOf rfl rfl mN xN (pa_cons pe_str pa_nil))) pss_nil)
    (pss_cons (ps_dput (hu_of hr) (pe_fld (pv 0) rfl) (pe_fld (pv 0) rfl) (pe_fld (pv 0) rfl) rfl)
    (pss_cons (ps_fld (pv 0) pe_non rfl)
    (pss_one (ps_fld (pv 0) pe_non rfl))))), ?_⟩
  cases e : Y.op with
  | none =>
    rw [e] at ho
    obtain ⟨rfl, rfl⟩ := ho
    exact ⟨_, rfl, y, CY, dy, _, _, rfl, hy, YTx.cl, YTx.no, yfl_o _ _ _ _, _, rfl, iteT ⟨by show 1 ≤ sizeLine; decide, q1 e H (Same.refl _)⟩⟩
  | some nP =>
    rw [e] at ho
    obtain ⟨rfl, g2, rfl, hP2⟩ := ho
    obtain ⟨nn, q3⟩ := q2 nP.1 nP.2 e
    have lk := hp.length
    refine ⟨_, rfl, y, CY, dy, _, _, rfl, hy, YTx.cl, YTx.no, yfl_o _ _ _ _, _, rfl, iteF ?_⟩
    refine ⟨_, rfl, y, CY, dy, _, _, rfl, hy, YTx.cl, YTx.nq, yfl_q _ _ _ _, _, rfl, y, CY, dy, _, _, rfl, hy, YTx.cl, YTx.nd, yfl_d _ _ _ _, _, rfl, y, CY, dy, _, _, rfl, hy, YTx.cl, YTx.no, yfl_o _ _ _ _, d, _, rfl, DPut.k (k := Sum.inr nP.1) hd (small1000 (by omega)), ?_⟩
    rw [putK_new (hp.keys nn)]
    have ndy : y ≠ d := fun z => by rw [← z, hy] at hd; cases hd
    have s1 : SYd y d H (upd H d (.dK (kvs ++ [(Sum.inr nP.1, .ref g2)]))) := fun b o h _ n2 => by rw [upd_ne n2]; exact h
    have m1 : ∀ g P, PlOk CP K av H g P → PlOk CP K av (upd H d (.dK (kvs ++ [(Sum.inr nP.1, .ref g2)]))) g P := fun g P h => h.mv hy hd s1 (pl_ne h hy)
    have hy1 : upd H d (.dK (kvs ++ [(Sum.inr nP.1, .ref g2)])) y = some (.ins CY dy (yfl g d (.str nP.1) (.ref g2))) := by rw [upd_ne ndy]; exact hy
    have hd1 : upd H d (.dK (kvs ++ [(Sum.inr nP.1, .ref g2)])) d = some (.dK (kvs ++ [(Sum.inr nP.1, .ref g2)])) := upd_same
    have hg1 := m1 _ _ hg
    have hp1 := PaOk.snoc (n := nP.1) (m1 _ _ hP2) (hp.imp m1)
    have ha1 : ∀ a ∈ av, upd H d (.dK (kvs ++ [(Sum.inr nP.1, .ref g2)])) a ≠ none := fun a hin z => by
      by_cases h : a = d
      · rw [h, upd_same] at z; cases z
      · rw [upd_ne h] at z; exact ha a hin z
    generalize upd H d (.dK (kvs ++ [(Sum.inr nP.1, .ref g2)])) = H1 at s1 hy1 hd1 hg1 hp1 ha1 ⊢
    refine ⟨_, rfl, y, CY, dy, yfl g d (.str nP.1) (.ref g2), rfl, hy1, YTx.cl, YTx.no, by show 4 < 1000; decide, ?_⟩
    rw [yfl_o']
    refine ⟨_, rfl, y, CY, dy, yfl g d .non (.ref g2), rfl, upd_same, YTx.cl, YTx.nq, by show 4 < 1000; decide, ?_⟩
    rw [yfl_q']
    have eu : upd (upd H1 y (.ins CY dy (yfl g d .non (.ref g2)))) y (.ins CY dy (yfl g d .non .non)) = upd H1 y (.ins CY dy (yfl g d .non .non)) := by
      funext b
      by_cases h : b = y
      · rw [h, upd_same, upd_same]
      · rw [upd_ne h, upd_ne h, upd_ne h]
    rw [eu]
    obtain ⟨s2, y2⟩ := YG.put (g2 := g) (o2 := .non) (q2 := .non) (Y2 := { Y with pa := Y.pa ++ [(nP.1, nP.2)], op := none }) hy1 hd1 hg1 hp1 ⟨rfl, rfl⟩ ha1
    exact q3 _ (fun b o h n1 n2 => s2 _ _ (s1 _ _ h n1 n2) n1 n2) y2
end
end K85

set_option Elab.async false
set_option linter.all false
set_option maxRecDepth 100000
set_option maxHeartbeats 4000000
namespace K85
open PySem L2 Tx
section
variable {P : Program} {w : World} {K : PySem.W.Frag} {mg : Str → Option Value} {base : Heap} {f g1 g2 g3 g4 g5 g6 g7 g8 : Addr} {fd gd1 gd2 gd3 gd4 gd5 gd6 gd7 gd8 : FuncData} {CX : CXT}
variable {CR : Addr} {CK : Kd → Addr} {fW fJ fT fS : Kd → Addr} {fdW fdJ fdT fdS : Kd → FuncData}
theorem dt_len (ns : List Str) : (dt ns).length = ns.length ↔ ns.Nodup := by
  refine snoc_indT (P := fun ns => (dt ns).length = ns.length ↔ ns.Nodup) (by simp [dt]) (fun l x ih => ?_) ns
  have le := dt_le l
  rw [dt_snoc, List.length_append]
  by_cases h : x ∈ dt l
  · rw [if_pos h]
    refine ⟨fun z => by simp only [List.length_cons, List.length_nil] at z; omega, fun z => ?_⟩
    have := (List.nodup_append.mp z).2.2 x ((dt_mem l x).mp h) x (by simp)
    exact absurd rfl this
  · rw [if_neg h, List.length_append]
    refine ⟨fun z => ?_, fun z => ?_⟩
    · have n := ih.mp (by simp only [List.length_cons, List.length_nil] at z; omega)
      refine List.nodup_append.mpr ⟨n, by simp, fun a ha b hb e => ?_⟩
      have : b = x := by simpa using hb
      exact h ((dt_mem l x).mpr (by rw [← this, ← e]; exact ha))
    · rw [ih.mpr (List.nodup_append.mp z).1]
theorem PaOk.val {CP : Addr} {K : PySem.W.Frag} {av : List Addr} {H : Hp} {n : Str} : ∀ {kvs : List (Key × V)} {pa : List (Str × PD)}, PaOk CP K av H kvs pa → ((valV kvs (Sum.inr n : Key)).isSome = true ↔ n ∈ pa.map (·.1))
  | [], [], _ => by simp [valV]
  | [], _ :: _, h => h.elim
  | _ :: _, [], h => h.elim
  | kv :: kvs, nP :: pa, ⟨a, _, c⟩ => by
    have ih := PaOk.val (n := n) c
    rw [List.map_cons, List.mem_cons]
    by_cases e : nP.1 = n
    · rw [valV_pos (by rw [a, e])]
      simp [e]
    · have : valV (kv :: kvs) (Sum.inr n : Key) = valV kvs (Sum.inr n) := by
        have : ¬ kv.1 = (Sum.inr n : Key) := by rw [a]; intro z; injection z with z; exact e z
        simp [valV, List.find?_cons, this]
      rw [this, ih]
      exact ⟨.inr, fun h => h.elim (fun z => absurd z.symm e) id⟩
def BegG (CY CP CR' CM CT : Addr) (K : PySem.W.Frag) (av : List Addr) (y d : Addr) (Y : YS) (n : List Nat) (X : List (List Nat)) (H : Hp) (Q : VK) (E : XK) : Prop :=
  (Y.op ≠ none → ∀ H', Same H H' → E (.ref CR') none H') ∧
  (Y.op = none → (n :: X).all nmB = false → ∀ H', Same H H' → E (.ref CM) none H') ∧
  (Y.op = none → (n :: X).all nmB = true → (¬ (X.map S).Nodup ∨ S n ∈ Y.pa.map (·.1)) → ∀ H', Same H H' → E (.ref CM) none H') ∧
  (Y.op = none → (n :: X).all nmB = true → (X.map S).Nodup → S n ∉ Y.pa.map (·.1) → (20 ≤ Y.pa.length ∨ 20 < X.length) → ∀ H', Same H H' → E (.ref CT) none H') ∧
  (Y.op = none → (n :: X).all nmB = true → (X.map S).Nodup → S n ∉ Y.pa.map (·.1) → Y.pa.length < 20 → X.length ≤ 20 → ∀ H', SYd y d H H' → YG CY CP K av H' y d { Y with op := some (S n, ⟨X.map S, X.length, [], []⟩) } → Q .non H')
theorem BegG.mono {CY CP CR' CM CT : Addr} {K : PySem.W.Frag} {av : List Addr} {y d : Addr} {Y : YS} {n : List Nat} {X : List (List Nat)} {H H1 : Hp} {Q : VK} {E : XK} (s : Same H H1) (h : BegG CY CP CR' CM CT K av y d Y n X H Q E) : BegG CY CP CR' CM CT K av y d Y n X H1 Q E :=
  ⟨fun a H' s' => h.1 a H' (s.trans s'), fun a b H' s' => h.2.1 a b H' (s.trans s'), fun a b c H' s' => h.2.2.1 a b c H' (s.trans s'), fun a b c e f H' s' => h.2.2.2.1 a b c e f H' (s.trans s'), fun a b c e f g H' s' => h.2.2.2.2 a b c e f g H' (fun b o hb n1 n2 => s' b o (s _ _ hb) n1 n2)⟩
def spBegG (CY CP CR' CM CT : Addr) (K : PySem.W.Frag) : Sp := fun vs H Q E => ∃ (av : List Addr) (y d el : Addr) (Y : YS) (n : List Nat) (X : List (List Nat)), vs = [.ref y, .str (S n), .ref el] ∧ YG CY CP K av H y d Y ∧ H el = some (.lst (X.map fun x => V.str (S x))) ∧ X.length ≤ 900 ∧ (∀ x ∈ n :: X, x.length ≤ 1000000) ∧ Y.pa.length ≤ 100 ∧ BegG CY CP CR' CM CT K av y d Y n X H Q E
abbrev sBeg : Stmt := inClass (top 46) 2
theorem scBeg : FnScope ["self", "name", "ends", "plan"] ["self", "name", "ends"] (defScope sBeg) := ⟨rfl, rfl, rfl, by decide +kernel, rfl, by decide +kernel, by decide +kernel⟩
theorem ok_beg {dV : Value} {CY : Addr} (F : FunD K "begin_part" "Yard.begin_part" sBeg dV f fd) (YTx : YaT K mg CY) {CP CR' CM CT : Addr} (PTx : PlT K mg CP)
    (ml : mg "len" = none) (mse : mg "set" = none) {tA : Tok} (mMA : mg "MOST_PARTS" = some (.int 20 tA))
    (G1 : FnOk P w K mg base (CX1 P w) 2 g1 gd1 ["words"] (spRNames K CM)) (b1 : Binds K gd1 ["words"] []) (k1 : PySem.W.keepIn K (.ref g1) = true) (m1 : mg "refuse_names" = some (.ref g1))
    (G2 : FnOk P w K mg base (CX1 P w) 2 g2 gd2 ["plan"] (spROverX CP CT)) (b2 : Binds K gd2 ["plan"] []) (k2 : PySem.W.keepIn K (.ref g2) = true) (m2 : mg "refuse_overfull" = some (.ref g2))
    {gPI : Addr} {gdPI : FuncData} (GPI : FnOk P w K mg base CX0 1 gPI gdPI ["self", "labels", "end_count"] (spPInit CP K)) (bPI : Binds K gdPI ["self", "labels", "end_count"] []) (MP : Mk K CP gPI)
    (mNR : mg "NoRow" = some (.ref CR')) (xNR : ExcC K CR') (mNM : mg "NoName" = some (.ref CM)) (xNM : ExcC K CM) (mNT : mg "TooMany" = some (.ref CT)) (xNT : ExcC K CT) : FnOk P w K mg base (CX1 P w) 4 f fd ["self", "name", "ends"] (spBegG CY CP CR' CM CT K) := by
  refine F.okX scBeg (fun vs H Q E h => ?_) (fun cdv A outer s H vs Q E hr h => ?_)
  · obtain ⟨av, y, d, el, Y, n, X, rfl, ⟨dy, g, o, q', kvs, hy, hg, hd, hp, ho, ha⟩, hel, h900, hX, h100, ⟨q1, q2, q3, q4, q5⟩⟩ := h
    rfl
  obtain ⟨av, y, d, el, Y, n, X, rfl, ⟨dy, g, o, q', kvs, hy, hg, hd, hp, ho, ha⟩, hel, h900, hX, h100, ⟨q1, q2, q3, q4, q5⟩⟩ := h
  have r2 := hr.mono (show 2 ≤ 3 by omega)
  refine ⟨_, (pss_cons (ps_if (pt_cmp (pc_notN (pe_fld (pv 0) rfl))) (pss_one (ps_raise frm_cxOf xe_cxOf rfl rfl mNR xNR (pa_cons pe_str pa_nil))) pss_nil)
    (pss_cons (ps_expr (pe_call G1 r2 rfl m1 k1 b1 .nil (passes_cx frm_cxOf xe_cxOf) (pa_cons (pe_op op_cat (pe_lst (pa_cons (pv 1) pa_nil)) (pv 2)) pa_nil)))
    (pss_cons (ps_if (pt_cmpR op_lt (pe_lensetT rfl rfl ml rfl mse (pv 2)) (pe_callB call_len_seq rfl ml PySem.boot_len (pa_cons (pv 2) pa_nil)) (nomark _)) (pss_one (ps_raise frm_cxOf xe_cxOf rfl rfl mNM xNM (pa_cons pe_str pa_nil))) pss_nil)
    (pss_cons (ps_if (pt_cmp (pc_din (hu_of hr) (pv 1) (pe_fld (pv 0) rfl))) (pss_one (ps_raise frm_cxOf xe_cxOf rfl rfl mNM xNM (pa_cons pe_str pa_nil))) pss_nil)
    (pss_cons (ps_if (pt_cmpR op_ge (pe_callB call_lenD rfl ml PySem.boot_len (pa_cons (pe_fld (pv 0) rfl) pa_nil)) (pe_glob (v := .int 20) rfl mMA ⟨_, rfl⟩) (nomark _)) (pss_one (ps_raise frm_cxOf xe_cxOf rfl rfl mNT xNT (pa_cons pe_str pa_nil))) pss_nil)
    (pss_cons (ps_set (i := 3) scBeg.nd rfl (Or.inl rfl) (pe_make MP GPI r2 rfl PTx.mP bPI .nil pass0 (pa_cons (pv 2) (pa_cons (pe_callB call_len_seq rfl ml PySem.boot_len (pa_cons (pv 2) pa_nil)) pa_nil))))
    (pss_cons (ps_expr (pe_call G2 r2 rfl m2 k2 b2 .nil (passes_cx frm_cxOf xe_cxOf) (pa_cons (pv 3) pa_nil)))
    (pss_cons (ps_fld (pv 0) (pv 1) rfl)
    (pss_one (ps_fld (pv 0) (pv 3) rfl)))))))))), ?_⟩
  cases e : Y.op with
  | some nP =>
    rw [e] at ho
    obtain ⟨rfl, g2, rfl, hP2⟩ := ho
    exact ⟨_, rfl, y, CY, dy, _, _, rfl, hy, YTx.cl, YTx.no, yfl_o _ _ _ _, _, rfl, iteT ⟨by show 1 ≤ sizeLine; decide, q1 (by rw [e]; simp) H (Same.refl _)⟩⟩
  | none =>
  rw [e] at ho
  obtain ⟨rfl, rfl⟩ := ho
  refine ⟨_, rfl, y, CY, dy, _, _, rfl, hy, YTx.cl, YTx.no, yfl_o _ _ _ _, _, rfl, iteF ?_⟩
  refine ⟨_, rfl, by show 1 ≤ sizeLine; decide, fun A hA => ?_⟩
  have s1 := same_new hA (.lst [.str (S n)])
  have e1 : upd H A (.lst [.str (S n)]) A = some (.lst [.str (S n)]) := upd_same
  generalize upd H A (.lst [.str (S n)]) = H1 at s1 e1 ⊢
  refine ⟨_, rfl, A, el, _, _, rfl, rfl, e1, s1 _ _ hel, by rw [sizeLine_eq, List.length_map]; simp only [List.length_cons, List.length_nil]; omega, fun B hB => ?_⟩
  have eB0 : ([V.str (S n)] ++ X.map fun x => V.str (S x)) = ((n :: X).map fun x => V.str (S x)) := rfl
  rw [eB0]
  have s2 := same_new hB (.lst ((n :: X).map fun x => V.str (S x)))
  have e2 : upd H1 B (.lst ((n :: X).map fun x => V.str (S x))) B = some (.lst ((n :: X).map fun x => V.str (S x))) := upd_same
  generalize upd H1 B (.lst ((n :: X).map fun x => V.str (S x))) = H2 at s2 e2 ⊢
  have s02 := s1.trans s2
  refine ⟨B, n :: X, rfl, SqL.of e2, by rw [List.length_cons]; omega, hX, fun H3 s3 => ⟨fun ok => ?_, fun bad => q2 e bad H3 (s02.trans s3)⟩⟩
  have s03 := s02.trans s3
  have emap : (X.map fun x => V.str (S x)) = (X.map S).map V.str := by rw [List.map_map]; rfl
  have hel3 : H3 el = some (.lst ((X.map S).map V.str)) := by rw [← emap]; exact s03 _ _ hel
  refine ⟨_, rfl, el, X.map S, rfl, SqL.of hel3, by rw [List.length_map]; omega, _, rfl, el, _, rfl, .inl (SqL.of hel3), _, _, rfl, rfl, _, rfl, ?_⟩
  have le := dt_le (X.map S)
  have dl := dt_len (X.map S)
  rw [List.length_map] at le dl
  by_cases nd : (X.map S).Nodup
  rotate_left
  · refine L2.ifT (decide_eq_true ?_) ⟨by show 1 ≤ sizeLine; decide, q3 e ok (.inl nd) H3 s03⟩
    have : (dt (X.map S)).length ≠ X.length := fun z => nd (dl.mp z)
    rw [List.length_map, List.length_map]
    omega
  refine L2.ifF (decide_eq_false ?_) ?_
  · have := dl.mpr nd
    rw [List.length_map, List.length_map]
    omega
  have hy3 := s03 _ _ hy
  have hd3 := s03 _ _ hd
  refine ⟨_, rfl, _, rfl, y, CY, dy, _, _, rfl, hy3, YTx.cl, YTx.nd, yfl_d _ _ _ _, d, _, rfl, DGet.k (k := Sum.inr (S n)) hd3, _, rfl, ?_⟩
  have hv := PaOk.val (n := S n) hp
  by_cases hin : S n ∈ Y.pa.map (·.1)
  · exact L2.ifT (hv.mpr hin) ⟨by show 1 ≤ sizeLine; decide, q3 e ok (.inr hin) H3 s03⟩
  refine L2.ifF (by rw [Bool.eq_false_iff]; exact fun z => hin (hv.mp z)) ?_
  have lk := hp.length
  refine ⟨_, rfl, y, CY, dy, _, _, rfl, hy3, YTx.cl, YTx.nd, yfl_d _ _ _ _, d, kvs, rfl, hd3, _, _, rfl, rfl, _, rfl, ?_⟩
  by_cases h20 : 20 ≤ Y.pa.length
  · exact L2.ifT (decide_eq_true (by omega)) ⟨by show 1 ≤ sizeLine; decide, q4 e ok nd hin (.inl h20) H3 s03⟩
  refine L2.ifF (decide_eq_false (by omega)) ?_
  refine ⟨_, rfl, _, rfl, el, _, rfl, .inl (SqL.of hel3), fun x dx h1 h2 ne => ?_⟩
  have hgx : ∀ b o, H3 b = some o → (upd (upd H3 dx (.own x)) x (.ins CP dx [])) b = some o := fun b o h => by rw [upd_ne (ne_of_none h h1), upd_ne (ne_of_none h h2)]; exact h
  refine ⟨x, dx, el, _, X.map S, rfl, upd_same, SqL.of (hgx _ _ hel3), Ne.symm (ne_of_none hel3 h1), fun l t p H4 keep nl nt np hx hl ht hp' a1 a2 a3 => ⟨rfl, ?_⟩⟩
  have s4 : Same H3 H4 := fun b o h => keep b o (hgx b o h) (ne_of_none h h1)
  clear keep
  have nn : ∀ b, (upd (upd H3 dx (.own x)) x (.ins CP dx [])) b = none → H3 b = none := fun b h => by
    cases o : H3 b with
    | none => rfl
    | some o' => rw [hgx _ _ o] at h; cases h
  have s04 := s03.trans s4
  rw [List.length_map, List.length_map] at hx
  have PA : PlAt CP H4 x l (X.length : Int) t p (X.map S) [] [] := ⟨⟨dx, hx⟩, hl, ht, hp', a1, a2, a3⟩
  refine ⟨_, rfl, x, l, t, p, _, _, [], [], rfl, PA, fun ok2 => ?_, fun no => q4 e ok nd hin (.inr (by rw [List.length_map] at no; simp only [List.length_nil] at no; omega)) H4 s04⟩
  have l20 : X.length ≤ 20 := by have := ok2.1; rw [List.length_map] at this; exact this
  have far : ∀ b, H3 b = none → b ∉ av := fun b hb z => by
    cases o : H b with
    | none => exact ha b z o
    | some o' => rw [s03 _ _ o] at hb; cases hb
  have hP : PlOk CP K av H4 x ⟨X.map S, X.length, [], []⟩ := ⟨l, t, p, [], PA, .nil, far l (nn _ nl), far t (nn _ nt), far p (nn _ np)⟩
  have hy4 := s04 _ _ hy
  have hd4 := s04 _ _ hd
  have ha4 : ∀ a ∈ av, H4 a ≠ none := fun a hin z => by
    cases o : H a with
    | none => exact ha a hin o
    | some o' => rw [s04 _ _ o] at z; cases z
  refine ⟨_, rfl, _, rfl, y, CY, dy, yfl g d .non .non, rfl, hy4, YTx.cl, YTx.no, by show 4 < 1000; decide, ?_⟩
  rw [yfl_o']
  refine ⟨_, rfl, _, rfl, y, CY, dy, yfl g d (.str (S n)) .non, rfl, upd_same, YTx.cl, YTx.nq, by show 4 < 1000; decide, ?_⟩
  rw [yfl_q']
  have eu : upd (upd H4 y (.ins CY dy (yfl g d (.str (S n)) .non))) y (.ins CY dy (yfl g d (.str (S n)) (.ref x))) = upd H4 y (.ins CY dy (yfl g d (.str (S n)) (.ref x))) := by
    funext b
    by_cases h : b = y
    · rw [h, upd_same, upd_same]
    · rw [upd_ne h, upd_ne h, upd_ne h]
  rw [eu]
  obtain ⟨s5, y5⟩ := YG.put (g2 := g) (o2 := .str (S n)) (q2 := .ref x) (Y2 := { Y with op := some (S n, ⟨X.map S, X.length, [], []⟩) }) hy4 hd4 (hg.same s04) (hp.imp fun _ _ h => h.same s04) ⟨rfl, x, rfl, hP⟩ ha4
  exact q5 e ok nd hin (by omega) l20 _ (fun b o h n1 n2 => s5 _ _ (s04 _ _ h) n1 n2) y5
end
end K85

set_option Elab.async false
set_option linter.all false
set_option maxRecDepth 100000
set_option maxHeartbeats 4000000
namespace K85
open PySem L2 Tx
section
variable {P : Program} {w : World} {K : PySem.W.Frag} {mg : Str → Option Value} {base : Heap} {f g1 g2 g3 g4 g5 g6 g7 g8 : Addr} {fd gd1 gd2 gd3 gd4 gd5 gd6 gd7 gd8 : FuncData} {CX : CXT}
variable {CR : Addr} {CK : Kd → Addr} {fW fJ fT fS : Kd → Addr} {fdW fdJ fdT fdS : Kd → FuncData}
def lp2 (ls : List Str) (a b : List Nat) : List Str := lput (lput ls (S a)) (S b)
def fits (P : PD) : Prop := P.ls.length ≤ 20 ∧ P.ds.length ≤ 40
def ERowG (CY CP CM CU CZ CT : Addr) (K : PySem.W.Frag) (av : List Addr) (y d : Addr) (Y : YS) (k : Kd) (a b t : List Nat) (H : Hp) (Q : VK) (E : XK) : Prop :=
  ((nmB a && nmB b) = false → ∀ H', Same H H' → E (.ref CM) none H') ∧
  ((nmB a && nmB b) = true → (¬ ∃ p, Wr p t) → ∀ H', Same H H' → E (.ref CU) none H') ∧
  ((nmB a && nmB b) = true → ∀ p, Wr p t → okz k (some p) = false → ∀ H', Same H H' → E (.ref CZ) none H') ∧
  ((nmB a && nmB b) = true → ∀ p, Wr p t → okz k (some p) = true → ∀ (i j : Nat) (P' : PD), (lp2 Y.cur.ls a b)[i]? = some (S a) → (lp2 Y.cur.ls a b)[j]? = some (S b) → P' = ⟨lp2 Y.cur.ls a b, Y.cur.e, Y.cur.ds ++ [(k, (i : Int), (j : Int), p)], Y.cur.pn⟩ →
    (fits P' → ∀ H', SYd y d H H' → YG CY CP K av H' y d (Y.keep P') → Q .non H') ∧ (¬ fits P' → ∀ H', Same H H' → E (.ref CT) none H'))
theorem ERowG.mono {CY CP CM CU CZ CT : Addr} {K : PySem.W.Frag} {av : List Addr} {y d : Addr} {Y : YS} {k : Kd} {a b t : List Nat} {H H1 : Hp} {Q : VK} {E : XK} (s : Same H H1) (h : ERowG CY CP CM CU CZ CT K av y d Y k a b t H Q E) : ERowG CY CP CM CU CZ CT K av y d Y k a b t H1 Q E :=
  ⟨fun x H' s' => h.1 x H' (s.trans s'), fun x n H' s' => h.2.1 x n H' (s.trans s'), fun x p wr o H' s' => h.2.2.1 x p wr o H' (s.trans s'), fun x p wr o i j P' i1 j1 eP => ⟨fun f H' s' => (h.2.2.2 x p wr o i j P' i1 j1 eP).1 f H' (fun b o hb n1 n2 => s' b o (s _ _ hb) n1 n2), fun f H' s' => (h.2.2.2 x p wr o i j P' i1 j1 eP).2 f H' (s.trans s')⟩⟩
def spERowG (CY CP CM CU CZ CT : Addr) (K : PySem.W.Frag) : Sp := fun vs H Q E => ∃ (av : List Addr) (y d wl : Addr) (Y : YS) (k : Kd) (a b t : List Nat), vs = [.ref y, .ref wl] ∧ SqL K H wl [.str k.wd, .str (S a), .str (S b), .str (S t)] ∧ YG CY CP K av H y d Y ∧ Y.cur.ls.length ≤ 300 ∧ Y.cur.ds.length ≤ 300 ∧ a.length ≤ 1000 ∧ b.length ≤ 1000 ∧ t.length ≤ 1000 ∧ (∀ p, Wr p t → Mq.Bd 100 p) ∧ ERowG CY CP CM CU CZ CT K av y d Y k a b t H Q E
abbrev sERow : Stmt := inClass (top 46) 5
theorem scERow : FnScope ["self", "words", "size", "plan"] ["self", "words"] (defScope sERow) := ⟨rfl, rfl, rfl, by decide +kernel, rfl, by decide +kernel, by decide +kernel⟩
theorem ok_erow {dV : Value} {CY : Addr} (F : FunD K "enter_row" "Yard.enter_row" sERow dV f fd) (YTx : YaT K mg CY) {CP CM CU CZ CT : Addr} (PTx : PlT K mg CP)
    (G1 : FnOk P w K mg base (CX1 P w) 2 g1 gd1 ["words"] (spRNames K CM)) (b1 : Binds K gd1 ["words"] []) (k1 : PySem.W.keepIn K (.ref g1) = true) (m1 : mg "refuse_names" = some (.ref g1))
    (G2 : FnOk P w K mg base (CX1 P w) 3 g2 gd2 ["text"] (spRead K CU)) (b2 : Binds K gd2 ["text"] []) (k2 : PySem.W.keepIn K (.ref g2) = true) (m2 : mg "read" = some (.ref g2))
    (G3 : FnOk P w K mg base (CX1 P w) 4 g3 gd3 ["word", "size"] (spRSV K CZ)) (b3 : Binds K gd3 ["word", "size"] []) (k3 : PySem.W.keepIn K (.ref g3) = true) (m3 : mg "refuse_size" = some (.ref g3))
    {gCo : Addr} {gdCo : FuncData} (GCo : FnOk P w K mg base CX0 4 gCo gdCo ["self"] (spCoTG CY CP K)) (bCo : Binds K gdCo ["self"] []) (mCo : Meth K CY "copy_of_told" gCo)
    {gEn : Addr} {gdEn : FuncData} (GEn : FnOk P w K mg base CX0 2 gEn gdEn ["self", "word", "start", "goal", "size"] (spEnter CP K)) (bEn : Binds K gdEn ["self", "word", "start", "goal", "size"] []) (mEn : Meth K CP "enter" gEn)
    {gKe : Addr} {gdKe : FuncData} (GKe : FnOk P w K mg base (CX1 P w) 3 gKe gdKe ["self", "plan"] (spKeepG CY CP CT K)) (bKe : Binds K gdKe ["self", "plan"] []) (mKe : Meth K CY "keep" gKe) : FnOk P w K mg base (CX1 P w) 5 f fd ["self", "words"] (spERowG CY CP CM CU CZ CT K) := by
  refine F.okX scERow (fun vs H Q E h => ?_) (fun cdv A outer s H vs Q E hr h => ?_)
  · obtain ⟨av, y, d, wl, Y, k, a, b, t, rfl, hW, YD, h300, d300, la, lb, lt, bd, q⟩ := h
    rfl
  obtain ⟨av, y, d, wl, Y, k, a, b, t, rfl, hW, YD, h300, d300, la, lb, lt, bd, q⟩ := h
  have r2 := hr.mono (show 2 ≤ 4 by omega)
  have r3 := hr.mono (show 3 ≤ 4 by omega)
  refine ⟨_, (pss_cons (ps_expr (pe_call G1 r2 rfl m1 k1 b1 .nil (passes_cx frm_cxOf xe_cxOf) (pa_cons (pe_slice sl_list (pv 1) (po_some pe_int) (po_some pe_int)) pa_nil)))
    (pss_cons (ps_set (i := 2) scERow.nd rfl (Or.inl rfl) (pe_call G2 r3 rfl m2 k2 b2 .nil (passes_cx frm_cxOf xe_cxOf) (pa_cons (pe_ix ix_list (pv 1) pe_int (fun _ _ => rfl)) pa_nil)))
    (pss_cons (ps_expr (pe_call G3 hr rfl m3 k3 b3 .nil (passes_cx frm_cxOf xe_cxOf) (pa_cons (pe_ix ix_list (pv 1) pe_int (fun _ _ => rfl)) (pa_cons (pv 2) pa_nil))))
    (pss_cons (ps_set (i := 3) scERow.nd rfl (Or.inl rfl) (pe_meth0 (pv 0) YTx.cl mCo GCo hr bCo .nil pass0))
    (pss_cons (ps_expr (pe_meth (pv 3) PTx.cl mEn GEn r2 bEn .nil pass0 (pa_cons (pe_ix ix_list (pv 1) pe_int (fun _ _ => rfl)) (pa_cons (pe_ix ix_list (pv 1) pe_int (fun _ _ => rfl)) (pa_cons (pe_ix ix_list (pv 1) pe_int (fun _ _ => rfl)) (pa_cons (pv 2) pa_nil))))))
    (pss_one (ps_expr (pe_meth (pv 0) YTx.cl mKe GKe r3 bKe .nil (passes_cx frm_cxOf xe_cxOf) (pa_cons (pv 3) pa_nil))))))))), ?_⟩
  refine ⟨_, rfl, 1, rfl, 3, rfl, wl, _, rfl, hW, fun A hA => ?_⟩
  rw [show cutV [V.str k.wd, .str (S a), .str (S b), .str (S t)] (some 1) (some 3) = [V.str (S a), .str (S b)] from rfl]
  have s1 := same_new hA (.lst [V.str (S a), .str (S b)])
  have e1 : upd H A (.lst [V.str (S a), .str (S b)]) A = some (.lst [V.str (S a), .str (S b)]) := upd_same
  generalize upd H A (.lst [V.str (S a), .str (S b)]) = H1 at s1 e1 ⊢
  refine ⟨A, [a, b], rfl, SqL.of e1, by show 2 ≤ 1000; decide, fun cs hcs => ?_, fun H2 s2 => ⟨fun ok => ?_, fun bad => ?_⟩⟩
  · have : cs = a ∨ cs = b := by simpa using hcs
    rcases this with rfl | rfl <;> omega
  · have ok : (nmB a && nmB b) = true := by simpa using ok
    have s02 := s1.trans s2
    have hW2 := s02.seq hW
    refine ⟨_, rfl, wl, _, _, _, rfl, rfl, hW2, rfl, _, rfl, .inl ⟨t, rfl, by omega, fun p0 wr z H3 s3 e3 => ?_, fun no H3 s3 => q.2.1 ok no H3 (s02.trans s3)⟩⟩
    have s03 := s02.trans s3
    have fz : Fq K H3 z p0 := Fq.of e3
    refine ⟨_, rfl, wl, _, _, _, rfl, rfl, s03.seq hW, rfl, _, rfl, k, _, some p0, rfl, .fr fz wr.low, fun p' e => by cases e; exact bd _ wr, fun okz1 => ?_, fun no => q.2.2.1 ok p0 wr no H3 s03⟩
    have YD3 := YD.same s03
    obtain ⟨dy, g, o, q', kvs, hy, _, hd, _, _, ha⟩ := id YD
    have hy3 := s03 _ _ hy
    refine ⟨_, rfl, y, dy, _, rfl, hy3, (by with_unfolding_all rfl), av, y, d, Y, rfl, YD3, fun g5 l5 t5 p5 es H5 s5 ng nl nt np PA5 hR5 => ?_⟩
    obtain ⟨dg5, hg5⟩ := PA5.ob
    have s05 := s03.trans s5
    have hy5 := s05 _ _ hy
    have hW5 := s05.seq hW
    have les := hR5.length
    refine ⟨_, rfl, g5, dg5, _, rfl, hg5, (by with_unfolding_all rfl), _, rfl, wl, _, _, _, rfl, rfl, hW5, rfl, _, rfl, wl, _, _, _, rfl, rfl, hW5, rfl, _, rfl, wl, _, _, _, rfl, rfl, hW5, rfl, _, rfl, g5, l5, t5, p5, _, _, es, _, _, _, _, _, rfl, PA5, by omega, by omega, fun i j u H6 k6 sq i1 j1 PA6 => ?_⟩
    have nyl : y ≠ l5 := ne_of_none hy3 nl
    have nyt : y ≠ t5 := ne_of_none hy3 nt
    have s6 : Same H3 H6 := fun b o h => k6 _ _ (s5 _ _ h) (ne_of_none h nl) (ne_of_none h nt)
    have YD6 := YD3.same s6
    have hy6 := s6 _ _ hy3
    have far : ∀ b, H3 b = none → b ∉ av := fun b hb z => by
      cases o : H b with
      | none => exact ha b z o
      | some o' => rw [s03 _ _ o] at hb; cases hb
    have mR : Rts K H6 es Y.cur.ds := by
      have mt : ∀ {a : Addr} {xs : List V}, SqT K H5 a xs → SqT K H6 a xs := fun h => by
        rcases h with (h | ⟨u, h⟩) | h
        · exact .inl (.inl (k6 _ _ h (ne_of h PA5.hl (fun z => by cases z)) (ne_of h PA5.ht (fun z => by cases z))))
        · exact .inl (.inr ⟨u, k6 _ _ h (ne_of h PA5.hl (fun z => by cases z)) (ne_of h PA5.ht (fun z => by cases z))⟩)
        · exact .inr h
      have mr : ∀ {xs : List V} {ds : List RD}, Rts K H5 xs ds → Rts K H6 xs ds := fun h => by
        induction h with
        | nil => exact .nil
        | cons a b c ih => exact .cons (mt a) (mt b) ih
      exact mr hR5
    have hP : PlOk CP K av H6 g5 ⟨lp2 Y.cur.ls a b, Y.cur.e, Y.cur.ds ++ [(k, (i : Int), (j : Int), p0)], Y.cur.pn⟩ := ⟨l5, t5, p5, es ++ [V.ref u], PA6, mR.app (.cons sq (s6.fq fz) .nil), far l5 nl, far t5 nt, far p5 np⟩
    obtain ⟨qa, qb⟩ := q.2.2.2 ok p0 wr okz1 i j _ i1 j1 rfl
    exact ⟨_, rfl, y, dy, _, rfl, hy6, (by with_unfolding_all rfl), _, rfl, av, y, d, g5, Y, _, rfl, YD6, hP, fun f H7 s7 yd7 => qa f H7 (fun b o h n1 n2 => s7 _ _ (s6 _ _ (s03 _ _ h)) n1 n2) yd7, fun f => qb f H6 (s03.trans s6)⟩
  · have bad : (nmB a && nmB b) = false := by rw [← bad]; simp
    exact q.1 bad H2 (s1.trans s2)
end
end K85

set_option Elab.async false
set_option linter.all false
set_option maxRecDepth 100000
set_option maxHeartbeats 4000000
namespace K85
open PySem L2 Tx
section
variable {P : Program} {w : World} {K : PySem.W.Frag} {mg : Str → Option Value} {base : Heap} {f g1 g2 g3 g4 g5 g6 g7 g8 : Addr} {fd gd1 gd2 gd3 gd4 gd5 gd6 gd7 gd8 : FuncData} {CX : CXT}
variable {CR : Addr} {CK : Kd → Addr} {fW fJ fT fS : Kd → Addr} {fdW fdJ fdT fdS : Kd → FuncData}
def partOf (pa : List (Str × PD)) (n : Str) : Option PD := (pa.find? fun x => decide (x.1 = n)).map (·.2)
theorem PaOk.get {CP : Addr} {K : PySem.W.Frag} {av : List Addr} {H : Hp} {n : Str} : ∀ {kvs : List (Key × V)} {pa : List (Str × PD)}, PaOk CP K av H kvs pa → (partOf pa n = none ∧ valV kvs (Sum.inr n : Key) = none) ∨ ∃ P g, partOf pa n = some P ∧ valV kvs (Sum.inr n : Key) = some (.ref g) ∧ PlOk CP K av H g P
  | [], [], _ => .inl ⟨rfl, rfl⟩
  | [], _ :: _, h => h.elim
  | _ :: _, [], h => h.elim
  | kv :: kvs, nP :: pa, ⟨a, ⟨g, b, c⟩, r⟩ => by
    have ih := PaOk.get (n := n) r
    by_cases e : nP.1 = n
    · refine .inr ⟨nP.2, g, ?_, ?_, c⟩
      · simp [partOf, List.find?_cons, e]
      · rw [valV_pos (by rw [a, e]), b]
    · have e1 : partOf (nP :: pa) n = partOf pa n := by simp [partOf, List.find?_cons, e]
      have e2 : valV (kv :: kvs) (Sum.inr n : Key) = valV kvs (Sum.inr n) := by
        have : ¬ kv.1 = (Sum.inr n : Key) := by rw [a]; intro z; injection z with z; exact e z
        simp [valV, List.find?_cons, this]
      rw [e1, e2]
      exact ih
def EPutG (CY CP CM CT : Addr) (K : PySem.W.Frag) (av : List Addr) (y d : Addr) (Y : YS) (n m : List Nat) (X : List (List Nat)) (H : Hp) (Q : VK) (E : XK) : Prop :=
  ((n :: m :: X).all nmB = false → ∀ H', Same H H' → E (.ref CM) none H') ∧
  ((n :: m :: X).all nmB = true → (S n ∈ Y.cur.pn ∨ partOf Y.pa (S m) = none ∨ ∃ P, partOf Y.pa (S m) = some P ∧ X.length ≠ P.e) → ∀ H', Same H H' → E (.ref CM) none H') ∧
  ((n :: m :: X).all nmB = true → S n ∉ Y.cur.pn → ∀ P, partOf Y.pa (S m) = some P → X.length = P.e → ∀ (sp : List Int) (P' : PD), SpAt (lps Y.cur.ls (X.map S ++ inn (S n) P.e P.ls)) (X.map S ++ inn (S n) P.e P.ls) sp → P' = ⟨lps Y.cur.ls (X.map S ++ inn (S n) P.e P.ls), Y.cur.e, Y.cur.ds ++ P.ds.map (mvD sp), Y.cur.pn ++ [S n]⟩ →
    (fits P' → ∀ H', SYd y d H H' → YG CY CP K av H' y d (Y.keep P') → Q .non H') ∧ (¬ fits P' → ∀ H', Same H H' → E (.ref CT) none H'))
theorem EPutG.mono {CY CP CM CT : Addr} {K : PySem.W.Frag} {av : List Addr} {y d : Addr} {Y : YS} {n m : List Nat} {X : List (List Nat)} {H H1 : Hp} {Q : VK} {E : XK} (s : Same H H1) (h : EPutG CY CP CM CT K av y d Y n m X H Q E) : EPutG CY CP CM CT K av y d Y n m X H1 Q E :=
  ⟨fun x H' s' => h.1 x H' (s.trans s'), fun x c H' s' => h.2.1 x c H' (s.trans s'), fun x c P hp hl sp P' hs eP => ⟨fun f H' s' => (h.2.2 x c P hp hl sp P' hs eP).1 f H' (fun b o hb n1 n2 => s' b o (s _ _ hb) n1 n2), fun f H' s' => (h.2.2 x c P hp hl sp P' hs eP).2 f H' (s.trans s')⟩⟩
def spEPutG (CY CP CM CT : Addr) (K : PySem.W.Frag) : Sp := fun vs H Q E => ∃ (av : List Addr) (y d pt : Addr) (Y : YS) (n m : List Nat) (X : List (List Nat)), vs = [.ref y, .str (S n), .str (S m), .ref pt] ∧ YG CY CP K av H y d Y ∧ H pt = some (.lst (X.map fun x => V.str (S x))) ∧ X.length ≤ 100 ∧ (∀ x ∈ n :: m :: X, x.length ≤ 1000) ∧ Y.cur.ls.length ≤ 100 ∧ Y.cur.ds.length ≤ 200 ∧ Y.cur.pn.length ≤ 500 ∧
  (∀ nP ∈ Y.pa, nP.2.ls.length ≤ 100 ∧ nP.2.ds.length ≤ 200 ∧ nP.2.e ≤ nP.2.ls.length ∧ (∀ x ∈ nP.2.ls, x.length ≤ 100000) ∧ ∀ d ∈ nP.2.ds, RdOk (nP.2.ls.length : Int) d) ∧ EPutG CY CP CM CT K av y d Y n m X H Q E
abbrev sEPut : Stmt := inClass (top 46) 4
theorem scEPut : FnScope ["self", "name", "part_name", "points", "plan", "part"] ["self", "name", "part_name", "points"] (defScope sEPut) := ⟨rfl, rfl, rfl, by decide +kernel, rfl, by decide +kernel, by decide +kernel⟩
theorem ok_eput {dV : Value} {CY : Addr} (F : FunD K "enter_put" "Yard.enter_put" sEPut dV f fd) (YTx : YaT K mg CY) {CP CM CT : Addr} (PTx : PlT K mg CP)
    (ml : mg "len" = none)
    (G1 : FnOk P w K mg base (CX1 P w) 2 g1 gd1 ["words"] (spRNames K CM)) (b1 : Binds K gd1 ["words"] []) (k1 : PySem.W.keepIn K (.ref g1) = true) (m1 : mg "refuse_names" = some (.ref g1))
    {gCo : Addr} {gdCo : FuncData} (GCo : FnOk P w K mg base CX0 4 gCo gdCo ["self"] (spCoTG CY CP K)) (bCo : Binds K gdCo ["self"] []) (mCo : Meth K CY "copy_of_told" gCo)
    {gPu : Addr} {gdPu : FuncData} (GPu : FnOk P w K mg base CX0 5 gPu gdPu ["self", "name", "part", "points"] (spPut CP K)) (bPu : Binds K gdPu ["self", "name", "part", "points"] []) (mPu : Meth K CP "put_in" gPu)
    {gKe : Addr} {gdKe : FuncData} (GKe : FnOk P w K mg base (CX1 P w) 3 gKe gdKe ["self", "plan"] (spKeepG CY CP CT K)) (bKe : Binds K gdKe ["self", "plan"] []) (mKe : Meth K CY "keep" gKe)
    (mN : mg "NoName" = some (.ref CM)) (xN : ExcC K CM) : FnOk P w K mg base (CX1 P w) 6 f fd ["self", "name", "part_name", "points"] (spEPutG CY CP CM CT K) := by
  refine F.okX scEPut (fun vs H Q E h => ?_) (fun cdv A outer s H vs Q E hr h => ?_)
  · obtain ⟨av, y, d, pt, Y, n, m, X, rfl, YD, hpt, hX, hlen, c1, c2, c3, hpa, q⟩ := h
    rfl
  obtain ⟨av, y, d, pt, Y, n, m, X, rfl, YD, hpt, hX, hlen, c1, c2, c3, hpa, q⟩ := h
  have r2 := hr.mono (show 2 ≤ 5 by omega)
  have r3 := hr.mono (show 3 ≤ 5 by omega)
  have r4 := hr.mono (show 4 ≤ 5 by omega)
  refine ⟨_, (pss_cons (ps_expr (pe_call G1 r2 rfl m1 k1 b1 .nil (passes_cx frm_cxOf xe_cxOf) (pa_cons (pe_op op_cat (pe_lst (pa_cons (pv 1) (pa_cons (pv 2) pa_nil))) (pv 3)) pa_nil)))
    (pss_cons (ps_set (i := 4) scEPut.nd rfl (Or.inl rfl) (pe_meth0 (pv 0) YTx.cl mCo GCo r4 bCo .nil pass0))
    (pss_cons (ps_if (pt_cmpR op_in_seq (pv 1) (pe_fld (pv 4) rfl) rfl) (pss_one (ps_raise frm_cxOf xe_cxOf rfl rfl mN xN (pa_cons pe_str pa_nil))) pss_nil)
    (pss_cons (ps_if (pt_cmp (pc_dnotin (hu_of hr) (pv 2) (pe_fld (pv 0) rfl))) (pss_one (ps_raise frm_cxOf xe_cxOf rfl rfl mN xN (pa_cons pe_str pa_nil))) pss_nil)
    (pss_cons (ps_set (i := 5) scEPut.nd rfl (Or.inl rfl) (pe_dget (hu_of hr) (pe_fld (pv 0) rfl) (pv 2) (fun _ _ => rfl)))
    (pss_cons (ps_if (pt_cmpR op_ne (pe_callB call_len_seq rfl ml PySem.boot_len (pa_cons (pv 3) pa_nil)) (pe_fld (pv 5) rfl) (nomark _)) (pss_one (ps_raise frm_cxOf xe_cxOf rfl rfl mN xN (pa_cons pe_str pa_nil))) pss_nil)
    (pss_cons (ps_expr (pe_meth (pv 4) PTx.cl mPu GPu hr bPu .nil pass0 (pa_cons (pv 1) (pa_cons (pv 5) (pa_cons (pv 3) pa_nil)))))
    (pss_one (ps_expr (pe_meth (pv 0) YTx.cl mKe GKe r3 bKe .nil (passes_cx frm_cxOf xe_cxOf) (pa_cons (pv 4) pa_nil))))))))))), ?_⟩
  refine ⟨_, rfl, _, rfl, by show 2 ≤ sizeLine; decide, fun A hA => ?_⟩
  have s1 := same_new hA (.lst [.str (S n), .str (S m)])
  have e1 : upd H A (.lst [.str (S n), .str (S m)]) A = some (.lst [.str (S n), .str (S m)]) := upd_same
  generalize upd H A (.lst [.str (S n), .str (S m)]) = H1 at s1 e1 ⊢
  refine ⟨_, rfl, A, pt, _, _, rfl, rfl, e1, s1 _ _ hpt, by rw [sizeLine_eq, List.length_map]; simp only [List.length_cons, List.length_nil]; omega, fun B hB => ?_⟩
  rw [show ([V.str (S n), .str (S m)] ++ X.map fun x => V.str (S x)) = ((n :: m :: X).map fun x => V.str (S x)) from rfl]
  have s2 := same_new hB (.lst ((n :: m :: X).map fun x => V.str (S x)))
  have e2 : upd H1 B (.lst ((n :: m :: X).map fun x => V.str (S x))) B = some (.lst ((n :: m :: X).map fun x => V.str (S x))) := upd_same
  generalize upd H1 B (.lst ((n :: m :: X).map fun x => V.str (S x))) = H2 at s2 e2 ⊢
  have s02 := s1.trans s2
  refine ⟨B, n :: m :: X, rfl, SqL.of e2, by rw [List.length_cons, List.length_cons]; omega, fun x hx => by have := hlen x hx; omega, fun H3 s3 => ⟨fun ok => ?_, fun bad => q.1 bad H3 (s02.trans s3)⟩⟩
  have s03 := s02.trans s3
  have YD3 := YD.same s03
  obtain ⟨dy, g, o, q', kvs, hy, _, hd, _, _, ha⟩ := id YD
  have hy3 := s03 _ _ hy
  refine ⟨_, rfl, y, dy, _, rfl, hy3, (by with_unfolding_all rfl), av, y, d, Y, rfl, YD3, fun g5 l5 t5 p5 es H5 s5 ng nl nt np PA5 hR5 => ?_⟩
  have s05 := s03.trans s5
  have hy5 := s05 _ _ hy
  have hd5 := s05 _ _ hd
  obtain ⟨dg5, hg5⟩ := PA5.ob
  refine ⟨_, rfl, _, rfl, g5, CP, dg5, _, _, rfl, hg5, PTx.cl, PTx.np, pfl_p _ _ _ _, p5, _, rfl, .inl (SqL.of PA5.hp), rfl, flat_strs _, _, rfl, ?_⟩
  show (if inV (.str (S n)) (Y.cur.pn.map V.str) = true then _ else _)
  rw [inV_strs]
  by_cases hin : S n ∈ Y.cur.pn
  · exact L2.ifT (decide_eq_true hin) ⟨by show 1 ≤ sizeLine; decide, q.2.1 ok (.inl hin) H5 s05⟩
  refine L2.ifF (decide_eq_false hin) ?_
  obtain ⟨dy', g', o', q'', kvs', hy', _, hd', hp', _, _⟩ := id YD3
  rw [s03 _ _ hd] at hd'
  cases hd'
  refine ⟨_, rfl, _, rfl, y, CY, dy, _, _, rfl, hy5, YTx.cl, YTx.nd, yfl_d _ _ _ _, d, _, rfl, DGet.k (k := Sum.inr (S m)) hd5, _, rfl, ?_⟩
  rcases PaOk.get (n := S m) hp' with ⟨en, ev⟩ | ⟨P, gp, en, ev, hP⟩
  · rw [ev]
    exact L2.ifT rfl ⟨by show 1 ≤ sizeLine; decide, q.2.1 ok (.inr (.inl en)) H5 s05⟩
  refine L2.ifF (by rw [ev]; rfl) ?_
  refine ⟨_, rfl, y, CY, dy, _, _, rfl, hy5, YTx.cl, YTx.nd, yfl_d _ _ _ _, _, rfl, d, _, rfl, by rw [← ev]; exact DGet.k (k := Sum.inr (S m)) hd5, ?_⟩
  obtain ⟨l2, t2, p2, es2, PB3, hRB3, _⟩ := id hP
  have PB := PB3.same s5
  have hRB := hRB3.same s5
  obtain ⟨dgp, hgp⟩ := PB.ob
  have emap : (X.map fun x => V.str (S x)) = (X.map S).map V.str := by rw [List.map_map]; rfl
  have hpt5 : H5 pt = some (.lst ((X.map S).map V.str)) := by rw [← emap]; exact s05 _ _ hpt
  refine ⟨_, rfl, pt, _, rfl, .inl (SqL.of hpt5), _, rfl, gp, CP, dgp, _, _, rfl, hgp, PTx.cl, PTx.ne, pfl_e _ _ _ _, rfl, _, rfl, ?_⟩
  by_cases hl : X.length = P.e
  rotate_left
  · refine L2.ifT ?_ ⟨by show 1 ≤ sizeLine; decide, q.2.1 ok (.inr (.inr ⟨P, en, hl⟩)) H5 s05⟩
    rw [decide_eq_false (fun z => hl (by injection z with z; rw [List.length_map, List.length_map] at z; omega))]
    rfl
  refine L2.ifF (by rw [decide_eq_true (by rw [List.length_map, List.length_map, hl])]; rfl) ?_
  obtain ⟨nPm, hnP, eP⟩ : ∃ nP ∈ Y.pa, nP.2 = P := by
    unfold partOf at en
    obtain ⟨nP, h1, h2⟩ := Option.map_eq_some_iff.mp en
    exact ⟨nP, List.mem_of_find?_eq_some h1, h2⟩
  obtain ⟨w1, w2, w3, w4, w5⟩ := hpa nPm hnP
  rw [eP] at w1 w2 w3 w4 w5
  have linn : (inn (S n) P.e P.ls).length = P.ls.length - P.e := by unfold inn; rw [List.length_map, List.length_drop]
  have llab : (X.map S ++ inn (S n) P.e P.ls).length = P.ls.length := by rw [List.length_append, List.length_map, linn]; omega
  have hgp3 : H3 gp ≠ none := by obtain ⟨dq, hq⟩ := PB3.ob; rw [hq]; simp
  have fr : ∀ b, H3 b ≠ none → b ≠ l5 ∧ b ≠ t5 ∧ b ≠ p5 := fun b hb => ⟨fun z => hb (by rw [z]; exact nl), fun z => hb (by rw [z]; exact nt), fun z => hb (by rw [z]; exact np)⟩
  have f1 := fr l2 (by rw [PB3.hl]; simp)
  have f2 := fr t2 (by rw [PB3.ht]; simp)
  have f3 := fr pt (by rw [s03 _ _ hpt]; simp)
  have ngg : gp ≠ g5 := fun z => hgp3 (by rw [z]; exact ng)
  have les := hR5.length
  have les2 := hRB.length
  have lnm : (S n).length ≤ 1000 := by rw [S_len]; exact hlen n (by simp)
  refine ⟨_, rfl, g5, dg5, _, rfl, hg5, (by with_unfolding_all rfl), _, rfl, _, rfl, _, rfl, g5, l5, t5, p5, gp, l2, t2, p2, pt, _, P.e, S n, Y.cur.ls, P.ls, X.map S, es, _, es2, _, P.ds, rfl, PA5, PB, hpt5, hRB, fun dd hdd => ?_, ⟨f1.1, f1.2.1, f1.2.2, f2.1, f2.2.1, f2.2.2, f3.1, f3.2.1, f3.2.2⟩, ngg, c1, w1, by rw [List.length_map]; exact hX, by omega, by omega, by rw [List.length_map]; exact c3, lnm, w4, fun sp us H6 k6 PA6 R6 at6 => ?_⟩
  · obtain ⟨u0, u1, v0, v1, _⟩ := w5 dd hdd
    rw [llab]
    exact ⟨u0, by omega, v0, by omega⟩
  have s6 : Same H3 H6 := fun b o h => k6 _ _ (s5 _ _ h) (ne_of_none h nl) (ne_of_none h nt) (ne_of_none h np)
  have YD6 := YD3.same s6
  have hy6 := s6 _ _ hy3
  have far : ∀ b, H3 b = none → b ∉ av := fun b hb z => by
    cases o : H b with
    | none => exact ha b z o
    | some o' => rw [s03 _ _ o] at hb; cases hb
  have mR : Rts K H6 es Y.cur.ds := by
    have mt : ∀ {a : Addr} {xs : List V}, SqT K H5 a xs → SqT K H6 a xs := fun h => by
      rcases h with (h | ⟨u, h⟩) | h
      · exact .inl (.inl (k6 _ _ h (ne_of h PA5.hl (fun z => by cases z)) (ne_of h PA5.ht (fun z => by cases z)) (ne_of h PA5.hp (fun z => by cases z))))
      · exact .inl (.inr ⟨u, k6 _ _ h (ne_of h PA5.hl (fun z => by cases z)) (ne_of h PA5.ht (fun z => by cases z)) (ne_of h PA5.hp (fun z => by cases z))⟩)
      · exact .inr h
    have mr : ∀ {xs : List V} {ds : List RD}, Rts K H5 xs ds → Rts K H6 xs ds := fun h => by
      induction h with
      | nil => exact .nil
      | cons a b c ih => exact .cons (mt a) (mt b) ih
    exact mr hR5
  have PA6' : PlAt CP H6 g5 l5 (Y.cur.e : Int) t5 p5 (lps Y.cur.ls (X.map S ++ inn (S n) P.e P.ls)) (es ++ us) ((Y.cur.pn ++ [S n]).map V.str) := by rw [List.map_append]; exact PA6
  have hPn : PlOk CP K av H6 g5 ⟨lps Y.cur.ls (X.map S ++ inn (S n) P.e P.ls), Y.cur.e, Y.cur.ds ++ P.ds.map (mvD sp), Y.cur.pn ++ [S n]⟩ := ⟨l5, t5, p5, es ++ us, PA6', mR.app R6, far l5 nl, far t5 nt, far p5 np⟩
  obtain ⟨qa, qb⟩ := q.2.2 ok hin P en hl sp _ at6 rfl
  exact ⟨_, rfl, y, dy, _, rfl, hy6, (by with_unfolding_all rfl), _, rfl, av, y, d, g5, Y, _, rfl, YD6, hPn, fun f H7 s7 yd7 => qa f H7 (fun b o h n1 n2 => s7 _ _ (s6 _ _ (s03 _ _ h)) n1 n2) yd7, fun f => qb f H6 (s03.trans s6)⟩
end
end K85

set_option Elab.async false
set_option linter.all false
set_option maxRecDepth 100000
set_option maxHeartbeats 4000000
namespace K85
open PySem L2 Tx
section
variable {P : Program} {w : World} {K : PySem.W.Frag} {mg : Str → Option Value} {base : Heap} {f g1 g2 g3 g4 g5 g6 g7 g8 : Addr} {fd gd1 gd2 gd3 gd4 gd5 gd6 gd7 gd8 : FuncData} {CX : CXT}
variable {CR : Addr} {CK : Kd → Addr} {fW fJ fT fS : Kd → Addr} {fdW fdJ fdT fdS : Kd → FuncData}
structure SmY (Y : YS) : Prop where
  l : Y.cur.ls.length ≤ 100
  d : Y.cur.ds.length ≤ 200
  p : Y.cur.pn.length ≤ 500
  n : Y.pa.length ≤ 100
  a : ∀ nP ∈ Y.pa, nP.2.ls.length ≤ 100 ∧ nP.2.ds.length ≤ 200 ∧ nP.2.e ≤ nP.2.ls.length ∧ (∀ x ∈ nP.2.ls, x.length ≤ 100000) ∧ ∀ d ∈ nP.2.ds, RdOk (nP.2.ls.length : Int) d
inductive TellG (CY CP CR' CM CU CZ CT : Addr) (K : PySem.W.Frag) (av : List Addr) (y d : Addr) (Y : YS) (H : Hp) (Q : VK) (E : XK) : List (List Nat) → Prop where
  | no {w : List Nat} {r : List (List Nat)} (f : formM (S w) ((r.length : Int) + 1) = false) (q : ∀ H', Same H H' → E (.ref CR') none H') : TellG CY CP CR' CM CU CZ CT K av y d Y H Q E (w :: r)
  | part {w n : List Nat} {X : List (List Nat)} (ew : S w = "part") (lx : 1 ≤ X.length) (lX : X.length ≤ 900) (q : BegG CY CP CR' CM CT K av y d Y n X H Q E) : TellG CY CP CR' CM CU CZ CT K av y d Y H Q E (w :: n :: X)
  | done {w : List Nat} (ew : S w = "done") (q : EndG CY CP CR' K av y d Y H Q E) : TellG CY CP CR' CM CU CZ CT K av y d Y H Q E [w]
  | put {w n m : List Nat} {X : List (List Nat)} (ew : S w = "put") (lx : 1 ≤ X.length) (lX : X.length ≤ 100) (q : EPutG CY CP CM CT K av y d Y n m X H Q E) : TellG CY CP CR' CM CU CZ CT K av y d Y H Q E (w :: n :: m :: X)
  | row {w a b t : List Nat} {k : Kd} (ew : S w = k.wd) (bd : ∀ p, Wr p t → Mq.Bd 100 p) (q : ERowG CY CP CM CU CZ CT K av y d Y k a b t H Q E) : TellG CY CP CR' CM CU CZ CT K av y d Y H Q E [w, a, b, t]
def spTellG (CY CP CR' CM CU CZ CT : Addr) (K : PySem.W.Frag) : Sp := fun vs H Q E => ∃ (y : Addr) (x : V), vs = [.ref y, x] ∧ ((NoStr K H x ∧ E (.ref CR') none H) ∨
  ∃ (av : List Addr) (d : Addr) (Y : YS) (ws : List (List Nat)), x = .str (S (jnc 32 ws)) ∧ (∀ z ∈ ws, 32 ∉ z) ∧ (∀ z ∈ ws, z.length ≤ 1000) ∧ (jnc 32 ws).length ≤ 1000000 ∧ ws.length ≤ 1000 ∧ YG CY CP K av H y d Y ∧ SmY Y ∧ TellG CY CP CR' CM CU CZ CT K av y d Y H Q E ws)
theorem kd_row (k : Kd) : k.wd ∈ rowW := by cases k <;> decide +kernel
theorem kd_no (k : Kd) : k.wd ≠ "part" ∧ k.wd ≠ "put" ∧ k.wd ≠ "done" := by cases k <;> exact ⟨by decide +kernel, by decide +kernel, by decide +kernel⟩
abbrev sTell : Stmt := inClass (top 46) 1
theorem scTell : FnScope ["self", "row", "words"] ["self", "row"] (defScope sTell) := ⟨rfl, rfl, rfl, by decide +kernel, rfl, by decide +kernel, by decide +kernel⟩
theorem ok_tell {dV : Value} {CY : Addr} (F : FunD K "tell" "Yard.tell" sTell dV f fd) (YTx : YaT K mg CY) {CP CR' CM CU CZ CT : Addr}
    (G1 : FnOk P w K mg base (CX1 P w) 1 g1 gd1 ["row"] (spWordsX K CR')) (b1 : Binds K gd1 ["row"] []) (k1 : PySem.W.keepIn K (.ref g1) = true) (m1 : mg "words_of" = some (.ref g1))
    (G2 : FnOk P w K mg base (CX1 P w) 2 g2 gd2 ["words"] (spRFormX K CR')) (b2 : Binds K gd2 ["words"] []) (k2 : PySem.W.keepIn K (.ref g2) = true) (m2 : mg "refuse_form" = some (.ref g2))
    {gBe : Addr} {gdBe : FuncData} (GBe : FnOk P w K mg base (CX1 P w) 4 gBe gdBe ["self", "name", "ends"] (spBegG CY CP CR' CM CT K)) (bBe : Binds K gdBe ["self", "name", "ends"] []) (mBe : Meth K CY "begin_part" gBe)
    {gEn : Addr} {gdEn : FuncData} (GEn : FnOk P w K mg base (CX1 P w) 1 gEn gdEn ["self"] (spEndG CY CP CR' K)) (bEn : Binds K gdEn ["self"] []) (mEn : Meth K CY "end_part" gEn)
    {gPu : Addr} {gdPu : FuncData} (GPu : FnOk P w K mg base (CX1 P w) 6 gPu gdPu ["self", "name", "part_name", "points"] (spEPutG CY CP CM CT K)) (bPu : Binds K gdPu ["self", "name", "part_name", "points"] []) (mPu : Meth K CY "enter_put" gPu)
    {gER : Addr} {gdER : FuncData} (GER : FnOk P w K mg base (CX1 P w) 5 gER gdER ["self", "words"] (spERowG CY CP CM CU CZ CT K)) (bER : Binds K gdER ["self", "words"] []) (mER : Meth K CY "enter_row" gER) : FnOk P w K mg base (CX1 P w) 7 f fd ["self", "row"] (spTellG CY CP CR' CM CU CZ CT K) := by
  refine F.okX scTell (fun vs H Q E h => ?_) (fun cdv A outer s H vs Q E hr h => ?_)
  · obtain ⟨y, x, rfl, h⟩ := h
    rfl
  obtain ⟨y, x, rfl, h⟩ := h
  have r1 := hr.mono (show 1 ≤ 6 by omega)
  have r2 := hr.mono (show 2 ≤ 6 by omega)
  have r4 := hr.mono (show 4 ≤ 6 by omega)
  have r5 := hr.mono (show 5 ≤ 6 by omega)
  refine ⟨_, (pss_cons (ps_set (i := 2) scTell.nd rfl (Or.inl rfl) (pe_call G1 r1 rfl m1 k1 b1 .nil (passes_cx frm_cxOf xe_cxOf) (pa_cons (pv 1) pa_nil)))
    (pss_cons (ps_expr (pe_call G2 r2 rfl m2 k2 b2 .nil (passes_cx frm_cxOf xe_cxOf) (pa_cons (pv 2) pa_nil)))
    (pss_one (ps_if (pt_cmpR op_eq (pe_ix ix_list (pv 2) pe_int (fun _ _ => rfl)) pe_str (nomark _)) (pss_one (ps_expr (pe_meth (pv 0) YTx.cl mBe GBe r4 bBe .nil (passes_cx frm_cxOf xe_cxOf) (pa_cons (pe_ix ix_list (pv 2) pe_int (fun _ _ => rfl)) (pa_cons (pe_slice sl_list (pv 2) (po_some pe_int) po_none) pa_nil))))) (pss_one (ps_if (pt_cmpR op_eq (pe_ix ix_list (pv 2) pe_int (fun _ _ => rfl)) pe_str (nomark _)) (pss_one (ps_expr (pe_meth0 (pv 0) YTx.cl mEn GEn r1 bEn .nil (passes_cx frm_cxOf xe_cxOf)))) (pss_one (ps_if (pt_cmpR op_eq (pe_ix ix_list (pv 2) pe_int (fun _ _ => rfl)) pe_str (nomark _)) (pss_one (ps_expr (pe_meth (pv 0) YTx.cl mPu GPu hr bPu .nil (passes_cx frm_cxOf xe_cxOf) (pa_cons (pe_ix ix_list (pv 2) pe_int (fun _ _ => rfl)) (pa_cons (pe_ix ix_list (pv 2) pe_int (fun _ _ => rfl)) (pa_cons (pe_slice sl_list (pv 2) (po_some pe_int) po_none) pa_nil)))))) (pss_one (ps_expr (pe_meth (pv 0) YTx.cl mER GER r5 bER .nil (passes_cx frm_cxOf xe_cxOf) (pa_cons (pv 2) pa_nil)))))))))))), ?_⟩
  rcases h with ⟨nx, q⟩ | ⟨av, d, Y, ws, rfl, h32, hl, hj, hw, YD, sm, tg⟩
  · exact ⟨_, rfl, x, rfl, .inr ⟨nx, q⟩⟩
  have hne : ws ≠ [] := by cases tg <;> simp
  refine ⟨_, rfl, _, rfl, .inl ⟨ws, rfl, hne, h32, hj, fun wl H1 s1 nw ew => ?_⟩⟩
  have YD1 := YD.same s1
  obtain ⟨dy, g, o, q', kvs, hy1, _⟩ := id YD1
  cases tg with
  | @no w r f q =>
    refine ⟨_, rfl, wl, S w, r.map fun x => V.str (S x), rfl, SqL.of ew, by rw [List.length_map]; simp only [List.length_cons] at hw; omega, fun z => ?_, fun _ => q H1 s1⟩
    rw [List.length_map, f] at z
    cases z
  | @part w n X ewd lx lX q =>
    have eW : H1 wl = some (.lst (.str "part" :: .str (S n) :: X.map fun x => V.str (S x))) := by rw [← ewd]; exact ew
    refine ⟨_, rfl, wl, "part", _, rfl, SqL.of eW, by rw [List.length_cons, List.length_map]; omega, fun _ => ?_, fun z => ?_⟩
    rotate_left
    · have : formM "part" ((((V.str (S n) :: X.map fun x => V.str (S x)).length : Nat) : Int) + 1) = true := by
        unfold formM
        rw [if_neg (by decide +kernel), if_pos rfl]
        exact decide_eq_true (by rw [List.length_cons, List.length_map]; omega)
      rw [this] at z
      cases z
    refine ⟨_, rfl, wl, _, _, _, rfl, rfl, SqL.of eW, atI_nat (j := 0) rfl, rfl, _, rfl, L2.ifT (decide_eq_true rfl) ?_⟩
    refine ⟨_, rfl, y, dy, _, rfl, hy1, (by with_unfolding_all rfl), _, rfl, wl, _, _, _, rfl, rfl, SqL.of eW, atI_nat (j := 1) rfl, _, rfl, 2, rfl, wl, _, rfl, SqL.of eW, fun E1 hE1 => ?_⟩
    rw [show (2 : Int) = ((2 : Nat) : Int) from rfl, cut_from]
    show spBegG CY CP CR' CM CT K [.ref y, .str (S n), .ref E1] (upd H1 E1 (.lst (X.map fun x => V.str (S x)))) _ _
    have s2 := same_new hE1 (.lst (X.map fun x => V.str (S x)))
    have e2 : upd H1 E1 (.lst (X.map fun x => V.str (S x))) E1 = some (.lst (X.map fun x => V.str (S x))) := upd_same
    exact ⟨av, y, d, E1, Y, n, X, rfl, YD1.same s2, e2, lX, fun x hx => by have := hl x (List.mem_cons_of_mem _ hx); omega, sm.n, BegG.mono (s1.trans s2) q⟩
  | @done w ewd q =>
    have eW : H1 wl = some (.lst [.str "done"]) := by rw [← ewd]; exact ew
    refine ⟨_, rfl, wl, "done", _, rfl, SqL.of eW, by show 0 ≤ 1000000; decide, fun _ => ?_, fun z => ?_⟩
    rotate_left
    · have : formM "done" (((([] : List V).length : Nat) : Int) + 1) = true := by decide +kernel
      rw [this] at z
      cases z
    refine ⟨_, rfl, wl, _, _, _, rfl, rfl, SqL.of eW, atI_nat (j := 0) rfl, rfl, _, rfl, L2.ifF (by decide +kernel) ?_⟩
    refine ⟨_, rfl, wl, _, _, _, rfl, rfl, SqL.of eW, atI_nat (j := 0) rfl, rfl, _, rfl, L2.ifT (decide_eq_true rfl) ?_⟩
    exact ⟨_, rfl, y, dy, _, rfl, hy1, (by with_unfolding_all rfl), av, y, d, Y, rfl, YD1, sm.n, EndG.mono s1 q⟩
  | @put w n m X ewd lx lX q =>
    have eW : H1 wl = some (.lst (.str "put" :: .str (S n) :: .str (S m) :: X.map fun x => V.str (S x))) := by rw [← ewd]; exact ew
    refine ⟨_, rfl, wl, "put", _, rfl, SqL.of eW, by rw [List.length_cons, List.length_cons, List.length_map]; omega, fun _ => ?_, fun z => ?_⟩
    rotate_left
    · have : formM "put" ((((V.str (S n) :: V.str (S m) :: X.map fun x => V.str (S x)).length : Nat) : Int) + 1) = true := by
        unfold formM
        rw [if_neg (by decide +kernel), if_neg (by decide +kernel), if_pos rfl]
        exact decide_eq_true (by rw [List.length_cons, List.length_cons, List.length_map]; omega)
      rw [this] at z
      cases z
    refine ⟨_, rfl, wl, _, _, _, rfl, rfl, SqL.of eW, atI_nat (j := 0) rfl, rfl, _, rfl, L2.ifF (by decide +kernel) ?_⟩
    refine ⟨_, rfl, wl, _, _, _, rfl, rfl, SqL.of eW, atI_nat (j := 0) rfl, rfl, _, rfl, L2.ifF (by decide +kernel) ?_⟩
    refine ⟨_, rfl, wl, _, _, _, rfl, rfl, SqL.of eW, atI_nat (j := 0) rfl, rfl, _, rfl, L2.ifT (decide_eq_true rfl) ?_⟩
    refine ⟨_, rfl, y, dy, _, rfl, hy1, (by with_unfolding_all rfl), _, rfl, wl, _, _, _, rfl, rfl, SqL.of eW, atI_nat (j := 1) rfl, _, rfl, wl, _, _, _, rfl, rfl, SqL.of eW, atI_nat (j := 2) rfl, _, rfl, 3, rfl, wl, _, rfl, SqL.of eW, fun E1 hE1 => ?_⟩
    rw [show (3 : Int) = ((3 : Nat) : Int) from rfl, cut_from]
    show spEPutG CY CP CM CT K [.ref y, .str (S n), .str (S m), .ref E1] (upd H1 E1 (.lst (X.map fun x => V.str (S x)))) _ _
    have s2 := same_new hE1 (.lst (X.map fun x => V.str (S x)))
    have e2 : upd H1 E1 (.lst (X.map fun x => V.str (S x))) E1 = some (.lst (X.map fun x => V.str (S x))) := upd_same
    exact ⟨av, y, d, E1, Y, n, m, X, rfl, YD1.same s2, e2, lX, fun x hx => hl x (List.mem_cons_of_mem _ hx), sm.l, sm.d, sm.p, sm.a, EPutG.mono (s1.trans s2) q⟩
  | @row w a b t k ewd bd q =>
    have eW : H1 wl = some (.lst [.str k.wd, .str (S a), .str (S b), .str (S t)]) := by rw [← ewd]; exact ew
    obtain ⟨n1, n2, n3⟩ := kd_no k
    have e : ∀ x : Str, k.wd ≠ x → decide (V.str k.wd = V.str x) = false := fun x h => decide_eq_false (fun z => h (by injection z))
    refine ⟨_, rfl, wl, k.wd, _, rfl, SqL.of eW, by show 3 ≤ 1000000; decide, fun _ => ?_, fun z => ?_⟩
    rotate_left
    · have : formM k.wd (((([V.str (S a), .str (S b), .str (S t)] : List V).length : Nat) : Int) + 1) = true := by
        unfold formM
        rw [if_pos (kd_row k)]
        exact decide_eq_true rfl
      rw [this] at z
      cases z
    refine ⟨_, rfl, wl, _, _, _, rfl, rfl, SqL.of eW, atI_nat (j := 0) rfl, rfl, _, rfl, L2.ifF (e _ n1) ?_⟩
    refine ⟨_, rfl, wl, _, _, _, rfl, rfl, SqL.of eW, atI_nat (j := 0) rfl, rfl, _, rfl, L2.ifF (e _ n3) ?_⟩
    refine ⟨_, rfl, wl, _, _, _, rfl, rfl, SqL.of eW, atI_nat (j := 0) rfl, rfl, _, rfl, L2.ifF (e _ n2) ?_⟩
    have l1 := sm.l
    have l2 := sm.d
    exact ⟨_, rfl, y, dy, _, rfl, hy1, (by with_unfolding_all rfl), _, rfl, av, y, d, wl, Y, k, a, b, t, rfl, SqL.of eW, YD1, by omega, by omega, hl a (by simp), hl b (by simp), hl t (by simp), bd, ERowG.mono s1 q⟩
end
end K85

set_option Elab.async false
set_option linter.all false
set_option maxRecDepth 100000
set_option maxHeartbeats 4000000
namespace Shp
open PySem L2
theorem ps_nox {X : Cx} {st : Stmt} {t : TS} (h : PS X.nox st t) : PS X st t := fun pins s σ H D I hq => wpAny_mono (h pins s σ H D (I.wish _) hq) (fun _ _ q => SP.unwish q) fun _ _ z => False.elim z
end Shp
namespace Shp
open PySem L2
end Shp

set_option Elab.async false
set_option linter.all false
set_option maxRecDepth 100000
set_option maxHeartbeats 4000000
namespace K85
open PySem L2 Tx Shp
section
variable {P : Program} {w : World} {K : PySem.W.Frag} {mg : Str → Option Value} {base : Heap} {f g1 g2 g3 g4 g5 g6 g7 g8 : Addr} {fd gd1 gd2 gd3 gd4 gd5 gd6 gd7 gd8 : FuncData} {CX : CXT}
variable {CR : Addr} {CK : Kd → Addr} {fW fJ fT fS : Kd → Addr} {fdW fdJ fdT fdS : Kd → FuncData}
def spPNet (CP CN CO : Addr) (K : PySem.W.Frag) : Sp := fun vs H Q E => ∃ (g l t p : Addr) (e : Int) (ls : List Str) (es ps : List V) (ds : List RD), vs = [.ref g] ∧ PlAt CP H g l e t p ls es ps ∧ Rts K H es ds ∧ (∀ x ∈ ds, RdOk (ls.length : Int) x) ∧ ls.length ≤ 20 ∧ ds.length ≤ 40 ∧
  (ls = [] → ∀ H', Same H H' → E (.ref CO) none H') ∧ (ls ≠ [] → ∀ n nl H', Same H H' → H nl = none → NetAt CN K H' n nl (ls.length : Int) ds → Q (.ref n) H')
abbrev sPNet : Stmt := inClass (top 39) 6
theorem scPNet : FnScope ["self", "made", "entry"] ["self"] (defScope sPNet) := ⟨rfl, rfl, rfl, by decide +kernel, rfl, by decide +kernel, by decide +kernel⟩
theorem ok_pnet {dV : Value} {CP : Addr} (F : FunD K "net" "Plan.net" sPNet dV f fd) (PTx : PlT K mg CP) {CN CO : Addr} (NTx : NT K mg CN)
    (ml : mg "len" = none)
    {gNI : Addr} {gdNI : FuncData} (GNI : FnOk P w K mg base (CX1 P w) 2 gNI gdNI ["self", "many"] (spNInitX CN K CO)) (bNI : Binds K gdNI ["self", "many"] []) (MN : Mk K CN gNI)
    {gAd : Addr} {gdAd : FuncData} (GAd : FnOk P w K mg base CX0 5 gAd gdAd ["self", "row"] (spAdd CN K CK)) (bAd : Binds K gdAd ["self", "row"] []) (mAd : Meth K CN "add" gAd)
    (G1 : FnOk P w K mg base CX0 3 g1 gd1 ["told"] (spRowOfG K CK)) (b1 : Binds K gd1 ["told"] []) (k1 : PySem.W.keepIn K (.ref g1) = true) (m1 : mg "row_of" = some (.ref g1)) : FnOk P w K mg base (CX1 P w) 6 f fd ["self"] (spPNet CP CN CO K) := by
  refine F.okX scPNet (fun vs H Q E h => ?_) (fun cdv A outer s H vs Q E hr h => ?_)
  · obtain ⟨g, l, t, p, e, ls, es, ps, ds, rfl, PA, hR, hK, h20, h40, qe, q⟩ := h
    rfl
  obtain ⟨g, l, t, p, e, ls, es, ps, ds, rfl, PA, hR, hK, h20, h40, qe, q⟩ := h
  have r3 := hr.mono (show 3 ≤ 5 by omega)
  obtain ⟨⟨dg, hg⟩, hl, ht, hp, lt, lp, tp⟩ := PA
  refine ⟨_, (pss_cons (ps_set (i := 1) scPNet.nd rfl (Or.inl rfl) (pe_make MN GNI r3 rfl NTx.mN bNI .nil (passes_cx frm_cxOf xe_cxOf) (pa_cons (pe_callB call_len_seq rfl ml PySem.boot_len (pa_cons (pe_fld (pv 0) rfl) pa_nil)) pa_nil)))
    (pss_cons (ps_nox (ps_for PassesOwn.never rfl (pi_list (pe_fld (pv 0) rfl)) (pg_name (i := 2) scPNet.nd rfl (Or.inl rfl))
      (pss_one (ps_expr (pe_meth (pv 1) NTx.cl mAd GAd hr bAd .nil pass0 (pa_cons (pe_call G1 r3 rfl m1 k1 b1 .nil pass0 (pa_cons (pv 2) pa_nil)) pa_nil))))))
    (pss_one (ps_ret (pv 1))))), ?_⟩
  refine ⟨_, rfl, g, CP, dg, _, _, rfl, hg, PTx.cl, PTx.nl, pfl_l _ _ _ _, l, _, rfl, .inl (SqL.of hl), fun n dx h1 h2 ne => ?_⟩
  have hgx : ∀ b o, H b = some o → (upd (upd H dx (.own n)) n (.ins CN dx [])) b = some o := fun b o h => by rw [upd_ne (ne_of_none h h1), upd_ne (ne_of_none h h2)]; exact h
  by_cases e0 : ls = []
  · exact ⟨n, dx, _, rfl, upd_same, .inr ⟨.inl ⟨((ls.map V.str).length : Int), rfl, .inl (by rw [e0]; decide)⟩, qe e0 _ hgx⟩⟩
  have l1 : 1 ≤ ls.length := List.length_pos_iff.mpr e0
  have lm : ((ls.map V.str).length : Int) = (ls.length : Int) := by rw [List.length_map]
  refine ⟨n, dx, _, rfl, upd_same, .inl ⟨((ls.map V.str).length : Int), rfl, by omega, by omega, fun nl H2 nn keep hn hnl => ⟨rfl, ?_⟩⟩⟩
  rw [lm] at hn
  have s2 : Same H H2 := fun b o h => keep b o (hgx b o h) (ne_of_none h h1)
  have hl0 : H nl = none := by
    cases o : H nl with
    | none => rfl
    | some o' => rw [hgx _ _ o] at nn; cases nn
  clear keep
  have les := hR.length
  refine ⟨_, rfl, g, CP, dg, _, _, rfl, (s2 _ _ hg), PTx.cl, PTx.nt, pfl_t _ _ _ _, t, rfl, ⟨_, SqL.of (s2 _ _ ht)⟩, ?_⟩
  refine for_list (xs := es) (fun i σ H' => Same H H' ∧ NetAt CN K H' n nl (ls.length : Int) (ds.take i) ∧ ∃ z, σ = [some (.ref g), some (.ref n), z]) ⟨s2, ⟨⟨dx, hn⟩, [], hnl, .nil⟩, none, rfl⟩ (fun i σ H' _ h => h.1.seq (SqL.of ht)) ?_ ?_
  · rintro i x σ H3 hx ⟨s3, N3, z, rfl⟩
    have hi : i < ds.length := by
      have := (List.getElem?_eq_some_iff.mp hx).1
      omega
    obtain ⟨⟨k, u, v, p'⟩, hd⟩ : ∃ d, ds[i]? = some d := ⟨_, List.getElem?_eq_getElem hi⟩
    obtain ⟨t', z', et, hT, fz⟩ := hR.at hd
    have ex : x = .ref t' := by rw [et] at hx; exact (Option.some.inj hx).symm
    subst ex
    obtain ⟨dn, hn3⟩ := N3.ob
    refine ⟨_, rfl, n, dn, _, rfl, hn3, nflds_no _ _ (by decide +kernel) (by decide +kernel), _, rfl, t', _, _, _, _, rfl, s3.seqT hT, k, rfl, fun y H4 s4 ny rw => ?_⟩
    refine ⟨n, nl, y, z', _, ds.take i, k, u, v, p', rfl, N3.same s4, rw, (s3.trans s4).fq fz, hK _ (List.mem_of_getElem? hd), by rw [List.length_take]; omega, fun H5 x5 N5 => ?_⟩
    refine ⟨fun b o e => x5 _ _ ((s3.trans s4) _ _ e) (ne_of_none e hl0), ?_, _, rfl⟩
    rw [List.take_add_one, hd]
    exact N5
  · rintro σ H3 ⟨s3, N3, z, rfl⟩
    rw [les, List.take_length] at N3
    exact ⟨_, rfl, q e0 n nl H3 s3 hl0 N3⟩
def spYNetG (CY CP CN CO : Addr) (K : PySem.W.Frag) : Sp := fun vs H Q E => ∃ (av : List Addr) (y d : Addr) (Y : YS), vs = [.ref y] ∧ YG CY CP K av H y d Y ∧ (∀ x ∈ Y.gr.ds, RdOk (Y.gr.ls.length : Int) x) ∧ Y.gr.ls.length ≤ 20 ∧ Y.gr.ds.length ≤ 40 ∧
  (Y.gr.ls = [] → ∀ H', Same H H' → E (.ref CO) none H') ∧ (Y.gr.ls ≠ [] → ∀ n nl H', Same H H' → H nl = none → NetAt CN K H' n nl (Y.gr.ls.length : Int) Y.gr.ds → Q (.ref n) H')
def spNamesG (CY CP : Addr) (K : PySem.W.Frag) : Sp := fun vs H Q _ => ∃ (av : List Addr) (y d : Addr) (Y : YS), vs = [.ref y] ∧ YG CY CP K av H y d Y ∧ ∀ r H', Same H H' → H r = none → H' r = some (.lst (Y.gr.ls.map V.str)) → Q (.ref r) H'
abbrev sYNet : Stmt := inClass (top 46) 10
theorem scYNet : FnScope ["self"] ["self"] (defScope sYNet) := ⟨rfl, rfl, rfl, by decide +kernel, rfl, by decide +kernel, by decide +kernel⟩
theorem ok_ynet {dV : Value} {CY : Addr} (F : FunD K "net" "Yard.net" sYNet dV f fd) (YTx : YaT K mg CY) {CP CN CO : Addr} (PTx : PlT K mg CP)
    {gNe : Addr} {gdNe : FuncData} (GNe : FnOk P w K mg base (CX1 P w) 6 gNe gdNe ["self"] (spPNet CP CN CO K)) (bNe : Binds K gdNe ["self"] []) (mNe : Meth K CP "net" gNe) : FnOk P w K mg base (CX1 P w) 7 f fd ["self"] (spYNetG CY CP CN CO K) := by
  refine F.okX scYNet (fun vs H Q E h => ?_) (fun cdv A outer s H vs Q E hr h => ?_)
  · obtain ⟨av, y, d, Y, rfl, ⟨dy, g, o, q', kvs, hy, hg, _⟩, hK, h20, h40, qe, q⟩ := h
    rfl
  obtain ⟨av, y, d, Y, rfl, ⟨dy, g, o, q', kvs, hy, hg, _⟩, hK, h20, h40, qe, q⟩ := h
  obtain ⟨l, t, p, es, PA, hR, _⟩ := hg
  obtain ⟨dg, hgo⟩ := PA.ob
  refine ⟨_, (pss_one (ps_ret (pe_meth0 (pe_fld (pv 0) rfl) PTx.cl mNe GNe hr bNe .nil (passes_cx frm_cxOf xe_cxOf)))), ?_⟩
  exact ⟨_, rfl, y, CY, dy, _, _, rfl, hy, YTx.cl, YTx.ng, yfl_g _ _ _ _, g, dg, _, rfl, hgo, (by with_unfolding_all rfl), g, l, t, p, _, _, es, _, Y.gr.ds, rfl, PA, hR, hK, h20, h40, qe, q⟩
abbrev sNames : Stmt := inClass (top 46) 8
theorem scNames : FnScope ["self"] ["self"] (defScope sNames) := ⟨rfl, rfl, rfl, by decide +kernel, rfl, by decide +kernel, by decide +kernel⟩
theorem ok_names {dV : Value} {CY : Addr} (F : FunD K "names" "Yard.names" sNames dV f fd) (YTx : YaT K mg CY) {CP : Addr} (PTx : PlT K mg CP)
    (mli : mg "list" = none) : FnOk P w K mg base CX 1 f fd ["self"] (spNamesG CY CP K) := by
  refine F.ok scNames (fun vs H Q E h => ?_) (fun cdv A outer s H vs Q E hr h => ?_)
  · obtain ⟨av, y, d, Y, rfl, ⟨dy, g, o, q', kvs, hy, hg, _⟩, q⟩ := h
    rfl
  obtain ⟨av, y, d, Y, rfl, ⟨dy, g, o, q', kvs, hy, hg, _⟩, q⟩ := h
  obtain ⟨l, t, p, es, PA, hR, _⟩ := hg
  obtain ⟨dg, hgo⟩ := PA.ob
  refine ⟨_, (pss_one (ps_ret (pe_callTy call_list_of rfl mli PyProof.Rows.boot_list (pa_cons (pe_fld (pe_fld (pv 0) rfl) rfl) pa_nil)))), ?_⟩
  refine ⟨_, rfl, y, CY, dy, _, _, rfl, hy, YTx.cl, YTx.ng, yfl_g _ _ _ _, g, CP, dg, _, _, rfl, hgo, PTx.cl, PTx.nl, pfl_l _ _ _ _, l, _, rfl, .inl (SqL.of PA.hl), fun r hr0 => ?_⟩
  exact q r _ (same_new hr0 _) hr0 upd_same
end
end K85

set_option Elab.async false
set_option linter.all false
set_option maxRecDepth 100000
set_option maxHeartbeats 4000000
namespace K85
open PySem L2 Tx
section
variable {P : Program} {w : World} {K : PySem.W.Frag} {mg : Str → Option Value} {base : Heap} {f g1 g2 g3 g4 g5 g6 g7 g8 : Addr} {fd gd1 gd2 gd3 gd4 gd5 gd6 gd7 gd8 : FuncData} {CX : CXT}
inductive Er where
  | row | name | num | size | many
noncomputable def rdV (t : List Nat) : Option Mq.Q2 := open Classical in if h : ∃ p, Wr p t then some h.choose else none
theorem rdV_some {t : List Nat} {p : Mq.Q2} (h : Wr p t) : rdV t = some p := by
  unfold rdV
  rw [dif_pos ⟨p, h⟩]
  exact congrArg some (Tx.wr_one (Exists.choose_spec (⟨p, h⟩ : ∃ p, Wr p t)) h)
theorem rdV_none {t : List Nat} (h : ¬ ∃ p, Wr p t) : rdV t = none := by
  unfold rdV
  rw [dif_neg h]
theorem rdV_wr {t : List Nat} {p : Mq.Q2} (h : rdV t = some p) : Wr p t := by
  by_cases e : ∃ p, Wr p t
  · obtain ⟨q, hq⟩ := e
    rw [rdV_some hq] at h
    injection h with h
    exact h ▸ hq
  · rw [rdV_none e] at h
    cases h
def lIx (ls : List Str) (x : Str) : Nat := ls.findIdx (fun z => decide (z = x))
theorem lIx_at {ls : List Str} {x : Str} (h : x ∈ ls) : ls[lIx ls x]? = some x := by
  have h1 : lIx ls x < ls.length := List.findIdx_lt_length_of_exists ⟨x, h, by simp⟩
  have h2 := List.findIdx_getElem (w := h1)
  simp only [decide_eq_true_eq] at h2
  rw [List.getElem?_eq_getElem h1]
  exact congrArg some h2
theorem lIx_eq {ls : List Str} {x : Str} {i : Nat} (nd : ls.Nodup) (h : ls[i]? = some x) : i = lIx ls x := by
  have h1 := lIx_at (List.mem_of_getElem? h)
  obtain ⟨a, ea⟩ := List.getElem?_eq_some_iff.mp h
  obtain ⟨b, eb⟩ := List.getElem?_eq_some_iff.mp h1
  exact (List.getElem_inj nd).mp (ea.trans eb.symm)
theorem lIx_lt {ls : List Str} {x : Str} (h : x ∈ ls) : lIx ls x < ls.length := (List.getElem?_eq_some_iff.mp (lIx_at h)).1
theorem spAt_eq {ls labs : List Str} {sp : List Int} (nd : ls.Nodup) (h : SpAt ls labs sp) : sp = labs.map fun x => (lIx ls x : Int) := by
  obtain ⟨hl, hi⟩ := h
  apply List.ext_getElem?
  intro i
  rw [List.getElem?_map]
  cases e : labs[i]? with
  | none =>
    have := List.getElem?_eq_none_iff.mp e
    exact List.getElem?_eq_none_iff.mpr (by omega)
  | some x =>
    obtain ⟨j, h1, h2⟩ := hi i x e
    rw [h1, lIx_eq nd h2]
    rfl
def addRow (P : PD) (k : Kd) (a b : List Nat) (p : Mq.Q2) : PD :=
  ⟨lp2 P.ls a b, P.e, P.ds ++ [(k, (lIx (lp2 P.ls a b) (S a) : Int), (lIx (lp2 P.ls a b) (S b) : Int), p)], P.pn⟩
def labsV (n : List Nat) (X : List (List Nat)) (P2 : PD) : List Str := X.map S ++ inn (S n) P2.e P2.ls
def addPut (P : PD) (n : List Nat) (X : List (List Nat)) (P2 : PD) : PD :=
  ⟨lps P.ls (labsV n X P2), P.e, P.ds ++ P2.ds.map (mvD ((labsV n X P2).map fun x => (lIx (lps P.ls (labsV n X P2)) x : Int))), P.pn ++ [S n]⟩
instance (P : PD) : Decidable (fits P) := by unfold fits; infer_instance
def fitV (Y : YS) (P : PD) : Except Er YS := if fits P then .ok (Y.keep P) else .error .many
noncomputable def rowV (Y : YS) (k : Kd) (a b t : List Nat) : Except Er YS :=
  if (nmB a && nmB b) = false then .error .name else match rdV t with
  | none => .error .num
  | some p => if okz k (some p) = false then .error .size else fitV Y (addRow Y.cur k a b p)
def putV (Y : YS) (n m : List Nat) (X : List (List Nat)) : Except Er YS :=
  if (n :: m :: X).all nmB = false then .error .name else if S n ∈ Y.cur.pn then .error .name else match partOf Y.pa (S m) with
  | none => .error .name
  | some P => if X.length ≠ P.e then .error .name else fitV Y (addPut Y.cur n X P)
def begV (Y : YS) (n : List Nat) (X : List (List Nat)) : Except Er YS :=
  match Y.op with
  | some _ => .error .row
  | none => if (n :: X).all nmB = false then .error .name else if ¬ (X.map S).Nodup ∨ S n ∈ Y.pa.map (·.1) then .error .name else if 20 ≤ Y.pa.length ∨ 20 < X.length then .error .many else .ok { Y with op := some (S n, ⟨X.map S, X.length, [], []⟩) }
def endV (Y : YS) : Except Er YS :=
  match Y.op with
  | none => .error .row
  | some nP => .ok { Y with pa := Y.pa ++ [nP], op := none }
def kdOf (w : Str) : Option Kd := if w = "piece" then some .pc else if w = "push" then some .pu else if w = "hold" then some .ho else none
noncomputable def tV (Y : YS) : List (List Nat) → Except Er YS
  | [] => .error .row
  | w :: r => if formM (S w) ((r.length : Int) + 1) = false then .error .row else if S w = "part" then (match r with
      | n :: X => begV Y n X
      | [] => .error .row)
    else if S w = "done" then endV Y else if S w = "put" then (match r with
      | n :: m :: X => putV Y n m X
      | _ => .error .row)
    else match kdOf (S w), r with
      | some k, [a, b, t] => rowV Y k a b t
      | _, _ => .error .row
structure WfQ (c B : Nat) (P : PD) : Prop where
  nd : P.ls.Nodup
  rd : ∀ d ∈ P.ds, RdOk (P.ls.length : Int) d
  le : P.e ≤ P.ls.length
  l20 : P.ls.length ≤ 20
  d40 : P.ds.length ≤ 40
  pc : P.pn.length ≤ c
  ll : ∀ x ∈ P.ls, x.length ≤ B
theorem WfQ.mono {c c' B B' : Nat} {P : PD} (hc : c ≤ c') (hB : B ≤ B') (h : WfQ c B P) : WfQ c' B' P := ⟨h.nd, h.rd, h.le, h.l20, h.d40, Nat.le_trans h.pc hc, fun x hx => Nat.le_trans (h.ll x hx) hB⟩
structure WfY (c : Nat) (Y : YS) : Prop where
  gr : WfQ c (9 * (Y.pa.length + 2)) Y.gr
  ge : Y.gr.e = 0
  pa : ∀ nP ∈ Y.pa, WfQ c (9 * (Y.pa.length + 1)) nP.2 ∧ 1 ≤ nP.2.e
  n20 : Y.pa.length ≤ 20
  o20 : ∀ nP, Y.op = some nP → Y.pa.length < 20
  op : ∀ nP, Y.op = some nP → WfQ c (9 * (Y.pa.length + 2)) nP.2 ∧ 1 ≤ nP.2.e ∧ nP.1 ∉ Y.pa.map (·.1)
theorem WfY.mono {c c' : Nat} {Y : YS} (hc : c ≤ c') (h : WfY c Y) : WfY c' Y :=
  ⟨h.gr.mono hc (Nat.le_refl _), h.ge, fun nP hn => ⟨(h.pa nP hn).1.mono hc (Nat.le_refl _), (h.pa nP hn).2⟩, h.n20, h.o20, fun nP e => ⟨(h.op nP e).1.mono hc (Nat.le_refl _), (h.op nP e).2⟩⟩
theorem WfY.cur {c : Nat} {Y : YS} (h : WfY c Y) : WfQ c (9 * (Y.pa.length + 2)) Y.cur := by
  unfold YS.cur
  cases e : Y.op with
  | none => exact h.gr
  | some q => exact (h.op q e).1
theorem keep_gr {Y : YS} {P : PD} (h : Y.op = none) : Y.keep P = { Y with gr := P } := by unfold YS.keep; rw [h]
theorem keep_op {Y : YS} {P : PD} {q : Str × PD} (h : Y.op = some q) : Y.keep P = { Y with op := some (q.1, P) } := by unfold YS.keep; rw [h]
theorem WfY.keep {c : Nat} {Y : YS} {P : PD} (h : WfY c Y) (w : WfQ c (9 * (Y.pa.length + 2)) P) (e : P.e = Y.cur.e) : WfY c (Y.keep P) := by
  cases o : Y.op with
  | none =>
    rw [keep_gr o]
    have ec : Y.cur = Y.gr := by unfold YS.cur; rw [o]
    exact ⟨w, by rw [e, ec]; exact h.ge, h.pa, h.n20, h.o20, h.op⟩
  | some q =>
    rw [keep_op o]
    have ec : Y.cur = q.2 := by unfold YS.cur; rw [o]
    obtain ⟨_, h2, h3⟩ := h.op q o
    exact ⟨h.gr, h.ge, h.pa, h.n20, fun _ _ => h.o20 q o, fun nP e2 => by injection e2 with e2; subst e2; exact ⟨w, by show 1 ≤ P.e; rw [e, ec]; exact h2, h3⟩⟩
theorem SmY.of {c : Nat} {Y : YS} (h : WfY c Y) (hc : c ≤ 400) : SmY Y := by
  have hg := h.cur
  have n := h.n20
  refine ⟨Nat.le_trans hg.l20 (by omega), Nat.le_trans hg.d40 (by omega), Nat.le_trans hg.pc (by omega), by omega, fun nP hn => ?_⟩
  obtain ⟨w, _⟩ := h.pa nP hn
  exact ⟨Nat.le_trans w.l20 (by omega), Nat.le_trans w.d40 (by omega), w.le, fun x hx => Nat.le_trans (w.ll x hx) (by omega), w.rd⟩
theorem lput_nd {ls : List Str} {x : Str} (h : ls.Nodup) : (lput ls x).Nodup := by
  unfold lput
  by_cases e : x ∈ ls
  · rw [if_pos e]; exact h
  · rw [if_neg e]
    exact List.nodup_append.mpr ⟨h, by simp, fun a ha b hb z => by simp only [List.mem_singleton] at hb; subst hb; subst z; exact e ha⟩
theorem lput_ge (ls : List Str) (x : Str) : ls.length ≤ (lput ls x).length := by
  unfold lput
  by_cases e : x ∈ ls
  · rw [if_pos e]; omega
  · rw [if_neg e]; simp
theorem lput_mem {ls : List Str} {x y : Str} : y ∈ lput ls x ↔ y ∈ ls ∨ y = x := by
  unfold lput
  by_cases e : x ∈ ls
  · rw [if_pos e]; exact ⟨.inl, fun h => h.elim id (fun z => z ▸ e)⟩
  · rw [if_neg e]; simp
theorem lps_nd : ∀ {labs ls : List Str}, ls.Nodup → (lps ls labs).Nodup
  | [], _, h => h
  | x :: r, ls, h => lps_nd (labs := r) (lput_nd h)
theorem lps_ge : ∀ (labs ls : List Str), ls.length ≤ (lps ls labs).length
  | [], _ => Nat.le_refl _
  | x :: r, ls => Nat.le_trans (lput_ge ls x) (lps_ge r (lput ls x))
theorem lps_mem {y : Str} : ∀ {labs ls : List Str}, y ∈ lps ls labs ↔ y ∈ ls ∨ y ∈ labs
  | [], ls => by show y ∈ ls ↔ _; simp
  | x :: r, ls => by
    show y ∈ lps (lput ls x) r ↔ _
    rw [lps_mem (labs := r), lput_mem, List.mem_cons]
    constructor
    · rintro ((h | h) | h)
      · exact .inl h
      · exact .inr (.inl h)
      · exact .inr (.inr h)
    · rintro (h | h | h)
      · exact .inl (.inl h)
      · exact .inl (.inr h)
      · exact .inr h
theorem rdok_up {m m' : Int} {d : RD} (h : m ≤ m') (r : RdOk m d) : RdOk m' d := by
  obtain ⟨a, b, c, e, f⟩ := r
  exact ⟨a, by omega, c, by omega, f⟩
theorem lp2_is (ls : List Str) (a b : List Nat) : lp2 ls a b = lput (lput ls (S a)) (S b) := rfl
theorem nmB_len {a : List Nat} (h : nmB a = true) : a.length ≤ 8 := by
  unfold nmB at h
  rw [Bool.and_eq_true, decide_eq_true_eq] at h
  exact h.1.2
theorem S_len (a : List Nat) : (S a).length = a.length := by
  first | exact Tx.len_S a | simp [S, Str.length] | rfl
theorem addRow_wf {c B : Nat} {P : PD} {k : Kd} {a b : List Nat} {p : Mq.Q2} (h : WfQ c B P) (hB : 8 ≤ B) (ha : nmB a = true) (hb : nmB b = true) (lo : Mq.Low p) (ok : okz k (some p) = true) (bd : Mq.Bd 100 p) (f : fits (addRow P k a b p)) : WfQ c B (addRow P k a b p) := by
  obtain ⟨f1, f2⟩ := f
  have g1 := Nat.le_trans (lput_ge P.ls (S a)) (lput_ge (lput P.ls (S a)) (S b))
  have la := nmB_len ha
  have lb := nmB_len hb
  have ma : S a ∈ lp2 P.ls a b := by rw [lp2_is, lput_mem, lput_mem]; exact .inl (.inr rfl)
  have mb : S b ∈ lp2 P.ls a b := by rw [lp2_is, lput_mem]; exact .inr rfl
  have ia := lIx_lt ma
  have ib := lIx_lt mb
  refine ⟨lput_nd (lput_nd h.nd), fun d hd => ?_, Nat.le_trans h.le g1, f1, f2, h.pc, fun x hx => ?_⟩
  · rcases List.mem_append.mp hd with hd | hd
    · exact rdok_up (Int.ofNat_le.mpr g1) (h.rd d hd)
    · rw [List.mem_singleton] at hd
      subst hd
      exact ⟨Int.natCast_nonneg _, Int.ofNat_lt.mpr ia, Int.natCast_nonneg _, Int.ofNat_lt.mpr ib, lo, fun e => by change k = .pc at e; subst e; exact of_decide_eq_true ok, bd⟩
  · have hx : x ∈ lput (lput P.ls (S a)) (S b) := hx
    rw [lput_mem, lput_mem] at hx
    rcases hx with (hx | hx) | hx
    · exact h.ll x hx
    · rw [hx, S_len]; omega
    · rw [hx, S_len]; omega
theorem inn_len {nm : Str} {e B : Nat} {ls : List Str} (hn : nm.length ≤ 8) (h : ∀ x ∈ ls, x.length ≤ B) : ∀ x ∈ inn nm e ls, x.length ≤ B + 9 := by
  intro x hx
  obtain ⟨z, hz, rfl⟩ := List.mem_map.mp hx
  have := h z (List.mem_of_mem_drop hz)
  have e1 : (nm ++ "." ++ z : Str).length = nm.length + 1 + z.length := by
    show ((nm.cps ++ ("." : Str).cps) ++ z.cps).size = _
    rw [Array.size_append, Array.size_append]; rfl
  omega
theorem getD_map_lIx {ls labs : List Str} (h : ∀ x ∈ labs, x ∈ ls) {i : Nat} (hi : i < labs.length) : 0 ≤ (labs.map fun x => (lIx ls x : Int)).getD i 0 ∧ (labs.map fun x => (lIx ls x : Int)).getD i 0 < (ls.length : Int) := by
  rw [List.getD_eq_getElem?_getD, List.getElem?_map, List.getElem?_eq_getElem hi]
  exact ⟨Int.natCast_nonneg _, Int.ofNat_lt.mpr (lIx_lt (h _ (List.getElem_mem hi)))⟩
theorem labs_len (n : List Nat) {X : List (List Nat)} {P2 : PD} (hX : X.length = P2.e) (le : P2.e ≤ P2.ls.length) : (labsV n X P2).length = P2.ls.length := by
  unfold labsV inn
  rw [List.length_append, List.length_map, List.length_map, List.length_drop]
  omega
theorem addPut_wf {c c2 B B2 : Nat} {P P2 : PD} {n : List Nat} {X : List (List Nat)} (h : WfQ c B P) (h2 : WfQ c2 B2 P2) (hB : B2 + 9 ≤ B) (hn : nmB n = true) (hX : X.all nmB = true) (eX : X.length = P2.e) (f : fits (addPut P n X P2)) : WfQ (c + 1) B (addPut P n X P2) := by
  obtain ⟨f1, f2⟩ := f
  have g1 := lps_ge (labsV n X P2) P.ls
  have ln := nmB_len hn
  have mem : ∀ x ∈ labsV n X P2, x ∈ lps P.ls (labsV n X P2) := fun x hx => lps_mem.mpr (.inr hx)
  have ll := labs_len n eX h2.le
  refine ⟨lps_nd h.nd, fun d hd => ?_, Nat.le_trans h.le g1, f1, f2, ?_, fun x hx => ?_⟩
  · rcases List.mem_append.mp hd with hd | hd
    · exact rdok_up (Int.ofNat_le.mpr g1) (h.rd d hd)
    · obtain ⟨r, hr, rfl⟩ := List.mem_map.mp hd
      obtain ⟨r1, r2, r3, r4, r5⟩ := h2.rd r hr
      obtain ⟨a1, a2⟩ := getD_map_lIx mem (i := r.2.1.toNat) (by omega)
      obtain ⟨b1, b2⟩ := getD_map_lIx mem (i := r.2.2.1.toNat) (by omega)
      exact ⟨a1, a2, b1, b2, r5⟩
  · show (P.pn ++ [S n]).length ≤ c + 1
    rw [List.length_append]
    have := h.pc
    simp only [List.length_cons, List.length_nil]
    omega
  · have hx : x ∈ lps P.ls (labsV n X P2) := hx
    rcases lps_mem.mp hx with hx | hx
    · exact h.ll x hx
    · rcases List.mem_append.mp hx with hx | hx
      · obtain ⟨z, hz, rfl⟩ := List.mem_map.mp hx
        have := nmB_len (List.all_eq_true.mp hX z hz)
        rw [S_len]
        omega
      · have := inn_len (by rw [S_len]; exact ln) h2.ll x hx
        omega
end
end K85

set_option Elab.async false
set_option linter.all false
set_option maxRecDepth 100000
set_option maxHeartbeats 4000000
namespace K85
open PySem L2 Tx
section
variable {P : Program} {w : World} {K : PySem.W.Frag} {mg : Str → Option Value} {base : Heap} {f g1 g2 g3 g4 g5 g6 g7 g8 : Addr} {fd gd1 gd2 gd3 gd4 gd5 gd6 gd7 gd8 : FuncData} {CX : CXT}
def ErX (CR' CM CU CZ CT : Addr) : Er → Addr
  | .row => CR'
  | .name => CM
  | .num => CU
  | .size => CZ
  | .many => CT
def AftT (CY CP CR' CM CU CZ CT : Addr) (K : PySem.W.Frag) (av : List Addr) (y d : Addr) (H : Hp) (Q : VK) (E : XK) : Except Er YS → Prop
  | .ok Y' => ∀ H', SYd y d H H' → YG CY CP K av H' y d Y' → Q .non H'
  | .error e => ∀ H', Same H H' → E (.ref (ErX CR' CM CU CZ CT e)) none H'
section
variable {CY CP CR' CM CU CZ CT y d : Addr} {av : List Addr} {H : Hp} {Q : VK} {E : XK} {Y : YS}
theorem beg_of {n : List Nat} {X : List (List Nat)} (h : AftT CY CP CR' CM CU CZ CT K av y d H Q E (begV Y n X)) : BegG CY CP CR' CM CT K av y d Y n X H Q E := by
  unfold begV at h
  cases o : Y.op with
  | some q =>
    rw [o] at h
    have nn : ¬ Y.op = none := by rw [o]; exact fun z => by cases z
    exact ⟨fun _ => h, fun z => absurd z nn, fun z => absurd z nn, fun z => absurd z nn, fun z => absurd z nn⟩
  | none =>
    rw [o] at h
    refine ⟨fun z => absurd o z, fun _ a => ?_, fun _ a b => ?_, fun _ a b c e => ?_, fun _ a b c e f => ?_⟩
    · dsimp only at h
      rw [if_pos a] at h; exact h
    · dsimp only at h
      rw [if_neg (by rw [a]; exact fun z => by cases z), if_pos b] at h; exact h
    · dsimp only at h
      rw [if_neg (by rw [a]; exact fun z => by cases z), if_neg (fun z => z.elim (fun z => z b) c), if_pos e] at h; exact h
    · dsimp only at h
      rw [if_neg (by rw [a]; exact fun z => by cases z), if_neg (fun z => z.elim (fun z => z b) c), if_neg (by omega)] at h; exact h
theorem end_of {c : Nat} (W : WfY c Y) (h : AftT CY CP CR' CM CU CZ CT K av y d H Q E (endV Y)) : EndG CY CP CR' K av y d Y H Q E := by
  unfold endV at h
  cases o : Y.op with
  | none =>
    rw [o] at h
    exact ⟨fun _ => h, fun n P z => by rw [o] at z; cases z⟩
  | some q =>
    rw [o] at h
    refine ⟨fun z => absurd (o.symm.trans z) (fun z => by cases z), fun n P z => ?_⟩
    rw [o] at z
    injection z with z
    subst z
    exact ⟨(W.op _ o).2.2, h⟩
theorem fit_of {P : PD} (h : AftT CY CP CR' CM CU CZ CT K av y d H Q E (fitV Y P)) : (fits P → ∀ H', SYd y d H H' → YG CY CP K av H' y d (Y.keep P) → Q .non H') ∧ (¬ fits P → ∀ H', Same H H' → E (.ref CT) none H') := by
  unfold fitV at h
  constructor
  · intro f
    rw [if_pos f] at h
    exact h
  · intro f
    rw [if_neg f] at h
    exact h
theorem row_of {c : Nat} {k : Kd} {a b t : List Nat} (W : WfY c Y) (h : AftT CY CP CR' CM CU CZ CT K av y d H Q E (rowV Y k a b t)) : ERowG CY CP CM CU CZ CT K av y d Y k a b t H Q E := by
  unfold rowV at h
  refine ⟨fun e => ?_, fun e no => ?_, fun e p wr ok => ?_, fun e p wr ok i j P' hi hj eP => ?_⟩
  · rw [if_pos e] at h; exact h
  · rw [if_neg (by rw [e]; exact fun z => by cases z), rdV_none no] at h; exact h
  · rw [if_neg (by rw [e]; exact fun z => by cases z), rdV_some wr] at h
    dsimp only at h
    rw [if_pos ok] at h; exact h
  · rw [if_neg (by rw [e]; exact fun z => by cases z), rdV_some wr] at h
    dsimp only at h
    rw [if_neg (by rw [ok]; exact fun z => by cases z)] at h
    have nd : (lp2 Y.cur.ls a b).Nodup := lput_nd (lput_nd W.cur.nd)
    have e1 := lIx_eq nd hi
    have e2 := lIx_eq nd hj
    have eP2 : P' = addRow Y.cur k a b p := by rw [eP, e1, e2]; rfl
    rw [eP2]
    exact fit_of h
theorem put_of {c : Nat} {n m : List Nat} {X : List (List Nat)} (W : WfY c Y) (h : AftT CY CP CR' CM CU CZ CT K av y d H Q E (putV Y n m X)) : EPutG CY CP CM CT K av y d Y n m X H Q E := by
  unfold putV at h
  refine ⟨fun e => ?_, fun e no => ?_, fun e nn P hP hX sp P' hs eP => ?_⟩
  · rw [if_pos e] at h; exact h
  · rw [if_neg (by rw [e]; exact fun z => by cases z)] at h
    by_cases c1 : S n ∈ Y.cur.pn
    · rw [if_pos c1] at h; exact h
    · rw [if_neg c1] at h
      rcases no with no | no | ⟨P, hP, hX⟩
      · exact absurd no c1
      · rw [no] at h; exact h
      · rw [hP] at h
        dsimp only at h
        rw [if_pos hX] at h; exact h
  · rw [if_neg (by rw [e]; exact fun z => by cases z), if_neg nn, hP] at h
    dsimp only at h
    rw [if_neg (fun z => z hX)] at h
    have nd : (lps Y.cur.ls (labsV n X P)).Nodup := lps_nd W.cur.nd
    have es := spAt_eq nd hs
    have eP2 : P' = addPut Y.cur n X P := by rw [eP, es]; rfl
    rw [eP2]
    exact fit_of h
theorem kdOf_wd (k : Kd) : kdOf k.wd = some k := by cases k <;> decide +kernel
theorem kdOf_some {w : Str} {k : Kd} (h : kdOf w = some k) : w = k.wd := by
  unfold kdOf at h
  split at h
  · injection h with h; subst h; assumption
  · split at h
    · injection h with h; subst h; assumption
    · split at h
      · injection h with h; subst h; assumption
      · cases h
theorem form_row {w : Str} {n : Int} (h : ¬ formM w n = false) (n1 : w ≠ "part") (n2 : w ≠ "done") (n3 : w ≠ "put") : (∃ k, kdOf w = some k) ∧ n = 4 := by
  unfold formM at h
  by_cases c : w ∈ rowW
  · rw [if_pos c, decide_eq_false_iff_not, Classical.not_not] at h
    refine ⟨?_, h⟩
    unfold rowW at c
    simp only [List.mem_cons, List.not_mem_nil, or_false] at c
    rcases c with c | c | c
    · exact ⟨.pc, c ▸ kdOf_wd .pc⟩
    · exact ⟨.pu, c ▸ kdOf_wd .pu⟩
    · exact ⟨.ho, c ▸ kdOf_wd .ho⟩
  · rw [if_neg c, if_neg n1, if_neg n3, decide_eq_false n2] at h
    exact absurd rfl h
theorem form_part {n : Int} (h : ¬ formM "part" n = false) : 3 ≤ n := by
  unfold formM at h
  rw [if_neg (by decide +kernel), if_pos rfl, decide_eq_false_iff_not, Classical.not_not] at h
  exact h
theorem form_put {n : Int} (h : ¬ formM "put" n = false) : 4 ≤ n := by
  unfold formM at h
  rw [if_neg (by decide +kernel), if_neg (by decide +kernel), if_pos rfl, decide_eq_false_iff_not, Classical.not_not] at h
  exact h
theorem form_done {n : Int} (h : ¬ formM "done" n = false) : n = 1 := by
  unfold formM at h
  rw [if_neg (by decide +kernel), if_neg (by decide +kernel), if_neg (by decide +kernel)] at h
  by_cases e : n = 1
  · exact e
  · rw [decide_eq_false e, Bool.and_false] at h
    exact absurd rfl h
inductive TVs (Y : YS) : List (List Nat) → Except Er YS → Prop where
  | no {w : List Nat} {r : List (List Nat)} (f : formM (S w) ((r.length : Int) + 1) = false) : TVs Y (w :: r) (.error .row)
  | part {w n : List Nat} {X : List (List Nat)} (ew : S w = "part") (lx : 1 ≤ X.length) : TVs Y (w :: n :: X) (begV Y n X)
  | done {w : List Nat} (ew : S w = "done") : TVs Y [w] (endV Y)
  | put {w n m : List Nat} {X : List (List Nat)} (ew : S w = "put") (lx : 1 ≤ X.length) : TVs Y (w :: n :: m :: X) (putV Y n m X)
  | row {w a b t : List Nat} {k : Kd} (ew : S w = k.wd) : TVs Y [w, a, b, t] (rowV Y k a b t)
theorem tvs (Y : YS) : ∀ {ws : List (List Nat)}, ws ≠ [] → TVs Y ws (tV Y ws)
  | [], h => absurd rfl h
  | w :: r, _ => by
    by_cases f : formM (S w) ((r.length : Int) + 1) = false
    · have : tV Y (w :: r) = .error .row := by unfold tV; dsimp only; rw [if_pos f]
      rw [this]; exact .no f
    by_cases e1 : S w = "part"
    · rw [e1] at f
      have := form_part f
      match r, f, this with
      | [], _, h => simp at h
      | n :: X, f, h =>
        have : tV Y (w :: n :: X) = begV Y n X := by unfold tV; dsimp only; rw [if_neg (show ¬ formM (S w) _ = false by rw [e1]; exact f), if_pos e1]
        rw [this]; exact .part e1 (by simp only [List.length_cons] at h; omega)
    by_cases e2 : S w = "done"
    · rw [e2] at f
      have := form_done f
      match r, f, this with
      | [], f, _ =>
        have : tV Y [w] = endV Y := by unfold tV; dsimp only; rw [if_neg (show ¬ formM (S w) _ = false by rw [e2]; exact f), if_neg e1, if_pos e2]
        rw [this]; exact .done e2
      | n :: X, _, h => simp only [List.length_cons] at h; omega
    by_cases e3 : S w = "put"
    · rw [e3] at f
      have := form_put f
      match r, f, this with
      | [], _, h => simp at h
      | [_], _, h => simp at h
      | n :: m :: X, f, h =>
        have : tV Y (w :: n :: m :: X) = putV Y n m X := by unfold tV; dsimp only; rw [if_neg (show ¬ formM (S w) _ = false by rw [e3]; exact f), if_neg e1, if_neg e2, if_pos e3]
        rw [this]; exact .put e3 (by simp only [List.length_cons] at h; omega)
    · obtain ⟨⟨k, hk⟩, h4⟩ := form_row f e1 e2 e3
      match r, f, h4 with
      | [a, b, t], f, _ =>
        have : tV Y [w, a, b, t] = rowV Y k a b t := by unfold tV; dsimp only; rw [if_neg f, if_neg e1, if_neg e2, if_neg e3, hk]
        rw [this]; exact .row (kdOf_some hk)
      | [], _, h => simp at h
      | [_], _, h => simp at h
      | [_, _], _, h => simp at h
      | _ :: _ :: _ :: _ :: _, _, h => simp only [List.length_cons] at h; omega
abbrev BdW (ws : List (List Nat)) : Prop := ∀ w a b t, ws = [w, a, b, t] → ∀ p, Wr p t → Mq.Bd 100 p
theorem tell_of {c : Nat} {ws : List (List Nat)} (W : WfY c Y) (hw : ws ≠ []) (hl : ws.length ≤ 100) (bd : BdW ws) (h : AftT CY CP CR' CM CU CZ CT K av y d H Q E (tV Y ws)) : TellG CY CP CR' CM CU CZ CT K av y d Y H Q E ws := by
  have v := tvs Y hw
  generalize tV Y ws = r at h v
  cases v with
  | no f => exact .no f h
  | part ew lx => exact .part ew lx (by simp only [List.length_cons] at hl; omega) (beg_of h)
  | done ew => exact .done ew (end_of W h)
  | put ew lx => exact .put ew lx (by simp only [List.length_cons] at hl; omega) (put_of W h)
  | row ew => exact .row ew (bd _ _ _ _ rfl) (row_of W h)
theorem fitV_ok {P : PD} {Y' : YS} (h : fitV Y P = .ok Y') : fits P ∧ Y' = Y.keep P := by
  unfold fitV at h
  by_cases f : fits P
  · rw [if_pos f] at h
    injection h with h
    exact ⟨f, h.symm⟩
  · rw [if_neg f] at h
    cases h
theorem partOf_mem {pa : List (Str × PD)} {n : Str} {P : PD} (h : partOf pa n = some P) : ∃ nP ∈ pa, nP.2 = P := by
  unfold partOf at h
  obtain ⟨q, hq, rfl⟩ := Option.map_eq_some_iff.mp h
  exact ⟨q, List.mem_of_find?_eq_some hq, rfl⟩
theorem tV_wf {c : Nat} {ws : List (List Nat)} {Y' : YS} (W : WfY c Y) (hw : ws ≠ []) (bd : BdW ws) (h : tV Y ws = .ok Y') : WfY (c + 1) Y' := by
  have v := tvs Y hw
  rw [h] at v
  generalize er : Except.ok Y' = r at v
  cases v with
  | no f => cases er
  | @part w n X ew lx =>
    unfold begV at er
    cases o : Y.op with
    | some q => rw [o] at er; cases er
    | none =>
      rw [o] at er
      dsimp only at er
      split at er
      · cases er
      · rename_i c1
        split at er
        · cases er
        · rename_i c2
          split at er
          · cases er
          · rename_i c3
            injection er with er
            subst er
            have W' := W.mono (Nat.le_succ c)
            have al : (n :: X).all nmB = true := by cases e : (n :: X).all nmB with | true => rfl | false => exact absurd e c1
            have c2' : (X.map S).Nodup ∧ S n ∉ Y.pa.map (·.1) := ⟨Classical.byContradiction fun z => c2 (.inl z), fun z => c2 (.inr z)⟩
            refine ⟨W'.gr, W'.ge, W'.pa, W'.n20, fun _ _ => by show Y.pa.length < 20; omega, fun nP e => ?_⟩
            injection e with e
            subst e
            refine ⟨⟨c2'.1, fun d hd => (by cases hd), by show X.length ≤ (X.map S).length; rw [List.length_map]; omega, by show (X.map S).length ≤ 20; rw [List.length_map]; omega, by show 0 ≤ 40; decide, by show 0 ≤ c + 1; omega, fun x hx => ?_⟩, lx, c2'.2⟩
            obtain ⟨z, hz, rfl⟩ := List.mem_map.mp hx
            have := nmB_len (List.all_eq_true.mp al z (List.mem_cons_of_mem _ hz))
            rw [S_len]
            show z.length ≤ 9 * (Y.pa.length + 2)
            omega
  | done ew =>
    unfold endV at er
    cases o : Y.op with
    | none => rw [o] at er; cases er
    | some q =>
      rw [o] at er
      injection er with er
      subst er
      have W' := W.mono (Nat.le_succ c)
      obtain ⟨w1, w2, w3⟩ := W'.op q o
      have lt := W.o20 q o
      have len : (Y.pa ++ [q]).length = Y.pa.length + 1 := by simp
      refine ⟨W'.gr.mono (Nat.le_refl _) (by show 9 * (Y.pa.length + 2) ≤ 9 * ((Y.pa ++ [q]).length + 2); omega), W'.ge, fun nP hn => ?_, by show (Y.pa ++ [q]).length ≤ 20; omega, fun _ z => (by cases z), fun _ z => (by cases z)⟩
      rcases List.mem_append.mp hn with hn | hn
      · exact ⟨(W'.pa nP hn).1.mono (Nat.le_refl _) (by show 9 * (Y.pa.length + 1) ≤ 9 * ((Y.pa ++ [q]).length + 1); omega), (W'.pa nP hn).2⟩
      · rw [List.mem_singleton] at hn
        subst hn
        exact ⟨w1.mono (Nat.le_refl _) (by show 9 * (Y.pa.length + 2) ≤ 9 * ((Y.pa ++ [nP]).length + 1); rw [List.length_append]; simp only [List.length_cons, List.length_nil]; omega), w2⟩
  | @put w n m X ew lx =>
    unfold putV at er
    split at er
    · cases er
    · rename_i c1
      split at er
      · cases er
      · split at er
        · cases er
        · rename_i P hP
          split at er
          · cases er
          · rename_i c3
            obtain ⟨f, rfl⟩ := fitV_ok er.symm
            have al : (n :: m :: X).all nmB = true := by cases e : (n :: m :: X).all nmB with | true => rfl | false => exact absurd e c1
            have al := List.all_eq_true.mp al
            obtain ⟨nP, hn, rfl⟩ := partOf_mem hP
            have eX : X.length = nP.2.e := Classical.byContradiction c3
            have w := addPut_wf W.cur (W.pa nP hn).1 (by omega) (al n (by simp)) (List.all_eq_true.mpr fun x hx => al x (by simp [hx])) eX f
            exact (W.mono (Nat.le_succ c)).keep w rfl
  | @row w a b t k ew =>
    unfold rowV at er
    split at er
    · cases er
    · rename_i c1
      split at er
      · cases er
      · rename_i p hp
        split at er
        · cases er
        · rename_i c3
          obtain ⟨f, rfl⟩ := fitV_ok er.symm
          have al : nmB a = true ∧ nmB b = true := by
            cases e : nmB a <;> cases e' : nmB b <;> simp [e, e'] at c1 ⊢
          have wr := rdV_wr hp
          have w := addRow_wf W.cur (by omega) al.1 al.2 wr.low (by cases e : okz k (some p) with | true => rfl | false => exact absurd e c3) (bd _ _ _ _ rfl p wr) f
          exact (W.mono (Nat.le_succ c)).keep (w.mono (Nat.le_succ c) (Nat.le_refl _)) rfl
end
noncomputable def fV (Y : YS) : List (List (List Nat)) → Except Er YS
  | [] => .ok Y
  | ws :: r => match tV Y ws with
    | .ok Y' => fV Y' r
    | .error e => .error e
def Y0 : YS := ⟨⟨[], 0, [], []⟩, [], none⟩
theorem wf0 : WfY 0 Y0 := ⟨⟨.nil, fun d h => (by cases h), Nat.le_refl _, by show 0 ≤ 20; decide, by show 0 ≤ 40; decide, Nat.le_refl _, fun x h => (by cases h)⟩, rfl, fun nP h => (by cases h), by show 0 ≤ 20; decide, fun nP h => (by cases h), fun nP h => (by cases h)⟩
end
end K85

set_option Elab.async false
set_option linter.all false
namespace L2
open PySem PySem.Spec PyProof.Rows PySem.Builtin.Str PySem.SeqAt
variable {X : Cx}
def rJoin (K : PySem.W.Frag) : V → List V → Hp → VK → Prop := fun x vs H Q => ∃ (a : Str) (p : Addr) (ns : List Str), x = .str a ∧ vs = [.ref p] ∧ SqL K H p (ns.map V.str) ∧ (ns.map (·.length)).sum + ns.length * a.length ≤ 1000000 ∧ Q (.str (Str.join a ns)) H
theorem strs_of : ∀ {ns : List Str} {us : List Value}, Vals (ns.map V.str) us → ∃ l : List (Str × Tok), l.map (·.1) = ns ∧ strValues l = us
  | [], _, .nil => ⟨[], rfl, rfl⟩
  | n :: ns, _, .cons ⟨t, e⟩ q => by
    obtain ⟨l, h1, h2⟩ := strs_of q
    exact ⟨(n, t) :: l, by rw [List.map_cons, h1], by subst e; rw [← h2]; rfl⟩
theorem mt_join : MtR X "str.join" (rJoin X.K) := by
  intro pins s σ H x xs v us Q I rx rv h
  obtain ⟨a, p, ns, rfl, rfl, hq, hz, q⟩ := h
  obtain ⟨t, rfl⟩ := rx
  obtain ⟨u, rfl, e⟩ := vals1 rv
  cases e
  obtain ⟨its, r, pl, _⟩ := I.list hq
  obtain ⟨l, h1, h2⟩ := strs_of r
  subst h2
  have hs : sizeLine = 16777216 := sizeLine_eq
  refine SC.join (l := l) (texts := ns) pl.isList h1 ?_ fun t' k => ⟨.str (Str.join a ns), H, I.tok _, ⟨t', ?_⟩, q⟩
  · unfold JoinOk
    rw [StrLaws.joinTotal]
    rw [Bool.not_eq_true']
    unfold tooLong
    first | exact decide_eq_false (by omega) | (simp; omega)
  · show Value.str (Txt.join a ns) t' = _
    rw [show Txt.join a ns = Str.join a ns from StrLaws.glued_eq_join ..]
theorem S_jnc (c : Nat) (xs : List (List Nat)) : Str.join ⟨#[c]⟩ (xs.map Tx.S) = Tx.S (jnc c xs) := by
  have h := join_jnc c (xs.map Tx.S)
  rw [List.map_map] at h
  have e : (xs.map ((fun x : Str => x.cps.toList) ∘ Tx.S)) = xs := by
    conv => rhs; rw [← List.map_id xs]
    exact List.map_congr_left fun y _ => Tx.S_list y
  rw [e] at h
  rw [← h]
  exact Tx.S_self _
end L2

set_option Elab.async false
set_option linter.all false
set_option maxRecDepth 100000
set_option maxHeartbeats 4000000
namespace K85
open PySem L2 Tx
section
variable {P : Program} {w : World} {K : PySem.W.Frag} {mg : Str → Option Value} {base : Heap} {f g1 g2 g3 g4 g5 g6 g7 g8 : Addr} {fd gd1 gd2 gd3 gd4 gd5 gd6 gd7 gd8 : FuncData} {CX : CXT}
structure TxOk (ws : List (List Nat)) : Prop where
  ne : ws ≠ []
  s32 : ∀ z ∈ ws, 32 ∉ z
  s10 : 10 ∉ jnc 32 ws
  ln : ∀ z ∈ ws, z.length ≤ 1000
  wl : ws.length ≤ 100
  jl : (jnc 32 ws).length ≤ 1000000
  bd : BdW ws
theorem gc_one (t : Int) : Mq.gc t 1 = 1 := by unfold Mq.gc; rw [Int.gcd_one]; rfl
theorem okz_pp {k : Kd} {p : Mq.Q2} (h : k = .pc → 0 < p.1) : okz k (some p) = true := by cases k <;> first | exact decide_eq_true (h rfl) | rfl
theorem wr_bd {p : Mq.Q2} {t : List Nat} (h : Wr p t) (l : t.length ≤ 28) : Mq.Bd 100 p := by
  have ge : ∀ i : Int, (dg i.natAbs).length ≤ (itx i).length := fun i => by unfold itx; split <;> simp
  have l1 : (itx p.1).length ≤ t.length := by rw [h.txt]; unfold shw; split <;> simp
  have k : ∀ n : Nat, n < 10 ^ 28 → n < 2 ^ 100 := fun n hn => Nat.lt_trans hn (by decide)
  have b1 : p.1.natAbs < 10 ^ 28 := (dg_len (by decide)).mp (Nat.le_trans (ge p.1) (by omega))
  have b2 : p.2.natAbs < 10 ^ 28 := by
    by_cases e : p.2 = 1
    · rw [e]; decide
    · have l2 : (itx p.2).length ≤ t.length := by rw [h.txt]; unfold shw; rw [if_neg e]; simp; omega
      exact (dg_len (by decide)).mp (Nat.le_trans (ge p.2) (by omega))
  exact ⟨k _ b1, k _ b2⟩
def wdC : Kd → List Nat
  | .pc => [112, 105, 101, 99, 101]
  | .pu => [112, 117, 115, 104]
  | .ho => [104, 111, 108, 100]
theorem wdC_S (k : Kd) : S (wdC k) = k.wd := by cases k <;> decide +kernel
theorem wdC_no (k : Kd) : 32 ∉ wdC k ∧ 10 ∉ wdC k ∧ (wdC k).length ≤ 5 := by cases k <;> decide
section
variable {Y : YS}
theorem tV_row {k : Kd} {a b t : List Nat} : tV Y [wdC k, a, b, t] = rowV Y k a b t := by
  obtain ⟨n1, n2, n3⟩ := kd_no k
  have f : ¬ formM k.wd ((([a, b, t] : List (List Nat)).length : Int) + 1) = false := by unfold formM; rw [if_pos (kd_row k)]; exact fun z => by cases z
  unfold tV
  dsimp only
  rw [wdC_S, if_neg f, if_neg n1, if_neg n3, if_neg n2, kdOf_wd]
theorem S_put : S [112, 117, 116] = "put" := by decide +kernel
theorem S_part : S [112, 97, 114, 116] = "part" := by decide +kernel
theorem S_done : S [100, 111, 110, 101] = "done" := by decide +kernel
theorem tV_put {n m x : List Nat} {X : List (List Nat)} : tV Y ([112, 117, 116] :: n :: m :: x :: X) = putV Y n m (x :: X) := by
  have f : ¬ formM "put" (((n :: m :: x :: X).length : Int) + 1) = false := by
    unfold formM
    rw [if_neg (by decide +kernel), if_neg (by decide +kernel), if_pos rfl, decide_eq_true (by simp only [List.length_cons]; omega)]
    exact fun z => by cases z
  unfold tV
  dsimp only
  rw [S_put, if_neg f, if_neg (by decide +kernel), if_neg (by decide +kernel), if_pos rfl]
theorem tV_part {n x : List Nat} {X : List (List Nat)} : tV Y ([112, 97, 114, 116] :: n :: x :: X) = begV Y n (x :: X) := by
  have f : ¬ formM "part" (((n :: x :: X).length : Int) + 1) = false := by
    unfold formM
    rw [if_neg (by decide +kernel), if_pos rfl, decide_eq_true (by simp only [List.length_cons]; omega)]
    exact fun z => by cases z
  unfold tV
  dsimp only
  rw [S_part, if_neg f, if_pos rfl]
theorem tV_done : tV Y [[100, 111, 110, 101]] = endV Y := by
  have f : ¬ formM "done" ((([] : List (List Nat)).length : Int) + 1) = false := by decide +kernel
  unfold tV
  dsimp only
  rw [S_done, if_neg f, if_neg (by decide +kernel), if_pos rfl]
theorem rowV_ok {k : Kd} {a b t : List Nat} {p : Mq.Q2} (hn : (nmB a && nmB b) = true) (wr : Wr p t) (ok : okz k (some p) = true) (f : fits (addRow Y.cur k a b p)) : rowV Y k a b t = .ok (Y.keep (addRow Y.cur k a b p)) := by
  unfold rowV
  rw [if_neg (by rw [hn]; exact fun z => by cases z), rdV_some wr]
  dsimp only
  rw [if_neg (by rw [ok]; exact fun z => by cases z)]
  unfold fitV
  rw [if_pos f]
theorem putV_ok {n m : List Nat} {X : List (List Nat)} {P : PD} (hn : (n :: m :: X).all nmB = true) (nn : S n ∉ Y.cur.pn) (hP : partOf Y.pa (S m) = some P) (eX : X.length = P.e) (f : fits (addPut Y.cur n X P)) : putV Y n m X = .ok (Y.keep (addPut Y.cur n X P)) := by
  unfold putV
  rw [if_neg (by rw [hn]; exact fun z => by cases z), if_neg nn, hP]
  dsimp only
  rw [if_neg (fun z => z eX)]
  unfold fitV
  rw [if_pos f]
theorem begV_ok {n : List Nat} {X : List (List Nat)} (ho : Y.op = none) (hn : (n :: X).all nmB = true) (nd : (X.map S).Nodup) (nn : S n ∉ Y.pa.map (·.1)) (h1 : Y.pa.length < 20) (h2 : X.length ≤ 20) : begV Y n X = .ok { Y with op := some (S n, ⟨X.map S, X.length, [], []⟩) } := by
  unfold begV
  rw [ho]
  dsimp only
  rw [if_neg (by rw [hn]; exact fun z => by cases z), if_neg (fun z => z.elim (fun z => z nd) nn), if_neg (by omega)]
end
theorem wr1 {d : Nat} (h : d < 10) : Wr ((d : Int), 1) [48 + d] := ⟨⟨by show (0 : Int) < 1; decide, by show Mq.gc (d : Int) 1 = 1; exact gc_one _⟩, by
    show [48 + d] = shw ((d : Int), 1)
    unfold shw
    rw [if_pos rfl]
    show [48 + d] = itx (d : Int)
    rw [itx_pos (by omega), show ((d : Int)).natAbs = d by omega]
    have : ∀ d : Fin 10, [48 + d.val] = dg d.val := by decide
    exact this ⟨d, h⟩, by show ((d : Int)).natAbs < 10 ^ 200; exact Nat.lt_of_lt_of_le (show ((d : Int)).natAbs < 10 ^ 1 by omega) (Nat.pow_le_pow_right (by decide) (show 1 ≤ 200 by decide)), by show 1 < 10 ^ 200; exact Nat.lt_of_lt_of_le (by decide) (Nat.pow_le_pow_right (by decide) (show 1 ≤ 200 by decide))⟩
theorem bdw {ws : List (List Nat)} (h : ∀ z ∈ ws, z.length ≤ 28) : BdW ws := fun w a b t e p wr => wr_bd wr (h t (by rw [e]; simp))
theorem ok_all {k : Kd} {p : Mq.Q2} (h : 0 < p.1) : okz k (some p) = true := okz_pp fun _ => h
theorem tx_of {ws : List (List Nat)} (h0 : ws ≠ []) (h : ∀ z ∈ ws, 32 ∉ z ∧ 10 ∉ z ∧ z.length ≤ 28) (hl : ws.length ≤ 10) : TxOk ws := by
  have j10 : ∀ xs : List (List Nat), (∀ z ∈ xs, 10 ∉ z) → 10 ∉ jnc 32 xs ∧ (jnc 32 xs).length ≤ (xs.map (·.length + 1)).sum := by
    intro xs
    induction xs with
    | nil => intro _; exact ⟨by simp [jnc], by simp [jnc]⟩
    | cons x r ih =>
      intro h
      obtain ⟨i1, i2⟩ := ih fun z hz => h z (List.mem_cons_of_mem _ hz)
      cases r with
      | nil => exact ⟨h x (by simp), by simp [jnc]⟩
      | cons y r =>
        constructor
        · show 10 ∉ x ++ 32 :: jnc 32 (y :: r)
          simp only [List.mem_append, List.mem_cons, not_or]
          exact ⟨h x (by simp), by decide, i1⟩
        · show (x ++ 32 :: jnc 32 (y :: r)).length ≤ _
          rw [List.map_cons, List.sum_cons, List.length_append, List.length_cons]
          omega
  obtain ⟨b1, b2⟩ := j10 ws fun z hz => (h z hz).2.1
  have b3 : ∀ xs : List (List Nat), (∀ z ∈ xs, z.length ≤ 28) → (xs.map (·.length + 1)).sum ≤ 29 * xs.length := by
    intro xs
    induction xs with
    | nil => intro _; simp
    | cons x r ih =>
      intro h
      have i1 := ih fun z hz => h z (List.mem_cons_of_mem _ hz)
      have i2 := h x (by simp)
      rw [List.map_cons, List.sum_cons, List.length_cons]
      omega
  have b4 := b3 ws fun z hz => (h z hz).2.2
  exact ⟨h0, fun z hz => (h z hz).1, b1, fun z hz => by have := (h z hz).2.2; omega, by omega, by omega, bdw fun z hz => (h z hz).2.2⟩
theorem tx_row {k : Kd} {a b t : List Nat} (h : ∀ z ∈ [a, b, t], 32 ∉ z ∧ 10 ∉ z ∧ z.length ≤ 28) : TxOk [wdC k, a, b, t] := by
  obtain ⟨w1, w2, w3⟩ := wdC_no k
  refine tx_of (by simp) (fun z hz => ?_) (by show 4 ≤ 10; decide)
  rcases List.mem_cons.mp hz with rfl | hz
  · exact ⟨w1, w2, by omega⟩
  · exact h z hz
theorem S1 (n : Nat) : S [n] = ⟨#[n]⟩ := rfl
theorem len2 (x y : Str) : (x ++ y).length = x.length + y.length := by
  show (x.cps ++ y.cps).size = _
  rw [Array.size_append]; rfl
theorem one_len (c : Nat) : (⟨#[c]⟩ : Str).length = 1 := Nat.le_antisymm (Nat.le_refl 1) (Nat.le_refl 1)
theorem call_isiE {X : Cx} : CallR X (.builtin "isinstance") (fun xs H Q => (∃ a C c cv b, xs = [.ref a, c] ∧ H a = some (excO a (.ref C) none) ∧ ExcK X.K C ∧ RelV c cv ∧ (∀ u, RelV c u → u = cv) ∧ PySem.W.kitOne X.K (.ref C) cv = some b ∧ Q (.bl b) H) ∨ (∃ x C t b, xs = [x, .ref C] ∧ TyQ X.K H x t ∧ PySem.W.kitOne X.K t (.ref C) = some b ∧ Q (.bl b) H)) := by
  intro pins s σ H xs us Q I r h
  rcases h with h | h
  · exact call_isiX pins s σ H xs us Q I r h
  · exact call_isiO pins s σ H xs us Q I r h
theorem kit_self (K : PySem.W.Frag) (C : Addr) : PySem.W.kitOne K (.ref C) (.ref C) = some true := by unfold PySem.W.kitOne; rw [if_pos (beq_self_eq_true _)]
theorem no_wr {t : List Nat} (h : ¬ Fine t ∨ ¬ Mq.Low (ival (ahead 47 t), ival (belowOf t))) : ¬ ∃ p, Wr p t := fun ⟨p, wr⟩ => by
  obtain ⟨f, a, b⟩ := wr_fine wr
  rcases h with h | h
  · exact h f
  · rw [a, b] at h; exact h wr.low
theorem tell_ok {CY CP CR' CM CU CZ CT : Addr} {av : List Addr} {H : Hp} {y d : Addr} {Y Y' : YS} {c : Nat} {ws : List (List Nat)} {Q : VK} {E : XK} (G : YG CY CP K av H y d Y) (W : WfY c Y) (hc : c ≤ 390) (tx : TxOk ws) (t : tV Y ws = .ok Y') (q : ∀ H', SYd y d H H' → YG CY CP K av H' y d Y' → Q .non H') : spTellG CY CP CR' CM CU CZ CT K [.ref y, .str (S (jnc 32 ws))] H Q E :=
  ⟨y, _, rfl, .inr ⟨av, d, Y, ws, rfl, tx.s32, tx.ln, tx.jl, Nat.le_trans tx.wl (by omega), G, SmY.of W (by omega), tell_of W tx.ne tx.wl tx.bd (by rw [t]; exact q)⟩⟩
def lt (k : Nat) : List Nat := [97 + k % 26, 97 + k / 26]
theorem lt_ok {k : Nat} (h : k < 676) : nmB (lt k) = true ∧ 32 ∉ lt k ∧ 10 ∉ lt k ∧ (lt k).length = 2 ∧ 46 ∉ lt k := by
  have h1 : k % 26 < 26 := Nat.mod_lt _ (by decide)
  have h2 : k / 26 < 26 := by omega
  refine ⟨?_, ?_, ?_, rfl, ?_⟩
  · unfold nmB lt
    simp only [List.all_cons, List.all_nil, Bool.and_true, Bool.and_eq_true]
    refine ⟨decide_eq_true ⟨by show 1 ≤ 2; decide, by show 2 ≤ 8; decide⟩, ?_, ?_⟩ <;> (unfold ltB; exact decide_eq_true (by omega))
  all_goals (unfold lt; simp only [List.mem_cons, List.not_mem_nil, or_false]; omega)
theorem lt_inj {i j : Nat} (h : lt i = lt j) : i = j := by
  unfold lt at h
  injection h with h1 h2
  injection h2 with h2 _
  omega
def dn (n : List Nat) (z : Str) : Str := S n ++ "." ++ z
theorem dn_list (n : List Nat) (z : Str) : (dn n z).cps.toList = n ++ 46 :: z.cps.toList := by
  unfold dn
  show ((S n).cps ++ (".": Str).cps ++ z.cps).toList = _
  rw [Array.toList_append, Array.toList_append, S_list]
  have e : ((".": Str).cps).toList = [46] := by decide +kernel
  rw [e, List.append_assoc]
  rfl
theorem dn_inj {n : List Nat} {z w : Str} (h : dn n z = dn n w) : z = w := by
  have h1 := congrArg (fun s : Str => s.cps.toList) h
  simp only [dn_list] at h1
  have h2 := List.append_cancel_left h1
  injection h2 with _ h3
  rw [S_self z, S_self w, h3]
theorem dn_lt {i j : Nat} {z w : Str} (h : dn (lt i) z = dn (lt j) w) : i = j := by
  have h1 := congrArg (fun s : Str => s.cps.toList) h
  simp only [dn_list] at h1
  exact lt_inj (List.append_inj_left h1 rfl)
theorem dn_dot (n : List Nat) (z : Str) : 46 ∈ (dn n z).cps.toList := by rw [dn_list]; simp
theorem S_nodot {n : List Nat} (h : 46 ∉ n) : 46 ∉ (S n).cps.toList := by rw [S_list]; exact h
theorem lps_new : ∀ {L ls : List Str}, (∀ x ∈ L, x ∉ ls) → L.Nodup → lps ls L = ls ++ L
  | [], ls, _, _ => by show ls = _; rw [List.append_nil]
  | x :: r, ls, h, nd => by
    have hx := h x (by simp)
    have nd' := List.nodup_cons.mp nd
    show lps (lput ls x) r = _
    rw [show lput ls x = ls ++ [x] from if_neg hx, lps_new (fun z hz hin => ?_) nd'.2, List.append_assoc]
    · rfl
    · rcases List.mem_append.mp hin with hin | hin
      · exact h z (List.mem_cons_of_mem _ hz) hin
      · rw [List.mem_singleton] at hin
        subst hin
        exact nd'.1 hz
theorem lps_old : ∀ {L ls : List Str}, (∀ x ∈ L, x ∈ ls) → lps ls L = ls
  | [], ls, _ => rfl
  | x :: r, ls, h => by
    show lps (lput ls x) r = _
    rw [show lput ls x = ls from if_pos (h x (by simp))]
    exact lps_old fun z hz => h z (List.mem_cons_of_mem _ hz)
theorem lps_app (ls A B : List Str) : lps ls (A ++ B) = lps (lps ls A) B := by unfold lps; rw [List.foldl_append]
structure PV (P : PD) (n : Nat) (hm : Bool) (rows come : Nat) : Prop where
  nd : P.ls.Nodup
  len : P.ls.length = n
  x : S [120] ∈ P.ls
  y : S [121] ∈ P.ls
  m : S [109] ∈ P.ls ↔ hm = true
  ds : P.ds.length = rows
  pn : ∀ i, come ≤ i → i < 676 → S (lt i) ∉ P.pn
  pn' : ∀ i, i < come → S (lt i) ∈ P.pn
  dot : ∀ z ∈ P.ls, 46 ∉ z.cps.toList ∨ ∃ i, i < come ∧ ∃ w, z = dn (lt i) w
  e : P.e = 2 ∨ P.e = 0
theorem PV.row {P : PD} {n rows come : Nat} {hm : Bool} (h : PV P n hm rows come) {k : Kd} {a b : List Nat} {p : Mq.Q2} (ha : S a ∈ P.ls) (hb : S b ∈ P.ls) : PV (addRow P k a b p) n hm (rows + 1) come ∧ (addRow P k a b p).ls = P.ls := by
  have e : lp2 P.ls a b = P.ls := by
    show lput (lput P.ls (S a)) (S b) = P.ls
    rw [show lput P.ls (S a) = P.ls from if_pos ha, show lput P.ls (S b) = P.ls from if_pos hb]
  have el : (addRow P k a b p).ls = P.ls := e
  refine ⟨⟨by rw [el]; exact h.nd, by rw [el]; exact h.len, by rw [el]; exact h.x, by rw [el]; exact h.y, by rw [el]; exact h.m, ?_, h.pn, h.pn', by rw [el]; exact h.dot, h.e⟩, el⟩
  show (P.ds ++ [_]).length = _
  rw [List.length_append, h.ds]
  rfl
def mo (s : List (List Nat)) (hm : Bool) : Nat := if [109] ∈ s ∧ hm = false then 1 else 0
theorem PV.put {P Q : PD} {n rows come : Nat} {hm : Bool} (h : PV P n hm rows come) (hc : come < 600) (qe : Q.e = 2) (qn : Q.ls.Nodup) (ql : 2 ≤ Q.ls.length) {s1 s2 : List Nat} (h1 : s1 = [120] ∨ s1 = [121] ∨ s1 = [109]) (h2 : s2 = [120] ∨ s2 = [121] ∨ s2 = [109]) :
    PV (addPut P (lt come) [s1, s2] Q) (n + mo [s1, s2] hm + (Q.ls.length - 2)) (hm || decide ([109] ∈ [s1, s2])) (rows + Q.ds.length) (come + 1) := by
  have sx : ∀ s : List Nat, s = [120] ∨ s = [121] ∨ s = [109] → (S s ∈ P.ls ∨ s = [109]) := fun s hs => by
    rcases hs with rfl | rfl | rfl
    · exact .inl h.x
    · exact .inl h.y
    · exact .inr rfl
  have nodot : ∀ s : List Nat, s = [120] ∨ s = [121] ∨ s = [109] → 46 ∉ (S s).cps.toList := fun s hs => S_nodot (by rcases hs with rfl | rfl | rfl <;> decide)
  -- the spots
  have sp : ∃ L1, lps P.ls [S s1, S s2] = L1 ∧ L1.Nodup ∧ L1.length = n + mo [s1, s2] hm ∧ (∀ z ∈ P.ls, z ∈ L1) ∧ (∀ z ∈ L1, z ∈ P.ls ∨ 46 ∉ z.cps.toList) ∧ (S [109] ∈ L1 ↔ (hm || decide ([109] ∈ [s1, s2])) = true) := by
    refine ⟨_, rfl, lps_nd h.nd, ?_, fun z hz => lps_mem.mpr (.inl hz), fun z hz => ?_, ?_⟩
    · by_cases c : [109] ∈ [s1, s2] ∧ hm = false
      · unfold mo
        rw [if_pos c]
        have nm : S [109] ∉ P.ls := fun z => by have := h.m.mp z; rw [c.2] at this; cases this
        have one : ∀ s : List Nat, s = [120] ∨ s = [121] ∨ s = [109] → ∀ L : List Str, (∀ z ∈ P.ls, z ∈ L) → s ≠ [109] → lput L (S s) = L := fun s hs L hL n => if_pos (hL _ ((sx s hs).resolve_right n))
        show (lput (lput P.ls (S s1)) (S s2)).length = _
        have e1 : lput P.ls (S [109]) = P.ls ++ [S [109]] := if_neg nm
        by_cases c1 : s1 = [109]
        · subst c1
          rw [e1]
          have : lput (P.ls ++ [S [109]]) (S s2) = P.ls ++ [S [109]] := by
            refine if_pos ?_
            rcases sx s2 h2 with z | z
            · exact List.mem_append_left _ z
            · rw [z]; simp
          rw [this, List.length_append, h.len]
          rfl
        · have c2 : s2 = [109] := by
            have := c.1
            simp only [List.mem_cons, List.not_mem_nil, or_false] at this
            rcases this with z | z
            · exact absurd z.symm c1
            · exact z.symm
          subst c2
          rw [one s1 h1 P.ls (fun _ hz => hz) c1, e1, List.length_append, h.len]
          rfl
      · unfold mo
        rw [if_neg c]
        have all : ∀ x ∈ [S s1, S s2], x ∈ P.ls := fun x hx => by
          have key : ∀ s : List Nat, s ∈ [s1, s2] → (s = [120] ∨ s = [121] ∨ s = [109]) → S s ∈ P.ls := fun s hin hs => by
            rcases sx s hs with z | z
            · exact z
            · subst z
              have : hm = true := by
                cases hm with
                | true => rfl
                | false => exact absurd ⟨hin, rfl⟩ c
              exact h.m.mpr this
          simp only [List.mem_cons, List.not_mem_nil, or_false] at hx
          rcases hx with rfl | rfl
          · exact key s1 (by simp) h1
          · exact key s2 (by simp) h2
        rw [lps_old all, h.len]
        rfl
    · rcases lps_mem.mp hz with z' | z'
      · exact .inl z'
      · simp only [List.mem_cons, List.not_mem_nil, or_false] at z'
        rcases z' with rfl | rfl
        · exact .inr (nodot s1 h1)
        · exact .inr (nodot s2 h2)
    · rw [lps_mem, Bool.or_eq_true, decide_eq_true_eq]
      simp only [List.mem_cons, List.not_mem_nil, or_false, S_inj]
      rw [h.m]
  obtain ⟨L1, e1, nd1, len1, sub1, dot1, m1⟩ := sp
  have inn_eq : inn (S (lt come)) Q.e Q.ls = (Q.ls.drop 2).map (dn (lt come)) := by rw [qe]; rfl
  have fresh : ∀ x ∈ (Q.ls.drop 2).map (dn (lt come)), x ∉ L1 := fun x hx hin => by
    obtain ⟨z, _, rfl⟩ := List.mem_map.mp hx
    rcases dot1 _ hin with hin | hin
    · rcases h.dot _ hin with hd | ⟨i, hi, w, e⟩
      · exact hd (dn_dot _ _)
      · have := dn_lt e
        omega
    · exact hin (dn_dot _ _)
  have ndi : ((Q.ls.drop 2).map (dn (lt come))).Nodup := by
    have qd : (Q.ls.drop 2).Pairwise (· ≠ ·) := List.Pairwise.sublist (List.drop_sublist 2 Q.ls) qn
    exact List.Pairwise.map _ (fun a b (hab : a ≠ b) z => hab (dn_inj z)) qd
  have el : (addPut P (lt come) [s1, s2] Q).ls = L1 ++ (Q.ls.drop 2).map (dn (lt come)) := by
    show lps P.ls (labsV (lt come) [s1, s2] Q) = _
    unfold labsV
    rw [inn_eq, lps_app, show ([s1, s2] : List (List Nat)).map S = [S s1, S s2] from rfl, e1, lps_new fresh ndi]
  refine ⟨?_, ?_, ?_, ?_, ?_, ?_, fun i hi h6 => ?_, fun i hi => ?_, fun z hz => ?_, h.e⟩
  · rw [el, ← lps_new fresh ndi]; exact lps_nd nd1
  · rw [el, List.length_append, List.length_map, List.length_drop, len1]
  · rw [el]; exact List.mem_append_left _ (sub1 _ h.x)
  · rw [el]; exact List.mem_append_left _ (sub1 _ h.y)
  · rw [el, List.mem_append, m1]
    constructor
    · rintro (z | z)
      · exact z
      · obtain ⟨w, _, e⟩ := List.mem_map.mp z
        have := dn_dot (lt come) w
        rw [e] at this
        exact absurd this (S_nodot (by decide))
    · exact .inl
  · show (P.ds ++ Q.ds.map _).length = _
    rw [List.length_append, List.length_map, h.ds]
  · show S (lt i) ∉ P.pn ++ [S (lt come)]
    intro z
    rcases List.mem_append.mp z with z | z
    · exact h.pn i (by omega) h6 z
    · rw [List.mem_singleton, S_inj] at z
      have := lt_inj z
      omega
  · show S (lt i) ∈ P.pn ++ [S (lt come)]
    by_cases c : i < come
    · exact List.mem_append_left _ (h.pn' i c)
    · have : i = come := by omega
      subst this
      simp
  · rw [el] at hz
    rcases List.mem_append.mp hz with hz | hz
    · rcases dot1 z hz with hz | hz
      · rcases h.dot z hz with hz | ⟨i, hi, w⟩
        · exact .inl hz
        · exact .inr ⟨i, by omega, w⟩
      · exact .inl hz
    · obtain ⟨w, _, rfl⟩ := List.mem_map.mp hz
      exact .inr ⟨come, by omega, w, rfl⟩
end
end K85

set_option Elab.async false
set_option linter.all false
set_option maxRecDepth 100000
set_option maxHeartbeats 4000000
namespace K85
open PySem L2 Tx
section
variable {P : Program} {w : World} {K : PySem.W.Frag} {mg : Str → Option Value} {base : Heap} {f g1 g2 g3 g4 g5 g6 g7 g8 : Addr} {fd gd1 gd2 gd3 gd4 gd5 gd6 gd7 gd8 : FuncData} {CX : CXT}
abbrev sPick : Stmt := top 53
theorem scPick : FnScope ["_law_script", "_law_k"] ["_law_script", "_law_k"] (defScope sPick) := ⟨rfl, rfl, rfl, by decide +kernel, rfl, by decide +kernel, by decide +kernel⟩
theorem ok_pick {dV : Value} (F : FunD K "_law_pick" "_law_pick" sPick dV f fd) : FnOk P w K mg base CX 1 f fd ["_law_script", "_law_k"] (spPick K) := by
  refine F.ok scPick (fun vs H Q E h => ?_) (fun cdv A outer s H vs Q E hr h => ?_)
  · obtain ⟨a, ns, j, k, rfl, _⟩ := h
    rfl
  obtain ⟨a, ns, _, k, rfl, rfl, hS, h63, q⟩ := h
  refine ⟨_, pss_one (ps_ret (pe_ix ix_list (pe_op op_cat (pe_slice sl_list (pv 0) (po_some (pv 1)) (po_some (pe_op op_add (pv 1) pe_int))) (pe_lst (pa_cons pe_int pa_nil))) pe_int (fun _ _ => rfl))), ?_⟩
  refine ⟨_, rfl, _, rfl, _, rfl, _, rfl, _, _, rfl, rfl, _, rfl, a, _, rfl, hS, fun p hp => ?_⟩
  refine ⟨by show 1 ≤ sizeLine; decide, fun p2 hp2 => ?_⟩
  have s1 := same_new hp (.lst (cutV (ns.map V.int) (some (k : Int)) (some ((k : Int) + 1))))
  have s2 := same_new hp2 (.lst [V.int 0])
  have hc := cutV_length (ns.map V.int) (some (k : Int)) (some ((k : Int) + 1))
  rw [List.length_map] at hc
  refine ⟨p, p2, _, _, rfl, rfl, s2 _ _ upd_same, upd_same, ?_, fun p3 hp3 => ?_⟩
  · have : sizeLine = 16777216 := sizeLine_eq
    simp only [List.length_cons, List.length_nil]; omega
  have s3 := same_new hp3 (.lst (cutV (ns.map V.int) (some (k : Int)) (some ((k : Int) + 1)) ++ [V.int 0]))
  refine ⟨p3, _, 0, _, rfl, rfl, SqL.of upd_same, pick_at ns k, q _ ((s1.trans s2).trans s3)⟩
abbrev sMix : Stmt := top 54
theorem scMix : FnScope ["_law_cell", "_law_prime", "_law_many_here", "_law_rest", "_law_number"] ["_law_cell", "_law_prime", "_law_many_here"] (defScope sMix) := ⟨rfl, rfl, rfl, by decide +kernel, rfl, by decide +kernel, by decide +kernel⟩
def spMix : Sp := fun vs H Q _ => ∃ c p m : Int, vs = [.int c, .int p, .int m] ∧ 0 ≤ p ∧ p < 1099511627776 ∧ 0 < m ∧ ∀ r : Int, 0 ≤ r → r < m → Q (.int r) H
theorem ok_mix {dV : Value} (F : FunD K "_law_mix" "_law_mix" sMix dV f fd) :
    FnOk P w K mg base CX 1 f fd ["_law_cell", "_law_prime", "_law_many_here"] spMix := by
  refine F.ok scMix (fun vs H Q E h => ?_) (fun cdv A outer s H vs Q E hr h => ?_)
  · obtain ⟨c, p, m, rfl, h0, h9, hm, q⟩ := h
    rfl
  obtain ⟨c, p, m, rfl, h0, h9, hm, q⟩ := h
  refine ⟨_, (pss_cons (ps_if (pt_cmpR op_ge (pv 0) (pe_op op_pow pe_int pe_int) (nomark _)) (pss_cons (ps_set (i := 3) scMix.nd rfl (Or.inl rfl) (pe_op op_shr (pv 0) (pe_op op_add pe_int (pe_op op_mul pe_int (pe_op op_mod (pv 1) pe_int)))))
    (pss_one (ps_if (pt_cmpR op_gt (pv 3) pe_int (nomark _)) (pss_one (ps_ret (pe_op op_modN (pv 3) (pv 2)))) pss_nil))) pss_nil)
    (pss_cons (ps_set (i := 4) scMix.nd rfl (Or.inl rfl) (pe_op op_mod (pe_op op_mulB (pe_op op_add (pe_op op_mod (pv 0) pe_int) pe_int) (pv 1)) pe_int))
    (pss_one (ps_ret (pe_op op_modN (pe_op op_mod (pe_op op_mulB (pv 4) (pe_op op_add (pv 4) (pv 1))) pe_int) (pv 2)))))), ?_⟩
  have hf : ∀ u : Int, 0 ≤ u.fmod m ∧ u.fmod m < m := fun u => ⟨Int.fmod_nonneg_of_pos u hm, Int.fmod_lt_of_pos u hm⟩
  have m0 : m ≠ 0 := by omega
  refine ⟨_, rfl, _, _, rfl, rfl, ⟨by decide, by decide, by decide⟩, _, _, rfl, rfl, _, rfl, ?_⟩
  have x1 := Int.emod_nonneg c (show (1000003 : Int) ≠ 0 by decide)
  have x2 := Int.emod_lt_of_pos c (show (0 : Int) < 1000003 by decide)
  have n1 : 0 ≤ (c % 1000003 + 1) * p % 999983 := Int.emod_nonneg _ (by decide)
  have n2 : (c % 1000003 + 1) * p % 999983 < 999983 := Int.emod_lt_of_pos _ (by decide)
  refine ite2 (fun _ => ?_) (fun _ => ?_)
  · have j1 := Int.emod_nonneg p (show (274 : Int) ≠ 0 by decide)
    refine ⟨_, rfl, _, rfl, _, _, rfl, rfl, (show (0 : Int) < 274 by decide), _, _, rfl, rfl, Or.inl ⟨by decide, by decide⟩, _, _, rfl, rfl, _, _, rfl, rfl, by omega, ?_⟩
    refine ⟨_, rfl, _, _, rfl, rfl, _, rfl, ite2 (fun _ => ?_) (fun _ => ?_)⟩
    · exact ⟨_, rfl, _, rfl, _, _, rfl, rfl, m0, q _ (hf _).1 (hf _).2⟩
    · refine ⟨_, rfl, _, _, rfl, rfl, (show (0 : Int) < 1000003 by decide), _, _, rfl, rfl, _, rfl, rd_mulB (n := 40) (m := 40) (B_of (by omega) (by omega)) (B_of (by omega) (by omega)) (by omega) (by omega) ⟨_, _, rfl, rfl, (show (0 : Int) < 999983 by decide), ?_⟩⟩
      refine ⟨_, rfl, _, rfl, _, rfl, _, _, rfl, rfl, rd_mulB (n := 41) (m := 41) (B_of (by omega) (by omega)) (B_of (by omega) (by omega)) (by omega) (by omega) ?_⟩
      exact ⟨_, _, rfl, rfl, (show (0 : Int) < 1000033 by decide), _, rfl, _, _, rfl, rfl, m0, q _ (hf _).1 (hf _).2⟩
  · refine ⟨_, rfl, _, _, rfl, rfl, (show (0 : Int) < 1000003 by decide), _, _, rfl, rfl, _, rfl, rd_mulB (n := 40) (m := 40) (B_of (by omega) (by omega)) (B_of (by omega) (by omega)) (by omega) (by omega) ⟨_, _, rfl, rfl, (show (0 : Int) < 999983 by decide), ?_⟩⟩
    refine ⟨_, rfl, _, rfl, _, rfl, _, _, rfl, rfl, rd_mulB (n := 41) (m := 41) (B_of (by omega) (by omega)) (B_of (by omega) (by omega)) (by omega) (by omega) ?_⟩
    exact ⟨_, _, rfl, rfl, (show (0 : Int) < 1000033 by decide), _, rfl, _, _, rfl, rfl, m0, q _ (hf _).1 (hf _).2⟩
theorem item26 {i : Nat} (h : i < 26) : ("abcdefghijklmnopqrstuvwxyz" : Str).cps[((i : Nat) : Int).toNat]? = some (97 + i) := by
  have : ∀ i : Fin 26, ("abcdefghijklmnopqrstuvwxyz" : Str).cps[((i.val : Nat) : Int).toNat]? = some (97 + i.val) := by decide +kernel
  exact this ⟨i, h⟩
def spLet : Sp := fun vs H Q _ => ∃ k : Nat, vs = [.int (k : Int)] ∧ k < 676 ∧ Q (.str (S (lt k))) H
abbrev sLet : Stmt := top 55
theorem scLet : FnScope ["_law_k"] ["_law_k"] (defScope sLet) := ⟨rfl, rfl, rfl, by decide +kernel, rfl, by decide +kernel, by decide +kernel⟩
theorem ok_let {dV : Value} (F : FunD K "_law_letter" "_law_letter" sLet dV f fd) :
    FnOk P w K mg base CX 1 f fd ["_law_k"] spLet := by
  refine F.ok scLet (fun vs H Q E h => ?_) (fun cdv A outer s H vs Q E hr h => ?_)
  · obtain ⟨k, rfl, hk, q⟩ := h
    rfl
  obtain ⟨k, rfl, hk, q⟩ := h
  have hz : sizeLine = 16777216 := sizeLine_eq
  have e26 : ("abcdefghijklmnopqrstuvwxyz" : Str).length = 26 := by decide +kernel
  have h1 : k % 26 < 26 := Nat.mod_lt _ (by decide)
  have h2 : k / 26 < 26 := by omega
  refine ⟨_, (pss_one (ps_ret (pe_op op_add_str (pe_item_str pe_str (pe_op op_mod (pv 0) pe_int) (fun _ _ => rfl)) (pe_item_str pe_str (pe_op op_fdiv (pv 0) pe_int) (fun _ _ => rfl))))), ?_⟩
  refine ⟨_, rfl, _, _, rfl, rfl, (show (0 : Int) < 26 by decide), ?_⟩
  have m1 : ((k : Int) % 26) = ((k % 26 : Nat) : Int) := by omega
  have m2 : ((k : Int) / 26) = ((k / 26 : Nat) : Int) := by omega
  dsimp only
  rw [m1]
  refine ⟨_, _, 97 + k % 26, rfl, rfl, by omega, by omega, by rw [e26]; omega, item26 h1, ?_⟩
  refine ⟨_, rfl, _, _, rfl, rfl, ⟨by decide, by decide⟩, ?_⟩
  dsimp only
  rw [m2]
  refine ⟨_, _, 97 + k / 26, rfl, rfl, by omega, by omega, by rw [e26]; omega, item26 h2, _, _, rfl, rfl, (by simp only [one_len]; omega), ?_⟩
  rw [← S1, ← S1, S_app]
  exact q
structure MC (K : PySem.W.Frag) (mg : Str → Option Value) (cl : Er → Addr) : Prop where
  x : ∀ e, ExcK K (cl e)
  mr : mg "NoRow" = some (.ref (cl .row))
  mm : mg "NoName" = some (.ref (cl .name))
  mu : mg "NoNumber" = some (.ref (cl .num))
  mz : mg "NoSize" = some (.ref (cl .size))
  mt : mg "TooMany" = some (.ref (cl .many))
  oe : ∃ CO, mg "OhmError" = some (.ref CO) ∧ ∀ e, PySem.W.exmOne K (.ref (cl e)) (.ref CO) = some true
  k : ∀ e e', e ≠ e' → PySem.W.kitOne K (.ref (cl e)) (.ref (cl e')) = some false
  a1 : PySem.W.kitAny K (.ref (cl .many)) [.ref (cl .name), .ref (cl .num), .ref (cl .row), .ref (cl .size)] = some false
  a2 : PySem.W.kitAny K (.ref (cl .name)) [.ref (cl .many), .ref (cl .num), .ref (cl .row), .ref (cl .size)] = some false
def erW : Er → Str
  | .row => "other"
  | .name => "name"
  | .num => "number"
  | .size => "size"
  | .many => "many"
def AftM (CY CP : Addr) (K : PySem.W.Frag) (av : List Addr) (y d : Addr) (H : Hp) (Q : VK) : Except Er YS → Prop
  | .ok Y' => ∀ H', SYd y d H H' → YG CY CP K av H' y d Y' → Q (.str "") H'
  | .error e => e ≠ .row ∧ ∀ H', Same H H' → Q (.str (erW e)) H'
def spManyL (CY CP : Addr) (K : PySem.W.Frag) : Sp := fun vs H Q _ => ∃ (av : List Addr) (y d : Addr) (Y : YS) (c : Nat) (ws : List (List Nat)), vs = [.ref y, .str (S (jnc 32 ws))] ∧ YG CY CP K av H y d Y ∧ WfY c Y ∧ c ≤ 390 ∧ TxOk ws ∧ AftM CY CP K av y d H Q (tV Y ws)
abbrev sManyL : Stmt := top 56
theorem scManyL : FnScope ["_law_yard", "_law_row", "_law_kept", "e"] ["_law_yard", "_law_row"] (defScope sManyL) := ⟨rfl, rfl, rfl, by decide +kernel, rfl, by decide +kernel, by decide +kernel⟩
theorem ok_manyl {dV : Value} (F : FunD K "_law_many" "_law_many" sManyL dV f fd)
    {CY CP : Addr} {cl : Er → Addr} (YTx : YaT K mg CY) (b : Bl mg) (c' : MC K mg cl)
    {gTe : Addr} {gdTe : FuncData} (GTe : FnOk P w K mg base (CX1 P w) 7 gTe gdTe ["self", "row"] (spTellG CY CP (cl .row) (cl .name) (cl .num) (cl .size) (cl .many) K)) (bTe : Binds K gdTe ["self", "row"] []) (mTe : Meth K CY "tell" gTe) :
    FnOk P w K mg base CX 8 f fd ["_law_yard", "_law_row"] (spManyL CY CP K) := by
  refine F.ok scManyL (fun vs H Q E h => ?_) (fun cdv A outer s H vs Q E hr h => ?_)
  · obtain ⟨av, y, d, Y, c, ws, rfl, G, W, hc, tx, q⟩ := h
    rfl
  obtain ⟨av, y, d, Y, c, ws, rfl, G, W, hc, tx, q⟩ := h
  obtain ⟨CO, mO, oe⟩ := c'.oe
  obtain ⟨dy, g, o, q', kvs, hy, _⟩ := id G
  refine ⟨_, (pss_cons (ps_set (i := 2) scManyL.nd rfl (Or.inl rfl) pe_non) (pss_cons (ps_try ⟨rfl, rfl, rfl⟩ (psxs_one (psx_expr (px_meth (pv 0) YTx.cl mTe GTe ⟨rfl, rfl, rfl⟩ hr bTe .nil (pa_cons (pv 1) pa_nil)))) pss_nil (ph_as (j := 3) ⟨rfl, rfl, rfl⟩ scManyL.nd rfl rfl rfl (.inl mO) (fun a => pss_one (ps_set (i := 2) scManyL.nd rfl (Or.inl rfl) (pv 3))) ph_never)) (pss_cons (ps_if (pt_cmp (pc_isN (pv 2))) (pss_one (ps_ret pe_str)) pss_nil) (pss_cons (ps_if (PW.pt (pw_and (pt_val (pe_callB call_isiE rfl b.isi PyProof.Rows.boot_isinstance (pa_cons (pv 2) (pa_cons (pe_cls rfl c'.mt) pa_nil)))) (pw_and1 (pt_not (pt_val (pe_callB call_isiXT rfl b.isi PyProof.Rows.boot_isinstance (pa_cons (pv 2) (pa_cons (pe_tup (pa_cons (pe_cls rfl c'.mm) (pa_cons (pe_cls rfl c'.mu) (pa_cons (pe_cls rfl c'.mr) (pa_cons (pe_cls rfl c'.mz) pa_nil))))) pa_nil)))))))) (pss_one (ps_ret pe_str)) pss_nil) (pss_cons (ps_if (PW.pt (pw_and (pt_val (pe_callB call_isiE rfl b.isi PyProof.Rows.boot_isinstance (pa_cons (pv 2) (pa_cons (pe_cls rfl c'.mu) pa_nil)))) (pw_and1 (pt_not (pt_val (pe_callB call_isiE rfl b.isi PyProof.Rows.boot_isinstance (pa_cons (pv 2) (pa_cons (pe_cls rfl c'.mt) pa_nil)))))))) (pss_one (ps_ret pe_str)) pss_nil) (pss_cons (ps_if (PW.pt (pw_and (pt_val (pe_callB call_isiE rfl b.isi PyProof.Rows.boot_isinstance (pa_cons (pv 2) (pa_cons (pe_cls rfl c'.mz) pa_nil)))) (pw_and1 (pt_not (pt_val (pe_callB call_isiE rfl b.isi PyProof.Rows.boot_isinstance (pa_cons (pv 2) (pa_cons (pe_cls rfl c'.mt) pa_nil)))))))) (pss_one (ps_ret pe_str)) pss_nil) (pss_cons (ps_if (PW.pt (pw_and (pt_val (pe_callB call_isiE rfl b.isi PyProof.Rows.boot_isinstance (pa_cons (pv 2) (pa_cons (pe_cls rfl c'.mm) pa_nil)))) (pw_and1 (pt_not (pt_val (pe_callB call_isiXT rfl b.isi PyProof.Rows.boot_isinstance (pa_cons (pv 2) (pa_cons (pe_tup (pa_cons (pe_cls rfl c'.mt) (pa_cons (pe_cls rfl c'.mu) (pa_cons (pe_cls rfl c'.mr) (pa_cons (pe_cls rfl c'.mz) pa_nil))))) pa_nil)))))))) (pss_one (ps_ret pe_str)) pss_nil) (pss_one (ps_ret pe_str))))))))), ?_⟩
  refine ⟨_, rfl, y, dy, _, rfl, hy, (by with_unfolding_all rfl), _, rfl, y, _, rfl, .inr ⟨av, d, Y, ws, rfl, tx.s32, tx.ln, tx.jl, Nat.le_trans tx.wl (by omega), G, SmY.of W (by omega), tell_of W tx.ne tx.wl tx.bd ?_⟩⟩
  cases e : tV Y ws with
  | ok Y' =>
    rw [e] at q
    intro H1 s1 G1
    exact ⟨_, rfl, _, rfl, iteT (q H1 s1 G1)⟩
  | error er =>
    rw [e] at q
    obtain ⟨nr, q⟩ := q
    intro H1 s1 a ha
    cases er
    · exact absurd rfl nr
    · refine ⟨true, oe .name, ?_⟩
      rw [if_pos rfl]
      refine ⟨_, rfl, ?_⟩
      have sa := same_new ha (excO a (.ref (ErX (cl .row) (cl .name) (cl .num) (cl .size) (cl .many) .name)) none)
      have ea : upd H1 a (excO a (.ref (ErX (cl .row) (cl .name) (cl .num) (cl .size) (cl .many) .name)) none) a = some (excO a (.ref (cl .name)) none) := upd_same
      generalize upd H1 a (excO a (.ref (ErX (cl .row) (cl .name) (cl .num) (cl .size) (cl .many) .name)) none) = H2 at sa ea ⊢
      refine ⟨_, rfl, _, rfl, iteF ?_⟩
      refine ⟨_, rfl, .inl ⟨a, cl .name, _, _, false, rfl, ea, c'.x .name, rfl, fun _ h => h, c'.k .name .many (fun z => by cases z), _, rfl, iteF ?_⟩⟩
      refine ⟨_, rfl, .inl ⟨a, cl .name, _, _, false, rfl, ea, c'.x .name, rfl, fun _ h => h, c'.k .name .num (fun z => by cases z), _, rfl, iteF ?_⟩⟩
      refine ⟨_, rfl, .inl ⟨a, cl .name, _, _, false, rfl, ea, c'.x .name, rfl, fun _ h => h, c'.k .name .size (fun z => by cases z), _, rfl, iteF ?_⟩⟩
      refine ⟨_, rfl, .inl ⟨a, cl .name, _, _, true, rfl, ea, c'.x .name, rfl, fun _ h => h, kit_self K (cl .name), _, rfl, iteT ⟨_, rfl, by show 4 ≤ sizeLine; decide, fun p2 hp2 => ?_⟩⟩⟩
      have s2 := same_new hp2 (.tup [.ref (cl .many), .ref (cl .num), .ref (cl .row), .ref (cl .size)])
      refine ⟨a, cl .name, p2, [cl .many, cl .num, cl .row, cl .size], false, rfl, s2 _ _ ea, c'.x .name, upd_same, c'.a2, _, rfl, iteT ?_⟩
      exact q _ (s1.trans (sa.trans s2))
    · refine ⟨true, oe .num, ?_⟩
      rw [if_pos rfl]
      refine ⟨_, rfl, ?_⟩
      have sa := same_new ha (excO a (.ref (ErX (cl .row) (cl .name) (cl .num) (cl .size) (cl .many) .num)) none)
      have ea : upd H1 a (excO a (.ref (ErX (cl .row) (cl .name) (cl .num) (cl .size) (cl .many) .num)) none) a = some (excO a (.ref (cl .num)) none) := upd_same
      generalize upd H1 a (excO a (.ref (ErX (cl .row) (cl .name) (cl .num) (cl .size) (cl .many) .num)) none) = H2 at sa ea ⊢
      refine ⟨_, rfl, _, rfl, iteF ?_⟩
      refine ⟨_, rfl, .inl ⟨a, cl .num, _, _, false, rfl, ea, c'.x .num, rfl, fun _ h => h, c'.k .num .many (fun z => by cases z), _, rfl, iteF ?_⟩⟩
      refine ⟨_, rfl, .inl ⟨a, cl .num, _, _, true, rfl, ea, c'.x .num, rfl, fun _ h => h, kit_self K (cl .num), _, rfl, iteT ?_⟩⟩
      refine ⟨_, rfl, .inl ⟨a, cl .num, _, _, false, rfl, ea, c'.x .num, rfl, fun _ h => h, c'.k .num .many (fun z => by cases z), _, rfl, iteT ?_⟩⟩
      exact q _ (s1.trans sa)
    · refine ⟨true, oe .size, ?_⟩
      rw [if_pos rfl]
      refine ⟨_, rfl, ?_⟩
      have sa := same_new ha (excO a (.ref (ErX (cl .row) (cl .name) (cl .num) (cl .size) (cl .many) .size)) none)
      have ea : upd H1 a (excO a (.ref (ErX (cl .row) (cl .name) (cl .num) (cl .size) (cl .many) .size)) none) a = some (excO a (.ref (cl .size)) none) := upd_same
      generalize upd H1 a (excO a (.ref (ErX (cl .row) (cl .name) (cl .num) (cl .size) (cl .many) .size)) none) = H2 at sa ea ⊢
      refine ⟨_, rfl, _, rfl, iteF ?_⟩
      refine ⟨_, rfl, .inl ⟨a, cl .size, _, _, false, rfl, ea, c'.x .size, rfl, fun _ h => h, c'.k .size .many (fun z => by cases z), _, rfl, iteF ?_⟩⟩
      refine ⟨_, rfl, .inl ⟨a, cl .size, _, _, false, rfl, ea, c'.x .size, rfl, fun _ h => h, c'.k .size .num (fun z => by cases z), _, rfl, iteF ?_⟩⟩
      refine ⟨_, rfl, .inl ⟨a, cl .size, _, _, true, rfl, ea, c'.x .size, rfl, fun _ h => h, kit_self K (cl .size), _, rfl, iteT ?_⟩⟩
      refine ⟨_, rfl, .inl ⟨a, cl .size, _, _, false, rfl, ea, c'.x .size, rfl, fun _ h => h, c'.k .size .many (fun z => by cases z), _, rfl, iteT ?_⟩⟩
      exact q _ (s1.trans sa)
    · refine ⟨true, oe .many, ?_⟩
      rw [if_pos rfl]
      refine ⟨_, rfl, ?_⟩
      have sa := same_new ha (excO a (.ref (ErX (cl .row) (cl .name) (cl .num) (cl .size) (cl .many) .many)) none)
      have ea : upd H1 a (excO a (.ref (ErX (cl .row) (cl .name) (cl .num) (cl .size) (cl .many) .many)) none) a = some (excO a (.ref (cl .many)) none) := upd_same
      generalize upd H1 a (excO a (.ref (ErX (cl .row) (cl .name) (cl .num) (cl .size) (cl .many) .many)) none) = H2 at sa ea ⊢
      refine ⟨_, rfl, _, rfl, iteF ?_⟩
      refine ⟨_, rfl, .inl ⟨a, cl .many, _, _, true, rfl, ea, c'.x .many, rfl, fun _ h => h, kit_self K (cl .many), _, rfl, iteT ⟨_, rfl, by show 4 ≤ sizeLine; decide, fun p2 hp2 => ?_⟩⟩⟩
      have s2 := same_new hp2 (.tup [.ref (cl .name), .ref (cl .num), .ref (cl .row), .ref (cl .size)])
      refine ⟨a, cl .many, p2, [cl .name, cl .num, cl .row, cl .size], false, rfl, s2 _ _ ea, c'.x .many, upd_same, c'.a1, _, rfl, iteT ?_⟩
      exact q _ (s1.trans (sa.trans s2))
def uvw : List (List Nat) := [[117], [118], [119]]
def LF (k o : Nat) : List Str := [S [120], S [121]] ++ (uvw.take (min k o)).map S
def pF (k o : Nat) : List Nat := if k < o then uvw.getD k [] else [121]
theorem LF_step : ∀ o : Fin 4, ∀ k : Fin 6, lp2 (LF k.val o.val) [120] (pF k.val o.val) = LF (k.val + 1) o.val ∧ (pF k.val o.val = [121] ∨ pF k.val o.val ∈ uvw) ∧ (LF (k.val + 1) o.val).length ≤ 5 := by decide +kernel
def Y1 (P : PD) : YS := ⟨⟨[], 0, [], []⟩, [], some (S (lt 0), P)⟩
theorem row1_is (k : Kd) (b : List Nat) : k.wd ++ " x " ++ S b ++ " 1" = S (jnc 32 [wdC k, [120], b, [49]]) := by
  rw [← wdC_S k, show (" x " : Str) = S [32, 120, 32] by decide +kernel, show (" 1" : Str) = S [32, 49] by decide +kernel]
  simp only [S_app]
  congr 1
  simp only [jnc, List.append_assoc, List.cons_append, List.nil_append]
theorem at3 {r : Int} (h0 : 0 ≤ r) (h3 : r < 3) : ∃ k : Kd, atI [V.str "piece", .str "push", .str "hold"] r = some (.str k.wd) := by
  have : r = 0 ∨ r = 1 ∨ r = 2 := by omega
  rcases this with rfl | rfl | rfl
  · exact ⟨.pc, rfl⟩
  · exact ⟨.pu, rfl⟩
  · exact ⟨.ho, rfl⟩
theorem atF {k o : Nat} (hk : k < 6) (ho : o ≤ 3) : atI [V.str "y", .str "u", .str "v", .str "w"] ((if (o : Int) < (k : Int) + 1 then (o : Int) else (k : Int) + 1) * (if decide ((k : Int) < (o : Int)) = true then 1 else 0)) = some (.str (S (pF k o))) := by
  by_cases h : k < o
  · rw [if_neg (by omega), if_pos (decide_eq_true (show (k : Int) < (o : Int) by omega)), Int.mul_one]
    have : k = 0 ∨ k = 1 ∨ k = 2 := by omega
    unfold pF
    rw [if_pos h]
    rcases this with rfl | rfl | rfl
    · show some (V.str "u") = some (V.str (S [117])); rw [show ("u" : Str) = S [117] by decide +kernel]
    · show some (V.str "v") = some (V.str (S [118])); rw [show ("v" : Str) = S [118] by decide +kernel]
    · show some (V.str "w") = some (V.str (S [119])); rw [show ("w" : Str) = S [119] by decide +kernel]
  · rw [if_neg (show ¬ decide ((k : Int) < (o : Int)) = true by rw [decide_eq_true_eq]; omega), Int.mul_zero]
    unfold pF
    rw [if_neg h]
    show some (V.str "y") = some (V.str (S [121])); rw [show ("y" : Str) = S [121] by decide +kernel]
theorem tx_row1 {k : Kd} {b : List Nat} (hb : 32 ∉ b ∧ 10 ∉ b ∧ b.length ≤ 28) {a t : List Nat} (ha : 32 ∉ a ∧ 10 ∉ a ∧ a.length ≤ 28) (ht : 32 ∉ t ∧ 10 ∉ t ∧ t.length ≤ 28) : TxOk [wdC k, a, b, t] := by
  refine tx_row fun z hz => ?_
  simp only [List.mem_cons, List.not_mem_nil, or_false] at hz
  rcases hz with rfl | rfl | rfl
  · exact ha
  · exact hb
  · exact ht
theorem uvw_ok : ∀ b ∈ uvw, nmB b = true ∧ 32 ∉ b ∧ 10 ∉ b ∧ b.length ≤ 28 := by decide
theorem pF_ok {k o : Nat} (hk : k < 6) (ho : o ≤ 3) : nmB (pF k o) = true ∧ 32 ∉ pF k o ∧ 10 ∉ pF k o ∧ (pF k o).length ≤ 28 := by
  rcases (LF_step ⟨o, by omega⟩ ⟨k, hk⟩).2.1 with h | h
  · rw [show pF k o = [121] from h]; decide
  · exact uvw_ok _ h
theorem first_row {P : PD} {k o : Nat} {kd : Kd} (hk : k < 6) (ho : o ≤ 3) (hl : P.ls = LF k o) (hd : P.ds.length = k) : ∃ P', tV (Y1 P) [wdC kd, [120], pF k o, [49]] = .ok (Y1 P') ∧ P'.ls = LF (k + 1) o ∧ P'.ds.length = k + 1 ∧ P'.e = P.e ∧ P'.pn = P.pn := by
  obtain ⟨st, _, l5⟩ := LF_step ⟨o, by omega⟩ ⟨k, hk⟩
  have st : lp2 (LF k o) [120] (pF k o) = LF (k + 1) o := st
  have l5 : (LF (k + 1) o).length ≤ 5 := l5
  have el : (addRow P kd [120] (pF k o) (1, 1)).ls = LF (k + 1) o := by
    show lp2 P.ls [120] (pF k o) = _
    rw [hl, st]
  have ed : (addRow P kd [120] (pF k o) (1, 1)).ds.length = k + 1 := by
    show (P.ds ++ [_]).length = _
    rw [List.length_append, hd]; rfl
  refine ⟨addRow P kd [120] (pF k o) (1, 1), ?_, el, ed, rfl, rfl⟩
  refine (tV_row.trans (rowV_ok (Y := Y1 P) (p := (1, 1)) (by rw [(pF_ok hk ho).1]; decide) (wr1 (d := 1) (by decide)) (ok_all (by decide)) ?_)).trans rfl
  show fits (addRow P kd [120] (pF k o) (1, 1))
  exact ⟨by rw [el]; omega, by rw [ed]; omega⟩
theorem SYd.trans {y d : Addr} {H H1 H2 : Hp} (a : SYd y d H H1) (b : SYd y d H1 H2) : SYd y d H H2 := fun x o h n1 n2 => b x o (a x o h n1 n2) n1 n2
def spFirst (CY CP : Addr) (K : PySem.W.Frag) : Sp := fun vs H Q _ => ∃ (y d : Addr) (c : Int), vs = [.ref y, .int c] ∧ YG CY CP K [] H y d Y0 ∧ ∀ (tt : Addr) (P : PD) (r o : Nat) (H' : Hp), SYd y d H H' → YG CY CP K [] H' y d ⟨⟨[], 0, [], []⟩, [(S (lt 0), P)], none⟩ → WfY 10 ⟨⟨[], 0, [], []⟩, [(S (lt 0), P)], none⟩ → SqT K H' tt [.int (r : Int), .int (o : Int)] → P.e = 2 → P.ls.length = 2 + o → P.ds.length = r → Q (.ref tt) H'
abbrev sFirst : Stmt := top 57
theorem scFirst : FnScope ["_law_yard", "_law_cell", "_law_rows", "_law_own", "_law_k", "_law_point"] ["_law_yard", "_law_cell"] (defScope sFirst) := ⟨rfl, rfl, rfl, by decide +kernel, rfl, by decide +kernel, by decide +kernel⟩
theorem ok_first {dV : Value} (F : FunD K "_law_first" "_law_first" sFirst dV f fd)
    {CY CP : Addr} {cl : Er → Addr} (YTx : YaT K mg CY) (mr : mg "range" = none) (mmi : mg "min" = none) (b : Bl mg)
    {gTe : Addr} {gdTe : FuncData} (GTe : FnOk P w K mg base (CX1 P w) 7 gTe gdTe ["self", "row"] (spTellG CY CP (cl .row) (cl .name) (cl .num) (cl .size) (cl .many) K)) (bTe : Binds K gdTe ["self", "row"] []) (mTe : Meth K CY "tell" gTe)
    (G1 : FnOk P w K mg base CX0 1 g1 gd1 ["_law_cell", "_law_prime", "_law_many_here"] spMix) (b1 : Binds K gd1 ["_law_cell", "_law_prime", "_law_many_here"] []) (k1 : PySem.W.keepIn K (.ref g1) = true) (m1 : mg "_law_mix" = some (.ref g1)) :
    FnOk P w K mg base CX 8 f fd ["_law_yard", "_law_cell"] (spFirst CY CP K) := by
  refine F.ok scFirst (fun vs H Q E h => ?_) (fun cdv A outer s H vs Q E hr h => ?_)
  · obtain ⟨y, d, c, rfl, G, q⟩ := h
    rfl
  obtain ⟨y, d, c, rfl, G, q⟩ := h
  have hz : sizeLine = 16777216 := sizeLine_eq
  have r1 := hr.mono (show 1 ≤ 7 by omega)
  have r7 := hr
  refine ⟨_, (pss_cons (ps_set (i := 2) scFirst.nd rfl (Or.inl rfl) (pe_op op_add pe_int (pe_call G1 r1 rfl m1 k1 b1 .nil pass0 (pa_cons (pv 1) (pa_cons pe_int (pa_cons pe_int pa_nil))))))
    (pss_cons (ps_set (i := 3) scFirst.nd rfl (Or.inl rfl) (pe_callB (call_min2 rfl) rfl mmi PyProof.Rows.boot_min (pa_cons (pe_call G1 r1 rfl m1 k1 b1 .nil pass0 (pa_cons (pv 1) (pa_cons pe_int (pa_cons pe_int pa_nil)))) (pa_cons (pv 2) pa_nil))))
    (pss_cons (ps_expr (pe_meth (pv 0) YTx.cl mTe GTe.calm r7 bTe .nil pass0 (pa_cons pe_str pa_nil)))
    (pss_cons (ps_for PassesOwn.never rfl (pi_range1 rfl mr (pa_cons (pv 2) pa_nil)) (pg_name (i := 4) scFirst.nd rfl (Or.inl rfl))
      (pss_cons (ps_set (i := 5) scFirst.nd rfl (Or.inl rfl) (pe_ix ix_list (pe_lst (pa_cons pe_str (pa_cons pe_str (pa_cons pe_str (pa_cons pe_str pa_nil))))) (pe_op op_mulB (pe_callB (call_min2 rfl) rfl mmi PyProof.Rows.boot_min (pa_cons (pe_op op_add (pv 4) pe_int) (pa_cons (pv 3) pa_nil))) (pe_callTy call_int1 rfl b.int PyProof.Rows.boot_int (pa_cons (pe_cmpR op_lt (pv 4) (pv 3) (nomark _)) pa_nil))) (fun _ _ => rfl)))
    (pss_one (ps_expr (pe_meth (pv 0) YTx.cl mTe GTe.calm r7 bTe .nil pass0 (pa_cons (pe_op op_add_str (pe_op op_add_str (pe_op op_add_str (pe_ix ix_list (pe_lst (pa_cons pe_str (pa_cons pe_str (pa_cons pe_str pa_nil)))) (pe_call G1 r1 rfl m1 k1 b1 .nil pass0 (pa_cons (pv 1) (pa_cons (pe_op op_add pe_int (pe_op op_mul pe_int (pv 4))) (pa_cons pe_int pa_nil)))) (fun _ _ => rfl)) pe_str) (pv 5)) pe_str) pa_nil))))))
    (pss_cons (ps_expr (pe_meth (pv 0) YTx.cl mTe GTe.calm r7 bTe .nil pass0 (pa_cons pe_str pa_nil)))
    (pss_one (ps_ret (pe_tup (pa_cons (pv 2) (pa_cons (pv 3) pa_nil)))))))))), ?_⟩
  refine cut2 (fun σ H' => ∃ (r o : Nat), σ = [some (.ref y), some (.int c), some (.int (r : Int)), some (.int (o : Int)), none, none] ∧ H' = H ∧ 1 ≤ r ∧ r ≤ 6 ∧ o ≤ 3 ∧ o ≤ r) (fun X hX => ?_) ?_
  · refine ⟨_, rfl, c, 48271, 6, rfl, by decide, by decide, by decide, fun mm m0 m6 => ⟨_, _, rfl, rfl, ?_⟩⟩
    obtain ⟨r, hr'⟩ : ∃ r : Nat, 1 + mm = (r : Int) := ⟨(1 + mm).toNat, by omega⟩
    show gName 2 (.int (1 + mm)) _ _ _
    rw [hr']
    refine ⟨_, rfl, c, 69621, 4, rfl, by decide, by decide, by decide, fun w w0 w4 => ⟨_, rfl, w, (r : Int), rfl, ?_⟩⟩
    obtain ⟨o, ho⟩ : ∃ o : Nat, (if (r : Int) < w then (r : Int) else w) = (o : Int) := ⟨(if (r : Int) < w then (r : Int) else w).toNat, by split <;> omega⟩
    rw [ho]
    exact hX _ _ ⟨r, o, rfl, rfl, by omega, by omega, by split at ho <;> omega, by split at ho <;> omega⟩
  rintro σ H' ⟨r, o, rfl, rfl, r1', r6, o3, or'⟩
  have hyn : ∀ {H : Hp} {Y : YS}, YG CY CP K [] H y d Y → ∃ dy fs, H y = some (.ins CY dy fs) := fun G => let ⟨dy, _, _, _, _, hy, _⟩ := G; ⟨dy, _, hy⟩
  obtain ⟨dyZ, gZ, oZ, qZ, kvsZ, hyZ, _, hdZ, _⟩ := id G
  have e1 : ("part aa x y" : Str) = S (jnc 32 [[112, 97, 114, 116], lt 0, [120], [121]]) := by decide +kernel
  have tx1 : TxOk [[112, 97, 114, 116], lt 0, [120], [121]] := tx_of (by simp) (by decide) (by decide)
  have t1 : tV Y0 [[112, 97, 114, 116], lt 0, [120], [121]] = .ok (Y1 ⟨[S [120], S [121]], 2, [], []⟩) := tV_part.trans (begV_ok rfl (by decide) (by decide +kernel) (fun z => by cases z) (by show 0 < 20; decide) (by show 2 ≤ 20; decide))
  refine ⟨_, rfl, y, dyZ, _, rfl, hyZ, (by with_unfolding_all rfl), ?_⟩
  rw [e1]
  dsimp only [tCons, tC, tNil]; change spTellG CY CP (cl .row) (cl .name) (cl .num) (cl .size) (cl .many) K [.ref y, .str _] _ _ _
  refine tell_ok G wf0 (by omega) tx1 t1 (fun H1 s1 G1 => ?_)
  have W1 := tV_wf wf0 tx1.ne tx1.bd t1
  refine ⟨_, rfl, (r : Int), rfl, by omega, by omega, ?_⟩
  refine for_range (n := r) (fun i σ Hq => ∃ (P : PD) (z4 z5 : Option V), σ = [some (.ref y), some (.int c), some (.int (r : Int)), some (.int (o : Int)), z4, z5] ∧ SYd y d H' Hq ∧ YG CY CP K [] Hq y d (Y1 P) ∧ WfY (1 + i) (Y1 P) ∧ P.ls = LF i o ∧ P.ds.length = i ∧ P.e = 2 ∧ P.pn = []) ⟨_, none, none, rfl, s1, G1, W1, by unfold LF; rw [Nat.zero_min]; rfl, rfl, rfl, rfl⟩ ?_ ?_
  · rintro i σ Ha hi ⟨P, z4, z5, rfl, sy, Ga, Wa, hl, hdl, hPe, hPn⟩
    rw [Int.zero_add]
    refine ⟨by show 4 ≤ sizeLine; decide, fun L hL => ?_⟩
    have sb := same_new hL (.lst [V.str "y", .str "u", .str "v", .str "w"])
    have eb : upd Ha L (.lst [V.str "y", .str "u", .str "v", .str "w"]) L = some (.lst [V.str "y", .str "u", .str "v", .str "w"]) := upd_same
    generalize upd Ha L (.lst [V.str "y", .str "u", .str "v", .str "w"]) = Hb at sb eb ⊢
    have hmn : ∃ mn : Int, (if (o : Int) < (i : Int) + 1 then (o : Int) else (i : Int) + 1) = mn ∧ 0 ≤ mn ∧ mn ≤ 10 := ⟨_, rfl, by split <;> omega, by split <;> omega⟩
    have aF := atF (k := i) (o := o) (by omega) o3
    obtain ⟨mn, hmn, mn0, mn9⟩ := hmn
    rw [hmn] at aF
    refine ⟨_, rfl, _, _, rfl, rfl, _, rfl, _, _, rfl, ?_⟩
    simp only [hmn]
    refine ⟨_, rfl, _, rfl, _, _, rfl, rfl, .inr ⟨_, rfl, rd_mulB (n := 10) (m := 10) (B_of (by omega) (by omega)) (B_of (by split <;> omega) (by split <;> omega)) (by omega) (by omega) ⟨L, _, _, _, rfl, rfl, SqL.of eb, aF, ?_⟩⟩⟩
    obtain ⟨dyN, gN, oN, qN, kvsN, hyN, _, hdN, _⟩ := id (Ga.same sb)
    refine ⟨_, rfl, y, dyN, _, rfl, hyN, (by with_unfolding_all rfl), by show 3 ≤ sizeLine; decide, fun M hM => ?_⟩
    have sc := same_new hM (.lst [V.str "piece", .str "push", .str "hold"])
    have ec : upd Hb M (.lst [V.str "piece", .str "push", .str "hold"]) M = some (.lst [V.str "piece", .str "push", .str "hold"]) := upd_same
    generalize upd Hb M (.lst [V.str "piece", .str "push", .str "hold"]) = Hc at sc ec ⊢
    have p0 : (0 : Int) ≤ 16807 + 1000 * (i : Int) := by omega
    refine ⟨_, rfl, _, rfl, _, _, rfl, rfl, Or.inl ⟨by decide, by decide⟩, _, _, rfl, rfl, c, _, 3, rfl, p0, by omega, by decide, fun w w0 w3 => ?_⟩
    obtain ⟨kd, ek⟩ := at3 w0 w3
    obtain ⟨pn1, pn2, pn3, pn4⟩ := pF_ok (k := i) (o := o) (by omega) o3
    have kl : kd.wd.length ≤ 5 := by cases kd <;> decide +kernel
    have lx : (" x " : Str).length = 3 := by decide +kernel
    have l1 : (" 1" : Str).length = 2 := by decide +kernel
    refine ⟨M, _, w, _, rfl, rfl, SqL.of ec, ek, _, _, rfl, rfl, (by simp only [lx]; omega), _, rfl, _, _, rfl, rfl, (by simp only [len2, S_len, lx]; omega), _, _, rfl, rfl, (by simp only [len2, S_len, lx, l1]; omega), ?_⟩
    rw [row1_is]
    dsimp only [tCons, tC, tNil]; change spTellG CY CP (cl .row) (cl .name) (cl .num) (cl .size) (cl .many) K [.ref y, .str _] _ _ _
    obtain ⟨P', t', hl', hd', he', hn'⟩ := first_row (kd := kd) (show i < 6 by omega) o3 hl hdl
    have tx' : TxOk [wdC kd, [120], pF i o, [49]] := tx_row1 ⟨pn2, pn3, pn4⟩ (by decide) (by decide)
    refine tell_ok (Ga.same (sb.trans sc)) Wa (by omega) tx' t' (fun H5 s5 G5 => ?_)
    exact ⟨P', _, _, rfl, fun b o h n1 n2 => s5 _ _ ((sb.trans sc) _ _ (sy b o h n1 n2)) n1 n2, G5, (by have := tV_wf Wa tx'.ne tx'.bd t'; rw [show 1 + i + 1 = 1 + (i + 1) by omega] at this; exact this), hl', hd', by rw [he']; exact hPe, by rw [hn']; exact hPn⟩
  · rintro σ Ha ⟨P, z4, z5, rfl, sy, Ga, Wa, hl, hdl, hPe, hPn⟩
    obtain ⟨dyN, gN, oN, qN, kvsN, hyN, _, hdN, _⟩ := id Ga
    have e2 : ("done" : Str) = S (jnc 32 [[100, 111, 110, 101]]) := by decide +kernel
    have tx2 : TxOk [[100, 111, 110, 101]] := tx_of (by simp) (by decide) (by decide)
    have t2 : tV (Y1 P) [[100, 111, 110, 101]] = .ok ⟨⟨[], 0, [], []⟩, [(S (lt 0), P)], none⟩ := tV_done.trans rfl
    refine ⟨_, rfl, y, dyN, _, rfl, hyN, (by with_unfolding_all rfl), ?_⟩
    rw [e2]
    dsimp only [tCons, tC, tNil]; change spTellG CY CP (cl .row) (cl .name) (cl .num) (cl .size) (cl .many) K [.ref y, .str _] _ _ _
    refine tell_ok Ga Wa (by omega) tx2 t2 (fun H5 s5 G5 => ?_)
    have W5 := tV_wf Wa tx2.ne tx2.bd t2
    refine ⟨_, rfl, _, rfl, by show 2 ≤ sizeLine; decide, fun tt htt => ?_⟩
    have st := same_new htt (.tup [V.int (r : Int), .int (o : Int)])
    refine q tt P r o _ (fun b o h n1 n2 => st _ _ (s5 _ _ (sy b o h n1 n2) n1 n2)) (G5.same st) (W5.mono (by omega)) (SqT.of upd_same) hPe ?_ hdl
    rw [hl]
    unfold LF
    rw [List.length_append, List.length_map, List.length_take, Nat.min_eq_right or']
    show 2 + min o 3 = 2 + o
    omega
end
end K85

set_option Elab.async false
set_option linter.all false
set_option maxRecDepth 100000
set_option maxHeartbeats 4000000
namespace K85
open PySem L2 Tx
section
variable {P : Program} {w : World} {K : PySem.W.Frag} {mg : Str → Option Value} {base : Heap} {f g1 g2 g3 g4 g5 g6 g7 g8 : Addr} {fd gd1 gd2 gd3 gd4 gd5 gd6 gd7 gd8 : FuncData} {CX : CXT}
theorem nw11 : ¬ ∃ p, Wr p [49, 47, 49] := fun ⟨p, wr⟩ => by
  obtain ⟨f, a, b⟩ := wr_fine wr
  have e1 : p.1 = 1 := by rw [← a]; decide
  have e2 : p.2 = 1 := by rw [← b]; decide
  have t := wr.txt
  unfold shw at t
  rw [if_pos e2, e1] at t
  revert t
  decide
theorem nwx : ¬ ∃ p, Wr p [120] := no_wr (.inl (fun h => by have := h.1.2.2 120 (by decide); omega))
theorem keep_cur {Y : YS} {P : PD} : (Y.keep P).cur = P := by
  unfold YS.keep
  cases e : Y.op with
  | none => unfold YS.cur; simp only [e]
  | some q => unfold YS.cur; rfl
theorem keep_keep {Y : YS} {P Q : PD} : (Y.keep P).keep Q = Y.keep Q := by
  cases e : Y.op with
  | none => rw [keep_gr e, keep_gr (Y := { Y with gr := P }) e, keep_gr e]
  | some q => rw [keep_op e, keep_op (Y := { Y with op := some (q.1, P) }) rfl, keep_op e]
theorem keep_pa {Y : YS} {P : PD} : (Y.keep P).pa = Y.pa := by unfold YS.keep; cases Y.op <;> rfl
theorem row_same {Y : YS} {k : Kd} {a b t : List Nat} {p : Mq.Q2} (na : nmB a = true) (nb : nmB b = true) (ha : S a ∈ Y.cur.ls) (hb : S b ∈ Y.cur.ls) (wr : Wr p t) (ok : okz k (some p) = true) (l20 : Y.cur.ls.length ≤ 20) :
    (addRow Y.cur k a b p).ls = Y.cur.ls ∧ (addRow Y.cur k a b p).ds.length = Y.cur.ds.length + 1 ∧ (Y.cur.ds.length < 40 → tV Y [wdC k, a, b, t] = .ok (Y.keep (addRow Y.cur k a b p))) ∧ (40 ≤ Y.cur.ds.length → tV Y [wdC k, a, b, t] = .error .many) := by
  have e : (addRow Y.cur k a b p).ls = Y.cur.ls := by
    show lput (lput Y.cur.ls (S a)) (S b) = _
    rw [show lput Y.cur.ls (S a) = Y.cur.ls from if_pos ha, show lput Y.cur.ls (S b) = Y.cur.ls from if_pos hb]
  have ed : (addRow Y.cur k a b p).ds.length = Y.cur.ds.length + 1 := by
    show (Y.cur.ds ++ [_]).length = _
    rw [List.length_append]; rfl
  refine ⟨e, ed, fun h => ?_, fun h => ?_⟩
  · exact tV_row.trans (rowV_ok (p := p) (by rw [na, nb]; rfl) wr ok ⟨by rw [e]; exact l20, by rw [ed]; omega⟩)
  · refine tV_row.trans ?_
    unfold rowV
    rw [if_neg (by rw [na, nb]; exact fun z => by cases z), rdV_some wr]
    dsimp only
    rw [if_neg (by rw [ok]; exact fun z => by cases z)]
    unfold fitV
    rw [if_neg (fun f => by have := f.2; rw [ed] at this; omega)]
theorem row_num {Y : YS} {k : Kd} {a b t : List Nat} (na : nmB a = true) (nb : nmB b = true) (h : ¬ ∃ p, Wr p t) : tV Y [wdC k, a, b, t] = .error .num := by
  refine tV_row.trans ?_
  unfold rowV
  rw [if_neg (by rw [na, nb]; exact fun z => by cases z), rdV_none h]
theorem row_size {Y : YS} {a b : List Nat} (na : nmB a = true) (nb : nmB b = true) : tV Y [wdC .pc, a, b, [48]] = .error .size := by
  refine tV_row.trans ?_
  unfold rowV
  rw [if_neg (by rw [na, nb]; exact fun z => by cases z), rdV_some (wr1 (d := 0) (by decide))]
  rfl
theorem two_is (k : Kd) (a b t : List Nat) (pre post : Str) (h1 : pre = S (wdC k ++ [32])) (h2 : post = S (32 :: t)) : pre ++ S (a ++ 32 :: b) ++ post = S (jnc 32 [wdC k, a, b, t]) := by
  rw [h1, h2, S_app, S_app]
  congr 1
  simp only [jnc, List.append_assoc, List.cons_append, List.nil_append]
structure Nm (a : List Nat) : Prop where
  n : nmB a = true
  s : 32 ∉ a
  t : 10 ∉ a
  l : a.length ≤ 8
theorem lt_nm {k : Nat} (h : k < 676) : Nm (lt k) := by
  obtain ⟨a, b, c, e, _⟩ := lt_ok h
  exact ⟨a, b, c, by omega⟩
def spFull (CY CP : Addr) (K : PySem.W.Frag) : Sp := fun vs H Q _ => ∃ (av : List Addr) (y d : Addr) (Y : YS) (c r : Nat) (a b : List Nat), vs = [.ref y, .str (S (a ++ 32 :: b)), .int (r : Int)] ∧ YG CY CP K av H y d Y ∧ WfY c Y ∧ c ≤ 300 ∧ Nm a ∧ Nm b ∧ S a ∈ Y.cur.ls ∧ S b ∈ Y.cur.ls ∧ Y.cur.ds.length = r ∧ r ≤ 40 ∧
  ∀ (P' : PD) (H' : Hp), SYd y d H H' → YG CY CP K av H' y d (Y.keep P') → WfY (c + 40) (Y.keep P') → P'.ls = Y.cur.ls → P'.ds.length = 40 → P'.e = Y.cur.e → P'.pn = Y.cur.pn → Q (.bl true) H'
theorem keep_self {Y : YS} : Y.keep Y.cur = Y := by
  cases e : Y.op with
  | none =>
    rw [keep_gr e]
    have : Y.cur = Y.gr := by unfold YS.cur; rw [e]
    rw [this]
  | some q =>
    rw [keep_op e]
    have : Y.cur = q.2 := by unfold YS.cur; rw [e]
    rw [this]
    cases Y with
    | mk gr pa op => dsimp only at e ⊢; rw [e]
abbrev sFull : Stmt := top 58
theorem scFull : FnScope ["_law_yard", "_law_two", "_law_rows", "_law_k"] ["_law_yard", "_law_two", "_law_rows"] (defScope sFull) := ⟨rfl, rfl, rfl, by decide +kernel, rfl, by decide +kernel, by decide +kernel⟩
theorem ok_full {dV : Value} (F : FunD K "_law_full" "_law_full" sFull dV f fd)
    {CY CP : Addr} (mr : mg "range" = none)
    (G1 : FnOk P w K mg base CX0 8 g1 gd1 ["_law_yard", "_law_row"] (spManyL CY CP K)) (b1 : Binds K gd1 ["_law_yard", "_law_row"] []) (k1 : PySem.W.keepIn K (.ref g1) = true) (m1 : mg "_law_many" = some (.ref g1)) :
    FnOk P w K mg base CX 9 f fd ["_law_yard", "_law_two", "_law_rows"] (spFull CY CP K) := by
  refine F.ok scFull (fun vs H Q E h => ?_) (fun cdv A outer s H vs Q E hr h => ?_)
  · obtain ⟨av, y, d, Y, c, r, a, b, rfl, G, W, hc, na, nb, ha, hb, hd, h40, q⟩ := h
    rfl
  obtain ⟨av, y, d, Y, c, r, a, b, rfl, G, W, hc, na, nb, ha, hb, hd, h40, q⟩ := h
  have hz : sizeLine = 16777216 := sizeLine_eq
  have la := na.l
  have lb := nb.l
  have tx : ∀ {k : Kd} {t : List Nat}, 32 ∉ t ∧ 10 ∉ t ∧ t.length ≤ 28 → TxOk [wdC k, a, b, t] := fun ht => tx_row1 ⟨nb.s, nb.t, by omega⟩ ⟨na.s, na.t, by omega⟩ ht
  have l20 : Y.cur.ls.length ≤ 20 := W.cur.l20
  refine ⟨_, (pss_cons (ps_for PassesOwn.never rfl (pi_range2 rfl mr (pa_cons (pv 2) (pa_cons pe_int pa_nil))) (pg_name (i := 3) scFull.nd rfl (Or.inl rfl))
      (pss_one (ps_if (pt_cmpR op_ne (pe_call G1 hr rfl m1 k1 b1 .nil pass0 (pa_cons (pv 0) (pa_cons (pe_op op_add_str (pe_op op_add_str pe_str (pv 1)) pe_str) pa_nil))) pe_str (nomark _)) (pss_one (ps_ret pe_bl)) pss_nil)))
    (pss_cons (ps_if (PW.pt (pw_or (pt_cmpR op_ne (pe_call G1 hr rfl m1 k1 b1 .nil pass0 (pa_cons (pv 0) (pa_cons (pe_op op_add_str (pe_op op_add_str pe_str (pv 1)) pe_str) pa_nil))) pe_str (nomark _)) (pw_or1 (pt_cmpR op_ne (pe_call G1 hr rfl m1 k1 b1 .nil pass0 (pa_cons (pv 0) (pa_cons (pe_op op_add_str (pe_op op_add_str pe_str (pv 1)) pe_str) pa_nil))) pe_str (nomark _))))) (pss_one (ps_ret pe_bl)) pss_nil)
    (pss_one (ps_ret (pe_cmpR op_eq (pe_call G1 hr rfl m1 k1 b1 .nil pass0 (pa_cons (pv 0) (pa_cons (pe_op op_add_str (pe_op op_add_str pe_str (pv 1)) pe_str) pa_nil))) pe_str (nomark _)))))), ?_⟩
  refine ⟨_, rfl, (r : Int), 40, rfl, ⟨by omega, by omega, by decide, by decide⟩, ?_⟩
  rw [show ((40 : Int) - (r : Int)).toNat = 40 - r by omega]
  refine for_range (n := 40 - r) (fun i σ H' => ∃ (P' : PD) (z3 : Option V), σ = [some (.ref y), some (.str (S (a ++ 32 :: b))), some (.int (r : Int)), z3] ∧ SYd y d H H' ∧ YG CY CP K av H' y d (Y.keep P') ∧ WfY (c + i) (Y.keep P') ∧ P'.ls = Y.cur.ls ∧ P'.ds.length = r + i ∧ P'.e = Y.cur.e ∧ P'.pn = Y.cur.pn) ⟨Y.cur, none, rfl, fun b o h _ _ => h, (by rw [keep_self]; exact G), (by rw [keep_self]; exact W), rfl, hd, rfl, rfl⟩ ?_ ?_
  · rintro i σ Ha hi ⟨P', z3, rfl, sa, Ga, Wa, el, ed, ee, en⟩
    refine ⟨_, rfl, _, rfl, _, _, rfl, rfl, (by simp only [len2, S_len, List.length_append, List.length_cons]; have : ("push " : Str).length = 5 := (by decide +kernel); omega), _, _, rfl, rfl, (by simp only [len2, S_len, List.length_append, List.length_cons]; have : ("push " : Str).length = 5 := (by decide +kernel); have : (" 1" : Str).length = 2 := (by decide +kernel); omega), ?_⟩
    rw [two_is .pu a b [49] _ _ (by decide +kernel) (by decide +kernel)]
    obtain ⟨e1, e2, e3, _⟩ := row_same (Y := Y.keep P') (k := .pu) na.n nb.n (by rw [keep_cur, el]; exact ha) (by rw [keep_cur, el]; exact hb) (wr1 (d := 1) (by decide)) (ok_all (by decide)) (by rw [keep_cur, el]; exact l20)
    rw [keep_cur] at e1 e2 e3
    have e3 := e3 (by omega)
    rw [keep_keep] at e3
    have tx1 : TxOk [wdC .pu, a, b, [49]] := tx (by decide)
    refine ⟨av, y, d, _, c + i, [wdC .pu, a, b, [49]], rfl, Ga, Wa, by omega, tx1, ?_⟩
    rw [e3]
    intro Hb sb Gb
    refine ⟨rfl, _, rfl, L2.ifF (by decide) ?_⟩
    exact ⟨_, _, rfl, SYd.trans sa sb, Gb, tV_wf Wa tx1.ne tx1.bd e3, e1.trans el, by rw [e2, ed]; omega, ee, en⟩
  · rintro σ Ha ⟨P', z3, rfl, sa, Ga, Wa, el, ed, ee, en⟩
    have ed : P'.ds.length = 40 := by omega
    refine ⟨_, rfl, _, rfl, _, _, rfl, rfl, (by simp only [len2, S_len, List.length_append, List.length_cons]; have : ("push " : Str).length = 5 := (by decide +kernel); omega), _, _, rfl, rfl, (by simp only [len2, S_len, List.length_append, List.length_cons]; have : ("push " : Str).length = 5 := (by decide +kernel); have : (" 1/1" : Str).length = 4 := (by decide +kernel); omega), ?_⟩
    rw [two_is .pu a b [49, 47, 49] _ _ (by decide +kernel) (by decide +kernel)]
    refine ⟨av, y, d, _, c + (40 - r), [wdC .pu, a, b, [49, 47, 49]], rfl, Ga, Wa, by omega, tx (by decide), ?_⟩
    rw [row_num na.n nb.n nw11]
    refine ⟨(fun z => by cases z), fun Hb sb => ⟨rfl, _, rfl, L2.ifF (by decide) ?_⟩⟩
    refine ⟨_, rfl, _, rfl, _, _, rfl, rfl, (by simp only [len2, S_len, List.length_append, List.length_cons]; have : ("piece " : Str).length = 6 := (by decide +kernel); omega), _, _, rfl, rfl, (by simp only [len2, S_len, List.length_append, List.length_cons]; have : ("piece " : Str).length = 6 := (by decide +kernel); have : (" 0" : Str).length = 2 := (by decide +kernel); omega), ?_⟩
    rw [two_is .pc a b [48] _ _ (by decide +kernel) (by decide +kernel)]
    refine ⟨av, y, d, _, c + (40 - r), [wdC .pc, a, b, [48]], rfl, Ga.same sb, Wa, by omega, tx (by decide), ?_⟩
    rw [row_size na.n nb.n]
    refine ⟨(fun z => by cases z), fun Hc sc => ⟨rfl, _, rfl, L2.ifF (by decide) ?_⟩⟩
    refine ⟨_, rfl, _, rfl, _, _, rfl, rfl, (by simp only [len2, S_len, List.length_append, List.length_cons]; have : ("hold " : Str).length = 5 := (by decide +kernel); omega), _, _, rfl, rfl, (by simp only [len2, S_len, List.length_append, List.length_cons]; have : ("hold " : Str).length = 5 := (by decide +kernel); have : (" 0" : Str).length = 2 := (by decide +kernel); omega), ?_⟩
    rw [two_is .ho a b [48] _ _ (by decide +kernel) (by decide +kernel)]
    obtain ⟨_, _, _, e4⟩ := row_same (Y := Y.keep P') (k := .ho) na.n nb.n (by rw [keep_cur, el]; exact ha) (by rw [keep_cur, el]; exact hb) (wr1 (d := 0) (by decide)) (by decide) (by rw [keep_cur, el]; exact l20)
    rw [keep_cur] at e4
    refine ⟨av, y, d, _, c + (40 - r), [wdC .ho, a, b, [48]], rfl, Ga.same (sb.trans sc), Wa, by omega, tx (by decide), ?_⟩
    rw [e4 (by omega)]
    refine ⟨(fun z => by cases z), fun He se => ⟨rfl, ?_⟩⟩
    have sAe := sb.trans (sc.trans se)
    exact q P' He (fun b o h n1 n2 => sAe _ _ (sa b o h n1 n2)) (Ga.same sAe) (Wa.mono (by omega)) el ed ee en
theorem put_cases {Y : YS} {P Q : PD} {n : List Nat} {s1 s2 nm : List Nat} (hc : Y.cur = P) (nn : nmB n = true) (n1 : nmB nm = true) (b1 : nmB s1 = true) (b2 : nmB s2 = true) (np : S n ∉ P.pn) (hP : partOf Y.pa (S nm) = some Q) (qe : Q.e = 2) :
    (fits (addPut P n [s1, s2] Q) → tV Y [[112, 117, 116], n, nm, s1, s2] = .ok (Y.keep (addPut P n [s1, s2] Q))) ∧ (¬ fits (addPut P n [s1, s2] Q) → tV Y [[112, 117, 116], n, nm, s1, s2] = .error .many) := by
  subst hc
  have al : (n :: nm :: [s1, s2]).all nmB = true := by simp only [List.all_cons, List.all_nil, Bool.and_true, nn, n1, b1, b2]
  refine ⟨fun f => tV_put.trans (putV_ok al np hP qe.symm f), fun f => tV_put.trans ?_⟩
  unfold putV
  rw [if_neg (by rw [al]; exact fun z => by cases z), if_neg np, hP]
  dsimp only
  rw [if_neg (fun z => z qe.symm)]
  unfold fitV
  rw [if_neg f]
def sp3 : List (List Nat) := [[120], [121], [109]]
theorem sp3_ok : ∀ s ∈ sp3, nmB s = true ∧ 32 ∉ s ∧ 10 ∉ s ∧ s.length ≤ 28 := by decide
theorem sp3_or {s : List Nat} (h : s ∈ sp3) : s = [120] ∨ s = [121] ∨ s = [109] := by
  unfold sp3 at h
  simpa using h
theorem at_xym {r : Int} (h0 : 0 ≤ r) (h3 : r < 3) : ∃ s ∈ sp3, atI [V.str "x", .str "y", .str "m"] r = some (.str (S s)) := by
  have : r = 0 ∨ r = 1 ∨ r = 2 := by omega
  rcases this with rfl | rfl | rfl
  · exact ⟨[120], by decide, by show some (V.str "x") = some (V.str (S [120])); rw [show ("x" : Str) = S [120] by decide +kernel]⟩
  · exact ⟨[121], by decide, by show some (V.str "y") = some (V.str (S [121])); rw [show ("y" : Str) = S [121] by decide +kernel]⟩
  · exact ⟨[109], by decide, by show some (V.str "m") = some (V.str (S [109])); rw [show ("m" : Str) = S [109] by decide +kernel]⟩
theorem put_is (n nm s1 s2 : List Nat) : ("put " : Str) ++ S n ++ " " ++ S nm ++ " " ++ Str.join " " [S s1, S s2] = S (jnc 32 [[112, 117, 116], n, nm, s1, s2]) := by
  have e3 : (" " : Str) = ⟨#[32]⟩ := by decide +kernel
  have e4 := S_jnc 32 [s1, s2]
  rw [show ([s1, s2] : List (List Nat)).map S = [S s1, S s2] from rfl, ← e3] at e4
  rw [e4, show ("put " : Str) = S [112, 117, 116, 32] by decide +kernel, show (" " : Str) = S [32] by decide +kernel]
  simp only [S_app]
  congr 1
  simp only [jnc, List.append_assoc, List.cons_append, List.nil_append]
theorem jn2_len (s1 s2 : List Nat) : (Str.join " " [S s1, S s2]).length = s1.length + s2.length + 1 := by
  have e3 : (" " : Str) = ⟨#[32]⟩ := by decide +kernel
  have e4 := S_jnc 32 [s1, s2]
  rw [show ([s1, s2] : List (List Nat)).map S = [S s1, S s2] from rfl, ← e3] at e4
  rw [e4, S_len]
  simp only [jnc, List.length_append, List.length_cons]
  omega
theorem put_tx {n nm s1 s2 : List Nat} (hn : Nm n) (hm : Nm nm) (h1 : s1 ∈ sp3) (h2 : s2 ∈ sp3) : TxOk [[112, 117, 116], n, nm, s1, s2] := by
  refine tx_of (by simp) (fun z hz => ?_) (by show 5 ≤ 10; decide)
  simp only [List.mem_cons, List.not_mem_nil, or_false] at hz
  have := hn.l
  have := hm.l
  rcases hz with rfl | rfl | rfl | rfl | rfl
  · decide
  · exact ⟨hn.s, hn.t, by omega⟩
  · exact ⟨hm.s, hm.t, by omega⟩
  · exact ⟨(sp3_ok _ h1).2.1, (sp3_ok _ h1).2.2.1, (sp3_ok _ h1).2.2.2⟩
  · exact ⟨(sp3_ok _ h2).2.1, (sp3_ok _ h2).2.2.1, (sp3_ok _ h2).2.2.2⟩
structure QV (Q : PD) (r q : Nat) : Prop where
  e : Q.e = 2
  nd : Q.ls.Nodup
  l : Q.ls.length = 2 + q
  d : Q.ds.length = r
  l20 : Q.ls.length ≤ 20
  d40 : Q.ds.length ≤ 40
def SYp (y d p : Addr) (H H' : Hp) : Prop := ∀ b o, H b = some o → b ≠ y → b ≠ d → b ≠ p → H' b = some o
theorem PV.fits {P : PD} {n rows come : Nat} {hm : Bool} (h : PV P n hm rows come) : fits P ↔ n ≤ 20 ∧ rows ≤ 40 := by
  unfold K85.fits
  rw [h.len, h.ds]
def spPuts (CY CP : Addr) (K : PySem.W.Frag) : Sp := fun vs H Q _ => ∃ (y d sz pt : Addr) (Y : YS) (cc : Int) (j w m r q n : Nat) (hm : Bool) (nO : Str) (P Q' : PD) (ps : List Str), vs = [.ref y, .int cc, .str (S (lt j)), .int (m : Int), .ref sz, .ref pt] ∧ j < 676 ∧ m ≤ 3 ∧ YG CY CP K [pt] H y d Y ∧ Y.op = some (nO, P) ∧ WfY w Y ∧ w ≤ 300 ∧ PV P n hm 0 0 ∧ partOf Y.pa (S (lt j)) = some Q' ∧ QV Q' r q ∧ SqT K H sz [.int (r : Int), .int (q : Int)] ∧ H pt = some (.lst (ps.map V.str)) ∧ ps.length = n ∧ (S [109] ∈ ps ↔ hm = true) ∧
  ∀ (P' : PD) (n' rows come : Nat) (hm' : Bool) (ps' : List Str) (H' : Hp), SYp y d pt H H' → YG CY CP K [pt] H' y d (Y.keep P') → WfY (w + m) (Y.keep P') → PV P' n' hm' rows come → rows ≤ 40 → n' ≤ 20 → P'.e = P.e → H' pt = some (.lst (ps'.map V.str)) → ps'.length = n' → Q (.int (rows : Int)) H'
theorem nd_prime_k_cell : (["_law_prime", "_law_k", "_law_cell"] : List Str).Nodup := by decide +kernel
theorem nd_one_spots_points : (["_law_one", "_law_spots", "_law_points"] : List Str).Nodup := by decide +kernel
theorem nd_j_come : (["_law_j", "_law_come"] : List Str).Nodup := by decide +kernel
theorem YG.av {CY CP : Addr} {K : PySem.W.Frag} {av : List Addr} {H : Hp} {y d r : Addr} {Y : YS} {us us' : List V} (hr : H r = some (.lst us)) (hin : r ∈ av) (h : YG CY CP K av H y d Y) : YG CY CP K av (upd H r (.lst us')) y d Y := by
  obtain ⟨dy, g, o, q, kvs, hy, hg, hd, hp, ho, ha⟩ := h
  have far : ∀ b o, H b = some o → b ≠ r → upd H r (.lst us') b = some o := fun b o h n => by rw [upd_ne n]; exact h
  have m : ∀ g P, PlOk CP K av H g P → PlOk CP K av (upd H r (.lst us')) g P := fun g P h => by
    obtain ⟨l, t, p, es, ⟨⟨dg, hg⟩, hl, ht, hp, n1, n2, n3⟩, hR, x1, x2, x3⟩ := h
    exact ⟨l, t, p, es, ⟨⟨dg, far _ _ hg (ne_of hg hr (fun z => by cases z))⟩, far _ _ hl (fun z => x1 (z ▸ hin)), far _ _ ht (fun z => x2 (z ▸ hin)), far _ _ hp (fun z => x3 (z ▸ hin)), n1, n2, n3⟩, Rts.upd hr hR, x1, x2, x3⟩
  refine ⟨dy, g, o, q, kvs, far _ _ hy (ne_of hy hr (fun z => by cases z)), m _ _ hg, far _ _ hd (ne_of hd hr (fun z => by cases z)), hp.imp m, ho.imp m, fun a hin z => ?_⟩
  by_cases h : a = r
  · rw [h, upd_same] at z; cases z
  · rw [upd_ne h] at z; exact ha a hin z
theorem ix_listK {X : Cx} {K : PySem.W.Frag} (h : X.K = K) : IxR X (rIxL K) := by subst h; exact ix_list
theorem op_notIn_seqK {X : Cx} {K : PySem.W.Frag} (h : X.K = K) : OpR X (compareOp .NotIn) (rIn K true) := by subst h; exact op_notIn_seq
theorem op_in_seqK {X : Cx} {K : PySem.W.Frag} (h : X.K = K) : OpR X (compareOp .In) (rIn K false) := by subst h; exact op_in_seq
def mres (s : List (List Nat)) (hm : Bool) : List Str := if [109] ∈ s ∧ hm = false then [S [109]] else []
theorem mres_len (s : List (List Nat)) (hm : Bool) : (mres s hm).length = mo s hm := by unfold mres mo; split <;> rfl
theorem mo_le (s : List (List Nat)) (hm : Bool) : mo s hm ≤ 1 := by unfold mo; split <;> omega
theorem mem_S {s1 s2 : List Nat} : S [109] ∈ [S s1, S s2] ↔ [109] ∈ [s1, s2] := by
  simp only [List.mem_cons, List.not_mem_nil, or_false, S_inj]
theorem mres_mem {s : List (List Nat)} {hm : Bool} : S [109] ∈ mres s hm ↔ [109] ∈ s ∧ hm = false := by
  unfold mres
  split <;> rename_i h
  · exact ⟨fun _ => h, fun _ => by simp⟩
  · exact ⟨(fun z => by cases z), fun z => absurd z h⟩
abbrev sPuts : Stmt := top 59
theorem scPuts : FnScope ["_law_yard", "_law_cell", "_law_name", "_law_many_here", "_law_sizes", "_law_points", "_law_rows", "_law_come", "_law_k", "_law_spots", "_law_more", "_law_built", "_law_due"] ["_law_yard", "_law_cell", "_law_name", "_law_many_here", "_law_sizes", "_law_points"] (defScope sPuts) := ⟨rfl, rfl, rfl, by decide +kernel, rfl, by decide +kernel, by decide +kernel⟩
theorem ok_puts {dV : Value} (F : FunD K "_law_puts" "_law_puts" sPuts dV f fd)
    {CY CP : Addr} (mr : mg "range" = none) (ml : mg "len" = none) (ms : mg "str" = none) (nd : PySem.W.nsIn K cStatics "sys.int_max_str_digits" = some none)
    (G1 : FnOk P w K mg base CX0 1 g1 gd1 ["_law_cell", "_law_prime", "_law_many_here"] spMix) (b1 : Binds K gd1 ["_law_cell", "_law_prime", "_law_many_here"] []) (k1 : PySem.W.keepIn K (.ref g1) = true) (m1 : mg "_law_mix" = some (.ref g1))
    (G2 : FnOk P w K mg base CX0 8 g2 gd2 ["_law_yard", "_law_row"] (spManyL CY CP K)) (b2 : Binds K gd2 ["_law_yard", "_law_row"] []) (k2 : PySem.W.keepIn K (.ref g2) = true) (m2 : mg "_law_many" = some (.ref g2))
    (G3 : FnOk P w K mg base CX0 1 g3 gd3 ["_law_k"] spLet) (b3 : Binds K gd3 ["_law_k"] []) (k3 : PySem.W.keepIn K (.ref g3) = true) (m3 : mg "_law_letter" = some (.ref g3)) :
    FnOk P w K mg base CX 9 f fd ["_law_yard", "_law_cell", "_law_name", "_law_many_here", "_law_sizes", "_law_points"] (spPuts CY CP K) := by
  refine F.ok scPuts (fun vs H Q E h => ?_) (fun cdv A outer s H vs Q E hr h => ?_)
  · obtain ⟨y, d, sz, pt, Y, cc, j, w, m, r, q, n, hm, nO, P, Q', ps, rfl, hj, hm3, G, op, W, hw, pvh, hP, qv, hsz, hpt, pl, pm, qq⟩ := h
    rfl
  obtain ⟨y, d, sz, pt, Y, cc, j, w, m, r, q, n, hm, nO, P, Q', ps, rfl, hj, hm3, G, op, W, hw, pvh, hP, qv, hsz, hpt, pl, pm, qq⟩ := h
  have hz : sizeLine = 16777216 := sizeLine_eq
  have r1 := hr.mono (show 1 ≤ 8 by omega)
  have e1s : (" " : Str).length = 1 := by decide +kernel
  have e4s : ("put " : Str).length = 4 := by decide +kernel
  have nmj := lt_nm hj
  refine ⟨_, (pss_cons (ps_set (i := 6) scPuts.nd rfl (Or.inl rfl) pe_int)
    (pss_cons (ps_set (i := 7) scPuts.nd rfl (Or.inr rfl) pe_int)
    (pss_cons (ps_for PassesOwn.never rfl (pi_range1 rfl mr (pa_cons (pv 3) pa_nil)) (pg_name (i := 8) scPuts.nd rfl (Or.inr rfl))
      (pss_cons (ps_set (i := 9) scPuts.nd rfl (Or.inr rfl) (pe_comp (nl := 1) (fr := [8, 1]) (Nc := ["_law_prime", "_law_k", "_law_cell"]) (cl := [("_law_k", s.heap.objs.size + 4), ("_law_cell", s.heap.objs.size + 1)]) rfl ⟨rfl, rfl, by decide +kernel, by decide +kernel, (sub_cons rfl (sub_cons rfl (sub_nil))), has_of rfl, rfl, fun i n h => match i, h with | 0, h => by cases h; exact ⟨8, rfl, rfl, rfl, rfl, .inl rfl⟩ | 1, h => by cases h; exact ⟨1, rfl, rfl, rfl, rfl, .inl rfl⟩ | k + 2, h => by rw [show 1 + (k + 2) = k + 3 by omega] at h; cases h⟩
        (pi_list (pe_lst (pa_cons pe_int (pa_cons pe_int pa_nil)))) (fun C s3 H3 fp pins => (pg_name (i := 0) nd_prime_k_cell rfl (Or.inl rfl))) (fun C s3 H3 fp pins => pif_nil)
        (fun C s3 H3 fp pins => (pe_ix (ix_listK (K := K) rfl) (pe_lst (pa_cons pe_str (pa_cons pe_str (pa_cons pe_str pa_nil)))) (pe_call G1 r1 rfl m1 k1 b1 .nil pass0 (pa_cons (pv 2) (pa_cons (pe_op op_add (pv 0) (pe_op op_mul pe_int (pv 1))) (pa_cons pe_int pa_nil)))) (fun _ _ => rfl)))))
    (pss_cons (ps_setC (i := 10) (nl := 1) (fr := [9, 5]) (Nc := ["_law_one", "_law_spots", "_law_points"]) (cl := [("_law_spots", s.heap.objs.size + 5), ("_law_points", s.heap.objs.size + 2)]) scPuts.nd rfl rfl rfl ⟨rfl, rfl, by decide +kernel, by decide +kernel, (sub_cons rfl (sub_cons rfl (sub_nil))), has_of rfl, rfl, fun i n h => match i, h with | 0, h => by cases h; exact ⟨9, rfl, rfl, rfl, rfl, .inl rfl⟩ | 1, h => by cases h; exact ⟨5, rfl, rfl, rfl, rfl, .inl rfl⟩ | k + 2, h => by rw [show 1 + (k + 2) = k + 3 by omega] at h; cases h⟩
        (pi_list (pe_lst (pa_cons pe_str pa_nil))) (fun C s3 H3 fp pins => (pg_name (i := 0) nd_one_spots_points rfl (Or.inl rfl))) (fun C s3 H3 fp pins => (pif_one (PW.pt (pw_and (pt_cmpR (op_in_seqK (K := K) rfl) (pv 0) (pv 1) rfl) (pw_and1 (pt_cmpR (op_notIn_seqK (K := K) rfl) (pv 0) (pv 2) rfl))))))
        (fun C s3 H3 fp pins => (pv 0)) rfl)
    (pss_cons (ps_set (i := 11) scPuts.nd rfl (Or.inl rfl) (pe_op op_add (pe_op op_add (pe_callB call_len_seq rfl ml PySem.boot_len (pa_cons (pv 5) pa_nil)) (pe_callB call_len_seq rfl ml PySem.boot_len (pa_cons (pv 10) pa_nil))) (pe_ix ix_tup (pv 4) pe_int (fun _ _ => rfl))))
    (pss_cons (ps_set (i := 12) scPuts.nd rfl (Or.inl rfl) pe_str)
    (pss_cons (ps_if (PW.pt (pw_or (pt_cmpR op_gt (pv 11) pe_int (nomark _)) (pw_or1 (pt_cmpR op_gt (pe_op op_add (pv 6) (pe_ix ix_tup (pv 4) pe_int (fun _ _ => rfl))) pe_int (nomark _))))) (pss_one (ps_set (i := 12) scPuts.nd rfl (Or.inl rfl) pe_str)) pss_nil)
    (pss_cons (ps_if (pt_cmpR op_ne (pe_call G2 hr rfl m2 k2 b2 .nil pass0 (pa_cons (pv 0) (pa_cons (pe_op op_add_str (pe_op op_add_str (pe_op op_add_str (pe_op op_add_str (pe_op op_add_str pe_str (pe_call G3 r1 rfl m3 k3 b3 .nil pass0 (pa_cons (pv 7) pa_nil))) pe_str) (pv 2)) pe_str) (pe_bm PySem.F.plainAttrs_str PySem.F.slot_str_join PySem.F.type_str_join mt_join pe_str (pa_cons (pv 9) pa_nil))) pa_nil))) (pv 12) (nomark _)) (pss_one (ps_ret pe_non)) pss_nil)
    (pss_one (ps_if (pt_cmpR op_eq (pv 12) pe_str (nomark _)) (pss_cons (ps_expr (pe_bm PySem.F.plainAttrs_list PySem.F.slot_list_extend PySem.F.type_list_extend mt_extend (pv 5) (pa_cons (pe_op op_cat (pv 10) (pe_comp (nl := 1) (fr := [7]) (Nc := ["_law_j", "_law_come"]) (cl := [("_law_come", s.heap.objs.size + 3)]) rfl ⟨rfl, rfl, by decide +kernel, by decide +kernel, (sub_cons rfl (sub_nil)), has_of rfl, rfl, fun i n h => match i, h with | 0, h => by cases h; exact ⟨7, rfl, rfl, rfl, rfl, .inl rfl⟩ | k + 1, h => by rw [show 1 + (k + 1) = k + 2 by omega] at h; cases h⟩
        (pi_range1 rfl mr (pa_cons (pe_ix ix_tup (pv 4) pe_int (fun _ _ => rfl)) pa_nil)) (fun C s3 H3 fp pins => (pg_name (i := 0) nd_j_come rfl (Or.inl rfl))) (fun C s3 H3 fp pins => pif_nil)
        (fun C s3 H3 fp pins => (pe_op op_add_str (pe_call G3 r1 rfl m3 k3 b3 .nil pass0 (pa_cons (pv 1) pa_nil)) (pe_callTy (call_strB rfl nd) rfl ms PyProof.Rows.boot_str (pa_cons (pv 0) pa_nil)))))) pa_nil)))
    (pss_cons (ps_set (i := 6) scPuts.nd rfl (Or.inl rfl) (pe_op op_add (pv 6) (pe_ix ix_tup (pv 4) pe_int (fun _ _ => rfl))))
    (pss_one (ps_set (i := 7) scPuts.nd rfl (Or.inr rfl) (pe_op op_add (pv 7) pe_int))))) pss_nil)))))))))
    (pss_one (ps_ret (pv 6)))))), ?_⟩
  have cP : Y.cur = P := by unfold YS.cur; rw [op]
  have kP : Y.keep P = Y := by rw [← cP]; exact keep_self
  have n20 : n ≤ 20 := by rw [← pvh.len]; have := W.cur.l20; rw [cP] at this; exact this
  refine ⟨_, rfl, (m : Int), rfl, by omega, by omega, ?_⟩
  refine for_range (n := m) (fun i σ H' => ∃ (P' : PD) (n' rows come : Nat) (hm' : Bool) (ps' : List Str) (z8 z9 z10 z11 z12 : Option V), σ = [some (.ref y), some (.int cc), some (.str (S (lt j))), some (.int (m : Int)), some (.ref sz), some (.ref pt), some (.int (rows : Int)), some (.int (come : Int)), z8, z9, z10, z11, z12] ∧ SYp y d pt H H' ∧ YG CY CP K [pt] H' y d (Y.keep P') ∧ WfY (w + i) (Y.keep P') ∧ PV P' n' hm' rows come ∧ rows ≤ 40 ∧ n' ≤ 20 ∧ P'.e = P.e ∧ H' pt = some (.lst (ps'.map V.str)) ∧ ps'.length = n' ∧ (S [109] ∈ ps' ↔ hm' = true) ∧ SqT K H' sz [.int (r : Int), .int (q : Int)] ∧ come ≤ i) ⟨P, n, 0, 0, hm, ps, none, none, none, none, none, rfl, fun b o h _ _ _ => h, (by rw [kP]; exact G), (by rw [kP]; exact W), pvh, by omega, n20, rfl, hpt, pl, pm, hsz, by omega⟩ ?_ ?_
  · rintro i σ Ha hi ⟨P', n', rows, come, hm', ps', z8, z9, z10, z11, z12, rfl, sa, Ga, Wa, pva, r40, n20', ea, hpa, pla, pma, sza, ci⟩
    rw [Int.zero_add]
    have ql := qv.l
    have q20 := qv.l20
    have qd := qv.d40
    refine cut3 (fun σ H' => ∃ (s1 s2 : List Nat) (T1 T2 : Addr), s1 ∈ sp3 ∧ s2 ∈ sp3 ∧ σ = [some (.ref y), some (.int cc), some (.str (S (lt j))), some (.int (m : Int)), some (.ref sz), some (.ref pt), some (.int (rows : Int)), some (.int (come : Int)), some (.int (i : Int)), some (.ref T1), some (.ref T2), some (.int ((n' + mo [s1, s2] hm' + q : Nat) : Int)), z12] ∧ Same Ha H' ∧ H' T1 = some (.lst ([S s1, S s2].map V.str)) ∧ H' T2 = some (.lst ((mres [s1, s2] hm').map V.str)) ∧ Ha T1 = none ∧ Ha T2 = none) (fun X hX => ?_) ?_
    · refine ⟨by show 2 ≤ sizeLine; decide, fun L hL => ?_⟩
      have sb := same_new hL (.lst [.int 39373, .int 30269])
      have eb : upd Ha L (.lst [.int 39373, .int 30269]) L = some (.lst [.int 39373, .int 30269]) := upd_same
      generalize upd Ha L (.lst [.int 39373, .int 30269]) = Hb at sb eb ⊢
      refine ⟨L, rfl, ⟨_, SqL.of eb⟩, fun T1 hT1 => ?_⟩
      have sT := same_new hT1 (.lst [])
      refine comp_list (xs := [.int 39373, .int 30269]) (fun k zs H' => Same Hb H' ∧ H' T1 = some (.lst zs) ∧ ∃ tt : List (List Nat), tt.length = k ∧ (∀ t ∈ tt, t ∈ sp3) ∧ zs = tt.map fun t => V.str (S t)) ⟨sT, upd_same, [], rfl, fun t ht => (by cases ht), rfl⟩ (fun k zs H' h => h.2.1) (fun k zs H' _ h => h.1.seq (SqL.of eb)) ?_ ?_
      · rintro k zs x Hc hx ⟨sc, ec, tt, hk, h3, rfl⟩ C hC
        have k2' : k < 2 := (List.getElem?_eq_some_iff.mp hx).1
        obtain ⟨pr, rfl, p0, p9⟩ : ∃ pr : Int, x = .int pr ∧ 0 ≤ pr ∧ pr < 100000 := by
          have := List.mem_of_getElem? hx
          simp only [List.mem_cons, List.not_mem_nil, or_false] at this
          rcases this with rfl | rfl
          all_goals exact ⟨_, rfl, by decide, by decide⟩
        refine ⟨keep1.1, keep1.2, iteT ?_⟩
        refine ⟨by show 3 ≤ sizeLine; decide, fun M hM => ?_⟩
        have sd := same_new hM (.lst [V.str "x", .str "y", .str "m"])
        have ed : upd Hc M (.lst [V.str "x", .str "y", .str "m"]) M = some (.lst [V.str "x", .str "y", .str "m"]) := upd_same
        generalize upd Hc M (.lst [V.str "x", .str "y", .str "m"]) = Hd at sd ed ⊢
        refine ⟨_, rfl, _, rfl, _, rfl, _, _, rfl, rfl, Or.inl ⟨by decide, by decide⟩, _, _, rfl, rfl, cc, _, 3, rfl, by omega, by omega, by decide, fun u u0 u3 => ?_⟩
        obtain ⟨s, hs, es⟩ := at_xym u0 u3
        refine ⟨M, _, u, _, rfl, rfl, SqL.of ed, es, sd _ _ ec, small1000 (by rw [List.length_map]; omega), hC _ _ ⟨(sc.trans sd).change hT1, upd_same, tt ++ [s], by rw [List.length_append, hk]; rfl, fun t ht => ?_, by rw [List.map_append]; rfl⟩⟩
        rcases List.mem_append.mp ht with ht | ht
        · exact h3 t ht
        · rw [List.mem_singleton] at ht; rw [ht]; exact hs
      rintro zs Hc ⟨sc, eT, tt, hk, h3, rfl⟩
      obtain ⟨s1, s2, rfl⟩ : ∃ s1 s2, tt = [s1, s2] := by
        have hk : tt.length = 2 := hk
        match tt, hk with
        | [x, y], _ => exact ⟨x, y, rfl⟩
      have h1 := h3 s1 (by simp)
      have h2 := h3 s2 (by simp)
      have eT : Hc T1 = some (.lst ([S s1, S s2].map V.str)) := eT
      refine ⟨by show 1 ≤ sizeLine; decide, fun LM hLM => ?_⟩
      have sd := same_new hLM (.lst [V.str "m"])
      have ed : upd Hc LM (.lst [V.str "m"]) LM = some (.lst [V.str "m"]) := upd_same
      generalize upd Hc LM (.lst [V.str "m"]) = Hd at sd ed ⊢
      refine ⟨LM, rfl, ⟨_, SqL.of ed⟩, fun T2 hT2 => ?_⟩
      have sT2 := same_new hT2 (.lst [])
      have em : ("m" : Str) = S [109] := by decide +kernel
      have hpd := (sb.trans (sc.trans sd)) _ _ hpa
      refine comp_list (xs := [V.str "m"]) (fun k zs H' => Same Hd H' ∧ H' T2 = some (.lst zs) ∧ zs = if k = 0 then [] else (mres [s1, s2] hm').map V.str) ⟨sT2, upd_same, rfl⟩ (fun k zs H' h => h.2.1) (fun k zs H' _ h => h.1.seq (SqL.of ed)) ?_ ?_
      · rintro k zs x He hx ⟨se, ee, rfl⟩ C hC
        have k0 : k = 0 := by have := (List.getElem?_eq_some_iff.mp hx).1; simp at this; omega
        subst k0
        cases hx
        rw [em]
        have fin0 : ¬ ([109] ∈ [s1, s2] ∧ hm' = false) → C (0 + 1) [] He := fun c => hC _ _ ⟨se, ee, by unfold mres; rw [if_neg c]; rfl⟩
        refine ⟨keep1.1, keep1.2, _, rfl, _, rfl, T1, _, rfl, .inl (SqL.of ((sd.trans se) _ _ eT)), rfl, flat_strs _, _, rfl, ?_⟩
        show (if (inV (.str (S [109])) ([S s1, S s2].map V.str)) = true then _ else _)
        rw [inV_strs]
        by_cases c1 : S [109] ∈ [S s1, S s2]
        · refine L2.ifT (decide_eq_true c1) ⟨_, rfl, _, rfl, pt, _, rfl, .inl (SqL.of (se _ _ hpd)), rfl, flat_strs _, _, rfl, ?_⟩
          show (if (!inV (.str (S [109])) (ps'.map V.str)) = true then _ else _)
          rw [inV_strs]
          by_cases c2 : S [109] ∈ ps'
          · refine L2.ifF (by rw [decide_eq_true c2]; rfl) ?_
            exact fin0 fun z => by have := pma.mp c2; rw [z.2] at this; cases this
          · refine L2.ifT (by rw [decide_eq_false c2]; rfl) ?_
            have hf : hm' = false := by cases h : hm' with | false => rfl | true => exact absurd (pma.mpr h) c2
            refine ⟨_, rfl, ee, small1000 (by simp), hC _ _ ⟨se.change hT2, upd_same, ?_⟩⟩
            rw [if_neg (show ¬ 0 + 1 = 0 by decide)]
            unfold mres
            rw [if_pos (show [109] ∈ [s1, s2] ∧ hm' = false from ⟨mem_S.mp c1, hf⟩)]
            rfl
        · refine L2.ifF (decide_eq_false c1) ?_
          exact fin0 fun z => c1 (mem_S.mpr z.1)
      rintro zs He ⟨se, eT2, rfl⟩
      have eT2 : He T2 = some (.lst ((mres [s1, s2] hm').map V.str)) := eT2
      have sAe := sb.trans (sc.trans (sd.trans se))
      refine ⟨_, rfl, pt, _, rfl, .inl (SqL.of (sAe _ _ hpa)), _, rfl, T2, _, rfl, .inl (SqL.of eT2), _, _, rfl, rfl, _, rfl, sz, _, 1, _, rfl, rfl, sAe.seqT sza, rfl, _, _, rfl, rfl, ?_⟩
      refine hX _ _ ⟨s1, s2, T1, T2, h1, h2, ?_, sAe, (sd.trans se) _ _ eT, eT2, sb.free hT1, (sb.trans (sc.trans sd)).free hT2⟩
      rw [List.length_map, List.length_map, pla, mres_len, show (((n' + mo [s1, s2] hm' + q : Nat)) : Int) = (n' : Int) + (mo [s1, s2] hm' : Int) + (q : Int) by omega]
      rfl
    rintro σ Hb ⟨s1, s2, T1, T2, h1, h2, rfl, sb, eT1, eT2, fT1, fT2⟩
    have hsb := sb.seqT sza
    refine cut2 (fun σ H' => H' = Hb ∧ σ = [some (.ref y), some (.int cc), some (.str (S (lt j))), some (.int (m : Int)), some (.ref sz), some (.ref pt), some (.int (rows : Int)), some (.int (come : Int)), some (.int (i : Int)), some (.ref T1), some (.ref T2), some (.int ((n' + mo [s1, s2] hm' + q : Nat) : Int)), some (.str (if n' + mo [s1, s2] hm' + q ≤ 20 ∧ rows + r ≤ 40 then "" else "many"))]) (fun X hX => ?_) ?_
    · refine ⟨_, rfl, _, _, rfl, rfl, _, rfl, ?_⟩
      by_cases c1 : n' + mo [s1, s2] hm' + q ≤ 20
      · refine L2.ifF (decide_eq_false (show ¬ (20 : Int) < ((n' + mo [s1, s2] hm' + q : Nat) : Int) by omega)) ?_
        refine ⟨_, rfl, _, rfl, sz, _, 0, _, rfl, rfl, hsb, rfl, _, _, rfl, rfl, _, _, rfl, rfl, _, rfl, ?_⟩
        by_cases c2 : rows + r ≤ 40
        · refine L2.ifF (decide_eq_false (show ¬ (40 : Int) < (rows : Int) + (r : Int) by omega)) ?_
          exact hX _ _ ⟨rfl, by rw [if_pos ⟨c1, c2⟩]; rfl⟩
        · refine L2.ifT (decide_eq_true (show (40 : Int) < (rows : Int) + (r : Int) by omega)) ?_
          exact hX _ _ ⟨rfl, by rw [if_neg (fun z => c2 z.2)]; rfl⟩
      · refine L2.ifT (decide_eq_true (show (20 : Int) < ((n' + mo [s1, s2] hm' + q : Nat) : Int) by omega)) ?_
        exact hX _ _ ⟨rfl, by rw [if_neg (fun z => c1 z.1)]; rfl⟩
    rintro σ Hb' ⟨rfl, rfl⟩
    have Gb := Ga.same sb
    have nmc := lt_nm (k := come) (by omega)
    have l1 := (sp3_ok _ h1).2.2.2
    have l2 := (sp3_ok _ h2).2.2.2
    have lc := nmc.l
    have lj := nmj.l
    have pv2 := pva.put (Q := Q') (by omega) qv.e qv.nd (by omega) (sp3_or h1) (sp3_or h2)
    have fit := pv2.fits
    obtain ⟨tok, terr⟩ := put_cases (Y := Y.keep P') (Q := Q') (n := lt come) (nm := lt j) keep_cur nmc.n nmj.n (sp3_ok _ h1).1 (sp3_ok _ h2).1 (pva.pn come (by omega) (by omega)) (by rw [keep_pa]; exact hP) qv.e
    rw [keep_keep] at tok
    rw [qv.d, show Q'.ls.length - 2 = q by omega] at pv2 fit
    have tx := put_tx nmc nmj h1 h2
    have bnd : (([S s1, S s2] : List Str).map (·.length)).sum + ([S s1, S s2] : List Str).length * (" " : Str).length ≤ 1000000 := by
      rw [e1s]
      show (S s1).length + ((S s2).length + 0) + 2 * 1 ≤ 1000000
      rw [S_len, S_len]
      omega
    refine ⟨_, rfl, _, rfl, come, rfl, by omega, _, _, rfl, rfl, (by simp only [S_len, e4s]; omega), _, _, rfl, rfl, (by simp only [len2, S_len, e4s, e1s]; omega), _, rfl, _, _, rfl, rfl, (by simp only [len2, S_len, e4s, e1s]; omega), _, _, rfl, rfl, (by simp only [len2, S_len, e4s, e1s]; omega), rfl, _, rfl, _, T1, [S s1, S s2], rfl, rfl, SqL.of eT1, bnd, _, _, rfl, rfl, (by simp only [len2, S_len, e4s, e1s, jn2_len]; omega), ?_⟩
    rw [put_is]
    refine ⟨[pt], y, d, _, w + i, _, rfl, Gb, Wa, by omega, tx, ?_⟩
    by_cases hf : n' + mo [s1, s2] hm' + q ≤ 20 ∧ rows + r ≤ 40
    · have tk := tok (fit.mpr hf)
      rw [tk]
      intro Hc sc Gc
      rw [if_pos hf]
      refine ⟨_, rfl, rfl, _, rfl, L2.ifF (by decide) ?_⟩
      refine ⟨_, rfl, rfl, _, rfl, L2.ifT (by decide) ?_⟩
      obtain ⟨dyb, gb, ob, qb, kvsb, hyb, _, hdb, _⟩ := id Gb
      have m1' : ∀ {b : Addr} {xs : List V}, Hb' b = some (.lst xs) → Hc b = some (.lst xs) := fun h => sc _ _ h (ne_of h hyb (fun z => by cases z)) (ne_of h hdb (fun z => by cases z))
      have mt : ∀ {a : Addr} {xs : List V}, SqT K Hb' a xs → SqT K Hc a xs := fun h => by
        rcases h with (h | ⟨u, h⟩) | h
        · exact .inl (.inl (sc _ _ h (ne_of h hyb (fun z => by cases z)) (ne_of h hdb (fun z => by cases z))))
        · exact .inl (.inr ⟨u, sc _ _ h (ne_of h hyb (fun z => by cases z)) (ne_of h hdb (fun z => by cases z))⟩)
        · exact .inr h
      have hpc := m1' (sb _ _ hpa)
      have hsc := mt hsb
      refine ⟨_, rfl, .inl ⟨rfl, _, SqL.of hpc⟩, _, rfl, _, rfl, sz, _, 1, _, rfl, rfl, hsc, rfl, (q : Int), rfl, by omega, by omega, fun D hD => ?_⟩
      have sD := same_new hD (.lst [])
      refine comp_range (n := q) (fun k zs H' => Same Hc H' ∧ H' D = some (.lst zs) ∧ ∃ qs : List Str, qs.length = k ∧ (∀ x ∈ qs, 2 ≤ x.length) ∧ zs = qs.map V.str) ⟨sD, upd_same, [], rfl, fun x hx => (by cases hx), rfl⟩ (fun k zs H' h => h.2.1) ?_ ?_
      · rintro k zs Hd hk ⟨sd, ed, qs, hq, q2, rfl⟩ C hC
        rw [Int.zero_add]
        refine ⟨keep1.1, keep1.2, iteT ?_⟩
        refine ⟨_, rfl, come, rfl, by omega, _, rfl, (k : Int), 50, rfl, B_of (by omega) (by omega), by decide, ?_⟩
        rw [str_int]
        obtain ⟨il, _⟩ : (itx (k : Int)).length ≤ 13 ∧ True := ⟨by rw [itx_pos (by omega)]; exact (dg_len (by decide)).mpr (by omega), trivial⟩
        refine ⟨_, _, rfl, rfl, (by simp only [S_len]; omega), ed, small1000 (by rw [List.length_map]; omega), hC _ _ ⟨sd.change hD, upd_same, qs ++ [S (lt come) ++ S (itx (k : Int))], by rw [List.length_append, hq]; rfl, fun x hx => ?_, by rw [List.map_append]; rfl⟩⟩
        rcases List.mem_append.mp hx with hx | hx
        · exact q2 x hx
        · rw [List.mem_singleton] at hx
          rw [hx, len2, S_len, show (lt come).length = 2 from rfl]
          omega
      rintro zs Hd ⟨sd, ed, qs, hq, q2, rfl⟩
      have eT2c := sd _ _ (m1' eT2)
      refine ⟨T2, D, _, _, rfl, rfl, eT2c, ed, by rw [List.length_map, List.length_map, mres_len, hq]; have := mo_le [s1, s2] hm'; omega, fun E1 hE1 => ?_⟩
      rw [← List.map_append]
      have se := same_new hE1 (.lst ((mres [s1, s2] hm' ++ qs).map V.str))
      have ee : upd Hd E1 (.lst ((mres [s1, s2] hm' ++ qs).map V.str)) E1 = some (.lst ((mres [s1, s2] hm' ++ qs).map V.str)) := upd_same
      generalize upd Hd E1 (.lst ((mres [s1, s2] hm' ++ qs).map V.str)) = He at se ee ⊢
      have hpe := (sd.trans se) _ _ hpc
      refine ⟨pt, E1, _, _, rfl, rfl, hpe, ee, by rw [List.length_map, List.length_map, List.length_append, mres_len, hq, pla]; have := mo_le [s1, s2] hm'; omega, ?_⟩
      rw [← List.map_append]
      have Ge := YG.av (us' := (ps' ++ (mres [s1, s2] hm' ++ qs)).map V.str) hpe (by simp) (Gc.same (sd.trans se))
      have xe : ∀ b o, He b = some o → b ≠ pt → upd He pt (.lst ((ps' ++ (mres [s1, s2] hm' ++ qs)).map V.str)) b = some o := fun b o h n => by rw [upd_ne n]; exact h
      have hpf : upd He pt (.lst ((ps' ++ (mres [s1, s2] hm' ++ qs)).map V.str)) pt = some (.lst ((ps' ++ (mres [s1, s2] hm' ++ qs)).map V.str)) := upd_same
      have hsf : SqT K (upd He pt (.lst ((ps' ++ (mres [s1, s2] hm' ++ qs)).map V.str))) sz [.int (r : Int), .int (q : Int)] := SameX.seqT hpe (fun b o h n => xe b o h n) ((sd.trans se).seqT hsc)
      generalize upd He pt (.lst ((ps' ++ (mres [s1, s2] hm' ++ qs)).map V.str)) = Hf at Ge xe hpf hsf ⊢
      refine ⟨_, rfl, _, rfl, sz, _, 0, _, rfl, rfl, hsf, rfl, _, _, rfl, rfl, ?_⟩
      refine ⟨_, rfl, _, _, rfl, rfl, ?_⟩
      have W2 := tV_wf Wa tx.ne tx.bd tk
      refine ⟨_, _, rows + r, come + 1, _, ps' ++ (mres [s1, s2] hm' ++ qs), some (.int (i : Int)), some (.ref T1), some (.ref T2), some (.int ((n' + mo [s1, s2] hm' + q : Nat) : Int)), some (.str ""), ?_, fun b o h n1 n2 n3 => xe _ _ ((sd.trans se) _ _ (sc _ _ (sb _ _ (sa b o h n1 n2 n3)) n1 n2)) n3, Ge, W2, pv2, hf.2, hf.1, ea, hpf, ?_, ?_, hsf, by omega⟩
      · rw [show (((rows + r : Nat)) : Int) = (rows : Int) + (r : Int) by omega, show (((come + 1 : Nat)) : Int) = (come : Int) + 1 by omega]
        rfl
      · rw [List.length_append, List.length_append, mres_len, pla, hq]
        omega
      · rw [List.mem_append, List.mem_append, pma, mres_mem, Bool.or_eq_true, decide_eq_true_eq]
        constructor
        · rintro (h | h | h)
          · exact .inl h
          · exact .inr h.1
          · have := q2 _ h; rw [S_len] at this; exact absurd this (by decide)
        · rintro (h | h)
          · exact .inl h
          · cases e : hm' with
            | true => exact .inl rfl
            | false => exact .inr (.inl ⟨h, rfl⟩)
    · rw [terr (fun z => hf (fit.mp z))]
      refine ⟨(fun z => by cases z), fun Hc sc => ?_⟩
      rw [if_neg hf]
      refine ⟨_, rfl, rfl, _, rfl, L2.ifF (by decide) ?_⟩
      refine ⟨_, rfl, rfl, _, rfl, L2.ifF (by decide) ?_⟩
      have sac := sb.trans sc
      exact ⟨P', n', rows, come, hm', ps', _, _, _, _, _, rfl, fun b o h n1 n2 n3 => sac _ _ (sa b o h n1 n2 n3), Ga.same sac, Wa.mono (by omega), pva, r40, n20', ea, sac _ _ hpa, pla, pma, sac.seqT sza, by omega⟩
  · rintro σ Ha ⟨P', n', rows, come, hm', ps', z8, z9, z10, z11, z12, rfl, sa, Ga, Wa, pva, r40, n20', ea, hpa, pla, pma, sza, ci⟩
    exact ⟨_, rfl, qq P' n' rows come hm' ps' Ha sa Ga Wa pva r40 n20' ea hpa pla⟩
end
end K85

set_option Elab.async false
set_option linter.all false
set_option maxRecDepth 100000
set_option maxHeartbeats 4000000
namespace K85
open PySem L2 Tx
section
variable {P : Program} {w : World} {K : PySem.W.Frag} {mg : Str → Option Value} {base : Heap} {f g1 g2 g3 g4 g5 g6 g7 g8 : Addr} {fd gd1 gd2 gd3 gd4 gd5 gd6 gd7 gd8 : FuncData} {CX : CXT}
theorem PlOk.more {CP : Addr} {av : List Addr} {H : Hp} {g p : Addr} {P : PD} (hp : H p = none) (h : PlOk CP K av H g P) : PlOk CP K (p :: av) H g P := by
  obtain ⟨l, t, q, es, PA, hR, x1, x2, x3⟩ := h
  have f : ∀ {a : Addr} {xs : List V}, H a = some (.lst xs) → a ∉ av → a ∉ p :: av := fun h n z => by
    rcases List.mem_cons.mp z with z | z
    · rw [z, hp] at h; cases h
    · exact n z
  exact ⟨l, t, q, es, PA, hR, f PA.hl x1, f PA.ht x2, f PA.hp x3⟩
theorem YG.more {CY CP : Addr} {av : List Addr} {H : Hp} {y d p : Addr} {Y : YS} {o : HO} (hp : H p = none) (h : YG CY CP K av H y d Y) : YG CY CP K (p :: av) (upd H p o) y d Y := by
  obtain ⟨dy, g, o', q, kvs, hy, hg, hd, hpa, ho, ha⟩ := h
  have s := same_new hp o
  have m : ∀ g P, PlOk CP K av H g P → PlOk CP K (p :: av) (upd H p o) g P := fun g P h => (h.more hp).same s
  have im : ∀ {kvs : List (Key × V)} {pa : List (Str × PD)}, PaOk CP K av H kvs pa → PaOk CP K (p :: av) (upd H p o) kvs pa := by
    intro kvs pa
    induction kvs generalizing pa with
    | nil => cases pa with
      | nil => exact fun h => h
      | cons _ _ => exact fun h => h
    | cons kv kvs ih => cases pa with
      | nil => exact fun h => h
      | cons nP pa => exact fun ⟨a, ⟨g, e, p'⟩, c⟩ => ⟨a, ⟨g, e, m _ _ p'⟩, ih c⟩
  have io : ∀ {x : Option (Str × PD)}, OpOk CP K av H o' q x → OpOk CP K (p :: av) (upd H p o) o' q x := by
    intro x
    cases x with
    | none => exact fun h => h
    | some _ => exact fun ⟨a, g, e, p'⟩ => ⟨a, g, e, m _ _ p'⟩
  refine ⟨dy, g, o', q, kvs, s _ _ hy, m _ _ hg, s _ _ hd, im hpa, io ho, fun a hin z => ?_⟩
  rcases List.mem_cons.mp hin with e | e
  · rw [e, upd_same] at z; cases z
  · cases e' : H a with
    | none => exact ha a e e'
    | some o'' => rw [s _ _ e'] at z; cases z
theorem YG.less {CY CP : Addr} {av : List Addr} {H : Hp} {y d p : Addr} {Y : YS} (h : YG CY CP K (p :: av) H y d Y) : YG CY CP K av H y d Y := by
  obtain ⟨dy, g, o', q, kvs, hy, hg, hd, hpa, ho, ha⟩ := h
  have m : ∀ g P, PlOk CP K (p :: av) H g P → PlOk CP K av H g P := fun g P h => by
    obtain ⟨l, t, q, es, PA, hR, x1, x2, x3⟩ := h
    exact ⟨l, t, q, es, PA, hR, fun z => x1 (List.mem_cons_of_mem _ z), fun z => x2 (List.mem_cons_of_mem _ z), fun z => x3 (List.mem_cons_of_mem _ z)⟩
  have im : ∀ {kvs : List (Key × V)} {pa : List (Str × PD)}, PaOk CP K (p :: av) H kvs pa → PaOk CP K av H kvs pa := by
    intro kvs pa
    induction kvs generalizing pa with
    | nil => cases pa with
      | nil => exact fun h => h
      | cons _ _ => exact fun h => h
    | cons kv kvs ih => cases pa with
      | nil => exact fun h => h
      | cons nP pa => exact fun ⟨a, ⟨g, e, p'⟩, c⟩ => ⟨a, ⟨g, e, m _ _ p'⟩, ih c⟩
  have io : ∀ {x : Option (Str × PD)}, OpOk CP K (p :: av) H o' q x → OpOk CP K av H o' q x := by
    intro x
    cases x with
    | none => exact fun h => h
    | some _ => exact fun ⟨a, g, e, p'⟩ => ⟨a, g, e, m _ _ p'⟩
  exact ⟨dy, g, o', q, kvs, hy, m _ _ hg, hd, im hpa, io ho, fun a hin => ha a (List.mem_cons_of_mem _ hin)⟩
def PAok (pa : List (Str × PD)) (k : Nat) : Prop := pa.map (·.1) = (List.range k).map fun i => S (lt i)
theorem PAok.len {pa : List (Str × PD)} {k : Nat} (h : PAok pa k) : pa.length = k := by
  have := congrArg List.length h
  simpa using this
theorem PAok.not {pa : List (Str × PD)} {k j : Nat} (h : PAok pa k) (hj : k ≤ j) : S (lt j) ∉ pa.map (·.1) := by
  rw [h]
  intro z
  obtain ⟨i, hi, e⟩ := List.mem_map.mp z
  have := lt_inj (S_inj.mp e)
  have := List.mem_range.mp hi
  omega
theorem PAok.snoc {pa : List (Str × PD)} {k : Nat} {P : PD} (h : PAok pa k) : PAok (pa ++ [(S (lt k), P)]) (k + 1) := by
  unfold PAok at h ⊢
  rw [List.map_append, h, List.range_succ, List.map_append]
  rfl
theorem partOf_last {pa : List (Str × PD)} {n : Str} {P : PD} (h : n ∉ pa.map (·.1)) : partOf (pa ++ [(n, P)]) n = some P := by
  unfold partOf
  rw [List.find?_append]
  have : pa.find? (fun x => decide (x.1 = n)) = none := by
    rw [List.find?_eq_none]
    intro x hx z
    exact h (List.mem_map.mpr ⟨x, hx, by simpa using z⟩)
  first
    | (rw [this]; simp)
    | (simp [this])
theorem PV.two {P : PD} {n rows come : Nat} {hm : Bool} (h : PV P n hm rows come) : 2 ≤ n := by
  have := List.Nodup.length_le_of_subset (l₁ := [S [120], S [121]]) (l₂ := P.ls) (by decide +kernel) (fun x hx => by
    simp only [List.mem_cons, List.not_mem_nil, or_false] at hx
    rcases hx with rfl | rfl
    · exact h.x
    · exact h.y)
  rw [h.len] at this
  exact this
theorem PV.start {e : Nat} (he : e = 2 ∨ e = 0) {ds : List RD} : PV ⟨[S [120], S [121]], e, ds, []⟩ 2 false ds.length 0 where
  nd := by show [S [120], S [121]].Nodup; decide +kernel
  len := rfl
  x := by show S [120] ∈ [S [120], S [121]]; simp
  y := by show S [121] ∈ [S [120], S [121]]; simp
  m := by
    have : S [109] ∉ [S [120], S [121]] := by decide +kernel
    exact ⟨fun z => absurd z this, (fun z => by cases z)⟩
  ds := rfl
  pn := fun i _ _ z => by cases z
  pn' := fun i h => by omega
  dot := fun z hz => by
    have : ∀ z ∈ [S [120], S [121]], 46 ∉ z.cps.toList := by decide +kernel
    exact .inl (this z hz)
  e := he
theorem part_is (k : Nat) : ("part " : Str) ++ S (lt k) ++ " x y" = S (jnc 32 [[112, 97, 114, 116], lt k, [120], [121]]) := by
  rw [show ("part " : Str) = S [112, 97, 114, 116, 32] by decide +kernel, show (" x y" : Str) = S [32, 120, 32, 121] by decide +kernel]
  simp only [S_app]
  congr 1
theorem nm_tx {a : List Nat} (h : Nm a) : 32 ∉ a ∧ 10 ∉ a ∧ a.length ≤ 28 := ⟨h.s, h.t, by have := h.l; omega⟩
theorem part_tx {k : Nat} (h : k < 676) : TxOk [[112, 97, 114, 116], lt k, [120], [121]] := by
  refine tx_of (by simp) (fun z hz => ?_) (by show 4 ≤ 10; decide)
  simp only [List.mem_cons, List.not_mem_nil, or_false] at hz
  rcases hz with rfl | rfl | rfl | rfl
  · decide
  · exact nm_tx (lt_nm h)
  · decide
  · decide
theorem push_is : ("push x y 1" : Str) = S (jnc 32 [wdC .pu, [120], [121], [49]]) := by decide +kernel
theorem done_is : ("done" : Str) = S (jnc 32 [[100, 111, 110, 101]]) := by decide +kernel
theorem done_tx : TxOk [[100, 111, 110, 101]] := tx_of (by simp) (by decide) (by decide)
theorem push_tx : TxOk [wdC .pu, [120], [121], [49]] := tx_row1 (by decide) (by decide) (by decide)
def spPartL (CY CP : Addr) (K : PySem.W.Frag) : Sp := fun vs H Q _ => ∃ (y d sz : Addr) (gr : PD) (pa : List (Str × PD)) (cc : Int) (k w r q : Nat) (Q' : PD), vs = [.ref y, .int cc, .int (k : Int), .ref sz] ∧ 1 ≤ k ∧ k ≤ 10 ∧ YG CY CP K [] H y d ⟨gr, pa, none⟩ ∧ WfY w ⟨gr, pa, none⟩ ∧ w ≤ 200 ∧ PAok pa k ∧ partOf pa (S (lt (k - 1))) = some Q' ∧ QV Q' r q ∧ SqT K H sz [.int (r : Int), .int (q : Int)] ∧
  ∀ (tt : Addr) (Q2 : PD) (r2 q2 : Nat) (H' : Hp), SYd y d H H' → YG CY CP K [] H' y d ⟨gr, pa ++ [(S (lt k), Q2)], none⟩ → WfY (w + 6) ⟨gr, pa ++ [(S (lt k), Q2)], none⟩ → QV Q2 r2 q2 → SqT K H' tt [.int (r2 : Int), .int (q2 : Int)] → Q (.ref tt) H'
abbrev sPartL : Stmt := top 60
theorem scPartL : FnScope ["_law_yard", "_law_cell", "_law_k", "_law_sizes", "_law_points", "_law_rows"] ["_law_yard", "_law_cell", "_law_k", "_law_sizes"] (defScope sPartL) := ⟨rfl, rfl, rfl, by decide +kernel, rfl, by decide +kernel, by decide +kernel⟩
theorem ok_partl {dV : Value} (F : FunD K "_law_part" "_law_part" sPartL dV f fd)
    {CY CP : Addr} {cl : Er → Addr} (YTx : YaT K mg CY) (ml : mg "len" = none)
    {gTe : Addr} {gdTe : FuncData} (GTe : FnOk P w K mg base (CX1 P w) 7 gTe gdTe ["self", "row"] (spTellG CY CP (cl .row) (cl .name) (cl .num) (cl .size) (cl .many) K)) (bTe : Binds K gdTe ["self", "row"] []) (mTe : Meth K CY "tell" gTe)
    (G1 : FnOk P w K mg base CX0 1 g1 gd1 ["_law_cell", "_law_prime", "_law_many_here"] spMix) (b1 : Binds K gd1 ["_law_cell", "_law_prime", "_law_many_here"] []) (k1 : PySem.W.keepIn K (.ref g1) = true) (m1 : mg "_law_mix" = some (.ref g1))
    (G2 : FnOk P w K mg base CX0 1 g2 gd2 ["_law_k"] spLet) (b2 : Binds K gd2 ["_law_k"] []) (k2 : PySem.W.keepIn K (.ref g2) = true) (m2 : mg "_law_letter" = some (.ref g2))
    (G3 : FnOk P w K mg base CX0 9 g3 gd3 ["_law_yard", "_law_cell", "_law_name", "_law_many_here", "_law_sizes", "_law_points"] (spPuts CY CP K)) (b3 : Binds K gd3 ["_law_yard", "_law_cell", "_law_name", "_law_many_here", "_law_sizes", "_law_points"] []) (k3 : PySem.W.keepIn K (.ref g3) = true) (m3 : mg "_law_puts" = some (.ref g3)) :
    FnOk P w K mg base CX 10 f fd ["_law_yard", "_law_cell", "_law_k", "_law_sizes"] (spPartL CY CP K) := by
  refine F.ok scPartL (fun vs H Q E h => ?_) (fun cdv A outer s H vs Q E hr h => ?_)
  · obtain ⟨y, d, sz, gr, pa, cc, k, w, r, q, Q', rfl, hk1, hk6, G, W, hw, pao, hQ, qv, hsz, qq⟩ := h
    rfl
  obtain ⟨y, d, sz, gr, pa, cc, k, w, r, q, Q', rfl, hk1, hk6, G, W, hw, pao, hQ, qv, hsz, qq⟩ := h
  have hz : sizeLine = 16777216 := sizeLine_eq
  have r1 := hr.mono (show 1 ≤ 9 by omega)
  have r7 := hr.mono (show 7 ≤ 9 by omega)
  have nmk := lt_nm (k := k) (by omega)
  have lk := nmk.l
  have e5 : ("part " : Str).length = 5 := by decide +kernel
  have e6 : (" x y" : Str).length = 4 := by decide +kernel
  have plen := pao.len
  refine ⟨_, (pss_cons (ps_expr (pe_meth (pv 0) YTx.cl mTe GTe.calm r7 bTe .nil pass0 (pa_cons (pe_op op_add_str (pe_op op_add_str pe_str (pe_call G2 r1 rfl m2 k2 b2 .nil pass0 (pa_cons (pv 2) pa_nil))) pe_str) pa_nil)))
    (pss_cons (ps_set (i := 4) scPartL.nd rfl (Or.inl rfl) (pe_lst (pa_cons pe_str (pa_cons pe_str pa_nil))))
    (pss_cons (ps_set (i := 5) scPartL.nd rfl (Or.inl rfl) (pe_call G3 hr rfl m3 k3 b3 .nil pass0 (pa_cons (pv 0) (pa_cons (pv 1) (pa_cons (pe_call G2 r1 rfl m2 k2 b2 .nil pass0 (pa_cons (pe_op op_sub (pv 2) pe_int) pa_nil)) (pa_cons (pe_op op_add pe_int (pe_call G1 r1 rfl m1 k1 b1 .nil pass0 (pa_cons (pv 1) (pa_cons pe_int (pa_cons pe_int pa_nil))))) (pa_cons (pv 3) (pa_cons (pv 4) pa_nil))))))))
    (pss_cons (ps_if (pt_cmp (pc_isN (pv 5))) (pss_one (ps_ret pe_non)) pss_nil)
    (pss_cons (ps_if (PW.pt (pw_and (pt_cmpR op_lt (pv 5) pe_int (nomark _)) (pw_and1 (pt_cmpR op_eq (pe_call G1 r1 rfl m1 k1 b1 .nil pass0 (pa_cons (pv 1) (pa_cons pe_int (pa_cons pe_int pa_nil)))) pe_int (nomark _))))) (pss_cons (ps_expr (pe_meth (pv 0) YTx.cl mTe GTe.calm r7 bTe .nil pass0 (pa_cons pe_str pa_nil)))
    (pss_one (ps_set (i := 5) scPartL.nd rfl (Or.inl rfl) (pe_op op_add (pv 5) pe_int)))) pss_nil)
    (pss_cons (ps_expr (pe_meth (pv 0) YTx.cl mTe GTe.calm r7 bTe .nil pass0 (pa_cons pe_str pa_nil)))
    (pss_one (ps_ret (pe_tup (pa_cons (pv 5) (pa_cons (pe_op op_sub (pe_callB call_len_seq rfl ml PySem.boot_len (pa_cons (pv 4) pa_nil)) pe_int) pa_nil))))))))))), ?_⟩
  have t1 : tV ⟨gr, pa, none⟩ [[112, 97, 114, 116], lt k, [120], [121]] = .ok ⟨gr, pa, some (S (lt k), ⟨[S [120], S [121]], 2, [], []⟩)⟩ := tV_part.trans (begV_ok rfl (by simp only [List.all_cons, List.all_nil, Bool.and_true, nmk.n, Bool.true_and]; decide) (by decide +kernel) (pao.not (Nat.le_refl _)) (by show pa.length < 20; omega) (by show 2 ≤ 20; decide))
  have tx1 := part_tx (k := k) (by omega)
  refine cut2 (fun σ H' => ∃ pt, σ = [some (.ref y), some (.int cc), some (.int (k : Int)), some (.ref sz), some (.ref pt), none] ∧ YG CY CP K [pt] H' y d ⟨gr, pa, some (S (lt k), ⟨[S [120], S [121]], 2, [], []⟩)⟩ ∧ SqT K H' sz [.int (r : Int), .int (q : Int)] ∧ H' pt = some (.lst ([S [120], S [121]].map V.str)) ∧ SYd y d H H' ∧ H pt = none) (fun X hX => ?_) ?_
  · obtain ⟨dyZ, gZ, oZ, qZ, kvsZ, hyZ, _, hdZ, _⟩ := id G
    refine ⟨_, rfl, y, dyZ, _, rfl, hyZ, (by with_unfolding_all rfl), _, rfl, k, rfl, by omega, _, _, rfl, rfl, (by simp only [S_len, e5]; omega), _, _, rfl, rfl, (by simp only [len2, S_len, e5, e6]; omega), ?_⟩
    rw [part_is]
    dsimp only [tCons, tC, tNil]; change spTellG CY CP (cl .row) (cl .name) (cl .num) (cl .size) (cl .many) K [.ref y, .str _] _ _ _
    refine tell_ok G W (by omega) tx1 t1 (fun H1 s1 G1 => ?_)
    have sz1 : SqT K H1 sz [.int (r : Int), .int (q : Int)] := by
      rcases hsz with (h | ⟨u, h⟩) | h
      · exact .inl (.inl (s1 _ _ h (ne_of h hyZ (fun z => by cases z)) (ne_of h hdZ (fun z => by cases z))))
      · exact .inl (.inr ⟨u, s1 _ _ h (ne_of h hyZ (fun z => by cases z)) (ne_of h hdZ (fun z => by cases z))⟩)
      · exact .inr h
    refine ⟨by show 2 ≤ sizeLine; decide, fun pt hpt => ?_⟩
    have fp : H pt = none := by
      cases e : H pt with
      | none => rfl
      | some o' =>
        by_cases c1 : pt = y
        · obtain ⟨_, _, _, _, _, hy1, _⟩ := id G1
          rw [c1, hy1] at hpt; cases hpt
        · by_cases c2 : pt = d
          · obtain ⟨_, _, _, _, _, _, _, hd1, _⟩ := id G1
            rw [c2, hd1] at hpt; cases hpt
          · rw [s1 _ _ e c1 c2] at hpt; cases hpt
    have Gm := YG.more (o := .lst [V.str "x", .str "y"]) hpt G1
    have s2 := same_new hpt (.lst [V.str "x", .str "y"])
    have e2 : upd H1 pt (.lst [V.str "x", .str "y"]) pt = some (.lst [V.str "x", .str "y"]) := upd_same
    generalize upd H1 pt (.lst [V.str "x", .str "y"]) = H2 at s2 e2 Gm ⊢
    have ev : ([V.str "x", .str "y"] : List V) = [S [120], S [121]].map V.str := by rw [show ("x" : Str) = S [120] by decide +kernel, show ("y" : Str) = S [121] by decide +kernel]; rfl
    rw [ev] at e2
    exact hX _ _ ⟨pt, rfl, Gm, s2.seqT sz1, e2, fun b o h n1 n2 => s2 _ _ (s1 b o h n1 n2), fp⟩
  rintro σ H2 ⟨pt, rfl, G2, hsz2, hpt2, sy2, fp⟩
  have W2 := tV_wf W tx1.ne tx1.bd t1
  refine cut3 (fun σ H' => ∃ (P' : PD) (n' rows come : Nat) (hm' : Bool) (ps' : List Str), σ = [some (.ref y), some (.int cc), some (.int (k : Int)), some (.ref sz), some (.ref pt), some (.int (rows : Int))] ∧ YG CY CP K [pt] H' y d ⟨gr, pa, some (S (lt k), P')⟩ ∧ WfY (w + 5) ⟨gr, pa, some (S (lt k), P')⟩ ∧ PV P' n' hm' rows come ∧ rows ≤ 40 ∧ n' ≤ 20 ∧ P'.e = 2 ∧ H' pt = some (.lst (ps'.map V.str)) ∧ ps'.length = n' ∧ SYd y d H H') (fun X hX => ?_) ?_
  · refine ⟨_, rfl, _, rfl, _, rfl, _, _, rfl, rfl, ?_⟩
    dsimp only
    rw [show ((k : Int) - 1) = ((k - 1 : Nat) : Int) by omega]
    refine ⟨k - 1, rfl, by omega, _, rfl, cc, 30307, 3, rfl, by decide, by decide, by decide, fun mm m0 m3 => ⟨_, _, rfl, rfl, ?_⟩⟩
    obtain ⟨m, hm⟩ : ∃ m : Nat, 1 + mm = (m : Int) := ⟨(1 + mm).toNat, by omega⟩
    dsimp only
    rw [hm]
    refine ⟨_, rfl, _, rfl, y, d, sz, pt, _, cc, k - 1, w + 1, m, r, q, 2, false, _, _, Q', [S [120], S [121]], rfl, by omega, by omega, G2, rfl, W2, by omega, PV.start (ds := []) (.inl rfl), hQ, qv, hsz2, hpt2, rfl, (by decide +kernel), fun P' n' rows come hm' ps' H3 s3 G3 W3 pv3 r40 n20 e3 hp3 pl3 => ?_⟩
    have W3 := W3.mono (show w + 1 + m ≤ w + 4 by omega)
    refine ⟨_, rfl, _, rfl, iteF ?_⟩
    have sy3 : SYd y d H H3 := fun b o h n1 n2 => s3 _ _ (sy2 b o h n1 n2) n1 n2 (ne_of_none h fp)
    have stay := hX _ _ ⟨P', n', rows, come, hm', ps', rfl, G3, W3.mono (by omega), pv3, r40, n20, e3, hp3, pl3, sy3⟩
    by_cases h40 : rows < 40
    · refine ⟨_, rfl, _, _, rfl, rfl, _, rfl, L2.ifT (decide_eq_true (show (rows : Int) < 40 by omega)) ⟨_, rfl, cc, 30323, 2, rfl, by decide, by decide, by decide, fun u u0 u2 => ⟨rfl, _, rfl, ite2 (fun _ => ?_) (fun _ => stay)⟩⟩⟩
      obtain ⟨dyN, gN, oN, qN, kvsN, hyN, _, hdN, _⟩ := id G3
      obtain ⟨a1, a2, a3, _⟩ := row_same (Y := ⟨gr, pa, some (S (lt k), P')⟩) (k := .pu) (a := [120]) (b := [121]) (by decide) (by decide) pv3.x pv3.y (wr1 (d := 1) (by decide)) (ok_all (by decide)) (by show P'.ls.length ≤ 20; rw [pv3.len]; exact n20)
      have a3 := a3 (by show P'.ds.length < 40; rw [pv3.ds]; exact h40)
      refine ⟨_, rfl, y, dyN, _, rfl, hyN, (by with_unfolding_all rfl), ?_⟩
      rw [push_is]
      dsimp only [tCons, tC, tNil]; change spTellG CY CP (cl .row) (cl .name) (cl .num) (cl .size) (cl .many) K [.ref y, .str _] _ _ _
      refine tell_ok G3 W3 (by omega) push_tx a3 (fun H4 s4 G4 => ?_)
      refine ⟨_, rfl, _, _, rfl, rfl, ?_⟩
      have hp4 := s4 _ _ hp3 (ne_of hp3 hyN (fun z => by cases z)) (ne_of hp3 hdN (fun z => by cases z))
      refine hX _ _ ⟨_, n', rows + 1, come, hm', ps', ?_, G4, tV_wf W3 push_tx.ne push_tx.bd a3, (pv3.row pv3.x pv3.y).1, by omega, n20, e3, hp4, pl3, SYd.trans sy3 s4⟩
      rw [show (((rows + 1 : Nat)) : Int) = (rows : Int) + 1 by omega]
      rfl
    · exact ⟨_, rfl, _, _, rfl, rfl, _, rfl, L2.ifF (decide_eq_false (show ¬ (rows : Int) < 40 by omega)) (iteF stay)⟩
  rintro σ H4 ⟨P', n', rows, come, hm', ps', rfl, G4, W4, pv4, r40, n20, e4, hp4, pl4, sy4⟩
  obtain ⟨dyN, gN, oN, qN, kvsN, hyN, _, hdN, _⟩ := id G4
  have td : tV ⟨gr, pa, some (S (lt k), P')⟩ [[100, 111, 110, 101]] = .ok ⟨gr, pa ++ [(S (lt k), P')], none⟩ := tV_done.trans rfl
  refine ⟨_, rfl, y, dyN, _, rfl, hyN, (by with_unfolding_all rfl), ?_⟩
  rw [done_is]
  dsimp only [tCons, tC, tNil]; change spTellG CY CP (cl .row) (cl .name) (cl .num) (cl .size) (cl .many) K [.ref y, .str _] _ _ _
  refine tell_ok G4 W4 (by omega) done_tx td (fun H5 s5 G5 => ?_)
  have hp5 := s5 _ _ hp4 (ne_of hp4 hyN (fun z => by cases z)) (ne_of hp4 hdN (fun z => by cases z))
  refine ⟨_, rfl, _, rfl, pt, _, rfl, .inl (SqL.of hp5), _, _, rfl, rfl, by show 2 ≤ sizeLine; decide, fun tt htt => ?_⟩
  have two := pv4.two
  have ev : (((ps'.map V.str).length : Int) - 2) = ((n' - 2 : Nat) : Int) := by rw [List.length_map, pl4]; omega
  dsimp only
  rw [ev]
  have st := same_new htt (.tup [V.int (rows : Int), .int ((n' - 2 : Nat) : Int)])
  refine qq tt P' rows (n' - 2) _ (fun b o h n1 n2 => st _ _ (s5 _ _ (sy4 b o h n1 n2) n1 n2)) ((G5.less).same st) ((tV_wf W4 done_tx.ne done_tx.bd td).mono (by omega)) ⟨e4, pv4.nd, by rw [pv4.len]; omega, pv4.ds, by rw [pv4.len]; exact n20, by rw [pv4.ds]; exact r40⟩ (SqT.of upd_same)
end
end K85

set_option Elab.async false
set_option linter.all false
set_option maxRecDepth 100000
set_option maxHeartbeats 4000000
namespace K85
open PySem L2 Tx
section
variable {P : Program} {w : World} {K : PySem.W.Frag} {mg : Str → Option Value} {base : Heap} {f g1 g2 g3 g4 g5 g6 g7 g8 : Addr} {fd gd1 gd2 gd3 gd4 gd5 gd6 gd7 gd8 : FuncData} {CX : CXT}
def LL (n : Nat) : List (List Nat) := (List.range n).map lt
theorem LL_len (n : Nat) : (LL n).length = n := by unfold LL; simp
theorem LL_mem {n : Nat} {x : List Nat} (h : x ∈ LL n) : ∃ i, i < n ∧ x = lt i := by
  unfold LL at h
  obtain ⟨i, hi, e⟩ := List.mem_map.mp h
  exact ⟨i, List.mem_range.mp hi, e.symm⟩
theorem LL_nd (n : Nat) : ((LL n).map S).Nodup := by
  unfold LL
  rw [List.map_map]
  exact List.Pairwise.map _ (fun a b (hab : a ≠ b) z => hab (lt_inj (S_inj.mp z))) List.nodup_range
theorem LL_all {n : Nat} (h : n ≤ 600) : (LL n).all nmB = true := List.all_eq_true.mpr fun x hx => by
  obtain ⟨i, hi, rfl⟩ := LL_mem hx
  exact (lt_nm (by omega)).n
theorem jnc_cons (c : Nat) (a : List Nat) {xs : List (List Nat)} (h : xs ≠ []) : jnc c (a :: xs) = a ++ c :: jnc c xs := by
  cases xs with
  | nil => exact absurd rfl h
  | cons x r => rfl
theorem jnc_snoc (c : Nat) (z : List Nat) : ∀ {xs : List (List Nat)}, xs ≠ [] → jnc c (xs ++ [z]) = jnc c xs ++ c :: z
  | [], h => absurd rfl h
  | [x], _ => rfl
  | x :: y :: r, _ => by
    have := jnc_snoc c z (xs := y :: r) (by simp)
    show x ++ c :: jnc c ((y :: r) ++ [z]) = (x ++ c :: jnc c (y :: r)) ++ c :: z
    rw [this, List.append_assoc]
    rfl
theorem jnc_le' (c : Nat) : ∀ xs : List (List Nat), (∀ z ∈ xs, z.length ≤ 28) → (jnc c xs).length ≤ 29 * xs.length
  | [], _ => by simp [jnc]
  | [x], h => by have := h x (by simp); show x.length ≤ _; simp only [List.length_cons, List.length_nil]; omega
  | x :: y :: r, h => by
    have i1 := jnc_le' c (y :: r) fun z hz => h z (List.mem_cons_of_mem _ hz)
    have i2 := h x (by simp)
    show (x ++ c :: jnc c (y :: r)).length ≤ _
    rw [List.length_append, List.length_cons, List.length_cons]
    omega
theorem jnc_no {c b : Nat} (hc : b ≠ c) : ∀ {xs : List (List Nat)}, (∀ z ∈ xs, b ∉ z) → b ∉ jnc c xs
  | [], _ => by simp [jnc]
  | [x], h => h x (by simp)
  | x :: y :: r, h => by
    have i1 := jnc_no hc (xs := y :: r) fun z hz => h z (List.mem_cons_of_mem _ hz)
    show b ∉ x ++ c :: jnc c (y :: r)
    simp only [List.mem_append, List.mem_cons, not_or]
    exact ⟨h x (by simp), hc, i1⟩
theorem tx_long {ws : List (List Nat)} (h0 : ws ≠ []) (h4 : ws.length ≠ 4) (h : ∀ z ∈ ws, 32 ∉ z ∧ 10 ∉ z ∧ z.length ≤ 28) (hl : ws.length ≤ 90) : TxOk ws := by
  have := jnc_le' 32 ws fun z hz => (h z hz).2.2
  exact ⟨h0, fun z hz => (h z hz).1, jnc_no (by decide) fun z hz => (h z hz).2.1, fun z hz => by have := (h z hz).2.2; omega, by omega, by omega, fun w a b t e => absurd (by rw [e]; rfl) h4⟩
def wP (n : List Nat) (X : List (List Nat)) : List (List Nat) := [112, 97, 114, 116] :: n :: X
theorem wP_tx {n : List Nat} {X : List (List Nat)} (hn : Nm n) (h : ∀ x ∈ X, 32 ∉ x ∧ 10 ∉ x ∧ x.length ≤ 28) (l : X.length ≤ 80) (h2 : X.length ≠ 2) : TxOk (wP n X) := by
  refine tx_long (by unfold wP; simp) (by unfold wP; simp only [List.length_cons]; omega) (fun z hz => ?_) (by unfold wP; simp only [List.length_cons]; omega)
  unfold wP at hz
  rcases List.mem_cons.mp hz with rfl | hz
  · decide
  · rcases List.mem_cons.mp hz with rfl | hz
    · exact nm_tx hn
    · exact h z hz
theorem beg_name {Y : YS} {n x : List Nat} {X : List (List Nat)} (ho : Y.op = none) (h : (n :: x :: X).all nmB = false ∨ ¬ ((x :: X).map S).Nodup ∨ S n ∈ Y.pa.map (·.1)) : tV Y (wP n (x :: X)) = .error .name := by
  refine tV_part.trans ?_
  unfold begV
  rw [ho]
  dsimp only
  by_cases c : (n :: x :: X).all nmB = false
  · rw [if_pos c]
  · rw [if_neg c, if_pos (h.resolve_left c)]
theorem beg_many {Y : YS} {n x : List Nat} {X : List (List Nat)} (ho : Y.op = none) (h : (n :: x :: X).all nmB = true) (nd : ((x :: X).map S).Nodup) (nn : S n ∉ Y.pa.map (·.1)) (m : 20 ≤ Y.pa.length ∨ 20 < (x :: X).length) : tV Y (wP n (x :: X)) = .error .many := by
  refine tV_part.trans ?_
  unfold begV
  rw [ho]
  dsimp only
  rw [if_neg (by rw [h]; exact fun z => by cases z), if_neg (fun z => z.elim (fun z => z nd) nn), if_pos m]
theorem LL_cons (n : Nat) : ∃ X, LL (n + 1) = lt 0 :: X := by
  unfold LL
  rw [List.range_succ_eq_map]
  exact ⟨_, rfl⟩
def kw : List Nat := [107, 117, 119]
def kx : List Nat := [107, 117, 120]
theorem kw_nm : Nm kw := ⟨by decide, by decide, by decide, by decide⟩
theorem kw_lt (i : Nat) : S (lt i) ≠ S kw := fun z => by have := congrArg List.length (S_inj.mp z); exact absurd this (by show ¬ 2 = 3; decide)
theorem kx_lt (i : Nat) : S (lt i) ≠ S kx := fun z => by have := congrArg List.length (S_inj.mp z); exact absurd this (by show ¬ 2 = 3; decide)
theorem PAok.notl {pa : List (Str × PD)} {k : Nat} {n : List Nat} (h : PAok pa k) (hn : ∀ i, S (lt i) ≠ S n) : S n ∉ pa.map (·.1) := by
  rw [h]
  intro z
  obtain ⟨i, _, e⟩ := List.mem_map.mp z
  exact hn i e
theorem LL_tx {n : Nat} (h : n ≤ 600) : ∀ x ∈ LL n, 32 ∉ x ∧ 10 ∉ x ∧ x.length ≤ 28 := fun x hx => by
  obtain ⟨i, hi, rfl⟩ := LL_mem hx
  exact nm_tx (lt_nm (by omega))
theorem pk_is {n : Nat} (h : LL n ≠ []) : ("part kuw " : Str) ++ Str.join " " ((LL n).map S) = S (jnc 32 (wP kw (LL n))) := by
  rw [show (" " : Str) = ⟨#[32]⟩ by decide +kernel, S_jnc, show ("part kuw " : Str) = S [112, 97, 114, 116, 32, 107, 117, 119, 32] by decide +kernel, S_app]
  unfold wP
  rw [jnc_cons 32 _ (by simp), jnc_cons 32 _ h]
  rfl
theorem pk_aa {n : Nat} : S (jnc 32 (wP kw (LL n))) ++ " aa" = S (jnc 32 (wP kw (LL n ++ [lt 0]))) := by
  rw [show (" aa" : Str) = S (32 :: lt 0) by decide +kernel, S_app]
  have : wP kw (LL n ++ [lt 0]) = wP kw (LL n) ++ [lt 0] := rfl
  rw [this, jnc_snoc 32 _ (by unfold wP; simp)]
theorem pk_cut {n : Nat} (h : LL n ≠ []) : ("part aa" : Str) ++ Txt.slice (S (jnc 32 (wP kw (LL n)))) (some 8) none = S (jnc 32 (wP (lt 0) (LL n))) := by
  rw [show (8 : Int) = ((8 : Nat) : Int) from rfl, slice_from, show ("part aa" : Str) = S [112, 97, 114, 116, 32, 97, 97] by decide +kernel, S_app]
  unfold wP
  rw [jnc_cons 32 _ (by simp), jnc_cons 32 _ h, jnc_cons 32 _ (by simp), jnc_cons 32 _ h]
  rfl
theorem jn_sum : ∀ {xs : List (List Nat)}, (∀ x ∈ xs, x.length ≤ 28) → ((xs.map S).map (·.length)).sum ≤ 28 * xs.length
  | [], _ => by simp
  | x :: r, h => by
    have i1 := jn_sum fun z hz => h z (List.mem_cons_of_mem _ hz)
    have i2 := h x (by simp)
    rw [List.map_cons, List.map_cons, List.sum_cons, List.length_cons, S_len]
    omega
def spParts (CY CP : Addr) (K : PySem.W.Frag) : Sp := fun vs H Q _ => ∃ (y d : Addr) (gr : PD) (pa : List (Str × PD)) (cc : Int) (w : Nat), vs = [.ref y, .int 7, .int cc] ∧ YG CY CP K [] H y d ⟨gr, pa, none⟩ ∧ WfY w ⟨gr, pa, none⟩ ∧ w ≤ 200 ∧ PAok pa 7 ∧ ∀ H', Q (.bl true) H'
theorem nd_k : (["_law_k"] : List Str).Nodup := by decide +kernel
theorem row_full {Y : YS} {k : Kd} {a b t : List Nat} {p : Mq.Q2} (na : nmB a = true) (nb : nmB b = true) (ha : S a ∈ Y.cur.ls) (hb : S b ∉ Y.cur.ls) (wr : Wr p t) (ok : okz k (some p) = true) (l20 : Y.cur.ls.length = 20) : tV Y [wdC k, a, b, t] = .error .many := by
  refine tV_row.trans ?_
  unfold rowV
  rw [if_neg (by rw [na, nb]; exact fun z => by cases z), rdV_some wr]
  dsimp only
  rw [if_neg (by rw [ok]; exact fun z => by cases z)]
  unfold fitV
  refine if_neg (fun f => ?_)
  have h := f.1
  have e : (addRow Y.cur k a b p).ls = Y.cur.ls ++ [S b] := by
    show lput (lput Y.cur.ls (S a)) (S b) = _
    rw [show lput Y.cur.ls (S a) = Y.cur.ls from if_pos ha]
    exact if_neg hb
  rw [e, List.length_append, l20] at h
  exact absurd h (by show ¬ 20 + 1 ≤ 20; decide)
def NMs (pa : List (Str × PD)) (i : Nat) : Prop := pa.map (·.1) = (List.range 7).map (fun j => S (lt j)) ++ S kw :: (List.range i).map fun j => S (lt (38 + j))
theorem NMs.len {pa : List (Str × PD)} {i : Nat} (h : NMs pa i) : pa.length = 8 + i := by
  have := congrArg List.length h
  simp at this
  omega
theorem NMs.not {pa : List (Str × PD)} {i : Nat} (h : NMs pa i) : S (lt (38 + i)) ∉ pa.map (·.1) := by
  rw [h]
  intro z
  rcases List.mem_append.mp z with z | z
  · obtain ⟨j, hj, e⟩ := List.mem_map.mp z
    have := lt_inj (S_inj.mp e)
    have := List.mem_range.mp hj
    omega
  · rcases List.mem_cons.mp z with z | z
    · exact kw_lt _ z
    · obtain ⟨j, hj, e⟩ := List.mem_map.mp z
      have := lt_inj (S_inj.mp e)
      have := List.mem_range.mp hj
      omega
theorem NMs.nokx {pa : List (Str × PD)} {i : Nat} (h : NMs pa i) : S kx ∉ pa.map (·.1) := by
  rw [h]
  intro z
  rcases List.mem_append.mp z with z | z
  · obtain ⟨j, _, e⟩ := List.mem_map.mp z
    exact kx_lt _ e
  · rcases List.mem_cons.mp z with z | z
    · exact absurd (S_inj.mp z) (by decide)
    · obtain ⟨j, _, e⟩ := List.mem_map.mp z
      exact kx_lt _ e
theorem NMs.aa {pa : List (Str × PD)} {i : Nat} (h : NMs pa i) : S (lt 0) ∈ pa.map (·.1) := by
  rw [h]
  exact List.mem_append_left _ (List.mem_map.mpr ⟨0, by simp, rfl⟩)
theorem NMs.snoc {pa : List (Str × PD)} {i : Nat} {P : PD} (h : NMs pa i) : NMs (pa ++ [(S (lt (38 + i)), P)]) (i + 1) := by
  unfold NMs at h ⊢
  rw [List.map_append, h, show List.range (i + 1) = List.range i ++ [i] from List.range_succ, List.map_append, List.append_assoc]
  rfl
theorem NMs.of {pa : List (Str × PD)} {P : PD} (h : PAok pa 7) : NMs (pa ++ [(S kw, P)]) 0 := by
  unfold NMs
  rw [List.map_append, h]
  rfl
theorem pa1_is (n : Nat) : ("part " : Str) ++ S (lt n) ++ " a" = S (jnc 32 (wP (lt n) [[97]])) := by
  rw [show ("part " : Str) = S [112, 97, 114, 116, 32] by decide +kernel, show (" a" : Str) = S [32, 97] by decide +kernel]
  simp only [S_app]
  rfl
theorem pu_is (n : Nat) : ("push aa " : Str) ++ S (lt n) ++ " 1" = S (jnc 32 [wdC .pu, lt 0, lt n, [49]]) := by
  rw [show ("push aa " : Str) = S [112, 117, 115, 104, 32, 97, 97, 32] by decide +kernel, show (" 1" : Str) = S [32, 49] by decide +kernel]
  simp only [S_app]
  rfl
abbrev sParts : Stmt := top 61
theorem scParts : FnScope ["_law_yard", "_law_told", "_law_cell", "_law_some", "_law_k", "_law_row"] ["_law_yard", "_law_told", "_law_cell"] (defScope sParts) := ⟨rfl, rfl, rfl, by decide +kernel, rfl, by decide +kernel, by decide +kernel⟩
theorem ok_parts {dV : Value} (F : FunD K "_law_parts_told" "_law_parts_told" sParts dV f fd)
    {CY CP : Addr} {cl : Er → Addr} (YTx : YaT K mg CY) (mr : mg "range" = none)
    {gTe : Addr} {gdTe : FuncData} (GTe : FnOk P w K mg base (CX1 P w) 7 gTe gdTe ["self", "row"] (spTellG CY CP (cl .row) (cl .name) (cl .num) (cl .size) (cl .many) K)) (bTe : Binds K gdTe ["self", "row"] []) (mTe : Meth K CY "tell" gTe)
    (G1 : FnOk P w K mg base CX0 8 g1 gd1 ["_law_yard", "_law_row"] (spManyL CY CP K)) (b1 : Binds K gd1 ["_law_yard", "_law_row"] []) (k1 : PySem.W.keepIn K (.ref g1) = true) (m1 : mg "_law_many" = some (.ref g1))
    (G2 : FnOk P w K mg base CX0 1 g2 gd2 ["_law_k"] spLet) (b2 : Binds K gd2 ["_law_k"] []) (k2 : PySem.W.keepIn K (.ref g2) = true) (m2 : mg "_law_letter" = some (.ref g2))
    (G3 : FnOk P w K mg base CX0 9 g3 gd3 ["_law_yard", "_law_two", "_law_rows"] (spFull CY CP K)) (b3 : Binds K gd3 ["_law_yard", "_law_two", "_law_rows"] []) (k3 : PySem.W.keepIn K (.ref g3) = true) (m3 : mg "_law_full" = some (.ref g3)) :
    FnOk P w K mg base CX 10 f fd ["_law_yard", "_law_told", "_law_cell"] (spParts CY CP K) := by
  refine F.ok scParts (fun vs H Q E h => ?_) (fun cdv A outer s H vs Q E hr h => ?_)
  · obtain ⟨y, d, gr, pa, cc, w, rfl, G, W, hw, pao, q⟩ := h
    rfl
  obtain ⟨y, d, gr, pa, cc, w, rfl, G, W, hw, pao, q⟩ := h
  have hz : sizeLine = 16777216 := sizeLine_eq
  have r1 := hr.mono (show 1 ≤ 9 by omega)
  have r7 := hr.mono (show 7 ≤ 9 by omega)
  have r8 := hr.mono (show 8 ≤ 9 by omega)
  have plen := pao.len
  have e9 : ("part kuw " : Str).length = 9 := by decide +kernel
  have e1s : (" " : Str).length = 1 := by decide +kernel
  have eaa : (" aa" : Str).length = 3 := by decide +kernel
  have epa : ("part aa" : Str).length = 7 := by decide +kernel
  obtain ⟨X20, eX⟩ := LL_cons 20
  have n21 : LL 21 ≠ [] := by rw [show LL 21 = lt 0 :: X20 from eX]; simp
  obtain ⟨X19, eX19⟩ := LL_cons 19
  have n20 : LL 20 ≠ [] := by rw [show LL 20 = lt 0 :: X19 from eX19]; simp
  have jl : ∀ n, n ≤ 21 → (jnc 32 (wP kw (LL n))).length ≤ 1000 := fun n hn => by
    have := jnc_le' 32 (wP kw (LL n)) fun z hz => by
      unfold wP at hz
      rcases List.mem_cons.mp hz with rfl | hz
      · decide
      · rcases List.mem_cons.mp hz with rfl | hz
        · decide
        · exact (LL_tx (by omega) z hz).2.2
    unfold wP at this ⊢
    simp only [List.length_cons, LL_len] at this
    omega
  have jb : ∀ n, n ≤ 21 → (((LL n).map S).map (·.length)).sum + ((LL n).map S).length * (" " : Str).length ≤ 1000000 := fun n hn => by
    have := jn_sum fun x hx => (LL_tx (n := n) (by omega) x hx).2.2
    rw [e1s, List.length_map, LL_len]
    rw [LL_len] at this
    omega
  have jj : ∀ n, n ≤ 21 → (Str.join " " ((LL n).map S)).length ≤ 1000 := fun n hn => by
    rw [show (" " : Str) = ⟨#[32]⟩ by decide +kernel, S_jnc, S_len]
    have := jnc_le' 32 (LL n) fun z hz => (LL_tx (by omega) z hz).2.2
    rw [LL_len] at this
    omega
  refine ⟨_, (pss_cons (ps_set (i := 3) scParts.nd rfl (Or.inl rfl) (pe_lst (pa_cons (pe_op op_add_str pe_str (pe_bm PySem.F.plainAttrs_str PySem.F.slot_str_join PySem.F.type_str_join mt_join pe_str (pa_cons (pe_comp (nl := 1) (fr := []) (Nc := ["_law_k"]) (cl := []) rfl ⟨rfl, rfl, by decide +kernel, by decide +kernel, fun x c h => (by cases h), has_of rfl, rfl, fun i n h => (by simp at h)⟩
        (pi_range1 rfl mr (pa_cons pe_int pa_nil)) (fun C s3 H3 fp pins => (pg_name (i := 0) nd_k rfl (Or.inl rfl))) (fun C s3 H3 fp pins => pif_nil)
        (fun C s3 H3 fp pins => (pe_call G2 r1 rfl m2 k2 b2 .nil pass0 (pa_cons (pv 0) pa_nil)))) pa_nil))) pa_nil)))
    (pss_cons (ps_if (PW.pt (pw_or (pt_cmpR op_ne (pe_call G1 r8 rfl m1 k1 b1 .nil pass0 (pa_cons (pv 0) (pa_cons (pe_ix ix_list (pv 3) pe_int (fun _ _ => rfl)) pa_nil))) pe_str (nomark _)) (pw_or1 (pt_cmpR op_ne (pe_call G1 r8 rfl m1 k1 b1 .nil pass0 (pa_cons (pv 0) (pa_cons (pe_op op_add_str (pe_ix ix_list (pv 3) pe_int (fun _ _ => rfl)) pe_str) pa_nil))) pe_str (nomark _))))) (pss_one (ps_ret pe_bl)) pss_nil)
    (pss_cons (ps_if (pt_cmpR op_ne (pe_call G1 r8 rfl m1 k1 b1 .nil pass0 (pa_cons (pv 0) (pa_cons (pe_op op_add_str pe_str (pe_slice sl_str (pe_ix ix_list (pv 3) pe_int (fun _ _ => rfl)) (po_some pe_int) po_none)) pa_nil))) pe_str (nomark _)) (pss_one (ps_ret pe_bl)) pss_nil)
    (pss_cons (ps_expr (pe_meth (pv 0) YTx.cl mTe GTe.calm r7 bTe .nil pass0 (pa_cons (pe_op op_add_str pe_str (pe_bm PySem.F.plainAttrs_str PySem.F.slot_str_join PySem.F.type_str_join mt_join pe_str (pa_cons (pe_comp (nl := 1) (fr := []) (Nc := ["_law_k"]) (cl := []) rfl ⟨rfl, rfl, by decide +kernel, by decide +kernel, fun x c h => (by cases h), has_of rfl, rfl, fun i n h => (by simp at h)⟩
        (pi_range1 rfl mr (pa_cons pe_int pa_nil)) (fun C s3 H3 fp pins => (pg_name (i := 0) nd_k rfl (Or.inl rfl))) (fun C s3 H3 fp pins => pif_nil)
        (fun C s3 H3 fp pins => (pe_call G2 r1 rfl m2 k2 b2 .nil pass0 (pa_cons (pv 0) pa_nil)))) pa_nil))) pa_nil)))
    (pss_cons (ps_expr (pe_meth (pv 0) YTx.cl mTe GTe.calm r7 bTe .nil pass0 (pa_cons (pe_op op_add_str (pe_op op_add_str pe_str (pe_call G2 r1 rfl m2 k2 b2 .nil pass0 (pa_cons pe_int pa_nil))) pe_str) pa_nil)))
    (pss_cons (ps_if (PW.pt (pw_or (pt_cmpR op_ne (pe_call G1 r8 rfl m1 k1 b1 .nil pass0 (pa_cons (pv 0) (pa_cons pe_str pa_nil))) pe_str (nomark _)) (pw_or1 (pt_cmpR op_ne (pe_call G1 r8 rfl m1 k1 b1 .nil pass0 (pa_cons (pv 0) (pa_cons pe_str pa_nil))) pe_str (nomark _))))) (pss_one (ps_ret pe_bl)) pss_nil)
    (pss_cons (ps_if (PW.pt (pw_or (pt_cmpR op_ne (pe_call G1 r8 rfl m1 k1 b1 .nil pass0 (pa_cons (pv 0) (pa_cons pe_str pa_nil))) pe_str (nomark _)) (pw_or1 (pt_not (pt_val (pe_call G3 hr rfl m3 k3 b3 .nil pass0 (pa_cons (pv 0) (pa_cons pe_str (pa_cons pe_int pa_nil))))))))) (pss_one (ps_ret pe_bl)) pss_nil)
    (pss_cons (ps_expr (pe_meth (pv 0) YTx.cl mTe GTe.calm r7 bTe .nil pass0 (pa_cons pe_str pa_nil)))
    (pss_cons (ps_for PassesOwn.never rfl (pi_range2 rfl mr (pa_cons (pe_op op_add (pv 1) pe_int) (pa_cons pe_int pa_nil))) (pg_name (i := 4) scParts.nd rfl (Or.inl rfl))
      (pss_cons (ps_expr (pe_meth (pv 0) YTx.cl mTe GTe.calm r7 bTe .nil pass0 (pa_cons (pe_op op_add_str (pe_op op_add_str pe_str (pe_call G2 r1 rfl m2 k2 b2 .nil pass0 (pa_cons (pe_op op_add pe_int (pv 4)) pa_nil))) pe_str) pa_nil)))
    (pss_one (ps_expr (pe_meth (pv 0) YTx.cl mTe GTe.calm r7 bTe .nil pass0 (pa_cons pe_str pa_nil))))))
    (pss_cons (ps_for PassesOwn.never rfl (pi_list (pe_lst (pa_cons pe_str (pa_cons pe_str (pa_cons pe_str pa_nil))))) (pg_name (i := 5) scParts.nd rfl (Or.inl rfl))
      (pss_one (ps_if (pt_cmpR op_ne (pe_call G1 r8 rfl m1 k1 b1 .nil pass0 (pa_cons (pv 0) (pa_cons (pv 5) pa_nil))) pe_str (nomark _)) (pss_one (ps_ret pe_bl)) pss_nil)))
    (pss_one (ps_ret (pe_and (pe_cmpR op_eq (pe_call G1 r8 rfl m1 k1 b1 .nil pass0 (pa_cons (pv 0) (pa_cons pe_str pa_nil))) pe_str (nomark _)) (pe_one (pe_cmpR op_eq (pe_call G1 r8 rfl m1 k1 b1 .nil pass0 (pa_cons (pv 0) (pa_cons pe_str pa_nil))) pe_str (nomark _)))))))))))))))), ?_⟩
  have lw : ∀ z ∈ LL 21, 32 ∉ z ∧ 10 ∉ z ∧ z.length ≤ 28 := LL_tx (by omega)
  have tA : tV ⟨gr, pa, none⟩ (wP kw (LL 21)) = .error .many := by
    have h1 := LL_all (n := 21) (by omega)
    have h2 := LL_nd 21
    have h3 := LL_len 21
    rw [show LL 21 = lt 0 :: X20 from eX] at h1 h2 h3 ⊢
    refine beg_many rfl ?_ h2 (pao.notl kw_lt) (.inr (by rw [h3]; decide))
    rw [List.all_cons, h1]
    decide
  have tB : tV ⟨gr, pa, none⟩ (wP kw (LL 21 ++ [lt 0])) = .error .name := by
    rw [show LL 21 = lt 0 :: X20 from eX]
    refine beg_name rfl (.inr (.inl fun z => ?_))
    have := (List.nodup_cons.mp (show (S (lt 0) :: (X20 ++ [lt 0]).map S).Nodup from z)).1
    exact this (List.mem_map.mpr ⟨lt 0, by simp, rfl⟩)
  have tCn : tV ⟨gr, pa, none⟩ (wP (lt 0) (LL 21)) = .error .name := by
    rw [show LL 21 = lt 0 :: X20 from eX]
    refine beg_name rfl (.inr (.inr ?_))
    show S (lt 0) ∈ pa.map (·.1)
    rw [show pa.map (·.1) = _ from pao]
    exact List.mem_map.mpr ⟨0, by simp, rfl⟩
  have tD : tV ⟨gr, pa, none⟩ (wP kw (LL 20)) = .ok ⟨gr, pa, some (S kw, ⟨(LL 20).map S, (LL 20).length, [], []⟩)⟩ := by
    have h1 := LL_all (n := 20) (by omega)
    have h2 := LL_nd 20
    have h3 := LL_len 20
    rw [show LL 20 = lt 0 :: X19 from eX19] at h1 h2 h3 ⊢
    refine tV_part.trans (begV_ok rfl ?_ h2 (pao.notl kw_lt) (by show pa.length < 20; omega) (by rw [h3]; decide))
    rw [List.all_cons, h1]
    decide
  have txA : TxOk (wP kw (LL 21)) := wP_tx kw_nm lw (by rw [LL_len]; decide) (by rw [LL_len]; decide)
  have txB : TxOk (wP kw (LL 21 ++ [lt 0])) := wP_tx kw_nm (fun x hx => by
    rcases List.mem_append.mp hx with hx | hx
    · exact lw x hx
    · rw [List.mem_singleton] at hx; rw [hx]; decide) (by rw [List.length_append, LL_len]; decide) (by rw [List.length_append, LL_len]; decide)
  have txC : TxOk (wP (lt 0) (LL 21)) := wP_tx (lt_nm (by decide)) lw (by rw [LL_len]; decide) (by rw [LL_len]; decide)
  have txD : TxOk (wP kw (LL 20)) := wP_tx kw_nm (LL_tx (by omega)) (by rw [LL_len]; decide) (by rw [LL_len]; decide)
  have WD := tV_wf W txD.ne txD.bd tD
  -- some
  refine cut3 (fun σ H' => ∃ z3, σ = [some (.ref y), some (.int 7), some (.int cc), z3, none, none] ∧ Same H H') (fun X hX => ?_) ?_
  · refine ⟨rfl, (21 : Int), rfl, by decide, by decide, fun T1 hT1 => ?_⟩
    have sNT1 := same_new hT1 (.lst [])
    refine comp_range (n := 21) (fun k zs H' => Same H H' ∧ H' T1 = some (.lst zs) ∧ zs = ((LL k).map S).map V.str) ⟨sNT1, upd_same, rfl⟩ (fun k zs H' h => h.2.1) ?_ ?_
    · rintro k zs Hx hk ⟨sx, ex, rfl⟩ C hC
      rw [Int.zero_add]
      refine ⟨keep1.1, keep1.2, iteT ?_⟩
      refine ⟨_, rfl, k, rfl, by omega, ex, small1000 (by rw [List.length_map, List.length_map, LL_len]; omega), hC _ _ ⟨sx.change hT1, upd_same, ?_⟩⟩
      unfold LL
      rw [List.range_succ, List.map_append, List.map_append, List.map_append]
      rfl
    rintro zs H1 ⟨s1, e1, rfl⟩
    have e1 : H1 T1 = some (.lst (((LL 21).map S).map V.str)) := e1
    refine ⟨_, T1, (LL 21).map S, rfl, rfl, SqL.of e1, jb 21 (by omega), _, _, rfl, rfl, (by have := jj 21 (by omega); rw [e9]; omega), by show 1 ≤ sizeLine; decide, fun L hL => ?_⟩
    rw [pk_is n21]
    have s2 := same_new hL (.lst [V.str (S (jnc 32 (wP kw (LL 21))))])
    have e2 : upd H1 L (.lst [V.str (S (jnc 32 (wP kw (LL 21))))]) L = some (.lst [V.str (S (jnc 32 (wP kw (LL 21))))]) := upd_same
    generalize upd H1 L (.lst [V.str (S (jnc 32 (wP kw (LL 21))))]) = H2 at s2 e2 ⊢
    have j1 := jl 21 (by omega)
    refine ⟨_, rfl, _, rfl, L, _, 0, _, rfl, rfl, SqL.of e2, rfl, [], y, d, _, w, _, rfl, G.same (s1.trans s2), W, by omega, txA, ?_⟩
    rw [tA]
    refine ⟨(fun z => by cases z), fun H3 s3 => ⟨rfl, _, rfl, L2.ifF (by decide) ?_⟩⟩
    have e3 := s3 _ _ e2
    refine ⟨_, rfl, _, rfl, L, _, 0, _, rfl, rfl, SqL.of e3, rfl, _, _, rfl, rfl, (by rw [S_len, eaa]; omega), ?_⟩
    rw [pk_aa]
    refine ⟨[], y, d, _, w, _, rfl, G.same (s1.trans (s2.trans s3)), W, by omega, txB, ?_⟩
    rw [tB]
    refine ⟨(fun z => by cases z), fun H4 s4 => ⟨rfl, _, rfl, L2.ifF (by decide) ?_⟩⟩
    have e4 := s4 _ _ e3
    refine ⟨_, rfl, _, rfl, L, _, 0, _, rfl, rfl, SqL.of e4, rfl, 8, rfl, _, rfl, (by rw [S_len]; omega), _, _, rfl, rfl, ?_, ?_⟩
    · have := Txt.slice_le (S (jnc 32 (wP kw (LL 21)))) (some 8) none
      rw [S_len] at this
      rw [epa]
      omega
    rw [pk_cut n21]
    refine ⟨[], y, d, _, w, _, rfl, G.same (s1.trans (s2.trans (s3.trans s4))), W, by omega, txC, ?_⟩
    rw [tCn]
    refine ⟨(fun z => by cases z), fun H5 s5 => ⟨rfl, _, rfl, L2.ifF (by decide) ?_⟩⟩
    exact hX _ _ ⟨_, rfl, s1.trans (s2.trans (s3.trans (s4.trans s5)))⟩
  rintro σ H1 ⟨z3, rfl, s01⟩
  have G1 := G.same s01
  have m0 : S (lt 0) ∈ (LL 20).map S := List.mem_map.mpr ⟨lt 0, by rw [show LL 20 = lt 0 :: X19 from eX19]; simp, rfl⟩
  have mi : ∀ i, i < 20 → S (lt i) ∈ (LL 20).map S := fun i hi => List.mem_map.mpr ⟨lt i, List.mem_map.mpr ⟨i, List.mem_range.mpr hi, rfl⟩, rfl⟩
  have l20 : ((LL 20).map S).length = 20 := by rw [List.length_map, LL_len]
  -- the part of twenty ends
  refine cut2 (fun σ H' => ∃ P4 : PD, σ = [some (.ref y), some (.int 7), some (.int cc), z3, none, none] ∧ YG CY CP K [] H' y d ⟨gr, pa, some (S kw, P4)⟩ ∧ WfY (w + 2) ⟨gr, pa, some (S kw, P4)⟩ ∧ P4.ls = (LL 20).map S ∧ P4.ds.length = 1) (fun X hX => ?_) ?_
  · obtain ⟨dyZ, gZ, oZ, qZ, kvsZ, hyZ, _, hdZ, _⟩ := id G1
    refine ⟨_, rfl, y, dyZ, _, rfl, hyZ, (by with_unfolding_all rfl), ?_⟩
    refine ⟨rfl, (20 : Int), rfl, by decide, by decide, fun T1 hT1 => ?_⟩
    have sNT1 := same_new hT1 (.lst [])
    refine comp_range (n := 20) (fun k zs H' => Same H1 H' ∧ H' T1 = some (.lst zs) ∧ zs = ((LL k).map S).map V.str) ⟨sNT1, upd_same, rfl⟩ (fun k zs H' h => h.2.1) ?_ ?_
    · rintro k zs Hx hk ⟨sx, ex, rfl⟩ C hC
      rw [Int.zero_add]
      refine ⟨keep1.1, keep1.2, iteT ?_⟩
      refine ⟨_, rfl, k, rfl, by omega, ex, small1000 (by rw [List.length_map, List.length_map, LL_len]; omega), hC _ _ ⟨sx.change hT1, upd_same, ?_⟩⟩
      unfold LL
      rw [List.range_succ, List.map_append, List.map_append, List.map_append]
      rfl
    rintro zs H2 ⟨s2, e2, rfl⟩
    have e2 : H2 T1 = some (.lst (((LL 20).map S).map V.str)) := e2
    refine ⟨_, T1, (LL 20).map S, rfl, rfl, SqL.of e2, jb 20 (by omega), _, _, rfl, rfl, (by have := jj 20 (by omega); rw [e9]; omega), ?_⟩
    rw [pk_is n20]
    dsimp only [tCons, tC, tNil]; change spTellG CY CP (cl .row) (cl .name) (cl .num) (cl .size) (cl .many) K [.ref y, .str _] _ _ _
    refine tell_ok (G1.same s2) W (by omega) txD tD (fun H3 s3 G3 => ?_)
    obtain ⟨dyN, gN, oN, qN, kvsN, hyN, _, hdN, _⟩ := id G3
    have ep : ("push aa " : Str).length = 8 := by decide +kernel
    have e1' : (" 1" : Str).length = 2 := by decide +kernel
    refine ⟨_, rfl, y, dyN, _, rfl, hyN, (by with_unfolding_all rfl), 19, rfl, by decide, _, _, rfl, rfl, (by rw [S_len, ep]; show 8 + 2 ≤ sizeLine; omega), _, _, rfl, rfl, (by simp only [len2, S_len, ep, e1']; show 8 + 2 + 2 ≤ sizeLine; omega), ?_⟩
    rw [pu_is]
    dsimp only [tCons, tC, tNil]; change spTellG CY CP (cl .row) (cl .name) (cl .num) (cl .size) (cl .many) K [.ref y, .str _] _ _ _
    obtain ⟨a1, a2, a3, _⟩ := row_same (Y := ⟨gr, pa, some (S kw, ⟨(LL 20).map S, (LL 20).length, [], []⟩)⟩) (k := .pu) (a := lt 0) (b := lt 19) (lt_nm (by decide)).n (lt_nm (by decide)).n m0 (mi 19 (by decide)) (wr1 (d := 1) (by decide)) (ok_all (by decide)) (by show ((LL 20).map S).length ≤ 20; omega)
    have a3 := a3 (by show 0 < 40; decide)
    have tx3 : TxOk [wdC .pu, lt 0, lt 19, [49]] := tx_row1 (by decide) (by decide) (by decide)
    refine tell_ok G3 WD (by omega) tx3 a3 (fun H4 s4 G4 => ?_)
    exact hX _ _ ⟨_, rfl, G4, tV_wf WD tx3.ne tx3.bd a3, a1, a2⟩
  rintro σ H2 ⟨P4, rfl, G2', W2, pl4, pd4⟩
  have txE : TxOk [wdC .pu, lt 0, kw, [49]] := tx_row1 (by decide) (by decide) (by decide)
  have txF : TxOk [wdC .pu, lt 0, kw, [120]] := tx_row1 (by decide) (by decide) (by decide)
  have txG : TxOk [wdC .pc, kw, lt 0, [48]] := tx_row1 (by decide) (by decide) (by decide)
  have nk : S kw ∉ P4.ls := by
    rw [pl4]
    intro z
    obtain ⟨x, hx, e⟩ := List.mem_map.mp z
    obtain ⟨i, _, rfl⟩ := LL_mem hx
    exact kw_lt i e
  have p0 : S (lt 0) ∈ P4.ls := by rw [pl4]; exact m0
  have p1 : S (lt 1) ∈ P4.ls := by rw [pl4]; exact mi 1 (by decide)
  refine cut2 (fun σ H' => ∃ P5 : PD, σ = [some (.ref y), some (.int 7), some (.int cc), z3, none, none] ∧ YG CY CP K [] H' y d ⟨gr, pa, some (S kw, P5)⟩ ∧ WfY (w + 42) ⟨gr, pa, some (S kw, P5)⟩) (fun X hX => ?_) ?_
  · refine ⟨_, rfl, ?_⟩
    rw [show ("push aa kuw 1" : Str) = S (jnc 32 [wdC .pu, lt 0, kw, [49]]) by decide +kernel]
    refine ⟨[], y, d, _, w + 2, _, rfl, G2', W2, by omega, txE, ?_⟩
    rw [row_full (Y := ⟨gr, pa, some (S kw, P4)⟩) (k := .pu) (a := lt 0) (b := kw) (by decide) (by decide) p0 nk (wr1 (d := 1) (by decide)) (ok_all (by decide)) (by show P4.ls.length = 20; rw [pl4]; exact l20)]
    refine ⟨(fun z => by cases z), fun H3 s3 => ⟨rfl, _, rfl, L2.ifF (by decide) ?_⟩⟩
    refine ⟨_, rfl, ?_⟩
    rw [show ("push aa kuw x" : Str) = S (jnc 32 [wdC .pu, lt 0, kw, [120]]) by decide +kernel]
    refine ⟨[], y, d, _, w + 2, _, rfl, G2'.same s3, W2, by omega, txF, ?_⟩
    rw [row_num (by decide) (by decide) nwx]
    refine ⟨(fun z => by cases z), fun H4 s4 => ⟨rfl, _, rfl, L2.ifF (by decide) ?_⟩⟩
    refine ⟨_, rfl, ?_⟩
    rw [show ("piece kuw aa 0" : Str) = S (jnc 32 [wdC .pc, kw, lt 0, [48]]) by decide +kernel]
    refine ⟨[], y, d, _, w + 2, _, rfl, G2'.same (s3.trans s4), W2, by omega, txG, ?_⟩
    rw [row_size (by decide) (by decide)]
    refine ⟨(fun z => by cases z), fun H5 s5 => ⟨rfl, _, rfl, L2.ifF (by decide) ?_⟩⟩
    refine ⟨_, rfl, ?_⟩
    rw [show ("aa ba" : Str) = S (lt 0 ++ 32 :: lt 1) by decide +kernel]
    refine ⟨[], y, d, ⟨gr, pa, some (S kw, P4)⟩, w + 2, 1, lt 0, lt 1, rfl, G2'.same (s3.trans (s4.trans s5)), W2, by omega, lt_nm (by decide), lt_nm (by decide), p0, p1, pd4, by decide, fun P' H6 s6 G6 W6 _ _ _ _ => ?_⟩
    refine ⟨_, rfl, iteF ?_⟩
    exact hX _ _ ⟨P', rfl, G6, W6⟩
  rintro σ H3 ⟨P5, rfl, G3, W3⟩
  obtain ⟨dyZ, gZ, oZ, qZ, kvsZ, hyZ, _, hdZ, _⟩ := id G3
  have tE : tV ⟨gr, pa, some (S kw, P5)⟩ [[100, 111, 110, 101]] = .ok ⟨gr, pa ++ [(S kw, P5)], none⟩ := tV_done.trans rfl
  refine ⟨_, rfl, y, dyZ, _, rfl, hyZ, (by with_unfolding_all rfl), ?_⟩
  rw [done_is]
  dsimp only [tCons, tC, tNil]; change spTellG CY CP (cl .row) (cl .name) (cl .num) (cl .size) (cl .many) K [.ref y, .str _] _ _ _
  refine tell_ok G3 W3 (by omega) done_tx tE (fun H4 s4 G4 => ?_)
  have W4 := tV_wf W3 done_tx.ne done_tx.bd tE
  refine ⟨_, rfl, _, _, rfl, rfl, 8, 20, rfl, ⟨by decide, by decide, by decide, by decide⟩, ?_⟩
  refine for_range (n := 12) (fun i σ H' => ∃ (pb : List (Str × PD)) (z4 : Option V), σ = [some (.ref y), some (.int 7), some (.int cc), z3, z4, none] ∧ YG CY CP K [] H' y d ⟨gr, pb, none⟩ ∧ WfY (w + 43 + 2 * i) ⟨gr, pb, none⟩ ∧ NMs pb i) ⟨_, none, rfl, G4, W4, NMs.of pao⟩ ?_ ?_
  · rintro i σ Ha hi ⟨pb, z4, rfl, Ga, Wa, na⟩
    have lb := na.len
    have nmi := lt_nm (k := 38 + i) (by omega)
    have li := nmi.l
    have e5 : ("part " : Str).length = 5 := by decide +kernel
    have e2a : (" a" : Str).length = 2 := by decide +kernel
    obtain ⟨dyN, gN, oN, qN, kvsN, hyN, _, hdN, _⟩ := id Ga
    refine ⟨_, rfl, y, dyN, _, rfl, hyN, (by with_unfolding_all rfl), _, rfl, _, _, rfl, rfl, ?_⟩
    dsimp only
    rw [show ((30 : Int) + (8 + (i : Int))) = ((38 + i : Nat) : Int) by omega]
    refine ⟨38 + i, rfl, by omega, _, _, rfl, rfl, (by simp only [S_len, e5]; omega), _, _, rfl, rfl, (by simp only [len2, S_len, e5, e2a]; omega), ?_⟩
    rw [pa1_is]
    dsimp only [tCons, tC, tNil]; change spTellG CY CP (cl .row) (cl .name) (cl .num) (cl .size) (cl .many) K [.ref y, .str _] _ _ _
    have tF : tV ⟨gr, pb, none⟩ (wP (lt (38 + i)) [[97]]) = .ok ⟨gr, pb, some (S (lt (38 + i)), ⟨[S [97]], 1, [], []⟩)⟩ := tV_part.trans (begV_ok rfl (by simp only [List.all_cons, List.all_nil, Bool.and_true, nmi.n, Bool.true_and]; decide) (by decide +kernel) na.not (by show pb.length < 20; omega) (by show 1 ≤ 20; decide))
    have txP : TxOk (wP (lt (38 + i)) [[97]]) := wP_tx nmi (by decide) (by decide) (by decide)
    refine tell_ok Ga Wa (by omega) txP tF (fun Hb sb Gb => ?_)
    have Wb := tV_wf Wa txP.ne txP.bd tF
    obtain ⟨dyM, gM, oM, qM, kvsM, hyM, _, hdM, _⟩ := id Gb
    have tG : tV ⟨gr, pb, some (S (lt (38 + i)), ⟨[S [97]], 1, [], []⟩)⟩ [[100, 111, 110, 101]] = .ok ⟨gr, pb ++ [(S (lt (38 + i)), ⟨[S [97]], 1, [], []⟩)], none⟩ := tV_done.trans rfl
    refine ⟨_, rfl, y, dyM, _, rfl, hyM, (by with_unfolding_all rfl), ?_⟩
    dsimp only [tCons, tC, tNil]; change spTellG CY CP (cl .row) (cl .name) (cl .num) (cl .size) (cl .many) K [.ref y, .str _] _ _ _
    refine tell_ok Gb Wb (by omega) done_tx tG (fun Hc sc Gc => ?_)
    have Wc := tV_wf Wb done_tx.ne done_tx.bd tG
    exact ⟨_, _, rfl, Gc, Wc.mono (by omega), na.snoc⟩
  rintro σ Ha ⟨pb, z4, rfl, Ga, Wa, na⟩
  have lb := na.len
  refine ⟨by show 3 ≤ sizeLine; decide, fun L hL => ?_⟩
  have sb := same_new hL (.lst [V.str "part aa a", .str "part kux a a", .str "part kux A"])
  have eb : upd Ha L (.lst [V.str "part aa a", .str "part kux a a", .str "part kux A"]) L = some (.lst [V.str "part aa a", .str "part kux a a", .str "part kux A"]) := upd_same
  generalize upd Ha L (.lst [V.str "part aa a", .str "part kux a a", .str "part kux A"]) = Hb at sb eb ⊢
  refine ⟨L, rfl, ⟨_, SqL.of eb⟩, ?_⟩
  have Gb := Ga.same sb
  refine for_list (xs := [V.str "part aa a", .str "part kux a a", .str "part kux A"]) (fun i σ H' => Same Hb H' ∧ ∃ z5, σ = [some (.ref y), some (.int 7), some (.int cc), z3, z4, z5]) ⟨Same.refl _, none, rfl⟩ (fun i σ H' _ h => h.1.seq (SqL.of eb)) ?_ ?_
  · rintro i x σ Hc hx ⟨sc, z5, rfl⟩
    obtain ⟨ws, rfl, tx, te⟩ : ∃ ws, x = .str (S (jnc 32 ws)) ∧ TxOk ws ∧ tV ⟨gr, pb, none⟩ ws = .error .name := by
      have := List.mem_of_getElem? hx
      simp only [List.mem_cons, List.not_mem_nil, or_false] at this
      rcases this with rfl | rfl | rfl
      · exact ⟨wP (lt 0) [[97]], by rw [show ("part aa a" : Str) = S (jnc 32 (wP (lt 0) [[97]])) by decide +kernel], tx_of (by decide) (by decide) (by decide), beg_name rfl (.inr (.inr na.aa))⟩
      · exact ⟨wP kx [[97], [97]], by rw [show ("part kux a a" : Str) = S (jnc 32 (wP kx [[97], [97]])) by decide +kernel], tx_of (by decide) (by decide) (by decide), beg_name rfl (.inr (.inl (by decide +kernel)))⟩
      · exact ⟨wP kx [[65]], by rw [show ("part kux A" : Str) = S (jnc 32 (wP kx [[65]])) by decide +kernel], tx_of (by decide) (by decide) (by decide), beg_name rfl (.inl (by decide))⟩
    refine ⟨_, rfl, _, rfl, [], y, d, ⟨gr, pb, none⟩, _, ws, rfl, Gb.same sc, Wa, by omega, tx, ?_⟩
    rw [te]
    refine ⟨(fun z => by cases z), fun Hd sd => ⟨rfl, _, rfl, L2.ifF (by decide) ?_⟩⟩
    exact ⟨sc.trans sd, _, rfl⟩
  rintro σ Hc ⟨sc, z5, rfl⟩
  refine ⟨_, rfl, ?_⟩
  rw [show ("part kux a" : Str) = S (jnc 32 (wP kx [[97]])) by decide +kernel]
  refine ⟨[], y, d, ⟨gr, pb, none⟩, _, _, rfl, Gb.same sc, Wa, by omega, tx_of (by decide) (by decide) (by decide), ?_⟩
  rw [beg_many (Y := ⟨gr, pb, none⟩) rfl (by decide) (by decide +kernel) na.nokx (.inl (by show 20 ≤ pb.length; omega))]
  refine ⟨(fun z => by cases z), fun Hd sd => ⟨rfl, _, rfl, L2.ifT (by decide) ?_⟩⟩
  refine ⟨_, rfl, ?_⟩
  rw [show ("part kux a b" : Str) = S (jnc 32 (wP kx [[97], [98]])) by decide +kernel]
  refine ⟨[], y, d, ⟨gr, pb, none⟩, _, _, rfl, Gb.same (sc.trans sd), Wa, by omega, tx_of (by decide) (by decide) (by decide), ?_⟩
  rw [beg_many (Y := ⟨gr, pb, none⟩) rfl (by decide) (by decide +kernel) na.nokx (.inl (by show 20 ≤ pb.length; omega))]
  exact ⟨(fun z => by cases z), fun He se => ⟨rfl, q He⟩⟩
end
end K85

set_option Elab.async false
set_option linter.all false
set_option maxRecDepth 100000
set_option maxHeartbeats 4000000
namespace K85
open PySem L2 Tx
section
variable {P : Program} {w : World} {K : PySem.W.Frag} {mg : Str → Option Value} {base : Heap} {f g1 g2 g3 g4 g5 g6 g7 g8 : Addr} {fd gd1 gd2 gd3 gd4 gd5 gd6 gd7 gd8 : FuncData} {CX : CXT}
def spLaw (K : PySem.W.Frag) : Sp := fun vs H Q _ => ∃ (a : Addr) (ns : List Int), vs = [.ref a] ∧ SqL K H a (ns.map V.int) ∧ ns.length ≤ 63 ∧ ∀ H', Q (.bl true) H'
theorem syd_sql {CY CP : Addr} {av : List Addr} {H H' : Hp} {y d a : Addr} {Y : YS} {xs : List V} (G : YG CY CP K av H y d Y) (s : SYd y d H H') (h : SqL K H a xs) : SqL K H' a xs := by
  obtain ⟨dy, g, o, q, kvs, hy, _, hd, _⟩ := G
  rcases h with (h | ⟨u, h⟩) | h
  · exact .inl (.inl (s _ _ h (ne_of h hy (fun z => by cases z)) (ne_of h hd (fun z => by cases z))))
  · exact .inl (.inr ⟨u, s _ _ h (ne_of h hy (fun z => by cases z)) (ne_of h hd (fun z => by cases z))⟩)
  · exact .inr h
theorem syd_sqt {CY CP : Addr} {av : List Addr} {H H' : Hp} {y d a : Addr} {Y : YS} {xs : List V} (G : YG CY CP K av H y d Y) (s : SYd y d H H') (h : SqT K H a xs) : SqT K H' a xs := by
  obtain ⟨dy, g, o, q, kvs, hy, _, hd, _⟩ := G
  rcases h with (h | ⟨u, h⟩) | h
  · exact .inl (.inl (s _ _ h (ne_of h hy (fun z => by cases z)) (ne_of h hd (fun z => by cases z))))
  · exact .inl (.inr ⟨u, s _ _ h (ne_of h hy (fun z => by cases z)) (ne_of h hd (fun z => by cases z))⟩)
  · exact .inr h
theorem syd_lst {CY CP : Addr} {av : List Addr} {H H' : Hp} {y d a : Addr} {Y : YS} {xs : List V} (G : YG CY CP K av H y d Y) (s : SYd y d H H') (h : H a = some (.lst xs)) : H' a = some (.lst xs) := by
  obtain ⟨dy, g, o, q, kvs, hy, _, hd, _⟩ := G
  exact s _ _ h (ne_of h hy (fun z => by cases z)) (ne_of h hd (fun z => by cases z))
def sp2 : List (List Nat) := [[120], [121]]
theorem sp2_3 {s : List Nat} (h : s ∈ sp2) : s ∈ sp3 ∧ s ≠ [109] := by
  have : ∀ s ∈ sp2, s ∈ sp3 ∧ s ≠ [109] := by decide
  exact this s h
theorem at_xy {r : Int} (h0 : 0 ≤ r) (h3 : r < 2) : ∃ s ∈ sp2, atI [V.str "x", .str "y"] r = some (.str (S s)) := by
  have : r = 0 ∨ r = 1 := by omega
  rcases this with rfl | rfl
  · exact ⟨[120], by decide, by show some (V.str "x") = some (V.str (S [120])); rw [show ("x" : Str) = S [120] by decide +kernel]⟩
  · exact ⟨[121], by decide, by show some (V.str "y") = some (V.str (S [121])); rw [show ("y" : Str) = S [121] by decide +kernel]⟩
theorem put2_is (n s1 s2 : List Nat) : ("put " : Str) ++ S n ++ " ga " ++ Str.join " " [S s1, S s2] = S (jnc 32 [[112, 117, 116], n, lt 6, s1, s2]) := by
  have e3 : (" " : Str) = ⟨#[32]⟩ := by decide +kernel
  have e4 := S_jnc 32 [s1, s2]
  rw [show ([s1, s2] : List (List Nat)).map S = [S s1, S s2] from rfl, ← e3] at e4
  rw [e4, show ("put " : Str) = S [112, 117, 116, 32] by decide +kernel, show (" ga " : Str) = S (32 :: lt 6 ++ [32]) by decide +kernel]
  simp only [S_app]
  congr 1
  simp only [jnc, List.append_assoc, List.cons_append, List.nil_append]
theorem put_name {Y : YS} {n m x : List Nat} {X : List (List Nat)} (h : S n ∈ Y.cur.pn ∨ partOf Y.pa (S m) = none ∨ ∃ Q, partOf Y.pa (S m) = some Q ∧ (x :: X).length ≠ Q.e) : tV Y ([112, 117, 116] :: n :: m :: x :: X) = .error .name := by
  refine tV_put.trans ?_
  unfold putV
  by_cases c : (n :: m :: x :: X).all nmB = false
  · rw [if_pos c]
  rw [if_neg c]
  by_cases c2 : S n ∈ Y.cur.pn
  · rw [if_pos c2]
  rw [if_neg c2]
  rcases h with h | h | ⟨Q, h1, h2⟩
  · exact absurd h c2
  · rw [h]
  · rw [h1]
    dsimp only
    rw [if_pos h2]
theorem partOf_no {pa : List (Str × PD)} {n : Str} (h : n ∉ pa.map (·.1)) : partOf pa n = none := by
  unfold partOf
  rw [Option.map_eq_none_iff, List.find?_eq_none]
  intro x hx z
  have e : x.1 = n := by simpa using z
  exact h (List.mem_map.mpr ⟨x, hx, e⟩)
theorem QV.of {P : PD} {r o w : Nat} {gr : PD} {pa : List (Str × PD)} {nm : Str} (W : WfY w ⟨gr, pa ++ [(nm, P)], none⟩) (e : P.e = 2) (l : P.ls.length = 2 + o) (d : P.ds.length = r) : QV P r o := by
  obtain ⟨h, _⟩ := W.pa (nm, P) (by show (nm, P) ∈ pa ++ [(nm, P)]; simp)
  exact ⟨e, h.nd, l, d, h.l20, h.d40⟩
def kv : List Nat := [107, 117, 118]
theorem kv_lt (i : Nat) : S (lt i) ≠ S kv := fun z => by have := congrArg List.length (S_inj.mp z); exact absurd this (by show ¬ 2 = 3; decide)
abbrev sLaw : Stmt := top 62
theorem scLaw : FnScope ["_law_script", "_law_yard", "_law_sizes", "_law_told", "_law_k", "_law_cell", "_law_made", "_law_points", "_law_rows", "_law_come", "_law_spots", "_law_due"] ["_law_script"] (defScope sLaw) := ⟨rfl, rfl, rfl, by decide +kernel, rfl, by decide +kernel, by decide +kernel⟩
theorem ok_law {dV : Value} (F : FunD K "law" "law" sLaw dV f fd)
    {CY CP CN CO : Addr} {cl : Er → Addr} (YTx : YaT K mg CY) (NTx : NT K mg CN) (ml : mg "len" = none) (mr : mg "range" = none) (ms : mg "str" = none) (nd : PySem.W.nsIn K cStatics "sys.int_max_str_digits" = some none)
    {gYI : Addr} {gdYI : FuncData} (GYI : FnOk P w K mg base CX0 3 gYI gdYI ["self"] (spYInit CY CP)) (bYI : Binds K gdYI ["self"] []) (MY : Mk K CY gYI)
    {gNe : Addr} {gdNe : FuncData} (GNe : FnOk P w K mg base (CX1 P w) 7 gNe gdNe ["self"] (spYNetG CY CP CN CO K)) (bNe : Binds K gdNe ["self"] []) (mNe : Meth K CY "net" gNe)
    {gMa : Addr} {gdMa : FuncData} (GMa : FnOk P w K mg base CX0 1 gMa gdMa ["self"] (spMany CN K)) (bMa : Binds K gdMa ["self"] []) (mMa : Meth K CN "many" gMa)
    {gCo : Addr} {gdCo : FuncData} (GCo : FnOk P w K mg base CX0 1 gCo gdCo ["self"] (spCount CN K)) (bCo : Binds K gdCo ["self"] []) (mCo : Meth K CN "count" gCo)
    {gTe : Addr} {gdTe : FuncData} (GTe : FnOk P w K mg base (CX1 P w) 7 gTe gdTe ["self", "row"] (spTellG CY CP (cl .row) (cl .name) (cl .num) (cl .size) (cl .many) K)) (bTe : Binds K gdTe ["self", "row"] []) (mTe : Meth K CY "tell" gTe)
    {gNa : Addr} {gdNa : FuncData} (GNa : FnOk P w K mg base CX0 1 gNa gdNa ["self"] (spNamesG CY CP K)) (bNa : Binds K gdNa ["self"] []) (mNa : Meth K CY "names" gNa)
    (G1 : FnOk P w K mg base CX0 1 g1 gd1 ["_law_script", "_law_k"] (spPick K)) (b1 : Binds K gd1 ["_law_script", "_law_k"] []) (k1 : PySem.W.keepIn K (.ref g1) = true) (m1 : mg "_law_pick" = some (.ref g1))
    (G2 : FnOk P w K mg base CX0 1 g2 gd2 ["_law_cell", "_law_prime", "_law_many_here"] spMix) (b2 : Binds K gd2 ["_law_cell", "_law_prime", "_law_many_here"] []) (k2 : PySem.W.keepIn K (.ref g2) = true) (m2 : mg "_law_mix" = some (.ref g2))
    (G3 : FnOk P w K mg base CX0 1 g3 gd3 ["_law_k"] spLet) (b3 : Binds K gd3 ["_law_k"] []) (k3 : PySem.W.keepIn K (.ref g3) = true) (m3 : mg "_law_letter" = some (.ref g3))
    (G4 : FnOk P w K mg base CX0 8 g4 gd4 ["_law_yard", "_law_row"] (spManyL CY CP K)) (b4 : Binds K gd4 ["_law_yard", "_law_row"] []) (k4 : PySem.W.keepIn K (.ref g4) = true) (m4 : mg "_law_many" = some (.ref g4))
    (G5 : FnOk P w K mg base CX0 8 g5 gd5 ["_law_yard", "_law_cell"] (spFirst CY CP K)) (b5 : Binds K gd5 ["_law_yard", "_law_cell"] []) (k5 : PySem.W.keepIn K (.ref g5) = true) (m5 : mg "_law_first" = some (.ref g5))
    (G6 : FnOk P w K mg base CX0 9 g6 gd6 ["_law_yard", "_law_two", "_law_rows"] (spFull CY CP K)) (b6 : Binds K gd6 ["_law_yard", "_law_two", "_law_rows"] []) (k6 : PySem.W.keepIn K (.ref g6) = true) (m6 : mg "_law_full" = some (.ref g6))
    (G7 : FnOk P w K mg base CX0 10 g7 gd7 ["_law_yard", "_law_cell", "_law_k", "_law_sizes"] (spPartL CY CP K)) (b7 : Binds K gd7 ["_law_yard", "_law_cell", "_law_k", "_law_sizes"] []) (k7 : PySem.W.keepIn K (.ref g7) = true) (m7 : mg "_law_part" = some (.ref g7))
    (G8 : FnOk P w K mg base CX0 10 g8 gd8 ["_law_yard", "_law_told", "_law_cell"] (spParts CY CP K)) (b8 : Binds K gd8 ["_law_yard", "_law_told", "_law_cell"] []) (k8 : PySem.W.keepIn K (.ref g8) = true) (m8 : mg "_law_parts_told" = some (.ref g8)) :
    FnOk P w K mg base CX 11 f fd ["_law_script"] (spLaw K) := by
  refine F.ok scLaw (fun vs H Q E h => ?_) (fun cdv A outer s H vs Q E hr h => ?_)
  · obtain ⟨a, ns, rfl, hS, h63, q⟩ := h
    rfl
  obtain ⟨a, ns, rfl, hS, h63, q⟩ := h
  have hz : sizeLine = 16777216 := sizeLine_eq
  have r1 := hr.mono (show 1 ≤ 10 by omega)
  have r4 := hr.mono (show 4 ≤ 10 by omega)
  have r7 := hr.mono (show 7 ≤ 10 by omega)
  have r8 := hr.mono (show 8 ≤ 10 by omega)
  have r9 := hr.mono (show 9 ≤ 10 by omega)
  have e1s : (" " : Str).length = 1 := by decide +kernel
  have e4s : ("put " : Str).length = 4 := by decide +kernel
  have ega : (" ga " : Str).length = 4 := by decide +kernel
  refine ⟨_, (pss_cons (ps_set (i := 1) scLaw.nd rfl (Or.inl rfl) (pe_make0 MY GYI r4 rfl YTx.mY bYI .nil pass0))
    (pss_cons (ps_set (i := 2) scLaw.nd rfl (Or.inl rfl) (pe_call G5 r8 rfl m5 k5 b5 .nil pass0 (pa_cons (pv 1) (pa_cons (pe_call G1 r1 rfl m1 k1 b1 .nil pass0 (pa_cons (pv 0) (pa_cons pe_int pa_nil))) pa_nil))))
    (pss_cons (ps_set (i := 3) scLaw.nd rfl (Or.inl rfl) pe_int)
    (pss_cons (ps_for PassesOwn.never rfl (pi_range2 rfl mr (pa_cons pe_int (pa_cons pe_int pa_nil))) (pg_name (i := 4) scLaw.nd rfl (Or.inr rfl))
      (pss_cons (ps_set (i := 5) scLaw.nd rfl (Or.inr rfl) (pe_call G1 r1 rfl m1 k1 b1 .nil pass0 (pa_cons (pv 0) (pa_cons (pv 4) pa_nil))))
    (pss_cons (ps_set (i := 6) scLaw.nd rfl (Or.inl rfl) (pe_call G7 hr rfl m7 k7 b7 .nil pass0 (pa_cons (pv 1) (pa_cons (pv 5) (pa_cons (pv 4) (pa_cons (pv 2) pa_nil))))))
    (pss_cons (ps_if (pt_cmp (pc_isN (pv 6))) (pss_one (ps_ret pe_bl)) pss_nil)
    (pss_cons (ps_set (i := 2) scLaw.nd rfl (Or.inl rfl) (pv 6))
    (pss_one (ps_set (i := 3) scLaw.nd rfl (Or.inl rfl) (pe_op op_add (pv 3) pe_int))))))))
    (pss_cons (ps_expr (pe_meth (pv 1) YTx.cl mTe GTe.calm r7 bTe .nil pass0 (pa_cons pe_str pa_nil)))
    (pss_cons (ps_set (i := 7) scLaw.nd rfl (Or.inl rfl) (pe_lst (pa_cons pe_str (pa_cons pe_str pa_nil))))
    (pss_cons (ps_set (i := 5) scLaw.nd rfl (Or.inr rfl) (pe_call G1 r1 rfl m1 k1 b1 .nil pass0 (pa_cons (pv 0) (pa_cons pe_int pa_nil))))
    (pss_cons (ps_set (i := 8) scLaw.nd rfl (Or.inl rfl) pe_int)
    (pss_cons (ps_set (i := 9) scLaw.nd rfl (Or.inr rfl) pe_int)
    (pss_cons (ps_for PassesOwn.never rfl (pi_range1 rfl mr (pa_cons pe_int pa_nil)) (pg_name (i := 4) scLaw.nd rfl (Or.inr rfl))
      (pss_cons (ps_setC (i := 10) (nl := 1) (fr := [4, 5]) (Nc := ["_law_prime", "_law_k", "_law_cell"]) (cl := [("_law_k", s.heap.objs.size + 1), ("_law_cell", s.heap.objs.size + 2)]) scLaw.nd rfl rfl rfl ⟨rfl, rfl, by decide +kernel, by decide +kernel, (sub_cons rfl (sub_cons rfl (sub_nil))), has_of rfl, rfl, fun i n h => match i, h with | 0, h => by cases h; exact ⟨4, rfl, rfl, rfl, rfl, .inl rfl⟩ | 1, h => by cases h; exact ⟨5, rfl, rfl, rfl, rfl, .inl rfl⟩ | k + 2, h => by rw [show 1 + (k + 2) = k + 3 by omega] at h; cases h⟩
        (pi_list (pe_lst (pa_cons pe_int (pa_cons pe_int pa_nil)))) (fun C s3 H3 fp pins => (pg_name (i := 0) nd_prime_k_cell rfl (Or.inl rfl))) (fun C s3 H3 fp pins => pif_nil)
        (fun C s3 H3 fp pins => (pe_ix (ix_listK (K := K) rfl) (pe_lst (pa_cons pe_str (pa_cons pe_str pa_nil))) (pe_call G2 r1 rfl m2 k2 b2 .nil pass0 (pa_cons (pv 2) (pa_cons (pe_op op_add (pv 0) (pe_op op_mul pe_int (pv 1))) (pa_cons pe_int pa_nil)))) (fun _ _ => rfl))) rfl)
    (pss_cons (ps_set (i := 11) scLaw.nd rfl (Or.inl rfl) pe_str)
    (pss_cons (ps_if (PW.pt (pw_or (pt_cmpR op_gt (pe_op op_add (pe_callB call_len_seq rfl ml PySem.boot_len (pa_cons (pv 7) pa_nil)) (pe_ix ix_tup (pv 2) pe_int (fun _ _ => rfl))) pe_int (nomark _)) (pw_or1 (pt_cmpR op_gt (pe_op op_add (pv 8) (pe_ix ix_tup (pv 2) pe_int (fun _ _ => rfl))) pe_int (nomark _))))) (pss_one (ps_set (i := 11) scLaw.nd rfl (Or.inl rfl) pe_str)) pss_nil)
    (pss_cons (ps_if (pt_cmpR op_ne (pe_call G4 r8 rfl m4 k4 b4 .nil pass0 (pa_cons (pv 1) (pa_cons (pe_op op_add_str (pe_op op_add_str (pe_op op_add_str pe_str (pe_call G3 r1 rfl m3 k3 b3 .nil pass0 (pa_cons (pv 9) pa_nil))) pe_str) (pe_bm PySem.F.plainAttrs_str PySem.F.slot_str_join PySem.F.type_str_join mt_join pe_str (pa_cons (pv 10) pa_nil))) pa_nil))) (pv 11) (nomark _)) (pss_one (ps_ret pe_bl)) pss_nil)
    (pss_one (ps_if (pt_cmpR op_eq (pv 11) pe_str (nomark _)) (pss_cons (ps_expr (pe_bm PySem.F.plainAttrs_list PySem.F.slot_list_extend PySem.F.type_list_extend mt_extend (pv 7) (pa_cons (pe_comp (nl := 1) (fr := [9]) (Nc := ["_law_j", "_law_come"]) (cl := [("_law_come", s.heap.objs.size + 3)]) rfl ⟨rfl, rfl, by decide +kernel, by decide +kernel, (sub_cons rfl (sub_nil)), has_of rfl, rfl, fun i n h => match i, h with | 0, h => by cases h; exact ⟨9, rfl, rfl, rfl, rfl, .inl rfl⟩ | k + 1, h => by rw [show 1 + (k + 1) = k + 2 by omega] at h; cases h⟩
        (pi_range1 rfl mr (pa_cons (pe_ix ix_tup (pv 2) pe_int (fun _ _ => rfl)) pa_nil)) (fun C s3 H3 fp pins => (pg_name (i := 0) nd_j_come rfl (Or.inl rfl))) (fun C s3 H3 fp pins => pif_nil)
        (fun C s3 H3 fp pins => (pe_op op_add_str (pe_call G3 r1 rfl m3 k3 b3 .nil pass0 (pa_cons (pv 1) pa_nil)) (pe_callTy (call_strB rfl nd) rfl ms PyProof.Rows.boot_str (pa_cons (pv 0) pa_nil))))) pa_nil)))
    (pss_cons (ps_set (i := 8) scLaw.nd rfl (Or.inl rfl) (pe_op op_add (pv 8) (pe_ix ix_tup (pv 2) pe_int (fun _ _ => rfl))))
    (pss_one (ps_set (i := 9) scLaw.nd rfl (Or.inr rfl) (pe_op op_add (pv 9) pe_int))))) pss_nil)))))))
    (pss_cons (ps_if (PW.pt (pw_or (pt_cmpR op_ne (pe_meth0 (pe_meth0 (pv 1) YTx.cl mNe GNe.calm r7 bNe .nil pass0) NTx.cl mMa GMa r1 bMa .nil pass0) (pe_callB call_len_seq rfl ml PySem.boot_len (pa_cons (pv 7) pa_nil)) (nomark _)) (pw_or (pt_cmpR op_ne (pe_meth0 (pe_meth0 (pv 1) YTx.cl mNe GNe.calm r7 bNe .nil pass0) NTx.cl mCo GCo r1 bCo .nil pass0) (pv 8) (nomark _)) (pw_or1 (pt_cmpR op_ne (pe_callB call_len_seq rfl ml PySem.boot_len (pa_cons (pe_meth0 (pv 1) YTx.cl mNa GNa r1 bNa .nil pass0) pa_nil)) (pe_callB call_len_seq rfl ml PySem.boot_len (pa_cons (pv 7) pa_nil)) (nomark _)))))) (pss_one (ps_ret pe_bl)) pss_nil)
    (pss_cons (ps_if (pt_not (pt_val (pe_call G6 r9 rfl m6 k6 b6 .nil pass0 (pa_cons (pv 1) (pa_cons pe_str (pa_cons (pv 8) pa_nil)))))) (pss_one (ps_ret pe_bl)) pss_nil)
    (pss_cons (ps_if (PW.pt (pw_and (pt_cmpR op_gt (pv 9) pe_int (nomark _)) (pw_and1 (pt_cmpR op_ne (pe_call G4 r8 rfl m4 k4 b4 .nil pass0 (pa_cons (pv 1) (pa_cons pe_str pa_nil))) pe_str (nomark _))))) (pss_one (ps_ret pe_bl)) pss_nil)
    (pss_cons (ps_if (PW.pt (pw_or (pt_cmpR op_ne (pe_call G4 r8 rfl m4 k4 b4 .nil pass0 (pa_cons (pv 1) (pa_cons pe_str pa_nil))) pe_str (nomark _)) (pw_or1 (pt_cmpR op_ne (pe_call G4 r8 rfl m4 k4 b4 .nil pass0 (pa_cons (pv 1) (pa_cons pe_str pa_nil))) pe_str (nomark _))))) (pss_one (ps_ret pe_bl)) pss_nil)
    (pss_one (ps_ret (pe_call G8 hr rfl m8 k8 b8 .nil pass0 (pa_cons (pv 1) (pa_cons (pv 3) (pa_cons (pv 5) pa_nil)))))))))))))))))))), ?_⟩
  refine cut3 (fun σ H' => ∃ (y d sz : Addr) (P : PD) (r o : Nat), σ = [some (.ref a), some (.ref y), some (.ref sz), some (.int 1), none, none, none, none, none, none, none, none] ∧ SqL K H' a (ns.map V.int) ∧ YG CY CP K [] H' y d ⟨⟨[], 0, [], []⟩, [(S (lt 0), P)], none⟩ ∧ WfY 10 ⟨⟨[], 0, [], []⟩, [(S (lt 0), P)], none⟩ ∧ QV P r o ∧ SqT K H' sz [.int (r : Int), .int (o : Int)]) (fun X hX => ?_) ?_
  · intro y dy h1 h2 ne
    refine ⟨y, dy, rfl, upd_same, fun g l' t p d H5 keep hy nl nt np nd PA hd => ⟨rfl, ?_⟩⟩
    have s5 : Same H H5 := fun b o h => keep b o (by rw [upd_ne (ne_of_none h h1), upd_ne (ne_of_none h h2)]; exact h) (ne_of_none h h1)
    clear keep
    have Yi : YG CY CP K [] H5 y d Y0 := ⟨dy, g, .non, .non, [], hy, ⟨l', t, p, [], PA, .nil, (by simp), (by simp), (by simp)⟩, hd, trivial, ⟨rfl, rfl⟩, fun a hin => by cases hin⟩
    refine ⟨_, rfl, _, rfl, a, ns, 0, 0, rfl, rfl, s5.seq hS, h63, fun H6 s6 => ?_⟩
    refine ⟨y, d, _, rfl, Yi.same s6, fun tt P r o H7 s7 G7 W7 t7 e7 l7 d7 => ?_⟩
    exact hX _ _ ⟨y, d, tt, P, r, o, rfl, syd_sql (Yi.same s6) s7 ((s5.trans s6).seq hS), G7, W7, QV.of (pa := []) W7 e7 l7 d7, t7⟩
  rintro σ H1 ⟨y, d, sz0, P0, r0, o0, rfl, hS1, G1, W1, qv1, hsz1⟩
  refine cut1 (fun σ H' => ∃ (sz : Addr) (pa : List (Str × PD)) (Q : PD) (r q' : Nat) (z4 z5 z6 : Option V), σ = [some (.ref a), some (.ref y), some (.ref sz), some (.int 7), z4, z5, z6, none, none, none, none, none] ∧ SqL K H' a (ns.map V.int) ∧ YG CY CP K [] H' y d ⟨⟨[], 0, [], []⟩, pa, none⟩ ∧ WfY 46 ⟨⟨[], 0, [], []⟩, pa, none⟩ ∧ PAok pa 7 ∧ partOf pa (S (lt 6)) = some Q ∧ QV Q r q' ∧ SqT K H' sz [.int (r : Int), .int (q' : Int)]) (fun X hX => ?_) ?_
  · refine ⟨1, 7, rfl, ⟨by decide, by decide, by decide, by decide⟩, ?_⟩
    refine for_range (n := 6) (fun i σ H' => ∃ (sz : Addr) (pa : List (Str × PD)) (Q : PD) (r q' : Nat) (z4 z5 z6 : Option V), σ = [some (.ref a), some (.ref y), some (.ref sz), some (.int ((1 + i : Nat) : Int)), z4, z5, z6, none, none, none, none, none] ∧ SqL K H' a (ns.map V.int) ∧ YG CY CP K [] H' y d ⟨⟨[], 0, [], []⟩, pa, none⟩ ∧ WfY (10 + 6 * i) ⟨⟨[], 0, [], []⟩, pa, none⟩ ∧ PAok pa (1 + i) ∧ partOf pa (S (lt i)) = some Q ∧ QV Q r q' ∧ SqT K H' sz [.int (r : Int), .int (q' : Int)]) ⟨sz0, _, P0, r0, o0, none, none, none, rfl, hS1, G1, W1, rfl, partOf_last (pa := []) (by simp), qv1, hsz1⟩ ?_ (fun σ H' h => hX σ H' h)
    rintro i σ Ha hi ⟨sz, pa, Q, r, q', z4, z5, z6, rfl, hSa, Ga, Wa, pao, hQ, qv, hsza⟩
    refine ⟨_, rfl, _, rfl, a, ns, _, 1 + i, rfl, (by omega), hSa, h63, fun Hb sb => ?_⟩
    generalize pickN ns (1 + i) = cc
    refine ⟨_, rfl, _, rfl, _, rfl, _, rfl, y, d, sz, _, pa, cc, 1 + i, _, r, q', Q, (by rw [show ((1 + i : Nat) : Int) = 1 + (i : Int) by omega]; rfl), by omega, by omega, Ga.same sb, Wa, by omega, pao, (by rw [show 1 + i - 1 = i by omega]; exact hQ), qv, sb.seqT hsza, fun tt Q2 r2 q2 Hc sc Gc Wc qv2 tc => ?_⟩
    refine ⟨_, rfl, _, rfl, iteF ?_⟩
    refine ⟨_, rfl, ?_⟩
    refine ⟨_, rfl, _, _, rfl, rfl, ?_⟩
    refine ⟨tt, _, Q2, r2, q2, some (.int (1 + (i : Int))), some (.int cc), some (.ref tt), ?_, syd_sql (Ga.same sb) sc (sb.seq hSa), Gc, Wc.mono (by omega), (by rw [show 1 + (i + 1) = 1 + i + 1 by omega]; exact pao.snoc), (by rw [show i + 1 = 1 + i by omega]; exact partOf_last (pao.not (Nat.le_refl _))), qv2, tc⟩
    rw [show (((1 + (i + 1) : Nat)) : Int) = ((1 + i : Nat) : Int) + 1 by omega]
    rfl
  rintro σ H2 ⟨sz, pa, Q1, r, q', z4, z5, z6, rfl, hS2, G2', W2, pao, hQ, qv, hsz2⟩
  clear qv1 hsz1 G1 W1 hS1
  have ql := qv.l
  have q20 := qv.l20
  have qd := qv.d40
  have qdd := qv.d
  refine cut5 (fun σ H' => ∃ (pt : Addr) (cc : Int), ∃ (gr : PD) (n rows come : Nat) (ps : List Str) (z4 z10 z11 : Option V), σ = [some (.ref a), some (.ref y), some (.ref sz), some (.int 7), z4, some (.int cc), z6, some (.ref pt), some (.int (rows : Int)), some (.int (come : Int)), z10, z11] ∧ YG CY CP K [pt] H' y d ⟨gr, pa, none⟩ ∧ WfY (50 + 0) ⟨gr, pa, none⟩ ∧ PV gr n false rows come ∧ rows ≤ 40 ∧ n ≤ 20 ∧ H' pt = some (.lst (ps.map V.str)) ∧ ps.length = n ∧ SqT K H' sz [.int (r : Int), .int (q' : Int)] ∧ come ≤ 0) (fun X hX => ?_) ?_
  · obtain ⟨dyZ, gZ, oZ, qZ, kvsZ, hyZ, _, hdZ, _⟩ := id G2'
    have tP : tV ⟨⟨[], 0, [], []⟩, pa, none⟩ [wdC .pu, [120], [121], [49]] = .ok ⟨⟨[S [120], S [121]], 0, [(.pu, 0, 1, (1, 1))], []⟩, pa, none⟩ := by
      have ea : addRow ⟨[], 0, [], []⟩ .pu [120] [121] (1, 1) = ⟨[S [120], S [121]], 0, [(.pu, 0, 1, (1, 1))], []⟩ := by
        unfold addRow
        dsimp only
        rw [show lp2 [] [120] [121] = [S [120], S [121]] by decide +kernel, show lIx [S [120], S [121]] (S [120]) = 0 by decide +kernel, show lIx [S [120], S [121]] (S [121]) = 1 by decide +kernel]
        rfl
      refine (tV_row.trans (rowV_ok (Y := ⟨⟨[], 0, [], []⟩, pa, none⟩) (p := (1, 1)) (by decide) (wr1 (d := 1) (by decide)) (ok_all (by decide)) ?_)).trans ?_
      · show fits (addRow ⟨[], 0, [], []⟩ .pu [120] [121] (1, 1))
        rw [ea]
        exact ⟨by show 2 ≤ 20; decide, by show 1 ≤ 40; decide⟩
      · show Except.ok (⟨addRow ⟨[], 0, [], []⟩ .pu [120] [121] (1, 1), pa, none⟩ : YS) = _
        rw [ea]
    refine ⟨_, rfl, y, dyZ, _, rfl, hyZ, (by with_unfolding_all rfl), ?_⟩
    rw [push_is]
    dsimp only [tCons, tC, tNil]; change spTellG CY CP (cl .row) (cl .name) (cl .num) (cl .size) (cl .many) K [.ref y, .str _] _ _ _
    refine tell_ok G2' W2 (by omega) push_tx tP (fun H3 s3 G3 => ?_)
    have W3 := tV_wf W2 push_tx.ne push_tx.bd tP
    refine ⟨by show 2 ≤ sizeLine; decide, fun pt hpt => ?_⟩
    have Gm := YG.more (o := .lst [V.str "x", .str "y"]) hpt G3
    have s4 := same_new hpt (.lst [V.str "x", .str "y"])
    have e4 : upd H3 pt (.lst [V.str "x", .str "y"]) pt = some (.lst [V.str "x", .str "y"]) := upd_same
    generalize upd H3 pt (.lst [V.str "x", .str "y"]) = H4 at s4 e4 Gm ⊢
    have ev : ([V.str "x", .str "y"] : List V) = [S [120], S [121]].map V.str := by rw [show ("x" : Str) = S [120] by decide +kernel, show ("y" : Str) = S [121] by decide +kernel]; rfl
    rw [ev] at e4
    refine ⟨_, rfl, a, ns, 7, 7, rfl, rfl, s4.seq (syd_sql G2' s3 hS2), h63, fun H5 s5 => ?_⟩
    generalize pickN ns 7 = cc
    exact hX _ _ ⟨pt, cc, _, 2, 1, 0, [S [120], S [121]], z4, none, none, rfl, Gm.same s5, W3.mono (by omega), PV.start (ds := [(.pu, 0, 1, (1, 1))]) (.inr rfl), by omega, by omega, s5 _ _ e4, rfl, (s4.trans s5).seqT (syd_sqt G2' s3 hsz2), by omega⟩
  rintro σ H3 ⟨pt, cc, gr, n, rows, come, ps, z4', z10, z11, rfl, G3, W3, pv3, r40, n20, hp3, pl3, hsz3, ci⟩
  refine cut1 (fun σ H' => ∃ (gr : PD) (n rows come : Nat) (ps : List Str) (z4 z10 z11 : Option V), σ = [some (.ref a), some (.ref y), some (.ref sz), some (.int 7), z4, some (.int cc), z6, some (.ref pt), some (.int (rows : Int)), some (.int (come : Int)), z10, z11] ∧ YG CY CP K [pt] H' y d ⟨gr, pa, none⟩ ∧ WfY (50 + 45) ⟨gr, pa, none⟩ ∧ PV gr n false rows come ∧ rows ≤ 40 ∧ n ≤ 20 ∧ H' pt = some (.lst (ps.map V.str)) ∧ ps.length = n ∧ SqT K H' sz [.int (r : Int), .int (q' : Int)] ∧ come ≤ 45) (fun X hX => ?_) ?_
  · refine ⟨45, rfl, by decide, by decide, ?_⟩
    refine for_range (n := 45) (fun i σ H' => ∃ (gr : PD) (n rows come : Nat) (ps : List Str) (z4 z10 z11 : Option V), σ = [some (.ref a), some (.ref y), some (.ref sz), some (.int 7), z4, some (.int cc), z6, some (.ref pt), some (.int (rows : Int)), some (.int (come : Int)), z10, z11] ∧ YG CY CP K [pt] H' y d ⟨gr, pa, none⟩ ∧ WfY (50 + i) ⟨gr, pa, none⟩ ∧ PV gr n false rows come ∧ rows ≤ 40 ∧ n ≤ 20 ∧ H' pt = some (.lst (ps.map V.str)) ∧ ps.length = n ∧ SqT K H' sz [.int (r : Int), .int (q' : Int)] ∧ come ≤ i) ⟨gr, n, rows, come, ps, z4', z10, z11, rfl, G3, W3, pv3, r40, n20, hp3, pl3, hsz3, ci⟩ ?_ (fun σ H' h => hX σ H' h)
    clear G3 W3 pv3 r40 n20 hp3 pl3 hsz3 ci
    rintro i σ Ha hi ⟨gr, n, rows, come, ps, z4, z10, z11, rfl, Ga, Wa, pva, r40, n20, hpa, pla, sza, ci⟩
    rw [Int.zero_add]
    refine cut1 (fun σ H' => ∃ (s1 s2 : List Nat) (T1 : Addr), s1 ∈ sp2 ∧ s2 ∈ sp2 ∧ σ = [some (.ref a), some (.ref y), some (.ref sz), some (.int 7), some (.int (i : Int)), some (.int cc), z6, some (.ref pt), some (.int (rows : Int)), some (.int (come : Int)), some (.ref T1), z11] ∧ Same Ha H' ∧ H' T1 = some (.lst ([S s1, S s2].map V.str))) (fun X hX => ?_) ?_
    · refine ⟨by show 2 ≤ sizeLine; decide, fun L hL => ?_⟩
      have sb := same_new hL (.lst [.int 39373, .int 30269])
      have eb : upd Ha L (.lst [.int 39373, .int 30269]) L = some (.lst [.int 39373, .int 30269]) := upd_same
      generalize upd Ha L (.lst [.int 39373, .int 30269]) = Hb at sb eb ⊢
      refine ⟨L, rfl, ⟨_, SqL.of eb⟩, fun T1 hT1 => ?_⟩
      have sT := same_new hT1 (.lst [])
      refine comp_list (xs := [.int 39373, .int 30269]) (fun k zs H' => Same Hb H' ∧ H' T1 = some (.lst zs) ∧ ∃ tt : List (List Nat), tt.length = k ∧ (∀ t ∈ tt, t ∈ sp2) ∧ zs = tt.map fun t => V.str (S t)) ⟨sT, upd_same, [], rfl, fun t ht => (by cases ht), rfl⟩ (fun k zs H' h => h.2.1) (fun k zs H' _ h => h.1.seq (SqL.of eb)) ?_ ?_
      · rintro k zs x Hc hx ⟨sc, ec, tt, hk, h3, rfl⟩ C hC
        have k2' : k < 2 := (List.getElem?_eq_some_iff.mp hx).1
        obtain ⟨pr, rfl, p0, p9⟩ : ∃ pr : Int, x = .int pr ∧ 0 ≤ pr ∧ pr < 100000 := by
          have := List.mem_of_getElem? hx
          simp only [List.mem_cons, List.not_mem_nil, or_false] at this
          rcases this with rfl | rfl
          all_goals exact ⟨_, rfl, by decide, by decide⟩
        refine ⟨keep1.1, keep1.2, iteT ?_⟩
        refine ⟨by show 2 ≤ sizeLine; decide, fun M hM => ?_⟩
        have sd := same_new hM (.lst [V.str "x", .str "y"])
        have ed : upd Hc M (.lst [V.str "x", .str "y"]) M = some (.lst [V.str "x", .str "y"]) := upd_same
        generalize upd Hc M (.lst [V.str "x", .str "y"]) = Hd at sd ed ⊢
        refine ⟨_, rfl, _, rfl, _, rfl, _, _, rfl, rfl, Or.inl ⟨by decide, by decide⟩, _, _, rfl, rfl, cc, _, 2, rfl, by omega, by omega, by decide, fun u u0 u2 => ?_⟩
        obtain ⟨s, hs, es⟩ := at_xy u0 u2
        refine ⟨M, _, u, _, rfl, rfl, SqL.of ed, es, sd _ _ ec, small1000 (by rw [List.length_map]; omega), hC _ _ ⟨(sc.trans sd).change hT1, upd_same, tt ++ [s], by rw [List.length_append, hk]; rfl, fun t ht => ?_, by rw [List.map_append]; rfl⟩⟩
        rcases List.mem_append.mp ht with ht | ht
        · exact h3 t ht
        · rw [List.mem_singleton] at ht; rw [ht]; exact hs
      rintro zs Hc ⟨sc, eT, tt, hk, h3, rfl⟩
      obtain ⟨s1, s2, rfl⟩ : ∃ s1 s2, tt = [s1, s2] := by
        have hk : tt.length = 2 := hk
        match tt, hk with
        | [x, y], _ => exact ⟨x, y, rfl⟩
      exact hX _ _ ⟨s1, s2, T1, h3 s1 (by simp), h3 s2 (by simp), rfl, sb.trans sc, eT⟩
    rintro σ Hb ⟨s1, s2, T1, h1, h2, rfl, sb, eT1⟩
    obtain ⟨h1, n1'⟩ := sp2_3 h1
    obtain ⟨h2, n2'⟩ := sp2_3 h2
    have nm : ¬ [109] ∈ [s1, s2] := fun z => by
      simp only [List.mem_cons, List.not_mem_nil, or_false] at z
      rcases z with z | z
      · exact n1' z.symm
      · exact n2' z.symm
    have mo0 : mo [s1, s2] false = 0 := by unfold mo; rw [if_neg (fun z => nm z.1)]
    have hsb := sb.seqT sza
    have hpb := sb _ _ hpa
    refine cut2 (fun σ H' => H' = Hb ∧ σ = [some (.ref a), some (.ref y), some (.ref sz), some (.int 7), some (.int (i : Int)), some (.int cc), z6, some (.ref pt), some (.int (rows : Int)), some (.int (come : Int)), some (.ref T1), some (.str (if n + q' ≤ 20 ∧ rows + r ≤ 40 then "" else "many"))]) (fun X hX => ?_) ?_
    · refine ⟨_, rfl, pt, _, rfl, .inl (SqL.of hpb), _, rfl, sz, _, 1, _, rfl, rfl, hsb, rfl, _, _, rfl, rfl, _, _, rfl, rfl, _, rfl, ?_⟩
      by_cases c1 : n + q' ≤ 20
      · refine L2.ifF (decide_eq_false (show ¬ (20 : Int) < ((ps.map V.str).length : Int) + (q' : Int) by rw [List.length_map, pla]; omega)) ?_
        refine ⟨_, rfl, _, rfl, sz, _, 0, _, rfl, rfl, hsb, rfl, _, _, rfl, rfl, _, _, rfl, rfl, _, rfl, ?_⟩
        by_cases c2 : rows + r ≤ 40
        · refine L2.ifF (decide_eq_false (show ¬ (40 : Int) < (rows : Int) + (r : Int) by omega)) ?_
          exact hX _ _ ⟨rfl, by rw [if_pos ⟨c1, c2⟩]; rfl⟩
        · refine L2.ifT (decide_eq_true (show (40 : Int) < (rows : Int) + (r : Int) by omega)) ?_
          exact hX _ _ ⟨rfl, by rw [if_neg (fun z => c2 z.2)]; rfl⟩
      · refine L2.ifT (decide_eq_true (show (20 : Int) < ((ps.map V.str).length : Int) + (q' : Int) by rw [List.length_map, pla]; omega)) ?_
        exact hX _ _ ⟨rfl, by rw [if_neg (fun z => c1 z.1)]; rfl⟩
    rintro σ Hb' ⟨rfl, rfl⟩
    have Gb := Ga.same sb
    have nmc := lt_nm (k := come) (by omega)
    have l1 := (sp3_ok _ h1).2.2.2
    have l2 := (sp3_ok _ h2).2.2.2
    have lc := nmc.l
    have pv2 := pva.put (Q := Q1) (by omega) qv.e qv.nd (by omega) (sp3_or h1) (sp3_or h2)
    rw [mo0, Nat.add_zero, Bool.false_or, decide_eq_false nm, qdd, show Q1.ls.length - 2 = q' by omega] at pv2
    have fit := pv2.fits
    obtain ⟨tok, terr⟩ := put_cases (Y := ⟨gr, pa, none⟩) (Q := Q1) (n := lt come) (nm := lt 6) rfl nmc.n (lt_nm (by decide)).n (sp3_ok _ h1).1 (sp3_ok _ h2).1 (pva.pn come (by omega) (by omega)) hQ qv.e
    have tx := put_tx nmc (lt_nm (k := 6) (by decide)) h1 h2
    have bnd : (([S s1, S s2] : List Str).map (·.length)).sum + ([S s1, S s2] : List Str).length * (" " : Str).length ≤ 1000000 := by
      rw [e1s]
      show (S s1).length + ((S s2).length + 0) + 2 * 1 ≤ 1000000
      rw [S_len, S_len]
      omega
    refine ⟨_, rfl, _, rfl, come, rfl, by omega, _, _, rfl, rfl, (by simp only [S_len, e4s]; omega), _, _, rfl, rfl, (by simp only [len2, S_len, e4s, ega]; omega), rfl, _, rfl, _, T1, [S s1, S s2], rfl, rfl, SqL.of eT1, bnd, _, _, rfl, rfl, (by simp only [len2, S_len, e4s, ega, jn2_len]; omega), ?_⟩
    rw [put2_is]
    refine ⟨[pt], y, d, _, 50 + i, _, rfl, Gb, Wa, by omega, tx, ?_⟩
    by_cases hf : n + q' ≤ 20 ∧ rows + r ≤ 40
    · have tk := tok (fit.mpr hf)
      rw [tk]
      intro Hc sc Gc
      rw [if_pos hf]
      refine ⟨_, rfl, rfl, _, rfl, L2.ifF (by decide) ?_⟩
      refine ⟨_, rfl, rfl, _, rfl, L2.ifT (by decide) ?_⟩
      have hpc := syd_lst Gb sc hpb
      have hsc := syd_sqt Gb sc hsb
      refine ⟨_, rfl, .inl ⟨rfl, _, SqL.of hpc⟩, _, rfl, sz, _, 1, _, rfl, rfl, hsc, rfl, (q' : Int), rfl, by omega, by omega, fun D hD => ?_⟩
      have sD := same_new hD (.lst [])
      refine comp_range (n := q') (fun k zs H' => Same Hc H' ∧ H' D = some (.lst zs) ∧ ∃ qs : List Str, qs.length = k ∧ zs = qs.map V.str) ⟨sD, upd_same, [], rfl, rfl⟩ (fun k zs H' h => h.2.1) ?_ ?_
      · rintro k zs Hd hk ⟨sd, ed, qs, hq, rfl⟩ C hC
        rw [Int.zero_add]
        refine ⟨keep1.1, keep1.2, iteT ?_⟩
        refine ⟨_, rfl, come, rfl, by omega, _, rfl, (k : Int), 50, rfl, B_of (by omega) (by omega), by decide, ?_⟩
        rw [str_int]
        have il : (itx (k : Int)).length ≤ 13 := by rw [itx_pos (by omega)]; exact (dg_len (by decide)).mpr (by omega)
        exact ⟨_, _, rfl, rfl, (by simp only [S_len]; omega), ed, small1000 (by rw [List.length_map]; omega), hC _ _ ⟨sd.change hD, upd_same, qs ++ [S (lt come) ++ S (itx (k : Int))], by rw [List.length_append, hq]; rfl, by rw [List.map_append]; rfl⟩⟩
      rintro zs Hd ⟨sd, ed, qs, hq, rfl⟩
      have hpd := sd _ _ hpc
      refine ⟨pt, D, _, _, rfl, rfl, hpd, ed, by rw [List.length_map, List.length_map, hq, pla]; omega, ?_⟩
      rw [← List.map_append]
      have Ge := YG.av (us' := (ps ++ qs).map V.str) hpd (by simp) (Gc.same sd)
      have hpf : upd Hd pt (.lst ((ps ++ qs).map V.str)) pt = some (.lst ((ps ++ qs).map V.str)) := upd_same
      have hsf : SqT K (upd Hd pt (.lst ((ps ++ qs).map V.str))) sz [.int (r : Int), .int (q' : Int)] := SameX.seqT hpd (fun b o h n => by rw [upd_ne n]; exact h) (sd.seqT hsc)
      generalize upd Hd pt (.lst ((ps ++ qs).map V.str)) = Hf at Ge hpf hsf ⊢
      refine ⟨_, rfl, _, rfl, sz, _, 0, _, rfl, rfl, hsf, rfl, _, _, rfl, rfl, ?_⟩
      refine ⟨_, rfl, _, _, rfl, rfl, ?_⟩
      have W2' := tV_wf Wa tx.ne tx.bd tk
      refine ⟨_, n + q', rows + r, come + 1, ps ++ qs, some (.int (i : Int)), some (.ref T1), some (.str ""), ?_, Ge, W2', pv2, hf.2, hf.1, hpf, ?_, hsf, by omega⟩
      · rw [show (((rows + r : Nat)) : Int) = (rows : Int) + (r : Int) by omega, show (((come + 1 : Nat)) : Int) = (come : Int) + 1 by omega]
        rfl
      · rw [List.length_append, pla, hq]
    · rw [terr (fun z => hf (fit.mp z))]
      refine ⟨(fun z => by cases z), fun Hc sc => ?_⟩
      rw [if_neg hf]
      refine ⟨_, rfl, rfl, _, rfl, L2.ifF (by decide) ?_⟩
      refine ⟨_, rfl, rfl, _, rfl, L2.ifF (by decide) ?_⟩
      have sac := sb.trans sc
      exact ⟨gr, n, rows, come, ps, _, _, _, rfl, Ga.same sac, Wa.mono (by omega), pva, r40, n20, sac _ _ hpa, pla, sac.seqT sza, by omega⟩
  clear G3 W3 pv3 r40 n20 hp3 pl3 hsz3 ci
  rintro σ Ha ⟨gr, n, rows, come, ps, z4, z10, z11, rfl, Ga, Wa, pva, r40, n20, hpa, pla, sza, ci⟩
  refine cut3 (fun σ H' => ∃ P' : PD, σ = [some (.ref a), some (.ref y), some (.ref sz), some (.int 7), z4, some (.int cc), z6, some (.ref pt), some (.int (rows : Int)), some (.int (come : Int)), z10, z11] ∧ YG CY CP K [] H' y d ⟨P', pa, none⟩ ∧ WfY 135 ⟨P', pa, none⟩) (fun X hX => ?_) ?_
  · have lne : gr.ls ≠ [] := fun z => by have := pva.x; rw [z] at this; cases this
    obtain ⟨dyA, gA, oA, qA, kvsA, hyA, _, hdA, _⟩ := id Ga
    have NET : True := trivial
    refine ⟨_, rfl, y, dyA, _, rfl, hyA, (by with_unfolding_all rfl), [pt], y, d, _, rfl, Ga, Wa.gr.rd, Wa.gr.l20, Wa.gr.d40, (fun z => absurd z lne), fun _ n1 l1 HA sA nlA NA => ?_⟩
    obtain ⟨dn1, hn1⟩ := NA.ob
    have llen : (⟨gr, pa, none⟩ : YS).gr.ls.length = n := pva.len
    have dlen : (⟨gr, pa, none⟩ : YS).gr.ds.length = rows := pva.ds
    refine ⟨n1, dn1, _, rfl, hn1, nflds_no _ _ (by decide +kernel) (by decide +kernel), n1, l1, _, _, rfl, NA, ?_⟩
    refine ⟨_, rfl, pt, _, rfl, .inl (SqL.of (sA _ _ hpa)), rfl, _, rfl, L2.ifF (by rw [List.length_map, pla, llen, decide_eq_true rfl]; rfl) ?_⟩
    have GB := Ga.same sA
    obtain ⟨dyB, gB, oB, qB, kvsB, hyB, _, hdB, _⟩ := id GB
    refine ⟨_, rfl, y, dyB, _, rfl, hyB, (by with_unfolding_all rfl), [pt], y, d, _, rfl, GB, Wa.gr.rd, Wa.gr.l20, Wa.gr.d40, (fun z => absurd z lne), fun _ n2 l2 HB sB nlB NB => ?_⟩
    obtain ⟨dn2, hn2⟩ := NB.ob
    refine ⟨n2, dn2, _, rfl, hn2, nflds_no _ _ (by decide +kernel) (by decide +kernel), n2, l2, _, _, rfl, NB, ?_⟩
    refine ⟨_, rfl, rfl, _, rfl, L2.ifF (by rw [dlen, decide_eq_true rfl]; rfl) ?_⟩
    have GC := GB.same sB
    obtain ⟨dyC, gC, oC, qC, kvsC, hyC, _, hdC, _⟩ := id GC
    refine ⟨_, rfl, y, dyC, _, rfl, hyC, (by with_unfolding_all rfl), [pt], y, d, _, rfl, GC, fun r8 HC sC nrC eC => ?_⟩
    refine ⟨r8, _, rfl, .inl (SqL.of eC), _, rfl, pt, _, rfl, .inl (SqL.of ((sA.trans (sB.trans sC)) _ _ hpa)), rfl, _, rfl, L2.ifF (by rw [List.length_map, List.length_map, pla, llen, decide_eq_true rfl]; rfl) ?_⟩
    have GD := (GC.same sC).less
    refine ⟨_, rfl, ?_⟩
    rw [show ("y x" : Str) = S ([121] ++ 32 :: [120]) by decide +kernel]
    refine ⟨_, rfl, [], y, d, ⟨gr, pa, none⟩, 95, rows, [121], [120], rfl, GD, Wa, by omega, ⟨by decide, by decide, by decide, by decide⟩, ⟨by decide, by decide, by decide, by decide⟩, pva.y, pva.x, pva.ds, r40, fun P' HE sE GE WE el ed ee en => ?_⟩
    refine ⟨_, rfl, iteF ?_⟩
    have GE : YG CY CP K [] HE y d ⟨P', pa, none⟩ := GE
    have WE : WfY 135 ⟨P', pa, none⟩ := WE
    have en : P'.pn = gr.pn := en
    by_cases hc : 0 < come
    · refine ⟨_, rfl, _, _, rfl, rfl, _, rfl, L2.ifT (decide_eq_true (show (0 : Int) < (come : Int) by omega)) ⟨_, rfl, ?_⟩⟩
      rw [show ("put aa ga x y" : Str) = S (jnc 32 [[112, 117, 116], lt 0, lt 6, [120], [121]]) by decide +kernel]
      refine ⟨[], y, d, _, 135, _, rfl, GE, WE, by omega, tx_of (by decide) (by decide) (by decide), ?_⟩
      rw [put_name (Y := ⟨P', pa, none⟩) (.inl (by show S (lt 0) ∈ P'.pn; rw [en]; exact pva.pn' 0 hc))]
      refine ⟨(fun z => by cases z), fun HF sF => ⟨rfl, _, rfl, L2.ifF (by decide) ?_⟩⟩
      exact hX _ _ ⟨P', rfl, GE.same sF, WE⟩
    · exact ⟨_, rfl, _, _, rfl, rfl, _, rfl, L2.ifF (decide_eq_false (show ¬ (0 : Int) < (come : Int) by omega)) (iteF (hX _ _ ⟨P', rfl, GE, WE⟩))⟩
  rintro σ HF ⟨P', rfl, GF, WE⟩
  refine ⟨_, rfl, ?_⟩
  rw [show ("put kuw kuv x y" : Str) = S (jnc 32 [[112, 117, 116], kw, kv, [120], [121]]) by decide +kernel]
  refine ⟨[], y, d, _, 135, _, rfl, GF, WE, by omega, tx_of (by decide) (by decide) (by decide), ?_⟩
  rw [put_name (Y := ⟨P', pa, none⟩) (.inr (.inl (partOf_no (pao.notl kv_lt))))]
  refine ⟨(fun z => by cases z), fun HG sG => ⟨rfl, _, rfl, L2.ifF (by decide) ?_⟩⟩
  refine ⟨_, rfl, ?_⟩
  rw [show ("put kuw ga x" : Str) = S (jnc 32 [[112, 117, 116], kw, lt 6, [120]]) by decide +kernel]
  refine ⟨[], y, d, _, 135, _, rfl, GF.same sG, WE, by omega, tx_of (by decide) (by decide) (by decide), ?_⟩
  rw [put_name (Y := ⟨P', pa, none⟩) (.inr (.inr ⟨Q1, hQ, by rw [qv.e]; decide⟩))]
  refine ⟨(fun z => by cases z), fun HH sH => ⟨rfl, _, rfl, L2.ifF (by decide) ?_⟩⟩
  exact ⟨_, rfl, _, rfl, _, rfl, y, d, P', pa, cc, 135, rfl, GF.same (sG.trans sH), WE, by omega, pao, fun H' => q H'⟩
end
end K85

set_option Elab.async false
set_option linter.all false
namespace L2
open PySem PySem.W
theorem walkX_of {q : Program} {loose : List Str} {XP : (Str → Option Value) → Heap → Prop} {K : Params → PySem.W.Frag} {bs : List Addr} {n t : Nat} {r : RowW} {d : DefRec} {kwd : List (Str × Expr)} {run : Value → List Value → Sem Value}
    (e : ∀ P, bs = (K P).map (·.1)) (h : WalkO q loose XP (fun w h => (K w.params).In h) r d kwd run) : WalkX q loose XP (PySem.W.X.obsZ bs) (PySem.W.X.valZ K n t) r d kwd run :=
  fun w s₀ s₁ mg mb G y a o pm cd doc dV kV h1 h2 h3 h4 h5 h6 args vals as' L => h w s₀ s₁ mg mb G (InK.keeps w _ _ (PySem.W.X.z_facts e y).2.1 L.keeps) a o pm cd doc dV kV h1 h2 h3 h4 h5 h6 args vals as'
end L2

set_option Elab.async false
set_option linter.all false
set_option maxRecDepth 100000
set_option maxHeartbeats 4000000
namespace K85
open PySem L2
def er5 (a b c d e : Addr) : Er → Addr
  | .row => a
  | .name => b
  | .num => c
  | .size => d
  | .many => e
theorem all_mk {l : PySem.W.OpenLaw} {w : World} {K : PySem.W.Frag} {h : Heap} {mg : Str → Option Value} {fa : Addr} (X : K.In h) (G : h.Ns mainGlobals mg) (hfa : mg "law" = some (.ref fa))
    {c_OhmError : Addr}
    {c_NoRow : Addr}
    {c_NoName : Addr}
    {c_NoNumber : Addr}
    {c_NoSize : Addr}
    {c_NoPoint : Addr}
    {c_TooMany : Addr}
    {c_Row : Addr}
    {c_Piece : Addr}
    {c_Push : Addr}
    {c_Hold : Addr}
    {c_Net : Addr}
    {c_Plan : Addr}
    {c_Yard : Addr}
    {f1 : Addr} {od1 an1 : Option Addr} {sl1 : Array (Option Value)} {oc1 kV1 dc1 pm1 cd1 ct1 : Value}
    {f2 : Addr} {od2 an2 : Option Addr} {sl2 : Array (Option Value)} {oc2 kV2 dc2 pm2 cd2 ct2 : Value}
    {f3 : Addr} {od3 an3 : Option Addr} {sl3 : Array (Option Value)} {oc3 kV3 dc3 pm3 cd3 ct3 : Value}
    {f4 : Addr} {od4 an4 : Option Addr} {sl4 : Array (Option Value)} {oc4 kV4 dc4 pm4 cd4 ct4 : Value}
    {T4 : Addr} {oT4 : Value} {dT4 : Option Addr} {nT4 : Nat} {sT4 : Array (Option Value)} {tk4 : Tok}
    {f5 : Addr} {od5 an5 : Option Addr} {sl5 : Array (Option Value)} {oc5 kV5 dc5 pm5 cd5 ct5 : Value}
    {f6 : Addr} {od6 an6 : Option Addr} {sl6 : Array (Option Value)} {oc6 kV6 dc6 pm6 cd6 ct6 : Value}
    {f7 : Addr} {od7 an7 : Option Addr} {sl7 : Array (Option Value)} {oc7 kV7 dc7 pm7 cd7 ct7 : Value}
    {f8 : Addr} {od8 an8 : Option Addr} {sl8 : Array (Option Value)} {oc8 kV8 dc8 pm8 cd8 ct8 : Value}
    {f9 : Addr} {od9 an9 : Option Addr} {sl9 : Array (Option Value)} {oc9 kV9 dc9 pm9 cd9 ct9 : Value}
    {f10 : Addr} {od10 an10 : Option Addr} {sl10 : Array (Option Value)} {oc10 kV10 dc10 pm10 cd10 ct10 : Value}
    {f11 : Addr} {od11 an11 : Option Addr} {sl11 : Array (Option Value)} {oc11 kV11 dc11 pm11 cd11 ct11 : Value}
    {f12 : Addr} {od12 an12 : Option Addr} {sl12 : Array (Option Value)} {oc12 kV12 dc12 pm12 cd12 ct12 : Value}
    {f13 : Addr} {od13 an13 : Option Addr} {sl13 : Array (Option Value)} {oc13 kV13 dc13 pm13 cd13 ct13 : Value}
    {f14 : Addr} {od14 an14 : Option Addr} {sl14 : Array (Option Value)} {oc14 kV14 dc14 pm14 cd14 ct14 : Value}
    {f15 : Addr} {od15 an15 : Option Addr} {sl15 : Array (Option Value)} {oc15 kV15 dc15 pm15 cd15 ct15 : Value}
    {f16 : Addr} {od16 an16 : Option Addr} {sl16 : Array (Option Value)} {oc16 kV16 dc16 pm16 cd16 ct16 : Value}
    {f17 : Addr} {od17 an17 : Option Addr} {sl17 : Array (Option Value)} {oc17 kV17 dc17 pm17 cd17 ct17 : Value}
    {f18 : Addr} {od18 an18 : Option Addr} {sl18 : Array (Option Value)} {oc18 kV18 dc18 pm18 cd18 ct18 : Value}
    {f19 : Addr} {od19 an19 : Option Addr} {sl19 : Array (Option Value)} {oc19 kV19 dc19 pm19 cd19 ct19 : Value}
    {f20 : Addr} {od20 an20 : Option Addr} {sl20 : Array (Option Value)} {oc20 kV20 dc20 pm20 cd20 ct20 : Value}
    {f21 : Addr} {od21 an21 : Option Addr} {sl21 : Array (Option Value)} {oc21 kV21 dc21 pm21 cd21 ct21 : Value}
    {f22 : Addr} {od22 an22 : Option Addr} {sl22 : Array (Option Value)} {oc22 kV22 dc22 pm22 cd22 ct22 : Value}
    {f23 : Addr} {od23 an23 : Option Addr} {sl23 : Array (Option Value)} {oc23 kV23 dc23 pm23 cd23 ct23 : Value}
    {f24 : Addr} {od24 an24 : Option Addr} {sl24 : Array (Option Value)} {oc24 kV24 dc24 pm24 cd24 ct24 : Value}
    {f25 : Addr} {od25 an25 : Option Addr} {sl25 : Array (Option Value)} {oc25 kV25 dc25 pm25 cd25 ct25 : Value}
    {f26 : Addr} {od26 an26 : Option Addr} {sl26 : Array (Option Value)} {oc26 kV26 dc26 pm26 cd26 ct26 : Value}
    {f27 : Addr} {od27 an27 : Option Addr} {sl27 : Array (Option Value)} {oc27 kV27 dc27 pm27 cd27 ct27 : Value}
    {f28 : Addr} {od28 an28 : Option Addr} {sl28 : Array (Option Value)} {oc28 kV28 dc28 pm28 cd28 ct28 : Value}
    {f29 : Addr} {od29 an29 : Option Addr} {sl29 : Array (Option Value)} {oc29 kV29 dc29 pm29 cd29 ct29 : Value}
    {f30 : Addr} {od30 an30 : Option Addr} {sl30 : Array (Option Value)} {oc30 kV30 dc30 pm30 cd30 ct30 : Value}
    {f31 : Addr} {od31 an31 : Option Addr} {sl31 : Array (Option Value)} {oc31 kV31 dc31 pm31 cd31 ct31 : Value}
    {f32 : Addr} {od32 an32 : Option Addr} {sl32 : Array (Option Value)} {oc32 kV32 dc32 pm32 cd32 ct32 : Value}
    {f33 : Addr} {od33 an33 : Option Addr} {sl33 : Array (Option Value)} {oc33 kV33 dc33 pm33 cd33 ct33 : Value}
    {f34 : Addr} {od34 an34 : Option Addr} {sl34 : Array (Option Value)} {oc34 kV34 dc34 pm34 cd34 ct34 : Value}
    {f35 : Addr} {od35 an35 : Option Addr} {sl35 : Array (Option Value)} {oc35 kV35 dc35 pm35 cd35 ct35 : Value}
    {f36 : Addr} {od36 an36 : Option Addr} {sl36 : Array (Option Value)} {oc36 kV36 dc36 pm36 cd36 ct36 : Value}
    {f37 : Addr} {od37 an37 : Option Addr} {sl37 : Array (Option Value)} {oc37 kV37 dc37 pm37 cd37 ct37 : Value}
    {f38 : Addr} {od38 an38 : Option Addr} {sl38 : Array (Option Value)} {oc38 kV38 dc38 pm38 cd38 ct38 : Value}
    {f39 : Addr} {od39 an39 : Option Addr} {sl39 : Array (Option Value)} {oc39 kV39 dc39 pm39 cd39 ct39 : Value}
    {f40 : Addr} {od40 an40 : Option Addr} {sl40 : Array (Option Value)} {oc40 kV40 dc40 pm40 cd40 ct40 : Value}
    {f41 : Addr} {od41 an41 : Option Addr} {sl41 : Array (Option Value)} {oc41 kV41 dc41 pm41 cd41 ct41 : Value}
    {f42 : Addr} {od42 an42 : Option Addr} {sl42 : Array (Option Value)} {oc42 kV42 dc42 pm42 cd42 ct42 : Value}
    {f43 : Addr} {od43 an43 : Option Addr} {sl43 : Array (Option Value)} {oc43 kV43 dc43 pm43 cd43 ct43 : Value}
    {f44 : Addr} {od44 an44 : Option Addr} {sl44 : Array (Option Value)} {oc44 kV44 dc44 pm44 cd44 ct44 : Value}
    {f45 : Addr} {od45 an45 : Option Addr} {sl45 : Array (Option Value)} {oc45 kV45 dc45 pm45 cd45 ct45 : Value}
    {f46 : Addr} {od46 an46 : Option Addr} {sl46 : Array (Option Value)} {oc46 kV46 dc46 pm46 cd46 ct46 : Value}
    {f47 : Addr} {od47 an47 : Option Addr} {sl47 : Array (Option Value)} {oc47 kV47 dc47 pm47 cd47 ct47 : Value}
    {f48 : Addr} {od48 an48 : Option Addr} {sl48 : Array (Option Value)} {oc48 kV48 dc48 pm48 cd48 ct48 : Value}
    {f49 : Addr} {od49 an49 : Option Addr} {sl49 : Array (Option Value)} {oc49 kV49 dc49 pm49 cd49 ct49 : Value}
    {f50 : Addr} {od50 an50 : Option Addr} {sl50 : Array (Option Value)} {oc50 kV50 dc50 pm50 cd50 ct50 : Value}
    {f51 : Addr} {od51 an51 : Option Addr} {sl51 : Array (Option Value)} {oc51 kV51 dc51 pm51 cd51 ct51 : Value}
    {f52 : Addr} {od52 an52 : Option Addr} {sl52 : Array (Option Value)} {oc52 kV52 dc52 pm52 cd52 ct52 : Value}
    {f53 : Addr} {od53 an53 : Option Addr} {sl53 : Array (Option Value)} {oc53 kV53 dc53 pm53 cd53 ct53 : Value}
    {f54 : Addr} {od54 an54 : Option Addr} {sl54 : Array (Option Value)} {oc54 kV54 dc54 pm54 cd54 ct54 : Value}
    {f55 : Addr} {od55 an55 : Option Addr} {sl55 : Array (Option Value)} {oc55 kV55 dc55 pm55 cd55 ct55 : Value}
    {f56 : Addr} {od56 an56 : Option Addr} {sl56 : Array (Option Value)} {oc56 kV56 dc56 pm56 cd56 ct56 : Value}
    {f57 : Addr} {od57 an57 : Option Addr} {sl57 : Array (Option Value)} {oc57 kV57 dc57 pm57 cd57 ct57 : Value}
    {aN : Addr} {dN : Option Addr} {nN : Nat} {sN : Array (Option Value)} {t0 t1 : Tok}
    {aW : Addr} {dW : Option Addr} {nW : Nat} {sW : Array (Option Value)} {w0 w1 w2 : Tok}
    {tM : Tok}
    {tR : Tok}
    {tF : Tok}
    {tG : Tok}
    {tL : Tok}
    {tE : Tok}
    {tP : Tok}
    (y_OhmError : PySem.W.nsIn K mainGlobals "OhmError" = some (some (.ref c_OhmError)))
    (y_NoRow : PySem.W.nsIn K mainGlobals "NoRow" = some (some (.ref c_NoRow)))
    (y_NoName : PySem.W.nsIn K mainGlobals "NoName" = some (some (.ref c_NoName)))
    (y_NoNumber : PySem.W.nsIn K mainGlobals "NoNumber" = some (some (.ref c_NoNumber)))
    (y_NoSize : PySem.W.nsIn K mainGlobals "NoSize" = some (some (.ref c_NoSize)))
    (y_NoPoint : PySem.W.nsIn K mainGlobals "NoPoint" = some (some (.ref c_NoPoint)))
    (y_TooMany : PySem.W.nsIn K mainGlobals "TooMany" = some (some (.ref c_TooMany)))
    (y_Row : PySem.W.nsIn K mainGlobals "Row" = some (some (.ref c_Row)))
    (y_Piece : PySem.W.nsIn K mainGlobals "Piece" = some (some (.ref c_Piece)))
    (y_Push : PySem.W.nsIn K mainGlobals "Push" = some (some (.ref c_Push)))
    (y_Hold : PySem.W.nsIn K mainGlobals "Hold" = some (some (.ref c_Hold)))
    (y_Net : PySem.W.nsIn K mainGlobals "Net" = some (some (.ref c_Net)))
    (y_Plan : PySem.W.nsIn K mainGlobals "Plan" = some (some (.ref c_Plan)))
    (y_Yard : PySem.W.nsIn K mainGlobals "Yard" = some (some (.ref c_Yard)))
    (a1 : PySem.W.nsIn K mainGlobals "is_whole" = some (some (.ref f1)))
    (l1 : K.lookup f1 = some ⟨oc1, od1, .func (PySem.W.fnOf "is_whole" "is_whole" (defArgs sWhole) (defBody sWhole) (defScope sWhole) .none kV1 dc1 pm1 an1 cd1 ct1), sl1⟩) (c1 : PySem.W.codeIn K cd1 "is_whole" = true) (k1 : PySem.W.keepIn K (.ref f1) = true)
    (a2 : PySem.W.nsIn K mainGlobals "greatest_common" = some (some (.ref f2)))
    (l2 : K.lookup f2 = some ⟨oc2, od2, .func (PySem.W.fnOf "greatest_common" "greatest_common" (defArgs sGc) (defBody sGc) (defScope sGc) .none kV2 dc2 pm2 an2 cd2 ct2), sl2⟩) (c2 : PySem.W.codeIn K cd2 "greatest_common" = true) (k2 : PySem.W.keepIn K (.ref f2) = true)
    (a3 : PySem.W.nsIn K mainGlobals "under" = some (some (.ref f3)))
    (l3 : K.lookup f3 = some ⟨oc3, od3, .func (PySem.W.fnOf "under" "under" (defArgs sUnder) (defBody sUnder) (defScope sUnder) .none kV3 dc3 pm3 an3 cd3 ct3), sl3⟩) (c3 : PySem.W.codeIn K cd3 "under" = true) (k3 : PySem.W.keepIn K (.ref f3) = true)
    (a4 : PySem.W.nsIn K mainGlobals "fraction" = some (some (.ref f4)))
    (l4 : K.lookup f4 = some ⟨oc4, od4, .func (PySem.W.fnOf "fraction" "fraction" (defArgs sFrac) (defBody sFrac) (defScope sFrac) (.ref T4) kV4 dc4 pm4 an4 cd4 ct4), sl4⟩) (c4 : PySem.W.codeIn K cd4 "fraction" = true) (k4 : PySem.W.keepIn K (.ref f4) = true)
    (lt4 : K.lookup T4 = some ⟨oT4, dT4, .seq #[.int 1 tk4] nT4, sT4⟩)
    (a5 : PySem.W.nsIn K mainGlobals "show" = some (some (.ref f5)))
    (l5 : K.lookup f5 = some ⟨oc5, od5, .func (PySem.W.fnOf "show" "show" (defArgs sShow) (defBody sShow) (defScope sShow) .none kV5 dc5 pm5 an5 cd5 ct5), sl5⟩) (c5 : PySem.W.codeIn K cd5 "show" = true) (k5 : PySem.W.keepIn K (.ref f5) = true)
    (a6 : PySem.W.nsIn K mainGlobals "without_sign" = some (some (.ref f6)))
    (l6 : K.lookup f6 = some ⟨oc6, od6, .func (PySem.W.fnOf "without_sign" "without_sign" (defArgs sNosign) (defBody sNosign) (defScope sNosign) .none kV6 dc6 pm6 an6 cd6 ct6), sl6⟩) (c6 : PySem.W.codeIn K cd6 "without_sign" = true) (k6 : PySem.W.keepIn K (.ref f6) = true)
    (a7 : PySem.W.nsIn K mainGlobals "are_figures" = some (some (.ref f7)))
    (l7 : K.lookup f7 = some ⟨oc7, od7, .func (PySem.W.fnOf "are_figures" "are_figures" (defArgs sFigs) (defBody sFigs) (defScope sFigs) .none kV7 dc7 pm7 an7 cd7 ct7), sl7⟩) (c7 : PySem.W.codeIn K cd7 "are_figures" = true) (k7 : PySem.W.keepIn K (.ref f7) = true)
    (a8 : PySem.W.nsIn K mainGlobals "read" = some (some (.ref f8)))
    (l8 : K.lookup f8 = some ⟨oc8, od8, .func (PySem.W.fnOf "read" "read" (defArgs sRead) (defBody sRead) (defScope sRead) .none kV8 dc8 pm8 an8 cd8 ct8), sl8⟩) (c8 : PySem.W.codeIn K cd8 "read" = true) (k8 : PySem.W.keepIn K (.ref f8) = true)
    (a9 : PySem.W.nsIn K mainGlobals "is_fraction" = some (some (.ref f9)))
    (l9 : K.lookup f9 = some ⟨oc9, od9, .func (PySem.W.fnOf "is_fraction" "is_fraction" (defArgs sIsF) (defBody sIsF) (defScope sIsF) .none kV9 dc9 pm9 an9 cd9 ct9), sl9⟩) (c9 : PySem.W.codeIn K cd9 "is_fraction" = true) (k9 : PySem.W.keepIn K (.ref f9) = true)
    (a10_0 : PySem.W.findIn K (.ref c_Piece) "__init__" = some (some (.ref f10)))
    (a10_1 : PySem.W.findIn K (.ref c_Push) "__init__" = some (some (.ref f10)))
    (a10_2 : PySem.W.findIn K (.ref c_Hold) "__init__" = some (some (.ref f10)))
    (i10 : PySem.W.isFn K (.ref f10) = true)
    (l10 : K.lookup f10 = some ⟨oc10, od10, .func (PySem.W.fnOf "__init__" "Row.__init__" (defArgs sRInit) (defBody sRInit) (defScope sRInit) .none kV10 dc10 pm10 an10 cd10 ct10), sl10⟩) (c10 : PySem.W.codeIn K cd10 "Row.__init__" = true) (k10 : PySem.W.keepIn K (.ref f10) = true)
    (a11_0 : PySem.W.findIn K (.ref c_Piece) "word" = some (some (.ref f11)))
    (i11 : PySem.W.isFn K (.ref f11) = true)
    (l11 : K.lookup f11 = some ⟨oc11, od11, .func (PySem.W.fnOf "word" "Piece.word" (defArgs sWord_pc) (defBody sWord_pc) (defScope sWord_pc) .none kV11 dc11 pm11 an11 cd11 ct11), sl11⟩) (c11 : PySem.W.codeIn K cd11 "Piece.word" = true) (k11 : PySem.W.keepIn K (.ref f11) = true)
    (a12_0 : PySem.W.findIn K (.ref c_Push) "word" = some (some (.ref f12)))
    (i12 : PySem.W.isFn K (.ref f12) = true)
    (l12 : K.lookup f12 = some ⟨oc12, od12, .func (PySem.W.fnOf "word" "Push.word" (defArgs sWord_pu) (defBody sWord_pu) (defScope sWord_pu) .none kV12 dc12 pm12 an12 cd12 ct12), sl12⟩) (c12 : PySem.W.codeIn K cd12 "Push.word" = true) (k12 : PySem.W.keepIn K (.ref f12) = true)
    (a13_0 : PySem.W.findIn K (.ref c_Hold) "word" = some (some (.ref f13)))
    (i13 : PySem.W.isFn K (.ref f13) = true)
    (l13 : K.lookup f13 = some ⟨oc13, od13, .func (PySem.W.fnOf "word" "Hold.word" (defArgs sWord_ho) (defBody sWord_ho) (defScope sWord_ho) .none kV13 dc13 pm13 an13 cd13 ct13), sl13⟩) (c13 : PySem.W.codeIn K cd13 "Hold.word" = true) (k13 : PySem.W.keepIn K (.ref f13) = true)
    (a14_0 : PySem.W.findIn K (.ref c_Piece) "told" = some (some (.ref f14)))
    (a14_1 : PySem.W.findIn K (.ref c_Push) "told" = some (some (.ref f14)))
    (a14_2 : PySem.W.findIn K (.ref c_Hold) "told" = some (some (.ref f14)))
    (i14 : PySem.W.isFn K (.ref f14) = true)
    (l14 : K.lookup f14 = some ⟨oc14, od14, .func (PySem.W.fnOf "told" "Row.told" (defArgs sRTold) (defBody sRTold) (defScope sRTold) .none kV14 dc14 pm14 an14 cd14 ct14), sl14⟩) (c14 : PySem.W.codeIn K cd14 "Row.told" = true) (k14 : PySem.W.keepIn K (.ref f14) = true)
    (a15 : PySem.W.nsIn K mainGlobals "row_of" = some (some (.ref f15)))
    (l15 : K.lookup f15 = some ⟨oc15, od15, .func (PySem.W.fnOf "row_of" "row_of" (defArgs sRowOf) (defBody sRowOf) (defScope sRowOf) .none kV15 dc15 pm15 an15 cd15 ct15), sl15⟩) (c15 : PySem.W.codeIn K cd15 "row_of" = true) (k15 : PySem.W.keepIn K (.ref f15) = true)
    (a16_0 : PySem.W.findIn K (.ref c_Piece) "at" = some (some (.ref f16)))
    (a16_1 : PySem.W.findIn K (.ref c_Push) "at" = some (some (.ref f16)))
    (a16_2 : PySem.W.findIn K (.ref c_Hold) "at" = some (some (.ref f16)))
    (i16 : PySem.W.isFn K (.ref f16) = true)
    (l16 : K.lookup f16 = some ⟨oc16, od16, .func (PySem.W.fnOf "at" "Row.at" (defArgs sRAt) (defBody sRAt) (defScope sRAt) .none kV16 dc16 pm16 an16 cd16 ct16), sl16⟩) (c16 : PySem.W.codeIn K cd16 "Row.at" = true) (k16 : PySem.W.keepIn K (.ref f16) = true)
    (a17 : PySem.W.nsIn K mainGlobals "is_piece_size" = some (some (.ref f17)))
    (l17 : K.lookup f17 = some ⟨oc17, od17, .func (PySem.W.fnOf "is_piece_size" "is_piece_size" (defArgs sPS) (defBody sPS) (defScope sPS) .none kV17 dc17 pm17 an17 cd17 ct17), sl17⟩) (c17 : PySem.W.codeIn K cd17 "is_piece_size" = true) (k17 : PySem.W.keepIn K (.ref f17) = true)
    (a18 : PySem.W.nsIn K mainGlobals "is_number_below" = some (some (.ref f18)))
    (l18 : K.lookup f18 = some ⟨oc18, od18, .func (PySem.W.fnOf "is_number_below" "is_number_below" (defArgs sNB) (defBody sNB) (defScope sNB) .none kV18 dc18 pm18 an18 cd18 ct18), sl18⟩) (c18 : PySem.W.codeIn K cd18 "is_number_below" = true) (k18 : PySem.W.keepIn K (.ref f18) = true)
    (a19 : PySem.W.nsIn K mainGlobals "refuse_size" = some (some (.ref f19)))
    (l19 : K.lookup f19 = some ⟨oc19, od19, .func (PySem.W.fnOf "refuse_size" "refuse_size" (defArgs sRS) (defBody sRS) (defScope sRS) .none kV19 dc19 pm19 an19 cd19 ct19), sl19⟩) (c19 : PySem.W.codeIn K cd19 "refuse_size" = true) (k19 : PySem.W.keepIn K (.ref f19) = true)
    (a20 : PySem.W.nsIn K mainGlobals "refuse_points" = some (some (.ref f20)))
    (l20 : K.lookup f20 = some ⟨oc20, od20, .func (PySem.W.fnOf "refuse_points" "refuse_points" (defArgs sRP) (defBody sRP) (defScope sRP) .none kV20 dc20 pm20 an20 cd20 ct20), sl20⟩) (c20 : PySem.W.codeIn K cd20 "refuse_points" = true) (k20 : PySem.W.keepIn K (.ref f20) = true)
    (a21_0 : PySem.W.findIn K (.ref c_Net) "__init__" = some (some (.ref f21)))
    (i21 : PySem.W.isFn K (.ref f21) = true)
    (l21 : K.lookup f21 = some ⟨oc21, od21, .func (PySem.W.fnOf "__init__" "Net.__init__" (defArgs sNInit) (defBody sNInit) (defScope sNInit) .none kV21 dc21 pm21 an21 cd21 ct21), sl21⟩) (c21 : PySem.W.codeIn K cd21 "Net.__init__" = true) (k21 : PySem.W.keepIn K (.ref f21) = true)
    (a22_0 : PySem.W.findIn K (.ref c_Net) "add" = some (some (.ref f22)))
    (i22 : PySem.W.isFn K (.ref f22) = true)
    (l22 : K.lookup f22 = some ⟨oc22, od22, .func (PySem.W.fnOf "add" "Net.add" (defArgs sAdd) (defBody sAdd) (defScope sAdd) .none kV22 dc22 pm22 an22 cd22 ct22), sl22⟩) (c22 : PySem.W.codeIn K cd22 "Net.add" = true) (k22 : PySem.W.keepIn K (.ref f22) = true)
    (a23_0 : PySem.W.findIn K (.ref c_Net) "many" = some (some (.ref f23)))
    (i23 : PySem.W.isFn K (.ref f23) = true)
    (l23 : K.lookup f23 = some ⟨oc23, od23, .func (PySem.W.fnOf "many" "Net.many" (defArgs sMany) (defBody sMany) (defScope sMany) .none kV23 dc23 pm23 an23 cd23 ct23), sl23⟩) (c23 : PySem.W.codeIn K cd23 "Net.many" = true) (k23 : PySem.W.keepIn K (.ref f23) = true)
    (a24_0 : PySem.W.findIn K (.ref c_Net) "count" = some (some (.ref f24)))
    (i24 : PySem.W.isFn K (.ref f24) = true)
    (l24 : K.lookup f24 = some ⟨oc24, od24, .func (PySem.W.fnOf "count" "Net.count" (defArgs sCount) (defBody sCount) (defScope sCount) .none kV24 dc24 pm24 an24 cd24 ct24), sl24⟩) (c24 : PySem.W.codeIn K cd24 "Net.count" = true) (k24 : PySem.W.keepIn K (.ref f24) = true)
    (a25 : PySem.W.nsIn K mainGlobals "is_name" = some (some (.ref f25)))
    (l25 : K.lookup f25 = some ⟨oc25, od25, .func (PySem.W.fnOf "is_name" "is_name" (defArgs sName) (defBody sName) (defScope sName) .none kV25 dc25 pm25 an25 cd25 ct25), sl25⟩) (c25 : PySem.W.codeIn K cd25 "is_name" = true) (k25 : PySem.W.keepIn K (.ref f25) = true)
    (a26 : PySem.W.nsIn K mainGlobals "refuse_names" = some (some (.ref f26)))
    (l26 : K.lookup f26 = some ⟨oc26, od26, .func (PySem.W.fnOf "refuse_names" "refuse_names" (defArgs sRNames) (defBody sRNames) (defScope sRNames) .none kV26 dc26 pm26 an26 cd26 ct26), sl26⟩) (c26 : PySem.W.codeIn K cd26 "refuse_names" = true) (k26 : PySem.W.keepIn K (.ref f26) = true)
    (a27 : PySem.W.nsIn K mainGlobals "words_of" = some (some (.ref f27)))
    (l27 : K.lookup f27 = some ⟨oc27, od27, .func (PySem.W.fnOf "words_of" "words_of" (defArgs sWords) (defBody sWords) (defScope sWords) .none kV27 dc27 pm27 an27 cd27 ct27), sl27⟩) (c27 : PySem.W.codeIn K cd27 "words_of" = true) (k27 : PySem.W.keepIn K (.ref f27) = true)
    (a28 : PySem.W.nsIn K mainGlobals "has_form" = some (some (.ref f28)))
    (l28 : K.lookup f28 = some ⟨oc28, od28, .func (PySem.W.fnOf "has_form" "has_form" (defArgs sForm) (defBody sForm) (defScope sForm) .none kV28 dc28 pm28 an28 cd28 ct28), sl28⟩) (c28 : PySem.W.codeIn K cd28 "has_form" = true) (k28 : PySem.W.keepIn K (.ref f28) = true)
    (a29 : PySem.W.nsIn K mainGlobals "refuse_form" = some (some (.ref f29)))
    (l29 : K.lookup f29 = some ⟨oc29, od29, .func (PySem.W.fnOf "refuse_form" "refuse_form" (defArgs sRForm) (defBody sRForm) (defScope sRForm) .none kV29 dc29 pm29 an29 cd29 ct29), sl29⟩) (c29 : PySem.W.codeIn K cd29 "refuse_form" = true) (k29 : PySem.W.keepIn K (.ref f29) = true)
    (a30_0 : PySem.W.findIn K (.ref c_Plan) "__init__" = some (some (.ref f30)))
    (i30 : PySem.W.isFn K (.ref f30) = true)
    (l30 : K.lookup f30 = some ⟨oc30, od30, .func (PySem.W.fnOf "__init__" "Plan.__init__" (defArgs sPInit) (defBody sPInit) (defScope sPInit) .none kV30 dc30 pm30 an30 cd30 ct30), sl30⟩) (c30 : PySem.W.codeIn K cd30 "Plan.__init__" = true) (k30 : PySem.W.keepIn K (.ref f30) = true)
    (a31_0 : PySem.W.findIn K (.ref c_Plan) "copy" = some (some (.ref f31)))
    (i31 : PySem.W.isFn K (.ref f31) = true)
    (l31 : K.lookup f31 = some ⟨oc31, od31, .func (PySem.W.fnOf "copy" "Plan.copy" (defArgs sPCopy) (defBody sPCopy) (defScope sPCopy) .none kV31 dc31 pm31 an31 cd31 ct31), sl31⟩) (c31 : PySem.W.codeIn K cd31 "Plan.copy" = true) (k31 : PySem.W.keepIn K (.ref f31) = true)
    (a32_0 : PySem.W.findIn K (.ref c_Plan) "place_of" = some (some (.ref f32)))
    (i32 : PySem.W.isFn K (.ref f32) = true)
    (l32 : K.lookup f32 = some ⟨oc32, od32, .func (PySem.W.fnOf "place_of" "Plan.place_of" (defArgs sPlace) (defBody sPlace) (defScope sPlace) .none kV32 dc32 pm32 an32 cd32 ct32), sl32⟩) (c32 : PySem.W.codeIn K cd32 "Plan.place_of" = true) (k32 : PySem.W.keepIn K (.ref f32) = true)
    (a33_0 : PySem.W.findIn K (.ref c_Plan) "enter" = some (some (.ref f33)))
    (i33 : PySem.W.isFn K (.ref f33) = true)
    (l33 : K.lookup f33 = some ⟨oc33, od33, .func (PySem.W.fnOf "enter" "Plan.enter" (defArgs sEnter) (defBody sEnter) (defScope sEnter) .none kV33 dc33 pm33 an33 cd33 ct33), sl33⟩) (c33 : PySem.W.codeIn K cd33 "Plan.enter" = true) (k33 : PySem.W.keepIn K (.ref f33) = true)
    (a34_0 : PySem.W.findIn K (.ref c_Plan) "put_in" = some (some (.ref f34)))
    (i34 : PySem.W.isFn K (.ref f34) = true)
    (l34 : K.lookup f34 = some ⟨oc34, od34, .func (PySem.W.fnOf "put_in" "Plan.put_in" (defArgs sPut) (defBody sPut) (defScope sPut) .none kV34 dc34 pm34 an34 cd34 ct34), sl34⟩) (c34 : PySem.W.codeIn K cd34 "Plan.put_in" = true) (k34 : PySem.W.keepIn K (.ref f34) = true)
    (a35_0 : PySem.W.findIn K (.ref c_Plan) "is_overfull" = some (some (.ref f35)))
    (i35 : PySem.W.isFn K (.ref f35) = true)
    (l35 : K.lookup f35 = some ⟨oc35, od35, .func (PySem.W.fnOf "is_overfull" "Plan.is_overfull" (defArgs sOver) (defBody sOver) (defScope sOver) .none kV35 dc35 pm35 an35 cd35 ct35), sl35⟩) (c35 : PySem.W.codeIn K cd35 "Plan.is_overfull" = true) (k35 : PySem.W.keepIn K (.ref f35) = true)
    (a36_0 : PySem.W.findIn K (.ref c_Plan) "net" = some (some (.ref f36)))
    (i36 : PySem.W.isFn K (.ref f36) = true)
    (l36 : K.lookup f36 = some ⟨oc36, od36, .func (PySem.W.fnOf "net" "Plan.net" (defArgs sPNet) (defBody sPNet) (defScope sPNet) .none kV36 dc36 pm36 an36 cd36 ct36), sl36⟩) (c36 : PySem.W.codeIn K cd36 "Plan.net" = true) (k36 : PySem.W.keepIn K (.ref f36) = true)
    (a37 : PySem.W.nsIn K mainGlobals "refuse_overfull" = some (some (.ref f37)))
    (l37 : K.lookup f37 = some ⟨oc37, od37, .func (PySem.W.fnOf "refuse_overfull" "refuse_overfull" (defArgs sROver) (defBody sROver) (defScope sROver) .none kV37 dc37 pm37 an37 cd37 ct37), sl37⟩) (c37 : PySem.W.codeIn K cd37 "refuse_overfull" = true) (k37 : PySem.W.keepIn K (.ref f37) = true)
    (a38_0 : PySem.W.findIn K (.ref c_Yard) "__init__" = some (some (.ref f38)))
    (i38 : PySem.W.isFn K (.ref f38) = true)
    (l38 : K.lookup f38 = some ⟨oc38, od38, .func (PySem.W.fnOf "__init__" "Yard.__init__" (defArgs sYInit) (defBody sYInit) (defScope sYInit) .none kV38 dc38 pm38 an38 cd38 ct38), sl38⟩) (c38 : PySem.W.codeIn K cd38 "Yard.__init__" = true) (k38 : PySem.W.keepIn K (.ref f38) = true)
    (a39_0 : PySem.W.findIn K (.ref c_Yard) "copy_of_told" = some (some (.ref f39)))
    (i39 : PySem.W.isFn K (.ref f39) = true)
    (l39 : K.lookup f39 = some ⟨oc39, od39, .func (PySem.W.fnOf "copy_of_told" "Yard.copy_of_told" (defArgs sCoT) (defBody sCoT) (defScope sCoT) .none kV39 dc39 pm39 an39 cd39 ct39), sl39⟩) (c39 : PySem.W.codeIn K cd39 "Yard.copy_of_told" = true) (k39 : PySem.W.keepIn K (.ref f39) = true)
    (a40_0 : PySem.W.findIn K (.ref c_Yard) "keep" = some (some (.ref f40)))
    (i40 : PySem.W.isFn K (.ref f40) = true)
    (l40 : K.lookup f40 = some ⟨oc40, od40, .func (PySem.W.fnOf "keep" "Yard.keep" (defArgs sKeep) (defBody sKeep) (defScope sKeep) .none kV40 dc40 pm40 an40 cd40 ct40), sl40⟩) (c40 : PySem.W.codeIn K cd40 "Yard.keep" = true) (k40 : PySem.W.keepIn K (.ref f40) = true)
    (a41_0 : PySem.W.findIn K (.ref c_Yard) "begin_part" = some (some (.ref f41)))
    (i41 : PySem.W.isFn K (.ref f41) = true)
    (l41 : K.lookup f41 = some ⟨oc41, od41, .func (PySem.W.fnOf "begin_part" "Yard.begin_part" (defArgs sBeg) (defBody sBeg) (defScope sBeg) .none kV41 dc41 pm41 an41 cd41 ct41), sl41⟩) (c41 : PySem.W.codeIn K cd41 "Yard.begin_part" = true) (k41 : PySem.W.keepIn K (.ref f41) = true)
    (a42_0 : PySem.W.findIn K (.ref c_Yard) "end_part" = some (some (.ref f42)))
    (i42 : PySem.W.isFn K (.ref f42) = true)
    (l42 : K.lookup f42 = some ⟨oc42, od42, .func (PySem.W.fnOf "end_part" "Yard.end_part" (defArgs sEnd) (defBody sEnd) (defScope sEnd) .none kV42 dc42 pm42 an42 cd42 ct42), sl42⟩) (c42 : PySem.W.codeIn K cd42 "Yard.end_part" = true) (k42 : PySem.W.keepIn K (.ref f42) = true)
    (a43_0 : PySem.W.findIn K (.ref c_Yard) "enter_put" = some (some (.ref f43)))
    (i43 : PySem.W.isFn K (.ref f43) = true)
    (l43 : K.lookup f43 = some ⟨oc43, od43, .func (PySem.W.fnOf "enter_put" "Yard.enter_put" (defArgs sEPut) (defBody sEPut) (defScope sEPut) .none kV43 dc43 pm43 an43 cd43 ct43), sl43⟩) (c43 : PySem.W.codeIn K cd43 "Yard.enter_put" = true) (k43 : PySem.W.keepIn K (.ref f43) = true)
    (a44_0 : PySem.W.findIn K (.ref c_Yard) "enter_row" = some (some (.ref f44)))
    (i44 : PySem.W.isFn K (.ref f44) = true)
    (l44 : K.lookup f44 = some ⟨oc44, od44, .func (PySem.W.fnOf "enter_row" "Yard.enter_row" (defArgs sERow) (defBody sERow) (defScope sERow) .none kV44 dc44 pm44 an44 cd44 ct44), sl44⟩) (c44 : PySem.W.codeIn K cd44 "Yard.enter_row" = true) (k44 : PySem.W.keepIn K (.ref f44) = true)
    (a45_0 : PySem.W.findIn K (.ref c_Yard) "tell" = some (some (.ref f45)))
    (i45 : PySem.W.isFn K (.ref f45) = true)
    (l45 : K.lookup f45 = some ⟨oc45, od45, .func (PySem.W.fnOf "tell" "Yard.tell" (defArgs sTell) (defBody sTell) (defScope sTell) .none kV45 dc45 pm45 an45 cd45 ct45), sl45⟩) (c45 : PySem.W.codeIn K cd45 "Yard.tell" = true) (k45 : PySem.W.keepIn K (.ref f45) = true)
    (a46_0 : PySem.W.findIn K (.ref c_Yard) "names" = some (some (.ref f46)))
    (i46 : PySem.W.isFn K (.ref f46) = true)
    (l46 : K.lookup f46 = some ⟨oc46, od46, .func (PySem.W.fnOf "names" "Yard.names" (defArgs sNames) (defBody sNames) (defScope sNames) .none kV46 dc46 pm46 an46 cd46 ct46), sl46⟩) (c46 : PySem.W.codeIn K cd46 "Yard.names" = true) (k46 : PySem.W.keepIn K (.ref f46) = true)
    (a47_0 : PySem.W.findIn K (.ref c_Yard) "net" = some (some (.ref f47)))
    (i47 : PySem.W.isFn K (.ref f47) = true)
    (l47 : K.lookup f47 = some ⟨oc47, od47, .func (PySem.W.fnOf "net" "Yard.net" (defArgs sYNet) (defBody sYNet) (defScope sYNet) .none kV47 dc47 pm47 an47 cd47 ct47), sl47⟩) (c47 : PySem.W.codeIn K cd47 "Yard.net" = true) (k47 : PySem.W.keepIn K (.ref f47) = true)
    (a48 : PySem.W.nsIn K mainGlobals "_law_pick" = some (some (.ref f48)))
    (l48 : K.lookup f48 = some ⟨oc48, od48, .func (PySem.W.fnOf "_law_pick" "_law_pick" (defArgs sPick) (defBody sPick) (defScope sPick) .none kV48 dc48 pm48 an48 cd48 ct48), sl48⟩) (c48 : PySem.W.codeIn K cd48 "_law_pick" = true) (k48 : PySem.W.keepIn K (.ref f48) = true)
    (a49 : PySem.W.nsIn K mainGlobals "_law_mix" = some (some (.ref f49)))
    (l49 : K.lookup f49 = some ⟨oc49, od49, .func (PySem.W.fnOf "_law_mix" "_law_mix" (defArgs sMix) (defBody sMix) (defScope sMix) .none kV49 dc49 pm49 an49 cd49 ct49), sl49⟩) (c49 : PySem.W.codeIn K cd49 "_law_mix" = true) (k49 : PySem.W.keepIn K (.ref f49) = true)
    (a50 : PySem.W.nsIn K mainGlobals "_law_letter" = some (some (.ref f50)))
    (l50 : K.lookup f50 = some ⟨oc50, od50, .func (PySem.W.fnOf "_law_letter" "_law_letter" (defArgs sLet) (defBody sLet) (defScope sLet) .none kV50 dc50 pm50 an50 cd50 ct50), sl50⟩) (c50 : PySem.W.codeIn K cd50 "_law_letter" = true) (k50 : PySem.W.keepIn K (.ref f50) = true)
    (a51 : PySem.W.nsIn K mainGlobals "_law_many" = some (some (.ref f51)))
    (l51 : K.lookup f51 = some ⟨oc51, od51, .func (PySem.W.fnOf "_law_many" "_law_many" (defArgs sManyL) (defBody sManyL) (defScope sManyL) .none kV51 dc51 pm51 an51 cd51 ct51), sl51⟩) (c51 : PySem.W.codeIn K cd51 "_law_many" = true) (k51 : PySem.W.keepIn K (.ref f51) = true)
    (a52 : PySem.W.nsIn K mainGlobals "_law_first" = some (some (.ref f52)))
    (l52 : K.lookup f52 = some ⟨oc52, od52, .func (PySem.W.fnOf "_law_first" "_law_first" (defArgs sFirst) (defBody sFirst) (defScope sFirst) .none kV52 dc52 pm52 an52 cd52 ct52), sl52⟩) (c52 : PySem.W.codeIn K cd52 "_law_first" = true) (k52 : PySem.W.keepIn K (.ref f52) = true)
    (a53 : PySem.W.nsIn K mainGlobals "_law_full" = some (some (.ref f53)))
    (l53 : K.lookup f53 = some ⟨oc53, od53, .func (PySem.W.fnOf "_law_full" "_law_full" (defArgs sFull) (defBody sFull) (defScope sFull) .none kV53 dc53 pm53 an53 cd53 ct53), sl53⟩) (c53 : PySem.W.codeIn K cd53 "_law_full" = true) (k53 : PySem.W.keepIn K (.ref f53) = true)
    (a54 : PySem.W.nsIn K mainGlobals "_law_puts" = some (some (.ref f54)))
    (l54 : K.lookup f54 = some ⟨oc54, od54, .func (PySem.W.fnOf "_law_puts" "_law_puts" (defArgs sPuts) (defBody sPuts) (defScope sPuts) .none kV54 dc54 pm54 an54 cd54 ct54), sl54⟩) (c54 : PySem.W.codeIn K cd54 "_law_puts" = true) (k54 : PySem.W.keepIn K (.ref f54) = true)
    (a55 : PySem.W.nsIn K mainGlobals "_law_part" = some (some (.ref f55)))
    (l55 : K.lookup f55 = some ⟨oc55, od55, .func (PySem.W.fnOf "_law_part" "_law_part" (defArgs sPartL) (defBody sPartL) (defScope sPartL) .none kV55 dc55 pm55 an55 cd55 ct55), sl55⟩) (c55 : PySem.W.codeIn K cd55 "_law_part" = true) (k55 : PySem.W.keepIn K (.ref f55) = true)
    (a56 : PySem.W.nsIn K mainGlobals "_law_parts_told" = some (some (.ref f56)))
    (l56 : K.lookup f56 = some ⟨oc56, od56, .func (PySem.W.fnOf "_law_parts_told" "_law_parts_told" (defArgs sParts) (defBody sParts) (defScope sParts) .none kV56 dc56 pm56 an56 cd56 ct56), sl56⟩) (c56 : PySem.W.codeIn K cd56 "_law_parts_told" = true) (k56 : PySem.W.keepIn K (.ref f56) = true)
    (a57 : PySem.W.nsIn K mainGlobals "law" = some (some (.ref f57)))
    (l57 : K.lookup f57 = some ⟨oc57, od57, .func (PySem.W.fnOf "law" "law" (defArgs sLaw) (defBody sLaw) (defScope sLaw) .none kV57 dc57 pm57 an57 cd57 ct57), sl57⟩) (c57 : PySem.W.codeIn K cd57 "law" = true) (k57 : PySem.W.keepIn K (.ref f57) = true)
    (v_NOUGHT : PySem.W.nsIn K mainGlobals "NOUGHT" = some (some (.ref aN)))
    (v_ROW_WORDS : PySem.W.nsIn K mainGlobals "ROW_WORDS" = some (some (.ref aW)))
    (v_MOST_POINTS : PySem.W.nsIn K mainGlobals "MOST_POINTS" = some (some (.int 20 tM)))
    (v_MOST_ROWS : PySem.W.nsIn K mainGlobals "MOST_ROWS" = some (some (.int 40 tR)))
    (v_FIGURES : PySem.W.nsIn K mainGlobals "FIGURES" = some (some (.str "0123456789" tF)))
    (v_MOST_FIGURES : PySem.W.nsIn K mainGlobals "MOST_FIGURES" = some (some (.int 200 tG)))
    (v_LETTERS : PySem.W.nsIn K mainGlobals "LETTERS" = some (some (.str "abcdefghijklmnopqrstuvwxyz" tL)))
    (v_MOST_LETTERS : PySem.W.nsIn K mainGlobals "MOST_LETTERS" = some (some (.int 8 tE)))
    (v_MOST_PARTS : PySem.W.nsIn K mainGlobals "MOST_PARTS" = some (some (.int 20 tP)))
    (lN : K.lookup aN = some ⟨.type "tuple", dN, .seq #[.int 0 t0, .int 1 t1] nN, sN⟩)
    (lW : K.lookup aW = some ⟨.type "tuple", dW, .seq #[.str "piece" w0, .str "push" w1, .str "hold" w2] nW, sW⟩)
    (pg_Piece : PySem.W.plainGet K c_Piece Str.empty = true)
    (hd_Piece : PySem.W.hasDictIn K c_Piece = true)
    (po_Piece : PySem.W.plainOver K c_Piece = true)
    (sa_Piece : PySem.W.findIn K (.ref c_Piece) "__setattr__" = some (some (.builtin "object.__setattr__")))
    (mk_Piece : PySem.W.makesIn K c_Piece = true)
    (kc_Piece : PySem.W.keepIn K (.ref c_Piece) = true)
    (t1_Piece : PySem.W.findIn K (.ref c_Piece) "__class__" = some (some (.builtin "object.__class__")))
    (t4_Piece : PySem.W.mroIn K c_Piece (.type "object") = some true)
    (na_Piece_start : PySem.W.findIn K (.ref c_Piece) "start" = some none)
    (na_Piece_goal : PySem.W.findIn K (.ref c_Piece) "goal" = some none)
    (na_Piece_size : PySem.W.findIn K (.ref c_Piece) "size" = some none)
    (pg_Push : PySem.W.plainGet K c_Push Str.empty = true)
    (hd_Push : PySem.W.hasDictIn K c_Push = true)
    (po_Push : PySem.W.plainOver K c_Push = true)
    (sa_Push : PySem.W.findIn K (.ref c_Push) "__setattr__" = some (some (.builtin "object.__setattr__")))
    (mk_Push : PySem.W.makesIn K c_Push = true)
    (kc_Push : PySem.W.keepIn K (.ref c_Push) = true)
    (t1_Push : PySem.W.findIn K (.ref c_Push) "__class__" = some (some (.builtin "object.__class__")))
    (t4_Push : PySem.W.mroIn K c_Push (.type "object") = some true)
    (na_Push_start : PySem.W.findIn K (.ref c_Push) "start" = some none)
    (na_Push_goal : PySem.W.findIn K (.ref c_Push) "goal" = some none)
    (na_Push_size : PySem.W.findIn K (.ref c_Push) "size" = some none)
    (pg_Hold : PySem.W.plainGet K c_Hold Str.empty = true)
    (hd_Hold : PySem.W.hasDictIn K c_Hold = true)
    (po_Hold : PySem.W.plainOver K c_Hold = true)
    (sa_Hold : PySem.W.findIn K (.ref c_Hold) "__setattr__" = some (some (.builtin "object.__setattr__")))
    (mk_Hold : PySem.W.makesIn K c_Hold = true)
    (kc_Hold : PySem.W.keepIn K (.ref c_Hold) = true)
    (t1_Hold : PySem.W.findIn K (.ref c_Hold) "__class__" = some (some (.builtin "object.__class__")))
    (t4_Hold : PySem.W.mroIn K c_Hold (.type "object") = some true)
    (na_Hold_start : PySem.W.findIn K (.ref c_Hold) "start" = some none)
    (na_Hold_goal : PySem.W.findIn K (.ref c_Hold) "goal" = some none)
    (na_Hold_size : PySem.W.findIn K (.ref c_Hold) "size" = some none)
    (tt2 : PySem.W.specialIn K (.builtin "object.__class__") "__get__" = some (some (.builtin "getset_descriptor.__get__")))
    (tt3 : PySem.W.takesIn K (.builtin "object.__class__") = some true)
    (isR_Piece : PySem.W.kitOne K (.ref c_Piece) (.ref c_Row) = some true)
    (isR_Push : PySem.W.kitOne K (.ref c_Push) (.ref c_Row) = some true)
    (isR_Hold : PySem.W.kitOne K (.ref c_Hold) (.ref c_Row) = some true)
    (isK_Piece_Push : PySem.W.kitOne K (.ref c_Piece) (.ref c_Push) = some false)
    (isK_Piece_Hold : PySem.W.kitOne K (.ref c_Piece) (.ref c_Hold) = some false)
    (isK_Push_Piece : PySem.W.kitOne K (.ref c_Push) (.ref c_Piece) = some false)
    (isK_Push_Hold : PySem.W.kitOne K (.ref c_Push) (.ref c_Hold) = some false)
    (isK_Hold_Piece : PySem.W.kitOne K (.ref c_Hold) (.ref c_Piece) = some false)
    (isK_Hold_Push : PySem.W.kitOne K (.ref c_Hold) (.ref c_Push) = some false)
    (pg_Net : PySem.W.plainGet K c_Net Str.empty = true)
    (hd_Net : PySem.W.hasDictIn K c_Net = true)
    (po_Net : PySem.W.plainOver K c_Net = true)
    (sa_Net : PySem.W.findIn K (.ref c_Net) "__setattr__" = some (some (.builtin "object.__setattr__")))
    (mk_Net : PySem.W.makesIn K c_Net = true)
    (kc_Net : PySem.W.keepIn K (.ref c_Net) = true)
    (t1_Net : PySem.W.findIn K (.ref c_Net) "__class__" = some (some (.builtin "object.__class__")))
    (t4_Net : PySem.W.mroIn K c_Net (.type "object") = some true)
    (na_Net_point_count : PySem.W.findIn K (.ref c_Net) "point_count" = some none)
    (na_Net_kept : PySem.W.findIn K (.ref c_Net) "kept" = some none)
    (x1_NoRow : PySem.W.excIn K c_NoRow bmVE "ValueError.__new__" = true)
    (x2_NoRow : PySem.W.findIn K (.ref c_NoRow) "__getattribute__" = some (some (.builtin "BaseException.__getattribute__")))
    (x3_NoRow : PySem.W.findIn K (.ref c_NoRow) "__getattr__" = some none)
    (x4_NoRow : PySem.W.mroIn K c_NoRow (.type "BaseException") = some true)
    (x5_NoRow : PySem.W.mroIn K c_NoRow (.type "object") = some true)
    (x6_NoRow : PySem.W.findIn K (.ref c_NoRow) "__class__" = some (some (.builtin "object.__class__")))
    (x7_NoRow : PySem.W.specialIn K (.builtin "object.__class__") "__get__" = some (some (.builtin "getset_descriptor.__get__")))
    (x8_NoRow : PySem.W.takesIn K (.builtin "object.__class__") = some true)
    (x9_NoRow : (PySem.W.clsIn K c_NoRow).isSome = true)
    (x1_NoName : PySem.W.excIn K c_NoName bmVE "ValueError.__new__" = true)
    (x2_NoName : PySem.W.findIn K (.ref c_NoName) "__getattribute__" = some (some (.builtin "BaseException.__getattribute__")))
    (x3_NoName : PySem.W.findIn K (.ref c_NoName) "__getattr__" = some none)
    (x4_NoName : PySem.W.mroIn K c_NoName (.type "BaseException") = some true)
    (x5_NoName : PySem.W.mroIn K c_NoName (.type "object") = some true)
    (x6_NoName : PySem.W.findIn K (.ref c_NoName) "__class__" = some (some (.builtin "object.__class__")))
    (x7_NoName : PySem.W.specialIn K (.builtin "object.__class__") "__get__" = some (some (.builtin "getset_descriptor.__get__")))
    (x8_NoName : PySem.W.takesIn K (.builtin "object.__class__") = some true)
    (x9_NoName : (PySem.W.clsIn K c_NoName).isSome = true)
    (x1_NoNumber : PySem.W.excIn K c_NoNumber bmVE "ValueError.__new__" = true)
    (x2_NoNumber : PySem.W.findIn K (.ref c_NoNumber) "__getattribute__" = some (some (.builtin "BaseException.__getattribute__")))
    (x3_NoNumber : PySem.W.findIn K (.ref c_NoNumber) "__getattr__" = some none)
    (x4_NoNumber : PySem.W.mroIn K c_NoNumber (.type "BaseException") = some true)
    (x5_NoNumber : PySem.W.mroIn K c_NoNumber (.type "object") = some true)
    (x6_NoNumber : PySem.W.findIn K (.ref c_NoNumber) "__class__" = some (some (.builtin "object.__class__")))
    (x7_NoNumber : PySem.W.specialIn K (.builtin "object.__class__") "__get__" = some (some (.builtin "getset_descriptor.__get__")))
    (x8_NoNumber : PySem.W.takesIn K (.builtin "object.__class__") = some true)
    (x9_NoNumber : (PySem.W.clsIn K c_NoNumber).isSome = true)
    (x1_NoSize : PySem.W.excIn K c_NoSize bmVE "ValueError.__new__" = true)
    (x2_NoSize : PySem.W.findIn K (.ref c_NoSize) "__getattribute__" = some (some (.builtin "BaseException.__getattribute__")))
    (x3_NoSize : PySem.W.findIn K (.ref c_NoSize) "__getattr__" = some none)
    (x4_NoSize : PySem.W.mroIn K c_NoSize (.type "BaseException") = some true)
    (x5_NoSize : PySem.W.mroIn K c_NoSize (.type "object") = some true)
    (x6_NoSize : PySem.W.findIn K (.ref c_NoSize) "__class__" = some (some (.builtin "object.__class__")))
    (x7_NoSize : PySem.W.specialIn K (.builtin "object.__class__") "__get__" = some (some (.builtin "getset_descriptor.__get__")))
    (x8_NoSize : PySem.W.takesIn K (.builtin "object.__class__") = some true)
    (x9_NoSize : (PySem.W.clsIn K c_NoSize).isSome = true)
    (x1_NoPoint : PySem.W.excIn K c_NoPoint bmVE "ValueError.__new__" = true)
    (x2_NoPoint : PySem.W.findIn K (.ref c_NoPoint) "__getattribute__" = some (some (.builtin "BaseException.__getattribute__")))
    (x3_NoPoint : PySem.W.findIn K (.ref c_NoPoint) "__getattr__" = some none)
    (x4_NoPoint : PySem.W.mroIn K c_NoPoint (.type "BaseException") = some true)
    (x5_NoPoint : PySem.W.mroIn K c_NoPoint (.type "object") = some true)
    (x6_NoPoint : PySem.W.findIn K (.ref c_NoPoint) "__class__" = some (some (.builtin "object.__class__")))
    (x7_NoPoint : PySem.W.specialIn K (.builtin "object.__class__") "__get__" = some (some (.builtin "getset_descriptor.__get__")))
    (x8_NoPoint : PySem.W.takesIn K (.builtin "object.__class__") = some true)
    (x9_NoPoint : (PySem.W.clsIn K c_NoPoint).isSome = true)
    (x1_TooMany : PySem.W.excIn K c_TooMany bmVE "ValueError.__new__" = true)
    (x2_TooMany : PySem.W.findIn K (.ref c_TooMany) "__getattribute__" = some (some (.builtin "BaseException.__getattribute__")))
    (x3_TooMany : PySem.W.findIn K (.ref c_TooMany) "__getattr__" = some none)
    (x4_TooMany : PySem.W.mroIn K c_TooMany (.type "BaseException") = some true)
    (x5_TooMany : PySem.W.mroIn K c_TooMany (.type "object") = some true)
    (x6_TooMany : PySem.W.findIn K (.ref c_TooMany) "__class__" = some (some (.builtin "object.__class__")))
    (x7_TooMany : PySem.W.specialIn K (.builtin "object.__class__") "__get__" = some (some (.builtin "getset_descriptor.__get__")))
    (x8_TooMany : PySem.W.takesIn K (.builtin "object.__class__") = some true)
    (x9_TooMany : (PySem.W.clsIn K c_TooMany).isSome = true)
    (nd : PySem.W.nsIn K cStatics "sys.int_max_str_digits" = some none)
    (pg_Plan : PySem.W.plainGet K c_Plan Str.empty = true)
    (hd_Plan : PySem.W.hasDictIn K c_Plan = true)
    (po_Plan : PySem.W.plainOver K c_Plan = true)
    (sa_Plan : PySem.W.findIn K (.ref c_Plan) "__setattr__" = some (some (.builtin "object.__setattr__")))
    (mk_Plan : PySem.W.makesIn K c_Plan = true)
    (kc_Plan : PySem.W.keepIn K (.ref c_Plan) = true)
    (na_Plan_labels : PySem.W.findIn K (.ref c_Plan) "labels" = some none)
    (na_Plan_end_count : PySem.W.findIn K (.ref c_Plan) "end_count" = some none)
    (na_Plan_entries : PySem.W.findIn K (.ref c_Plan) "entries" = some none)
    (na_Plan_put_names : PySem.W.findIn K (.ref c_Plan) "put_names" = some none)
    (pg_Yard : PySem.W.plainGet K c_Yard Str.empty = true)
    (hd_Yard : PySem.W.hasDictIn K c_Yard = true)
    (po_Yard : PySem.W.plainOver K c_Yard = true)
    (sa_Yard : PySem.W.findIn K (.ref c_Yard) "__setattr__" = some (some (.builtin "object.__setattr__")))
    (mk_Yard : PySem.W.makesIn K c_Yard = true)
    (kc_Yard : PySem.W.keepIn K (.ref c_Yard) = true)
    (na_Yard_ground : PySem.W.findIn K (.ref c_Yard) "ground" = some none)
    (na_Yard_parts : PySem.W.findIn K (.ref c_Yard) "parts" = some none)
    (na_Yard_opened : PySem.W.findIn K (.ref c_Yard) "opened" = some none)
    (na_Yard_opened_plan : PySem.W.findIn K (.ref c_Yard) "opened_plan" = some none)
    (q1_row : PySem.W.exmOne K (.ref c_NoRow) (.ref c_OhmError) = some true)
    (qk_row_name : PySem.W.kitOne K (.ref c_NoRow) (.ref c_NoName) = some false)
    (qk_row_num : PySem.W.kitOne K (.ref c_NoRow) (.ref c_NoNumber) = some false)
    (qk_row_size : PySem.W.kitOne K (.ref c_NoRow) (.ref c_NoSize) = some false)
    (qk_row_many : PySem.W.kitOne K (.ref c_NoRow) (.ref c_TooMany) = some false)
    (q1_name : PySem.W.exmOne K (.ref c_NoName) (.ref c_OhmError) = some true)
    (qk_name_row : PySem.W.kitOne K (.ref c_NoName) (.ref c_NoRow) = some false)
    (qk_name_num : PySem.W.kitOne K (.ref c_NoName) (.ref c_NoNumber) = some false)
    (qk_name_size : PySem.W.kitOne K (.ref c_NoName) (.ref c_NoSize) = some false)
    (qk_name_many : PySem.W.kitOne K (.ref c_NoName) (.ref c_TooMany) = some false)
    (q1_num : PySem.W.exmOne K (.ref c_NoNumber) (.ref c_OhmError) = some true)
    (qk_num_row : PySem.W.kitOne K (.ref c_NoNumber) (.ref c_NoRow) = some false)
    (qk_num_name : PySem.W.kitOne K (.ref c_NoNumber) (.ref c_NoName) = some false)
    (qk_num_size : PySem.W.kitOne K (.ref c_NoNumber) (.ref c_NoSize) = some false)
    (qk_num_many : PySem.W.kitOne K (.ref c_NoNumber) (.ref c_TooMany) = some false)
    (q1_size : PySem.W.exmOne K (.ref c_NoSize) (.ref c_OhmError) = some true)
    (qk_size_row : PySem.W.kitOne K (.ref c_NoSize) (.ref c_NoRow) = some false)
    (qk_size_name : PySem.W.kitOne K (.ref c_NoSize) (.ref c_NoName) = some false)
    (qk_size_num : PySem.W.kitOne K (.ref c_NoSize) (.ref c_NoNumber) = some false)
    (qk_size_many : PySem.W.kitOne K (.ref c_NoSize) (.ref c_TooMany) = some false)
    (q1_many : PySem.W.exmOne K (.ref c_TooMany) (.ref c_OhmError) = some true)
    (qk_many_row : PySem.W.kitOne K (.ref c_TooMany) (.ref c_NoRow) = some false)
    (qk_many_name : PySem.W.kitOne K (.ref c_TooMany) (.ref c_NoName) = some false)
    (qk_many_num : PySem.W.kitOne K (.ref c_TooMany) (.ref c_NoNumber) = some false)
    (qk_many_size : PySem.W.kitOne K (.ref c_TooMany) (.ref c_NoSize) = some false)
    (qa_1 : PySem.W.kitAny K (.ref c_TooMany) [.ref c_NoName, .ref c_NoNumber, .ref c_NoRow, .ref c_NoSize] = some false)
    (qa_2 : PySem.W.kitAny K (.ref c_NoName) [.ref c_TooMany, .ref c_NoNumber, .ref c_NoRow, .ref c_NoSize] = some false)
    (z1 : PySem.W.nsIn K mainGlobals "isinstance" = some none)
    (z2 : PySem.W.nsIn K mainGlobals "int" = some none)
    (z3 : PySem.W.nsIn K mainGlobals "bool" = some none)
    (z4 : PySem.W.nsIn K mainGlobals "abs" = some none)
    (z5 : PySem.W.nsIn K mainGlobals "len" = some none)
    (z6 : PySem.W.nsIn K mainGlobals "range" = some none)
    (z7 : PySem.W.nsIn K mainGlobals "str" = some none)
    (z8 : PySem.W.nsIn K mainGlobals "tuple" = some none)
    (z9 : PySem.W.nsIn K mainGlobals "list" = some none)
    (z10 : PySem.W.nsIn K mainGlobals "all" = some none)
    (z11 : PySem.W.nsIn K mainGlobals "set" = some none)
    (z12 : PySem.W.nsIn K mainGlobals "min" = some none) :
    ∃ fd : FuncData, (∀ (s : Shared) (v : Value), BindsTo s fd ⟨[v], []⟩ [("_law_script", v)]) ∧ ∀ base : Heap, K.In base → base.Ns mainGlobals mg → FnOk l.prog w K mg base CX0 11 fa fd ["_law_script"] (spLaw K) := by
  have e := hfa.symm.trans (PySem.W.mg_of X G a57)
  cases e
  have mc_OhmError := PySem.W.mg_of X G y_OhmError
  have mc_NoRow := PySem.W.mg_of X G y_NoRow
  have mc_NoName := PySem.W.mg_of X G y_NoName
  have mc_NoNumber := PySem.W.mg_of X G y_NoNumber
  have mc_NoSize := PySem.W.mg_of X G y_NoSize
  have mc_NoPoint := PySem.W.mg_of X G y_NoPoint
  have mc_TooMany := PySem.W.mg_of X G y_TooMany
  have mc_Row := PySem.W.mg_of X G y_Row
  have mc_Piece := PySem.W.mg_of X G y_Piece
  have mc_Push := PySem.W.mg_of X G y_Push
  have mc_Hold := PySem.W.mg_of X G y_Hold
  have mc_Net := PySem.W.mg_of X G y_Net
  have mc_Plan := PySem.W.mg_of X G y_Plan
  have mc_Yard := PySem.W.mg_of X G y_Yard
  have F1 := fund_mk (st := sWhole) l1 c1 k1
  have m1 := PySem.W.mg_of X G a1
  have b1 := F1.binds (ps := ["thing"]) fun _ _ _ _ _ _ us hl => match us, hl with | [_], _ => rfl
  have F2 := fund_mk (st := sGc) l2 c2 k2
  have m2 := PySem.W.mg_of X G a2
  have b2 := F2.binds (ps := ["one", "other"]) fun _ _ _ _ _ _ us hl => match us, hl with | [_, _], _ => rfl
  have F3 := fund_mk (st := sUnder) l3 c3 k3
  have m3 := PySem.W.mg_of X G a3
  have b3 := F3.binds (ps := ["one", "other"]) fun _ _ _ _ _ _ us hl => match us, hl with | [_, _], _ => rfl
  have F4 := fund_mk (st := sFrac) l4 c4 k4
  have m4 := PySem.W.mg_of X G a4
  have b4 : Binds K _ ["top", "bottom"] [] := fun s us XX hl => match us, hl with | [_, _], _ => PySem.W.binds_K (fd := PySem.W.fnOf "fraction" "fraction" (defArgs sFrac) (defBody sFrac) (defScope sFrac) (.ref T4) kV4 dc4 pm4 an4 cd4 ct4) XX rfl lt4 rfl rfl rfl
  have bd4 : Binds K _ ["top", "bottom"] [.int 1 tk4] := fun s us XX hl => match us, (show us.length = 1 by simp at hl; omega) with | [_], _ => PySem.W.binds_K (fd := PySem.W.fnOf "fraction" "fraction" (defArgs sFrac) (defBody sFrac) (defScope sFrac) (.ref T4) kV4 dc4 pm4 an4 cd4 ct4) XX rfl lt4 rfl rfl rfl
  have F5 := fund_mk (st := sShow) l5 c5 k5
  have m5 := PySem.W.mg_of X G a5
  have b5 := F5.binds (ps := ["one"]) fun _ _ _ _ _ _ us hl => match us, hl with | [_], _ => rfl
  have F6 := fund_mk (st := sNosign) l6 c6 k6
  have m6 := PySem.W.mg_of X G a6
  have b6 := F6.binds (ps := ["text"]) fun _ _ _ _ _ _ us hl => match us, hl with | [_], _ => rfl
  have F7 := fund_mk (st := sFigs) l7 c7 k7
  have m7 := PySem.W.mg_of X G a7
  have b7 := F7.binds (ps := ["text"]) fun _ _ _ _ _ _ us hl => match us, hl with | [_], _ => rfl
  have F8 := fund_mk (st := sRead) l8 c8 k8
  have m8 := PySem.W.mg_of X G a8
  have b8 := F8.binds (ps := ["text"]) fun _ _ _ _ _ _ us hl => match us, hl with | [_], _ => rfl
  have F9 := fund_mk (st := sIsF) l9 c9 k9
  have m9 := PySem.W.mg_of X G a9
  have b9 := F9.binds (ps := ["thing"]) fun _ _ _ _ _ _ us hl => match us, hl with | [_], _ => rfl
  have F10 := fund_mk (st := sRInit) l10 c10 k10
  have b10 := F10.binds (ps := ["self", "start", "goal", "size"]) fun _ _ _ _ _ _ us hl => match us, hl with | [_, _, _, _], _ => rfl
  have F11 := fund_mk (st := sWord_pc) l11 c11 k11
  have b11 := F11.binds (ps := ["self"]) fun _ _ _ _ _ _ us hl => match us, hl with | [_], _ => rfl
  have F12 := fund_mk (st := sWord_pu) l12 c12 k12
  have b12 := F12.binds (ps := ["self"]) fun _ _ _ _ _ _ us hl => match us, hl with | [_], _ => rfl
  have F13 := fund_mk (st := sWord_ho) l13 c13 k13
  have b13 := F13.binds (ps := ["self"]) fun _ _ _ _ _ _ us hl => match us, hl with | [_], _ => rfl
  have F14 := fund_mk (st := sRTold) l14 c14 k14
  have b14 := F14.binds (ps := ["self"]) fun _ _ _ _ _ _ us hl => match us, hl with | [_], _ => rfl
  have F15 := fund_mk (st := sRowOf) l15 c15 k15
  have m15 := PySem.W.mg_of X G a15
  have b15 := F15.binds (ps := ["told"]) fun _ _ _ _ _ _ us hl => match us, hl with | [_], _ => rfl
  have F16 := fund_mk (st := sRAt) l16 c16 k16
  have b16 := F16.binds (ps := ["self", "places"]) fun _ _ _ _ _ _ us hl => match us, hl with | [_, _], _ => rfl
  have F17 := fund_mk (st := sPS) l17 c17 k17
  have m17 := PySem.W.mg_of X G a17
  have b17 := F17.binds (ps := ["thing"]) fun _ _ _ _ _ _ us hl => match us, hl with | [_], _ => rfl
  have F18 := fund_mk (st := sNB) l18 c18 k18
  have m18 := PySem.W.mg_of X G a18
  have b18 := F18.binds (ps := ["thing", "bound"]) fun _ _ _ _ _ _ us hl => match us, hl with | [_, _], _ => rfl
  have F19 := fund_mk (st := sRS) l19 c19 k19
  have m19 := PySem.W.mg_of X G a19
  have b19 := F19.binds (ps := ["word", "size"]) fun _ _ _ _ _ _ us hl => match us, hl with | [_, _], _ => rfl
  have F20 := fund_mk (st := sRP) l20 c20 k20
  have m20 := PySem.W.mg_of X G a20
  have b20 := F20.binds (ps := ["some", "many"]) fun _ _ _ _ _ _ us hl => match us, hl with | [_, _], _ => rfl
  have F21 := fund_mk (st := sNInit) l21 c21 k21
  have b21 := F21.binds (ps := ["self", "many"]) fun _ _ _ _ _ _ us hl => match us, hl with | [_, _], _ => rfl
  have F22 := fund_mk (st := sAdd) l22 c22 k22
  have b22 := F22.binds (ps := ["self", "row"]) fun _ _ _ _ _ _ us hl => match us, hl with | [_, _], _ => rfl
  have F23 := fund_mk (st := sMany) l23 c23 k23
  have b23 := F23.binds (ps := ["self"]) fun _ _ _ _ _ _ us hl => match us, hl with | [_], _ => rfl
  have F24 := fund_mk (st := sCount) l24 c24 k24
  have b24 := F24.binds (ps := ["self"]) fun _ _ _ _ _ _ us hl => match us, hl with | [_], _ => rfl
  have F25 := fund_mk (st := sName) l25 c25 k25
  have m25 := PySem.W.mg_of X G a25
  have b25 := F25.binds (ps := ["thing"]) fun _ _ _ _ _ _ us hl => match us, hl with | [_], _ => rfl
  have F26 := fund_mk (st := sRNames) l26 c26 k26
  have m26 := PySem.W.mg_of X G a26
  have b26 := F26.binds (ps := ["words"]) fun _ _ _ _ _ _ us hl => match us, hl with | [_], _ => rfl
  have F27 := fund_mk (st := sWords) l27 c27 k27
  have m27 := PySem.W.mg_of X G a27
  have b27 := F27.binds (ps := ["row"]) fun _ _ _ _ _ _ us hl => match us, hl with | [_], _ => rfl
  have F28 := fund_mk (st := sForm) l28 c28 k28
  have m28 := PySem.W.mg_of X G a28
  have b28 := F28.binds (ps := ["word", "count"]) fun _ _ _ _ _ _ us hl => match us, hl with | [_, _], _ => rfl
  have F29 := fund_mk (st := sRForm) l29 c29 k29
  have m29 := PySem.W.mg_of X G a29
  have b29 := F29.binds (ps := ["words"]) fun _ _ _ _ _ _ us hl => match us, hl with | [_], _ => rfl
  have F30 := fund_mk (st := sPInit) l30 c30 k30
  have b30 := F30.binds (ps := ["self", "labels", "end_count"]) fun _ _ _ _ _ _ us hl => match us, hl with | [_, _, _], _ => rfl
  have F31 := fund_mk (st := sPCopy) l31 c31 k31
  have b31 := F31.binds (ps := ["self"]) fun _ _ _ _ _ _ us hl => match us, hl with | [_], _ => rfl
  have F32 := fund_mk (st := sPlace) l32 c32 k32
  have b32 := F32.binds (ps := ["self", "label"]) fun _ _ _ _ _ _ us hl => match us, hl with | [_, _], _ => rfl
  have F33 := fund_mk (st := sEnter) l33 c33 k33
  have b33 := F33.binds (ps := ["self", "word", "start", "goal", "size"]) fun _ _ _ _ _ _ us hl => match us, hl with | [_, _, _, _, _], _ => rfl
  have F34 := fund_mk (st := sPut) l34 c34 k34
  have b34 := F34.binds (ps := ["self", "name", "part", "points"]) fun _ _ _ _ _ _ us hl => match us, hl with | [_, _, _, _], _ => rfl
  have F35 := fund_mk (st := sOver) l35 c35 k35
  have b35 := F35.binds (ps := ["self"]) fun _ _ _ _ _ _ us hl => match us, hl with | [_], _ => rfl
  have F36 := fund_mk (st := sPNet) l36 c36 k36
  have b36 := F36.binds (ps := ["self"]) fun _ _ _ _ _ _ us hl => match us, hl with | [_], _ => rfl
  have F37 := fund_mk (st := sROver) l37 c37 k37
  have m37 := PySem.W.mg_of X G a37
  have b37 := F37.binds (ps := ["plan"]) fun _ _ _ _ _ _ us hl => match us, hl with | [_], _ => rfl
  have F38 := fund_mk (st := sYInit) l38 c38 k38
  have b38 := F38.binds (ps := ["self"]) fun _ _ _ _ _ _ us hl => match us, hl with | [_], _ => rfl
  have F39 := fund_mk (st := sCoT) l39 c39 k39
  have b39 := F39.binds (ps := ["self"]) fun _ _ _ _ _ _ us hl => match us, hl with | [_], _ => rfl
  have F40 := fund_mk (st := sKeep) l40 c40 k40
  have b40 := F40.binds (ps := ["self", "plan"]) fun _ _ _ _ _ _ us hl => match us, hl with | [_, _], _ => rfl
  have F41 := fund_mk (st := sBeg) l41 c41 k41
  have b41 := F41.binds (ps := ["self", "name", "ends"]) fun _ _ _ _ _ _ us hl => match us, hl with | [_, _, _], _ => rfl
  have F42 := fund_mk (st := sEnd) l42 c42 k42
  have b42 := F42.binds (ps := ["self"]) fun _ _ _ _ _ _ us hl => match us, hl with | [_], _ => rfl
  have F43 := fund_mk (st := sEPut) l43 c43 k43
  have b43 := F43.binds (ps := ["self", "name", "part_name", "points"]) fun _ _ _ _ _ _ us hl => match us, hl with | [_, _, _, _], _ => rfl
  have F44 := fund_mk (st := sERow) l44 c44 k44
  have b44 := F44.binds (ps := ["self", "words"]) fun _ _ _ _ _ _ us hl => match us, hl with | [_, _], _ => rfl
  have F45 := fund_mk (st := sTell) l45 c45 k45
  have b45 := F45.binds (ps := ["self", "row"]) fun _ _ _ _ _ _ us hl => match us, hl with | [_, _], _ => rfl
  have F46 := fund_mk (st := sNames) l46 c46 k46
  have b46 := F46.binds (ps := ["self"]) fun _ _ _ _ _ _ us hl => match us, hl with | [_], _ => rfl
  have F47 := fund_mk (st := sYNet) l47 c47 k47
  have b47 := F47.binds (ps := ["self"]) fun _ _ _ _ _ _ us hl => match us, hl with | [_], _ => rfl
  have F48 := fund_mk (st := sPick) l48 c48 k48
  have m48 := PySem.W.mg_of X G a48
  have b48 := F48.binds (ps := ["_law_script", "_law_k"]) fun _ _ _ _ _ _ us hl => match us, hl with | [_, _], _ => rfl
  have F49 := fund_mk (st := sMix) l49 c49 k49
  have m49 := PySem.W.mg_of X G a49
  have b49 := F49.binds (ps := ["_law_cell", "_law_prime", "_law_many_here"]) fun _ _ _ _ _ _ us hl => match us, hl with | [_, _, _], _ => rfl
  have F50 := fund_mk (st := sLet) l50 c50 k50
  have m50 := PySem.W.mg_of X G a50
  have b50 := F50.binds (ps := ["_law_k"]) fun _ _ _ _ _ _ us hl => match us, hl with | [_], _ => rfl
  have F51 := fund_mk (st := sManyL) l51 c51 k51
  have m51 := PySem.W.mg_of X G a51
  have b51 := F51.binds (ps := ["_law_yard", "_law_row"]) fun _ _ _ _ _ _ us hl => match us, hl with | [_, _], _ => rfl
  have F52 := fund_mk (st := sFirst) l52 c52 k52
  have m52 := PySem.W.mg_of X G a52
  have b52 := F52.binds (ps := ["_law_yard", "_law_cell"]) fun _ _ _ _ _ _ us hl => match us, hl with | [_, _], _ => rfl
  have F53 := fund_mk (st := sFull) l53 c53 k53
  have m53 := PySem.W.mg_of X G a53
  have b53 := F53.binds (ps := ["_law_yard", "_law_two", "_law_rows"]) fun _ _ _ _ _ _ us hl => match us, hl with | [_, _, _], _ => rfl
  have F54 := fund_mk (st := sPuts) l54 c54 k54
  have m54 := PySem.W.mg_of X G a54
  have b54 := F54.binds (ps := ["_law_yard", "_law_cell", "_law_name", "_law_many_here", "_law_sizes", "_law_points"]) fun _ _ _ _ _ _ us hl => match us, hl with | [_, _, _, _, _, _], _ => rfl
  have F55 := fund_mk (st := sPartL) l55 c55 k55
  have m55 := PySem.W.mg_of X G a55
  have b55 := F55.binds (ps := ["_law_yard", "_law_cell", "_law_k", "_law_sizes"]) fun _ _ _ _ _ _ us hl => match us, hl with | [_, _, _, _], _ => rfl
  have F56 := fund_mk (st := sParts) l56 c56 k56
  have m56 := PySem.W.mg_of X G a56
  have b56 := F56.binds (ps := ["_law_yard", "_law_told", "_law_cell"]) fun _ _ _ _ _ _ us hl => match us, hl with | [_, _, _], _ => rfl
  have F57 := fund_mk (st := sLaw) l57 c57 k57
  have m57 := PySem.W.mg_of X G a57
  have b57 := F57.binds (ps := ["_law_script"]) fun _ _ _ _ _ _ us hl => match us, hl with | [_], _ => rfl
  have mv_NOUGHT := PySem.W.mg_of X G v_NOUGHT
  have mv_ROW_WORDS := PySem.W.mg_of X G v_ROW_WORDS
  have mv_MOST_POINTS := PySem.W.mg_of X G v_MOST_POINTS
  have mv_MOST_ROWS := PySem.W.mg_of X G v_MOST_ROWS
  have mv_FIGURES := PySem.W.mg_of X G v_FIGURES
  have mv_MOST_FIGURES := PySem.W.mg_of X G v_MOST_FIGURES
  have mv_LETTERS := PySem.W.mg_of X G v_LETTERS
  have mv_MOST_LETTERS := PySem.W.mg_of X G v_MOST_LETTERS
  have mv_MOST_PARTS := PySem.W.mg_of X G v_MOST_PARTS
  have n_isinstance := PySem.W.mg_none_of X G z1
  have n_int := PySem.W.mg_none_of X G z2
  have n_bool := PySem.W.mg_none_of X G z3
  have n_abs := PySem.W.mg_none_of X G z4
  have n_len := PySem.W.mg_none_of X G z5
  have n_range := PySem.W.mg_none_of X G z6
  have n_str := PySem.W.mg_none_of X G z7
  have n_tuple := PySem.W.mg_none_of X G z8
  have n_list := PySem.W.mg_none_of X G z9
  have n_all := PySem.W.mg_none_of X G z10
  have n_set := PySem.W.mg_none_of X G z11
  have n_min := PySem.W.mg_none_of X G z12
  refine ⟨PySem.W.fnOf "law" "law" (defArgs sLaw) (defBody sLaw) (defScope sLaw) .none kV57 dc57 pm57 an57 cd57 ct57, fun s v => .of_eq rfl, fun base _ _ => ?_⟩
  have bl : Bl mg := ⟨n_isinstance, n_int, n_bool, n_abs⟩
  have T : RT K mg c_Row (kd3 c_Piece c_Push c_Hold) := ⟨all3 ⟨pg_Piece, hd_Piece, po_Piece, sa_Piece⟩ ⟨pg_Push, hd_Push, po_Push, sa_Push⟩ ⟨pg_Hold, hd_Hold, po_Hold, sa_Hold⟩, all3 na_Piece_start na_Push_start na_Hold_start, all3 na_Piece_goal na_Push_goal na_Hold_goal, all3 na_Piece_size na_Push_size na_Hold_size, all3 t1_Piece t1_Push t1_Hold, tt2, tt3, all3 t4_Piece t4_Push t4_Hold, all3 isR_Piece isR_Push isR_Hold, all3 (all3 (kit_self _ _) isK_Piece_Push isK_Piece_Hold) (all3 isK_Push_Piece (kit_self _ _) isK_Push_Hold) (all3 isK_Hold_Piece isK_Hold_Push (kit_self _ _)), mc_Row, all3 mc_Piece mc_Push mc_Hold⟩
  have fN : ∀ H, Fq K H aN (0, 1) := Fq.mod lN
  have hW := mod3 lW
  have NTx : NT K mg c_Net := ⟨⟨pg_Net, hd_Net, po_Net, sa_Net⟩, na_Net_point_count, na_Net_kept, t1_Net, tt2, tt3, t4_Net, mc_Net⟩
  have PTx : PlT K mg c_Plan := ⟨⟨pg_Plan, hd_Plan, po_Plan, sa_Plan⟩, na_Plan_labels, na_Plan_end_count, na_Plan_entries, na_Plan_put_names, mc_Plan⟩
  have YTx : YaT K mg c_Yard := ⟨⟨pg_Yard, hd_Yard, po_Yard, sa_Yard⟩, na_Yard_ground, na_Yard_parts, na_Yard_opened, na_Yard_opened_plan, mc_Yard⟩
  have mc5 : MC K mg (er5 c_NoRow c_NoName c_NoNumber c_NoSize c_TooMany) := ⟨(fun e => match e with | .row => ⟨x2_NoRow, x3_NoRow, x4_NoRow, x5_NoRow, x6_NoRow, x7_NoRow, x8_NoRow, x9_NoRow⟩ | .name => ⟨x2_NoName, x3_NoName, x4_NoName, x5_NoName, x6_NoName, x7_NoName, x8_NoName, x9_NoName⟩ | .num => ⟨x2_NoNumber, x3_NoNumber, x4_NoNumber, x5_NoNumber, x6_NoNumber, x7_NoNumber, x8_NoNumber, x9_NoNumber⟩ | .size => ⟨x2_NoSize, x3_NoSize, x4_NoSize, x5_NoSize, x6_NoSize, x7_NoSize, x8_NoSize, x9_NoSize⟩ | .many => ⟨x2_TooMany, x3_TooMany, x4_TooMany, x5_TooMany, x6_TooMany, x7_TooMany, x8_TooMany, x9_TooMany⟩), mc_NoRow, mc_NoName, mc_NoNumber, mc_NoSize, mc_TooMany, ⟨_, mc_OhmError, (fun e => match e with | .row => q1_row | .name => q1_name | .num => q1_num | .size => q1_size | .many => q1_many)⟩, (fun e e' h => match e, e', h with | .row, .row, h => absurd rfl h | .row, .name, _ => qk_row_name | .row, .num, _ => qk_row_num | .row, .size, _ => qk_row_size | .row, .many, _ => qk_row_many | .name, .row, _ => qk_name_row | .name, .name, h => absurd rfl h | .name, .num, _ => qk_name_num | .name, .size, _ => qk_name_size | .name, .many, _ => qk_name_many | .num, .row, _ => qk_num_row | .num, .name, _ => qk_num_name | .num, .num, h => absurd rfl h | .num, .size, _ => qk_num_size | .num, .many, _ => qk_num_many | .size, .row, _ => qk_size_row | .size, .name, _ => qk_size_name | .size, .num, _ => qk_size_num | .size, .size, h => absurd rfl h | .size, .many, _ => qk_size_many | .many, .row, _ => qk_many_row | .many, .name, _ => qk_many_name | .many, .num, _ => qk_many_num | .many, .size, _ => qk_many_size | .many, .many, h => absurd rfl h), qa_1, qa_2⟩
  have R1 := ok_whole (P := l.prog) (w := w) (K := K) (mg := mg) (base := base) (CX := CX0) F1 bl
  have R2 := ok_gc (P := l.prog) (w := w) (K := K) (mg := mg) (base := base) (CX := CX0) F2 bl
  have R3 := ok_under (P := l.prog) (w := w) (K := K) (mg := mg) (base := base) (CX := CX0) F3 
  have R4 := ok_frac (P := l.prog) (w := w) (K := K) (mg := mg) (base := base) F4  R1 b1 k1 m1 R2 b2 k2 m2 mc_NoNumber x1_NoNumber
  have R5 := ok_show (P := l.prog) (w := w) (K := K) (mg := mg) (base := base) (CX := CX0) F5 n_str nd
  have R6 := ok_nosign (P := l.prog) (w := w) (K := K) (mg := mg) (base := base) (CX := CX0) F6 
  have R7 := ok_figs (P := l.prog) (w := w) (K := K) (mg := mg) (base := base) (CX := CX0) F7 n_len n_all mv_FIGURES mv_MOST_FIGURES
  have R8 := ok_read (P := l.prog) (w := w) (K := K) (mg := mg) (base := base) F8 bl n_str R6 b6 k6 m6 R7 b7 k7 m7 R4 b4 k4 m4 R5 b5 k5 m5 mc_NoNumber x1_NoNumber
  have R9 := ok_isf (P := l.prog) (w := w) (K := K) (mg := mg) (base := base) (CX := CX0) F9 bl n_len n_tuple R1 b1 k1 m1 R2 b2 k2 m2
  have R10 := ok_rinit (P := l.prog) (w := w) (K := K) (mg := mg) (base := base) (CX := CX0) F10 T
  have R11 := ok_word_pc (P := l.prog) (w := w) (K := K) (mg := mg) (base := base) (CX := CX0) F11 
  have R12 := ok_word_pu (P := l.prog) (w := w) (K := K) (mg := mg) (base := base) (CX := CX0) F12 
  have R13 := ok_word_ho (P := l.prog) (w := w) (K := K) (mg := mg) (base := base) (CX := CX0) F13 
  have GW : ∀ k, FnOk l.prog w K mg base CX0 1 (kd3 f11 f12 f13 k) (kd3 _ _ _ k) ["self"] (spWord k) := all3 (R11) (R12) (R13)
  have bW : ∀ k, Binds K (kd3 _ _ _ k) ["self"] [] := all3 (b11) (b12) (b13)
  have mW : ∀ k, Meth K (kd3 c_Piece c_Push c_Hold k) "word" (kd3 f11 f12 f13 k) := all3 (⟨a11_0, i11, k11⟩) (⟨a12_0, i12, k12⟩) (⟨a13_0, i13, k13⟩)
  have R14 := ok_rtold (P := l.prog) (w := w) (K := K) (mg := mg) (base := base) (CX := CX0) F14 T GW bW mW
  have mT : ∀ k, Meth K (kd3 c_Piece c_Push c_Hold k) "told" f14 := all3 (⟨a14_0, i14, k14⟩) (⟨a14_1, i14, k14⟩) (⟨a14_2, i14, k14⟩)
  have MK : ∀ k, Mk K (kd3 c_Piece c_Push c_Hold k) f10 := all3 (⟨mk_Piece, a10_0, i10, kc_Piece⟩) (⟨mk_Push, a10_1, i10, kc_Push⟩) (⟨mk_Hold, a10_2, i10, kc_Hold⟩)
  have R15 := ok_rowof (P := l.prog) (w := w) (K := K) (mg := mg) (base := base) (CX := CX0) F15 T bl n_str R10 b10 MK
  have R16 := ok_rat (P := l.prog) (w := w) (K := K) (mg := mg) (base := base) (CX := CX0) F16 T GW bW mW R15 b15 k15 m15
  have mA : ∀ k, Meth K (kd3 c_Piece c_Push c_Hold k) "at" f16 := all3 (⟨a16_0, i16, k16⟩) (⟨a16_1, i16, k16⟩) (⟨a16_2, i16, k16⟩)
  have R17 := ok_ps (P := l.prog) (w := w) (K := K) (mg := mg) (base := base) (CX := CX0) F17 fN mv_NOUGHT R9 b9 k9 m9 R3 b3 k3 m3
  have R18 := ok_nb (P := l.prog) (w := w) (K := K) (mg := mg) (base := base) (CX := CX0) F18  R1 b1 k1 m1
  have R19 := ok_rs (P := l.prog) (w := w) (K := K) (mg := mg) (base := base) F19  R9 b9 k9 m9 R17 b17 k17 m17 mc_NoSize x1_NoSize
  have R20 := ok_rp (P := l.prog) (w := w) (K := K) (mg := mg) (base := base) (CX := CX0) F20 n_all R18 b18 k18 m18
  have R21 := ok_ninit (P := l.prog) (w := w) (K := K) (mg := mg) (base := base) F21 NTx mc_NoPoint x1_NoPoint mv_MOST_POINTS R1 b1 k1 m1
  have R22 := ok_add (P := l.prog) (w := w) (K := K) (mg := mg) (base := base) (CX := CX0) F22 NTx mv_MOST_ROWS n_len T R14 b14 mT R20 b20 k20 m20 (rs_good R19) b19 k19 m19
  have R23 := ok_many (P := l.prog) (w := w) (K := K) (mg := mg) (base := base) (CX := CX0) F23 NTx
  have R24 := ok_count (P := l.prog) (w := w) (K := K) (mg := mg) (base := base) (CX := CX0) F24 NTx n_len
  have MN : Mk K c_Net f21 := ⟨mk_Net, a21_0, i21, kc_Net⟩
  have R25 := ok_name (P := l.prog) (w := w) (K := K) (mg := mg) (base := base) (CX := CX0) F25 bl n_str n_len n_all mv_LETTERS mv_MOST_LETTERS
  have R26 := ok_rnames (P := l.prog) (w := w) (K := K) (mg := mg) (base := base) F26 n_all R25 b25 k25 m25 mc_NoName x1_NoName
  have R27 := ok_words (P := l.prog) (w := w) (K := K) (mg := mg) (base := base) F27 bl n_str mc_NoRow x1_NoRow
  have R28 := ok_form (P := l.prog) (w := w) (K := K) (mg := mg) (base := base) (CX := CX0) F28 hW mv_ROW_WORDS
  have R29 := ok_rform (P := l.prog) (w := w) (K := K) (mg := mg) (base := base) F29 n_len R28 b28 k28 m28 mc_NoRow x1_NoRow
  have R30 := ok_pinit (P := l.prog) (w := w) (K := K) (mg := mg) (base := base) (CX := CX0) F30 PTx n_list
  have MP : Mk K c_Plan f30 := ⟨mk_Plan, a30_0, i30, kc_Plan⟩
  have R31 := ok_pcopy (P := l.prog) (w := w) (K := K) (mg := mg) (base := base) (CX := CX0) F31 PTx n_list R30 b30 MP
  have R32 := ok_place (P := l.prog) (w := w) (K := K) (mg := mg) (base := base) (CX := CX0) F32 PTx
  have R33 := ok_enter (P := l.prog) (w := w) (K := K) (mg := mg) (base := base) (CX := CX0) F33 PTx R32 b32 ⟨a32_0, i32, k32⟩
  have R34 := ok_put (P := l.prog) (w := w) (K := K) (mg := mg) (base := base) (CX := CX0) F34 PTx R32 b32 ⟨a32_0, i32, k32⟩ T R14 b14 mT R16 b16 mA R15 b15 k15 m15
  have R35 := ok_over (P := l.prog) (w := w) (K := K) (mg := mg) (base := base) (CX := CX0) F35 PTx mv_MOST_POINTS mv_MOST_ROWS n_len
  have R36 := ok_pnet (P := l.prog) (w := w) (K := K) (mg := mg) (base := base) F36 PTx NTx n_len R21 b21 MN R22 b22 ⟨a22_0, i22, k22⟩ R15 b15 k15 m15
  have R37 := ok_rover (P := l.prog) (w := w) (K := K) (mg := mg) (base := base) F37 PTx R35 b35 ⟨a35_0, i35, k35⟩ mc_TooMany x1_TooMany
  have R38 := ok_yinit (P := l.prog) (w := w) (K := K) (mg := mg) (base := base) (CX := CX0) F38 YTx PTx R30 b30 MP
  have MY : Mk K c_Yard f38 := ⟨mk_Yard, a38_0, i38, kc_Yard⟩
  have R39 := ok_cot (P := l.prog) (w := w) (K := K) (mg := mg) (base := base) (CX := CX0) F39 YTx PTx R31 b31 ⟨a31_0, i31, k31⟩
  have R40 := ok_keep (P := l.prog) (w := w) (K := K) (mg := mg) (base := base) F40 YTx R37 b37 k37 m37
  have R41 := ok_beg (P := l.prog) (w := w) (K := K) (mg := mg) (base := base) F41 YTx PTx n_len n_set mv_MOST_PARTS R26 b26 k26 m26 R37 b37 k37 m37 R30 b30 MP mc_NoRow x1_NoRow mc_NoName x1_NoName mc_TooMany x1_TooMany
  have R42 := ok_end (P := l.prog) (w := w) (K := K) (mg := mg) (base := base) F42 YTx (CP := c_Plan) mc_NoRow x1_NoRow
  have R43 := ok_eput (P := l.prog) (w := w) (K := K) (mg := mg) (base := base) F43 YTx PTx n_len R26 b26 k26 m26 R39 b39 ⟨a39_0, i39, k39⟩ R34 b34 ⟨a34_0, i34, k34⟩ R40 b40 ⟨a40_0, i40, k40⟩ mc_NoName x1_NoName
  have R44 := ok_erow (P := l.prog) (w := w) (K := K) (mg := mg) (base := base) F44 YTx PTx R26 b26 k26 m26 R8 b8 k8 m8 R19 b19 k19 m19 R39 b39 ⟨a39_0, i39, k39⟩ R33 b33 ⟨a33_0, i33, k33⟩ R40 b40 ⟨a40_0, i40, k40⟩
  have R45 := ok_tell (P := l.prog) (w := w) (K := K) (mg := mg) (base := base) F45 YTx R27 b27 k27 m27 R29 b29 k29 m29 R41 b41 ⟨a41_0, i41, k41⟩ R42 b42 ⟨a42_0, i42, k42⟩ R43 b43 ⟨a43_0, i43, k43⟩ R44 b44 ⟨a44_0, i44, k44⟩
  have R46 := ok_names (P := l.prog) (w := w) (K := K) (mg := mg) (base := base) (CX := CX0) F46 YTx PTx n_list
  have R47 := ok_ynet (P := l.prog) (w := w) (K := K) (mg := mg) (base := base) F47 YTx PTx R36 b36 ⟨a36_0, i36, k36⟩
  have R48 := ok_pick (P := l.prog) (w := w) (K := K) (mg := mg) (base := base) (CX := CX0) F48 
  have R49 := ok_mix (P := l.prog) (w := w) (K := K) (mg := mg) (base := base) (CX := CX0) F49 
  have R50 := ok_let (P := l.prog) (w := w) (K := K) (mg := mg) (base := base) (CX := CX0) F50 
  have R51 := ok_manyl (P := l.prog) (w := w) (K := K) (mg := mg) (base := base) (CX := CX0) F51 YTx bl mc5 R45 b45 ⟨a45_0, i45, k45⟩
  have R52 := ok_first (P := l.prog) (w := w) (K := K) (mg := mg) (base := base) (CX := CX0) F52 (cl := er5 c_NoRow c_NoName c_NoNumber c_NoSize c_TooMany) YTx n_range n_min bl R45 b45 ⟨a45_0, i45, k45⟩ R49 b49 k49 m49
  have R53 := ok_full (P := l.prog) (w := w) (K := K) (mg := mg) (base := base) (CX := CX0) F53 n_range R51 b51 k51 m51
  have R54 := ok_puts (P := l.prog) (w := w) (K := K) (mg := mg) (base := base) (CX := CX0) F54 n_range n_len n_str nd R49 b49 k49 m49 R51 b51 k51 m51 R50 b50 k50 m50
  have R55 := ok_partl (P := l.prog) (w := w) (K := K) (mg := mg) (base := base) (CX := CX0) F55 (cl := er5 c_NoRow c_NoName c_NoNumber c_NoSize c_TooMany) YTx n_len R45 b45 ⟨a45_0, i45, k45⟩ R49 b49 k49 m49 R50 b50 k50 m50 R54 b54 k54 m54
  have R56 := ok_parts (P := l.prog) (w := w) (K := K) (mg := mg) (base := base) (CX := CX0) F56 (cl := er5 c_NoRow c_NoName c_NoNumber c_NoSize c_TooMany) YTx n_range R45 b45 ⟨a45_0, i45, k45⟩ R51 b51 k51 m51 R50 b50 k50 m50 R53 b53 k53 m53
  exact ok_law (P := l.prog) (w := w) (K := K) (mg := mg) (base := base) (CX := CX0) F57 (cl := er5 c_NoRow c_NoName c_NoNumber c_NoSize c_TooMany) YTx NTx n_len n_range n_str nd R38 b38 MY R47 b47 ⟨a47_0, i47, k47⟩ R23 b23 ⟨a23_0, i23, k23⟩ R24 b24 ⟨a24_0, i24, k24⟩ R45 b45 ⟨a45_0, i45, k45⟩ R46 b46 ⟨a46_0, i46, k46⟩ R48 b48 k48 m48 R49 b49 k49 m49 R50 b50 k50 m50 R51 b51 k51 m51 R52 b52 k52 m52 R53 b53 k53 m53 R55 b55 k55 m55 R56 b56 k56 m56
theorem walk {l : PySem.W.OpenLaw} {q : Program} {loose : List Str} {XP : (Str → Option Value) → Heap → Prop} {YP : World → Heap → Prop} {d : DefRec} {K : Params → PySem.W.Frag} (hn : l.most = some 63) (hdf : d.params.defaults = [])
    (hY : ∀ (w : World) (h : Heap), YP w h → (K w.params).In h)
    (F : ∀ (w : World) (mg : Str → Option Value) (fa : Addr) (h : Heap), (K w.params).In h → h.Ns mainGlobals mg → mg d.name = some (.ref fa) →
      ∃ fd : FuncData, (∀ (s : Shared) (u : Value), BindsTo s fd ⟨[u], []⟩ [("_law_script", u)]) ∧ ∀ base : Heap, (K w.params).In base → base.Ns mainGlobals mg → FnOk l.prog w (K w.params) mg base CX0 11 fa fd ["_law_script"] (spLaw (K w.params))) :
    PySem.W.WalkO q loose XP YP l.row.toRowW d [] (fun f vs => PySem.call f vs) :=
  L2.walk_of (n := 63) (k := 11) (x := "_law_script") (CX := fun _ => CX0) (sp := fun w => spLaw (K w.params)) hn (by decide) hdf ⟨rfl, by decide, by decide⟩ hY F (fun _ _ a ns hl _ hS => ⟨a, ns, rfl, hS, hl, fun _ => rfl⟩) fun _ _ _ _ _ z => z
end K85
def PySem.W.Fast.tw1502835347689958595 : Nat := 0
def PySem.W.Fast.tw13866477727170134683 : Nat := 0
def PySem.W.Fast.tw3970714491360707212 : Nat := 0
def PySem.W.Fast.tw2742955358727330937 : Nat := 0
def PySem.W.Fast.tw18412389206628026920 : Nat := 0
def PySem.W.Fast.tw9999431750536312207 : Nat := 0
def PySem.W.Fast.tw17437455874549965192 : Nat := 0
def PySem.W.Fast.tw6408075960311733642 : Nat := 0
def PySem.W.Fast.tw10654367368640600238 : Nat := 0
def PySem.W.Fast.tw3003747838752145985 : Nat := 0
def PySem.W.Fast.tw15355318905742752222 : Nat := 0
def PySem.W.Fast.tw4129366592623927405 : Nat := 0
def PySem.W.Fast.tw12274224482007145914 : Nat := 0
def PySem.W.Fast.tw8044860112939579929 : Nat := 0
def PySem.W.Fast.tw18281750075695375373 : Nat := 0
def PySem.W.Fast.tw13990510653939747905 : Nat := 0
def PySem.W.Fast.tw1211504278143124981 : Nat := 0
def PySem.W.Fast.tw11081620649760412631 : Nat := 0
def PySem.W.Fast.tw3806686945578266968 : Nat := 0
def PySem.W.Fast.tw3850102422715411753 : Nat := 0
def PySem.W.Fast.tw8250316636783865212 : Nat := 0
def PySem.W.Fast.tw8360917203001047147 : Nat := 0
def PySem.W.Fast.tw5816734190102607245 : Nat := 0
def PySem.W.Fast.tw11473272059080191250 : Nat := 0
def PySem.W.Fast.tw410750712246114223 : Nat := 0
def PySem.W.Fast.tw10552245032717645324 : Nat := 0
def PySem.W.Fast.tw5073810938470169904 : Nat := 0
def PySem.W.Fast.tw13358152553213793069 : Nat := 0
def PySem.W.Fast.tw5547378828952149302 : Nat := 0
def PySem.W.Fast.tw16256508098211760943 : Nat := 0
def PySem.W.Fast.tw13427066958134174531 : Nat := 0
def PySem.W.Fast.tw18023573506735358217 : Nat := 0
def PySem.W.Fast.tw1607426339308571389 : Nat := 0
def PySem.W.Fast.tw6602892724798052839 : Nat := 0
def PySem.W.Fast.tw14326546525931972102 : Nat := 0
def PySem.W.Fast.tw787986125090029209 : Nat := 0
def PySem.W.Fast.tw13413436861783858680 : Nat := 0
def PySem.W.Fast.tw11542989702520183143 : Nat := 0
def PySem.W.Fast.tw15979346271227735150 : Nat := 0
def PySem.W.Fast.tw16120303092484303842 : Nat := 0
def PySem.W.Fast.tw14098859949487893414 : Nat := 0
def PySem.W.Fast.tw10243646065467973357 : Nat := 0
def PySem.W.Fast.tw3456397692650729377 : Nat := 0
def PySem.W.Fast.tw1780578206084850232 : Nat := 0
def PySem.W.Fast.tw15687360749683916789 : Nat := 0
def PySem.W.Fast.tw13789838016183120510 : Nat := 0
def PySem.W.Fast.tw3352678008227778037 : Nat := 0
def PySem.W.Fast.tw13513639555942584313 : Nat := 0
def PySem.W.Fast.tw1858195736643063269 : Nat := 0
def PySem.W.Fast.tw16900292486252287267 : Nat := 0
def PySem.W.Fast.tw18359559401352707940 : Nat := 0
def PySem.W.Fast.tw12157448262683638797 : Nat := 0
def PySem.W.Fast.tw10656513393998585380 : Nat := 0
def PySem.W.Fast.tw8598968487910919372 : Nat := 0
def PySem.W.Fast.tw1938104128992866641 : Nat := 0
def PySem.W.Fast.tw16833980710983281929 : Nat := 0
def PySem.W.Fast.tw5129465933861442142 : Nat := 0
def PySem.W.Fast.tw8439963487202683499 : Nat := 0
def PySem.W.Fast.tw14334650340535963162 : Nat := 0
def PySem.W.Fast.tw2034942140269787090 : Nat := 0
def PySem.W.Fast.tw12071153201603505487 : Nat := 0
def PySem.W.Fast.tw8560798154745510238 : Nat := 0
def PySem.W.Fast.tw3068434335675574417 : Nat := 0
def PySem.W.Fast.tw14122552088538298034 : Nat := 0
def PySem.W.Fast.tw14107165838261188949 : Nat := 0
def PySem.W.Fast.tw17124643933459412564 : Nat := 0
def PySem.W.Fast.tw16534047770085880395 : Nat := 0
def PySem.W.Fast.tw11508050203247277623 : Nat := 0
def PySem.W.Fast.tw11515558673337567547 : Nat := 0
def PySem.W.Fast.tw5464223566272755780 : Nat := 0
def PySem.W.Fast.tw6322367245081856954 : Nat := 0
def PySem.W.Fast.tw18165386724631650369 : Nat := 0
def PySem.W.Fast.tw8136993146134463421 : Nat := 0
def PySem.W.Fast.tw14732278772886659924 : Nat := 0
def PySem.W.Fast.tw13038245782067731973 : Nat := 0
def PySem.W.Fast.tw2892154076611245303 : Nat := 0
def PySem.W.Fast.tw3594314411121059110 : Nat := 0
def PySem.W.Fast.tw5731907628690313373 : Nat := 0
def PySem.W.Fast.tw4267985015385648958 : Nat := 0
def PySem.W.Fast.tw6115474750736783522 : Nat := 0
def PySem.W.Fast.tw8864184024561503525 : Nat := 0
def PySem.W.Fast.tw18410470962560365100 : Nat := 0
def PySem.W.Fast.tw123083789167251946 : Nat := 0
def PySem.W.Fast.tw8214336081577113001 : Nat := 0
def PySem.W.Fast.tw16230633451474191471 : Nat := 0
def PySem.W.Fast.tw2030602822065906762 : Nat := 0
def PySem.W.Fast.tw1601305747785860088 : Nat := 0
def PySem.W.Fast.tw8850944635771685309 : Nat := 0
def PySem.W.Fast.tw12891806095908614571 : Nat := 0
def PySem.W.Fast.tw5973307504573211004 : Nat := 0
def PySem.W.Fast.tw1220638486907851368 : Nat := 0
def PySem.W.Fast.tw14790855385448805025 : Nat := 0
def PySem.W.Fast.tw13843462193939215294 : Nat := 0
def PySem.W.Fast.tw9720350719083428637 : Nat := 0
def PySem.W.Fast.tw9156834725650023847 : Nat := 0
def PySem.W.Fast.tw4537962799704394194 : Nat := 0
def PySem.W.Fast.tw9468953345882906480 : Nat := 0
def PySem.W.Fast.tw15739761458125899144 : Nat := 0
def PySem.W.Fast.tw7558502780485098817 : Nat := 0
def PySem.W.Fast.tw18352452385585931323 : Nat := 0
def PySem.W.Fast.tw11908406047564068568 : Nat := 0
def PySem.W.Fast.tw16025385939632806351 : Nat := 0
def PySem.W.Fast.tw373346046135409323 : Nat := 0
def PySem.W.Fast.tw6982412986050949554 : Nat := 0
def PySem.W.Fast.tw6984420227491120492 : Nat := 0
def PySem.W.Fast.tw7010463782602015712 : Nat := 0
def PySem.W.Fast.tw6889743193228751952 : Nat := 0
def PySem.W.Fast.tw13078829912523887333 : Nat := 0
def PySem.W.Fast.tw5003952287828553727 : Nat := 0
def PySem.W.Fast.tw13770410937870179493 : Nat := 0
def PySem.W.Fast.tw752923637654790006 : Nat := 0
def PySem.W.Fast.tw2633513129923659815 : Nat := 0
def PySem.W.Fast.tw6920239015259294246 : Nat := 0
def PySem.W.Fast.tw13196519995950683926 : Nat := 0
def PySem.W.Fast.tw13216119789470361152 : Nat := 0
def PySem.W.Fast.tw1611046452336774071 : Nat := 0
def PySem.W.Fast.tw14279171789934309240 : Nat := 0
def PySem.W.Fast.tw14999886299728405335 : Nat := 0
def PySem.W.Fast.tw14461018546826755124 : Nat := 0
def PySem.W.Fast.tw17656810342172334574 : Nat := 0
def PySem.W.Fast.tw10964472775537658221 : Nat := 0
def PySem.W.Fast.tw12819045192416663245 : Nat := 0
def PySem.W.Fast.tw14497310712113484 : Nat := 0
open PySem PySem.W PyProof.Rows
set_option maxRecDepth 100000 in
set_option maxHeartbeats 0 in
theorem PySem.Challenge.cw_ohmyard_k85_counted_as_built_holds : PySem.Challenge.rw_ohmyard_k85_counted_as_built.Holds := by
  w_on; o_law; z_head; (case hw => w_witness2)
  k_fill
  refine L2.walkX_of (fun _ => by kernel_rfl) (K85.walk (l := PySem.Challenge.rw_ohmyard_k85_counted_as_built) rfl rfl (fun w h Y => Y) ?F)
  case F =>
    intro w mg fa h KX G hmg
    refine' K85.all_mk KX G hmg ?y_OhmError ?y_NoRow ?y_NoName ?y_NoNumber ?y_NoSize ?y_NoPoint ?y_TooMany ?y_Row ?y_Piece ?y_Push ?y_Hold ?y_Net ?y_Plan ?y_Yard ?a1 ?l1 ?c1 ?k1 ?a2 ?l2 ?c2 ?k2 ?a3 ?l3 ?c3 ?k3 ?a4 ?l4 ?c4 ?k4 ?lt4 ?a5 ?l5 ?c5 ?k5 ?a6 ?l6 ?c6 ?k6 ?a7 ?l7 ?c7 ?k7 ?a8 ?l8 ?c8 ?k8 ?a9 ?l9 ?c9 ?k9 ?a10_0 ?a10_1 ?a10_2 ?i10 ?l10 ?c10 ?k10 ?a11_0 ?i11 ?l11 ?c11 ?k11 ?a12_0 ?i12 ?l12 ?c12 ?k12 ?a13_0 ?i13 ?l13 ?c13 ?k13 ?a14_0 ?a14_1 ?a14_2 ?i14 ?l14 ?c14 ?k14 ?a15 ?l15 ?c15 ?k15 ?a16_0 ?a16_1 ?a16_2 ?i16 ?l16 ?c16 ?k16 ?a17 ?l17 ?c17 ?k17 ?a18 ?l18 ?c18 ?k18 ?a19 ?l19 ?c19 ?k19 ?a20 ?l20 ?c20 ?k20 ?a21_0 ?i21 ?l21 ?c21 ?k21 ?a22_0 ?i22 ?l22 ?c22 ?k22 ?a23_0 ?i23 ?l23 ?c23 ?k23 ?a24_0 ?i24 ?l24 ?c24 ?k24 ?a25 ?l25 ?c25 ?k25 ?a26 ?l26 ?c26 ?k26 ?a27 ?l27 ?c27 ?k27 ?a28 ?l28 ?c28 ?k28 ?a29 ?l29 ?c29 ?k29 ?a30_0 ?i30 ?l30 ?c30 ?k30 ?a31_0 ?i31 ?l31 ?c31 ?k31 ?a32_0 ?i32 ?l32 ?c32 ?k32 ?a33_0 ?i33 ?l33 ?c33 ?k33 ?a34_0 ?i34 ?l34 ?c34 ?k34 ?a35_0 ?i35 ?l35 ?c35 ?k35 ?a36_0 ?i36 ?l36 ?c36 ?k36 ?a37 ?l37 ?c37 ?k37 ?a38_0 ?i38 ?l38 ?c38 ?k38 ?a39_0 ?i39 ?l39 ?c39 ?k39 ?a40_0 ?i40 ?l40 ?c40 ?k40 ?a41_0 ?i41 ?l41 ?c41 ?k41 ?a42_0 ?i42 ?l42 ?c42 ?k42 ?a43_0 ?i43 ?l43 ?c43 ?k43 ?a44_0 ?i44 ?l44 ?c44 ?k44 ?a45_0 ?i45 ?l45 ?c45 ?k45 ?a46_0 ?i46 ?l46 ?c46 ?k46 ?a47_0 ?i47 ?l47 ?c47 ?k47 ?a48 ?l48 ?c48 ?k48 ?a49 ?l49 ?c49 ?k49 ?a50 ?l50 ?c50 ?k50 ?a51 ?l51 ?c51 ?k51 ?a52 ?l52 ?c52 ?k52 ?a53 ?l53 ?c53 ?k53 ?a54 ?l54 ?c54 ?k54 ?a55 ?l55 ?c55 ?k55 ?a56 ?l56 ?c56 ?k56 ?a57 ?l57 ?c57 ?k57 ?v_NOUGHT ?v_ROW_WORDS ?v_MOST_POINTS ?v_MOST_ROWS ?v_FIGURES ?v_MOST_FIGURES ?v_LETTERS ?v_MOST_LETTERS ?v_MOST_PARTS ?lN ?lW ?pg_Piece ?hd_Piece ?po_Piece ?sa_Piece ?mk_Piece ?kc_Piece ?t1_Piece ?t4_Piece ?na_Piece_start ?na_Piece_goal ?na_Piece_size ?pg_Push ?hd_Push ?po_Push ?sa_Push ?mk_Push ?kc_Push ?t1_Push ?t4_Push ?na_Push_start ?na_Push_goal ?na_Push_size ?pg_Hold ?hd_Hold ?po_Hold ?sa_Hold ?mk_Hold ?kc_Hold ?t1_Hold ?t4_Hold ?na_Hold_start ?na_Hold_goal ?na_Hold_size ?tt2 ?tt3 ?isR_Piece ?isR_Push ?isR_Hold ?isK_Piece_Push ?isK_Piece_Hold ?isK_Push_Piece ?isK_Push_Hold ?isK_Hold_Piece ?isK_Hold_Push ?pg_Net ?hd_Net ?po_Net ?sa_Net ?mk_Net ?kc_Net ?t1_Net ?t4_Net ?na_Net_point_count ?na_Net_kept ?x1_NoRow ?x2_NoRow ?x3_NoRow ?x4_NoRow ?x5_NoRow ?x6_NoRow ?x7_NoRow ?x8_NoRow ?x9_NoRow ?x1_NoName ?x2_NoName ?x3_NoName ?x4_NoName ?x5_NoName ?x6_NoName ?x7_NoName ?x8_NoName ?x9_NoName ?x1_NoNumber ?x2_NoNumber ?x3_NoNumber ?x4_NoNumber ?x5_NoNumber ?x6_NoNumber ?x7_NoNumber ?x8_NoNumber ?x9_NoNumber ?x1_NoSize ?x2_NoSize ?x3_NoSize ?x4_NoSize ?x5_NoSize ?x6_NoSize ?x7_NoSize ?x8_NoSize ?x9_NoSize ?x1_NoPoint ?x2_NoPoint ?x3_NoPoint ?x4_NoPoint ?x5_NoPoint ?x6_NoPoint ?x7_NoPoint ?x8_NoPoint ?x9_NoPoint ?x1_TooMany ?x2_TooMany ?x3_TooMany ?x4_TooMany ?x5_TooMany ?x6_TooMany ?x7_TooMany ?x8_TooMany ?x9_TooMany ?nd ?pg_Plan ?hd_Plan ?po_Plan ?sa_Plan ?mk_Plan ?kc_Plan ?na_Plan_labels ?na_Plan_end_count ?na_Plan_entries ?na_Plan_put_names ?pg_Yard ?hd_Yard ?po_Yard ?sa_Yard ?mk_Yard ?kc_Yard ?na_Yard_ground ?na_Yard_parts ?na_Yard_opened ?na_Yard_opened_plan ?q1_row ?qk_row_name ?qk_row_num ?qk_row_size ?qk_row_many ?q1_name ?qk_name_row ?qk_name_num ?qk_name_size ?qk_name_many ?q1_num ?qk_num_row ?qk_num_name ?qk_num_size ?qk_num_many ?q1_size ?qk_size_row ?qk_size_name ?qk_size_num ?qk_size_many ?q1_many ?qk_many_row ?qk_many_name ?qk_many_num ?qk_many_size ?qa_1 ?qa_2 ?z1 ?z2 ?z3 ?z4 ?z5 ?z6 ?z7 ?z8 ?z9 ?z10 ?z11 ?z12
    (case y_OhmError => k_is)
    (case y_NoRow => k_is)
    (case y_NoName => k_is)
    (case y_NoNumber => k_is)
    (case y_NoSize => k_is)
    (case y_NoPoint => k_is)
    (case y_TooMany => k_is)
    (case y_Row => k_is)
    (case y_Piece => k_is)
    (case y_Push => k_is)
    (case y_Hold => k_is)
    (case y_Net => k_is)
    (case y_Plan => k_is)
    (case y_Yard => k_is)
    (case a1 => k_is); (case l1 => k_is); (case c1 => k_is); (case k1 => k_is)
    (case a2 => k_is); (case l2 => k_is); (case c2 => k_is); (case k2 => k_is)
    (case a3 => k_is); (case l3 => k_is); (case c3 => k_is); (case k3 => k_is)
    (case a4 => k_is); (case l4 => k_is); (case c4 => k_is); (case k4 => k_is); (case lt4 => k_is)
    (case a5 => k_is); (case l5 => k_is); (case c5 => k_is); (case k5 => k_is)
    (case a6 => k_is); (case l6 => k_is); (case c6 => k_is); (case k6 => k_is)
    (case a7 => k_is); (case l7 => k_is); (case c7 => k_is); (case k7 => k_is)
    (case a8 => k_is); (case l8 => k_is); (case c8 => k_is); (case k8 => k_is)
    (case a9 => k_is); (case l9 => k_is); (case c9 => k_is); (case k9 => k_is)
    (case a10_0 => k_is); (case a10_1 => k_is); (case a10_2 => k_is); (case i10 => k_is); (case l10 => k_is); (case c10 => k_is); (case k10 => k_is)
    (case a11_0 => k_is); (case i11 => k_is); (case l11 => k_is); (case c11 => k_is); (case k11 => k_is)
    (case a12_0 => k_is); (case i12 => k_is); (case l12 => k_is); (case c12 => k_is); (case k12 => k_is)
    (case a13_0 => k_is); (case i13 => k_is); (case l13 => k_is); (case c13 => k_is); (case k13 => k_is)
    (case a14_0 => k_is); (case a14_1 => k_is); (case a14_2 => k_is); (case i14 => k_is); (case l14 => k_is); (case c14 => k_is); (case k14 => k_is)
    (case a15 => k_is); (case l15 => k_is); (case c15 => k_is); (case k15 => k_is)
    (case a16_0 => k_is); (case a16_1 => k_is); (case a16_2 => k_is); (case i16 => k_is); (case l16 => k_is); (case c16 => k_is); (case k16 => k_is)
    (case a17 => k_is); (case l17 => k_is); (case c17 => k_is); (case k17 => k_is)
    (case a18 => k_is); (case l18 => k_is); (case c18 => k_is); (case k18 => k_is)
    (case a19 => k_is); (case l19 => k_is); (case c19 => k_is); (case k19 => k_is)
    (case a20 => k_is); (case l20 => k_is); (case c20 => k_is); (case k20 => k_is)
    (case a21_0 => k_is); (case i21 => k_is); (case l21 => k_is); (case c21 => k_is); (case k21 => k_is)
    (case a22_0 => k_is); (case i22 => k_is); (case l22 => k_is); (case c22 => k_is); (case k22 => k_is)
    (case a23_0 => k_is); (case i23 => k_is); (case l23 => k_is); (case c23 => k_is); (case k23 => k_is)
    (case a24_0 => k_is); (case i24 => k_is); (case l24 => k_is); (case c24 => k_is); (case k24 => k_is)
    (case a25 => k_is); (case l25 => k_is); (case c25 => k_is); (case k25 => k_is)
    (case a26 => k_is); (case l26 => k_is); (case c26 => k_is); (case k26 => k_is)
    (case a27 => k_is); (case l27 => k_is); (case c27 => k_is); (case k27 => k_is)
    (case a28 => k_is); (case l28 => k_is); (case c28 => k_is); (case k28 => k_is)
    (case a29 => k_is); (case l29 => k_is); (case c29 => k_is); (case k29 => k_is)
    (case a30_0 => k_is); (case i30 => k_is); (case l30 => k_is); (case c30 => k_is); (case k30 => k_is)
    (case a31_0 => k_is); (case i31 => k_is); (case l31 => k_is); (case c31 => k_is); (case k31 => k_is)
    (case a32_0 => k_is); (case i32 => k_is); (case l32 => k_is); (case c32 => k_is); (case k32 => k_is)
    (case a33_0 => k_is); (case i33 => k_is); (case l33 => k_is); (case c33 => k_is); (case k33 => k_is)
    (case a34_0 => k_is); (case i34 => k_is); (case l34 => k_is); (case c34 => k_is); (case k34 => k_is)
    (case a35_0 => k_is); (case i35 => k_is); (case l35 => k_is); (case c35 => k_is); (case k35 => k_is)
    (case a36_0 => k_is); (case i36 => k_is); (case l36 => k_is); (case c36 => k_is); (case k36 => k_is)
    (case a37 => k_is); (case l37 => k_is); (case c37 => k_is); (case k37 => k_is)
    (case a38_0 => k_is); (case i38 => k_is); (case l38 => k_is); (case c38 => k_is); (case k38 => k_is)
    (case a39_0 => k_is); (case i39 => k_is); (case l39 => k_is); (case c39 => k_is); (case k39 => k_is)
    (case a40_0 => k_is); (case i40 => k_is); (case l40 => k_is); (case c40 => k_is); (case k40 => k_is)
    (case a41_0 => k_is); (case i41 => k_is); (case l41 => k_is); (case c41 => k_is); (case k41 => k_is)
    (case a42_0 => k_is); (case i42 => k_is); (case l42 => k_is); (case c42 => k_is); (case k42 => k_is)
    (case a43_0 => k_is); (case i43 => k_is); (case l43 => k_is); (case c43 => k_is); (case k43 => k_is)
    (case a44_0 => k_is); (case i44 => k_is); (case l44 => k_is); (case c44 => k_is); (case k44 => k_is)
    (case a45_0 => k_is); (case i45 => k_is); (case l45 => k_is); (case c45 => k_is); (case k45 => k_is)
    (case a46_0 => k_is); (case i46 => k_is); (case l46 => k_is); (case c46 => k_is); (case k46 => k_is)
    (case a47_0 => k_is); (case i47 => k_is); (case l47 => k_is); (case c47 => k_is); (case k47 => k_is)
    (case a48 => k_is); (case l48 => k_is); (case c48 => k_is); (case k48 => k_is)
    (case a49 => k_is); (case l49 => k_is); (case c49 => k_is); (case k49 => k_is)
    (case a50 => k_is); (case l50 => k_is); (case c50 => k_is); (case k50 => k_is)
    (case a51 => k_is); (case l51 => k_is); (case c51 => k_is); (case k51 => k_is)
    (case a52 => k_is); (case l52 => k_is); (case c52 => k_is); (case k52 => k_is)
    (case a53 => k_is); (case l53 => k_is); (case c53 => k_is); (case k53 => k_is)
    (case a54 => k_is); (case l54 => k_is); (case c54 => k_is); (case k54 => k_is)
    (case a55 => k_is); (case l55 => k_is); (case c55 => k_is); (case k55 => k_is)
    (case a56 => k_is); (case l56 => k_is); (case c56 => k_is); (case k56 => k_is)
    (case a57 => k_is); (case l57 => k_is); (case c57 => k_is); (case k57 => k_is)
    (case v_NOUGHT => k_is)
    (case v_ROW_WORDS => k_is)
    (case v_MOST_POINTS => k_is)
    (case v_MOST_ROWS => k_is)
    (case v_FIGURES => k_is)
    (case v_MOST_FIGURES => k_is)
    (case v_LETTERS => k_is)
    (case v_MOST_LETTERS => k_is)
    (case v_MOST_PARTS => k_is)
    (case lN => k_is)
    (case lW => k_is)
    (case pg_Piece => k_is)
    (case hd_Piece => k_is)
    (case po_Piece => k_is)
    (case sa_Piece => k_is)
    (case mk_Piece => k_is)
    (case kc_Piece => k_is)
    (case t1_Piece => k_is)
    (case t4_Piece => k_is)
    (case na_Piece_start => k_is)
    (case na_Piece_goal => k_is)
    (case na_Piece_size => k_is)
    (case pg_Push => k_is)
    (case hd_Push => k_is)
    (case po_Push => k_is)
    (case sa_Push => k_is)
    (case mk_Push => k_is)
    (case kc_Push => k_is)
    (case t1_Push => k_is)
    (case t4_Push => k_is)
    (case na_Push_start => k_is)
    (case na_Push_goal => k_is)
    (case na_Push_size => k_is)
    (case pg_Hold => k_is)
    (case hd_Hold => k_is)
    (case po_Hold => k_is)
    (case sa_Hold => k_is)
    (case mk_Hold => k_is)
    (case kc_Hold => k_is)
    (case t1_Hold => k_is)
    (case t4_Hold => k_is)
    (case na_Hold_start => k_is)
    (case na_Hold_goal => k_is)
    (case na_Hold_size => k_is)
    (case tt2 => k_is)
    (case tt3 => k_is)
    (case isR_Piece => kit_is)
    (case isR_Push => kit_is)
    (case isR_Hold => kit_is)
    (case isK_Piece_Push => kit_is)
    (case isK_Piece_Hold => kit_is)
    (case isK_Push_Piece => kit_is)
    (case isK_Push_Hold => kit_is)
    (case isK_Hold_Piece => kit_is)
    (case isK_Hold_Push => kit_is)
    (case pg_Net => k_is)
    (case hd_Net => k_is)
    (case po_Net => k_is)
    (case sa_Net => k_is)
    (case mk_Net => k_is)
    (case kc_Net => k_is)
    (case t1_Net => k_is)
    (case t4_Net => k_is)
    (case na_Net_point_count => k_is)
    (case na_Net_kept => k_is)
    (case x1_NoRow => k_exc)
    (case x2_NoRow => k_is)
    (case x3_NoRow => k_is)
    (case x4_NoRow => k_is)
    (case x5_NoRow => k_is)
    (case x6_NoRow => k_is)
    (case x7_NoRow => k_is)
    (case x8_NoRow => k_is)
    (case x9_NoRow => first | k_is | rfl | decide)
    (case x1_NoName => k_exc)
    (case x2_NoName => k_is)
    (case x3_NoName => k_is)
    (case x4_NoName => k_is)
    (case x5_NoName => k_is)
    (case x6_NoName => k_is)
    (case x7_NoName => k_is)
    (case x8_NoName => k_is)
    (case x9_NoName => first | k_is | rfl | decide)
    (case x1_NoNumber => k_exc)
    (case x2_NoNumber => k_is)
    (case x3_NoNumber => k_is)
    (case x4_NoNumber => k_is)
    (case x5_NoNumber => k_is)
    (case x6_NoNumber => k_is)
    (case x7_NoNumber => k_is)
    (case x8_NoNumber => k_is)
    (case x9_NoNumber => first | k_is | rfl | decide)
    (case x1_NoSize => k_exc)
    (case x2_NoSize => k_is)
    (case x3_NoSize => k_is)
    (case x4_NoSize => k_is)
    (case x5_NoSize => k_is)
    (case x6_NoSize => k_is)
    (case x7_NoSize => k_is)
    (case x8_NoSize => k_is)
    (case x9_NoSize => first | k_is | rfl | decide)
    (case x1_NoPoint => k_exc)
    (case x2_NoPoint => k_is)
    (case x3_NoPoint => k_is)
    (case x4_NoPoint => k_is)
    (case x5_NoPoint => k_is)
    (case x6_NoPoint => k_is)
    (case x7_NoPoint => k_is)
    (case x8_NoPoint => k_is)
    (case x9_NoPoint => first | k_is | rfl | decide)
    (case x1_TooMany => k_exc)
    (case x2_TooMany => k_is)
    (case x3_TooMany => k_is)
    (case x4_TooMany => k_is)
    (case x5_TooMany => k_is)
    (case x6_TooMany => k_is)
    (case x7_TooMany => k_is)
    (case x8_TooMany => k_is)
    (case x9_TooMany => first | k_is | rfl | decide)
    (case nd => k_is)
    (case pg_Plan => k_is)
    (case hd_Plan => k_is)
    (case po_Plan => k_is)
    (case sa_Plan => k_is)
    (case mk_Plan => k_is)
    (case kc_Plan => k_is)
    (case na_Plan_labels => k_is)
    (case na_Plan_end_count => k_is)
    (case na_Plan_entries => k_is)
    (case na_Plan_put_names => k_is)
    (case pg_Yard => k_is)
    (case hd_Yard => k_is)
    (case po_Yard => k_is)
    (case sa_Yard => k_is)
    (case mk_Yard => k_is)
    (case kc_Yard => k_is)
    (case na_Yard_ground => k_is)
    (case na_Yard_parts => k_is)
    (case na_Yard_opened => k_is)
    (case na_Yard_opened_plan => k_is)
    (case q1_row => kts_exm)
    (case qk_row_name => kit_is)
    (case qk_row_num => kit_is)
    (case qk_row_size => kit_is)
    (case qk_row_many => kit_is)
    (case q1_name => kts_exm)
    (case qk_name_row => kit_is)
    (case qk_name_num => kit_is)
    (case qk_name_size => kit_is)
    (case qk_name_many => kit_is)
    (case q1_num => kts_exm)
    (case qk_num_row => kit_is)
    (case qk_num_name => kit_is)
    (case qk_num_size => kit_is)
    (case qk_num_many => kit_is)
    (case q1_size => kts_exm)
    (case qk_size_row => kit_is)
    (case qk_size_name => kit_is)
    (case qk_size_num => kit_is)
    (case qk_size_many => kit_is)
    (case q1_many => kts_exm)
    (case qk_many_row => kit_is)
    (case qk_many_name => kit_is)
    (case qk_many_num => kit_is)
    (case qk_many_size => kit_is)
    (case qa_1 => kit_is)
    (case qa_2 => kit_is)
    (case z1 => k_is)
    (case z2 => k_is)
    (case z3 => k_is)
    (case z4 => k_is)
    (case z5 => k_is)
    (case z6 => k_is)
    (case z7 => k_is)
    (case z8 => k_is)
    (case z9 => k_is)
    (case z10 => k_is)
    (case z11 => k_is)
    (case z12 => k_is)
