import PyProof.Rows.All
import Wide.All
import OpenK.AllK
import Wide.FinOn
import Lean
import PyProof.EqAt
import PyProof.EqKinds
import PyProof.TupleCall
import PyProof.Rows.StrInSeq3
import PyProof.Rows.SeqMore2
import PyProof.Rows.StrSplit
import PyProof.Rows.StrItems
import PyProof.Cells
import PyProof.SumWalkG
import PyProof.EnumStmt
import PyProof.EnumMake
import PyProof.InstStoreFacts
import PyProof.StrBlock2
import PySem.Challenge.RW_ohmyard_k82_rows_told
set_option Elab.async false
set_option linter.all false
set_option maxRecDepth 100000
namespace L2
open PySem PySem.Spec PyProof.Rows

abbrev Key := Sum Int Str
def keyIs : Key → Value → Bool
  | .inl k, v => Value.isInt k v
  | .inr x, v => Value.isStrOf x v
def keyH (w : World) : Key → Int
  | .inl k => hashInt k
  | .inr x => hashStr w x
theorem keyIs_shape : ∀ {k : Key} {v : Value}, keyIs k v = true → (∃ i t, k = Sum.inl i ∧ v = Value.int i t) ∨ (∃ x t, k = Sum.inr x ∧ v = Value.str x t)
  | .inl i, v, h => by
    obtain ⟨t, e⟩ := Value.isInt_shape (k := i) (v := v) h
    exact .inl ⟨i, t, rfl, e⟩
  | .inr x, v, h => by
    obtain ⟨t, e⟩ := Value.isStrOf_shape (x := x) (v := v) h
    exact .inr ⟨x, t, rfl, e⟩
theorem key_ll (a b : Int) : decide ((Sum.inl a : Key) = Sum.inl b) = (a == b) := by
  by_cases e : a = b
  · subst e; simp
  · have h : ¬ (Sum.inl a : Key) = Sum.inl b := fun q => e (Sum.inl.inj q)
    rw [decide_eq_false h]
    exact (beq_eq_false_iff_ne.mpr e).symm
theorem key_rr (a b : Str) : decide ((Sum.inr a : Key) = Sum.inr b) = decide (a = b) := by
  by_cases e : a = b
  · subst e; simp
  · have h : ¬ (Sum.inr a : Key) = Sum.inr b := fun q => e (Sum.inr.inj q)
    rw [decide_eq_false h, decide_eq_false e]
theorem key_lr (a : Int) (b : Str) : decide ((Sum.inl a : Key) = Sum.inr b) = false := decide_eq_false (fun q => nomatch q)
theorem key_rl (a : Str) (b : Int) : decide ((Sum.inr a : Key) = Sum.inl b) = false := decide_eq_false (fun q => nomatch q)

def mixKind (prog : Program) (w : World) : PySem.KeyKind prog w Key where
  is := keyIs
  hash := keyH w
  inj := fun v a b ha hb => by
    rcases keyIs_shape ha with ⟨i, t, rfl, rfl⟩ | ⟨x, t, rfl, rfl⟩
    · rcases keyIs_shape hb with ⟨j, u, rfl, e⟩ | ⟨y, u, rfl, e⟩
      · injection e with e1 _; rw [e1]
      · exact nomatch e
    · rcases keyIs_shape hb with ⟨j, u, rfl, e⟩ | ⟨y, u, rfl, e⟩
      · exact nomatch e
      · injection e with e1 _; rw [e1]
  byValue := fun k v h => by
    rcases keyIs_shape h with ⟨i, t, rfl, rfl⟩ | ⟨x, t, rfl, rfl⟩ <;> rfl
  pyHash := fun hv h => by
    rcases keyIs_shape hv with ⟨i, t, rfl, rfl⟩ | ⟨x, t, rfl, rfl⟩
    · exact wpAny_pyHash_int h
    · exact wpAny_pyHash_str h
  eqBool := fun hu hv h => by
    rcases keyIs_shape hu with ⟨i, t, rfl, rfl⟩ | ⟨x, t, rfl, rfl⟩
    · rcases keyIs_shape hv with ⟨j, u, rfl, rfl⟩ | ⟨y, u, rfl, rfl⟩
      · rw [key_ll] at h; exact wpAny_eqBool_int h
      · rw [key_lr] at h; exact SeqAt.EqAt.int_str i t y u _ _ _ _ h
    · rcases keyIs_shape hv with ⟨j, u, rfl, rfl⟩ | ⟨y, u, rfl, rfl⟩
      · rw [key_rl] at h; exact SeqAt.EqAt.str_int x t j u _ _ _ _ h
      · rw [key_rr] at h; exact wpAny_eqBool_str h
  «strs» := fun k x t v h => by
    rcases keyIs_shape h with ⟨i, u, rfl, e⟩ | ⟨y, u, rfl, e⟩
    · exact nomatch e
    · injection e with e1 _
      subst e1
      cases v <;> rfl

end L2

namespace L2
open PySem PySem.Spec PyProof.Rows

inductive V where
  | non | bl (b : Bool) | int (i : Int) | str (x : Str) | byt (b : Array UInt8) | flt (b : UInt64) | ref (a : Addr) | ty (n : String)
  deriving DecidableEq

def RelV : V → Value → Prop
  | .non, u => u = Value.none
  | .bl b, u => u = Value.bool b
  | .int i, u => ∃ t, u = Value.int i t
  | .str x, u => ∃ t, u = Value.str x t
  | .byt b, u => ∃ t, u = Value.bytes b t
  | .flt b, u => ∃ t, u = Value.float b t
  | .ref a, u => u = Value.ref a
  | .ty n, u => u = Value.type n

abbrev Vals : List V → List Value → Prop := Paired RelV
theorem Vals.length {xs : List V} {us : List Value} (r : Vals xs us) : xs.length = us.length := Paired.length r
theorem Vals.get : ∀ {xs : List V} {us : List Value} {i : Nat} {x : V}, Vals xs us → xs[i]? = some x → ∃ u, us[i]? = some u ∧ RelV x u
  | _, _, _, _, .nil, e => by simp at e
  | _, _, 0, _, .cons r _, e => by simp at e; subst e; exact ⟨_, rfl, r⟩
  | _, _, i + 1, x, .cons _ t, e => by
    obtain ⟨u, h1, h2⟩ := Vals.get (i := i) (x := x) t (by simpa using e)
    exact ⟨u, by simpa using h1, h2⟩
theorem Vals.append : ∀ {xs ys : List V} {us ws : List Value}, Vals xs us → Vals ys ws → Vals (xs ++ ys) (us ++ ws)
  | _, _, _, _, .nil, s => s
  | _, _, _, _, .cons r t, s => .cons r (Vals.append t s)
theorem Vals.take : ∀ {xs : List V} {us : List Value} (n : Nat), Vals xs us → Vals (xs.take n) (us.take n)
  | _, _, 0, _ => .nil
  | _, _, _ + 1, .nil => .nil
  | _, _, n + 1, .cons r t => .cons r (Vals.take n t)
theorem Vals.drop : ∀ {xs : List V} {us : List Value} (n : Nat), Vals xs us → Vals (xs.drop n) (us.drop n)
  | _, _, 0, r => r
  | _, _, _ + 1, .nil => .nil
  | _, _, n + 1, .cons _ t => Vals.drop n t
def RelO : Option V → Option Value → Prop
  | some v, some u => RelV v u
  | none, none => True
  | _, _ => False
def KV {κ : Type} : List (κ × V) → List (κ × Value) → Prop := Paired fun (p : κ × V) (q : κ × Value) => p.1 = q.1 ∧ RelV p.2 q.2

def kV : Key → V
  | .inl i => .int i
  | .inr x => .str x

inductive HO where
  | lst (xs : List V)
  | tup (xs : List V)
  | dK (kvs : List (Key × V)) | dT (kvs : List (List Key × V))
  | set (S : Int → Bool) (n : Nat)
  | ins (C dx : Addr) (fs : List (Str × V))
  | own (x : Addr)
  | xd (fs : List (Str × V))
  | met (f x : Addr)
  | rng (lo hi : Int)
  | frz (o : Obj) (u : HO)
  | tbl (ps : Array Value)
  | ext (φ : Heap → Prop)

abbrev Hp := Addr → Option HO
def upd (H : Hp) (a : Addr) (o : HO) : Hp := fun b => if b = a then some o else H b
theorem upd_same {H : Hp} {a : Addr} {o : HO} : upd H a o a = some o := by unfold upd; rw [if_pos rfl]
theorem upd_ne {H : Hp} {a b : Addr} {o : HO} (h : b ≠ a) : upd H a o b = H b := by unfold upd; rw [if_neg h]
theorem upd_upd {H : Hp} {a : Addr} {o u : HO} : upd (upd H a o) a u = upd H a u := by
  funext b; unfold upd; split <;> rfl
theorem ne_of {H : Hp} {a b : Addr} {o u : HO} (h : H a = some o) (h' : H b = some u) (d : o ≠ u) : a ≠ b := by
  intro e; subst e; rw [h] at h'; exact d (Option.some.inj h')
theorem ne_of_none {H : Hp} {a b : Addr} {o : HO} (h : H a = some o) (h' : H b = none) : a ≠ b := by
  intro e; subst e; rw [h] at h'; cases h'

section
variable (P : Program) (w : World)
def ObjOk (H : Hp) (h : Heap) (a : Addr) : HO → Prop
  | .lst xs => xs.length ≤ sizeLine ∧ ∃ (its : List Value) (n : Nat), Vals xs its ∧ h.get? a = some { cls := .type "list", data := .seq its.toArray n }
  | .tup xs => xs.length ≤ sizeLine ∧ ∃ its : List Value, Vals xs its ∧ IsTup h a its.toArray
  | .dK kvs => kvs.length ≤ sizeLine ∧ (a == sysModules) = false ∧ ∃ vs, KV kvs vs ∧ h.DictOf (mixKind P w) a vs
  | .dT kvs => kvs.length ≤ sizeLine ∧ (a == sysModules) = false ∧ ∃ xs : List (List Key × Addr × Value),
      Paired (fun (p : List Key × V) (q : List Key × Addr × Value) => p.1 = q.1 ∧ H q.2.1 = some (.tup (p.1.map kV)) ∧ RelV p.2 q.2.2) kvs xs ∧
      ∃ o es ep, h.get? a = some o ∧ o.ExactDict ∧ o.data = .dict es ep ∧ es.toList = xs.map (entryOfKey (tupleKind (mixKind P w))) ∧ (xs.map (·.1)).Nodup
  | .set S n => h.SetOf (intKind P w) a S n
  | .ins C dx fs => H dx = some (.own a) ∧ fs.length ≤ 1000 ∧ dx ≠ a ∧ h.get? a = some (PySem.W.instObj C dx) ∧
      ∃ mA, h.Ns1 dx mA ∧ (∀ f, RelO (fs.lookup f) (mA f)) ∧ PySem.Within mA (fs.map (·.1))
  | .own _ => ∃ o, h.get? a = some o
  | .xd fs => ∃ mA, h.Ns1 a mA ∧ ∀ f, RelO (fs.lookup f) (mA f)
  | .rng lo hi => ∃ t u v, h.get? a = some { cls := .type "range", data := .fields #[.int lo t, .int hi u, .int 1 v] }
  | .frz o u => h.get? a = some o ∧ ObjOk H h a u
  | .tbl ps => h.get? a = some { cls := .none, data := .fields ps }
  | .met f x => h.get? a = some (PySem.W.methodObj (.ref f) (.ref x))
  | .ext φ => φ h ∧ (∃ o, h.get? a = some o) ∧ ∀ h1 h2 : Heap, φ h1 → (∀ o, h1.get? a = some o → h2.get? a = some o) → φ h2
def HOk (H : Hp) (h : Heap) : Prop := ∀ a o, H a = some o → ObjOk P w H h a o
end

section
variable {P : Program} {w : World} {H H' : Hp} {h h' : Heap} {a : Addr} {o : HO}
theorem ObjOk.lt (x : ObjOk P w H h a o) : a < h.objs.size := by
  cases o with
  | lst xs => obtain ⟨_, _, _, _, e⟩ := x; exact Heap.lt_size e
  | tup xs => obtain ⟨_, _, _, p⟩ := x; exact p.lt
  | dK kvs => obtain ⟨_, _, _, _, o, _, _, e, _⟩ := x; exact Heap.lt_size e
  | dT kvs => obtain ⟨_, _, _, _, o, _, _, e, _⟩ := x; exact Heap.lt_size e
  | set S n => obtain ⟨o, _, _, _, e, _⟩ := x; exact Heap.lt_size e
  | ins C dx fs => obtain ⟨_, _, _, e, _⟩ := x; exact Heap.lt_size e
  | own y => obtain ⟨_, e⟩ := x; exact Heap.lt_size e
  | xd fs => obtain ⟨_, ⟨_, _, _, e, _⟩, _⟩ := x; exact Heap.lt_size e
  | rng lo hi => obtain ⟨_, _, _, e⟩ := x; exact Heap.lt_size e
  | frz ob u => obtain ⟨e, _⟩ := x; exact Heap.lt_size e
  | tbl ps => exact Heap.lt_size (show h.get? a = some _ from x)
  | met f y => exact Heap.lt_size (show h.get? a = some _ from x)
  | ext φ => obtain ⟨_, ⟨_, e⟩, _⟩ := x; exact Heap.lt_size e
theorem Paired.mapP {α β : Type} {F G : α → β → Prop} : ∀ {l₁ : List α} {l₂ : List β}, Paired F l₁ l₂ → (∀ a b, F a b → G a b) → Paired G l₁ l₂
  | _, _, .nil, _ => .nil
  | _, _, .cons r t, f => .cons (f _ _ r) (Paired.mapP t f)
theorem ObjOk.stay (x : ObjOk P w H h a o) (k : ∀ b u, (b = a ∨ H b = some (.own a)) → h.get? b = some u → h'.get? b = some u)
    (ho : ∀ b, H b = some (.own a) → H' b = some (.own a)) (ht : ∀ b xs, H b = some (.tup xs) → H' b = some (.tup xs)) : ObjOk P w H' h' a o := by
  induction o with
  | lst xs => obtain ⟨z, its, n, r, e⟩ := x; exact ⟨z, its, n, r, k _ _ (.inl rfl) e⟩
  | tup xs => obtain ⟨z, its, r, ob, e, c⟩ := x; exact ⟨z, its, r, ob, k _ _ (.inl rfl) e, c⟩
  | dK kvs => obtain ⟨z, y, vs, r, ob, es, ep, e, c⟩ := x; exact ⟨z, y, vs, r, ob, es, ep, k _ _ (.inl rfl) e, c⟩
  | dT kvs =>
    obtain ⟨z, y, xs, r, ob, es, ep, e, c⟩ := x
    exact ⟨z, y, xs, Paired.mapP r fun p q z => ⟨z.1, ht _ _ z.2.1, z.2.2⟩, ob, es, ep, k _ _ (.inl rfl) e, c⟩
  | set S n => obtain ⟨ob, es, ep, t, e, c⟩ := x; exact ⟨ob, es, ep, t, k _ _ (.inl rfl) e, c⟩
  | ins C dx fs =>
    obtain ⟨d, z, ne, e, mA, ⟨od, es, ep, e2, c⟩, r⟩ := x
    exact ⟨ho _ d, z, ne, k _ _ (.inl rfl) e, mA, ⟨od, es, ep, k _ _ (.inr d) e2, c⟩, r⟩
  | own y => obtain ⟨ob, e⟩ := x; exact ⟨ob, k _ _ (.inl rfl) e⟩
  | xd fs => obtain ⟨mA, ⟨od, es, ep, e, c⟩, r⟩ := x; exact ⟨mA, ⟨od, es, ep, k _ _ (.inl rfl) e, c⟩, r⟩
  | rng lo hi => obtain ⟨t, u, v, e⟩ := x; exact ⟨t, u, v, k _ _ (.inl rfl) e⟩
  | frz ob u ih => obtain ⟨e, q⟩ := x; exact ⟨k _ _ (.inl rfl) e, ih q⟩
  | tbl ps =>
    have e : h.get? a = some { cls := .none, data := .fields ps } := x
    show h'.get? a = some { cls := .none, data := .fields ps }
    exact k a _ (.inl rfl) e
  | met f y =>
    have e : h.get? a = some (PySem.W.methodObj (.ref f) (.ref y)) := x
    show h'.get? a = some (PySem.W.methodObj (.ref f) (.ref y))
    exact k a _ (.inl rfl) e
  | ext φ => obtain ⟨p, ⟨o, e⟩, st⟩ := x; exact ⟨st _ _ p fun o q => k _ _ (.inl rfl) q, ⟨o, k _ _ (.inl rfl) e⟩, st⟩
theorem HOk.lt (x : HOk P w H h) (e : H a = some o) : a < h.objs.size := (x a o e).lt
theorem HOk.fresh (x : HOk P w H h) (e : h.objs.size ≤ a) : H a = none := by
  cases q : H a with
  | none => rfl
  | some u => exact absurd (Nat.lt_of_lt_of_le (x.lt q) e) (Nat.lt_irrefl _)
theorem HOk.kept (x : HOk P w H h) (k : ∀ b u, h.get? b = some u → h'.get? b = some u) : HOk P w H h' := fun a o e =>
  (x a o e).stay (fun b u _ q => k b u q) (fun _ q => q) fun _ _ q => q
theorem HOk.laid (x : HOk P w H h) (k : ∀ b u, h.get? b = some u → h'.get? b = some u) (hp : h.objs.size ≤ a) (new : ObjOk P w (upd H a o) h' a o) : HOk P w (upd H a o) h' := fun b u e => by
  have hn := x.fresh hp
  by_cases hb : b = a
  · subst hb; rw [upd_same] at e; cases e; exact new
  · rw [upd_ne hb] at e
    exact (x b u e).stay (fun c v _ q => k c v q) (fun c q => by rw [upd_ne (ne_of_none q hn)]; exact q) fun c xs q => by rw [upd_ne (ne_of_none q hn)]; exact q
end

def Rd (H : Hp) (a : Addr) (u : HO) : Prop := H a = some u ∨ ∃ o, H a = some (.frz o u)
theorem Rd.ok {P : Program} {w : World} {H : Hp} {h : Heap} {a : Addr} {u : HO} (r : Rd H a u) (x : HOk P w H h) : ObjOk P w H h a u := by
  rcases r with r | ⟨o, r⟩
  · exact x a u r
  · obtain ⟨_, q⟩ := x a _ r
    exact q
def Mut : Option HO → Prop
  | some (.lst _) => True
  | some (.dK _) => True
  | some (.dT _) => True
  | some (.set _ _) => True
  | some (.ins _ _ _) => True
  | some (.ext _) => True
  | _ => False
section
variable {P : Program} {w : World} {H : Hp} {h h' : Heap} {x e : Addr} {o' : HO}
theorem HOk.write (ok : HOk P w H h) (mu : Mut (H x)) (he : e = x ∨ H e = some (.own x)) (k : ∀ b u, b ≠ e → h.get? b = some u → h'.get? b = some u) (heo : ∃ u, h'.get? e = some u)
    (new : ObjOk P w (upd H x o') h' x o') : HOk P w (upd H x o') h' := fun b u q => by
  have nown : ∀ c y, H c = some (.own y) → c ≠ x := fun c y r z => by subst z; rw [r] at mu; exact mu
  have ntup : ∀ c xs, H c = some (.tup xs) → c ≠ x := fun c xs r z => by subst z; rw [r] at mu; exact mu
  by_cases hb : b = x
  · subst hb; rw [upd_same] at q; cases q; exact new
  · rw [upd_ne hb] at q
    by_cases hbe : b = e
    · have q' : H b = some (.own x) := by
        rcases he with z | z
        · exact absurd (hbe.trans z) hb
        · rw [hbe]; exact z
      rw [q] at q'; cases q'
      obtain ⟨v, hv⟩ := heo
      exact ⟨v, by rw [hbe]; exact hv⟩
    · refine (ok b u q).stay (fun c v hc r => k c v ?_ r) (fun c r => by rw [upd_ne (nown c b r)]; exact r) fun c xs r => by rw [upd_ne (ntup c xs r)]; exact r
      rcases hc with rfl | hc
      · exact hbe
      · rintro rfl
        rcases he with z | z
        · exact nown c b hc z
        · rw [hc] at z; cases z; exact hb rfl
end

structure Un (fs ex : List Addr) (H H' : Hp) (h h' : Heap) : Prop where
  keep : ∀ b o, h.get? b = some o → H b = none → b ∉ fs → b ∉ ex → h'.get? b = some o
  slot : ∀ b o, h.get? b = some o → H b = none → b ∈ fs → b ∉ ex → ∃ sl, h'.get? b = some { o with slots := sl }
  free : ∀ b o, h.get? b = some o → H b = none → b ∉ ex → H' b = none
  there : ∀ b o, h.get? b = some o → b ∉ ex → ∃ o', h'.get? b = some o'
  tups : ∀ b xs, H b = some (.tup xs) → H' b = some (.tup xs)
  frzs : ∀ b o u, H b = some (.frz o u) → H' b = some (.frz o u)
  tbls : ∀ b ps, H b = some (.tbl ps) → ∃ more, H' b = some (.tbl (ps ++ more))
section
variable {fs fs' ex ex' : List Addr} {H H1 H2 : Hp} {h h1 h2 h' : Heap} {a x e : Addr} {o : HO}
theorem Un.any (u : Un fs ex H H1 h h1) {b : Addr} {ob : Obj} (q : h.get? b = some ob) (n : H b = none) (hx : b ∉ ex) : ∃ sl, h1.get? b = some { ob with slots := sl } := by
  by_cases hb : b ∈ fs
  · exact u.slot b ob q n hb hx
  · exact ⟨ob.slots, u.keep b ob q n hb hx⟩
theorem Un.kept (k : ∀ b u, h.get? b = some u → h'.get? b = some u) : Un fs ex H H h h' :=
  ⟨fun b ob q _ _ _ => k b ob q, fun b ob q _ _ _ => ⟨ob.slots, k b ob q⟩, fun _ _ _ n _ => n, fun b ob q _ => ⟨ob, k b ob q⟩, fun _ _ q => q, fun _ _ _ q => q, fun _ ps q => ⟨#[], by rw [q]; simp⟩⟩
theorem Un.refl : Un fs ex H H h h := Un.kept fun _ _ q => q
theorem Un.laid (k : ∀ b u, h.get? b = some u → h'.get? b = some u) (hp : h.objs.size ≤ a) (hn : H a = none) : Un fs ex H (upd H a o) h h' where
  keep := fun b u q _ _ _ => k b u q
  slot := fun b u q _ _ _ => ⟨u.slots, k b u q⟩
  free := fun b u q n _ => by rw [upd_ne (Nat.ne_of_lt (Nat.lt_of_lt_of_le (Heap.lt_size q) hp))]; exact n
  there := fun b u q _ => ⟨u, k b u q⟩
  tups := fun b xs q => by rw [upd_ne (ne_of_none q hn)]; exact q
  frzs := fun b u xs q => by rw [upd_ne (ne_of_none q hn)]; exact q
  tbls := fun b ps q => ⟨#[], by rw [upd_ne (ne_of_none q hn), q]; simp⟩
theorem Un.write (mu : Mut (H x)) (he : e = x ∨ H e = some (.own x)) (k : ∀ b u, b ≠ e → h.get? b = some u → h'.get? b = some u) (heo : ∃ u, h'.get? e = some u) : Un fs ex H (upd H x o) h h' := by
  have hx : ∀ b, H b = none → b ≠ x := fun b n z => by subst z; rw [n] at mu; exact mu
  have hb : ∀ b, H b = none → b ≠ e := fun b n z => by
    subst z
    rcases he with r | r
    · exact hx b n r
    · rw [n] at r; cases r
  have hm : ∀ b u, H b = some u → ¬ Mut (some u) → b ≠ x := fun b u q nm z => by subst z; rw [q] at mu; exact nm mu
  refine ⟨fun b u q n _ _ => k b u (hb b n) q, fun b u q n _ _ => ⟨u.slots, k b u (hb b n) q⟩, fun b u q n _ => by rw [upd_ne (hx b n)]; exact n, fun b u q _ => ?_,
    fun b xs q => by rw [upd_ne (hm b _ q fun z => z)]; exact q, fun b u xs q => by rw [upd_ne (hm b _ q fun z => z)]; exact q, fun b ps q => ⟨#[], by rw [upd_ne (hm b _ q fun z => z), q]; simp⟩⟩
  by_cases hbe : b = e
  · subst hbe; exact heo
  · exact ⟨u, k b u hbe q⟩
end

def trk (h : Heap) (H : Hp) : List Addr := (List.range h.objs.size).filter fun a => (H a).isSome
def hidT (h : Heap) (H : Hp) : Heap := PySem.W.hideAll h (trk h H)
theorem hidT_size (h : Heap) (H : Hp) : (hidT h H).objs.size = h.objs.size := PySem.W.hideAll_size _ _
theorem hidT_get {h : Heap} {H : Hp} {b : Addr} {o : Obj} (e : h.get? b = some o) (n : H b = none) : (hidT h H).get? b = some o :=
  PySem.W.hideAll_get _ e fun hm => by
    have q : (H b).isSome = true := (List.mem_filter.mp hm).2
    rw [n] at q; simp at q
theorem of_hidT {h : Heap} {H : Hp} {b : Addr} {o : Obj} (e : (hidT h H).get? b = some o) : h.get? b = some o ∧ H b = none := by
  have e' : h.get? b = some o := PySem.W.of_hideAll (trk h H) e
  refine ⟨e', ?_⟩
  cases q : H b with
  | none => rfl
  | some x =>
    have hm : b ∈ trk h H := List.mem_filter.mpr ⟨List.mem_range.mpr (Heap.lt_size e'), by simp [q]⟩
    have z : (hidT h H).get? b = none := PySem.W.hideAll_none (trk h H) hm
    rw [z] at e; cases e

end L2

namespace L2
open PySem PySem.Spec PyProof.Rows

structure Mod (K : PySem.W.Frag) (mg : Str → Option Value) (base : Heap) : Prop where
  kin : K.In base
  glob : base.Ns mainGlobals mg
  blt : ∃ mb, base.Ns builtinsNs mb ∧ ∀ x : Str, x ≠ "__name__" → mb x = bootBuiltins x
  nolimit : base.NoLimit

structure Cx where
  prog : Program
  w : World
  K : PySem.W.Frag
  mg : Str → Option Value
  base : Heap
  A : Around
  N : List Str
  s₀ : Shared
  H₀ : Hp
  env : Env
  outer : List Env
  stack : List Env
  ex : List Addr
  fn : Str → Bool
  calm : Bool
  pn : List (Addr × Obj)
  xe : Value → Shared → Prop
def frs (l : List Env) : List Addr := l.filterMap (·.frame)
abbrev Cx.fs (X : Cx) : List Addr := frs X.outer

def Vis (sc : Scope) (x : Str) : Prop := sc.names.lookup x = some .local ∨ sc.names.lookup x = some .cell ∨ sc.names.lookup x = some .free
def Loc (sc : Scope) (x : Str) : Prop := sc.names.lookup x = some .local ∨ sc.names.lookup x = some .cell
def Look (env : Env) (h : Heap) (m : Str → Option Value) (x : Str) (u : Value) : Prop :=
  (env.kindOf x = some .local ∧ m x = some u) ∨ ((env.kindOf x = some .cell ∨ env.kindOf x = some .free) ∧ ∃ c, env.cells.lookup x = some c ∧ h.IsCell c (some u))

structure Cx.Ok (X : Cx) : Prop where
  mod : Mod X.K X.mg X.base
  kind : X.env.scope.kind = .function
  glob : X.env.globals = mainGlobals
  blt : X.env.builtins = builtinsNs
  above : X.s₀.heap.objs.size ≤ X.env.locals
  inj : ∀ x y c, X.env.cells.lookup x = some c → X.env.cells.lookup y = some c → x = y
  has : ∀ x, (X.env.kindOf x = some .cell ∨ X.env.kindOf x = some .free) → ∃ c, X.env.cells.lookup x = some c
  cab : ∀ x c, X.fn x = true → X.env.cells.lookup x = some c → X.s₀.heap.objs.size ≤ c
  hd : X.calm = true → X.A.handled = none
  frames : X.A.frames = some X.stack
  stk : X.stack = X.outer ∨ (X.stack = X.env :: X.outer ∧ X.env.frame = some X.env.locals)
  exf : ∀ b ∈ X.ex, b ≠ X.env.locals ∧ ∀ x c, X.env.cells.lookup x = some c → c ≠ b
  bs : ∀ b o, X.base.get? b = some o → X.s₀.heap.get? b = some o ∧ X.H₀ b = none
  bsz : X.base.objs.size ≤ X.s₀.heap.objs.size
  noex : ∀ b o, X.base.get? b = some o → b ∉ X.ex
  exfs : ∀ b ∈ X.ex, b ∉ X.fs
  funs : X.s₀.heap.FunFrames X.base X.outer
  frf : ∀ b ∈ X.fs, X.H₀ b = none

structure Inv (X : Cx) (pins : List (Addr × Obj)) (σ : List (Option V)) (H : Hp) (s : Shared) : Prop where
  ok : X.Ok
  os : s.os = X.s₀.os
  bare : AllBare s.gens
  base : Un X.fs X.ex X.H₀ H X.s₀.heap s.heap
  loc : ∃ m, s.heap.Ns X.env.locals m ∧ ∀ (i : Nat) (x : Str) (v : V), X.N[i]? = some x → σ[i]? = some (some v) → Vis X.env.scope x → ∃ u, RelV v u ∧ Look X.env s.heap m x u
  cell : ∀ x c, X.env.cells.lookup x = some c → ∃ v, s.heap.IsCell c v
  free : H X.env.locals = none
  freeC : ∀ x c, X.env.cells.lookup x = some c → H c = none
  pin : ∀ p ∈ X.pn ++ pins, s.heap.get? p.1 = some p.2 ∧ H p.1 = none ∧ p.1 ≠ X.env.locals ∧ p.1 ∉ X.fs ∧ ∀ v, p.2.data ≠ .cell v
  hok : HOk X.prog X.w H s.heap
  len : σ.length = X.N.length

section
variable {X : Cx} {pins : List (Addr × Obj)} {σ : List (Option V)} {H H' : Hp} {s : Shared} {h' : Heap}

theorem Cx.Ok.nofr (ok : X.Ok) {b : Addr} {o : Obj} (e : X.base.get? b = some o) : b ∉ X.fs := fun hb => by
  have := (ok.funs.mem hb).1
  rw [e] at this; cases this
theorem Inv.bs (I : Inv X pins σ H s) : ∀ b o, X.base.get? b = some o → s.heap.get? b = some o ∧ H b = none := fun b o e =>
  ⟨I.base.keep b o (I.ok.bs b o e).1 (I.ok.bs b o e).2 (I.ok.nofr e) (I.ok.noex b o e), I.base.free b o (I.ok.bs b o e).1 (I.ok.bs b o e).2 (I.ok.noex b o e)⟩
theorem Inv.bk (I : Inv X pins σ H s) : ∀ b o, X.base.get? b = some o → s.heap.get? b = some o := fun b o e => (I.bs b o e).1
theorem Inv.mod (I : Inv X pins σ H s) : Mod X.K X.mg X.base := I.ok.mod
theorem Inv.kIn (I : Inv X pins σ H s) : X.K.In s.heap := I.ok.mod.kin.keeps I.bk
theorem Inv.nolimit (I : Inv X pins σ H s) : s.heap.NoLimit := I.ok.mod.nolimit.keeps I.bk
theorem Inv.lt (I : Inv X pins σ H s) : X.env.locals < s.heap.objs.size := let ⟨_, hn, _⟩ := I.loc; hn.lt
theorem Inv.sz (I : Inv X pins σ H s) : X.s₀.heap.objs.size ≤ s.heap.objs.size := Nat.le_trans I.ok.above (Nat.le_of_lt I.lt)
theorem Inv.nofs (I : Inv X pins σ H s) {a : Addr} (h : s.heap.objs.size ≤ a) : a ∉ X.fs := fun hb => by
  obtain ⟨_, o, ho, _⟩ := I.ok.funs.mem hb
  exact absurd (Nat.lt_of_lt_of_le (Heap.lt_size ho) (Nat.le_trans I.sz h)) (Nat.lt_irrefl _)
theorem Inv.cne (I : Inv X pins σ H s) : ∀ x c, X.env.cells.lookup x = some c → c ≠ X.env.locals := fun x c e z => by
  obtain ⟨v, o, ho, hd⟩ := I.cell x c e
  obtain ⟨m, ⟨o', es, ep, ho', hd', _⟩, _⟩ := I.loc
  rw [z, ho'] at ho; cases ho; rw [hd'] at hd; cases hd
theorem Inv.funs (I : Inv X pins σ H s) : s.heap.FunFrames X.base X.outer := by
  have all : ∀ (l : List Env), (∀ b ∈ frs l, b ∈ X.fs) → X.s₀.heap.FunFrames X.base l → s.heap.FunFrames X.base l := by
    intro l
    induction l with
    | nil => intro _ _; trivial
    | cons env r ih =>
      intro hs hl
      obtain ⟨hk, ⟨L, o, hf, hn, ho, hd⟩, hr⟩ := hl
      have hL : L ∈ X.fs := hs L (by unfold frs; rw [List.filterMap_cons, hf]; exact List.mem_cons_self)
      obtain ⟨sl, e⟩ := I.base.slot L o ho (I.ok.frf L hL) hL fun z => I.ok.exfs L z hL
      exact ⟨hk, ⟨L, _, hf, hn, e, hd⟩, ih (fun b hb => hs b (by unfold frs; rw [List.filterMap_cons, hf]; exact List.mem_cons_of_mem _ hb)) hr⟩
  exact all X.outer (fun _ hb => hb) I.ok.funs

theorem Inv.stack (I : Inv X pins σ H s) : s.heap.FunFrames X.base X.stack := by
  rcases I.ok.stk with e | ⟨e, hf⟩
  · rw [e]; exact I.funs
  · rw [e]
    obtain ⟨m, hn, _⟩ := I.loc
    refine .cons (by rw [I.ok.kind]; decide) hf hn ?_ I.funs
    exact Heap.get?_none_of_le (Nat.le_trans I.ok.bsz I.ok.above)
theorem Inv.stkSub (I : Inv X pins σ H s) : ∀ b ∈ frs X.stack, b ∈ X.env.locals :: X.fs := fun b hb => by
  rcases I.ok.stk with e | ⟨e, hf⟩
  · rw [e] at hb; exact List.mem_cons_of_mem _ hb
  · rw [e] at hb
    unfold frs at hb
    rw [List.filterMap_cons, hf] at hb
    exact hb
theorem Inv.stkFree (I : Inv X pins σ H s) : ∀ b ∈ frs X.stack, H b = none := fun b hb => by
  rcases List.mem_cons.mp (I.stkSub b hb) with e | hb
  · rw [e]; exact I.free
  · obtain ⟨_, o, ho, _⟩ := I.ok.funs.mem hb
    exact I.base.free b o ho (I.ok.frf b hb) fun z => I.ok.exfs b z hb

theorem Inv.step {g' : Array GenState} {t' : Nat} {d' : Drawn} {ch : List Addr} (I : Inv X pins σ H s)
    (hch : ∀ b ∈ ch, (b ∈ X.ex ∨ X.s₀.heap.objs.size ≤ b) ∧ b ≠ X.env.locals ∧ (∀ x c, X.env.cells.lookup x = some c → c ≠ b) ∧ ∀ p ∈ X.pn ++ pins, p.1 ≠ b)
    (keep : ∀ b o, b ≠ X.env.locals → b ∉ X.fs → b ∉ ch → s.heap.get? b = some o → H b = none → h'.get? b = some o)
    (slot : ∀ b o, b ≠ X.env.locals → b ∈ X.fs → b ∉ ch → s.heap.get? b = some o → H b = none → ∃ sl, h'.get? b = some { o with slots := sl }) (free : ∀ b o, b ∉ ch → s.heap.get? b = some o → H b = none → H' b = none)
    (there : ∀ b o, b ∉ ch → s.heap.get? b = some o → ∃ o', h'.get? b = some o')
    (tups : ∀ b xs, H b = some (.tup xs) → H' b = some (.tup xs)) (frzs : ∀ b o u, H b = some (.frz o u) → H' b = some (.frz o u)) (tbls : ∀ b ps, H b = some (.tbl ps) → ∃ more, H' b = some (.tbl (ps ++ more)))
    (ns : ∀ m, s.heap.Ns X.env.locals m → h'.Ns X.env.locals m) (hok : HOk X.prog X.w H' h') (hg : AllBare g') :
    Inv X pins σ H' { s with heap := h', gens := g', drawn := d', toks := t' } := by
  have neL : ∀ b o, X.s₀.heap.get? b = some o → b ≠ X.env.locals := fun b o e => Nat.ne_of_lt (Nat.lt_of_lt_of_le (Heap.lt_size e) I.ok.above)
  have neC : ∀ b o, X.s₀.heap.get? b = some o → b ∉ X.ex → b ∉ ch := fun b o e hx hb => by
    rcases (hch b hb).1 with z | z
    · exact hx z
    · exact absurd (Nat.lt_of_lt_of_le (Heap.lt_size e) z) (Nat.lt_irrefl _)
  have cellK : ∀ x c, X.env.cells.lookup x = some c → ∀ v, s.heap.IsCell c v → h'.IsCell c v := fun x c e v ⟨o, ho, hd⟩ => by
    have nch : c ∉ ch := fun z => (hch c z).2.2.1 x c e rfl
    by_cases hc : c ∈ X.fs
    · obtain ⟨sl, q⟩ := slot c o (I.cne x c e) hc nch ho (I.freeC x c e)
      exact ⟨_, q, hd⟩
    · exact ⟨o, keep c o (I.cne x c e) hc nch ho (I.freeC x c e), hd⟩
  refine ⟨I.ok, I.os, hg, ⟨fun b o e n hb hx => ?_, fun b o e n hb hx => ?_, fun b o e n hx => ?_, fun b o e hx => ?_, fun b xs e => tups b xs (I.base.tups b xs e), fun b o xs e => frzs b o xs (I.base.frzs b o xs e), fun b ps e => ?_⟩, ?_, fun x c e => ?_, ?_, fun x c e => ?_, fun p hp => ?_, hok, I.len⟩
  · exact keep b o (neL b o e) hb (neC b o e hx) (I.base.keep b o e n hb hx) (I.base.free b o e n hx)
  · obtain ⟨sl, e1⟩ := I.base.slot b o e n hb hx
    obtain ⟨sl', e2⟩ := slot b _ (neL b o e) hb (neC b o e hx) e1 (I.base.free b o e n hx)
    exact ⟨sl', e2⟩
  · obtain ⟨o', e1⟩ := I.base.there b o e hx
    exact free b o' (neC b o e hx) e1 (I.base.free b o e n hx)
  · obtain ⟨o', e1⟩ := I.base.there b o e hx
    exact there b o' (neC b o e hx) e1
  · obtain ⟨m1, e1⟩ := I.base.tbls b ps e
    obtain ⟨m2, e2⟩ := tbls b _ e1
    exact ⟨m1 ++ m2, by rw [e2, Array.append_assoc]⟩
  · obtain ⟨m, hn, hl⟩ := I.loc
    refine ⟨m, ns m hn, fun i x v e1 e2 e3 => ?_⟩
    obtain ⟨u, r, l⟩ := hl i x v e1 e2 e3
    refine ⟨u, r, ?_⟩
    rcases l with l | ⟨k, c, e, z⟩
    · exact .inl l
    · exact .inr ⟨k, c, e, cellK x c e _ z⟩
  · obtain ⟨v, z⟩ := I.cell x c e
    exact ⟨v, cellK x c e v z⟩
  · obtain ⟨m, ⟨o, _, _, ho, _⟩, _⟩ := I.loc
    exact free _ o (fun z => (hch _ z).2.1 rfl) ho I.free
  · obtain ⟨v, o, ho, hd⟩ := I.cell x c e
    exact free c o (fun z => (hch c z).2.2.1 x c e rfl) ho (I.freeC x c e)
  · obtain ⟨e, n, ne, nf, d⟩ := I.pin p hp
    have nch : p.1 ∉ ch := fun z => (hch p.1 z).2.2.2 p hp rfl
    exact ⟨keep p.1 p.2 ne nf nch e n, free p.1 p.2 nch e n, ne, nf, d⟩
theorem Inv.un {t' : Nat} (I : Inv X pins σ H s) (u : Un X.fs [] H H' s.heap h') (hok : HOk X.prog X.w H' h') : Inv X pins σ H' { s with heap := h', toks := t' } := by
  obtain ⟨m, ⟨o, es, ep, ho, r⟩, _⟩ := id I.loc
  obtain ⟨sl, hL⟩ := u.any ho I.free (by simp)
  exact I.step (g' := s.gens) (d' := s.drawn) (ch := []) (fun _ z => nomatch z) (fun b o _ hb _ e n => u.keep b o e n hb (by simp)) (fun b o _ hb _ e n => u.slot b o e n hb (by simp)) (fun b o _ e n => u.free b o e n (by simp)) (fun b o _ e => u.there b o e (by simp)) u.tups u.frzs u.tbls (fun m' hm => by
    obtain ⟨o', es', ep', ho', r'⟩ := hm
    rw [ho] at ho'; cases ho'
    exact ⟨_, es', ep', hL, r'⟩) hok I.bare
theorem Inv.call {g' : Array GenState} {t' : Nat} {d' : Drawn} {ch : List Addr} (I : Inv X pins σ H s) (u : Un (frs X.stack) ch H H' s.heap h') (hok : HOk X.prog X.w H' h') (hg : AllBare g')
    (hch : ∀ b ∈ ch, (b ∈ X.ex ∨ X.s₀.heap.objs.size ≤ b) ∧ b ≠ X.env.locals ∧ (∀ x c, X.env.cells.lookup x = some c → c ≠ b) ∧ ∀ p ∈ X.pn ++ pins, p.1 ≠ b) :
    Inv X pins σ H' { s with heap := h', gens := g', drawn := d', toks := t' } := by
  obtain ⟨m, ⟨o, es, ep, ho, r⟩, _⟩ := id I.loc
  obtain ⟨sl, hL⟩ := u.any ho I.free fun z => (hch _ z).2.1 rfl
  exact I.step (ch := ch) hch (fun b o hL hb hc e n => u.keep b o e n (fun z => (List.mem_cons.mp (I.stkSub b z)).elim hL hb) hc) (fun b o _ _ hc e n => u.any e n hc) (fun b o hc e n => u.free b o e n hc) (fun b o hc e => u.there b o e hc) u.tups u.frzs u.tbls (fun m' hm => by
    obtain ⟨o', es', ep', ho', r'⟩ := hm
    rw [ho] at ho'; cases ho'
    exact ⟨_, es', ep', hL, r'⟩) hok hg
theorem Inv.turned {t' : Nat} {it : Addr} (I : Inv X pins σ H s) (k : ∀ b o, b ≠ it → s.heap.get? b = some o → h'.get? b = some o) (hn : H it = none) (hL : it ≠ X.env.locals)
    (h1 : it ∈ X.ex ∨ X.s₀.heap.objs.size ≤ it) (h2 : ∀ x c, X.env.cells.lookup x = some c → c ≠ it) (h3 : ∀ p ∈ X.pn ++ pins, p.1 ≠ it) : Inv X pins σ H { s with heap := h', toks := t' } := by
  have nit : ∀ b u, H b = some u → b ≠ it := fun b u e z => by rw [z, hn] at e; cases e
  refine I.step (g' := s.gens) (d' := s.drawn) (ch := [it]) (fun b hb => ?_) (fun b o _ _ hc e _ => k b o (fun z => hc (by simp [z])) e) (fun b o _ _ hc e _ => ⟨o.slots, k b o (fun z => hc (by simp [z])) e⟩) (fun _ _ _ _ n => n)
    (fun b o hc e => ⟨o, k b o (fun z => hc (by simp [z])) e⟩) (fun _ _ e => e) (fun _ _ _ e => e) (fun b ps e => ⟨#[], by rw [e]; simp⟩) (fun m hm => ?_) (fun b u e => ?_) I.bare
  · have e : b = it := by simpa using hb
    subst e
    exact ⟨h1, hL, h2, h3⟩
  · obtain ⟨o, es, ep, ho, r⟩ := hm
    exact ⟨o, es, ep, k _ o (Ne.symm hL) ho, r⟩
  · refine (I.hok b u e).stay (fun c v hc q => k c v ?_ q) (fun _ q => q) fun _ _ q => q
    rcases hc with z | z
    · rw [z]; exact nit b u e
    · exact nit c _ z
theorem Inv.tok (I : Inv X pins σ H s) (t : Nat) : Inv X pins σ H { s with toks := t } := I.un (h' := s.heap) (t' := t) Un.refl I.hok
theorem Inv.kept {t' : Nat} (I : Inv X pins σ H s) (k : ∀ b u, s.heap.get? b = some u → h'.get? b = some u) : Inv X pins σ H { s with heap := h', toks := t' } := I.un (Un.kept k) (I.hok.kept k)
theorem Inv.laid {a : Addr} {o : HO} {t' : Nat} (I : Inv X pins σ H s) (k : ∀ b u, s.heap.get? b = some u → h'.get? b = some u) (hp : s.heap.objs.size ≤ a) (new : ObjOk X.prog X.w (upd H a o) h' a o) :
    Inv X pins σ (upd H a o) { s with heap := h', toks := t' } := I.un (Un.laid k hp (I.hok.fresh hp)) (I.hok.laid k hp new)
theorem Inv.write {x e : Addr} {o : HO} {t' : Nat} (I : Inv X pins σ H s) (mu : Mut (H x)) (he : e = x ∨ H e = some (.own x)) (k : ∀ b u, b ≠ e → s.heap.get? b = some u → h'.get? b = some u) (heo : ∃ u, h'.get? e = some u)
    (new : ObjOk X.prog X.w (upd H x o) h' x o) : Inv X pins σ (upd H x o) { s with heap := h', toks := t' } := I.un (Un.write mu he k heo) (I.hok.write mu he k heo new)
theorem Inv.weak {σ' : List (Option V)} (I : Inv X pins σ H s) (hl : σ'.length = σ.length) (w : ∀ (i : Nat) v, σ'[i]? = some (some v) → σ[i]? = some (some v)) : Inv X pins σ' H s :=
  ⟨I.ok, I.os, I.bare, I.base, let ⟨m, hn, hl'⟩ := I.loc; ⟨m, hn, fun i x v e1 e2 e3 => hl' i x v e1 (w i v e2) e3⟩, I.cell, I.free, I.freeC, I.pin, I.hok, hl.trans I.len⟩
theorem Inv.pins_of {pins' : List (Addr × Obj)} (I : Inv X pins σ H s) (h : ∀ p ∈ pins', s.heap.get? p.1 = some p.2 ∧ H p.1 = none ∧ p.1 ≠ X.env.locals ∧ p.1 ∉ X.fs ∧ ∀ v, p.2.data ≠ .cell v) : Inv X pins' σ H s :=
  ⟨I.ok, I.os, I.bare, I.base, I.loc, I.cell, I.free, I.freeC, fun p hp => (List.mem_append.mp hp).elim (fun z => I.pin p (List.mem_append_left _ z)) (h p), I.hok, I.len⟩

theorem nodup_ix {N : List Str} (hN : N.Nodup) {i j : Nat} {x : Str} (a : N[i]? = some x) (b : N[j]? = some x) : i = j := by
  obtain ⟨h1, e1⟩ := List.getElem?_eq_some_iff.mp a
  obtain ⟨h2, e2⟩ := List.getElem?_eq_some_iff.mp b
  exact (List.getElem_inj hN).mp (e1.trans e2.symm)

theorem store_ok2 {M : Model} {A : Around} {E : Value → Shared → Prop} {i : Nat} {x : Str} {v : V} {u : Value} {Q : Unit → Shared → Prop} (I : Inv X pins σ H s) (hN : X.N.Nodup) (hi : X.N[i]? = some x) (hx : Loc X.env.scope x) (r : RelV v u)
    (h : ∀ s', Inv X pins (σ.set i (some v)) H s' → (∃ a, Heap.SameBut a s.heap s'.heap ∧ (a = X.env.locals ∨ X.env.cells.lookup x = some a)) → Q () s') (hf : X.fn x = true ∨ X.env.scope.names.lookup x = some .local := by first | exact .inl rfl | exact .inr rfl | assumption) : wpAny M A (storeName X.env x u) Q E s := by
  obtain ⟨m, hn, hl⟩ := id I.loc
  have hcls : (X.env.scope.kind == .class || (X.env.scope.kind == .module && X.env.locals != X.env.globals)) = false := by rw [I.ok.kind]; rfl
  have hiσ : i < σ.length := by rw [I.len]; exact (List.getElem?_eq_some_iff.mp hi).1
  have cne := I.cne
  have tracked : ∀ {a : Addr} {h' : Heap}, (∃ o, s.heap.get? a = some o ∧ H a = none) → Heap.SameBut a s.heap h' → HOk X.prog X.w H h' := fun {a h'} ha hs b ob e => by
    obtain ⟨_, _, hfree⟩ := ha
    refine (I.hok b ob e).stay (fun c w' hc q => (hs.2 c ?_).trans q) (fun _ q => q) fun _ _ q => q
    rintro rfl
    rcases hc with rfl | hc
    · rw [hfree] at e; cases e
    · rw [hfree] at hc; cases hc
  rcases hx with hk | hk
  · refine wpAny_storeName_local hk hn (fun h' hn' hs => ?_) hcls
    obtain ⟨oL, _, _, hoL, _⟩ := id hn
    refine h _ ⟨I.ok, I.os, I.bare, ⟨fun b o e n hb hx => ?_, fun b o e n hb hx => ?_, I.base.free, fun b o e hx => ?_, I.base.tups, I.base.frzs, I.base.tbls⟩, ⟨_, hn', fun j y v' e1 e2 e3 => ?_⟩, fun y c e => ?_, I.free, I.freeC, fun p hp => ?_, tracked ⟨oL, hoL, I.free⟩ hs, by simpa using I.len⟩ ⟨_, hs, .inl rfl⟩
    · exact (hs.2 b (Nat.ne_of_lt (Nat.lt_of_lt_of_le (Heap.lt_size e) I.ok.above))).trans (I.base.keep b o e n hb hx)
    · obtain ⟨sl, e1⟩ := I.base.slot b o e n hb hx
      exact ⟨sl, (hs.2 b (Nat.ne_of_lt (Nat.lt_of_lt_of_le (Heap.lt_size e) I.ok.above))).trans e1⟩
    · obtain ⟨o', e1⟩ := I.base.there b o e hx
      exact ⟨o', (hs.2 b (Nat.ne_of_lt (Nat.lt_of_lt_of_le (Heap.lt_size e) I.ok.above))).trans e1⟩
    · by_cases hj : j = i
      · subst hj
        rw [hi] at e1; cases e1
        rw [List.getElem?_set_self hiσ] at e2
        cases e2
        exact ⟨u, r, .inl ⟨hk, by simp⟩⟩
      · rw [List.getElem?_set_ne (Ne.symm hj)] at e2
        obtain ⟨u', r', q⟩ := hl j y v' e1 e2 e3
        refine ⟨u', r', ?_⟩
        rcases q with ⟨k, e⟩ | ⟨k, c, e, z⟩
        · refine .inl ⟨k, ?_⟩
          have : y ≠ x := fun e => hj (nodup_ix hN e1 (e ▸ hi))
          simp [this, e]
        · exact .inr ⟨k, c, e, z.sameBut hs (cne y c e)⟩
    · obtain ⟨w', z⟩ := I.cell y c e
      exact ⟨w', z.sameBut hs (cne y c e)⟩
    · obtain ⟨e, n, ne, nf, d⟩ := I.pin p hp
      exact ⟨(hs.2 p.1 ne).trans e, n, ne, nf, d⟩
  · have hfn : X.fn x = true := by
      rcases hf with z | z
      · exact z
      · rw [z] at hk; cases hk
    obtain ⟨c, hc⟩ := I.ok.has x (.inl hk)
    obtain ⟨w', z⟩ := I.cell x c hc
    refine wpAny_storeName_cell I.ok.kind hk hc z (fun h' hc' hs => ?_)
    obtain ⟨oc, hoc, hocd⟩ := id z
    refine h { s with heap := h' } ⟨I.ok, I.os, I.bare, ⟨fun b o e n hb hx => ?_, fun b o e n hb hx => ?_, I.base.free, fun b o e hx => ?_, I.base.tups, I.base.frzs, I.base.tbls⟩, ⟨m, hn.sameBut hs (Ne.symm (cne x c hc)), fun j y v' e1 e2 e3 => ?_⟩, fun y c' e => ?_, I.free, I.freeC, fun p hp => ?_, tracked ⟨oc, hoc, I.freeC x c hc⟩ hs, by simpa using I.len⟩ ⟨c, hs, .inr hc⟩
    · exact (hs.2 b (Nat.ne_of_lt (Nat.lt_of_lt_of_le (Heap.lt_size e) (I.ok.cab x c hfn hc)))).trans (I.base.keep b o e n hb hx)
    · obtain ⟨sl, e1⟩ := I.base.slot b o e n hb hx
      exact ⟨sl, (hs.2 b (Nat.ne_of_lt (Nat.lt_of_lt_of_le (Heap.lt_size e) (I.ok.cab x c hfn hc)))).trans e1⟩
    · obtain ⟨o', e1⟩ := I.base.there b o e hx
      exact ⟨o', (hs.2 b (Nat.ne_of_lt (Nat.lt_of_lt_of_le (Heap.lt_size e) (I.ok.cab x c hfn hc)))).trans e1⟩
    · by_cases hj : j = i
      · subst hj
        rw [hi] at e1; cases e1
        rw [List.getElem?_set_self hiσ] at e2
        cases e2
        exact ⟨u, r, .inr ⟨.inl hk, c, hc, hc'⟩⟩
      · rw [List.getElem?_set_ne (Ne.symm hj)] at e2
        obtain ⟨u', r', q⟩ := hl j y v' e1 e2 e3
        refine ⟨u', r', ?_⟩
        rcases q with q | ⟨k, c', e, z'⟩
        · exact .inl q
        · refine .inr ⟨k, c', e, z'.sameBut hs ?_⟩
          rintro rfl
          exact hj (nodup_ix hN e1 (I.ok.inj _ _ _ e hc ▸ hi))
    · by_cases hcc : c' = c
      · subst hcc; exact ⟨_, hc'⟩
      · obtain ⟨w2, z2⟩ := I.cell y c' e
        exact ⟨w2, z2.sameBut hs hcc⟩
    · obtain ⟨e, n, ne, nf, d⟩ := I.pin p hp
      refine ⟨(hs.2 p.1 ?_).trans e, n, ne, nf, d⟩
      intro q
      rw [q, hoc] at e
      have q' : oc = p.2 := Option.some.inj e
      exact d w' (by rw [← q']; exact hocd)
theorem store_ok {M : Model} {A : Around} {E : Value → Shared → Prop} {i : Nat} {x : Str} {v : V} {u : Value} {Q : Unit → Shared → Prop} (I : Inv X pins σ H s) (hN : X.N.Nodup) (hi : X.N[i]? = some x) (hx : Loc X.env.scope x) (r : RelV v u)
    (h : ∀ s', Inv X pins (σ.set i (some v)) H s' → Q () s') (hf : X.fn x = true ∨ X.env.scope.names.lookup x = some .local := by first | exact .inl rfl | exact .inr rfl | assumption) : wpAny M A (storeName X.env x u) Q E s :=
  store_ok2 I hN hi hx r (fun s' I' _ => h s' I') hf
theorem Inv.call' {s' : Shared} {ch : List Addr} (I : Inv X pins σ H s) (ho : s'.os = s.os) (u : Un (frs X.stack) ch H H' s.heap s'.heap) (hok : HOk X.prog X.w H' s'.heap) (hg : AllBare s'.gens)
    (hch : ∀ b ∈ ch, (b ∈ X.ex ∨ X.s₀.heap.objs.size ≤ b) ∧ b ≠ X.env.locals ∧ (∀ x c, X.env.cells.lookup x = some c → c ≠ b) ∧ ∀ p ∈ X.pn ++ pins, p.1 ≠ b) : Inv X pins σ H' s' := by
  obtain ⟨h', g', d', t', o'⟩ := s'
  have e : o' = s.os := ho
  subst e
  exact I.call (g' := g') (t' := t') (d' := d') u hok hg hch
end

abbrev XK := Value → Option Addr → Hp → Prop
abbrev St := List (Option V)
abbrev VK := V → Hp → Prop
abbrev TE := St → Hp → VK → Prop
abbrev TT := St → Hp → (Bool → Hp → Prop) → Prop
abbrev TA := St → Hp → (List V → Hp → Prop) → Prop
structure Ends where
  nx : St → Hp → Prop
  rt : VK
  bk : St → Hp → Prop := fun _ _ => False
  ct : St → Hp → Prop := fun _ _ => False
abbrev TS := Ends → St → Hp → Prop

def EP (X : Cx) (pins : List (Addr × Obj)) (σ : St) (Q : VK) (u : Value) (s' : Shared) : Prop := ∃ v H', Inv X pins σ H' s' ∧ RelV v u ∧ Q v H'
def TP (X : Cx) (pins : List (Addr × Obj)) (σ : St) (Q : Bool → Hp → Prop) (b : Bool) (s' : Shared) : Prop := ∃ H', Inv X pins σ H' s' ∧ Q b H'
def AP (X : Cx) (pins : List (Addr × Obj)) (σ : St) (Q : List V → Hp → Prop) (us : List Value) (s' : Shared) : Prop := ∃ vs H', Inv X pins σ H' s' ∧ Vals vs us ∧ Q vs H'
def SP (X : Cx) (pins : List (Addr × Obj)) (D : Ends) (f : Flow) (s' : Shared) : Prop :=
  match f with
  | .next => ∃ σ' H', Inv X pins σ' H' s' ∧ D.nx σ' H'
  | .brk => ∃ σ' H', Inv X pins σ' H' s' ∧ D.bk σ' H'
  | .cont => ∃ σ' H', Inv X pins σ' H' s' ∧ D.ct σ' H'
  | .ret u => ∃ v σ' H', Inv X pins σ' H' s' ∧ RelV v u ∧ D.rt v H'

def PE (X : Cx) (e : Expr) (t : TE) : Prop :=
  ∀ (pins : List (Addr × Obj)) (s : Shared) (σ : St) (H : Hp) (Q : VK), Inv X pins σ H s → t σ H Q → wpAny (model X.prog X.w) X.A (eval e X.env) (EP X pins σ Q) X.xe s
def PT (X : Cx) (e : Expr) (t : TT) : Prop :=
  ∀ (pins : List (Addr × Obj)) (s : Shared) (σ : St) (H : Hp) (Q : Bool → Hp → Prop), Inv X pins σ H s → t σ H Q → wpAny (model X.prog X.w) X.A (isTrue e X.env (eval e X.env)) (TP X pins σ Q) X.xe s
def PW (X : Cx) (e : Expr) (t : TT) : Prop :=
  ∀ (whole : Sem Value) (pins : List (Addr × Obj)) (s : Shared) (σ : St) (H : Hp) (Q : Bool → Hp → Prop), Inv X pins σ H s → t σ H Q → wpAny (model X.prog X.w) X.A (isTrue e X.env whole) (TP X pins σ Q) X.xe s
theorem PW.pt {X : Cx} {e : Expr} {t : TT} (h : PW X e t) : PT X e t := h _
def PA (X : Cx) (es : List Expr) (t : TA) : Prop :=
  ∀ (pos : Pos) (pins : List (Addr × Obj)) (s : Shared) (σ : St) (H : Hp) (Q : List V → Hp → Prop), Inv X pins σ H s → t σ H Q → wpAny (model X.prog X.w) X.A (spliced (backTo pos (starEach es X.env))) (AP X pins σ Q) X.xe s
def PS (X : Cx) (st : Stmt) (t : TS) : Prop :=
  ∀ (pins : List (Addr × Obj)) (s : Shared) (σ : St) (H : Hp) (D : Ends), Inv X pins σ H s → t D σ H → wpAny (model X.prog X.w) X.A (exec st X.env) (SP X pins D) X.xe s
def PSs (X : Cx) (st : List Stmt) (t : TS) : Prop :=
  ∀ (pins : List (Addr × Obj)) (s : Shared) (σ : St) (H : Hp) (D : Ends), Inv X pins σ H s → t D σ H → wpAny (model X.prog X.w) X.A (execs st X.env) (SP X pins D) X.xe s
theorem thn {α : Type} {t : Sem α} {Q Q' : α → Shared → Prop} {M : Model} {A : Around} {E : Value → Shared → Prop} {s : Shared} (h : wpAny M A t Q E s) (hQ : ∀ a s, Q a s → Q' a s) : wpAny M A t Q' E s := wpAny_mono h hQ fun _ _ x => x
end L2

namespace L2
open PySem PySem.Spec PyProof.Rows
section
variable {X : Cx}

def tVar (i : Nat) : TE := fun σ H Q => ∃ v, σ[i]? = some (some v) ∧ Q v H
def tC (v : V) : TE := fun _ H Q => Q v H
theorem pe_var {i : Nat} {x : Str} {pos : Pos} (hN : X.N[i]? = some x) (hv : Vis X.env.scope x) (hd : (x == ("__debug__" : Str)) = false := by decide) (hcd : (x == ("__classdict__" : Str)) = false := by decide) : PE X (.Name x pos) (tVar i) := by
  intro pins s σ H Q I h
  obtain ⟨v, e, h⟩ := h
  obtain ⟨m, hn, hl⟩ := I.loc
  obtain ⟨u, r, l⟩ := hl i x v hN e hv
  have fin : EP X pins σ Q u s := ⟨v, H, I, r, h⟩
  rcases l with ⟨hk, hm⟩ | ⟨hk, c, hc, hcell⟩
  · exact wpAny_Name (wpAny_loadName_local I.ok.kind hk hn hm fin) hd
  · rcases hk with hk | hk
    · exact wpAny_Name (wpAny_loadName_cell I.ok.kind hk hc hcell fin) hd
    · exact wpAny_Name (wpAny_loadName_free I.ok.kind hk hc hcell fin hcd) hd
theorem pe_int {i j pos} : PE X (.Constant (.int i) j pos) (tC (.int i)) := fun _ _ _ H _ I h => wpAny_Constant_int ⟨.int i, H, I.tok _, ⟨_, rfl⟩, h⟩
theorem pe_bl {b j pos} : PE X (.Constant (.bool b) j pos) (tC (.bl b)) := fun _ _ _ H _ I h => Constant_bool ⟨.bl b, H, I, rfl, h⟩
theorem pe_non {j pos} : PE X (.Constant .none j pos) (tC .non) := fun _ _ _ H _ I h => Constant_none ⟨.non, H, I, rfl, h⟩
theorem pe_str {x j pos} : PE X (.Constant (.str x) j pos) (tC (.str x)) := fun _ _ _ H _ I h => Calls.Constant_str ⟨.str x, H, I.tok _, ⟨_, rfl⟩, h⟩

def Gl (X : Cx) (x : Str) : Prop := X.env.kindOf x = some .globalImplicit
theorem ld_glob {E : Value → Shared → Prop} {pins : List (Addr × Obj)} {s : Shared} {σ : St} {H : Hp} {x : Str} {u : Value} {pos : Pos} {Q : Value → Shared → Prop} (I : Inv X pins σ H s) (hg : Gl X x) (hm : X.mg x = some u) (h : Q u s)
    (hd : (x == ("__debug__" : Str)) = false := by decide) : wpAny (model X.prog X.w) X.A (eval (.Name x pos) X.env) Q E s :=
  Calls.Name_function_global I.ok.kind hg (Calls.loadGlobal_global (by rw [I.ok.glob]; exact I.mod.glob.keeps I.bk) hm h) hd
theorem ld_blt {E : Value → Shared → Prop} {pins : List (Addr × Obj)} {s : Shared} {σ : St} {H : Hp} {x : Str} {u : Value} {pos : Pos} {Q : Value → Shared → Prop} (I : Inv X pins σ H s) (hg : Gl X x) (hm : X.mg x = none) (hv : bootBuiltins x = some u) (h : Q u s)
    (hn : x ≠ "__name__" := by decide) (hd : (x == ("__debug__" : Str)) = false := by decide) : wpAny (model X.prog X.w) X.A (eval (.Name x pos) X.env) Q E s := by
  obtain ⟨mb, h1, h2⟩ := I.mod.blt
  exact Calls.Name_function_global I.ok.kind hg (Calls.loadGlobal_builtin (by rw [I.ok.glob]; exact I.mod.glob.keeps I.bk) hm (by rw [I.ok.blt]; exact h1.keeps I.bk) ((h2 x hn).trans hv) h) hd
theorem pe_glob {x : Str} {v : V} {u : Value} {pos : Pos} (hg : Gl X x) (hm : X.mg x = some u) (r : RelV v u) (hd : (x == ("__debug__" : Str)) = false := by decide) : PE X (.Name x pos) (tC v) :=
  fun _ _ _ H _ I h => ld_glob I hg hm ⟨v, H, I, r, h⟩ hd
theorem pe_bltn {x : Str} {v : V} {u : Value} {pos : Pos} (hg : Gl X x) (hm : X.mg x = none) (hv : bootBuiltins x = some u) (r : RelV v u) (hn : x ≠ "__name__" := by decide) (hd : (x == ("__debug__" : Str)) = false := by decide) : PE X (.Name x pos) (tC v) :=
  fun _ _ _ H _ I h => ld_blt I hg hm hv ⟨v, H, I, r, h⟩ hn hd

variable {a b : Expr} {ta tb : TE} {pos : Pos}
def PC (X : Cx) (op : CmpOp) (a b : Expr) (t : TE) : Prop :=
  ∀ (pins : List (Addr × Obj)) (s : Shared) (σ : St) (H : Hp) (Q : VK), Inv X pins σ H s → t σ H Q →
    wpAny (model X.prog X.w) X.A (eval a X.env) (fun v s₁ => wpAny (model X.prog X.w) X.A (eval b X.env) (fun u s₂ => wpAny (model X.prog X.w) X.A (compareOp op v u) (EP X pins σ Q) X.xe s₂) X.xe s₁) X.xe s
theorem nobehind (b : Expr) {op : CmpOp} (h : op ≠ .In) (h2 : op ≠ .NotIn) : behindInMarks op b = false := by
  have e1 : (op == CmpOp.In) = false := by cases op <;> first | rfl | exact absurd rfl h
  have e2 : (op == CmpOp.NotIn) = false := by cases op <;> first | rfl | exact absurd rfl h2
  cases b <;> simp [behindInMarks, e1, e2]
def tIsN (ta : TE) : TE := fun σ H Q => ta σ H fun x H1 => Q (.bl (decide (x = .non))) H1
theorem RelV.none_iff {x : V} {v : Value} (r : RelV x v) : (v == Value.none) = decide (x = .non) := by
  cases x with
  | non => cases r; rfl
  | bl _ => cases r; rfl
  | int _ => obtain ⟨t, rfl⟩ := r; rfl
  | str _ => obtain ⟨t, rfl⟩ := r; rfl
  | byt _ => obtain ⟨t, rfl⟩ := r; rfl
  | flt _ => obtain ⟨t, rfl⟩ := r; rfl
  | ref _ => cases r; rfl
  | ty _ => cases r; rfl
theorem pc_isN {j pos'} (ha : PE X a ta) : PC X .Is a (.Constant .none j pos') (tIsN ta) := by
  intro pins s σ H Q I h
  refine thn (ha pins s σ H _ I h) fun v s1 ⟨x, H1, I1, r1, q1⟩ => ?_
  exact Constant_none (is_none_gen ⟨.bl _, H1, I1, by rw [r1.none_iff]; rfl, q1⟩)
def tB (t : TE) : TT := fun σ H Q => t σ H fun x H1 => ∃ c, x = .bl c ∧ Q c H1
theorem pt_cmp {op : CmpOp} {t : TE} (h : PC X op a b t) (h1 : behindInMarks op b = false := by first | exact nobehind _ (by decide) (by decide) | rfl) : PT X (.Compare a [op] [b] pos) (tB t) := by
  intro pins s σ H Q I hw
  refine wpAny_isTrue_Compare1 (thn (h pins s σ H _ I hw) fun v s1 h1 => thn h1 fun u s2 h2 => thn h2 fun c s3 ⟨x, H1, I1, r1, q1⟩ => ?_) h1
  obtain ⟨d, rfl, q⟩ := q1
  cases r1
  exact wpAny_truthy_bool ⟨H1, I1, q⟩
theorem pt_val {e : Expr} {t : TE} (h : PE X e t) (he : ∀ whole, isTrue e X.env whole = (do let v ← whole; standAt e.pos; holding [v] (truthy v)) := by intro _; rfl) : PT X e (tB t) := by
  intro pins s σ H Q I hw
  refine isTrue_plain (thn (h pins s σ H _ I hw) fun v s1 ⟨x, H1, I1, r1, q1⟩ => ?_) (he _)
  obtain ⟨d, rfl, q⟩ := q1
  cases r1
  exact wpAny_truthy_bool ⟨H1, I1, q⟩

variable {tA tB' : TT} {rest : List Expr}
def tAnd (t u : TT) : TT := fun σ H Q => t σ H fun c H1 => if c = true then u σ H1 Q else Q false H1
def tOr (t u : TT) : TT := fun σ H Q => t σ H fun c H1 => if c = true then Q true H1 else u σ H1 Q
def tNot (t : TT) : TT := fun σ H Q => t σ H fun c H1 => Q (!c) H1
theorem pw_and1 (ha : PT X a tA) : PW X (.BoolOp .And [a] pos) tA := by
  intro wh pins s σ H Q I h
  refine isTrue_and (thn (ha pins s σ H Q I h) fun c s1 e => ?_)
  cases c with
  | true => exact isTrue_and_nil e
  | false => exact e
theorem pw_or1 (ha : PT X a tA) : PW X (.BoolOp .Or [a] pos) tA := by
  intro wh pins s σ H Q I h
  refine isTrue_or (thn (ha pins s σ H Q I h) fun c s1 e => ?_)
  cases c with
  | false => exact isTrue_or_nil e
  | true => exact e
theorem pw_and (ha : PT X a tA) (hb : PW X (.BoolOp .And (b :: rest) pos) tB') : PW X (.BoolOp .And (a :: b :: rest) pos) (tAnd tA tB') := by
  intro wh pins s σ H Q I h
  refine isTrue_and (thn (ha pins s σ H _ I h) fun c s1 ⟨H1, I1, q1⟩ => ?_)
  cases c with
  | true => exact hb wh pins s1 σ H1 Q I1 q1
  | false => exact ⟨H1, I1, q1⟩
theorem pw_or (ha : PT X a tA) (hb : PW X (.BoolOp .Or (b :: rest) pos) tB') : PW X (.BoolOp .Or (a :: b :: rest) pos) (tOr tA tB') := by
  intro wh pins s σ H Q I h
  refine isTrue_or (thn (ha pins s σ H _ I h) fun c s1 ⟨H1, I1, q1⟩ => ?_)
  cases c with
  | true => exact ⟨H1, I1, q1⟩
  | false => exact hb wh pins s1 σ H1 Q I1 q1
theorem pt_not (ha : PT X a tA) : PT X (.UnaryOp .Not a pos) (tNot tA) := by
  intro pins s σ H Q I h
  exact isTrue_not (ha pins s σ H (fun c H1 => Q (!c) H1) I h)
def tAndV (ta tb : TE) : TE := fun σ H Q => ta σ H fun x H1 => ∃ c, x = .bl c ∧ if c = true then tb σ H1 Q else Q (.bl false) H1
def tOrV (ta tb : TE) : TE := fun σ H Q => ta σ H fun x H1 => ∃ c, x = .bl c ∧ if c = true then Q (.bl true) H1 else tb σ H1 Q
def tNotV (ta : TE) : TE := fun σ H Q => ta σ H fun x H1 => ∃ c, x = .bl c ∧ Q (.bl (!c)) H1
theorem pe_one {op} {t : TE} (h : PE X a t) : PE X (.BoolOp op [a] pos) t := fun pins s σ H Q I hw => BoolOp_one (h pins s σ H Q I hw)
theorem pe_and (ha : PE X a ta) (hb : PE X (.BoolOp .And (b :: rest) pos) tb) : PE X (.BoolOp .And (a :: b :: rest) pos) (tAndV ta tb) := by
  intro pins s σ H Q I h
  refine BoolOp_and (thn (ha pins s σ H _ I h) fun v s1 ⟨x, H1, I1, r1, q1⟩ => ?_)
  obtain ⟨c, rfl, q1⟩ := q1
  cases r1
  refine wpAny_truthy_bool ?_
  cases c with
  | true => exact hb pins s1 σ H1 Q I1 q1
  | false => exact ⟨.bl false, H1, I1, rfl, q1⟩
theorem pe_or (ha : PE X a ta) (hb : PE X (.BoolOp .Or (b :: rest) pos) tb) : PE X (.BoolOp .Or (a :: b :: rest) pos) (tOrV ta tb) := by
  intro pins s σ H Q I h
  refine BoolOp_or (thn (ha pins s σ H _ I h) fun v s1 ⟨x, H1, I1, r1, q1⟩ => ?_)
  obtain ⟨c, rfl, q1⟩ := q1
  cases r1
  refine wpAny_truthy_bool ?_
  cases c with
  | false => exact hb pins s1 σ H1 Q I1 q1
  | true => exact ⟨.bl true, H1, I1, rfl, q1⟩
theorem pe_not (ha : PE X a ta) : PE X (.UnaryOp .Not a pos) (tNotV ta) := by
  intro pins s σ H Q I h
  refine UnaryOp_ (thn (ha pins s σ H _ I h) fun v s1 ⟨x, H1, I1, r1, q1⟩ => ?_)
  obtain ⟨c, rfl, q1⟩ := q1
  cases r1
  exact not_of (wpAny_truthy_bool ⟨.bl (!c), H1, I1, rfl, q1⟩)
def tIf (t : TT) (ta tb : TE) : TE := fun σ H Q => t σ H fun c H1 => if c = true then ta σ H1 Q else tb σ H1 Q
theorem pe_ifExp {c : Expr} (hc : PT X c tA) (ha : PE X a ta) (hb : PE X b tb) : PE X (.IfExp c a b pos) (tIf tA ta tb) := by
  intro pins s σ H Q I h
  refine wpAny_IfExp (thn (hc pins s σ H _ I h) fun d s1 ⟨H1, I1, q1⟩ => ?_)
  cases d with
  | true => exact ha pins s1 σ H1 Q I1 q1
  | false => exact hb pins s1 σ H1 Q I1 q1
end
end L2

namespace L2
open PySem PySem.Spec PyProof.Rows

def SqL (K : PySem.W.Frag) (H : Hp) (a : Addr) (xs : List V) : Prop :=
  Rd H a (.lst xs) ∨
    ∃ (o : Obj) (its : Array Value) (n : Nat), K.lookup a = some o ∧ o.cls = .type "list" ∧ o.dict = none ∧ o.data = .seq its n ∧ its.size ≤ sizeLine ∧ Vals xs its.toList
def SqT (K : PySem.W.Frag) (H : Hp) (a : Addr) (xs : List V) : Prop :=
  Rd H a (.tup xs) ∨
    ∃ (o : Obj) (its : Array Value) (n : Nat), K.lookup a = some o ∧ o.cls = .type "tuple" ∧ o.data = .seq its n ∧ its.size ≤ sizeLine ∧ Vals xs its.toList
def absV : Value → Option V
  | .none => some .non
  | .bool b => some (.bl b)
  | .int i _ => some (.int i)
  | .str x _ => some (.str x)
  | .bytes b _ => some (.byt b)
  | .float b _ => some (.flt b)
  | .ref a => some (.ref a)
  | .type n => some (.ty n)
  | _ => none
theorem RelV.abs {x : V} {u : Value} (r : RelV x u) : absV u = some x := by
  cases x with
  | non => cases r; rfl
  | bl _ => cases r; rfl
  | int _ => obtain ⟨t, rfl⟩ := r; rfl
  | str _ => obtain ⟨t, rfl⟩ := r; rfl
  | byt _ => obtain ⟨t, rfl⟩ := r; rfl
  | flt _ => obtain ⟨t, rfl⟩ := r; rfl
  | ref _ => cases r; rfl
  | ty _ => cases r; rfl
theorem RelV.inj {x y : V} {u : Value} (r : RelV x u) (q : RelV y u) : x = y := Option.some.inj (r.abs.symm.trans q.abs)
theorem Vals.inj : ∀ {xs ys : List V} {us : List Value}, Vals xs us → Vals ys us → xs = ys
  | _, _, _, .nil, .nil => rfl
  | _, _, _, .cons r t, .cons r' t' => by rw [r.inj r', Vals.inj t t']
section
variable {X : Cx} {pins : List (Addr × Obj)} {σ : St} {H : Hp} {s : Shared} {a : Addr} {xs ys : List V}
theorem SqL.of {K : PySem.W.Frag} (h : H a = some (.lst xs)) : SqL K H a xs := .inl (.inl h)
theorem SqT.of {K : PySem.W.Frag} (h : H a = some (.tup xs)) : SqT K H a xs := .inl (.inl h)
theorem Inv.list (I : Inv X pins σ H s) (h : SqL X.K H a xs) : ∃ its : List Value, Vals xs its ∧ PlainL s.heap a its.toArray ∧ xs.length ≤ sizeLine := by
  rcases h with h | ⟨o, its, n, hk, hc, hd, hs, hz, r⟩
  · obtain ⟨z, its, n, r, e⟩ := h.ok I.hok
    exact ⟨its, r, ⟨_, n, e, rfl, rfl, rfl⟩, z⟩
  · refine ⟨its.toList, r, ⟨o, n, I.kIn a o hk, hc, hd, by simpa using hs⟩, ?_⟩
    have e := r.length
    simp only [Array.length_toList] at e
    omega
theorem Inv.tuple (I : Inv X pins σ H s) (h : SqT X.K H a xs) : ∃ its : List Value, Vals xs its ∧ IsTup s.heap a its.toArray ∧ xs.length ≤ sizeLine := by
  rcases h with h | ⟨o, its, n, hk, hc, hs, hz, r⟩
  · obtain ⟨z, its, r, p⟩ := h.ok I.hok
    exact ⟨its, r, p, z⟩
  · refine ⟨its.toList, r, ⟨o, I.kIn a o hk, hc, n, by simpa using hs⟩, ?_⟩
    have e := r.length
    simp only [Array.length_toList] at e
    omega
theorem Inv.list_inj (I : Inv X pins σ H s) (h : SqL X.K H a xs) (h' : SqL X.K H a ys) : xs = ys := by
  obtain ⟨its, r, ⟨o, n, e, _, _, d⟩, _⟩ := I.list h
  obtain ⟨its', r', ⟨o', n', e', _, _, d'⟩, _⟩ := I.list h'
  rw [e] at e'; cases e'
  rw [d] at d'
  injection d' with d1 _
  have : its = its' := by simpa using congrArg Array.toList d1
  subst this
  exact r.inj r'
end

abbrev Cx.wish (X : Cx) (E : Value → Shared → Prop) : Cx := { X with xe := E }
abbrev Cx.nox (X : Cx) : Cx := X.wish fun _ _ => False
theorem Cx.Ok.wish {X : Cx} (ok : X.Ok) (E : Value → Shared → Prop) : (X.wish E).Ok :=
  ⟨ok.mod, ok.kind, ok.glob, ok.blt, ok.above, ok.inj, ok.has, ok.cab, ok.hd, ok.frames, ok.stk, ok.exf, ok.bs, ok.bsz, ok.noex, ok.exfs, ok.funs, ok.frf⟩
theorem Cx.Ok.unwish {X : Cx} {E : Value → Shared → Prop} (ok : (X.wish E).Ok) : X.Ok :=
  ⟨ok.mod, ok.kind, ok.glob, ok.blt, ok.above, ok.inj, ok.has, ok.cab, ok.hd, ok.frames, ok.stk, ok.exf, ok.bs, ok.bsz, ok.noex, ok.exfs, ok.funs, ok.frf⟩
section
variable {X : Cx} {pins : List (Addr × Obj)} {σ : St} {H : Hp} {s : Shared} {E : Value → Shared → Prop}
theorem Inv.wish (I : Inv X pins σ H s) (E : Value → Shared → Prop) : Inv (X.wish E) pins σ H s := ⟨I.ok.wish E, I.os, I.bare, I.base, I.loc, I.cell, I.free, I.freeC, I.pin, I.hok, I.len⟩
theorem Inv.unwish (I : Inv (X.wish E) pins σ H s) : Inv X pins σ H s := ⟨I.ok.unwish, I.os, I.bare, I.base, I.loc, I.cell, I.free, I.freeC, I.pin, I.hok, I.len⟩
theorem SP.unwish {D : Ends} {f : Flow} {s' : Shared} (h : SP (X.wish E) pins D f s') : SP X pins D f s' := by
  cases f with
  | next => obtain ⟨σ', H', I, q⟩ := h; exact ⟨σ', H', I.unwish, q⟩
  | brk => obtain ⟨σ', H', I, q⟩ := h; exact ⟨σ', H', I.unwish, q⟩
  | cont => obtain ⟨σ', H', I, q⟩ := h; exact ⟨σ', H', I.unwish, q⟩
  | ret u => obtain ⟨v, σ', H', I, r, q⟩ := h; exact ⟨v, σ', H', I.unwish, r, q⟩
theorem PSs.nox {st : List Stmt} {t : TS} (h : PSs X.nox st t) : PSs X st t := fun pins s σ H D I hw =>
  wpAny_mono (h pins s σ H D (I.wish _) hw) (fun _ _ q => q.unwish) fun _ _ z => False.elim z
end

section
variable {X : Cx} {st : Stmt} {rest : List Stmt} {t u : TS} {e : Expr} {te : TE} {pos : Pos}
def tNext : TS := fun D σ H => D.nx σ H
def tSeq (t u : TS) : TS := fun D σ H => t { D with nx := u D } σ H
theorem pss_nil : PSs X [] tNext := fun _ _ σ H _ I h => wpAny_execs_nil ⟨σ, H, I, h⟩
theorem pss_cons (h1 : PS X st t) (h2 : PSs X rest u) : PSs X (st :: rest) (tSeq t u) := by
  intro pins s σ H D I h
  refine wpAny_execs_cons (thn (h1 pins s σ H { D with nx := u D } I h) fun f s1 q => ?_)
  cases f with
  | next =>
    obtain ⟨σ', H', I', q⟩ := q
    exact h2 pins s1 σ' H' D I' q
  | ret v => exact q
  | brk => exact q
  | cont => exact q
theorem pss_one (h1 : PS X st t) : PSs X [st] t := by
  intro pins s σ H D I h
  refine wpAny_execs_cons (thn (h1 pins s σ H D I h) fun f s1 q => ?_)
  cases f with
  | next => exact wpAny_execs_nil q
  | ret v => exact q
  | brk => exact q
  | cont => exact q
theorem Inv.quiet {pins : List (Addr × Obj)} {σ : St} {H : Hp} {s : Shared} (I : Inv X pins σ H s) : interactive X.env = false := by simp [interactive, I.ok.kind]
def tDrop (te : TE) : TS := fun D σ H => te σ H fun _ H1 => D.nx σ H1
theorem ps_expr (he : PE X e te) (hs : swapsWith e none pos.line X.env = pure false := by rfl) : PS X (.Expr e pos) (tDrop te) := by
  intro pins s σ H D I h
  exact wpAny_Expr_any (thn (he pins s σ H _ I h) fun v s1 ⟨x, H1, I1, r1, q1⟩ => ⟨σ, H1, I1, q1⟩) I.quiet hs
def tRet (te : TE) : TS := fun D σ H => te σ H D.rt
theorem ps_ret (he : PE X e te) : PS X (.Return (some e) pos) (tRet te) := by
  intro pins s σ H D I h
  exact wpAny_Return_some (thn (he pins s σ H _ I h) fun v s1 ⟨x, H1, I1, r1, q1⟩ => ⟨x, σ, H1, I1, r1, q1⟩)
def tIfS (c : TT) (t u : TS) : TS := fun D σ H => c σ H fun b H1 => if b = true then t D σ H1 else u D σ H1
theorem ps_if {c : Expr} {a b : List Stmt} {tc : TT} (hc : PT X c tc) (ha : PSs X a t) (hb : PSs X b u) : PS X (.If c a b pos) (tIfS tc t u) := by
  intro pins s σ H D I h
  refine wpAny_If (thn (hc pins s σ H _ I h) fun d s1 ⟨H1, I1, q1⟩ => ?_)
  cases d with
  | true => exact ha pins s1 σ H1 D I1 q1
  | false => exact hb pins s1 σ H1 D I1 q1
def tNever : TS := fun _ _ _ => False
theorem ps_never : PS X st tNever := fun _ _ _ _ _ _ h => h.elim
end

abbrev TG := V → St → Hp → (St → Hp → Prop) → Prop
abbrev TGs := List V → St → Hp → (St → Hp → Prop) → Prop
def PG (X : Cx) (target : Expr) (t : TG) : Prop :=
  ∀ (pins : List (Addr × Obj)) (s : Shared) (σ : St) (H : Hp) (v : V) (u : Value) (Q : St → Hp → Prop), Inv X pins σ H s → RelV v u → t v σ H Q →
    wpAny (model X.prog X.w) X.A (assign target X.env u) (fun _ s' => ∃ σ' H', Inv X pins σ' H' s' ∧ Q σ' H') X.xe s
def PGs (X : Cx) (ts : List Expr) (t : TGs) : Prop :=
  ∀ (pins : List (Addr × Obj)) (s : Shared) (σ : St) (H : Hp) (vs : List V) (us : List Value) (Q : St → Hp → Prop), Inv X pins σ H s → Vals vs us → t vs σ H Q →
    wpAny (model X.prog X.w) X.A (assignInOrder ((assignEach ts X.env).map (·.2)) us) (fun _ s' => ∃ σ' H', Inv X pins σ' H' s' ∧ Q σ' H') X.xe s
abbrev TSet := V → V → V → Hp → (Hp → Prop) → Prop
abbrev TIp := V → V → Hp → VK → Prop
section
variable {X : Cx} {pos : Pos}
def gName (i : Nat) : TG := fun v σ H Q => Q (σ.set i (some v)) H
theorem pg_name {i : Nat} {x : Str} (hN : X.N.Nodup) (hi : X.N[i]? = some x) (hx : Loc X.env.scope x) (hf : X.fn x = true ∨ X.env.scope.names.lookup x = some .local := by first | exact .inl rfl | exact .inr rfl | assumption) : PG X (.Name x pos) (gName i) := by
  intro pins s σ H v u Q I r h
  exact wpAny_assign_Name (store_ok I hN hi hx r (fun s' I' => ⟨_, H, I', h⟩) hf)
def gNil : TGs := fun vs σ H Q => vs = [] ∧ Q σ H
def gCons (t : TG) (u : TGs) : TGs := fun vs σ H Q => ∃ v r, vs = v :: r ∧ t v σ H fun σ' H' => u r σ' H' Q
theorem pgs_nil : PGs X [] gNil := by
  intro pins s σ H vs us Q I r h
  obtain ⟨e, h⟩ := h
  subst e
  cases r
  exact assignInOrder_nil ⟨σ, H, I, h⟩
theorem pgs_cons {e : Expr} {es : List Expr} {t : TG} {u : TGs} (h1 : PG X e t) (h2 : PGs X es u)
    (hs : (assignEach (e :: es) X.env).map (·.2) = assign e X.env :: (assignEach es X.env).map (·.2) := by rfl) : PGs X (e :: es) (gCons t u) := by
  intro pins s σ H vs us Q I r h
  obtain ⟨v, vr, e1, h⟩ := h
  subst e1
  cases r with
  | cons r rr =>
    rw [hs]
    refine assignInOrder_cons (thn (h1 pins s σ H _ _ _ I r h) fun _ s1 ⟨σ1, H1, I1, q1⟩ => ?_)
    exact h2 pins s1 σ1 H1 _ _ Q I1 rr q1
def gTup (K : PySem.W.Frag) (n : Nat) (t : TGs) : TG := fun v σ H Q => ∃ a xs, v = .ref a ∧ SqT K H a xs ∧ xs.length = n ∧ t xs σ H Q
theorem pg_tup {es : List Expr} {k : Nat} {t : TGs} {n : Nat} (hc : X.calm = true) (h : PGs X es t)
    (hn : (assignEach es X.env).length = n := by rfl) (hst : (assignEach es X.env).findIdx? (·.1) = none := by rfl) : PG X (.Tuple es k pos) (gTup X.K n t) := by
  intro pins s σ H v u Q I r hw
  obtain ⟨a, xs, e1, hq, hl, hw⟩ := hw
  subst e1
  cases r
  obtain ⟨its, rv, ht, hz⟩ := I.tuple hq
  refine assign_Tuple_tuple (I.ok.hd hc) ht (by simp [hn, ← hl, rv.length]) hst fun h' hx => ?_
  have I1 : Inv X pins σ H { s with heap := h' } := I.kept (t' := s.toks) fun b o e => hx b o (Nat.ne_of_lt (Heap.lt_size e)) e
  exact h pins _ σ H xs _ Q I1 (by simpa using rv) hw
def tAsg (te : TE) (g : TG) : TS := fun D σ H => te σ H fun x H1 => g x σ H1 D.nx
theorem ps_asg {tg e : Expr} {te : TE} {g : TG} (he : PE X e te) (hg : PG X tg g) (hs : swapsWithSole [tg] e pos.line X.env = pure false := by rfl) (hw : swappedStores [tg] e X.env = pure none := by rfl)
    (h1 : (assignEach [tg] X.env).map (·.2) = [assign tg X.env] := by rfl) : PS X (.Assign [tg] e pos) (tAsg te g) := by
  intro pins s σ H D I h
  refine wpAny_Assign_stores (thn (he pins s σ H _ I h) fun v s1 ⟨x, H1, I1, r1, q1⟩ => ?_) hs hw
  rw [h1]
  exact thn (hg pins s1 σ H1 x v _ I1 r1 q1) fun _ s2 q => q
theorem ps_set {i : Nat} {x : Str} {e : Expr} {te : TE} {pos' : Pos} (hN : X.N.Nodup) (hi : X.N[i]? = some x) (hx : Loc X.env.scope x) (he : PE X e te) (hs : swapsWith e (some (.Name x pos')) pos.line X.env = pure false := by rfl) (hf : X.fn x = true ∨ X.env.scope.names.lookup x = some .local := by first | exact .inl rfl | exact .inr rfl | assumption) :
    PS X (.Assign [.Name x pos'] e pos) (tAsg te (gName i)) := by
  intro pins s σ H D I h
  refine wpAny_Assign_Name (thn (he pins s σ H _ I h) fun v s1 ⟨y, H1, I1, r1, q1⟩ => ?_) hs
  exact store_ok I1 hN hi hx r1 (fun s2 I2 => ⟨_, H1, I2, q1⟩) hf
def tPar (i j : Nat) (ta : TA) : TS := fun D σ H => ta σ H fun vs H1 => ∃ v w, vs = [v, w] ∧ D.nx ((σ.set i (some v)).set j (some w)) H1
theorem ps_par {i j : Nat} {x y : Str} {a b : Expr} {ta : TA} {px py pt : Pos} {kt k2 pt2} (hc : X.calm = true) (hN : X.N.Nodup) (hi : X.N[i]? = some x) (hj : X.N[j]? = some y) (hij : i ≠ j)
    (hx : X.env.scope.names.lookup x = some .local) (hy : X.env.scope.names.lookup y = some .local) (ha : PA X [a, b] ta)
    (hw : swappedStores [.Tuple [.Name x px, .Name y py] kt pt] (.Tuple [a, b] k2 pt2) X.env = pure (some [x, y]))
    (hs : swapsWithSole [.Tuple [.Name x px, .Name y py] kt pt] (.Tuple [a, b] k2 pt2) pos.line X.env = pure false := by rfl) :
    PS X (.Assign [.Tuple [.Name x px, .Name y py] kt pt] (.Tuple [a, b] k2 pt2) pos) (tPar i j ta) := by
  intro pins s σ H D I h
  rw [exec_Assign_arm]
  refine wpAny_bind (wpAny_standAt ?_)
  rw [hs]
  refine wpAny_bind (wpAny_pure ?_)
  rw [if_neg (by decide)]
  refine wpAny_bind (Tuple_ (thn (ha _ pins s σ H _ I h) fun us s1 ⟨vs, H1, I1, r1, q1⟩ => ?_))
  obtain ⟨v, w, e1, q1⟩ := q1
  subst e1
  obtain ⟨u1, u2, rfl, rv, rw'⟩ : ∃ u1 u2, us = [u1, u2] ∧ RelV v u1 ∧ RelV w u2 := by
    cases r1 with
    | cons p q =>
      cases q with
      | cons p' q' =>
        cases q'
        exact ⟨_, _, rfl, p, p'⟩
  refine wpAny_newObj_type ?_ (by show 2 ≤ sizeLine; decide)
  have I2 : Inv X pins σ H1 { s1 with heap := s1.heap.push { cls := .type "tuple", data := .seq [u1, u2].toArray } } := I1.kept (t' := s1.toks) fun b o e => Heap.get?_push_of_some _ e
  rw [hw]
  refine wpAny_bind (wpAny_pure ?_)
  show wpAny (model X.prog X.w) X.A (do rule "assign.swapped-stores"; let items ← unpackItems (.ref s1.heap.objs.size) 2 none; assignInOrder [fun v => bindName X.env y v, fun v => bindName X.env x v] items.reverse; pure Flow.next) _ _ _
  refine wpAny_bind (wpAny_rule (wpAny_bind (unpackItems_tuple (items := #[u1, u2]) (I.ok.hd hc) (IsTup.new s1.heap _) fun h' hx' => ?_)))
  have I3 := I2.kept (h' := h') (t' := s1.toks) fun b o e => hx' b o (Nat.ne_of_lt (Heap.lt_size e)) e
  show wpAny _ _ (assignInOrder [fun v => bindName X.env y v, fun v => bindName X.env x v] [u2, u1] >>= fun _ => pure Flow.next) _ _ _
  refine wpAny_bind (assignInOrder_cons (wpAny_bindName (store_ok I3 hN hj (.inl hy) rw' (fun s2 I4 => ?_) (.inr hy))))
  refine assignInOrder_cons (wpAny_bindName (store_ok I4 hN hi (.inl hx) rv (fun s3 I5 => assignInOrder_nil (wpAny_pure ?_)) (.inr hx)))
  rw [List.set_comm _ _ (Ne.symm hij)] at I5
  exact ⟨_, H1, I5, q1⟩
end

section
variable {X : Cx} {pos : Pos}
def tWhile (c : TT) (tb : TS) : TS := fun D σ H => ∃ W : Nat → St → Hp → Prop, (∃ m, W m σ H) ∧ ∀ m σ H, W m σ H →
  c σ H fun b H1 => if b = true then ∃ N : St → Hp → Prop, (∀ σ' H', N σ' H' → ∃ m', m' < m ∧ W m' σ' H') ∧ tb { D with nx := N, ct := N, bk := D.nx } σ H1 else D.nx σ H1
theorem ps_while {c : Expr} {body : List Stmt} {tc : TT} {tb : TS} (hp : PassesOwn (model X.prog X.w) X.A X.env X.xe) (hc : PT X c tc) (hb : PSs X body tb) : PS X (.While c body [] pos) (tWhile tc tb) := by
  intro pins s σ H D I h
  obtain ⟨W, ⟨m0, w0⟩, turn⟩ := h
  refine wpAny_While (codeAny_whileLoop (fun n s' => ∃ σ' H', Inv X pins σ' H' s' ∧ W n σ' H') ?_ m0 ⟨σ, H, I, w0⟩)
  rintro n s1 ⟨σ1, H1, I1, w1⟩
  refine wpAny_passesOwn hp (thn (hc pins s1 σ1 H1 _ I1 (turn n σ1 H1 w1)) fun b s2 ⟨H2, I2, q2⟩ => ?_)
  cases b with
  | true =>
    obtain ⟨N, hN, q2⟩ := q2
    rw [if_pos rfl]
    refine wpAny_passesOwn hp (thn (hb pins s2 σ1 H2 _ I2 q2) fun f s3 q3 => ?_)
    cases f with
    | next =>
      obtain ⟨σ3, H3, I3, n3⟩ := q3
      obtain ⟨m', hm, w3⟩ := hN σ3 H3 n3
      exact ⟨m', hm, σ3, H3, I3, w3⟩
    | cont =>
      obtain ⟨σ3, H3, I3, n3⟩ := q3
      obtain ⟨m', hm, w3⟩ := hN σ3 H3 n3
      exact ⟨m', hm, σ3, H3, I3, w3⟩
    | brk => exact q3
    | ret v => exact q3
  | false =>
    rw [if_neg Bool.false_ne_true]
    exact wpAny_execs_nil ⟨σ1, H2, I2, q2⟩
end

structure It where
  go : Nat → Hp → Prop
  yld : Nat → Hp → V → Hp → Prop
  stop : Nat → Hp → Prop
def FpOk (X : Cx) (pins : List (Addr × Obj)) (H : Hp) (b : Addr) : Prop :=
  H b = none ∧ b ≠ X.env.locals ∧ b ∉ X.fs ∧ (b ∈ X.ex ∨ X.s₀.heap.objs.size ≤ b) ∧ (∀ x c, X.env.cells.lookup x = some c → c ≠ b) ∧ ∀ p ∈ X.pn ++ pins, p.1 ≠ b
theorem Inv.fpOk {X : Cx} {pins : List (Addr × Obj)} {σ : St} {H H' : Hp} {s : Shared} {b : Addr} (I : Inv X pins σ H s) (hb : s.heap.objs.size ≤ b) (hn : H' b = none) : FpOk X pins H' b := by
  refine ⟨hn, Nat.ne_of_gt (Nat.lt_of_lt_of_le I.lt hb), I.nofs hb, .inr (Nat.le_trans I.sz hb), fun x c e z => ?_, fun p hp z => ?_⟩
  · obtain ⟨v, q⟩ := I.cell x c e
    exact absurd (Nat.lt_of_lt_of_le q.lt (by rw [z]; exact hb)) (Nat.lt_irrefl _)
  · exact absurd (Nat.lt_of_lt_of_le (Heap.lt_size (I.pin p hp).1) (by rw [z]; exact hb)) (Nat.lt_irrefl _)
structure Turn (P : Program) (w : World) (K : PySem.W.Frag) (tg : Expr) (J : It) (fp : List Addr) (it : Addr) (tn : Nat → Heap → Prop) : Prop where
  mem : it ∈ fp
  obj : ∀ i h, tn i h → ∀ b ∈ fp, ∃ o, h.get? b = some o ∧ ∀ v, o.data ≠ .cell v
  keep : ∀ i h h', tn i h → (∀ b ∈ fp, ∀ o, h.get? b = some o → h'.get? b = some o) → tn i h'
  item : ∀ (X : Cx), X.prog = P → X.w = w → X.K = K → X.calm = true → ∀ (i : Nat) (pins : List (Addr × Obj)) (s : Shared) (σ : St) (H : Hp) (E : Value → Shared → Prop), Inv X pins σ H s → (∀ b ∈ fp, FpOk X pins H b) → tn i s.heap → J.go i H →
    wpAny (model P w) X.A (pyNext (.ref it)) (fun r s1 => ∃ u, r = some u ∧
      wpAny (model P w) X.A (letOwnedTupleGo tg (.ref it) u) (fun _ s2 => ∃ x H', Inv X pins σ H' s2 ∧ RelV x u ∧ J.yld i H x H' ∧ tn (i + 1) s2.heap ∧ ∀ b ∈ fp, H' b = none) E s1) E s
  done : ∀ (X : Cx), X.prog = P → X.w = w → X.K = K → X.calm = true → ∀ (i : Nat) (pins : List (Addr × Obj)) (s : Shared) (σ : St) (H : Hp) (E : Value → Shared → Prop), Inv X pins σ H s → (∀ b ∈ fp, FpOk X pins H b) → tn i s.heap → J.stop i H →
    wpAny (model P w) X.A (pyNext (.ref it)) (fun r s1 => r = none ∧ Inv X pins σ H s1) E s
  self : ∀ (A : Around) (i : Nat) (s : Shared) (Q : Value → Shared → Prop) (E : Value → Shared → Prop), tn i s.heap → Q (.ref it) s → wpAny (model P w) A (pyIter (.ref it)) Q E s
abbrev TI := St → Hp → (It → Hp → Prop) → Prop
def PIE (X : Cx) (pins : List (Addr × Obj)) (σ : St) (tg : Expr) (R : It → Hp → Prop) (itv : Value) (s2 : Shared) : Prop :=
  ∃ (it : Addr) (fp : List Addr) (tn : Nat → Heap → Prop) (J : It) (H' : Hp), itv = .ref it ∧ Inv X pins σ H' s2 ∧ Turn X.prog X.w X.K tg J fp it tn ∧ tn 0 s2.heap ∧ (∀ b ∈ fp, FpOk X pins H' b) ∧ R J H'
def PI (X : Cx) (tg iter : Expr) (wi : TI) : Prop :=
  ∀ (pins : List (Addr × Obj)) (s : Shared) (σ : St) (H : Hp) (R : It → Hp → Prop), Inv X pins σ H s → wi σ H R →
    wpAny (model X.prog X.w) X.A (eval iter X.env) (fun v s1 => wpAny (model X.prog X.w) X.A (pyIter v) (PIE X pins σ tg R) X.xe s1) X.xe s

theorem go_of {M : Model} {A : Around} {E : Value → Shared → Prop} {s : Shared} {tg : Expr} {it : Addr} {u : Value} {o : Obj} {n : String} {vs : Array Value} {Q : Unit → Shared → Prop} (ho : s.heap.get? it = some o) (hc : o.cls = .type n) (hd : o.data = .fields vs)
    (hn : ["enumerate", "zip", "dict_itemiterator", "dict_reverseitemiterator", "odict_iterator", "itertools.zip_longest", "itertools.pairwise"].contains n = false) (hQ : Q () s) : wpAny M A (letOwnedTupleGo tg (.ref it) u) Q E s := by
  unfold letOwnedTupleGo
  cases tg <;> first
    | exact wpAny_pure hQ
    | (cases u <;> first
        | exact wpAny_pure hQ
        | (refine wpAny_bind (wpAny_load ho ?_)
           rw [hc, hd]
           show wpAny M A (if (["enumerate", "zip", "dict_itemiterator", "dict_reverseitemiterator", "odict_iterator", "itertools.zip_longest", "itertools.pairwise"].contains n && vs[0]? == some (rawInt _)) = true then _ else _) Q E s
           rw [if_neg (by intro h; rw [hn, Bool.false_and] at h; cases h)]
           exact wpAny_pure hQ))

def Itl (K : PySem.W.Frag) (a : Addr) : It :=
  ⟨fun i H => ∃ xs x, SqL K H a xs ∧ xs[i]? = some x, fun i H x H' => H' = H ∧ ∀ xs, SqL K H a xs → xs[i]? = some x, fun i H => ∃ xs, SqL K H a xs ∧ xs.length ≤ i⟩
theorem turn_list {P : Program} {w : World} {K : PySem.W.Frag} {tg : Expr} (a it : Addr) : Turn P w K tg (Itl K a) [it] it (fun i h => h.IsListIter it a i) where
  mem := by simp
  obj := fun i h st b hb => by
    have e : b = it := by simpa using hb
    subst e
    obtain ⟨o, e, c, d⟩ := st
    exact ⟨o, e, fun v z => by rw [d] at z; cases z⟩
  keep := fun i h h' st k => st.at fun o e => k it (by simp) o e
  item := by
    intro X hP hw hK hc i pins s σ H E I hf st hg
    subst hP hw hK
    obtain ⟨xs, x, hq, hx⟩ := hg
    obtain ⟨its, rv, p, hz⟩ := I.list hq
    obtain ⟨u, hu, ru⟩ := rv.get hx
    obtain ⟨f0, f1, f2, f3, f4, f5⟩ := hf it (by simp)
    refine wpAny_pyNext_list_item st p.isList (x := u) (by simpa using hu) fun h' st' sb => ?_
    have I1 : Inv X pins σ H { s with heap := h' } := I.turned (t' := s.toks) (fun b o hb e => (sb.2 b hb).trans e) f0 f1 f3 f4 f5
    obtain ⟨o, e, c, d⟩ := id st'
    exact ⟨u, rfl, go_of (s := { s with heap := h' }) e c d (by decide) ⟨x, H, I1, ru, ⟨rfl, fun ys hy => by rw [I.list_inj hy hq]; exact hx⟩, st', fun b hb => (hf b hb).1⟩⟩
  done := by
    intro X hP hw hK hc i pins s σ H E I hf st hg
    subst hP hw hK
    obtain ⟨xs, hq, hx⟩ := hg
    obtain ⟨its, rv, p, hz⟩ := I.list hq
    obtain ⟨f0, f1, f2, f3, f4, f5⟩ := hf it (by simp)
    have hl := rv.length
    exact wpAny_pyNext_list_end (I.ok.hd hc) st p.isList (by simp; omega) fun h' eb => ⟨rfl, I.turned (t' := s.toks) (fun b o hb e => eb b o hb e) f0 f1 f3 f4 f5⟩
  self := fun _ _ _ _ _ st h => wpAny_pyIter_listiter st h
end L2

namespace L2
open PySem PySem.Spec PyProof.Rows
section
variable {X : Cx} {tg : Expr}
def iList (K : PySem.W.Frag) (tl : TE) : TI := fun σ H R => tl σ H fun x H1 => ∃ a, x = .ref a ∧ (∃ xs, SqL K H1 a xs) ∧ R (Itl K a) H1
theorem pi_list {l : Expr} {tl : TE} (hl : PE X l tl) : PI X tg l (iList X.K tl) := by
  intro pins s σ H R I h
  refine thn (hl pins s σ H _ I h) fun v s1 ⟨x, H1, I1, r1, q1⟩ => ?_
  obtain ⟨a, e, ⟨xs, hq⟩, q⟩ := q1
  subst e
  cases r1
  obtain ⟨its, rv, p, hz⟩ := I1.list hq
  refine wpAny_pyIter_list p.isList ?_
  refine ⟨s1.heap.objs.size, [s1.heap.objs.size], _, _, H1, rfl, I1.kept (t' := s1.toks) fun b o e => Heap.get?_push_of_some _ e, turn_list a _, ⟨_, Heap.get?_push_size _ rfl, rfl, rfl⟩, fun b hb => ?_, q⟩
  have e : b = s1.heap.objs.size := by simpa using hb
  subst e
  exact I1.fpOk (Nat.le_refl _) (I1.hok.fresh (Nat.le_refl _))
def tFor (wi : TI) (g : TG) (tb : TS) : TS := fun D σ H => wi σ H fun J H1 => ∃ W : Nat → Nat → St → Hp → Prop, (∃ m, W 0 m σ H1) ∧ ∀ i m σ H, W i m σ H →
  (J.stop i H ∧ D.nx σ H) ∨ (J.go i H ∧ ∃ N : St → Hp → Prop, (∀ σ' H', N σ' H' → ∃ m', m' < m ∧ W (i + 1) m' σ' H') ∧ ∀ x H', J.yld i H x H' → g x σ H' fun σ2 H2 => tb { D with nx := N, ct := N, bk := D.nx } σ2 H2)
def pinsAt (fp : List Addr) (h : Heap) : List (Addr × Obj) := fp.filterMap fun b => (h.get? b).map fun o => (b, o)
theorem mem_pinsAt {fp : List Addr} {h : Heap} {b : Addr} {o : Obj} (hb : b ∈ fp) (e : h.get? b = some o) : (b, o) ∈ pinsAt fp h := List.mem_filterMap.mpr ⟨b, hb, by rw [e]; rfl⟩
theorem of_pinsAt {fp : List Addr} {h : Heap} {p : Addr × Obj} (hp : p ∈ pinsAt fp h) : p.1 ∈ fp ∧ h.get? p.1 = some p.2 := by
  obtain ⟨b, hb, e⟩ := List.mem_filterMap.mp hp
  cases q : h.get? b with
  | none => rw [q] at e; cases e
  | some o =>
    rw [q] at e
    have e' : (b, o) = p := Option.some.inj e
    subst e'
    exact ⟨hb, q⟩
theorem Inv.pinned {pins : List (Addr × Obj)} {σ : St} {H : Hp} {s : Shared} {fp : List Addr} (I : Inv X pins σ H s) (hf : ∀ b ∈ fp, FpOk X pins H b) (ho : ∀ b ∈ fp, ∃ o, s.heap.get? b = some o ∧ ∀ v, o.data ≠ .cell v) : Inv X (pins ++ pinsAt fp s.heap) σ H s :=
  I.pins_of fun p hp => (List.mem_append.mp hp).elim (fun z => I.pin p (List.mem_append_right _ z)) fun z => by
    obtain ⟨hb, e⟩ := of_pinsAt z
    obtain ⟨f0, f1, f2, _⟩ := hf p.1 hb
    obtain ⟨o, e', d⟩ := ho p.1 hb
    rw [e] at e'; cases e'
    exact ⟨e, f0, f1, f2, d⟩
theorem Inv.unpinned {pins pl : List (Addr × Obj)} {σ : St} {H : Hp} {s : Shared} (I : Inv X (pins ++ pl) σ H s) : Inv X pins σ H s := I.pins_of fun p hp => I.pin p (List.mem_append_right _ (List.mem_append_left _ hp))
theorem ps_for {iter : Expr} {body : List Stmt} {wi : TI} {g : TG} {tb : TS} {pos : Pos} (hp : PassesOwn (model X.prog X.w) X.A X.env X.xe) (hc : X.calm = true) (hi : PI X tg iter wi) (hg : PG X tg g) (hb : PSs X body tb)
    (hs : ∀ x, foldedSetIterable iter X.env x = pure x := by intro _; rfl) : PS X (.For tg iter body [] pos) (tFor wi g tb) := by
  intro pins s σ H D I h
  refine wpAny_For (thn (hi pins s σ H _ I h) fun v s1 h1 => thn h1 fun itv s2 h2 => ?_) hs
  obtain ⟨it, fp, tn, J, H2, e, I2, T, st2, f2, W, ⟨m0, w0⟩, turn⟩ := h2
  subst e
  -- what stays true of the iterator's objects through the loop
  have stat : ∀ {H' : Hp}, (∀ b ∈ fp, H' b = none) → ∀ b ∈ fp, FpOk X pins H' b := fun hn b hb => ⟨hn b hb, (f2 b hb).2⟩
  refine codeAny_forLoop_any (fun n s' => ∃ i σ' H', Inv X pins σ' H' s' ∧ tn i s'.heap ∧ (∀ b ∈ fp, H' b = none) ∧ W i n σ' H') ?_ m0 ⟨0, σ, H2, I2, st2, fun b hb => (f2 b hb).1, w0⟩
  rintro n s3 ⟨i, σ3, H3, I3, st3, fr3, w3⟩
  rcases turn i n σ3 H3 w3 with ⟨stop, qn⟩ | ⟨go, N, hN, step⟩
  · refine wpAny_passesOwn hp (thn (T.done X rfl rfl rfl hc i pins s3 σ3 H3 X.xe I3 (stat fr3) st3 stop) fun r s4 ⟨hr, I4⟩ => ?_)
    subst hr
    exact wpAny_execs_nil ⟨σ3, H3, I4, qn⟩
  · refine wpAny_passesOwn hp (thn (T.item X rfl rfl rfl hc i pins s3 σ3 H3 X.xe I3 (stat fr3) st3 go) fun r s4 ⟨u, hr, h4⟩ => ?_)
    subst hr
    refine wpAny_passesOwn hp (thn h4 fun _ s5 ⟨x, H5, I5, r5, y5, st5, fr5⟩ => ?_)
    have I5' := I5.pinned (stat fr5) (T.obj _ _ st5)
    refine wpAny_passesOwn hp (thn (hg _ s5 σ3 H5 x u _ I5' r5 (step x H5 y5)) fun _ s6 ⟨σ6, H6, I6, q6⟩ => ?_)
    refine wpAny_passesOwn hp (thn (hb _ s6 σ6 H6 _ I6 q6) fun f s7 q7 => ?_)
    have again : ∀ {σ7 : St} {H7 : Hp}, Inv X (pins ++ pinsAt fp s5.heap) σ7 H7 s7 → N σ7 H7 → ∃ m, m < n ∧ ∃ i σ' H', Inv X pins σ' H' s7 ∧ tn i s7.heap ∧ (∀ b ∈ fp, H' b = none) ∧ W i m σ' H' := fun {σ7 H7} I7 n7 => by
      obtain ⟨m', hm, w7⟩ := hN σ7 H7 n7
      refine ⟨m', hm, i + 1, σ7, H7, I7.unpinned, T.keep _ _ _ st5 fun b hb o e => (I7.pin (b, o) (List.mem_append_right _ (List.mem_append_right _ (mem_pinsAt hb e)))).1, fun b hb => ?_, w7⟩
      obtain ⟨o, e, d⟩ := T.obj _ _ st5 b hb
      exact (I7.pin (b, o) (List.mem_append_right _ (List.mem_append_right _ (mem_pinsAt hb e)))).2.1
    cases f with
    | next => obtain ⟨σ7, H7, I7, n7⟩ := q7; exact again I7 n7
    | cont => obtain ⟨σ7, H7, I7, n7⟩ := q7; exact again I7 n7
    | brk => obtain ⟨σ7, H7, I7, q7⟩ := q7; exact ⟨σ7, H7, I7.unpinned, q7⟩
    | ret v => obtain ⟨x7, σ7, H7, I7, r7, q7⟩ := q7; exact ⟨x7, σ7, H7, I7.unpinned, r7, q7⟩
end

theorem for_list {K : PySem.W.Frag} {a : Addr} {xs : List V} {g : TG} {tb : TS} {D : Ends} {σ : St} {H : Hp} (Pv : Nat → St → Hp → Prop) (h0 : Pv 0 σ H) (hl : ∀ i σ H, i ≤ xs.length → Pv i σ H → SqL K H a xs)
    (hs : ∀ i x σ H, xs[i]? = some x → Pv i σ H → g x σ H fun σ2 H2 => tb { D with nx := Pv (i + 1), ct := Pv (i + 1), bk := D.nx } σ2 H2) (hd : ∀ σ H, Pv xs.length σ H → D.nx σ H) :
    ∃ W : Nat → Nat → St → Hp → Prop, (∃ m, W 0 m σ H) ∧ ∀ i m σ H, W i m σ H →
      ((Itl K a).stop i H ∧ D.nx σ H) ∨ ((Itl K a).go i H ∧ ∃ N : St → Hp → Prop, (∀ σ' H', N σ' H' → ∃ m', m' < m ∧ W (i + 1) m' σ' H') ∧ ∀ x H', (Itl K a).yld i H x H' → g x σ H' fun σ2 H2 => tb { D with nx := N, ct := N, bk := D.nx } σ2 H2) := by
  refine ⟨fun i m σ H => m = xs.length - i ∧ i ≤ xs.length ∧ Pv i σ H, ⟨xs.length, by simp, Nat.zero_le _, h0⟩, ?_⟩
  rintro i m σ H ⟨rfl, hi, p⟩
  have q := hl i σ H hi p
  by_cases hlt : i < xs.length
  · refine .inr ⟨⟨xs, xs[i], q, by simp [hlt]⟩, Pv (i + 1), fun σ' H' p' => ⟨xs.length - (i + 1), by omega, rfl, hlt, p'⟩, fun x H' y => ?_⟩
    obtain ⟨e, y⟩ := y
    subst e
    exact hs i x σ _ (y xs q) p
  · have e : i = xs.length := by omega
    subst e
    exact .inl ⟨⟨xs, q, Nat.le_refl _⟩, hd σ H p⟩
theorem while_by {c : TT} {tb : TS} {D : Ends} {σ : St} {H : Hp} (Pv : St → Hp → Prop) (μ : St → Hp → Nat) (h0 : Pv σ H)
    (hs : ∀ σ H, Pv σ H → c σ H fun b H1 => if b = true then tb { D with nx := fun σ' H' => Pv σ' H' ∧ μ σ' H' < μ σ H, ct := fun σ' H' => Pv σ' H' ∧ μ σ' H' < μ σ H, bk := D.nx } σ H1 else D.nx σ H1)
    (mono : ∀ σ H Q Q', (∀ b H1, Q b H1 → Q' b H1) → c σ H Q → c σ H Q') : tWhile c tb D σ H := by
  refine ⟨fun m σ H => m = μ σ H ∧ Pv σ H, ⟨_, rfl, h0⟩, ?_⟩
  rintro m σ H ⟨rfl, p⟩
  refine mono σ H _ _ (fun b H1 q => ?_) (hs σ H p)
  cases b with
  | true => exact ⟨_, fun σ' H' ⟨p', l⟩ => ⟨_, l, rfl, p'⟩, q⟩
  | false => exact q
end L2

namespace L2
open PySem PySem.Spec PyProof.Rows

abbrev R2 := V → V → Hp → VK → Prop
def OpR (X : Cx) (f : Value → Value → Sem Value) (r : R2) : Prop :=
  ∀ (pins : List (Addr × Obj)) (s : Shared) (σ : St) (H : Hp) (x y : V) (v u : Value) (Q : VK), Inv X pins σ H s → RelV x v → RelV y u → r x y H Q →
    wpAny (model X.prog X.w) X.A (f v u) (EP X pins σ Q) X.xe s
def UnR (X : Cx) (f : Value → Sem Value) (r : V → Hp → VK → Prop) : Prop :=
  ∀ (pins : List (Addr × Obj)) (s : Shared) (σ : St) (H : Hp) (x : V) (v : Value) (Q : VK), Inv X pins σ H s → RelV x v → r x H Q →
    wpAny (model X.prog X.w) X.A (f v) (EP X pins σ Q) X.xe s
def CallR (X : Cx) (f : Value) (r : List V → Hp → VK → Prop) : Prop :=
  ∀ (pins : List (Addr × Obj)) (s : Shared) (σ : St) (H : Hp) (xs : List V) (us : List Value) (Q : VK), Inv X pins σ H s → Vals xs us → r xs H Q →
    wpAny (model X.prog X.w) X.A (call f us) (EP X pins σ Q) X.xe s
def tOp (r : R2) (ta tb : TE) : TE := fun σ H Q => ta σ H fun x H1 => tb σ H1 fun y H2 => r x y H2 Q
def tUn (r : V → Hp → VK → Prop) (ta : TE) : TE := fun σ H Q => ta σ H fun x H1 => r x H1 Q
def rI (C : Int → Int → Prop) (g : Int → Int → V) : R2 := fun x y H Q => ∃ i j, x = .int i ∧ y = .int j ∧ C i j ∧ Q (g i j) H
def rI0 (g : Int → Int → V) : R2 := fun x y H Q => ∃ i j, x = .int i ∧ y = .int j ∧ Q (g i j) H
def rU (g : Int → V) : V → Hp → VK → Prop := fun x H Q => ∃ i, x = .int i ∧ Q (g i) H

section
variable {X : Cx} {a b c : Expr} {ta tb tc : TE} {pos : Pos}

theorem binT (ha : PE X a ta) (hb : PE X b tb) {pins : List (Addr × Obj)} {s : Shared} {σ : St} {H : Hp} {R : V → V → Hp → Prop} (I : Inv X pins σ H s)
    (h : ta σ H fun x H1 => tb σ H1 fun y H2 => R x y H2) {Q : Value → Shared → Prop} {f : Value → Value → Sem Value}
    (hf : ∀ v u s2 x y H2, Inv X pins σ H2 s2 → RelV x v → RelV y u → R x y H2 → wpAny (model X.prog X.w) X.A (f v u) Q X.xe s2) :
    wpAny (model X.prog X.w) X.A (eval a X.env) (fun v s₁ => wpAny (model X.prog X.w) X.A (eval b X.env) (fun u s₂ => wpAny (model X.prog X.w) X.A (f v u) Q X.xe s₂) X.xe s₁) X.xe s := by
  refine thn (ha pins s σ H _ I h) fun v s1 ⟨x, H1, I1, r1, q1⟩ => ?_
  refine thn (hb pins s1 σ H1 _ I1 q1) fun u s2 ⟨y, H2, I2, r2, q2⟩ => ?_
  exact hf v u s2 x y H2 I2 r1 r2 q2

theorem pe_op {op : Operator} {r : R2} (ho : OpR X (binaryOp op) r) (ha : PE X a ta) (hb : PE X b tb) : PE X (.BinOp a op b pos) (tOp r ta tb) := by
  intro pins s σ H Q I h
  exact wpAny_BinOp (binT ha hb I h fun v u s2 x y H2 I2 rx ry q => ho pins s2 σ H2 x y v u Q I2 rx ry q)
theorem pe_un {op : UnaryOp} {r : V → Hp → VK → Prop} (ho : UnR X (unaryOp op) r) (ha : PE X a ta) : PE X (.UnaryOp op a pos) (tUn r ta) := by
  intro pins s σ H Q I h
  exact UnaryOp_ (thn (ha pins s σ H _ I h) fun v s1 ⟨x, H1, I1, r1, q1⟩ => ho pins s1 σ H1 x v Q I1 r1 q1)
theorem opI {f : Value → Value → Sem Value} {C : Int → Int → Prop} {g : Int → Int → Int}
    (rule : ∀ (i j : Int) (t u : Tok) (s : Shared) (Q : Value → Shared → Prop) (E : Value → Shared → Prop), C i j → Q (.int (g i j) s.toks) { s with toks := s.toks + 1 } → wpAny (model X.prog X.w) X.A (f (.int i t) (.int j u)) Q E s) :
    OpR X f (rI C fun i j => .int (g i j)) := by
  intro pins s σ H x y v u Q I rx ry h
  obtain ⟨i, j, rfl, rfl, hc, q⟩ := h
  obtain ⟨t, rfl⟩ := rx
  obtain ⟨t', rfl⟩ := ry
  exact rule i j t t' s _ _ hc ⟨.int (g i j), H, I.tok _, ⟨_, rfl⟩, q⟩
theorem opI0 {f : Value → Value → Sem Value} {g : Int → Int → Int}
    (rule : ∀ (i j : Int) (t u : Tok) (s : Shared) (Q : Value → Shared → Prop) (E : Value → Shared → Prop), Q (.int (g i j) s.toks) { s with toks := s.toks + 1 } → wpAny (model X.prog X.w) X.A (f (.int i t) (.int j u)) Q E s) :
    OpR X f (rI0 fun i j => .int (g i j)) := by
  intro pins s σ H x y v u Q I rx ry h
  obtain ⟨i, j, rfl, rfl, q⟩ := h
  obtain ⟨t, rfl⟩ := rx
  obtain ⟨t', rfl⟩ := ry
  exact rule i j t t' s _ _ ⟨.int (g i j), H, I.tok _, ⟨_, rfl⟩, q⟩
theorem opB0 {f : Value → Value → Sem Value} {g : Int → Int → Bool}
    (rule : ∀ (i j : Int) (t u : Tok) (s : Shared) (Q : Value → Shared → Prop) (E : Value → Shared → Prop), Q (.bool (g i j)) s → wpAny (model X.prog X.w) X.A (f (.int i t) (.int j u)) Q E s) :
    OpR X f (rI0 fun i j => .bl (g i j)) := by
  intro pins s σ H x y v u Q I rx ry h
  obtain ⟨i, j, rfl, rfl, q⟩ := h
  obtain ⟨t, rfl⟩ := rx
  obtain ⟨t', rfl⟩ := ry
  exact rule i j t t' s _ _ ⟨.bl (g i j), H, I, rfl, q⟩

def CDiv (i j : Int) : Prop := 0 < j ∧ j < 1073741824
def CPow (i j : Int) : Prop := 0 ≤ j ∧ j ≤ 1000000 ∧ i.natAbs < 2 ^ 64
def CMul (i j : Int) : Prop := (-(2 ^ 64) < i ∧ i < 2 ^ 64) ∨ (-(2 ^ 64) < j ∧ j < 2 ^ 64)
theorem CMul.ok {i j : Int} (h : CMul i j) : IntMulOk i j := by
  rcases h with ⟨h1, h2⟩ | ⟨h1, h2⟩
  · exact .of_left (intBits_le_64 h1 h2)
  · exact .of_right (intBits_le_64 h1 h2)
theorem two_pow_nn (k : Nat) : (0 : Int) ≤ 2 ^ k := by
  rw [two_pow_cast]
  exact Int.natCast_nonneg _

theorem op_add : OpR X (binaryOp .Add) (rI0 fun i j => .int (i + j)) := opI0 fun _ _ _ _ _ _ _ q => add_int q
theorem op_sub : OpR X (binaryOp .Sub) (rI0 fun i j => .int (i - j)) := opI0 fun _ _ _ _ _ _ _ q => sub_int q
theorem op_mul : OpR X (binaryOp .Mult) (rI CMul fun i j => .int (i * j)) := opI fun _ _ _ _ _ _ _ hc q => mul_int q hc.ok
theorem op_fdiv : OpR X (binaryOp .FloorDiv) (rI CDiv fun i j => .int (i / j)) := opI fun i j _ _ _ _ _ hc q => by
  have h1 : (0 : Int) < j := hc.1
  have h2 : j < 1073741824 := hc.2
  exact floordiv_int (by omega) (by rw [Int.fdiv_eq_ediv_of_nonneg i (by omega)]; exact q) (.inl (PyProof.noPylong_small (by omega)))
theorem op_mod : OpR X (binaryOp .Mod) (rI (fun _ j => 0 < j) fun i j => .int (i % j)) := opI fun i j _ _ _ _ _ hc q => by
  have h1 : (0 : Int) < j := hc
  exact mod_int' (by omega) (by rw [Int.fmod_eq_emod_of_nonneg i (by omega)]; exact q)
theorem op_modN : OpR X (binaryOp .Mod) (rI (fun _ j => j ≠ 0) fun i j => .int (i.fmod j)) := opI fun _ _ _ _ _ _ _ hc q => mod_int' hc q
theorem op_pow : OpR X (binaryOp .Pow) (rI CPow fun i j => .int (i ^ j.toNat)) := opI fun _ _ _ _ _ _ _ hc q => pow_int_small hc.1 hc.2.1 hc.2.2 q
theorem op_shr : OpR X (binaryOp .RShift) (rI (fun _ j => 0 ≤ j) fun i j => .int (i / 2 ^ j.toNat)) := opI fun i j _ _ _ _ _ hc q =>
  rshift_int hc (by rw [Int.fdiv_eq_ediv_of_nonneg i (two_pow_nn _)]; exact q)
theorem unI {f : Value → Sem Value} {g : Int → Int}
    (rule : ∀ (i : Int) (t : Tok) (s : Shared) (Q : Value → Shared → Prop) (E : Value → Shared → Prop), Q (.int (g i) s.toks) { s with toks := s.toks + 1 } → wpAny (model X.prog X.w) X.A (f (.int i t)) Q E s) :
    UnR X f (rU fun i => .int (g i)) := by
  intro pins s σ H x v Q I rx h
  obtain ⟨i, rfl, q⟩ := h
  obtain ⟨t, rfl⟩ := rx
  exact rule i t s _ _ ⟨.int (g i), H, I.tok _, ⟨_, rfl⟩, q⟩
theorem un_neg : UnR X (unaryOp .USub) (rU fun i => .int (-i)) := unI fun _ _ _ _ _ q => neg_int q
end

def scal : V → V → Bool
  | .non, .non => true | .non, .int _ => true | .int _, .non => true | .non, .bl _ => true | .bl _, .non => true | .non, .str _ => true | .str _, .non => true
  | .int _, .int _ => true | .bl _, .bl _ => true | .str _, .str _ => true | .byt _, .byt _ => true
  | .int _, .str _ => true | .str _, .int _ => true | .bl _, .str _ => true | .str _, .bl _ => true
  | _, _ => false
def rEq : R2 := fun x y H Q => scal x y = true ∧ Q (.bl (decide (x = y))) H
def rNe : R2 := fun x y H Q => scal x y = true ∧ Q (.bl (!decide (x = y))) H

theorem dec_int {i j : Int} : decide (V.int i = V.int j) = (i == j) := by
  rw [Bool.eq_iff_iff]
  simp
theorem dec_bl {i j : Bool} : decide (V.bl i = V.bl j) = (i == j) := by
  rw [Bool.eq_iff_iff]
  simp
theorem dec_str {i j : Str} : decide (V.str i = V.str j) = (i == j) := by
  rw [Bool.eq_iff_iff]
  simp
theorem dec_byt {i j : Array UInt8} : decide (V.byt i = V.byt j) = (i.toList == j.toList) := by
  rw [Bool.eq_iff_iff]
  cases i
  cases j
  simp

section
variable {X : Cx} {a b c : Expr} {ta tb tc : TE} {pos : Pos}
theorem fin_bl {pins : List (Addr × Obj)} {σ : St} {H : Hp} {s : Shared} {Q : VK} {k k' : Bool} (I : Inv X pins σ H s) (q : Q (.bl k) H) (e : k = k') : EP X pins σ Q (.bool k') s := by
  subst e
  exact ⟨.bl k, H, I, rfl, q⟩
theorem op_eq : OpR X (compareOp .Eq) rEq := by
  intro pins s σ H x y v u Q I rx ry h
  obtain ⟨hs, q⟩ := h
  cases x with
  | non =>
    cases rx
    cases y with
    | non => cases ry; exact PySem.EqNone.eq_none_none (fin_bl I q (by simp))
    | bl j => cases ry; exact PySem.EqNone.eq_none_bool (fin_bl I q (by simp))
    | int j => obtain ⟨t', rfl⟩ := ry; exact PySem.EqNone.eq_none_int (fin_bl I q (by simp))
    | str j => obtain ⟨t', rfl⟩ := ry; exact PySem.EqNone.eq_none_str (fin_bl I q (by simp))
    | _ => exact absurd (show false = true from hs) Bool.false_ne_true
  | bl i =>
    cases rx
    cases y with
    | non => cases ry; exact PySem.EqNone.eq_bool_none (fin_bl I q (by simp))
    | bl j => cases ry; exact eq_bool (fin_bl I q dec_bl)
    | str j => obtain ⟨t', rfl⟩ := ry; exact PySem.EqMixed.eq_bool_str (fin_bl I q (by simp))
    | _ => exact absurd (show false = true from hs) Bool.false_ne_true
  | int i =>
    obtain ⟨t, rfl⟩ := rx
    cases y with
    | non => cases ry; exact PySem.EqNone.eq_int_none (fin_bl I q (by simp))
    | int j => obtain ⟨t', rfl⟩ := ry; exact eq_int (fin_bl I q dec_int)
    | str j => obtain ⟨t', rfl⟩ := ry; exact PySem.EqMixed.eq_int_str (fin_bl I q (by simp))
    | _ => exact absurd (show false = true from hs) Bool.false_ne_true
  | str i =>
    obtain ⟨t, rfl⟩ := rx
    cases y with
    | non => cases ry; exact PySem.EqNone.eq_str_none (fin_bl I q (by simp))
    | bl j => cases ry; exact PySem.EqMixed.eq_str_bool (fin_bl I q (by simp))
    | int j => obtain ⟨t', rfl⟩ := ry; exact PySem.EqMixed.eq_str_int (fin_bl I q (by simp))
    | str j => obtain ⟨t', rfl⟩ := ry; exact eq_str (fin_bl I q dec_str)
    | _ => exact absurd (show false = true from hs) Bool.false_ne_true
  | byt i =>
    obtain ⟨t, rfl⟩ := rx
    cases y with
    | byt j => obtain ⟨t', rfl⟩ := ry; exact PySem.W.eq_bytes (fin_bl I q dec_byt)
    | _ => exact absurd (show false = true from hs) Bool.false_ne_true
  | _ => cases y <;> exact absurd (show false = true from hs) Bool.false_ne_true
theorem op_ne : OpR X (compareOp .NotEq) rNe := by
  intro pins s σ H x y v u Q I rx ry h
  obtain ⟨hs, q⟩ := h
  cases x with
  | non =>
    cases rx
    cases y with
    | non => cases ry; exact PySem.EqNone.ne_none_none (fin_bl I q (by simp))
    | bl j => cases ry; exact PySem.EqNone.ne_none_bool (fin_bl I q (by simp))
    | int j => obtain ⟨t', rfl⟩ := ry; exact PySem.EqNone.ne_none_int (fin_bl I q (by simp))
    | str j => obtain ⟨t', rfl⟩ := ry; exact PySem.EqNone.ne_none_str (fin_bl I q (by simp))
    | _ => exact absurd (show false = true from hs) Bool.false_ne_true
  | bl i =>
    cases rx
    cases y with
    | non => cases ry; exact PySem.EqNone.ne_bool_none (fin_bl I q (by simp))
    | bl j => cases ry; exact ne_bool (fin_bl I q (congrArg not dec_bl))
    | str j => obtain ⟨t', rfl⟩ := ry; exact PySem.EqMixed.ne_bool_str (fin_bl I q (by simp))
    | _ => exact absurd (show false = true from hs) Bool.false_ne_true
  | int i =>
    obtain ⟨t, rfl⟩ := rx
    cases y with
    | non => cases ry; exact PySem.EqNone.ne_int_none (fin_bl I q (by simp))
    | int j => obtain ⟨t', rfl⟩ := ry; exact ne_int (fin_bl I q (congrArg not dec_int))
    | str j => obtain ⟨t', rfl⟩ := ry; exact PySem.EqMixed.ne_int_str (fin_bl I q (by simp))
    | _ => exact absurd (show false = true from hs) Bool.false_ne_true
  | str i =>
    obtain ⟨t, rfl⟩ := rx
    cases y with
    | non => cases ry; exact PySem.EqNone.ne_str_none (fin_bl I q (by simp))
    | bl j => cases ry; exact PySem.EqMixed.ne_str_bool (fin_bl I q (by simp))
    | int j => obtain ⟨t', rfl⟩ := ry; exact PySem.EqMixed.ne_str_int (fin_bl I q (by simp))
    | str j => obtain ⟨t', rfl⟩ := ry; exact ne_str (fin_bl I q (congrArg not dec_str))
    | _ => exact absurd (show false = true from hs) Bool.false_ne_true
  | byt i =>
    obtain ⟨t, rfl⟩ := rx
    cases y with
    | byt j => obtain ⟨t', rfl⟩ := ry; exact PySem.W.ne_bytes (fin_bl I q (congrArg not dec_byt))
    | _ => exact absurd (show false = true from hs) Bool.false_ne_true
  | _ => cases y <;> exact absurd (show false = true from hs) Bool.false_ne_true

theorem op_lt : OpR X (compareOp .Lt) (rI0 fun i j => .bl (decide (i < j))) := opB0 fun _ _ _ _ _ _ _ q => lt_int q
theorem op_gt : OpR X (compareOp .Gt) (rI0 fun i j => .bl (decide (j < i))) := opB0 fun _ _ _ _ _ _ _ q => gt_int q
theorem op_ge : OpR X (compareOp .GtE) (rI0 fun i j => .bl (decide (j ≤ i))) := opB0 fun _ _ _ _ _ _ _ q => ge_int q
theorem op_in_str : OpR X (compareOp .In) (fun x y H Q => ∃ i j, x = .str i ∧ y = .str j ∧ Q (.bl (!(Builtin.Str.occurrences j i 0 j.length 1).isEmpty)) H) := by
  intro pins s σ H x y v u Q I rx ry h
  obtain ⟨i, j, rfl, rfl, q⟩ := h
  obtain ⟨t, rfl⟩ := rx
  obtain ⟨t', rfl⟩ := ry
  exact in_str (fin_bl I q rfl)

theorem nomark (b : Expr) {op : CmpOp} (h : op ≠ .In := by decide) (h2 : op ≠ .NotIn := by decide) : behindInMarks op b = false := by
  have e1 : (op == CmpOp.In) = false := by cases op <;> first | rfl | exact absurd rfl h
  have e2 : (op == CmpOp.NotIn) = false := by cases op <;> first | rfl | exact absurd rfl h2
  cases b <;> simp [behindInMarks, e1, e2]
theorem pe_cmpR {op : CmpOp} {r : R2} (ho : OpR X (compareOp op) r) (ha : PE X a ta) (hb : PE X b tb) (hm : behindInMarks op b = false) : PE X (.Compare a [op] [b] pos) (tOp r ta tb) := by
  intro pins s σ H Q I h
  exact wpAny_Compare1 (binT ha hb I h fun v u s2 x y H2 I2 rx ry q => ho pins s2 σ H2 x y v u Q I2 rx ry q) hm
def tTest (t : TE) : TT := fun σ H Q => t σ H fun x H' => ∃ k, x = .bl k ∧ Q k H'
theorem pt_cmpR {op : CmpOp} {r : R2} (ho : OpR X (compareOp op) r) (ha : PE X a ta) (hb : PE X b tb) (hm : behindInMarks op b = false) : PT X (.Compare a [op] [b] pos) (tTest (tOp r ta tb)) := by
  intro pins s σ H Q I h
  refine wpAny_isTrue_Compare1 (thn (ha pins s σ H _ I h) fun v s1 ⟨x, H1, I1, r1, q1⟩ => thn (hb pins s1 σ H1 _ I1 q1) fun u s2 ⟨y, H2, I2, r2, q2⟩ =>
    thn (ho pins s2 σ H2 x y v u _ I2 r1 r2 q2) fun c s3 ⟨z, H3, I3, r3, k, e, q3⟩ => ?_) hm
  subst e
  cases r3
  exact wpAny_truthy_bool ⟨H3, I3, q3⟩
theorem line63 : (sizeLine : Nat) < 2 ^ 63 := by rw [sizeLine_eq]; decide
theorem op_add_str : OpR X (binaryOp .Add) (fun x y H Q => ∃ i j, x = .str i ∧ y = .str j ∧ i.length + j.length ≤ sizeLine ∧ Q (.str (i ++ j)) H) := by
  intro pins s σ H x y v u Q I rx ry h
  obtain ⟨i, j, rfl, rfl, hz, q⟩ := h
  obtain ⟨t, rfl⟩ := rx
  obtain ⟨t', rfl⟩ := ry
  exact add_str (fun t' tk => ⟨.str (i ++ j), H, I.tok _, ⟨_, rfl⟩, q⟩) hz
def PlainIxT (b : Expr) : Prop := ∀ o i, subscripted b false o i = operate [o, i] (getItem o i)
theorem pe_item_str (ha : PE X a ta) (hb : PE X b tb) (hs : PlainIxT b) :
    PE X (.Subscript a b pos) (tOp (fun x y H Q => ∃ z i c, x = .str z ∧ y = .int i ∧ 0 ≤ i ∧ i < 2 ^ 63 ∧ i < z.length ∧ z.cps[i.toNat]? = some c ∧ Q (.str ⟨#[c]⟩) H) ta tb) := by
  intro pins s σ H Q I h
  refine Subscript_ (binT ha hb I h fun v u s2 x y H2 I2 rx ry q => ?_)
  obtain ⟨z, i, c, rfl, rfl, h0, h63, h1, hc, q⟩ := q
  obtain ⟨t, rfl⟩ := rx
  obtain ⟨t', rfl⟩ := ry
  have e : seqIndex? i z.length = some i.toNat := PySem.StrLaws.seqIndex_nonneg h0 h1
  exact tail_any (typeIs_str s2 z t) slot_str_getitem.lookup (getItem_str (c := c) (by
    have e1 : decide (i < -(2 ^ 63 : Int)) = false := decide_eq_false (by omega)
    have e2 : decide (i ≥ 2 ^ 63) = false := decide_eq_false (by omega)
    rw [e1, e2] <;> rfl) (by rw [e]; exact hc) ⟨.str ⟨#[c]⟩, H2, I2.tok _, ⟨_, rfl⟩, q⟩) (hs _ _)
theorem vals1 {x : V} {us : List Value} (r : Vals [x] us) : ∃ u, us = [u] ∧ RelV x u := by
  cases r with
  | cons r1 r2 => cases r2; exact ⟨_, rfl, r1⟩
theorem vals2 {x y : V} {us : List Value} (r : Vals [x, y] us) : ∃ u w', us = [u, w'] ∧ RelV x u ∧ RelV y w' := by
  cases r with
  | cons r1 r2 =>
    cases r2 with
    | cons r3 r4 => cases r4; exact ⟨_, _, rfl, r1, r3⟩
theorem call_abs : CallR X (.builtin "abs") (fun xs H Q => ∃ i, xs = [.int i] ∧ Q (.int (if i < 0 then -i else i)) H) := by
  intro pins s σ H xs us Q I r h
  obtain ⟨i, rfl, q⟩ := h
  obtain ⟨u, rfl, t, rfl⟩ := vals1 r
  exact call_abs_int fun u tk => ⟨.int (if i < 0 then -i else i), H, I.tok _, ⟨_, rfl⟩, q⟩
end
end L2

namespace L2
open PySem PySem.Spec PyProof.Rows

structure ObjM (h : Heap) (x dx C : Addr) (mA : Str → Option Value) : Prop where
  obj : h.get? x = some (PySem.W.instObj C dx)
  ns : h.Ns1 dx mA
  ne : dx ≠ x

theorem lookIn_ns {h : Heap} {dx : Addr} {mA : Str → Option Value} (n : h.Ns1 dx mA) : ∃ od, h.get? dx = some od ∧ ∀ name, PySem.W.lookIn name od = some (mA name) := by
  obtain ⟨o, es, ep, ho, hd, hk, _, hm⟩ := n
  refine ⟨o, ho, fun name => ?_⟩
  have e := hm name
  unfold nsFind findBy at e
  rw [← Array.find?_toList] at e
  unfold PySem.W.lookIn
  rw [hd]
  dsimp only
  split
  · rename_i y q
    rw [q] at e
    exact congrArg some e
  · rename_i q
    rw [q] at e
    have a : es.toList.any (·.refKey) = false := by
      rw [List.any_eq_false]
      intro y hy
      obtain ⟨z, t, hkey⟩ := hk y (Array.mem_toList_iff.mp hy)
      simp [DictEntry.refKey, hkey]
    have a' : ¬ es.toList.any (·.refKey) = true := by rw [a]; exact Bool.false_ne_true
    rw [if_neg a']
    exact congrArg some e

theorem ObjM.look {h : Heap} {x dx C : Addr} {mA : Str → Option Value} (I : ObjM h x dx C mA) : ∃ od, PySem.W.InstAt h x (PySem.W.instObj C dx) C (some od) ∧ ∀ name, PySem.W.lookIn name od = some (mA name) :=
  let ⟨od, ho, hl⟩ := lookIn_ns I.ns
  ⟨od, ⟨I.obj, rfl, rfl, ho⟩, hl⟩

section
variable {prog : Program} {w : World} {A : Around} {E : Value → Shared → Prop} {s : Shared} {K : PySem.W.Frag} {x dx C f : Addr} {mA : Str → Option Value} {name : Str} {v : Value}

theorem get_map {expr : Bool} {Q : Value → Shared → Prop} (X : K.In s.heap) (I : ObjM s.heap x dx C mA) (hg : PySem.W.plainGet K C name = true) (hh : PySem.W.hasDictIn K C = true)
    (ha : PySem.W.findIn K (.ref C) name = some none) (hv : mA name = some v) (hv' : PySem.W.handedIn v = true) (h : Q v { s with toks := s.toks + 1 }) :
    wpAny (model prog w) A (getAttr (.ref x) name expr) Q E s := by
  obtain ⟨od, J, hl⟩ := I.look
  exact PySem.W.get_value X J (PySem.W.plainGet_of hg).1 (PySem.W.findObj_own hh ha rfl (by rw [hl, hv])) hv' h

theorem get_meth {pl : Sem Bool} {Q : Value × List Value → Shared → Prop} (X : K.In s.heap) (I : ObjM s.heap x dx C mA) (hg : PySem.W.plainGet K C name = true)
    (hf : PySem.W.findIn K (.ref C) name = some (some (.ref f))) (ht : PySem.W.isFn K (.ref f) = true) (hv : mA name = none) (h : Q (.ref f, [.ref x]) s) :
    wpAny (model prog w) A (getMethod (.ref x) name pl) Q E s := by
  obtain ⟨od, J, hl⟩ := I.look
  exact PySem.W.method_fn X J (PySem.W.plainGet_of hg).1 (PySem.W.plainGet_of hg).2 hf (beq_iff_eq.mp ht) (by show (PySem.W.lookIn name od).map (·.isSome) = some false; rw [hl, hv]; rfl) h

theorem set_map {ns : List Str} {Q : Unit → Shared → Prop} (X : K.In s.heap) (I : ObjM s.heap x dx C mA)
    (hs : PySem.W.findIn K (.ref C) "__setattr__" = some (some (.builtin "object.__setattr__"))) (hp : PySem.W.plainOver K C = true) (ht : PySem.W.takerIn K C name = some none) (hh : PySem.W.hasDictIn K C = true)
    (hw : PySem.Within mA ns) (hsz : ns.length ≤ sizeLine)
    (h : ∀ h', ObjM h' x dx C (fun y => if y = name then some v else mA y) → Heap.SameBut dx s.heap h' → Q () { s with heap := h', toks := s.toks + 2 }) :
    wpAny (model prog w) A (setAttr (.ref x) name v) Q E s := by
  obtain ⟨od, J, hl⟩ := I.look
  refine PySem.W.set_plain X J hs (PySem.W.osa_open (s := { s with toks := s.toks + 1 }) (r := none) X J hp ht fun b => ?_)
  obtain ⟨cd, hc, hd'⟩ := PySem.W.any_some hh
  have hx : s.heap.get? x = some ⟨.ref C, some dx, .plain, #[]⟩ := I.obj
  refine wpAny_bind (wpAny_pure (wpAny_bind (wpAny_bind (wpAny_loadPart hx (wpAny_bind (PySem.W.Looks.here (s := { s with toks := s.toks + 1 }) (PySem.W.looks_clsIn X hc) ?_))))))
  rw [hd']
  refine wpAny_pure (a := some dx) (wpAny_bind (wpAny_pure (wpAny_bind ?_)))
  refine wpAny_nsSet1 (s := { s with toks := s.toks + 1 }) I.ns fun h' hn2 hs2 => ?_
  obtain ⟨oD, esD, epD, hoD, hdD, hcD⟩ := hn2.count (PySem.Within.cons name v hw)
  refine wpAny_bind (wpAny_lookBehind hoD (by rw [hdD]; exact pastItsLine_dict (Nat.le_trans hcD (by rw [List.length_cons]; omega))) ?_)
  exact wpAny_pure (h _ ⟨(hs2.2 _ (Ne.symm I.ne)).trans I.obj, hn2, I.ne⟩ hs2)

theorem make_map {R : Result → Shared → Prop} {vs : List Value} {kw : List (Str × Value)} (X : K.In s.heap) (hm : PySem.W.makesIn K C = true)
    (hi : PySem.W.findIn K (.ref C) "__init__" = some (some (.ref f))) (hf : PySem.W.typeIn K (.ref f) = some (.type "function"))
    (h : codeAny (model prog w) (A.under (.builtin "type.__call__" ⟨.ref C :: vs, kw⟩)) (.call (.ref f) ⟨.ref (s.heap.objs.size + 1) :: vs, kw⟩) (PySem.W.InitBack (s.heap.objs.size + 1) R)
      { s with heap := (s.heap.push PySem.W.emptyDict).push (PySem.W.instObj C s.heap.objs.size) }) :
    codeAny (model prog w) A (.call (.ref C) ⟨vs, kw⟩) R s := by
  obtain ⟨hh, g, d, t, os⟩ := s
  exact PySem.W.make_core (PySem.W.makes_of X hm) (PySem.W.looks_findIn X hi) (fun self => PySem.W.bind_fn X self hf) (.inl rfl) h
end

def putF (f : Str) (v : V) : List (Str × V) → List (Str × V)
  | [] => [(f, v)]
  | (g, x) :: r => if g = f then (g, v) :: r else (g, x) :: putF f v r
theorem lookup_putF (f g : Str) (v : V) : ∀ fs : List (Str × V), (putF f v fs).lookup g = if g = f then some v else fs.lookup g
  | [] => by
    show List.lookup g [(f, v)] = _
    by_cases h : g = f
    · have hb : (g == f) = true := beq_iff_eq.mpr h
      simp only [List.lookup, hb, if_pos h]
    · have hb : (g == f) = false := beq_eq_false_iff_ne.mpr h
      simp only [List.lookup, hb, if_neg h]
  | (k, x) :: r => by
    have ih := lookup_putF f g v r
    rw [show putF f v ((k, x) :: r) = (if k = f then (k, v) :: r else (k, x) :: putF f v r) from rfl]
    by_cases hk : k = f
    · rw [if_pos hk]
      by_cases h : g = k
      · have hb : (g == k) = true := beq_iff_eq.mpr h
        simp only [List.lookup, hb, if_pos (h.trans hk)]
      · have hb : (g == k) = false := beq_eq_false_iff_ne.mpr h
        simp only [List.lookup, hb, if_neg (fun e : g = f => h (e.trans hk.symm))]
    · rw [if_neg hk]
      by_cases h : g = k
      · have hb : (g == k) = true := beq_iff_eq.mpr h
        simp only [List.lookup, hb, if_neg (fun e : g = f => hk (h.symm.trans e))]
      · have hb : (g == k) = false := beq_eq_false_iff_ne.mpr h
        simp only [List.lookup, hb]
        exact ih
theorem keys_putF (f : Str) (v : V) : ∀ fs : List (Str × V), f ∈ (putF f v fs).map (·.1) ∧ ∀ g, g ∈ fs.map (·.1) → g ∈ (putF f v fs).map (·.1)
  | [] => ⟨by simp [putF], fun g h => by simp at h⟩
  | (k, x) :: r => by
    obtain ⟨i1, i2⟩ := keys_putF f v r
    rw [show putF f v ((k, x) :: r) = (if k = f then (k, v) :: r else (k, x) :: putF f v r) from rfl]
    by_cases hk : k = f
    · rw [if_pos hk]
      subst hk
      exact ⟨by simp, fun g h => by simpa using h⟩
    · rw [if_neg hk]
      refine ⟨?_, fun g h => ?_⟩
      · rw [List.map_cons]
        exact List.mem_cons_of_mem _ i1
      · rw [List.map_cons] at h ⊢
        rcases List.mem_cons.mp h with e | e
        · exact List.mem_cons.mpr (.inl e)
        · exact List.mem_cons_of_mem _ (i2 g e)
theorem length_putF (f : Str) (v : V) : ∀ fs : List (Str × V), (putF f v fs).length ≤ fs.length + 1
  | [] => by simp [putF]
  | (k, x) :: r => by
    have ih := length_putF f v r
    rw [show putF f v ((k, x) :: r) = (if k = f then (k, v) :: r else (k, x) :: putF f v r) from rfl]
    by_cases hk : k = f
    · rw [if_pos hk, List.length_cons, List.length_cons]; omega
    · rw [if_neg hk, List.length_cons, List.length_cons]; omega

theorem RelO.some_of {v : V} {o : Option Value} (r : RelO (some v) o) : ∃ u, o = some u ∧ RelV v u := by
  cases o with
  | none => exact (show False from r).elim
  | some u => exact ⟨u, rfl, r⟩
theorem RelO.none_of {o : Option Value} (r : RelO none o) : o = none := by
  cases o with
  | none => rfl
  | some u => exact (show False from r).elim
theorem handed_of {v : V} {u : Value} (r : RelV v u) : PySem.W.handedIn u = true := by
  cases v with
  | non => cases (show u = Value.none from r); rfl
  | bl b => cases (show u = Value.bool b from r); rfl
  | int i => obtain ⟨t, e⟩ := (show ∃ t, u = Value.int i t from r); cases e; rfl
  | str x => obtain ⟨t, e⟩ := (show ∃ t, u = Value.str x t from r); cases e; rfl
  | byt b => obtain ⟨t, e⟩ := (show ∃ t, u = Value.bytes b t from r); cases e; rfl
  | flt b => obtain ⟨t, e⟩ := (show ∃ t, u = Value.float b t from r); cases e; rfl
  | ref a => cases (show u = Value.ref a from r); rfl
  | ty n => cases (show u = Value.type n from r); rfl

section
variable {P : Program} {w : World} {H H' : Hp} {h h' : Heap} {a C dx : Addr} {fs fs' : List (Str × V)}
theorem ins_get (hok : HOk P w H h) (e : H a = some (.ins C dx fs)) : ∃ mA, ObjM h a dx C mA ∧ (∀ f, RelO (fs.lookup f) (mA f)) ∧ PySem.Within mA (fs.map (·.1)) ∧ fs.length ≤ 1000 ∧ H dx = some (.own a) := by
  obtain ⟨d, z, ne, ob, mA, n, r, q⟩ := (show ObjOk P w H h a (.ins C dx fs) from hok a _ e)
  exact ⟨mA, ⟨ob, n, ne⟩, r, q, z, d⟩
end

structure Cls (K : PySem.W.Frag) (C : Addr) : Prop where
  pg : PySem.W.plainGet K C Str.empty = true
  hd : PySem.W.hasDictIn K C = true
  po : PySem.W.plainOver K C = true
  sa : PySem.W.findIn K (.ref C) "__setattr__" = some (some (.builtin "object.__setattr__"))
theorem Cls.get {K : PySem.W.Frag} {C : Addr} (c : Cls K C) (f : Str) : PySem.W.plainGet K C f = true := c.pg
def NoAttr (K : PySem.W.Frag) (C : Addr) (f : Str) : Prop := PySem.W.findIn K (.ref C) f = some none
theorem NoAttr.taker {K : PySem.W.Frag} {C : Addr} {f : Str} (n : NoAttr K C f) : PySem.W.takerIn K C f = some none := by
  unfold PySem.W.takerIn
  rw [show PySem.W.findIn K (.ref C) f = some none from n]
  rfl
structure Meth (K : PySem.W.Frag) (C : Addr) (m : Str) (f : Addr) : Prop where
  at_ : PySem.W.findIn K (.ref C) m = some (some (.ref f))
  fn : PySem.W.isFn K (.ref f) = true
  kp : PySem.W.keepIn K (.ref f) = true

section
variable {X : Cx} {pins : List (Addr × Obj)} {σ : St} {H : Hp} {s : Shared} {a C dx : Addr} {fs : List (Str × V)} {f : Str} {v : V} {A : Around} {E : Value → Shared → Prop}

theorem getattr_ok {b : Bool} {Q : Value → Shared → Prop} (I : Inv X pins σ H s) (e : H a = some (.ins C dx fs)) (c : Cls X.K C) (n : NoAttr X.K C f) (l : fs.lookup f = some v)
    (h : ∀ u s', Inv X pins σ H s' → RelV v u → Q u s') : wpAny (model X.prog X.w) A (getAttr (.ref a) f b) Q E s := by
  obtain ⟨mA, O, r, _, _, _⟩ := ins_get I.hok e
  obtain ⟨u, hu, ru⟩ := RelO.some_of (v := v) (o := mA f) (by rw [← l]; exact r f)
  exact get_map I.kIn O (c.get f) c.hd n hu (handed_of ru) (h u _ (I.tok _) ru)

theorem getmeth_ok {m : Str} {g : Addr} {pl : Sem Bool} {Q : Value × List Value → Shared → Prop} (I : Inv X pins σ H s) (e : H a = some (.ins C dx fs)) (c : Cls X.K C) (k : Meth X.K C m g) (l : fs.lookup m = none)
    (h : Q (.ref g, [.ref a]) s) : wpAny (model X.prog X.w) A (getMethod (.ref a) m pl) Q E s := by
  obtain ⟨mA, O, r, _, _, _⟩ := ins_get I.hok e
  have hn : mA m = none := RelO.none_of (by rw [← l]; exact r m)
  exact get_meth I.kIn O (c.get m) k.at_ k.fn hn h

theorem setattr_ok {y : V} {u : Value} {Q : Unit → Shared → Prop} (I : Inv X pins σ H s) (e : H a = some (.ins C dx fs)) (c : Cls X.K C) (n : NoAttr X.K C f) (hl : fs.length < 1000) (ry : RelV y u)
    (h : ∀ s', Inv X pins σ (upd H a (.ins C dx (putF f y fs))) s' → Q () s') : wpAny (model X.prog X.w) A (setAttr (.ref a) f u) Q E s := by
  obtain ⟨mA, O, r, wi, _, ho⟩ := ins_get I.hok e
  have hz : (fs.map (·.1)).length ≤ sizeLine := by rw [List.length_map, sizeLine_eq]; omega
  refine set_map I.kIn O c.sa c.po n.taker c.hd wi hz fun h' O' sb => h _ ?_
  have hd : ∃ o, h'.get? dx = some o := let ⟨o, _, _, e', _⟩ := O'.ns; ⟨o, e'⟩
  refine I.write (x := a) (e := dx) (by rw [e]; exact True.intro) (.inr ho) (fun b q hb z => (sb.2 b hb).trans z) hd ?_
  refine ⟨by rw [upd_ne O.ne]; exact ho, ?_, O.ne, O'.obj, _, O'.ns, fun g => ?_, fun g hg => ?_⟩
  · have := length_putF f y fs; omega
  · show RelO ((putF f y fs).lookup g) (if g = f then some u else mA g)
    rw [lookup_putF]
    by_cases q : g = f
    · rw [if_pos q, if_pos q]; exact ry
    · rw [if_neg q, if_neg q]; exact r g
  · by_cases q : g = f
    · rw [q]; exact (keys_putF f y fs).1
    · refine (keys_putF f y fs).2 g (wi g fun z => hg ?_)
      show (if g = f then some u else mA g) = none
      rw [if_neg q]; exact z

theorem Inv.made (I : Inv X pins σ H s) : Inv X pins σ (upd (upd H s.heap.objs.size (.own (s.heap.objs.size + 1))) (s.heap.objs.size + 1) (.ins C s.heap.objs.size []))
    { s with heap := (s.heap.push PySem.W.emptyDict).push (PySem.W.instObj C s.heap.objs.size) } := by
  have e1 : (s.heap.push PySem.W.emptyDict).get? s.heap.objs.size = some PySem.W.emptyDict := Heap.get?_push_size s.heap rfl
  have e2 : ((s.heap.push PySem.W.emptyDict).push (PySem.W.instObj C s.heap.objs.size)).get? (s.heap.objs.size + 1) = some (PySem.W.instObj C s.heap.objs.size) := by
    have := Heap.get?_push_size (s.heap.push PySem.W.emptyDict) (o := PySem.W.instObj C s.heap.objs.size) rfl
    rwa [Heap.size_push] at this
  have e3 : (s.heap.push PySem.W.emptyDict).Ns s.heap.objs.size (fun _ => none) := ⟨PySem.W.emptyDict, #[], _, e1, rfl, (fun e he => absurd he (by simp)), fun _ => rfl⟩
  have I1 := I.laid (a := s.heap.objs.size) (o := .own (s.heap.objs.size + 1)) (h' := s.heap.push PySem.W.emptyDict) (t' := s.toks) (fun b u q => Heap.get?_push_of_some _ q) (Nat.le_refl _) ⟨_, e1⟩
  refine I1.laid (a := s.heap.objs.size + 1) (o := .ins C s.heap.objs.size []) (t' := s.toks) (fun b u q => Heap.get?_push_of_some _ q) (Nat.le_of_eq (Heap.size_push _ _)) ?_
  have ne : s.heap.objs.size ≠ s.heap.objs.size + 1 := Nat.ne_of_lt (Nat.lt_succ_self _)
  refine ⟨by rw [upd_ne ne, upd_same], Nat.zero_le _, ne, e2, fun _ => none, (Heap.Ns1.of_empty e3).at fun o q => Heap.get?_push_of_some _ q, fun _ => True.intro, fun y hy => absurd rfl hy⟩

theorem attr_of {prog : Program} {w : World} {env : Env} {e : Expr} {f : Str} {pos : Pos} {s : Shared} {Q : Value → Shared → Prop} (hb : attributeBase e f env (eval e env) = eval e env)
    (h : wpAny (model prog w) A (eval e env) (fun o s₁ => wpAny (model prog w) A (getAttr o f true) Q E s₁) E s) : wpAny (model prog w) A (eval (.Attribute e f pos) env) Q E s :=
  Attribute_any_ h (by rw [arm_eval_Attribute, hb])
end

def tFld (K : PySem.W.Frag) (ta : TE) (f : Str) : TE := fun σ H Q => ta σ H fun x H1 => ∃ a C dx fs v, x = .ref a ∧ H1 a = some (.ins C dx fs) ∧ Cls K C ∧ NoAttr K C f ∧ fs.lookup f = some v ∧ Q v H1
def sFld (K : PySem.W.Frag) (ta tv : TE) (f : Str) : TS := fun D σ H => tv σ H fun y H1 => ta σ H1 fun x H2 => ∃ a C dx fs, x = .ref a ∧ H2 a = some (.ins C dx fs) ∧ Cls K C ∧ NoAttr K C f ∧ fs.length < 1000 ∧
  D.nx σ (upd H2 a (.ins C dx (putF f y fs)))
section
variable {X : Cx} {o e value : Expr} {f : Str} {pos pos' tpos : Pos} {ta tv : TE}
theorem pe_fld (he : PE X e ta) (hb : attributeBase e f X.env (eval e X.env) = eval e X.env) : PE X (.Attribute e f pos) (tFld X.K ta f) := by
  intro pins s σ H Q I h
  refine attr_of hb (thn (he pins s σ H _ I h) fun u s1 ⟨x, H1, I1, rx, a, C, dx, fs, v, ex, ea, c, n, l, q⟩ => ?_)
  subst ex
  obtain rfl : u = Value.ref a := rx
  exact getattr_ok I1 ea c n l fun u' s2 I2 ru => ⟨v, H1, I2, ru, q⟩
theorem ps_fld (ha : PE X o ta) (hv : PE X value tv) (hs : swapsWith value (some (.Attribute o f pos')) pos.line X.env = pure false) : PS X (.Assign [.Attribute o f pos'] value pos) (sFld X.K ta tv f) := by
  intro pins s σ H D I h
  refine plainObj_wpAny_Assign_Attribute (thn (hv pins s σ H _ I h) fun u s1 ⟨y, H1, I1, ry, q⟩ => thn (ha pins s1 σ H1 _ I1 q) fun ov s2 ⟨x, H2, I2, rx, a, C, dx, fs, ex, ea, c, n, l, q2⟩ => ?_) hs
  subst ex
  obtain rfl : ov = Value.ref a := rx
  exact setattr_ok I2 ea c n l ry fun s3 I3 => ⟨σ, _, I3, q2⟩
end

section
variable {X : Cx} {pins : List (Addr × Obj)} {σ : St} {H : Hp} {s : Shared} {A : Around} {E : Value → Shared → Prop} {Q : Value → Shared → Prop} {c : Value} {b : Bool}
inductive TyOf (K : PySem.W.Frag) (H : Hp) : V → Value → Prop where
  | non : TyOf K H .non (.type "NoneType")
  | bl (x : Bool) : TyOf K H (.bl x) (.type "bool")
  | int (i : Int) : TyOf K H (.int i) (.type "int")
  | str (x : Str) : TyOf K H (.str x) (.type "str")
  | flt (x : UInt64) : TyOf K H (.flt x) (.type "float")
  | lst {a : Addr} {xs : List V} (e : H a = some (.lst xs)) : TyOf K H (.ref a) (.type "list")
  | frz {a : Addr} {o : Obj} {xs : List V} (e : H a = some (.frz o (.lst xs))) : TyOf K H (.ref a) (.type "list")
  | tup {a : Addr} {xs : List V} (e : H a = some (.tup xs)) : TyOf K H (.ref a) (.type "tuple")
  | dK {a : Addr} {kvs : List (Key × V)} (e : H a = some (.dK kvs)) : TyOf K H (.ref a) (.type "dict")
  | dT {a : Addr} {kvs : List (List Key × V)} (e : H a = some (.dT kvs)) : TyOf K H (.ref a) (.type "dict")
  | ins {a C dx : Addr} {fs : List (Str × V)} (e : H a = some (.ins C dx fs)) (cl : Cls K C) (ha : PySem.W.findIn K (.ref C) "__class__" = some (some (.builtin "object.__class__")))
      (hn : PySem.W.specialIn K (.builtin "object.__class__") "__get__" = some (some (.builtin "getset_descriptor.__get__"))) (htk : PySem.W.takesIn K (.builtin "object.__class__") = some true)
      (hm : PySem.W.mroIn K C (.type "object") = some true) : TyOf K H (.ref a) (.ref C)
theorem isinst_ok {x : V} {u t : Value} (I : Inv X pins σ H s) (rx : RelV x u) (ty : TyOf X.K H x t) (e : PySem.W.kitOne X.K t c = some b) (h : ∀ tk, Q (.bool b) { s with toks := tk }) :
    wpAny (model X.prog X.w) A (call (.builtin "isinstance") [u, c]) Q E s := by
  cases ty with
  | non => cases (show u = Value.none from rx); exact PySem.W.kia_one PySem.W.kitx_none I.kIn True.intro e (fun z => nomatch z) h
  | bl y => cases (show u = Value.bool y from rx); exact PySem.W.kia_one PySem.W.kitx_bool I.kIn True.intro e (fun z => nomatch z) h
  | int i => obtain ⟨t, q⟩ := (show ∃ t, u = Value.int i t from rx); cases q; exact PySem.W.kia_one PySem.W.kitx_int I.kIn True.intro e (fun z => nomatch z) h
  | str y => obtain ⟨t, q⟩ := (show ∃ t, u = Value.str y t from rx); cases q; exact PySem.W.kia_one PySem.W.kitx_str I.kIn True.intro e (fun z => nomatch z) h
  | flt y => obtain ⟨t, q⟩ := (show ∃ t, u = Value.float y t from rx); cases q; exact PySem.W.kia_one PySem.W.kitx_float I.kIn True.intro e (fun z => nomatch z) h
  | @lst a xs ea =>
    cases (show u = Value.ref a from rx)
    obtain ⟨_, _, n, _, h1⟩ := (show ObjOk X.prog X.w H s.heap a (.lst xs) from I.hok a _ ea)
    exact PySem.W.kia_one PySem.W.kitx_list I.kIn ⟨_, h1, rfl⟩ e (fun z => nomatch z) h
  | @frz a ob xs ea =>
    cases (show u = Value.ref a from rx)
    obtain ⟨_, _, _, n, _, h1⟩ := (show ObjOk X.prog X.w H s.heap a (.frz ob (.lst xs)) from I.hok a _ ea)
    exact PySem.W.kia_one PySem.W.kitx_list I.kIn ⟨_, h1, rfl⟩ e (fun z => nomatch z) h
  | @tup a xs ea =>
    cases (show u = Value.ref a from rx)
    obtain ⟨_, _, _, p⟩ := (show ObjOk X.prog X.w H s.heap a (.tup xs) from I.hok a _ ea)
    obtain ⟨o, h1, h2, _⟩ := p
    exact PySem.W.kia_one PySem.W.kitx_tuple I.kIn ⟨o, h1, h2⟩ e (fun z => nomatch z) h
  | @dK a kvs ea =>
    cases (show u = Value.ref a from rx)
    obtain ⟨_, _, vs, _, p⟩ := (show ObjOk X.prog X.w H s.heap a (.dK kvs) from I.hok a _ ea)
    obtain ⟨o, es, ep, h1, h2, _⟩ := p
    exact PySem.W.kia_one PySem.W.kitx_dict I.kIn ⟨o, h1, h2.1⟩ e (fun z => nomatch z) h
  | @dT a kvs ea =>
    cases (show u = Value.ref a from rx)
    obtain ⟨_, _, xs, _, o, es, ep, h1, h2, _⟩ := (show ObjOk X.prog X.w H s.heap a (.dT kvs) from I.hok a _ ea)
    exact PySem.W.kia_one PySem.W.kitx_dict I.kIn ⟨o, h1, h2.1⟩ e (fun z => nomatch z) h
  | @ins a C dx fs ea cl ha hn htk hm =>
    cases (show u = Value.ref a from rx)
    obtain ⟨mA, O, _⟩ := ins_get I.hok ea
    obtain ⟨od, J, _⟩ := O.look
    exact PySem.W.kia_one (PySem.W.kitx_own (cl.get _) cl.hd ha hn htk hm) I.kIn J e (fun z => nomatch z) h
end
end L2

namespace L2
open PySem PySem.Spec PyProof.Rows

structure Room (k : Nat) (A : Around) : Prop where
  hd : A.handled = none
  dp : A.depth + 3 * k + 5 < recursionLimit
  un : A.units + 16 * k + 200 < cLine
theorem Room.mono {j k : Nat} {A : Around} (r : Room k A) (h : j ≤ k) : Room j A := ⟨r.hd, by have := r.dp; omega, by have := r.un; omega⟩
theorem Room.deeper {k : Nat} {A : Around} (r : Room (k + 1) A) (env : Env) : Room k (A.deeper env) :=
  ⟨r.hd, by have := r.dp; show A.depth + 1 + 3 * k + 5 < _; omega, by have := r.un; show A.units + 3 + 16 * k + 200 < _; omega⟩
theorem make_depth {A : Around} {C : Addr} {us : List Value} {kw : List (Str × Value)} : (A.under (.builtin "type.__call__" ⟨.ref C :: us, kw⟩)).depth = A.depth + 1 := by
  first | rfl | simp [Around.under, Code.weight, Code.isCreation, Code.isGuard, Code.isCaller, Code.frames, Code.isFrame, guardIds]
theorem make_units {A : Around} {C : Addr} {us : List Value} {kw : List (Str × Value)} : (A.under (.builtin "type.__call__" ⟨.ref C :: us, kw⟩)).units = A.units + 1 := by
  first | rfl | simp [Around.under, Code.cUnits, Code.frames, Code.isFrame]
theorem Room.make {k : Nat} {A : Around} (r : Room (k + 1) A) (C : Addr) (us : List Value) (kw : List (Str × Value)) : Room k (A.under (.builtin "type.__call__" ⟨.ref C :: us, kw⟩)) :=
  ⟨r.hd, by have := r.dp; rw [make_depth]; omega, by have := r.un; rw [make_units]; omega⟩
theorem Room.depth {k : Nat} {A : Around} (r : Room k A) : A.depth < recursionLimit := by have := r.dp; omega
theorem Room.units {k : Nat} {A : Around} (r : Room k A) : A.units + 64 < cLine := by have := r.un; omega
def tNil : TA := fun _ H Q => Q [] H
def tCons (ta : TE) (tr : TA) : TA := fun σ H Q => ta σ H fun x H1 => tr σ H1 fun xs H2 => Q (x :: xs) H2
section
variable {X : Cx} {e : Expr} {es : List Expr} {te : TE} {t : TA} {pos : Pos}
theorem pa_nil : PA X [] tNil := fun _ _ _ _ H Q I h => Calls.spliced_nil ⟨[], H, I, .nil, h⟩
theorem pa_cons (ha : PE X e te) (hr : PA X es t) (hs : starEach (e :: es) X.env = (false, eval e X.env) :: starEach es X.env := by rfl) : PA X (e :: es) (tCons te t) := by
  intro pos pins s σ H Q I h
  rw [hs]
  show wpAny _ _ (spliced ((false, eval e X.env) :: backTo pos (starEach es X.env))) _ _ s
  refine Calls.spliced_cons (thn (ha pins s σ H _ I h) fun u s1 ⟨x, H1, I1, r1, q1⟩ => ?_)
  exact thn (hr pos pins s1 σ H1 _ I1 q1) fun us s2 ⟨xs, H2, I2, r2, q2⟩ => ⟨x :: xs, H2, I2, .cons r1 r2, q2⟩

def tTup (t : TA) : TE := fun σ H Q => t σ H fun xs H1 => xs.length ≤ sizeLine ∧ ∀ p, H1 p = none → Q (.ref p) (upd H1 p (.tup xs))
def tLst (t : TA) : TE := fun σ H Q => t σ H fun xs H1 => xs.length ≤ sizeLine ∧ ∀ p, H1 p = none → Q (.ref p) (upd H1 p (.lst xs))
theorem pe_tup {x1} (h : PA X es t) : PE X (.Tuple es x1 pos) (tTup t) := by
  intro pins s σ H Q I hq
  refine wpAny_Tuple_spliced (thn (h pos pins s σ H _ I hq) fun us s1 ⟨xs, H1, I1, r, z, q⟩ => ⟨by rw [← r.length]; exact z, ?_⟩)
  have hf : H1 s1.heap.objs.size = none := I1.hok.fresh (Nat.le_refl _)
  refine ⟨.ref s1.heap.objs.size, upd H1 s1.heap.objs.size (.tup xs), I1.laid (t' := s1.toks) (fun b u e => Heap.get?_push_of_some _ e) (Nat.le_refl _) ?_, rfl, q _ hf⟩
  exact ⟨z, us, r, ⟨_, Heap.get?_push_size _ rfl, rfl, _, rfl⟩⟩
theorem pe_lst (h : PA X es t) : PE X (.List es pos) (tLst t) := by
  intro pins s σ H Q I hq
  refine wpAny_List_spliced (thn (h pos pins s σ H _ I hq) fun us s1 ⟨xs, H1, I1, r, z, q⟩ => ⟨by rw [← r.length]; exact z, ?_⟩)
  have hf : H1 s1.heap.objs.size = none := I1.hok.fresh (Nat.le_refl _)
  refine ⟨.ref s1.heap.objs.size, upd H1 s1.heap.objs.size (.lst xs), I1.laid (t' := s1.toks) (fun b u e => Heap.get?_push_of_some _ e) (Nat.le_refl _) ?_, rfl, q _ hf⟩
  exact ⟨z, us, 0, r, Heap.get?_push_size _ rfl⟩
end

abbrev Sp := List V → Hp → VK → XK → Prop
abbrev CXT := List Env → Hp → Shared → XK → Value → Shared → Prop

structure Env0 (P : Program) (w : World) (K : PySem.W.Frag) (mg : Str → Option Value) (base : Heap) (A : Around) (outer : List Env) (s : Shared) (H : Hp) : Prop where
  frames : A.frames = some outer
  mod : Mod K mg base
  bs : ∀ b o, base.get? b = some o → s.heap.get? b = some o ∧ H b = none
  bsz : base.objs.size ≤ s.heap.objs.size
  funs : s.heap.FunFrames base outer
  frf : ∀ b ∈ frs outer, H b = none
  hok : HOk P w H s.heap
  bare : AllBare s.gens
def CE (outer : List Env) (P : Program) (w : World) (H : Hp) (s : Shared) (Q : VK) (u : Value) (s' : Shared) : Prop :=
  ∃ v H', s'.os = s.os ∧ AllBare s'.gens ∧ Un (frs outer) [] H H' s.heap s'.heap ∧ HOk P w H' s'.heap ∧ RelV v u ∧ Q v H'
def CR (CX : CXT) (outer : List Env) (P : Program) (w : World) (H : Hp) (s : Shared) (Q : VK) (E : XK) (r : Result) (s' : Shared) : Prop :=
  match r with
  | .ok (.ret u) => CE outer P w H s Q u s'
  | .ok _ => False
  | .error e => CX outer H s E e s'
structure FnOk (P : Program) (w : World) (K : PySem.W.Frag) (mg : Str → Option Value) (base : Heap) (CX : CXT) (k : Nat) (f : Addr) (fd : FuncData) (ps : List Str) (sp : Sp) : Prop where
  len : ∀ vs H Q E, sp vs H Q E → vs.length = ps.length
  run : ∀ (A : Around) (outer : List Env) (s : Shared) (H : Hp) (args : Args) (us : List Value) (vs : List V) (Q : VK) (E : XK), Room k A → Env0 P w K mg base A outer s H → BindsTo s fd args (ps.zip us) → Vals vs us → sp vs H Q E →
    codeAny (model P w) A (.call (.ref f) args) (CR CX outer P w H s Q E) s
theorem Env0.make {P : Program} {w : World} {K : PySem.W.Frag} {mg : Str → Option Value} {base : Heap} {A : Around} {outer : List Env} {s : Shared} {H : Hp} (e : Env0 P w K mg base A outer s H) (C : Addr) (us : List Value) (kw : List (Str × Value)) :
    Env0 P w K mg base (A.under (.builtin "type.__call__" ⟨.ref C :: us, kw⟩)) outer s H := ⟨by first | exact e.frames | (simpa [Around.under, Code.envs, Code.isFrame, pushEnvs] using e.frames), e.mod, e.bs, e.bsz, e.funs, e.frf, e.hok, e.bare⟩
section
variable {X : Cx} {pins : List (Addr × Obj)} {σ : St} {H : Hp} {s s' : Shared}
theorem Inv.env0 (I : Inv X pins σ H s) : Env0 X.prog X.w X.K X.mg X.base X.A X.stack s H :=
  ⟨I.ok.frames, I.ok.mod, I.bs, Nat.le_trans I.ok.bsz I.sz, I.stack, I.stkFree, I.hok, I.bare⟩
theorem Inv.after {Q : VK} {u : Value} (I : Inv X pins σ H s) (h : CE X.stack X.prog X.w H s Q u s') : EP X pins σ Q u s' := by
  obtain ⟨v, H', os, bare, un, hok, r, q⟩ := h
  obtain ⟨hh, g, d, t, os'⟩ := s'
  obtain rfl : os' = s.os := os
  exact ⟨v, H', I.call (h' := hh) (g' := g) (d' := d) (t' := t) (ch := []) un hok bare (fun b z => absurd z (by simp)), r, q⟩
end

def tCall (sp : Sp) (dvs : List V) (E : XK) (t : TA) : TE := fun σ H Q => t σ H fun vs H1 => sp (vs ++ dvs) H1 Q E
def tMeth (C : Addr) (m : Str) (sp : Sp) (dvs : List V) (E : XK) (ta : TE) (t : TA) : TE := fun σ H Q => ta σ H fun x H1 => ∃ a dx fs, x = .ref a ∧ H1 a = some (.ins C dx fs) ∧ fs.lookup m = none ∧
  t σ H1 fun vs H2 => sp (x :: (vs ++ dvs)) H2 Q E
def tMake (C : Addr) (sp : Sp) (dvs : List V) (E : XK) (t : TA) : TE := fun σ H Q => t σ H fun vs H1 => ∀ x dx, H1 x = none → H1 dx = none → dx ≠ x →
  sp (.ref x :: (vs ++ dvs)) (upd (upd H1 dx (.own x)) x (.ins C dx [])) (fun v H2 => v = .non ∧ Q (.ref x) H2) E

def Binds (K : PySem.W.Frag) (fd : FuncData) (ps : List Str) (ds : List Value) : Prop :=
  ∀ (s : Shared) (us : List Value), K.In s.heap → (us ++ ds).length = ps.length → BindsTo s fd ⟨us, []⟩ (ps.zip (us ++ ds))
theorem Binds.all {K : PySem.W.Frag} {fd : FuncData} {ps : List Str} (h : ∀ us : List Value, us.length = ps.length → bindArgs fd ⟨us, []⟩ = pure (ps.zip us)) : Binds K fd ps [] := fun s us _ hl => by
  rw [List.append_nil] at hl ⊢
  exact .of_eq (h us hl)

def Passes (CX : CXT) (X : Cx) (E : XK) : Prop := ∀ (pins : List (Addr × Obj)) (σ : St) (H : Hp) (s : Shared) (e : Value) (s' : Shared), Inv X pins σ H s → CX X.stack H s E e s' → X.xe e s'

section
variable {X : Cx} {CX : CXT} {k : Nat} {f C : Addr} {fd : FuncData} {ps : List Str} {sp : Sp} {dvs : List V} {ds : List Value} {E : XK} {x m : Str} {p pos apos : Pos} {e o : Expr} {es : List Expr} {ta : TE} {t : TA}

theorem run_fn {pins : List (Addr × Obj)} {σ : St} {H : Hp} {s : Shared} {Q : VK} {us : List Value} {vs : List V} (F : FnOk X.prog X.w X.K X.mg X.base CX k f fd ps sp) (hr : Room k X.A) (hb : Binds X.K fd ps ds) (hd : Vals dvs ds) (hx : Passes CX X E)
    (I : Inv X pins σ H s) (r : Vals vs us) (h : sp (vs ++ dvs) H Q E) : wpAny (model X.prog X.w) X.A (call (.ref f) us) (EP X pins σ Q) X.xe s := by
  have r2 : Vals (vs ++ dvs) (us ++ ds) := r.append hd
  have hl : (us ++ ds).length = ps.length := by rw [← r2.length]; exact F.len _ _ _ _ h
  refine wpAny_call (codeAny_mono (F.run X.A X.stack s H ⟨us, []⟩ (us ++ ds) (vs ++ dvs) Q E hr I.env0 (hb s us I.kIn hl) r2 h) fun r s' hq => ?_)
  cases r with
  | error e => exact hx pins σ H s e s' I hq
  | ok fl =>
    cases fl with
    | ret u => exact I.after hq
    | next => exact False.elim hq
    | brk => exact False.elim hq
    | cont => exact False.elim hq

theorem pe_call (F : FnOk X.prog X.w X.K X.mg X.base CX k f fd ps sp) (hr : Room k X.A) (hg : Gl X x) (hm : X.mg x = some (.ref f)) (hk : PySem.W.keepIn X.K (.ref f) = true) (hb : Binds X.K fd ps ds) (hd : Vals dvs ds) (hx : Passes CX X E)
    (ha : PA X (e :: es) t) (hdb : (x == ("__debug__" : Str)) = false := by decide) (he : starEach (e :: es) X.env = (false, eval e X.env) :: starEach es X.env := by rfl) (hpl : (backTo pos (starEach es X.env)).any (·.1) = false := by rfl) :
    PE X (.Call (.Name x p) (e :: es) [] pos) (tCall sp dvs E t) := by
  intro pins s σ H Q I h
  refine wpAny_Call_Name_kw (ld_glob I hg hm ?_ hdb)
  refine PySem.W.callWith_K (h₀ := X.base) I.ok.mod.kin hk (thn (ha pos pins s σ H _ I h) fun us s1 ⟨vs, H1, I1, r, q⟩ => ⟨I1.kIn, ?_⟩) he hpl
  exact run_fn F hr hb hd hx I1 r q
theorem pe_meth {pl : Sem Bool} (he : PE X o ta) (c : Cls X.K C) (hm : Meth X.K C m f) (F : FnOk X.prog X.w X.K X.mg X.base CX k f fd ps sp) (hr : Room k X.A) (hb : Binds X.K fd ps ds) (hd : Vals dvs ds) (hx : Passes CX X E) (ha : PA X (e :: es) t)
    (hst : starEach (e :: es) X.env = (false, eval e X.env) :: starEach es X.env := by rfl) (hpl : (backTo pos (starEach es X.env)).any (·.1) = false := by rfl)
    (ht : eval (.Call (.Attribute o m apos) (e :: es) [] pos) X.env = (do
      let ov ← eval o X.env
      standAt apos.atName
      let (f, first) ← holding [ov] (getMethod ov m pl)
      callWith pos f first (backTo pos (starEach (e :: es) X.env)) (backToKw pos (keywordEach [] X.env))) := by rfl) :
    PE X (.Call (.Attribute o m apos) (e :: es) [] pos) (tMeth C m sp dvs E ta t) := by
  intro pins s σ H Q I h
  refine PySem.W.methodCall_KW (pl := pl) (thn (he pins s σ H _ I h) fun u s1 ⟨x, H1, I1, rx, a, dx, fs, ex, ea, l, q⟩ => ?_) ht
  subst ex
  obtain rfl : u = Value.ref a := rx
  refine getmeth_ok I1 ea c hm l ?_
  refine PySem.W.callWith_K (first := [.ref a]) (h₀ := X.base) I.ok.mod.kin hm.kp (thn (ha pos pins s1 σ H1 _ I1 q) fun us s2 ⟨vs, H2, I2, r, q2⟩ => ⟨I2.kIn, ?_⟩) hst hpl
  exact run_fn (us := .ref a :: us) (vs := .ref a :: vs) F hr hb hd hx I2 (.cons rfl r) q2
theorem pe_meth0 {pl : Sem Bool} (he : PE X o ta) (c : Cls X.K C) (hm : Meth X.K C m f) (F : FnOk X.prog X.w X.K X.mg X.base CX k f fd ps sp) (hr : Room k X.A) (hb : Binds X.K fd ps ds) (hd : Vals dvs ds) (hx : Passes CX X E)
    (ht : eval (.Call (.Attribute o m apos) [] [] pos) X.env = (do
      let ov ← eval o X.env
      standAt apos.atName
      let (f, first) ← holding [ov] (getMethod ov m pl)
      callWith pos f first (backTo pos (starEach [] X.env)) (backToKw pos (keywordEach [] X.env))) := by rfl) :
    PE X (.Call (.Attribute o m apos) [] [] pos) (tMeth C m sp dvs E ta tNil) := by
  intro pins s σ H Q I h
  refine PySem.W.methodCall_KW (pl := pl) (thn (he pins s σ H _ I h) fun u s1 ⟨x, H1, I1, rx, a, dx, fs, ex, ea, l, q⟩ => ?_) ht
  subst ex
  obtain rfl : u = Value.ref a := rx
  refine getmeth_ok I1 ea c hm l ?_
  exact PySem.W.callWith_K0 (first := [.ref a]) I1.kIn hm.kp (run_fn (us := [.ref a]) (vs := [.ref a]) F hr hb hd hx I1 (.cons rfl .nil) q)

structure Mk (K : PySem.W.Frag) (C f : Addr) : Prop where
  makes : PySem.W.makesIn K C = true
  init : PySem.W.findIn K (.ref C) "__init__" = some (some (.ref f))
  fn : PySem.W.isFn K (.ref f) = true
  kp : PySem.W.keepIn K (.ref C) = true

theorem run_make {pins : List (Addr × Obj)} {σ : St} {H : Hp} {s : Shared} {Q : VK} {us : List Value} {vs : List V} (M : Mk X.K C f) (F : FnOk X.prog X.w X.K X.mg X.base CX k f fd ps sp) (hr : Room (k + 1) X.A) (hb : Binds X.K fd ps ds) (hd : Vals dvs ds)
    (hx : Passes CX X E) (I : Inv X pins σ H s) (r : Vals vs us)
    (h : ∀ x dx, H x = none → H dx = none → dx ≠ x → sp (.ref x :: (vs ++ dvs)) (upd (upd H dx (.own x)) x (.ins C dx [])) (fun v H2 => v = .non ∧ Q (.ref x) H2) E) :
    wpAny (model X.prog X.w) X.A (call (.ref C) us) (EP X pins σ Q) X.xe s := by
  have hq := h (s.heap.objs.size + 1) s.heap.objs.size (I.hok.fresh (Nat.le_succ _)) (I.hok.fresh (Nat.le_refl _)) (Nat.ne_of_lt (Nat.lt_succ_self _))
  have I2 := Inv.made (C := C) I
  have r2 : Vals (V.ref (s.heap.objs.size + 1) :: (vs ++ dvs)) (Value.ref (s.heap.objs.size + 1) :: (us ++ ds)) := .cons rfl (r.append hd)
  have hl : (Value.ref (s.heap.objs.size + 1) :: us ++ ds).length = ps.length := by
    have e := r2.length
    rw [F.len _ _ _ _ hq] at e
    exact e.symm
  refine wpAny_call (make_map (f := f) I.kIn M.makes M.init (beq_iff_eq.mp M.fn) (codeAny_mono (F.run _ X.stack _ _ ⟨Value.ref (s.heap.objs.size + 1) :: us, []⟩ (Value.ref (s.heap.objs.size + 1) :: (us ++ ds)) _ _ E (hr.make C us [])
    (I2.env0.make C us []) (hb _ (Value.ref (s.heap.objs.size + 1) :: us) I2.kIn hl) r2 hq) fun r s' hq' => ?_))
  cases r with
  | error e => exact hx pins σ _ _ e s' I2 hq'
  | ok fl =>
    cases fl with
    | ret u =>
      obtain ⟨v, H', I3, rv, ev, q3⟩ := I2.after hq'
      subst ev
      exact ⟨rv, ⟨V.ref (s.heap.objs.size + 1), H', I3, rfl, q3⟩⟩
    | next => exact False.elim hq'
    | brk => exact False.elim hq'
    | cont => exact False.elim hq'
theorem pe_make (M : Mk X.K C f) (F : FnOk X.prog X.w X.K X.mg X.base CX k f fd ps sp) (hr : Room (k + 1) X.A) (hg : Gl X x) (hm : X.mg x = some (.ref C)) (hb : Binds X.K fd ps ds) (hd : Vals dvs ds) (hx : Passes CX X E)
    (ha : PA X (e :: es) t) (hdb : (x == ("__debug__" : Str)) = false := by decide) (he : starEach (e :: es) X.env = (false, eval e X.env) :: starEach es X.env := by rfl) (hpl : (backTo pos (starEach es X.env)).any (·.1) = false := by rfl) :
    PE X (.Call (.Name x p) (e :: es) [] pos) (tMake C sp dvs E t) := by
  intro pins s σ H Q I h
  refine wpAny_Call_Name_kw (ld_glob I hg hm ?_ hdb)
  refine PySem.W.callWith_K (h₀ := X.base) I.ok.mod.kin M.kp (thn (ha pos pins s σ H _ I h) fun us s1 ⟨vs, H1, I1, r, q⟩ => ⟨I1.kIn, ?_⟩) he hpl
  exact run_make M F hr hb hd hx I1 r q
theorem pe_make0 (M : Mk X.K C f) (F : FnOk X.prog X.w X.K X.mg X.base CX k f fd ps sp) (hr : Room (k + 1) X.A) (hg : Gl X x) (hm : X.mg x = some (.ref C)) (hb : Binds X.K fd ps ds) (hd : Vals dvs ds) (hx : Passes CX X E)
    (hdb : (x == ("__debug__" : Str)) = false := by decide) : PE X (.Call (.Name x p) [] [] pos) (tMake C sp dvs E tNil) := by
  intro pins s σ H Q I h
  refine wpAny_Call_Name_kw (ld_glob I hg hm ?_ hdb)
  exact PySem.W.callWith_K0 I.kIn M.kp (run_make (us := []) M F hr hb hd hx I .nil h)
end

section
variable {X : Cx} {CX : CXT} {k : Nat} {f C : Addr} {fd : FuncData} {ps ks : List Str} {sp : Sp} {E : XK} {x m : Str} {p pos apos kpos : Pos} {e o : Expr} {es : List Expr} {kws : List Keyword} {te ta : TE} {t tk : TA} {nm : Option Str}
variable {g : List Value → List Value → List Value} {gV : List V → List V → List V}
end

structure FnScope (N P : List Str) (sc : Scope) : Prop where
  kind : sc.kind = .function
  co : sc.isCoroutine = false
  gen : sc.isGenerator = false
  nd : N.Nodup
  pre : N.take P.length = P
  par : ∀ x ∈ P, sc.names.lookup x = some .local ∨ sc.names.lookup x = some .cell
  nofree : ∀ y ∈ sc.names, y.2 ≠ .free

theorem bindL_out {kindOf : Str → Option NameKind} {x : Str} : ∀ {binds : List (Str × Value)} {m : Str → Option Value}, (∀ v, (x, v) ∉ binds) → bindL kindOf binds m x = m x
  | [], _, _ => rfl
  | (n, v) :: r, m, h => by
    unfold bindL
    rw [bindL_out fun w hw => h w (List.mem_cons_of_mem _ hw)]
    split
    · have : x ≠ n := by rintro rfl; exact h v List.mem_cons_self
      simp [this]
    · rfl
theorem bindC_out {kindOf : Str → Option NameKind} {x : Str} : ∀ {binds : List (Str × Value)} {m : Str → Option Value}, (∀ v, (x, v) ∉ binds) → bindC kindOf binds m x = m x
  | [], _, _ => rfl
  | (n, v) :: r, m, h => by
    unfold bindC
    rw [bindC_out fun w hw => h w (List.mem_cons_of_mem _ hw)]
    split
    · rfl
    · have : x ≠ n := by rintro rfl; exact h v List.mem_cons_self
      simp [this]
theorem bindL_get {kindOf : Str → Option NameKind} {x : Str} {v : Value} : ∀ {P : List Str} {vs : List Value} {i : Nat} {m : Str → Option Value}, P.Nodup → P[i]? = some x → vs[i]? = some v → kindOf x = some .local →
    bindL kindOf (P.zip vs) m x = some v
  | [], _, _, _, _, h, _, _ => by simp at h
  | _ :: _, [], _, _, _, _, h, _ => by simp at h
  | p :: P, w :: vs, 0, m, nd, h1, h2, hk => by
    simp at h1 h2; subst h1; subst h2
    show bindL kindOf ((p, w) :: P.zip vs) m p = _
    unfold bindL
    rw [bindL_out fun v hv => (List.nodup_cons.mp nd).1 (List.of_mem_zip hv).1, if_pos hk]
    simp
  | p :: P, w :: vs, i + 1, m, nd, h1, h2, hk => by
    show bindL kindOf ((p, w) :: P.zip vs) m x = _
    unfold bindL
    exact bindL_get (i := i) (List.nodup_cons.mp nd).2 (by simpa using h1) (by simpa using h2) hk
theorem bindC_get {kindOf : Str → Option NameKind} {x : Str} {v : Value} : ∀ {P : List Str} {vs : List Value} {i : Nat} {m : Str → Option Value}, P.Nodup → P[i]? = some x → vs[i]? = some v → kindOf x ≠ some .local →
    bindC kindOf (P.zip vs) m x = some v
  | [], _, _, _, _, h, _, _ => by simp at h
  | _ :: _, [], _, _, _, _, h, _ => by simp at h
  | p :: P, w :: vs, 0, m, nd, h1, h2, hk => by
    simp at h1 h2; subst h1; subst h2
    show bindC kindOf ((p, w) :: P.zip vs) m p = _
    unfold bindC
    rw [bindC_out fun v hv => (List.nodup_cons.mp nd).1 (List.of_mem_zip hv).1, if_neg hk]
    simp
  | p :: P, w :: vs, i + 1, m, nd, h1, h2, hk => by
    show bindC kindOf ((p, w) :: P.zip vs) m x = _
    unfold bindC
    exact bindC_get (i := i) (List.nodup_cons.mp nd).2 (by simpa using h1) (by simpa using h2) hk

def start (N : List Str) (vs : List V) : St := vs.map some ++ List.replicate (N.length - vs.length) none

def cxOf (CX : CXT) (P : Program) (w : World) (K : PySem.W.Frag) (mg : Str → Option Value) (base : Heap) (N : List Str) (qual : Str) (scope : Scope) (f : Addr) (cd : Value) (A : Around) (outer : List Env) (s : Shared) (H : Hp) (E : XK) : Cx where
  prog := P
  w := w
  K := K
  mg := mg
  base := base
  A := A.deeper (envOfC qual scope s.heap.objs.size f cd)
  N := N
  s₀ := s
  H₀ := H
  env := envOfC qual scope s.heap.objs.size f cd
  outer := outer
  stack := envOfC qual scope s.heap.objs.size f cd :: outer
  ex := []
  calm := true
  fn := fun _ => true
  pn := []
  xe := fun e s' => wpAny (model P w) (A.deeper (envOfC qual scope s.heap.objs.size f cd)) (leaving (envOfC qual scope s.heap.objs.size f cd) e) (fun _ s'' => CX outer H s E e s'') (fun e' s'' => CX outer H s E e' s'') s'

theorem cell_has {sc : Scope} {n : Nat} {x : Str} (h : sc.names.lookup x = some .cell) : ∃ c, (cellsFrom n sc.names []).lookup x = some c := by
  have q := PySem.W.cellsFrom_some sc.names n [] (.inl h)
  exact Option.isSome_iff_exists.mp q

theorem inv_start {CX : CXT} {P : Program} {w : World} {K : PySem.W.Frag} {mg : Str → Option Value} {base : Heap} {N ps : List Str} {qual : Str} {scope : Scope} {f : Addr} {cd : Value} {A : Around} {outer : List Env} {s s1 : Shared} {H : Hp} {E : XK} {us : List Value} {vs : List V}
    (S : FnScope N ps scope) (hd : A.handled = none) (e0 : Env0 P w K mg base A outer s H) (hl : vs.length = ps.length) (r : Vals vs us)
    (x : InCallC s s.heap.objs.size (bindL (envOfC qual scope s.heap.objs.size f cd).kindOf (ps.zip us) fun _ => none) (cellsFrom (s.heap.objs.size + 1) scope.names []) (bindC (envOfC qual scope s.heap.objs.size f cd).kindOf (ps.zip us) fun _ => none) s1) :
    Inv (cxOf CX P w K mg base N qual scope f cd A outer s H E) [] (start N vs) H s1 := by
  have hpl : ps.length ≤ N.length := by have := congrArg List.length S.pre; rw [List.length_take] at this; omega
  obtain ⟨h1, tk, rfl, hk⟩ := x.done
  have noA : ∀ b : Addr, b ∉ (cxOf CX P w K mg base N qual scope f cd A outer s H E).ex := fun b z => absurd (show b ∈ ([] : List Addr) from z) (by simp)
  refine ⟨⟨e0.mod, S.kind, rfl, rfl, Nat.le_refl _, fun y z c h1 h2 => ?_, fun y hy => ?_, fun y c _ h => ?_, fun _ => hd, Around.frames_deeper e0.frames, .inr ⟨rfl, rfl⟩, fun b z => absurd z (noA b), e0.bs, e0.bsz, fun b _ _ => noA b, fun b z => absurd z (noA b), e0.funs, e0.frf⟩,
    rfl, e0.bare, Un.kept hk, ⟨_, x.toInCall.ns, fun i y v h1 h2 h3 => ?_⟩, fun y c h => ⟨_, x.cell y c h⟩, e0.hok.fresh (Nat.le_refl _), fun y c h => ?_, fun p hp => absurd (show p ∈ ([] : List (Addr × Obj)) from hp) (by simp), e0.hok.kept hk, ?_⟩
  · exact name_of_addr x.apart (PySem.mem_of_lookup h1) (PySem.mem_of_lookup h2)
  · have hy : scope.names.lookup y = some .cell ∨ scope.names.lookup y = some .free := hy
    rcases hy with hy | hy
    · exact cell_has hy
    · exact absurd rfl (S.nofree _ (PySem.mem_of_lookup hy))
  · exact Nat.le_of_lt (x.above y c (PySem.mem_of_lookup h))
  · have hi : i < vs.length := by
      unfold start at h2
      by_cases hi : i < vs.length
      · exact hi
      · rw [List.getElem?_append_right (by simpa using hi)] at h2
        rw [List.getElem?_replicate] at h2
        split at h2 <;> cases h2
    have ha : vs[i]? = some v := by
      unfold start at h2
      rw [List.getElem?_append_left (by simpa using hi), List.getElem?_map] at h2
      cases e : vs[i]? with
      | none => rw [e] at h2; cases h2
      | some a => rw [e] at h2; cases h2; rfl
    obtain ⟨u, hu, rv⟩ := r.get ha
    have hp : ps[i]? = some y := by
      rw [← S.pre, List.getElem?_take_of_lt (by omega)]; exact h1
    have ndP : ps.Nodup := by rw [← S.pre]; exact S.nd.sublist (List.take_sublist _ _)
    refine ⟨u, rv, ?_⟩
    rcases S.par y (List.mem_of_getElem? hp) with k | k
    · exact .inl ⟨k, bindL_get ndP hp hu k⟩
    · obtain ⟨c, e⟩ := cell_has (n := s.heap.objs.size + 1) k
      refine .inr ⟨.inl k, c, e, ?_⟩
      have q := x.cell y c e
      rw [bindC_get ndP hp hu (by show scope.names.lookup y ≠ _; rw [k]; decide)] at q
      exact q
  · exact e0.hok.fresh (Nat.le_of_lt (x.above y c (PySem.mem_of_lookup h)))
  · unfold start
    show _ = N.length
    rw [List.length_append, List.length_map, List.length_replicate]
    omega

theorem fn_of {CX : CXT} {P : Program} {w : World} {K : PySem.W.Frag} {mg : Str → Option Value} {base : Heap} {k : Nat} {f : Addr} {name qual : Str} {params : Arguments} {body : List Stmt} {scope : Scope} {dV kV doc pm cdv ct oc : Value} {an od : Option Addr}
    {osl : Array (Option Value)} {N ps : List Str} {sp : Sp} (lk : K.lookup f = some ⟨oc, od, .func (PySem.W.fnOf name qual params body scope dV kV doc pm an cdv ct), osl⟩) (hcd : PySem.W.codeIn K cdv qual = true) (S : FnScope N ps scope)
    (len : ∀ vs H Q E, sp vs H Q E → vs.length = ps.length)
    (hbody : ∀ (A : Around) (outer : List Env) (s : Shared) (H : Hp) (vs : List V) (Q : VK) (E : XK), Room k (A.deeper (envOfC qual scope s.heap.objs.size f cdv)) → sp vs H Q E →
      ∃ t, PSs (cxOf CX P w K mg base N qual scope f cdv A outer s H E) body t ∧ t { nx := fun _ H' => Q .non H', rt := Q } (start N vs) H) :
    FnOk P w K mg base CX (k + 1) f (PySem.W.fnOf name qual params body scope dV kV doc pm an cdv ct) ps sp := by
  refine ⟨len, fun A outer s H args us vs Q E hr e0 hb r hsp => ?_⟩
  have hl := len _ _ _ _ hsp
  have KX : K.In s.heap := e0.mod.kin.keeps fun b o e => (e0.bs b o e).1
  have lim : s.heap.NoLimit := e0.mod.nolimit.keeps fun b o e => (e0.bs b o e).1
  have hkind : ∀ y ∈ ps.zip us, scope.names.lookup y.1 = some .local ∨ (scope.names.lookup y.1 = some .cell ∧ ((cellsFrom (s.heap.objs.size + 1) scope.names []).lookup y.1).isSome = true) := fun ⟨n, v⟩ hy => by
    rcases S.par n (List.of_mem_zip hy).1 with q | q
    · exact .inl q
    · exact .inr ⟨q, PySem.W.cellsFrom_some _ _ _ (.inl q)⟩
  refine codeAny_call_function hr.depth (KX _ _ lk) rfl S.co S.gen rfl (PySem.W.codeRec_of KX hcd) (hb _ _ _ _ ?_)
  refine wpAny_newFunctionEnv_cells S.kind hkind fun env he s1 x => ?_
  subst he
  refine ⟨lim.keeps x.toInCall.keep, codeAny_func ?_⟩
  obtain ⟨t, ht, hq⟩ := hbody A outer s H vs Q E (hr.deeper _) hsp
  have I : Inv (cxOf CX P w K mg base N qual scope f cdv A outer s H E) [] (start N vs) H s1 := inv_start S hr.hd e0 hl r x
  refine wpAny_mono (ht [] s1 (start N vs) H _ I hq) (fun fl s' hs => ?_) fun e s' hs => hs
  have fin : ∀ {σ' : St} {H' : Hp} {v : V} {u : Value}, Inv (cxOf CX P w K mg base N qual scope f cdv A outer s H E) [] σ' H' s' → RelV v u → Q v H' → CE outer P w H s Q u s' :=
    fun {σ' H' v u} J rv q => ⟨v, H', J.os, J.bare, J.base, J.hok, rv, q⟩
  cases fl with
  | ret u =>
    obtain ⟨v, σ', H', J, rv, q⟩ := hs
    exact fin J rv q
  | next =>
    obtain ⟨σ', H', J, q⟩ := hs
    exact fin (v := V.non) (u := Value.none) J rfl q
  | brk =>
    obtain ⟨_, _, _, q⟩ := hs
    exact False.elim q
  | cont =>
    obtain ⟨_, _, _, q⟩ := hs
    exact False.elim q
end L2

namespace L2
open PySem PySem.Spec PyProof.Rows
section
variable {X : Cx} {x : Str} {p pos : Pos} {e : Expr} {es : List Expr} {t : TA} {id T : String} {r : List V → Hp → VK → Prop}

def tCB (r : List V → Hp → VK → Prop) (t : TA) : TE := fun σ H Q => t σ H fun vs H1 => r vs H1 Q
theorem pe_callB (hc : CallR X (.builtin id) r) (hg : Gl X x) (hm : X.mg x = none) (hv : bootBuiltins x = some (.builtin id)) (ha : PA X (e :: es) t) (hn : x ≠ "__name__" := by decide) (hdb : (x == ("__debug__" : Str)) = false := by decide)
    (he : starEach (e :: es) X.env = (false, eval e X.env) :: starEach es X.env := by rfl) (hpl : (backTo pos (starEach es X.env)).any (·.1) = false := by rfl) : PE X (.Call (.Name x p) (e :: es) [] pos) (tCB r t) := by
  intro pins s σ H Q I h
  refine wpAny_Call_Name_kw (ld_blt I hg hm hv ?_ hn hdb)
  exact PyProof.Rows.callWith_builtin1 (thn (ha pos pins s σ H _ I h) fun us s1 ⟨vs, H1, I1, r1, q1⟩ => hc pins s1 σ H1 vs us Q I1 r1 q1) he hpl
theorem pe_callTy (hc : CallR X (.type T) r) (hg : Gl X x) (hm : X.mg x = none) (hv : bootBuiltins x = some (.type T)) (ha : PA X (e :: es) t) (hn : x ≠ "__name__" := by decide) (hdb : (x == ("__debug__" : Str)) = false := by decide)
    (he : starEach (e :: es) X.env = (false, eval e X.env) :: starEach es X.env := by rfl) (hpl : (backTo pos (starEach es X.env)).any (·.1) = false := by rfl) : PE X (.Call (.Name x p) (e :: es) [] pos) (tCB r t) := by
  intro pins s σ H Q I h
  refine wpAny_Call_Name_kw (ld_blt I hg hm hv ?_ hn hdb)
  exact PyProof.Rows.callWith_type1 (thn (ha pos pins s σ H _ I h) fun us s1 ⟨vs, H1, I1, r1, q1⟩ => hc pins s1 σ H1 vs us Q I1 r1 q1) he hpl
end
end L2

namespace HT
open PySem PyProof.Rows

section
open PySem.SeqAt
open PySem.AutoSeq1 (wpAny_loadPart')
open PySem.MeetsSeq PySem.MeetsSeq2 PySem.MeetsSeq3

end

section
variable {prog : Program} {w : World} {A : Around} {E : Value → Shared → Prop} {s : Shared}

def sIx (n d : Nat) : Option Int → Nat
  | none => d
  | some v => if v < 0 then (v + (n : Int)).toNat else min v.toNat n
theorem sIx_nat (n d k : Nat) : sIx n d (some (k : Int)) = min k n := by
  show (if (k : Int) < 0 then ((k : Int) + (n : Int)).toNat else min (k : Int).toNat n) = min k n
  rw [if_neg (by omega), Int.toNat_natCast]
end
end HT

namespace L2
open PySem PySem.Spec PyProof.Rows

abbrev TO := St → Hp → (Option Int → Hp → Prop) → Prop
def PO (X : Cx) (e : Option Expr) (t : TO) : Prop :=
  ∀ (pins : List (Addr × Obj)) (s : Shared) (σ : St) (H : Hp) (Q : Option Int → Hp → Prop), Inv X pins σ H s → t σ H Q →
    wpAny (model X.prog X.w) X.A (evalPart e X.env) (fun u s' => ∃ o H', Inv X pins σ H' s' ∧ IsPart u o ∧ Q o H') X.xe s
def tNoPart : TO := fun _ H Q => Q none H
def tPart (t : TE) : TO := fun σ H Q => t σ H fun x H1 => ∃ i, x = .int i ∧ Q (some i) H1

section
variable {X : Cx} {e : Expr} {te : TE} {lo hi : Option Expr} {tl th : TO} {pos p2 : Pos}

theorem po_none : PO X none tNoPart := by
  intro pins s σ H Q I h
  rw [evalPart_none]
  exact wpAny_pure ⟨none, H, I, .none, h⟩
theorem po_some (h : PE X e te) : PO X (some e) (tPart te) := by
  intro pins s σ H Q I hw
  rw [evalPart_some]
  refine thn (h pins s σ H _ I hw) fun u s1 ⟨x, H1, I1, r1, q1⟩ => ?_
  obtain ⟨i, rfl, q⟩ := q1
  obtain ⟨t, rfl⟩ := r1
  exact ⟨some i, H1, I1, .int i t, q⟩

def SlR (X : Cx) (r : V → Option Int → Option Int → Hp → VK → Prop) : Prop :=
  ∀ (pins : List (Addr × Obj)) (s : Shared) (σ : St) (H : Hp) (x : V) (v vl vu : Value) (lo hi : Option Int) (sl : Addr) (Q : VK), Inv X pins σ H s → RelV x v → s.heap.IsSliceOf sl vl vu .none → IsPart vl lo → IsPart vu hi → r x lo hi H Q →
    ∃ T id, typeLookup (.type T) "__getitem__" = pure (some (.builtin id)) ∧ s.TypeIs v T ∧ wpAny (model X.prog X.w) X.A (getItem v (.ref sl)) (EP X pins σ Q) X.xe s
def tSl (r : V → Option Int → Option Int → Hp → VK → Prop) (te : TE) (tl th : TO) : TE := fun σ H Q => te σ H fun x H1 => tl σ H1 fun l H2 => th σ H2 fun u H3 => r x l u H3 Q
theorem pe_slice {r : V → Option Int → Option Int → Hp → VK → Prop} (hr : SlR X r) (he : PE X e te) (hl : PO X lo tl) (hu : PO X hi th) : PE X (.Subscript e (.Slice lo hi none p2) pos) (tSl r te tl th) := by
  intro pins s σ H Q I h
  refine Subscript_ (thn (he pins s σ H _ I h) fun v s1 ⟨x, H1, I1, r1, q1⟩ => ?_)
  refine wpAny_Slice (thn (hl pins s1 σ H1 _ I1 q1) fun vl s2 ⟨l, H2, I2, pl, q2⟩ => thn (hu pins s2 σ H2 _ I2 q2) fun vu s3 ⟨u, H3, I3, pu, q3⟩ => ?_)
  rw [evalPart_none]
  refine wpAny_pure ?_
  have I4 : Inv X pins σ H3 { s3 with heap := s3.heap.push { cls := .type "slice", data := .fields #[vl, vu, .none] } } := I3.kept (t' := s3.toks) fun b ob q => Heap.get?_push_of_some _ q
  obtain ⟨T, id, hT, ht, hg⟩ := hr pins { s3 with heap := s3.heap.push { cls := .type "slice", data := .fields #[vl, vu, .none] } } σ H3 x v vl vu l u s3.heap.objs.size Q I4 r1 (Heap.IsSliceOf.new ..) pl pu q3
  show wpAny (model X.prog X.w) X.A (subscriptTail e (.Slice lo hi none p2) v (.ref s3.heap.objs.size)) (EP X pins σ Q) X.xe { s3 with heap := s3.heap.push { cls := .type "slice", data := .fields #[vl, vu, .none] } }
  exact tail_any (ops := [.ref s3.heap.objs.size, v]) ht hT hg (by with_unfolding_all rfl)

def cutV (xs : List V) (lo hi : Option Int) : List V := (xs.drop (HT.sIx xs.length 0 lo)).take (HT.sIx xs.length xs.length hi - HT.sIx xs.length 0 lo)
theorem cutV_length (xs : List V) (lo hi : Option Int) : (cutV xs lo hi).length ≤ xs.length := by
  unfold cutV
  exact Nat.le_trans (List.length_take_le' _ _) (by rw [List.length_drop]; exact Nat.sub_le _ _)
end
end L2

namespace L2
open PySem PySem.Spec PyProof.Rows

def ixN (n : Nat) (i : Int) : Option Nat := if 0 ≤ i then (if i < n then some i.toNat else none) else if -(n : Int) ≤ i then some (i + n).toNat else none
def atI {α : Type} (xs : List α) (i : Int) : Option α := (ixN xs.length i).bind fun j => xs[j]?
theorem ixN_seq {n : Nat} {i : Int} {j : Nat} (h : ixN n i = some j) : seqIndex? i n = some j ∧ j < n ∧ -(n : Int) ≤ i ∧ i < n := by
  unfold ixN at h
  by_cases h0 : 0 ≤ i
  · rw [if_pos h0] at h
    by_cases h1 : i < n
    · rw [if_pos h1] at h
      have e : i.toNat = j := Option.some.inj h
      exact ⟨by rw [seqIndex_of h0 h1, e], by omega, by omega, h1⟩
    · rw [if_neg h1] at h; cases h
  · rw [if_neg h0] at h
    by_cases h1 : -(n : Int) ≤ i
    · rw [if_pos h1] at h
      have e : (i + n).toNat = j := Option.some.inj h
      exact ⟨by rw [seqIndex_neg (by omega) h1, e], by omega, h1, by omega⟩
    · rw [if_neg h1] at h; cases h
theorem atI_get {α : Type} {xs : List α} {i : Int} {v : α} (h : atI xs i = some v) : ∃ j, seqIndex? i xs.length = some j ∧ xs[j]? = some v ∧ j < xs.length ∧ -(xs.length : Int) ≤ i ∧ i < xs.length := by
  unfold atI at h
  cases e : ixN xs.length i with
  | none => rw [e] at h; cases h
  | some j =>
    rw [e] at h
    obtain ⟨h1, h2, h3, h4⟩ := ixN_seq e
    exact ⟨j, h1, h, h2, h3, h4⟩
theorem atI_nat {α : Type} {xs : List α} {j : Nat} {v : α} (h : xs[j]? = some v) : atI xs (j : Int) = some v := by
  have hj : j < xs.length := (List.getElem?_eq_some_iff.mp h).1
  have e : ixN xs.length (j : Int) = some j := by
    unfold ixN
    rw [if_pos (by omega), if_pos (by omega)]; simp
  unfold atI; rw [e]; exact h
def PlainIx (b : Expr) : Prop := ∀ o i, subscripted b false o i = operate [o, i] (getItem o i)
def IxR (X : Cx) (r : R2) : Prop :=
  ∀ (value slice : Expr) (pins : List (Addr × Obj)) (s : Shared) (σ : St) (H : Hp) (x y : V) (v u : Value) (Q : VK), Inv X pins σ H s → RelV x v → RelV y u → r x y H Q →
    subscripted slice false v u = operate [v, u] (getItem v u) → wpAny (model X.prog X.w) X.A (subscriptTail value slice v u) (EP X pins σ Q) X.xe s
def MtR (X : Cx) (id : String) (r : V → List V → Hp → VK → Prop) : Prop :=
  ∀ (pins : List (Addr × Obj)) (s : Shared) (σ : St) (H : Hp) (x : V) (xs : List V) (v : Value) (us : List Value) (Q : VK), Inv X pins σ H s → RelV x v → Vals xs us → r x xs H Q →
    wpAny (model X.prog X.w) X.A (call (.builtin id) (v :: us)) (EP X pins σ Q) X.xe s
section
variable {X : Cx} {a b : Expr} {ta tb : TE} {pos : Pos}
theorem pe_ix {r : R2} (hr : IxR X r) (ha : PE X a ta) (hb : PE X b tb) (hs : PlainIx b) : PE X (.Subscript a b pos) (tOp r ta tb) := by
  intro pins s σ H Q I h
  exact Subscript_ (binT ha hb I h fun v u s2 x y H2 I2 rx ry q => hr a b pins s2 σ H2 x y v u Q I2 rx ry q (hs _ _))

def rIxL (K : PySem.W.Frag) : R2 := fun x y H Q => ∃ p xs i v, x = .ref p ∧ y = .int i ∧ SqL K H p xs ∧ atI xs i = some v ∧ Q v H
def rIxT (K : PySem.W.Frag) : R2 := fun x y H Q => ∃ p xs i v, x = .ref p ∧ y = .int i ∧ SqT K H p xs ∧ atI xs i = some v ∧ Q v H
theorem ix_list : IxR X (rIxL X.K) := by
  intro value slice pins s σ H x y v u Q I rx ry h hs
  obtain ⟨p, xs, i, z, rfl, rfl, hq, he, q⟩ := h
  cases rx
  obtain ⟨t, rfl⟩ := ry
  obtain ⟨its, r, pl, hz⟩ := I.list hq
  obtain ⟨j, h1, h2, h3, h4, h5⟩ := atI_get he
  obtain ⟨w, ew, rw'⟩ := r.get h2
  have hl := r.length
  have hn := line63
  have fin : EP X pins σ Q w s := ⟨z, H, I, rw', q⟩
  by_cases h0 : 0 ≤ i
  · have hj : i.toNat = j := by
      rw [seqIndex_of h0 h5] at h1
      exact Option.some.inj h1
    exact item_listR pl.isList h0 (by omega) (by rw [hj]; simpa using ew) fin hs
  · have hj : (i + (its.toArray.size : Int)).toNat = j := by
      rw [seqIndex_neg (by omega) h4] at h1
      rw [List.size_toArray, ← hl]
      exact Option.some.inj h1
    exact subscriptTail_builtinR (x := w) pl.isList.typeIs slot_list_getitem.lookup
      (wpAny_getItem_list_neg (Q := fun r s' => r = w ∧ EP X pins σ Q r s') pl.isList (by omega) (by rw [List.size_toArray] <;> omega) (by omega) (by rw [hj]; simpa using ew) ⟨rfl, fin⟩) hs
theorem ix_tup : IxR X (rIxT X.K) := by
  intro value slice pins s σ H x y v u Q I rx ry h hs
  obtain ⟨p, xs, i, z, rfl, rfl, hq, he, q⟩ := h
  cases rx
  obtain ⟨t, rfl⟩ := ry
  obtain ⟨its, r, pl, hz⟩ := I.tuple hq
  obtain ⟨j, h1, h2, h3, h4, h5⟩ := atI_get he
  obtain ⟨w, ew, rw'⟩ := r.get h2
  have hl := r.length
  have hn := line63
  have fin : EP X pins σ Q w s := ⟨z, H, I, rw', q⟩
  exact subscriptTail_builtinR (x := w) pl.typeIs slot_tuple_getitem.lookup
    (getItem_tuple (j := j) (Q := fun r s' => r = w ∧ EP X pins σ Q r s') pl (by omega) (by omega) (by rw [List.size_toArray, ← hl]; exact h1) (by simpa using ew) ⟨rfl, fin⟩) hs
theorem sbA (lo hi : Option Int) (n : Nat) : (sliceBounds lo hi none n).1 = ((HT.sIx n 0 lo : Nat) : Int) := by
  cases lo with
  | none => simp [sliceBounds, HT.sIx]
  | some i =>
    simp only [sliceBounds, HT.sIx, Option.getD_none, show (1 : Int) > 0 by decide, if_true]
    by_cases h : i < 0
    · simp only [h, if_true] <;> omega
    · simp only [h, if_false] <;> omega
theorem slice_bounds (lo hi : Option Int) (n : Nat) : (sliceBounds lo hi none n).1 = ((HT.sIx n 0 lo : Nat) : Int) ∧ (sliceBounds lo hi none n).2.1 = ((HT.sIx n n hi : Nat) : Int) ∧ (sliceBounds lo hi none n).2.2 = 1 := by
  refine ⟨sbA lo hi n, ?_, rfl⟩
  cases hi with
  | none => simp [sliceBounds, HT.sIx]
  | some i => exact sbA (some i) lo n
theorem slicePick_cut (its : List Value) (lo hi : Option Int) : slicePick its.toArray lo hi none = ((its.drop (HT.sIx its.length 0 lo)).take (HT.sIx its.length its.length hi - HT.sIx its.length 0 lo)).toArray := by
  obtain ⟨h1, h2, h3⟩ := slice_bounds lo hi its.toArray.size
  unfold slicePick
  rw [h1, h2, h3]
  simp only [sliceRange_one, pick_run, List.size_toArray] <;> rfl
def rSlL (K : PySem.W.Frag) : V → Option Int → Option Int → Hp → VK → Prop := fun x lo hi H Q => ∃ a xs, x = .ref a ∧ SqL K H a xs ∧ ∀ p, H p = none → Q (.ref p) (upd H p (.lst (cutV xs lo hi)))
theorem sl_list : SlR X (rSlL X.K) := by
  intro pins s σ H x v vl vu lo hi sl Q I rx hs pl pu h
  obtain ⟨a, xs, rfl, hx, q⟩ := h
  cases rx
  obtain ⟨its, r, ht, hz⟩ := I.list hx
  have hlen := r.length
  refine ⟨"list", _, slot_list_getitem.lookup, ht.isList.typeIs, ?_⟩
  refine wpAny_getItem_list_slice ht.isList hs pl pu .none (by simp) ?_ (by rw [List.size_toArray] <;> omega)
  rw [slicePick_cut, ← hlen]
  refine ⟨.ref s.heap.objs.size, _, I.laid (t' := s.toks) (o := .lst (cutV xs lo hi)) (fun b ob q => Heap.get?_push_of_some _ q) (Nat.le_refl _) ?_, rfl, q _ (I.hok.fresh (Nat.le_refl _))⟩
  exact ⟨Nat.le_trans (cutV_length xs lo hi) hz, _, 0, (r.drop (HT.sIx xs.length 0 lo)).take (HT.sIx xs.length xs.length hi - HT.sIx xs.length 0 lo), Heap.get?_push_size _ rfl⟩

def flatV : V → Bool
  | .non => true
  | .bl _ => true
  | .int _ => true
  | .str _ => true
  | _ => false
def eqV : V → V → Bool
  | .non, .non => true
  | .bl a, .bl b => a == b
  | .bl a, .int b => (if a then 1 else 0) == b
  | .int a, .bl b => a == (if b then 1 else 0)
  | .int a, .int b => a == b
  | .str a, .str b => a == b
  | _, _ => false
theorem eqAt_V {A : Around} {s : Shared} {y x : V} {u v : Value} (ry : RelV y u) (rx : RelV x v) (fy : flatV y = true) (fx : flatV x = true) : SeqAt.EqAt A s u v (eqV y x) := by
  cases y with
  | non =>
    cases ry
    cases x with
    | non => cases rx; exact SeqAt.EqAt.same _
    | bl b => cases rx; exact SeqAt.EqAt.none_bool b
    | int b => obtain ⟨t, rfl⟩ := rx; exact SeqAt.EqAt.none_int b t
    | str b => obtain ⟨t, rfl⟩ := rx; exact SeqAt.EqAt.none_str b t
    | _ => exact absurd (show false = true from fx) Bool.false_ne_true
  | bl a =>
    cases ry
    cases x with
    | non => cases rx; exact SeqAt.EqAt.bool_none a
    | bl b => cases rx; exact SeqAt.EqAt.bool_bool a b
    | int b => obtain ⟨t, rfl⟩ := rx; exact SeqAt.EqAt.bool_int a b t
    | str b => obtain ⟨t, rfl⟩ := rx; exact SeqAt.EqAt.bool_str a b t
    | _ => exact absurd (show false = true from fx) Bool.false_ne_true
  | int a =>
    obtain ⟨t', rfl⟩ := ry
    cases x with
    | non => cases rx; exact SeqAt.EqAt.int_none a t'
    | bl b => cases rx; exact SeqAt.EqAt.int_bool a t' b
    | int b => obtain ⟨t, rfl⟩ := rx; exact SeqAt.EqAt.int_int a t' b t
    | str b => obtain ⟨t, rfl⟩ := rx; exact SeqAt.EqAt.int_str a t' b t
    | _ => exact absurd (show false = true from fx) Bool.false_ne_true
  | str a =>
    obtain ⟨t', rfl⟩ := ry
    cases x with
    | non => cases rx; exact SeqAt.EqAt.str_none a t'
    | bl b => cases rx; exact SeqAt.EqAt.str_bool a t' b
    | int b => obtain ⟨t, rfl⟩ := rx; exact SeqAt.EqAt.str_int a t' b t
    | str b => obtain ⟨t, rfl⟩ := rx; exact SeqAt.EqAt.str_str a t' b t
    | _ => exact absurd (show false = true from fx) Bool.false_ne_true
  | _ => exact absurd (show false = true from fy) Bool.false_ne_true
def eqU (x : V) (u : Value) : Bool := match u with
  | .none => eqV .non x
  | .bool b => eqV (.bl b) x
  | .int i _ => eqV (.int i) x
  | .str z _ => eqV (.str z) x
  | _ => false
theorem eqU_of {x y : V} {u : Value} (r : RelV y u) (f : flatV y = true) : eqU x u = eqV y x := by
  cases y with
  | non => cases r; rfl
  | bl b => cases r; rfl
  | int i => obtain ⟨t, rfl⟩ := r; rfl
  | str z => obtain ⟨t, rfl⟩ := r; rfl
  | _ => exact absurd (show false = true from f) Bool.false_ne_true
theorem any_eqU {x : V} : ∀ {xs : List V} {us : List Value}, Vals xs us → xs.all flatV = true → us.any (eqU x) = xs.any fun y => eqV y x
  | _, _, .nil, _ => rfl
  | y :: xs, u :: us, .cons r t, f => by
    rw [List.all_cons, Bool.and_eq_true] at f
    rw [List.any_cons, List.any_cons, eqU_of r f.1, any_eqU t f.2]
theorem mem_eqAt {A : Around} {s : Shared} {x : V} {v : Value} (rx : RelV x v) (fx : flatV x = true) : ∀ {xs : List V} {us : List Value}, Vals xs us → xs.all flatV = true → ∀ u ∈ us, SeqAt.EqAt A s u v (eqU x u)
  | _, _, .nil, _ => fun u hu => by cases hu
  | y :: xs, u :: us, .cons r t, f => fun u' hu => by
    rw [List.all_cons, Bool.and_eq_true] at f
    rcases List.mem_cons.mp hu with rfl | hu
    · rw [eqU_of r f.1]; exact eqAt_V r rx f.1 fx
    · exact mem_eqAt rx fx t f.2 u' hu
def inV (x : V) (xs : List V) : Bool := xs.any fun y => eqV y x
def rIn (K : PySem.W.Frag) (neg : Bool) : R2 := fun x y H Q => ∃ p xs, y = .ref p ∧ (SqL K H p xs ∨ SqT K H p xs) ∧ flatV x = true ∧ xs.all flatV = true ∧ Q (.bl (if neg then !inV x xs else inV x xs)) H
theorem op_in_seq : OpR X (compareOp .In) (rIn X.K false) := by
  intro pins s σ H x y v u Q I rx ry h
  obtain ⟨p, xs, rfl, hq, fx, fs, q⟩ := h
  cases ry
  rcases hq with hq | hq
  · obtain ⟨its, r, pl, hz⟩ := I.list hq
    refine SeqAt.in_listAt (eqU x) pl.isList (fun w hw => mem_eqAt rx fx r fs w (by simpa using hw)) ⟨.bl _, H, I, rfl, ?_⟩
    rw [show its.toArray.any (eqU x) = its.any (eqU x) by simp, any_eqU r fs]
    exact q
  · obtain ⟨its, r, pl, hz⟩ := I.tuple hq
    refine SeqAt.in_tupleAt (eqU x) pl (fun w hw => mem_eqAt rx fx r fs w (by simpa using hw)) ⟨.bl _, H, I, rfl, ?_⟩
    rw [show its.toArray.any (eqU x) = its.any (eqU x) by simp, any_eqU r fs]
    exact q
theorem op_notIn_seq : OpR X (compareOp .NotIn) (rIn X.K true) := by
  intro pins s σ H x y v u Q I rx ry h
  obtain ⟨p, xs, rfl, hq, fx, fs, q⟩ := h
  cases ry
  rcases hq with hq | hq
  · obtain ⟨its, r, pl, hz⟩ := I.list hq
    refine SeqAt.notIn_listAt (eqU x) pl.isList (fun w hw => mem_eqAt rx fx r fs w (by simpa using hw)) ⟨.bl _, H, I, rfl, ?_⟩
    rw [show its.toArray.any (eqU x) = its.any (eqU x) by simp, any_eqU r fs]
    exact q
  · obtain ⟨its, r, pl, hz⟩ := I.tuple hq
    refine SeqAt.notIn_tupleAt (eqU x) pl (fun w hw => mem_eqAt rx fx r fs w (by simpa using hw)) ⟨.bl _, H, I, rfl, ?_⟩
    rw [show its.toArray.any (eqU x) = its.any (eqU x) by simp, any_eqU r fs]
    exact q
theorem call_len_seq : CallR X (.builtin "len") (fun xs H Q => ∃ p ys, xs = [.ref p] ∧ (SqL X.K H p ys ∨ SqT X.K H p ys) ∧ Q (.int ys.length) H) := by
  intro pins s σ H xs us Q I r h
  obtain ⟨p, ys, rfl, hq, q⟩ := h
  obtain ⟨u, rfl, rx⟩ := vals1 r
  cases rx
  have hn := line63
  rcases hq with hq | hq
  · obtain ⟨its, r', pl, hz⟩ := I.list hq
    have hlen := r'.length
    exact Calls.call_len_list pl.isList (by simp only [List.size_toArray] <;> omega) ⟨.int ys.length, H, I.tok _, ⟨s.toks + 1, by rw [List.size_toArray, hlen]⟩, q⟩
  · obtain ⟨its, r', pl, hz⟩ := I.tuple hq
    have hlen := r'.length
    exact len_tuple pl (by simp only [List.size_toArray] <;> omega) ⟨.int ys.length, H, I.tok _, ⟨s.toks + 1, by rw [List.size_toArray, hlen]⟩, q⟩
theorem call_len_str : CallR X (.builtin "len") (fun xs H Q => ∃ z, xs = [.str z] ∧ z.length ≤ sizeLine ∧ Q (.int z.length) H) := by
  intro pins s σ H xs us Q I r h
  obtain ⟨z, rfl, hz, q⟩ := h
  obtain ⟨u, rfl, t, rfl⟩ := vals1 r
  have hn := line63
  exact len_str (by omega) ⟨.int z.length, H, I.tok _, ⟨_, rfl⟩, q⟩
theorem call_list_of : CallR X (.type "list") (fun xs H Q => ∃ p ys, xs = [.ref p] ∧ (SqL X.K H p ys ∨ SqT X.K H p ys) ∧ ∀ l, H l = none → Q (.ref l) (upd H l (.lst ys))) := by
  intro pins s σ H xs us Q I r h
  obtain ⟨p, ys, rfl, hq, q⟩ := h
  obtain ⟨u, rfl, rx⟩ := vals1 r
  cases rx
  have fin : ∀ (its : List Value), Vals ys its → ys.length ≤ sizeLine → ∀ (h' : Heap) (c' : Nat), (∀ b o', s.heap.get? b = some o' → h'.get? b = some o') →
      h'.get? s.heap.objs.size = some { cls := .type "list", dict := none, data := .seq its.toArray c', slots := #[] } → EP X pins σ Q (.ref s.heap.objs.size) { s with heap := h' } := fun its r' hz h' c' kp e =>
    ⟨.ref s.heap.objs.size, _, I.laid (t' := s.toks) kp (Nat.le_refl _) (show ObjOk X.prog X.w _ h' _ (.lst ys) from ⟨hz, its, c', r', e⟩), rfl, q _ (I.hok.fresh (Nat.le_refl _))⟩
  rcases hq with hq | hq
  · obtain ⟨its, r', pl, hz⟩ := I.list hq
    have hlen := r'.length
    obtain ⟨o, ho, hc, n, hd⟩ := pl.isList
    exact call_list_seq p (.inl rfl) ho hc hd (fun h' c' kp e => fin its r' hz h' c' kp e) (by simp only [List.size_toArray] <;> omega)
  · obtain ⟨its, r', pl, hz⟩ := I.tuple hq
    have hlen := r'.length
    obtain ⟨o, ho, hc, n, hd⟩ := pl
    exact call_list_seq p (.inr rfl) ho hc hd (fun h' c' kp e => fin its r' hz h' c' kp e) (by simp only [List.size_toArray] <;> omega)
def tyV (K : PySem.W.Frag) (T : String) (x : V) (H : Hp) : Prop := match x with
  | .str _ => T = "str"
  | .int _ => T = "int"
  | .ref p => (T = "list" ∧ ∃ xs, SqL K H p xs) ∨ (T = "tuple" ∧ ∃ o, K.lookup p = some o ∧ o.cls = .type "tuple" ∧ o.dict = none) ∨
      (T = "dict" ∧ ((∃ kvs, H p = some (.dK kvs)) ∨ ∃ kvs, H p = some (.dT kvs))) ∨ (T = "set" ∧ ∃ S n, H p = some (.set S n))
  | _ => False
theorem tyV_is {pins : List (Addr × Obj)} {σ : St} {H : Hp} {s : Shared} {T : String} {x : V} {v : Value} (I : Inv X pins σ H s) (r : RelV x v) (ty : tyV X.K T x H) :
    s.TypeIs v T ∧ ∀ a, v = .ref a → ∃ ob, s.heap.get? a = some ob ∧ ob.dict = none := by
  cases x with
  | str z =>
    obtain ⟨t, rfl⟩ := r
    cases (show T = "str" from ty)
    exact ⟨typeIs_str s z t, fun _ e => nomatch e⟩
  | int i =>
    obtain ⟨t, rfl⟩ := r
    cases (show T = "int" from ty)
    exact ⟨typeIs_int s i t, fun _ e => nomatch e⟩
  | ref p =>
    cases r
    rcases ty with ⟨rfl, xs, hq⟩ | ⟨rfl, o, hk, hc, hd⟩ | ⟨rfl, hk⟩ | ⟨rfl, S, n, hk⟩
    · obtain ⟨its, _, pl, _⟩ := I.list hq
      refine ⟨pl.isList.typeIs, fun a e => ?_⟩
      cases e
      obtain ⟨o, n, e, c, hd, _⟩ := pl
      exact ⟨o, e, hd⟩
    · refine ⟨⟨o, I.kIn p o hk, hc⟩, fun a e => ?_⟩
      cases e
      exact ⟨o, I.kIn _ o hk, hd⟩
    · have z : ∃ o, s.heap.get? p = some o ∧ o.ExactDict := by
        rcases hk with ⟨kvs, hk⟩ | ⟨kvs, hk⟩
        · obtain ⟨_, _, _, _, o, _, _, e, ex, _⟩ := I.hok p _ hk
          exact ⟨o, e, ex⟩
        · obtain ⟨_, _, _, _, o, _, _, e, ex, _⟩ := I.hok p _ hk
          exact ⟨o, e, ex⟩
      obtain ⟨o, e, ex⟩ := z
      refine ⟨⟨o, e, ex.1⟩, fun a e2 => ?_⟩
      cases e2
      exact ⟨o, e, ex.2.1⟩
    · obtain ⟨o, _, _, _, e, ex, _⟩ := I.hok p _ hk
      refine ⟨⟨o, e, ex.1⟩, fun a e2 => ?_⟩
      cases e2
      exact ⟨o, e, ex.2.1⟩
  | _ => exact False.elim ty
def tBM (K : PySem.W.Frag) (T : String) (r : V → List V → Hp → VK → Prop) (to : TE) (t : TA) : TE := fun σ H Q => to σ H fun x H1 => tyV K T x H1 ∧ t σ H1 fun xs H2 => r x xs H2 Q
variable {o e : Expr} {es : List Expr} {to : TE} {t : TA} {name : Str} {apos cpos : Pos} {T id : String} {r : V → List V → Hp → VK → Prop}
theorem pe_bm (pa : PlainAttrs T) (slot : Slot T name id) (hty : typeOf (.builtin id) = pure (.type "method_descriptor")) (hm : MtR X id r) (ho : PE X o to) (ha : PA X (e :: es) t)
    (hbase : attributeBase o name X.env (eval o X.env) = eval o X.env := by rfl)
    (hfew : ((backTo cpos (starEach (e :: es) X.env)).all (fun x => !x.1) && (backToKw cpos (keywordEach [] X.env)).all (fun x => x.1.isSome)
      && decide ((e :: es).length + ([] : List Keyword).length + (if ([] : List Keyword).isEmpty then 0 else 1) < 30)) = true := by rfl)
    (hline : (apos.endLine == cpos.line) = true := by rfl) (hs : starEach (e :: es) X.env = (false, eval e X.env) :: starEach es X.env := by rfl) (hplain : (backTo cpos (starEach es X.env)).any (·.1) = false := by rfl) :
    PE X (.Call (.Attribute o name apos) (e :: es) [] cpos) (tBM X.K T r to t) := by
  intro pins s σ H Q I h
  refine wpAny_Call_method_late hbase hfew hline rfl (thn (ho pins s σ H _ I h) fun v s1 ⟨x, H1, I1, r1, ty, q1⟩ => ?_)
  obtain ⟨h1, h2⟩ := tyV_is I1 r1 ty
  refine ⟨T, id, pa, slot, hty, h1, h2, ?_⟩
  have hA := ha cpos pins s1 σ H1 _ I1 q1
  rw [hs] at hA ⊢
  refine Calls.callWith_builtin (by show (false || (backTo cpos (starEach es X.env)).any (·.1)) = false; rw [hplain] <;> rfl) (Calls.evalArgs_plain ?_)
  exact thn hA fun us s2 ⟨vs, H2, I2, r2, q2⟩ => hm pins s2 σ H2 x vs v us Q I2 r1 r2 q2
/- xs.append(e), list.index on a module's tuple .. are MtR facts of 06m -/
end
end L2

namespace L2
open PySem PySem.Spec PyProof.Rows

def MtM (X : Cx) (id : String) (r : V → List V → Hp → VK → Prop) : Prop :=
  ∀ (pins : List (Addr × Obj)) (s : Shared) (σ : St) (H : Hp) (x : V) (xs : List V) (v : Value) (us : List Value) (Q : VK), Inv X pins σ H s → RelV x v → Vals xs us → r x xs H Q →
    wpAny (model X.prog X.w) X.A (call (.builtin id) (v :: us)) (EP X pins σ Q) X.xe s

theorem Vals.one : ∀ {x : V} {us : List Value}, Vals [x] us → ∃ u, us = [u] ∧ RelV x u
  | _, _, .cons r .nil => ⟨_, rfl, r⟩
section
variable {X : Cx} {pins : List (Addr × Obj)} {σ : St} {H : Hp} {s : Shared} {l b : Addr} {xs ys zs : List V}

theorem Inv.lset {its its' : List Value} {n : Nat} {f : Array Value → Array Value} {t' : Nat} (I : Inv X pins σ H s) (hH : H l = some (.lst xs))
    (e : s.heap.get? l = some { cls := .type "list", data := .seq its.toArray n }) (hf : f its.toArray = its'.toArray) (hv : Vals ys its') (hz : ys.length ≤ sizeLine) :
    Inv X pins σ (upd H l (.lst ys)) { s with heap := s.heap.update l (Obj.mapSeq f), toks := t' } := by
  have q := PySem.IsL.update e f
  rw [hf] at q
  refine I.write (x := l) (e := l) (by rw [hH]; exact trivial) (.inl rfl) (fun b' u hb hu => (Heap.get?_update_other s.heap (Obj.mapSeq f) (Ne.symm hb)).trans hu) ⟨_, q⟩ ?_
  exact ⟨hz, its', _, hv, q⟩
theorem Inv.lnew {its : List Value} {t' : Nat} (I : Inv X pins σ H s) (hv : Vals ys its) (hz : ys.length ≤ sizeLine) :
    Inv X pins σ (upd H s.heap.objs.size (.lst ys)) { s with heap := s.heap.push { cls := .type "list", data := .seq its.toArray }, toks := t' } :=
  I.laid (fun _ _ q => Heap.get?_push_of_some _ q) (Nat.le_refl _) ⟨hz, its, 0, hv, Heap.get?_push_size _ rfl⟩
theorem Inv.fresh (I : Inv X pins σ H s) : H s.heap.objs.size = none := I.hok.fresh (Nat.le_refl _)
theorem Inv.lstM (I : Inv X pins σ H s) (hH : H l = some (.lst xs)) : xs.length ≤ sizeLine ∧ ∃ (its : List Value) (n : Nat), Vals xs its ∧ xs.length = its.length ∧ s.heap.get? l = some { cls := .type "list", data := .seq its.toArray n } := by
  obtain ⟨z, its, n, r, e⟩ := I.hok l _ hH
  exact ⟨z, its, n, r, r.length, e⟩

end

section
variable {X : Cx}

def rAppend : V → List V → Hp → VK → Prop := fun x vs H Q => ∃ l xs y, x = .ref l ∧ vs = [y] ∧ H l = some (.lst xs) ∧ xs.length < sizeLine ∧ Q .non (upd H l (.lst (xs ++ [y])))
theorem mt_append : MtM X "list.append" rAppend := by
  intro pins s σ H x vs v us Q I rx rv h
  obtain ⟨l, xs, y, rfl, rfl, hH, hz, q⟩ := h
  cases rx
  obtain ⟨u, rfl, ru⟩ := rv.one
  obtain ⟨z, its, n, r, hl, e⟩ := I.lstM hH
  refine call_meets F.slot_list_append ⟨_, e, rfl⟩ F.entry_list_append (F.args_list_append_2 _ _) (PySem.list_append l its.toArray n u (by rw [List.size_toArray]; omega)) ⟨e, ?_⟩
  refine ⟨.non, _, I.lset (its' := its ++ [u]) hH e (by simp) (r.append (.cons ru .nil)) ?_, rfl, q⟩
  rw [List.length_append, List.length_singleton]
  omega

def rCat : R2 := fun x y H Q => ∃ l b xs zs, x = .ref l ∧ y = .ref b ∧ H l = some (.lst xs) ∧ H b = some (.lst zs) ∧ xs.length + zs.length ≤ sizeLine ∧ ∀ p, H p = none → Q (.ref p) (upd H p (.lst (xs ++ zs)))
theorem op_cat : OpR X (binaryOp .Add) rCat := by
  intro pins s σ H x y v u Q I rx ry h
  obtain ⟨l, b, xs, zs, rfl, rfl, hH, hB, hz, q⟩ := h
  cases rx
  cases ry
  obtain ⟨z, its, n, r, hl, e⟩ := I.lstM hH
  obtain ⟨z2, its2, n2, r2, hl2, e2⟩ := I.lstM hB
  refine PySem.P.add_list e e2 ?_ (by rw [List.size_toArray, List.size_toArray]; omega)
  have ea : its.toArray ++ its2.toArray = (its ++ its2).toArray := by simp
  rw [ea]
  exact ⟨.ref _, _, I.lnew (t' := s.toks) (r.append r2) (by rw [List.length_append]; omega), rfl, q _ I.fresh⟩
end

section
variable {prog : Program} {w : World} {A : Around} {E : Value → Shared → Prop} {s : Shared}
set_option maxRecDepth 100000 in
end

section
variable {X : Cx}
end
end L2

namespace Att
open PySem PySem.W PySem.Calls PyProof.Rows

theorem ints_of_wellAll {P : Params} {h : Heap} : ∀ (ns : List Int) (vs : List Value), WellAll P h vs (ns.map WData.int) → IntsAre vs ns := by
  intro ns
  induction ns with
  | nil =>
    intro vs w
    rw [List.map_nil] at w
    cases w
    exact .nil
  | cons n ns ih =>
    intro vs w
    rw [List.map_cons] at w
    cases w with
    | cons a b =>
      cases a
      exact .cons _ _ (ih _ b)

theorem script_of {l : OpenLaw} {n : Nat} (hn : l.most = some n) {P : Params} {h : Heap} {args : List WData} {vals : List Value}
    (hpre : l.row.toRowW.claim.pre args = true) (hwl : WellAll P h vals args) :
    ∃ a vs ns, vals = [Value.ref a] ∧ args = [WData.list (ns.map WData.int)] ∧ h.get? a = some { cls := .type "list", data := .seq vs.toArray } ∧ IntsAre vs ns ∧ ns.length ≤ n := by
  have hsh : WShape.hasAll [] args [.list .int] = true := (pre_splitW hpre).1
  have hc : l.pre.holds [] { args := args } = true := (pre_splitW hpre).2
  obtain ⟨d, r, rfl, h1, h2⟩ := hasAllW_cons hsh
  obtain rfl := hasAllW_nil h2
  obtain ⟨xs, rfl, h3⟩ := hasW_list h1
  obtain ⟨ns, rfl⟩ := items_int h3
  have hlen : ns.length ≤ n := by
    unfold OpenLaw.pre at hc
    have h4 : (WTm.not (.lt (.lit (.int (n : Int))) (.len (.arg 0)))).holds [] { args := [.list (ns.map .int)] } = true := by
      have h4 := (holds_andW hc).1
      rw [hn] at h4
      exact h4
    have h5 := condW_of h4 (w_not (w_lt w_lit (w_len_list (w_arg rfl))))
    rw [List.length_map] at h5
    refine Nat.le_of_not_lt fun q => ?_
    have q' : (n : Int) < ((ns.length : Nat) : Int) := by omega
    first
      | (rw [decide_eq_true q'] at h5; exact absurd h5 (by decide))
      | (simp at h5; omega)
  cases hwl with
  | cons w1 w2 =>
    cases w2
    cases w1 with
    | list ho hall => exact ⟨_, _, ns, rfl, rfl, ho, ints_of_wellAll ns _ hall, hlen⟩

theorem post_true (l : OpenLaw) (args : List WData) : l.row.toRowW.claim.post args (.bool true) args = true :=
  postW_of (r := l.row.toRowW) (X := (true == true))
    (show WShape.has [] (.bool true) .bool = true by first | rfl | decide | simp [WShape.has, WShape.arms, WShape.armsAll])
    (show (WTm.eq .res (.lit (.bool true))).value [] { args := args, res := some (.bool true), after := args } = some (.bool (true == true)) from w_eq_bool (w_res rfl) w_lit) rfl

theorem attach_call {l : OpenLaw} {n : Nat} {q : Program} {loose : List Str} {XP : (Str → Option Value) → Heap → Prop} {YP : World → Heap → Prop} {d : DefRec}
    (hn : l.most = some n) (hdf : d.params.defaults = [])
    (call : ∀ (w : World) (s₀ s₁ : Shared) (mg mb : Str → Option Value) (fa : Addr) (o : Obj) (pm cd doc : Value) (a : Addr) (vs : List Value) (ns : List Int),
      Ground q loose [] XP w s₀ mg mb s₁.heap → YP w s₁.heap →
      s₁.heap.get? fa = some o → o.data = .func (docDef d.name d.params d.body d.scope pm cd doc) → s₁.heap.CodeRec cd d.name → mg d.name = some (.ref fa) →
      s₁.heap.get? a = some { cls := .type "list", data := .seq vs.toArray } → IntsAre vs ns → ns.length ≤ n → s₁.gens = #[] →
      codeAny (model l.prog w) callerA (.call (.ref fa) ⟨[.ref a], []⟩) (fun r s' => r = .ok (.ret (.bool true)) ∧ OldK s₁.heap s'.heap ∧ s'.os = s₁.os ∧ AllBare s'.gens) s₁) :
    WalkO q loose XP YP l.row.toRowW d [] (fun f vs => PySem.call f vs) := by
  intro w s₀ s₁ mg mb G Y fa o pm cd doc dV kV ho hd hcd hD hmg hg args vals as hpre hlay hrd hwl hlo
  obtain rfl : dV = .none := Dflts.none hD hdf
  obtain rfl : kV = .none := Dflts.noKw hD
  obtain ⟨a, vs, ns, rfl, rfl, hobj, hints, hlen⟩ := script_of hn hpre hwl
  refine enter_call (codeAny_mono (call w s₀ s₁ mg mb fa o pm cd doc a vs ns G Y ho (fd_plain hd) hcd hmg hobj hints hlen hg) fun r s' hq => ?_)
  obtain ⟨rfl, h2, h3, h4⟩ := hq
  exact ⟨.inl ⟨.bool true, .bool true, [], rfl, fun _ => rfl, .bool true, post_true l _, fun _ => ⟨List.Pairwise.nil, fun _ hm => (nomatch hm)⟩⟩, h2, h3, h4⟩

section
variable {prog : Program} {w : World} {A : Around} {E : Value → Shared → Prop} {s : Shared} {K : Frag}

end
end Att

namespace L2
open PySem PySem.Spec PyProof.Rows

theorem vals_ints : ∀ {vs : List Value} {ns : List Int}, IntsAre vs ns → Vals (ns.map V.int) vs
  | _, _, .nil => .nil
  | _, _, .cons n t h => .cons ⟨t, rfl⟩ (vals_ints h)

def Only (H : Hp) : Prop := ∀ b, H b = none ∨ ∃ o xs, H b = some (.frz o (.lst xs))

theorem law_call {P : Program} {w : World} {K : PySem.W.Frag} {mg mb : Str → Option Value} {CX : CXT} {k : Nat} {fa a : Addr} {fd : FuncData} {x : Str} {sp : Sp} {s₁ : Shared} {vs : List Value} {ns : List Int}
    (KX : K.In s₁.heap) (hns : s₁.heap.Ns mainGlobals mg) (hb : s₁.heap.Ns builtinsNs mb) (hbb : ∀ x : Str, x ≠ "__name__" → mb x = bootBuiltins x) (hlim : s₁.heap.NoLimit) (hg : s₁.gens = #[])
    (ha : s₁.heap.get? a = some { cls := .type "list", data := .seq vs.toArray }) (hi : IntsAre vs ns) (hl : ns.length ≤ sizeLine) (hr : Room k callerA)
    (F : ∀ base : Heap, K.In base → base.Ns mainGlobals mg → FnOk P w K mg base CX k fa fd [x] sp) (hbind : ∀ (s : Shared) (u : Value), BindsTo s fd ⟨[u], []⟩ [(x, u)])
    (hsp : ∀ H : Hp, Only H → SqL K H a (ns.map V.int) → sp [.ref a] H (fun v _ => v = .bl true) fun _ _ _ => False)
    (hCX : ∀ H e s', CX [] H s₁ (fun _ _ _ => False) e s' → False) :
    codeAny (model P w) callerA (.call (.ref fa) ⟨[.ref a], []⟩) (fun r s' => r = .ok (.ret (.bool true)) ∧ OldK s₁.heap s'.heap ∧ s'.os = s₁.os ∧ AllBare s'.gens) s₁ := by
  have rv := vals_ints hi
  have lenV := hi.length
  -- from an abstract heap in which nothing but the script may be tracked
  have core : ∀ H : Hp, Only H → SqL K H a (ns.map V.int) → HOk P w H s₁.heap → (∀ b, H b ≠ none → b = a) → (H a ≠ none → K.lookup a = none) →
      codeAny (model P w) callerA (.call (.ref fa) ⟨[.ref a], []⟩) (fun r s' => r = .ok (.ret (.bool true)) ∧ OldK s₁.heap s'.heap ∧ s'.os = s₁.os ∧ AllBare s'.gens) s₁ := by
    intro H hO hS hok hA hK
    have base_of : ∀ {b : Addr} {o : Obj}, s₁.heap.get? b = some o → H b = none → (hidT s₁.heap H).get? b = some o := fun e n => hidT_get e n
    have noA : ∀ {b : Addr} {o : Obj} {es : Array DictEntry} {ep : Nat}, s₁.heap.get? b = some o → o.data = .dict es ep → H b = none := fun {b o es ep} e d => by
      cases q : H b with
      | none => rfl
      | some u =>
        have e' : b = a := hA b (by rw [q]; simp)
        subst e'
        rw [ha] at e; cases e
        have d' : Data.seq vs.toArray _ = Data.dict es ep := d
        cases d'
    have nsK : ∀ {b : Addr} {m : Str → Option Value}, s₁.heap.Ns b m → (hidT s₁.heap H).Ns b m := fun {b m} ⟨o, es, ep, e, d, r⟩ => ⟨o, es, ep, base_of e (noA e d), d, r⟩
    have hKb : K.In (hidT s₁.heap H) := fun b o e => base_of (KX b o e) (by
      cases q : H b with
      | none => rfl
      | some u =>
        have e' : b = a := hA b (by rw [q]; simp)
        subst e'
        rw [hK (by rw [q]; simp)] at e; cases e)
    have hM : Mod K mg (hidT s₁.heap H) := ⟨hKb, nsK hns, ⟨mb, nsK hb, hbb⟩, let ⟨mc, h1, h2⟩ := hlim; ⟨mc, nsK h1, h2⟩⟩
    have e0 : Env0 P w K mg (hidT s₁.heap H) callerA [] s₁ H := ⟨rfl, hM, fun b o e => of_hidT e, Nat.le_of_eq (hidT_size _ _), trivial, fun b hb => absurd (show b ∈ ([] : List Addr) from hb) (by simp), hok, .of_eq hg⟩
    refine codeAny_mono ((F _ hKb (nsK hns)).run callerA [] s₁ H ⟨[.ref a], []⟩ [.ref a] [.ref a] _ _ hr e0 (hbind s₁ (.ref a)) (.cons rfl .nil) (hsp H hO hS)) fun r s' h => ?_
    cases r with
    | error e => exact (hCX H e s' h).elim
    | ok fl =>
      cases fl with
      | next => exact False.elim h
      | brk => exact False.elim h
      | cont => exact False.elim h
      | ret u =>
        obtain ⟨v, H', os, bare, un, hok', r', q⟩ := h
        have q' : v = .bl true := q
        subst q'
        obtain rfl : u = Value.bool true := r'
        refine ⟨rfl, OldK.of_keep fun b o e => ?_, os, bare⟩
        cases q : H b with
        | none => exact un.keep b o e q (by intro z; exact absurd (show b ∈ ([] : List Addr) from z) (by simp)) (by simp)
        | some u =>
          rcases hO b with z | ⟨ob, xs, z⟩
          · rw [q] at z; cases z
          · have z2 := un.frzs b ob _ z
            obtain ⟨e1, _⟩ := hok b _ z
            obtain ⟨e2, _⟩ := hok' b _ z2
            rw [e] at e1; cases e1
            exact e2
  cases hk : K.lookup a with
  | some o =>
    -- the script is one of the module's own objects
    have e := KX a o hk
    rw [ha] at e
    cases e
    refine core (fun _ => none) (fun _ => .inl rfl) (.inr ⟨_, vs.toArray, _, hk, rfl, rfl, rfl, by rw [List.size_toArray, lenV]; exact hl, by simpa using rv⟩) (fun b u z => by have z' : (none : Option HO) = some u := z; cases z') (fun b z => absurd rfl z) fun z => absurd rfl z
  | none =>
    refine core (fun b => if b = a then some (.frz { cls := .type "list", data := .seq vs.toArray } (.lst (ns.map V.int))) else none) (fun b => ?_) (.inl (.inr ⟨{ cls := .type "list", data := .seq vs.toArray }, if_pos rfl⟩)) (fun b u z => ?_) (fun b z => ?_) fun _ => hk
    · by_cases hb : b = a
      · exact .inr ⟨_, _, if_pos hb⟩
      · exact .inl (if_neg hb)
    · by_cases hb : b = a
      · have z' := (if_pos hb).symm.trans z
        cases z'
        subst hb
        exact ⟨ha, by rw [List.length_map]; exact hl, vs, _, rv, ha⟩
      · have z' := (if_neg hb).symm.trans z
        cases z'
    · by_cases hb : b = a
      · exact hb
      · exact absurd (if_neg hb) z
end L2

namespace L2
open PySem PySem.Spec PyProof.Rows

abbrev KOf {K : PySem.W.Frag} {h : Heap} (_ : K.In h) : PySem.W.Frag := K

theorem walk_of {l : PySem.W.OpenLaw} {n k : Nat} {q : Program} {loose : List Str} {XP : (Str → Option Value) → Heap → Prop} {YP : World → Heap → Prop} {d : DefRec} {K : Params → PySem.W.Frag} {CX : World → CXT} {sp : World → Sp} {x : Str}
    (hn : l.most = some n) (hn2 : n ≤ sizeLine) (hdf : d.params.defaults = []) (hr : Room k callerA)
    (hY : ∀ (w : World) (h : Heap), YP w h → (K w.params).In h)
    (F : ∀ (w : World) (mg : Str → Option Value) (fa : Addr) (h : Heap), (K w.params).In h → h.Ns mainGlobals mg → mg d.name = some (.ref fa) →
      ∃ fd : FuncData, (∀ (s : Shared) (u : Value), BindsTo s fd ⟨[u], []⟩ [(x, u)]) ∧
        ∀ base : Heap, (K w.params).In base → base.Ns mainGlobals mg → FnOk l.prog w (K w.params) mg base (CX w) k fa fd [x] (sp w))
    (hsp : ∀ (w : World) (H : Hp) (a : Addr) (ns : List Int), ns.length ≤ n → Only H → SqL (K w.params) H a (ns.map V.int) → sp w [.ref a] H (fun v _ => v = .bl true) fun _ _ _ => False)
    (hCX : ∀ (w : World) (H : Hp) (s : Shared) (e : Value) (s' : Shared), CX w [] H s (fun _ _ _ => False) e s' → False) :
    PySem.W.WalkO q loose XP YP l.row.toRowW d [] (fun f vs => PySem.call f vs) := by
  refine Att.attach_call hn hdf fun w s₀ s₁ mg mb fa o pm cd doc a vs ns G Y ho hd hcd hmg hobj hints hlen hg => ?_
  have KX := hY w _ Y
  obtain ⟨fd, hb, hF⟩ := F w mg fa _ KX G.T.g hmg
  exact law_call KX G.T.g G.T.b G.T.builtins G.T.nolimit hg hobj hints (Nat.le_trans hlen hn2) hr hF hb (fun H hO hS => hsp w H a ns hlen hO hS) fun H e s' => hCX w H s₁ e s'
end L2

/- THE LAST THEOREM (shape; LID, My.* are yours):
   My.Adr: a structure of the addresses that your layer names (classes, functions); My.Txt K t: a structure (Prop) of the equations over K;
   My.txt_mk : {K} {implicit addresses ..} (e1 : nsIn K mainGlobals "law" = some (some (.ref f))) (e2 : K.lookup f = some ⟨oc, od, .func (fnOf "law" "law" params body scope dV kV doc pm an cdv ct), sl⟩) (e3 : codeIn K cdv "law" = true) .. : ∃ t, My.Txt K t

set_option maxRecDepth 100000 in
set_option maxHeartbeats 0 in
theorem PySem.Challenge.cw_LID_holds : PySem.Challenge.rw_LID.Holds := by
  w_on; o_law; k_head; (case hw => w_witness2)
  k_fill
  refine L2.walk_of (l := PySem.Challenge.rw_LID) (n := 63) (k := 40) (x := "script") (CX := fun w => ..) (sp := fun _ => My.sp_law) rfl (by decide) rfl ⟨rfl, by decide, by decide⟩ (fun w h Y => PySem.W.kIn_of Y) ?F ?S ?C
  case F =>
    intro w mg fa h KX G hmg
    have T : ∃ t, My.Txt (L2.KOf KX) t := by
      dsimp only [L2.KOf]                          -- K must stand as «<heap const> w.params» for k_is
      refine' My.txt_mk ?e1 ?e2 ?e3 ..
      (case e1 => PySem.W.k_is)                    -- in the order: a name -> its address -> its object -> its parts
      (case e2 => PySem.W.k_is)
      ..
    obtain ⟨t, T⟩ := T
    have e0 := hmg.symm.trans (PySem.W.mg_of KX G T.law)
    cases e0                                       -- fa is the law's own address
    exact ⟨_, fun s u => .of_eq rfl, fun base kb nb => My.law_fn T kb nb⟩     -- if «.of_eq rfl» comes too early: refine' ⟨_, ?b, fun base kb nb => My.law_fn T kb nb⟩; exact fun s u => .of_eq rfl
  case S => exact fun w H a ns hl hO hS => ..
  case C => exact ..
(the tactic k_is has no namespace: write k_is) -/

namespace L2
open PySem PySem.Spec PyProof.Rows

def inClass (s : Stmt) (j : Nat) : Stmt := match s with
  | .ClassDef _ _ _ body _ _ _ _ _ _ _ => body.getD j (.Pass ⟨0, 0, 0, 0⟩)
  | _ => .Pass ⟨0, 0, 0, 0⟩
def defArgs (s : Stmt) : Arguments := match s with
  | .FunctionDef _ a _ _ _ _ _ _ _ _ => a
  | _ => { posonlyargs := [], args := [], vararg := none, kwonlyargs := [], kw_defaults := [], kwarg := none, defaults := [] }
def defBody (s : Stmt) : List Stmt := match s with
  | .FunctionDef _ _ b _ _ _ _ _ _ _ => b
  | _ => []
def defScope (s : Stmt) : Scope := match s with
  | .FunctionDef _ _ _ _ _ _ sc _ _ _ => sc
  | _ => { kind := .function, names := [], isGenerator := false, isCoroutine := false }

abbrev CX0 : CXT := fun _ _ _ _ _ _ => False
abbrev E0 : XK := fun _ _ _ => False
theorem pass0 {X : Cx} : Passes CX0 X E0 := fun _ _ _ _ _ _ _ h => h.elim

section
variable {P : Program} {w : World} {K : PySem.W.Frag} {mg : Str → Option Value} {base : Heap}
end
theorem small1000 {n : Nat} (h : n ≤ 1000) : n < sizeLine := Nat.lt_of_le_of_lt h (by decide)

section
variable {X : Cx}
theorem pv (i : Nat) {x : Str} {pos : Pos} (hN : X.N[i]? = some x := by rfl) (hv : Vis X.env.scope x := by first | exact Or.inl rfl | exact Or.inr (Or.inl rfl) | exact Or.inr (Or.inr rfl)) (hd : (x == ("__debug__" : Str)) = false := by decide)
    (hcd : (x == ("__classdict__" : Str)) = false := by decide) : PE X (.Name x pos) (tVar i) := pe_var hN hv hd hcd
end

theorem iteF {A B : Prop} (h : B) : if false = true then A else B := by
  rw [if_neg Bool.false_ne_true]
  exact h
theorem iteT {A B : Prop} (h : A) : if true = true then A else B := by
  rw [if_pos rfl]
  exact h
theorem ite2 {c A B : Prop} [Decidable c] (h1 : c → A) (h2 : ¬ c → B) : if c then A else B := by
  by_cases h : c
  · rw [if_pos h]
    exact h1 h
  · rw [if_neg h]
    exact h2 h
def Same (H H' : Hp) : Prop := ∀ b o, H b = some o → H' b = some o
theorem Same.refl (H : Hp) : Same H H := fun _ _ h => h
theorem Same.trans {H H1 H2 : Hp} (a : Same H H1) (b : Same H1 H2) : Same H H2 := fun c o h => b c o (a c o h)
theorem Same.free {H H' : Hp} (e : Same H H') {l : Addr} (h : H' l = Option.none) : H l = Option.none := by
  cases q : H l with
  | none => rfl
  | some o =>
    rw [e l o q] at h
    cases h
theorem Same.seq {K : PySem.W.Frag} {H H' : Hp} {a : Addr} {xs : List V} (e : Same H H') (h : SqL K H a xs) : SqL K H' a xs := by
  rcases h with (h | ⟨o, h⟩) | h
  · exact .inl (.inl (e _ _ h))
  · exact .inl (.inr ⟨o, e _ _ h⟩)
  · exact .inr h

end L2

set_option Elab.async false
set_option linter.all false
set_option maxRecDepth 100000
set_option maxHeartbeats 1000000
namespace L2
open PySem PySem.Spec PyProof.Rows
section
variable {X : Cx}

theorem call_isi : CallR X (.builtin "isinstance") (fun xs H Q => ∃ x n t b, xs = [x, .ty n] ∧ TyOf X.K H x t ∧ PySem.W.kitOne X.K t (.type n) = some b ∧ Q (.bl b) H) := by
  intro pins s σ H xs us Q I r h
  obtain ⟨x, n, t, b, rfl, ty, e, q⟩ := h
  obtain ⟨u, w', rfl, rx, rn⟩ := vals2 r
  cases (show w' = Value.type n from rn)
  exact isinst_ok I rx ty e fun tk => ⟨.bl b, H, I.tok tk, rfl, q⟩

def Bt (n : Nat) (i : Int) : Prop := i.natAbs < 2 ^ n
theorem intBits_of {n : Nat} {i : Int} (h : Bt n i) : Builtin.Int.intBits i ≤ n := by
  unfold Builtin.Int.intBits
  split
  · exact Nat.zero_le _
  · rename_i h0
    have hp : i.natAbs ≠ 0 := by
      intro z
      apply h0
      simp at z ⊢
      exact z
    have : i.natAbs.log2 < n := (Nat.log2_lt hp).mpr h
    omega
def CBig (i j : Int) : Prop := ∃ n m, Bt n i ∧ Bt m j ∧ n ≤ 1048576 ∧ m ≤ 1048576
theorem CBig.ok {i j : Int} (h : CBig i j) : IntMulOk i j := by
  obtain ⟨n, m, h1, h2, h3, h4⟩ := h
  have e : (2 : Nat) ^ 20 = 1048576 := by decide
  exact IntMulOk.of_bits (by have := intBits_of h1; omega) (by have := intBits_of h2; omega)
theorem op_mulB : OpR X (binaryOp .Mult) (rI CBig fun i j => .int (i * j)) := opI fun _ _ _ _ _ _ _ hc q => mul_int q hc.ok
def CDivB (i j : Int) : Prop := j ≠ 0 ∧ ∃ n, Bt n j ∧ n ≤ 9000
theorem CDivB.ok {i j : Int} (h : CDivB i j) : Builtin.divisionGoesByPylong i j = false := by
  obtain ⟨h0, n, h1, h2⟩ := h
  refine PyProof.noPylong_of_log2 ?_
  have hp : j.natAbs ≠ 0 := by omega
  have : j.natAbs.log2 < n := (Nat.log2_lt hp).mpr h1
  omega
theorem op_fdivB : OpR X (binaryOp .FloorDiv) (rI CDivB fun i j => .int (i.fdiv j)) := opI fun _ _ _ _ _ _ _ hc q => floordiv_int hc.1 q (.inl hc.ok)

mutual
inductive DatV (K : PySem.W.Frag) (H : Hp) : V → PyData → Prop where
  | non : DatV K H .non .none
  | bl (b : Bool) : DatV K H (.bl b) (.bool b)
  | int (i : Int) : DatV K H (.int i) (.int i)
  | str (x : Str) : DatV K H (.str x) (.str x)
  | lst {a : Addr} {xs : List V} {ds : List PyData} (h : SqL K H a xs) (q : DatVs K H xs ds) : DatV K H (.ref a) (.list ds)
  | tup {a : Addr} {xs : List V} {ds : List PyData} (h : SqT K H a xs) (q : DatVs K H xs ds) : DatV K H (.ref a) (.tuple ds)
inductive DatVs (K : PySem.W.Frag) (H : Hp) : List V → List PyData → Prop where
  | nil : DatVs K H [] []
  | cons {x : V} {d : PyData} {xs : List V} {ds : List PyData} (p : DatV K H x d) (q : DatVs K H xs ds) : DatVs K H (x :: xs) (d :: ds)
end
theorem datV_reads {pins : List (Addr × Obj)} {s : Shared} {σ : St} {H : Hp} (I : Inv X pins σ H s) : ∀ {x : V} {d : PyData}, DatV X.K H x d → ∀ {u : Value}, RelV x u → ∃ as, Reads s.heap u d as := by
  intro x d h
  induction h using DatV.rec (motive_2 := fun xs ds _ => ∀ {us : List Value}, Vals xs us → ∃ as, ReadsAll s.heap us ds as) with
  | non => intro u r; cases (show u = Value.none from r); exact ⟨_, .none⟩
  | bl b => intro u r; cases (show u = Value.bool b from r); exact ⟨_, .bool b⟩
  | int i => intro u r; obtain ⟨t, rfl⟩ := (show ∃ t, u = Value.int i t from r); exact ⟨_, .int i t⟩
  | str y => intro u r; obtain ⟨t, rfl⟩ := (show ∃ t, u = Value.str y t from r); exact ⟨_, .str y t⟩
  | lst h q ih =>
    intro u r
    cases (show u = Value.ref _ from r)
    obtain ⟨its, rv, pl, _⟩ := I.list h
    obtain ⟨as, ra⟩ := ih rv
    obtain ⟨o, h1, h2, n, h3⟩ := pl.isList
    exact ⟨_, .list h1 h2 h3 (by simpa using ra)⟩
  | tup h q ih =>
    intro u r
    cases (show u = Value.ref _ from r)
    obtain ⟨its, rv, pl, _⟩ := I.tuple h
    obtain ⟨as, ra⟩ := ih rv
    obtain ⟨o, h1, h2, n, h3⟩ := pl
    exact ⟨_, .tuple h1 h2 h3 (by simpa using ra)⟩
  | nil => rename_i us r; cases r; exact ⟨_, .nil⟩
  | cons p q ih1 ih2 =>
    rename_i us r
    cases r with
    | cons r1 r2 =>
      obtain ⟨as, h1⟩ := ih1 r1
      obtain ⟨bs, h2⟩ := ih2 r2
      exact ⟨_, .cons h1 h2⟩
def rDat (K : PySem.W.Frag) (neg : Bool) : R2 := fun x y H Q => ∃ d e, DatV K H x d ∧ DatV K H y e ∧ d.canLay0 = true ∧ e.canLay0 = true ∧ min d.depth e.depth ≤ 16 ∧ Q (.bl (if neg then !PyData.eqv d e else PyData.eqv d e)) H
theorem op_eqD (hu : X.A.units + 64 < cLine) : OpR X (compareOp .Eq) (rDat X.K false) := by
  intro pins s σ H x y v u Q I rx ry h
  obtain ⟨d, e, h1, h2, c1, c2, hm, q⟩ := h
  obtain ⟨as, r1⟩ := datV_reads I h1 rx
  obtain ⟨bs, r2⟩ := datV_reads I h2 ry
  exact PySem.SeqAt.compareEq_reads r1 r2 c1 c2 (by omega) ⟨.bl (PyData.eqv d e), H, I, rfl, q⟩
theorem op_neD (hu : X.A.units + 64 < cLine) : OpR X (compareOp .NotEq) (rDat X.K true) := by
  intro pins s σ H x y v u Q I rx ry h
  obtain ⟨d, e, h1, h2, c1, c2, hm, q⟩ := h
  obtain ⟨as, r1⟩ := datV_reads I h1 rx
  obtain ⟨bs, r2⟩ := datV_reads I h2 ry
  exact PySem.SeqAt.compareNe_reads r1 r2 c1 c2 (by omega) ⟨.bl (!PyData.eqv d e), H, I, rfl, q⟩
end
end L2

set_option Elab.async false
set_option linter.all false
set_option maxRecDepth 100000
set_option maxHeartbeats 2000000
namespace L2
open PySem PySem.Spec PyProof.Rows

section
variable {prog : Program} {w : World} {A : Around} {R : Result → Shared → Prop} {s : Shared}
abbrev tests (ifs : List Expr) (env : Env) : Sem Bool := forIn ifs true fun c r => if r = true then do let ok ← isTrue c env (eval c env); pure (ForInStep.yield ok) else pure (ForInStep.yield r)
theorem comp_loop {elt target iter : Expr} {ifs : List Expr} {scope : Scope} {pos : Pos} {it acc : Value} {env : Env} (I : Nat → Shared → Prop)
    (turn : ∀ n s, I n s → wpAny (model prog w) A (pyNext it) (fun r s₁ => match r with
      | none => R (.ok .next) s₁
      | some v => wpAny (model prog w) A (letOwnedTupleGo target it v) (fun _ s₀ => wpAny (model prog w) A (assign target env v) (fun _ s₂ =>
          wpAny (model prog w) A (tests ifs env) (fun ok s₃ =>
            if ok = true then wpAny (model prog w) A (eval elt env) (fun x s₄ =>
              wpAny (model prog w) A (call (.builtin "list.append") [acc, x]) (fun _ s₅ => ∃ m, m < n ∧ I m s₅) (fun _ _ => False) s₄) (fun _ _ => False) s₃
            else ∃ m, m < n ∧ I m s₃) (fun _ _ => False) s₂) (fun _ _ => False) s₀) (fun _ _ => False) s₁) (fun _ _ => False) s)
    (n : Nat) (h : I n s) :
    codeAny (model prog w) A (.compLoop (.ListComp elt [⟨target, iter, ifs, 0⟩] scope pos) 0 it acc env) R s := by
  refine codeAny_loop rfl I (fun n s hI => ?_) n h
  show wpAny _ A ((compTurn (.ListComp elt [⟨target, iter, ifs, 0⟩] scope pos) 0 it acc env).onRaise (fun x => do noteFrame x env; theTreesLotGoes x)) _ _ s
  refine wpAny_noted ?_
  rw [compTurn_list]
  refine wpAny_bind (wpAny_standAt (wpAny_bind (wpAny_mono (turn n s hI) (fun r s₁ h₁ => ?_) fun _ _ z => z.elim)))
  cases r with
  | none => exact wpAny_pure h₁
  | some v =>
    refine wpAny_bind (wpAny_mono h₁ (fun _ s₀ h₀ => ?_) fun _ _ z => z.elim)
    refine wpAny_bind (wpAny_mono h₀ (fun _ s₂ h₂ => wpAny_bind (wpAny_mono h₂ (fun ok s₃ h₃ => ?_) fun _ _ z => z.elim)) fun _ _ z => z.elim)
    cases ok with
    | false => exact wpAny_pure ⟨rfl, h₃⟩
    | true =>
      rw [if_pos rfl] at h₃
      show wpAny _ _ ((do let _ ← call (.builtin "list.append") [acc, ← eval elt env]) >>= fun _ => again (.compLoop (.ListComp elt [⟨target, iter, ifs, 0⟩] scope pos) 0 it acc env)) _ _ _
      exact wpAny_bind (wpAny_bind (wpAny_mono h₃ (fun x s₄ h₄ => wpAny_bind (wpAny_mono h₄ (fun _ s₅ h₅ => wpAny_pure (wpAny_pure ⟨rfl, h₅⟩)) fun _ _ z => z.elim)) fun _ _ z => z.elim))
end

structure CompOk (X : Cx) (scope : Scope) (cl : List (Str × Addr)) (Nc : List Str) (nl : Nat) (fr : List Nat) : Prop where
  clos : closureFor scope X.env = pure cl
  kind : scope.kind = .function
  names : ∀ y ∈ scope.names, y.2 = .local → scope.names.lookup y.1 = some .local
  cell : ∀ y ∈ scope.names, y.2 ≠ .cell
  sub : ∀ x c, cl.lookup x = some c → X.env.cells.lookup x = some c
  has : ∀ x, (relabel scope X.env).names.lookup x = some .cell ∨ (relabel scope X.env).names.lookup x = some .free → ∃ c, cl.lookup x = some c
  len : Nc.length = nl + fr.length
  tail : ∀ i n, Nc[nl + i]? = some n → ∃ j, fr[i]? = some j ∧ X.N[j]? = some n ∧ X.env.kindOf n = some .cell ∧ cl.lookup n = X.env.cells.lookup n ∧ ((relabel scope X.env).names.lookup n = some .cell ∨ (relabel scope X.env).names.lookup n = some .free)
abbrev compCx (X : Cx) (scope : Scope) (cl : List (Str × Addr)) (Nc : List Str) (C : Addr) (s3 : Shared) (H3 : Hp) (fp : List Addr) (pins : List (Addr × Obj)) : Cx :=
  { X with N := Nc, s₀ := s3, H₀ := H3, env := compEnvC scope cl C X.env, outer := X.stack, ex := fp, fn := fun _ => false, pn := X.pn ++ pins, xe := fun _ _ => False }
def σC (nl : Nat) (fr : List Nat) (σ : St) : St := List.replicate nl none ++ fr.map fun j => (σ[j]?).join
abbrev PIf (X : Cx) (ifs : List Expr) (t : TT) : Prop :=
  ∀ (pins : List (Addr × Obj)) (s : Shared) (σ : St) (H : Hp) (Q : Bool → Hp → Prop), Inv X pins σ H s → t σ H Q → wpAny (model X.prog X.w) X.A (tests ifs X.env) (TP X pins σ Q) X.xe s
theorem pif_nil {X : Cx} : PIf X [] (fun _ H Q => Q true H) := fun _ _ _ H _ I h => wpAny_pure ⟨H, I, h⟩
section
variable {X : Cx} {scope : Scope} {cl : List (Str × Addr)} {Nc : List Str} {nl : Nat} {fr : List Nat} {pins : List (Addr × Obj)} {σ : St} {H3 : Hp} {s3 : Shared} {fp : List Addr} {h4 : Heap} {tk : Nat}
theorem comp_start (ck : CompOk X scope cl Nc nl fr) (I : Inv X pins σ H3 s3) (hf : ∀ b ∈ fp, FpOk X pins H3 b) (hfs : ∀ b ∈ fp, b < s3.heap.objs.size)
    (hns : h4.Ns s3.heap.objs.size fun _ => none) (hk : ∀ b o, s3.heap.get? b = some o → h4.get? b = some o) :
    Inv (compCx X scope cl Nc s3.heap.objs.size s3 H3 fp pins) [] (σC nl fr σ) H3 { s3 with heap := h4, toks := tk } := by
  have stk : ∀ b ∈ frs X.stack, b ∈ X.env.locals :: X.fs := I.stkSub
  have nfs : ∀ b, b ≠ X.env.locals → b ∉ X.fs → b ∉ frs X.stack := fun b h1 h2 z => (List.mem_cons.mp (stk b z)).elim h1 h2
  have ltc : ∀ x c, cl.lookup x = some c → c < s3.heap.objs.size := fun x c e => by
    obtain ⟨v, z⟩ := I.cell x c (ck.sub x c e)
    exact z.lt
  refine ⟨⟨I.ok.mod, ck.kind, I.ok.glob, I.ok.blt, Nat.le_refl _, fun x y c h1 h2 => I.ok.inj x y c (ck.sub x c h1) (ck.sub y c h2), fun x hx => ck.has x hx, fun x c hz => Bool.noConfusion hz, I.ok.hd, I.ok.frames, .inl rfl, fun b hb => ?_, I.bs, Nat.le_trans I.ok.bsz I.sz, fun b o e hb => ?_, fun b hb => ?_, I.stack, I.stkFree⟩,
    rfl, I.bare, Un.kept hk, ⟨_, hns, fun i x v h1 h2 h3 => ?_⟩, fun x c e => ?_, I.hok.fresh (Nat.le_refl _), fun x c e => I.freeC x c (ck.sub x c e), fun p hp => ?_, I.hok.kept hk, ?_⟩
  · obtain ⟨f0, f1, f2, f3, f4, f5⟩ := hf b hb
    exact ⟨Nat.ne_of_lt (hfs b hb), fun x c e => f4 x c (ck.sub x c e)⟩
  · obtain ⟨f0, f1, f2, f3, f4, f5⟩ := hf b hb
    rcases f3 with z | z
    · exact I.ok.noex b o e z
    · exact absurd (Nat.lt_of_lt_of_le (Heap.lt_size e) (Nat.le_trans I.ok.bsz z)) (Nat.lt_irrefl _)
  · obtain ⟨f0, f1, f2, f3, f4, f5⟩ := hf b hb
    exact nfs b f1 f2
  · -- a name's value
    unfold σC at h2
    by_cases hi : i < nl
    · rw [List.getElem?_append_left (by simpa using hi), List.getElem?_replicate] at h2
      split at h2 <;> cases h2
    · have hi' : nl ≤ i := by omega
      rw [List.getElem?_append_right (by simpa using hi'), List.length_replicate, List.getElem?_map] at h2
      obtain ⟨k, rfl⟩ : ∃ k, i = nl + k := ⟨i - nl, by omega⟩
      obtain ⟨j, e1, e2, e3, e4, e5⟩ := ck.tail k x h1
      rw [Nat.add_sub_cancel_left, e1] at h2
      have h2' : (σ[j]?).join = some v := by simpa using h2
      have h2'' : σ[j]? = some (some v) := by
        cases q : σ[j]? with
        | none => rw [q] at h2'; cases h2'
        | some z => rw [q] at h2'; exact congrArg some h2'
      obtain ⟨m, hn, hl⟩ := I.loc
      obtain ⟨u, r, l⟩ := hl j x v e2 h2'' (.inr (.inl e3))
      refine ⟨u, r, ?_⟩
      rcases l with ⟨k1, _⟩ | ⟨k1, c, ec, z⟩
      · rw [e3] at k1; cases k1
      · obtain ⟨o, ho, hd⟩ := z
        exact .inr ⟨e5, c, by show cl.lookup x = some c; rw [e4]; exact ec, o, hk _ _ ho, hd⟩
  · obtain ⟨v, o, ho, hd⟩ := I.cell x c (ck.sub x c e)
    exact ⟨v, o, hk _ _ ho, hd⟩
  · have hp' : p ∈ X.pn ++ pins := by simpa using hp
    obtain ⟨e, n, ne, nf, d⟩ := I.pin p hp'
    exact ⟨hk _ _ e, n, Nat.ne_of_lt (Heap.lt_size e), nfs _ ne nf, d⟩
  · unfold σC
    show _ = Nc.length
    rw [List.length_append, List.length_replicate, List.length_map, ck.len]
theorem comp_end {pins' : List (Addr × Obj)} {σ' : St} {H' : Hp} {s' : Shared} (I : Inv X pins σ H3 s3) (hf : ∀ b ∈ fp, FpOk X pins H3 b)
    (J : Inv (compCx X scope cl Nc s3.heap.objs.size s3 H3 fp pins) pins' σ' H' s') : Inv X pins σ H' s' ∧ FpOk X pins H' s3.heap.objs.size := by
  refine ⟨I.call' (ch := fp) J.os J.base J.hok J.bare fun b hb => ?_, I.fpOk (Nat.le_refl _) J.free⟩
  obtain ⟨f0, f1, f2, f3, f4, f5⟩ := hf b hb
  exact ⟨f3, f1, f4, f5⟩
theorem Inv.off {b : Addr} {H : Hp} {s : Shared} {h' : Heap} (I : Inv X pins σ H s) (f : FpOk X pins H b) (hs : Heap.SameBut b s.heap h') : Inv X pins σ H { s with heap := h' } := by
  obtain ⟨f0, f1, f2, f3, f4, f5⟩ := f
  exact I.turned (t' := s.toks) (it := b) (fun c o hb e => (hs.2 c hb).trans e) f0 f1 f3 f4 f5
end

def CompW (J : It) (nl : Nat) (fr : List Nat) (g : TG) (tt : TT) (te : TE) (σ : St) (D : Addr) (H1 : Hp) (Q : VK) : Prop :=
  ∃ W : Nat → Nat → List V → Hp → Prop, (∃ m, W 0 m [] (upd H1 D (.lst []))) ∧ ∀ i m ys H2, W i m ys H2 → H2 D = some (.lst ys) ∧
    ((J.stop i H2 ∧ Q (.ref D) H2) ∨ (J.go i H2 ∧ ∀ x H3, J.yld i H2 x H3 → g x (σC nl fr σ) H3 fun σ2 H4 => σ2.length = (σC nl fr σ).length ∧ (∀ (i : Nat) v, (σC nl fr σ)[i]? = some (some v) → σ2[i]? = some (some v)) ∧
      tt σ2 H4 fun b H5 => if b = true then te σ2 H5 fun y H6 => H6 D = some (.lst ys) ∧ ys.length < sizeLine ∧ ∃ m', m' < m ∧ W (i + 1) m' (ys ++ [y]) (upd H6 D (.lst (ys ++ [y])))
        else ∃ m', m' < m ∧ W (i + 1) m' ys H5))
def tComp (wi : TI) (nl : Nat) (fr : List Nat) (g : TG) (tt : TT) (te : TE) : TE := fun σ H Q => wi σ H fun J H1 => ∀ D, H1 D = none → CompW J nl fr g tt te σ D H1 Q
section
variable {X : Cx} {scope : Scope} {cl : List (Str × Addr)} {Nc : List Str} {nl : Nat} {fr : List Nat} {elt tg iter : Expr} {ifs : List Expr} {pos : Pos} {wi : TI} {g : TG} {tt : TT} {te : TE}
theorem comp_run (hc : X.calm = true) (ck : CompOk X scope cl Nc nl fr) (hi : PI X tg iter wi)
    (hg : ∀ C s3 H3 fp pins, PG (compCx X scope cl Nc C s3 H3 fp pins) tg g) (ht : ∀ C s3 H3 fp pins, PIf (compCx X scope cl Nc C s3 H3 fp pins) ifs tt) (he : ∀ C s3 H3 fp pins, PE (compCx X scope cl Nc C s3 H3 fp pins) elt te)
    {pins : List (Addr × Obj)} {s : Shared} {σ : St} {H : Hp} {Q : VK} (I : Inv X pins σ H s) (h : tComp wi nl fr g tt te σ H Q) {RR : Value → Addr → Result → Shared → Prop}
    (fin : ∀ D C s', (∃ H', (∃ m, s'.heap.Ns C m) ∧ Inv X pins σ H' s' ∧ FpOk X pins H' C ∧ Q (.ref D) H') → RR (.ref D) C (.ok .next) s') :
    wpAny (model X.prog X.w) X.A (eval iter X.env) (fun x s₁ => wpAny (model X.prog X.w) X.A (pyIter x) (fun it s₂ => wpAny (model X.prog X.w) X.A (newList []) (fun acc s₃ =>
      wpAny (model X.prog X.w) X.A (newFunctionEnv scope X.env.globals cl [] X.env.qual none .none (some X.env)) (fun cenv s₄ =>
        codeAny (model X.prog X.w) X.A (.compStart (.ListComp elt [⟨tg, iter, ifs, 0⟩] scope pos) 0 it acc { cenv with scope := relabel scope X.env }) (RR acc cenv.locals) s₄) X.xe s₃) X.xe s₂) X.xe s₁) X.xe s := by
  refine thn (hi pins s σ H _ I h) fun v s1 h1 => thn h1 fun itv s2 h2 => ?_
  obtain ⟨it, fp, tn, J, H2, e, I2, T, st2, f2, hD⟩ := h2
  subst e
  have hn2 : H2 s2.heap.objs.size = none := I2.hok.fresh (Nat.le_refl _)
  obtain ⟨W, ⟨m0, w0⟩, turn⟩ := hD s2.heap.objs.size hn2
  refine wpAny_newObj_type (wpAny_newFunctionEnv ck.cell (by intro y hy; simp at hy) (fun h4 hns hsb => ?_) ck.kind)
  dsimp only at hns hsb ⊢
  have I3 : Inv X pins σ (upd H2 s2.heap.objs.size (.lst [])) { s2 with heap := s2.heap.push { cls := .type "list", dict := none, data := .seq ([] : List Value).toArray } } :=
    I2.laid (t' := s2.toks) (fun b u e => Heap.get?_push_of_some _ e) (Nat.le_refl _) ⟨Nat.zero_le _, [], 0, .nil, Heap.get?_push_size _ rfl⟩
  have hfs : ∀ b ∈ fp, b < s2.heap.objs.size := fun b hb => by
    obtain ⟨o, e, _⟩ := T.obj 0 _ st2 b hb
    exact Heap.lt_size e
  have f3 : ∀ b ∈ fp, FpOk X pins (upd H2 s2.heap.objs.size (.lst [])) b := fun b hb => ⟨by rw [upd_ne (Nat.ne_of_lt (hfs b hb))]; exact (f2 b hb).1, (f2 b hb).2⟩
  generalize hH3 : upd H2 s2.heap.objs.size (.lst []) = H3 at *
  generalize hs3 : ({ s2 with heap := s2.heap.push { cls := .type "list", dict := none, data := .seq ([] : List Value).toArray } } : Shared) = s3 at *
  have z3 : s3.heap = s2.heap.push { cls := .type "list", dict := none, data := .seq ([] : List Value).toArray } := by rw [← hs3]
  have hsz3 : s3.heap.objs.size = s2.heap.objs.size + 1 := by rw [z3, Heap.size_push]
  rw [← z3] at hns hsb ⊢
  have hk4 : ∀ b o, s3.heap.get? b = some o → h4.get? b = some o := fun b o e => hsb.extBut b o (Nat.ne_of_lt (Heap.lt_size e)) (Heap.get?_push_of_some _ e)
  have hfs3 : ∀ b ∈ fp, b < s3.heap.objs.size := fun b hb => Nat.lt_of_lt_of_le (hfs b hb) (by rw [hsz3]; exact Nat.le_succ _)
  have hns' : h4.Ns s3.heap.objs.size fun _ => none := by simpa using hns
  have K0 := fun tk => comp_start (tk := tk) ck I3 f3 hfs3 hns' hk4
  have stat : ∀ {H' : Hp}, (∀ b ∈ fp, H' b = none) → ∀ b ∈ fp, FpOk (compCx X scope cl Nc s3.heap.objs.size s3 H3 fp pins) [] H' b := fun {H'} hn b hb => by
    obtain ⟨f0, g1, g2, g3, g4, g5⟩ := f3 b hb
    refine ⟨hn b hb, Nat.ne_of_lt (hfs3 b hb), fun z => ?_, .inl hb, fun x c e => g4 x c (ck.sub x c e), fun p hp => g5 p (by simpa using hp)⟩
    exact (List.mem_cons.mp (I3.stkSub b z)).elim g1 g2
  have st4 : tn 0 h4 := T.keep 0 _ _ st2 fun b hb o e => hk4 b o (by rw [z3]; exact Heap.get?_push_of_some _ e)
  have loop : ∀ tk, codeAny (model X.prog X.w) X.A (.compLoop (.ListComp elt [⟨tg, iter, ifs, 0⟩] scope pos) 0 (.ref it) (.ref s2.heap.objs.size) (compEnvC scope cl s3.heap.objs.size X.env)) (RR (.ref s2.heap.objs.size) s3.heap.objs.size) { s3 with heap := h4, toks := tk } := by
    intro tk
    refine comp_loop (fun n s' => ∃ i ys H', Inv (compCx X scope cl Nc s3.heap.objs.size s3 H3 fp pins) [] (σC nl fr σ) H' s' ∧ tn i s'.heap ∧ (∀ b ∈ fp, H' b = none) ∧ W i n ys H') ?_ m0 ⟨0, [], H3, K0 tk, st4, fun b hb => (f3 b hb).1, w0⟩
    rintro n s5 ⟨i, ys, H5, I5, st5, fr5, w5⟩
    obtain ⟨hl5, q5⟩ := turn i n ys H5 w5
    rcases q5 with ⟨stop, qn⟩ | ⟨go, step⟩
    · refine wpAny_mono (T.done (compCx X scope cl Nc s3.heap.objs.size s3 H3 fp pins) rfl rfl rfl hc i [] s5 (σC nl fr σ) H5 (fun _ _ => False) I5 (stat fr5) st5 stop) (fun r s6 h6 => ?_) fun _ _ z => z
      obtain ⟨hr, I6⟩ := h6
      subst hr
      obtain ⟨z1, z2⟩ := comp_end I3 f3 I6
      refine fin _ _ _ ⟨H5, ?_, z1, z2, qn⟩
      obtain ⟨m, hm, _⟩ := I6.loc
      exact ⟨m, hm⟩
    · refine wpAny_mono (T.item (compCx X scope cl Nc s3.heap.objs.size s3 H3 fp pins) rfl rfl rfl hc i [] s5 (σC nl fr σ) H5 (fun _ _ => False) I5 (stat fr5) st5 go) (fun r s6 h6 => ?_) fun _ _ z => z
      obtain ⟨u, hr, h6⟩ := h6
      subst hr
      refine wpAny_mono h6 (fun _ s7 h7 => ?_) fun _ _ z => z
      obtain ⟨x, H7, I7, r7, y7, st7, fr7⟩ := h7
      have I7' := I7.pinned (stat fr7) (T.obj _ _ st7)
      refine wpAny_mono (hg s3.heap.objs.size s3 H3 fp pins _ s7 _ H7 x u _ I7' r7 (step x H7 y7)) (fun _ s8 h8 => ?_) fun _ _ z => z
      obtain ⟨σ8, H8, I8, l8, k8, q8⟩ := h8
      refine wpAny_mono (ht s3.heap.objs.size s3 H3 fp pins _ s8 σ8 H8 _ I8 q8) (fun b s9 h9 => ?_) fun _ _ z => z
      obtain ⟨H9, I9, q9⟩ := h9
      have again : ∀ {ys' : List V} {H' : Hp} {s' : Shared} {m' : Nat}, Inv (compCx X scope cl Nc s3.heap.objs.size s3 H3 fp pins) ([] ++ pinsAt fp s7.heap) σ8 H' s' → m' < n → W (i + 1) m' ys' H' →
          ∃ m, m < n ∧ ∃ i ys H', Inv (compCx X scope cl Nc s3.heap.objs.size s3 H3 fp pins) [] (σC nl fr σ) H' s' ∧ tn i s'.heap ∧ (∀ b ∈ fp, H' b = none) ∧ W i m ys H' := fun {ys' H' s' m'} I' hm w' => by
        refine ⟨m', hm, i + 1, ys', H', I'.unpinned.weak l8.symm k8, T.keep _ _ _ st7 fun b hb o e => (I'.pin (b, o) (List.mem_append_right _ (List.mem_append_right _ (mem_pinsAt hb e)))).1, fun b hb => ?_, w'⟩
        obtain ⟨o, e, d⟩ := T.obj _ _ st7 b hb
        exact (I'.pin (b, o) (List.mem_append_right _ (List.mem_append_right _ (mem_pinsAt hb e)))).2.1
      cases b with
      | false =>
        rw [if_neg Bool.false_ne_true] at q9 ⊢
        obtain ⟨m', hm, w9⟩ := q9
        exact again I9 hm w9
      | true =>
        rw [if_pos rfl] at q9 ⊢
        refine wpAny_mono (he s3.heap.objs.size s3 H3 fp pins _ s9 σ8 H9 _ I9 q9) (fun yv s10 h10 => ?_) fun _ _ z => z
        obtain ⟨y, H10, I10, r10, hl10, hz10, m', hm, w10⟩ := h10
        refine wpAny_mono (mt_append (X := compCx X scope cl Nc s3.heap.objs.size s3 H3 fp pins) _ s10 σ8 H10 (.ref s2.heap.objs.size) [y] _ [yv] (fun v H' => H' = upd H10 s2.heap.objs.size (.lst (ys ++ [y]))) I10 rfl (.cons r10 .nil) ⟨_, ys, y, rfl, rfl, hl10, hz10, rfl⟩) (fun _ s11 h11 => ?_) fun _ _ z => z
        obtain ⟨_, H11, I11, _, e11⟩ := h11
        subst e11
        exact again I11 hm w10
  have L := loop (s2.toks + ([] : List (Str × Value)).length)
  rw [show s3.gens = s2.gens by rw [← hs3], show s3.drawn = s2.drawn by rw [← hs3], show s3.os = s2.os by rw [← hs3]] at L
  exact codeAny_compStart_list L (T.self _ 0 _ _ _ st4 L)
theorem pe_comp (hc : X.calm = true) (ck : CompOk X scope cl Nc nl fr) (hi : PI X tg iter wi)
    (hg : ∀ C s3 H3 fp pins, PG (compCx X scope cl Nc C s3 H3 fp pins) tg g) (ht : ∀ C s3 H3 fp pins, PIf (compCx X scope cl Nc C s3 H3 fp pins) ifs tt) (he : ∀ C s3 H3 fp pins, PE (compCx X scope cl Nc C s3 H3 fp pins) elt te)
    (hs : ∀ x, foldedSetIterable iter X.env x = pure x := by intro _; rfl) : PE X (.ListComp elt [⟨tg, iter, ifs, 0⟩] scope pos) (tComp wi nl fr g tt te) := by
  intro pins s σ H Q I h
  rw [eval_ListComp]
  refine wpAny_comprehension_free (use := none) rfl hs ck.clos ck.kind ck.names (comp_run (RR := fun acc C => compPost (model X.prog X.w) X.A X.xe none (EP X pins σ Q) acc C) hc ck hi hg ht he I h fun D C s' hh => ?_)
  obtain ⟨H', ⟨m, hm⟩, hI, hF, q⟩ := hh
  exact ⟨m, hm, fun h' hs' => ⟨.ref D, H', hI.off hF hs', rfl, q⟩⟩
theorem ps_setC {i : Nat} {y : Str} {py spos : Pos} (hN : X.N.Nodup) (hiy : X.N[i]? = some y) (hy : X.env.scope.names.lookup y = some .local) (hc : X.calm = true) (ck : CompOk X scope cl Nc nl fr) (hi : PI X tg iter wi)
    (hg : ∀ C s3 H3 fp pins, PG (compCx X scope cl Nc C s3 H3 fp pins) tg g) (ht : ∀ C s3 H3 fp pins, PIf (compCx X scope cl Nc C s3 H3 fp pins) ifs tt) (he : ∀ C s3 H3 fp pins, PE (compCx X scope cl Nc C s3 H3 fp pins) elt te)
    (hsw : swapsWith (.ListComp elt [⟨tg, iter, ifs, 0⟩] scope pos) (some (.Name y py)) spos.line X.env = pure true)
    (hs : ∀ x, foldedSetIterable iter X.env x = pure x := by intro _; rfl) : PS X (.Assign [.Name y py] (.ListComp elt [⟨tg, iter, ifs, 0⟩] scope pos) spos) (tAsg (tComp wi nl fr g tt te) (gName i)) := by
  intro pins s σ H D I h
  rw [exec_Assign_Name_used _ _ _ _ hsw]
  refine wpAny_bind (wpAny_standAt (wpAny_bind ?_))
  show wpAny _ X.A (do let _ ← comprehension (.ListComp elt [⟨tg, iter, ifs, 0⟩] scope pos) scope X.env _ (newList []) false (eval iter X.env) (some (assign (.Name y py) X.env))) _ _ s
  refine wpAny_bind (wpAny_mono (wpAny_comprehension_free (use := some (assign (.Name y py) X.env)) (Q := fun _ s' => SP X pins D .next s') rfl hs ck.clos ck.kind ck.names
    (comp_run (RR := fun acc C => compPost (model X.prog X.w) X.A X.xe (some (assign (.Name y py) X.env)) (fun _ s' => SP X pins D .next s') acc C) hc ck hi hg ht he I h fun Dd C s' hh => ?_)) (fun _ s' hq => wpAny_pure (wpAny_pure hq)) fun _ _ e => e)
  obtain ⟨H', ⟨m, hm⟩, hI, hF, q⟩ := hh
  show wpAny _ X.A (assign (.Name y py) X.env (.ref Dd)) _ _ _
  refine wpAny_assign_Name (store_ok2 hI hN hiy (.inl hy) (v := .ref Dd) rfl (fun s2 I2 hsb => ?_) (.inr hy))
  obtain ⟨a, sb, ha⟩ := hsb
  have hCa : C ≠ a := by
    rcases ha with z | z
    · rw [z]; exact hF.2.1
    · exact Ne.symm (hF.2.2.2.2.1 y a z)
  refine ⟨m, hm.sameBut sb hCa, fun h' hs' => ⟨_, H', I2.off hF hs', q⟩⟩
end
end L2

set_option maxHeartbeats 1000000
namespace Mq
abbrev Q2 := Int × Int
def gc (a b : Int) : Int := (Int.gcd a b : Nat)
theorem gc_step (a b : Int) : gc b (Int.fmod a b) = gc a b := by
  unfold gc
  rw [Int.fmod_def, Int.gcd_comm a b, Int.sub_eq_add_neg, ← Int.mul_neg, Int.gcd_add_mul_left_right]
theorem fmod_less {a b : Int} (h : b ≠ 0) : (Int.fmod a b).natAbs < b.natAbs := by
  rcases (by omega : 0 < b ∨ b < 0) with h1 | h1
  · have := Int.fmod_nonneg_of_pos a h1
    have := Int.fmod_lt_of_pos a h1
    omega
  · have h2 : 0 < -b := by omega
    have e : Int.fmod a b = - Int.fmod (-a) (-b) := by
      rw [Int.neg_fmod_neg]; omega
    have := Int.fmod_nonneg_of_pos (-a) h2
    have := Int.fmod_lt_of_pos (-a) h2
    omega
theorem gc_zero (a : Int) : gc a 0 = if a < 0 then -a else a := by
  unfold gc
  rw [Int.gcd_zero]
  split <;> omega
theorem gc_pos {a b : Int} (h : b ≠ 0) : 0 < gc a b := by
  have := Int.gcd_pos_of_ne_zero_right a h
  unfold gc; omega
structure Low (p : Q2) : Prop where
  pos : 1 ≤ p.2
  one : gc p.1 p.2 = 1
def dvr (t b : Int) : Int := if b < 0 then -gc t b else gc t b
def red (t b : Int) : Q2 := (Int.fdiv t (dvr t b), Int.fdiv b (dvr t b))
theorem dvr_ne {t b : Int} (h : b ≠ 0) : dvr t b ≠ 0 := by
  have := gc_pos (a := t) h
  unfold dvr; split <;> omega
theorem fdiv_exact {a g k : Int} (hg : g ≠ 0) (h : a = g * k) : Int.fdiv a g = k := by
  rw [h, Int.mul_fdiv_cancel_left _ hg]
theorem dvr_dvd (t b : Int) : dvr t b ∣ t ∧ dvr t b ∣ b := by
  have h1 : gc t b ∣ t := Int.gcd_dvd_left t b
  have h2 : gc t b ∣ b := Int.gcd_dvd_right t b
  unfold dvr; split
  · exact ⟨Int.neg_dvd.mpr h1, Int.neg_dvd.mpr h2⟩
  · exact ⟨h1, h2⟩
theorem red_parts {t b : Int} (h : b ≠ 0) : t = dvr t b * (red t b).1 ∧ b = dvr t b * (red t b).2 := by
  obtain ⟨⟨x, hx⟩, ⟨y, hy⟩⟩ := dvr_dvd t b
  have hg := dvr_ne (t := t) h
  have e1 : (red t b).1 = x := fdiv_exact hg hx
  have e2 : (red t b).2 = y := fdiv_exact hg hy
  rw [e1, e2]; exact ⟨hx, hy⟩
theorem red_low {t b : Int} (h : b ≠ 0) : Low (red t b) := by
  obtain ⟨h1, h2⟩ := red_parts (t := t) h
  have hg := dvr_ne (t := t) h
  have hp := gc_pos (a := t) h
  have nd : (dvr t b).natAbs = (gc t b).natAbs := by unfold dvr; split <;> simp
  have e : Int.gcd t b = (dvr t b).natAbs * Int.gcd (red t b).1 (red t b).2 := by
    rw [← Int.gcd_mul_left, ← h1, ← h2]
  have e2 : (gc t b).natAbs = Int.gcd t b := by unfold gc; simp
  rw [nd, e2] at e
  have hp' : 0 < Int.gcd t b := by unfold gc at hp; omega
  have one : Int.gcd (red t b).1 (red t b).2 = 1 := by
    have : Int.gcd t b * Int.gcd (red t b).1 (red t b).2 = Int.gcd t b * 1 := by omega
    exact Nat.eq_of_mul_eq_mul_left hp' this
  refine ⟨?_, by unfold gc; rw [one]; rfl⟩
  have sgn : 0 < (red t b).2 := by
    by_cases hb : b < 0
    · have hd : dvr t b < 0 := by unfold dvr; rw [if_pos hb]; omega
      have hq : ¬ (red t b).2 ≤ 0 := fun q => by
        have := Int.mul_nonneg_of_nonpos_of_nonpos (Int.le_of_lt hd) q
        omega
      omega
    · have hd : 0 < dvr t b := by unfold dvr; rw [if_neg hb]; omega
      have hq : ¬ (red t b).2 ≤ 0 := fun q => by
        have := Int.mul_nonpos_of_nonneg_of_nonpos (Int.le_of_lt hd) q
        omega
      omega
  omega
theorem red_cross {t b : Int} (h : b ≠ 0) : (red t b).1 * b = t * (red t b).2 := by
  obtain ⟨h1, h2⟩ := red_parts (t := t) h
  generalize (red t b).1 = x at *
  generalize (red t b).2 = y at *
  generalize dvr t b = g at *
  subst h1 h2; grind
theorem natAbs_fdiv_le {a g k : Int} (hg : g ≠ 0) (h : a = g * k) : k.natAbs ≤ a.natAbs := by
  rw [h, Int.natAbs_mul]
  exact Nat.le_mul_of_pos_left _ (by omega)
theorem red_le {t b : Int} (h : b ≠ 0) : (red t b).1.natAbs ≤ t.natAbs ∧ (red t b).2.natAbs ≤ b.natAbs := by
  obtain ⟨h1, h2⟩ := red_parts (t := t) h
  exact ⟨natAbs_fdiv_le (dvr_ne h) h1, natAbs_fdiv_le (dvr_ne h) h2⟩
theorem dvr_le {t b : Int} (h : b ≠ 0) : (dvr t b).natAbs ≤ b.natAbs := by
  have e : (dvr t b).natAbs = Int.gcd t b := by unfold dvr gc; split <;> simp
  rw [e]; exact Int.gcd_le_natAbs_right t h
theorem low_same {p q : Q2} (hp : Low p) (hq : Low q) (h : p.1 * q.2 = q.1 * p.2) : p = q := by
  have gp : Int.gcd p.2 p.1 = 1 := by have := hp.one; rw [Int.gcd_comm]; unfold gc at this; omega
  have gq : Int.gcd q.2 q.1 = 1 := by have := hq.one; rw [Int.gcd_comm]; unfold gc at this; omega
  have d1 : p.2 ∣ q.2 := by
    have : p.2 ∣ p.1 * q.2 := ⟨q.1, by rw [h, Int.mul_comm]⟩
    have := Int.dvd_gcd_mul_iff_dvd_mul.mpr this
    rw [gp] at this
    simpa using this
  have d2 : q.2 ∣ p.2 := by
    have : q.2 ∣ q.1 * p.2 := ⟨p.1, by rw [← h, Int.mul_comm]⟩
    have := Int.dvd_gcd_mul_iff_dvd_mul.mpr this
    rw [gq] at this
    simpa using this
  have l1 := Int.le_of_dvd (by have := hq.pos; omega) d1
  have l2 := Int.le_of_dvd (by have := hp.pos; omega) d2
  have e2 : p.2 = q.2 := by omega
  have e1 : p.1 = q.1 := by
    rw [e2] at h
    exact Int.eq_of_mul_eq_mul_right (by have := hq.pos; omega) h
  exact Prod.ext e1 e2
theorem low_red {p : Q2} (hp : Low p) : red p.1 p.2 = p := by
  have h : p.2 ≠ 0 := by have := hp.pos; omega
  exact low_same (red_low h) hp (red_cross h)
def B (n : Nat) (i : Int) : Prop := i.natAbs < 2 ^ n
structure Bd (n : Nat) (p : Q2) : Prop where
  a : B n p.1
  b : B n p.2
theorem B.mono {n m : Nat} {i : Int} (h : B n i) (l : n ≤ m) : B m i := Nat.lt_of_lt_of_le h (Nat.pow_le_pow_right (by decide) l)
theorem B.le {n : Nat} {i j : Int} (h : B n i) (l : j.natAbs ≤ i.natAbs) : B n j := Nat.lt_of_le_of_lt l h
theorem Bd.mono {n m : Nat} {p : Q2} (h : Bd n p) (l : n ≤ m) : Bd m p := ⟨h.a.mono l, h.b.mono l⟩
end Mq

set_option Elab.async false
set_option linter.all false
set_option maxRecDepth 100000
set_option maxHeartbeats 1000000
namespace L2
open PySem PySem.Spec PyProof.Rows
section
variable {X : Cx} {e st : Expr} {te ts : TE} {p2 pos : Pos}
end

structure FunD (K : PySem.W.Frag) (x qual : Str) (st : Stmt) (dV : Value) (f : Addr) (fd : FuncData) : Prop where
  ex : ∃ (oc : Value) (od : Option Addr) (kV doc pm : Value) (an : Option Addr) (cdv ct : Value) (osl : Array (Option Value)),
    fd = PySem.W.fnOf x qual (defArgs st) (defBody st) (defScope st) dV kV doc pm an cdv ct ∧ K.lookup f = some ⟨oc, od, .func fd, osl⟩ ∧ PySem.W.codeIn K cdv qual = true
  kp : PySem.W.keepIn K (.ref f) = true
section
variable {P : Program} {w : World} {K : PySem.W.Frag} {mg : Str → Option Value} {base : Heap} {CX : CXT}
theorem FunD.okX {x qual : Str} {st : Stmt} {dV : Value} {f : Addr} {fd : FuncData} {N ps : List Str} {k : Nat} {sp : Sp} (F : FunD K x qual st dV f fd) (S : FnScope N ps (defScope st)) (len : ∀ vs H Q E, sp vs H Q E → vs.length = ps.length)
    (hbody : ∀ (cdv : Value) (A : Around) (outer : List Env) (s : Shared) (H : Hp) (vs : List V) (Q : VK) (E : XK), Room k (A.deeper (envOfC qual (defScope st) s.heap.objs.size f cdv)) → sp vs H Q E →
      ∃ t, PSs (cxOf CX P w K mg base N qual (defScope st) f cdv A outer s H E) (defBody st) t ∧ t { nx := fun _ H' => Q .non H', rt := Q } (start N vs) H) : FnOk P w K mg base CX (k + 1) f fd ps sp := by
  obtain ⟨oc, od, kV, doc, pm, an, cdv, ct, osl, rfl, lk, hcd⟩ := F.ex
  exact fn_of lk hcd S len fun A outer s H vs Q E hr hsp => hbody cdv A outer s H vs Q E hr hsp
theorem FunD.ok {x qual : Str} {st : Stmt} {dV : Value} {f : Addr} {fd : FuncData} {N ps : List Str} {k : Nat} {sp : Sp} (F : FunD K x qual st dV f fd) (S : FnScope N ps (defScope st)) (len : ∀ vs H Q E, sp vs H Q E → vs.length = ps.length)
    (hbody : ∀ (cdv : Value) (A : Around) (outer : List Env) (s : Shared) (H : Hp) (vs : List V) (Q : VK) (E : XK), Room k (A.deeper (envOfC qual (defScope st) s.heap.objs.size f cdv)) → sp vs H Q E →
      ∃ t, PSs (cxOf CX P w K mg base N qual (defScope st) f cdv A outer s H E).nox (defBody st) t ∧ t { nx := fun _ H' => Q .non H', rt := Q } (start N vs) H) : FnOk P w K mg base CX (k + 1) f fd ps sp :=
  F.okX S len fun cdv A outer s H vs Q E hr hsp => by
    obtain ⟨t, h, q⟩ := hbody cdv A outer s H vs Q E hr hsp
    exact ⟨t, h.nox, q⟩
theorem FunD.binds {x qual : Str} {st : Stmt} {dV : Value} {f : Addr} {fd : FuncData} {ps : List Str} (F : FunD K x qual st dV f fd)
    (h : ∀ (kV doc pm : Value) (an : Option Addr) (cdv ct : Value) (us : List Value), us.length = ps.length → bindArgs (PySem.W.fnOf x qual (defArgs st) (defBody st) (defScope st) dV kV doc pm an cdv ct) ⟨us, []⟩ = pure (ps.zip us)) : Binds K fd ps [] := by
  obtain ⟨oc, od, kV, doc, pm, an, cdv, ct, osl, rfl, lk, hcd⟩ := F.ex
  exact .all (h kV doc pm an cdv ct)
theorem fund_mk {x qual : Str} {st : Stmt} {dV : Value} {f : Addr} {oc : Value} {od an : Option Addr} {osl : Array (Option Value)} {kV doc pm cdv ct : Value} (l : K.lookup f = some ⟨oc, od, .func (PySem.W.fnOf x qual (defArgs st) (defBody st) (defScope st) dV kV doc pm an cdv ct), osl⟩)
    (c : PySem.W.codeIn K cdv qual = true) (k : PySem.W.keepIn K (.ref f) = true) : FunD K x qual st dV f (PySem.W.fnOf x qual (defArgs st) (defBody st) (defScope st) dV kV doc pm an cdv ct) := ⟨⟨oc, od, kV, doc, pm, an, cdv, ct, osl, rfl, l, c⟩, k⟩
end

abbrev fT (p : Mq.Q2) : HO := .tup [.int p.1, .int p.2]
def Fq (K : PySem.W.Frag) (H : Hp) (a : Addr) (p : Mq.Q2) : Prop := SqT K H a [.int p.1, .int p.2]
theorem Same.seqT {K : PySem.W.Frag} {H H' : Hp} {a : Addr} {xs : List V} (e : Same H H') (h : SqT K H a xs) : SqT K H' a xs := by
  rcases h with (h | ⟨o, h⟩) | h
  · exact .inl (.inl (e _ _ h))
  · exact .inl (.inr ⟨o, e _ _ h⟩)
  · exact .inr h
theorem same_new {H : Hp} {p : Addr} (h : H p = none) (o : HO) : Same H (upd H p o) := fun b u q => by rw [upd_ne (ne_of_none q h)]; exact q
theorem Same.fq {K : PySem.W.Frag} {H H' : Hp} {a : Addr} {p : Mq.Q2} (e : Same H H') (h : Fq K H a p) : Fq K H' a p := e.seqT h
theorem Fq.of {K : PySem.W.Frag} {H : Hp} {a : Addr} {p : Mq.Q2} (h : H a = some (fT p)) : Fq K H a p := SqT.of h
theorem rd_ix0 {K : PySem.W.Frag} {σ : St} {H : Hp} {i : Nat} {a : Addr} {p : Mq.Q2} {Q : VK} (hv : σ[i]? = some (some (.ref a))) (h : Fq K H a p) (q : Q (.int p.1) H) : tOp (rIxT K) (tVar i) (tC (.int 0)) σ H Q :=
  ⟨_, hv, a, _, _, _, rfl, rfl, h, rfl, q⟩
theorem rd_ix1 {K : PySem.W.Frag} {σ : St} {H : Hp} {i : Nat} {a : Addr} {p : Mq.Q2} {Q : VK} (hv : σ[i]? = some (some (.ref a))) (h : Fq K H a p) (q : Q (.int p.2) H) : tOp (rIxT K) (tVar i) (tC (.int 1)) σ H Q :=
  ⟨_, hv, a, _, _, _, rfl, rfl, h, rfl, q⟩
theorem rd_mulB {H : Hp} {n m : Nat} {i j : Int} {Q : VK} (h1 : Mq.B n i) (h2 : Mq.B m j) (h3 : n ≤ 1048576) (h4 : m ≤ 1048576) (q : Q (.int (i * j)) H) : rI CBig (fun i j => .int (i * j)) (.int i) (.int j) H Q :=
  ⟨_, _, rfl, rfl, ⟨n, m, h1, h2, h3, h4⟩, q⟩
theorem rd_fdivB {H : Hp} {n : Nat} {i j : Int} {Q : VK} (h1 : j ≠ 0) (h2 : Mq.B n j) (h3 : n ≤ 9000) (q : Q (.int (i.fdiv j)) H) : rI CDivB (fun i j => .int (i.fdiv j)) (.int i) (.int j) H Q :=
  ⟨_, _, rfl, rfl, ⟨h1, n, h2, h3⟩, q⟩
structure Bl (mg : Str → Option Value) : Prop where
  isi : mg "isinstance" = none
  int : mg "int" = none
  bool : mg "bool" = none
  abs : mg "abs" = none
theorem pe_isi {X : Cx} {i : Nat} {x T : Str} {T' : String} {p1 p2 p3 pos : Pos} (hN : X.N[i]? = some x) (hv : Vis X.env.scope x) (b : X.mg "isinstance" = none) (b2 : X.mg T = none) (g1 : Gl X "isinstance") (g2 : Gl X T) (hT : bootBuiltins T = some (.type T'))
    (hd : (x == ("__debug__" : Str)) = false := by decide) (hcd : (x == ("__classdict__" : Str)) = false := by decide) (hTn : T ≠ "__name__" := by decide) (hTd : (T == ("__debug__" : Str)) = false := by decide)
    (he : starEach [.Name x p2, .Name T p3] X.env = (false, eval (.Name x p2) X.env) :: starEach [.Name T p3] X.env := by rfl)
    (he2 : starEach [.Name T p3] X.env = (false, eval (.Name T p3) X.env) :: starEach [] X.env := by rfl) (hpl : (backTo pos (starEach [.Name T p3] X.env)).any (·.1) = false := by rfl) :
    PE X (.Call (.Name "isinstance" p1) [.Name x p2, .Name T p3] [] pos) (fun σ H Q => ∃ v t b, σ[i]? = some (some v) ∧ TyOf X.K H v t ∧ PySem.W.kitOne X.K t (.type T') = some b ∧ Q (.bl b) H) := by
  have h := pe_callB (X := X) (pos := pos) (p := p1) call_isi g1 b PyProof.Rows.boot_isinstance (pa_cons (pe_var (i := i) (pos := p2) hN hv hd hcd) (pa_cons (pe_bltn (v := .ty T') (pos := p3) g2 b2 hT rfl hTn hTd) pa_nil he2) he) (by decide) (by decide) he hpl
  intro pins s σ H Q I q
  obtain ⟨v, t, bb, h1, h2, h3, h4⟩ := q
  exact h pins s σ H Q I ⟨v, h1, v, T', t, bb, rfl, h2, h3, h4⟩
end L2

set_option Elab.async false
set_option linter.all false
namespace L2
open PySem PySem.Spec PyProof.Rows
def NotWhole (t : Value) : Prop := t = .type "bool" ∨ t = .type "str" ∨ t = .type "NoneType" ∨ t = .type "tuple" ∨ t = .type "list"
def spWhole (K : PySem.W.Frag) : Sp := fun vs H Q _ => ∃ x, vs = [x] ∧ ((∃ i, x = .int i ∧ Q (.bl true) H) ∨ (∃ t, TyOf K H x t ∧ NotWhole t ∧ Q (.bl false) H))
def spGc : Sp := fun vs H Q _ => ∃ a b : Int, vs = [.int a, .int b] ∧ Q (.int (Mq.gc a b)) H
def NewF (H : Hp) (Q : VK) (p : Mq.Q2) : Prop := ∀ a H', Same H H' → H' a = some (fT p) → Q (.ref a) H'
end L2

set_option Elab.async false
set_option linter.all false
set_option maxHeartbeats 1000000
namespace L2
open PySem PySem.Spec PyProof.Rows
theorem Fq.upd {K : PySem.W.Frag} {H : Hp} {a l : Addr} {p : Mq.Q2} {xs : List V} {o : HO} (h : Fq K H a p) (hl : H l = some (.lst xs)) : Fq K (L2.upd H l o) a p := by
  rcases h with (h | ⟨u, h⟩) | h
  · exact .inl (.inl (by rw [upd_ne (ne_of h hl (fun z => by cases z))]; exact h))
  · exact .inl (.inr ⟨u, by rw [upd_ne (ne_of h hl (fun z => by cases z))]; exact h⟩)
  · exact .inr h
theorem Same.change {H H' : Hp} {l : Addr} {o : HO} (s : Same H H') (h : H l = none) : Same H (L2.upd H' l o) := fun b u q => by
  rw [upd_ne (ne_of_none q h)]; exact s b u q
def qd (p : Mq.Q2) : PyData := .tuple [.int p.1, .int p.2]
theorem Fq.dat {K : PySem.W.Frag} {H : Hp} {a : Addr} {p : Mq.Q2} (h : Fq K H a p) : DatV K H (.ref a) (qd p) := .tup h (.cons (.int _) (.cons (.int _) .nil))
end L2

set_option Elab.async false
set_option linter.all false
set_option maxRecDepth 100000
set_option maxHeartbeats 2000000
namespace L2
open PySem PySem.Spec PyProof.Rows
abbrev CompT (nl : Nat) (fr : List Nat) (g : TG) (tt : TT) (te : TE) (σ : St) (D : Addr) (Pv : Nat → List V → Hp → Prop) (i : Nat) (ys : List V) (x : V) (H : Hp) : Prop :=
  g x (σC nl fr σ) H fun σ2 H4 => σ2.length = (σC nl fr σ).length ∧ (∀ (i : Nat) v, (σC nl fr σ)[i]? = some (some v) → σ2[i]? = some (some v)) ∧
    tt σ2 H4 fun b H5 => if b = true then te σ2 H5 fun y H6 => H6 D = some (.lst ys) ∧ ys.length < sizeLine ∧ Pv (i + 1) (ys ++ [y]) (upd H6 D (.lst (ys ++ [y]))) else Pv (i + 1) ys H5
section
variable {nl : Nat} {fr : List Nat} {g : TG} {tt : TT} {te : TE} {σ : St} {D : Addr} {H1 : Hp} {Q : VK}
theorem comp_list {K : PySem.W.Frag} {a : Addr} {xs : List V} (Pv : Nat → List V → Hp → Prop) (h0 : Pv 0 [] (upd H1 D (.lst []))) (hl : ∀ i ys H, Pv i ys H → H D = some (.lst ys)) (hx : ∀ i ys H, i ≤ xs.length → Pv i ys H → SqL K H a xs)
    (hs : ∀ i ys x H, xs[i]? = some x → Pv i ys H → ∀ (C : Nat → List V → Hp → Prop), (∀ ys H, Pv (i + 1) ys H → C (i + 1) ys H) → CompT nl fr g tt te σ D C i ys x H) (hd : ∀ ys H, Pv xs.length ys H → Q (.ref D) H) :
    CompW (Itl K a) nl fr g tt te σ D H1 Q := by
  refine ⟨fun i m ys H => m = xs.length - i ∧ i ≤ xs.length ∧ Pv i ys H, ⟨xs.length, by simp, Nat.zero_le _, h0⟩, ?_⟩
  rintro i m ys H ⟨rfl, hi, p⟩
  refine ⟨hl i ys H p, ?_⟩
  have q := hx i ys H hi p
  by_cases hlt : i < xs.length
  · refine .inr ⟨⟨xs, xs[i], q, by simp [hlt]⟩, fun x H' y => ?_⟩
    obtain ⟨e, y⟩ := y
    subst e
    exact hs i ys x _ (y xs q) p (fun j zs Hz => ∃ m', m' < xs.length - i ∧ m' = xs.length - j ∧ j ≤ xs.length ∧ Pv j zs Hz) fun zs Hz z => ⟨xs.length - (i + 1), by omega, rfl, hlt, z⟩
  · have e : i = xs.length := by omega
    subst e
    exact .inl ⟨⟨xs, q, Nat.le_refl _⟩, hd ys H p⟩
end
theorem keep1 {fr : List Nat} {σ : St} {x : V} : ((σC 1 fr σ).set 0 (some x)).length = (σC 1 fr σ).length ∧ ∀ (i : Nat) v, (σC 1 fr σ)[i]? = some (some v) → ((σC 1 fr σ).set 0 (some x))[i]? = some (some v) := by
  refine ⟨by simp, fun i v h => ?_⟩
  match i with
  | 0 => unfold σC at h; simp at h
  | k + 1 => rw [List.getElem?_set_ne (by omega)]; exact h
theorem has_of {names : List (Str × NameKind)} {cl : List (Str × Addr)} (h : names.all (fun y => !(y.2 == .cell || y.2 == .free) || (cl.lookup y.1).isSome) = true) (x : Str) (hx : names.lookup x = some .cell ∨ names.lookup x = some .free) : ∃ c, cl.lookup x = some c := by
  have key : ∀ k, (k = NameKind.cell ∨ k = NameKind.free) → names.lookup x = some k → ∃ c, cl.lookup x = some c := fun k hk e => by
    have m := List.all_eq_true.mp h _ (PySem.mem_of_lookup e)
    have : (k == NameKind.cell || k == NameKind.free) = true := by rcases hk with rfl | rfl <;> rfl
    simp only [this, Bool.not_true, Bool.false_or] at m
    exact Option.isSome_iff_exists.mp m
  rcases hx with e | e
  · exact key _ (.inl rfl) e
  · exact key _ (.inr rfl) e
end L2

set_option Elab.async false
set_option linter.all false
set_option maxHeartbeats 1000000
namespace L2
open PySem PySem.Spec PyProof.Rows
section
variable {X : Cx}
end
end L2

set_option Elab.async false
set_option linter.all false
set_option maxRecDepth 100000
set_option maxHeartbeats 2000000
namespace L2
open PySem PySem.Spec PyProof.Rows
section
variable {X : Cx} {tg : Expr}
theorem find_list {es : Array DictEntry} {name : Str} (h : List.find? (fun x => x.key.isStr name) es.toList = none) : nsFind es name = none := by
  unfold nsFind findBy
  rw [← Array.find?_toList, h]
  rfl
theorem noDig {h : Heap} {K : PySem.W.Frag} (kin : K.In h) (lim : h.NoLimit) (nd : PySem.W.nsIn K cStatics "sys.int_max_str_digits" = some none) : h.NoDigits := by
  obtain ⟨mc, ⟨o, es, ep, e1, e2, sk, hf⟩, _⟩ := lim
  refine ⟨mc, ⟨o, es, ep, e1, e2, sk, hf⟩, ?_⟩
  rw [← hf]
  unfold PySem.W.nsIn at nd
  split at nd
  · rename_i cls dict es' ep' slots q
    have g := kin _ _ q
    rw [e1] at g
    cases g
    have e2' : es' = es := by cases e2; rfl
    subst e2'
    split at nd
    · cases nd
    · rename_i q2; exact find_list q2
  · cases nd
theorem lt_big {n : Nat} {a : Nat} (h : a < 2 ^ n) (hn : n ≤ 12900) : a < 10 ^ 4300 := by
  have h1 : (2 : Nat) ^ n ≤ 2 ^ 12900 := Nat.pow_le_pow_right (by decide) hn
  have h2 : (2 : Nat) ^ 12900 = 8 ^ 4300 := by rw [show (12900 : Nat) = 3 * 4300 from rfl, Nat.pow_mul]
  have h3 : (8 : Nat) ^ 4300 ≤ 10 ^ 4300 := Nat.pow_le_pow_left (by decide) _
  rw [h2] at h1
  exact Nat.lt_of_lt_of_le h (Nat.le_trans h1 h3)
def rStrI : List V → Hp → VK → Prop := fun xs H Q => ∃ i n, xs = [.int i] ∧ Bt n i ∧ n ≤ 12900 ∧ Q (.str (Str.ofString (toString i))) H
theorem call_strB (hc : X.calm = true) (nd : PySem.W.nsIn X.K cStatics "sys.int_max_str_digits" = some none) : CallR X (.type "str") rStrI := by
  intro pins s σ H xs us Q I r h
  obtain ⟨i, n, rfl, hb, hn, q⟩ := h
  obtain ⟨u, rfl, t, rfl⟩ := vals1 r
  have hl := lt_big hb hn
  exact str_of_int_or (I.ok.hd hc) (noDig I.kIn I.nolimit nd) (fun _ => ⟨.str _, H, I.tok _, ⟨_, rfl⟩, q⟩) fun z => absurd hl (Nat.not_lt.mpr z)
def rIntT : List V → Hp → VK → Prop := fun xs H Q => ∃ x n, xs = [.str x] ∧ intText? x = some n ∧ x.length ≤ 640 ∧ Q (.int n) H
theorem call_intT : CallR X (.type "int") rIntT := by
  intro pins s σ H xs us Q I r h
  obtain ⟨x, n, rfl, e, hz, q⟩ := h
  obtain ⟨u, rfl, t, rfl⟩ := vals1 r
  exact PySem.W.KIN.call_text e hz ⟨.int n, H, I.tok _, ⟨_, rfl⟩, q⟩
def rPart : V → List V → Hp → VK → Prop := fun x vs H Q => ∃ a b, x = .str a ∧ vs = [.str b] ∧ b.length ≠ 0 ∧ a.length ≤ sizeLine ∧
  ∀ p, H p = none → Q (.ref p) (upd H p (.tup [.str (Txt.partition a b).1, .str (Txt.partition a b).2.1, .str (Txt.partition a b).2.2]))
theorem mt_partition : MtR X "str.partition" rPart := by
  intro pins s σ H x vs v us Q I rx rv h
  obtain ⟨a, b, rfl, rfl, hb, hz, q⟩ := h
  obtain ⟨t, rfl⟩ := rx
  obtain ⟨u, rfl, t', rfl⟩ := vals1 rv
  have hb' : (b.length == 0) = false := by simpa using hb
  have fin : ∀ (ta tb tc : Tok) (k : Nat), EP X pins σ Q (.ref s.heap.objs.size) { s with heap := s.heap.push { cls := .type "tuple", data := .seq #[.str (Txt.partition a b).1 ta, .str (Txt.partition a b).2.1 tb, .str (Txt.partition a b).2.2 tc] }, toks := k } := fun ta tb tc k =>
    ⟨.ref s.heap.objs.size, _, I.laid (t' := k) (fun b o e => Heap.get?_push_of_some _ e) (Nat.le_refl _) (show ObjOk X.prog X.w _ _ _ (.tup [.str (Txt.partition a b).1, .str (Txt.partition a b).2.1, .str (Txt.partition a b).2.2]) from
      ⟨by show 3 ≤ sizeLine; decide, _, .cons ⟨_, rfl⟩ (.cons ⟨_, rfl⟩ (.cons ⟨_, rfl⟩ .nil)), IsTup.new _ _⟩), rfl, q _ (I.hok.fresh (Nat.le_refl _))⟩
  refine call_meets F.slot_str_partition (typeIs_str s a t) F.entry_str_partition (F.args_str_partition_2 _ _) (meets_str_partition a b t t' hb' hz) ?_
  cases e : Builtin.Str.occurrences a b 0 a.length 1 with
  | nil =>
    simp only [Txt.partition, e] at fin
    simp only [e]
    exact fin _ _ _ _
  | cons i l =>
    simp only [Txt.partition, e] at fin
    simp only [e]
    exact fin _ _ _ _
theorem mt_startswith : MtR X "str.startswith" (fun x vs H Q => ∃ a b, x = .str a ∧ vs = [.str b] ∧ Q (.bl (Txt.startswith a b)) H) := by
  intro pins s σ H x vs v us Q I rx rv h
  obtain ⟨a, b, rfl, rfl, q⟩ := h
  obtain ⟨t, rfl⟩ := rx
  obtain ⟨u, rfl, t', rfl⟩ := vals1 rv
  exact SC.startswith ⟨.bl _, H, I, rfl, q⟩
def rSlS : V → Option Int → Option Int → Hp → VK → Prop := fun x lo hi H Q => ∃ a, x = .str a ∧ a.length ≤ sizeLine ∧ Q (.str (Txt.slice a lo hi)) H
theorem isPart_of {v : Value} {o : Option Int} (p : IsPart v o) : ∃ z : Option (Int × Tok), v = partValue z ∧ z.map (·.1) = o := by
  cases p with
  | none => exact ⟨none, rfl, rfl⟩
  | int i t => exact ⟨some (i, t), rfl, rfl⟩
theorem sm_eq (a : Str) (t : Tok) (l u : Option (Int × Tok)) : sliceMade a t l u none = if ((1 : Int) == 1 && (Builtin.Str.strSliceIndices (Option.map (fun x => x.fst) l) (Option.map (fun x => x.fst) u) 1 a.length).length == a.length) = true then Made.val (Value.str a t) else Made.str ⟨(List.filterMap (fun x => a.cps[x]?) (Builtin.Str.strSliceIndices (Option.map (fun x => x.fst) l) (Option.map (fun x => x.fst) u) 1 a.length)).toArray⟩ := rfl
theorem sl_str : SlR X rSlS := by
  intro pins s σ H x v vl vu lo hi sl Q I rx hs pl pu h
  obtain ⟨a, rfl, hz, q⟩ := h
  obtain ⟨t, rfl⟩ := rx
  obtain ⟨l, rfl, rfl⟩ := isPart_of pl
  obtain ⟨u, rfl, rfl⟩ := isPart_of pu
  refine ⟨"str", _, slot_str_getitem.lookup, typeIs_str s a t, ?_⟩
  refine wpAny_getItem_str_slice (l := l) (u := u) (st := none) hs rfl ?_
  rw [sm_eq]
  unfold Txt.slice at q
  by_cases z : ((1 : Int) == 1 && (Builtin.Str.strSliceIndices (Option.map (fun x => x.fst) l) (Option.map (fun x => x.fst) u) 1 a.length).length == a.length) = true
  · rw [if_pos z] at q ⊢
    exact ⟨.str a, H, I, ⟨_, rfl⟩, q⟩
  · rw [if_neg z] at q ⊢
    refine ⟨?_, .str _, H, I.tok _, ⟨_, rfl⟩, q⟩
    have := Txt.slice_le a (Option.map (fun x => x.fst) l) (Option.map (fun x => x.fst) u)
    unfold Txt.slice at this
    rw [if_neg z] at this
    exact Nat.le_trans this hz
theorem kinds (x : Str) : strIterType x = "str_ascii_iterator" ∨ strIterType x = "str_iterator" := by
  unfold strIterType
  split
  · exact .inl rfl
  · exact .inr rfl
def Its (x : Str) : It := ⟨fun i _ => i < x.cps.size, fun i H v H' => H' = H ∧ ∃ c, x.cps[i]? = some c ∧ v = .str ⟨#[c]⟩, fun i _ => x.cps.size ≤ i⟩
theorem turn_str {P : Program} {w : World} {K : PySem.W.Frag} {tg : Expr} (it : Addr) (x : Str) (t : Tok) : Turn P w K tg (Its x) [it] it (fun i h => h.IsStrIter it (strIterType x) x t i) where
  mem := by simp
  obj := fun i h st b hb => by
    have e : b = it := by simpa using hb
    subst e
    obtain ⟨o, e, c, d⟩ := st
    exact ⟨o, e, fun v z => by rw [d] at z; cases z⟩
  keep := fun i h h' st k => by
    obtain ⟨o, e, c, d⟩ := st
    exact ⟨o, k it (by simp) o e, c, d⟩
  item := by
    intro X hP hw hK hc i pins s σ H E I hf st hg
    subst hP hw hK
    obtain ⟨f0, f1, f2, f3, f4, f5⟩ := hf it (by simp)
    have hg' : i < x.cps.size := hg
    have hx : x.cps[i]? = some x.cps[i] := by simp [hg']
    have fin : ∀ (h' : Heap), h'.IsStrIter it (strIterType x) x t (i + 1) → Heap.SameBut it s.heap h' →
        ∃ u, some (Value.str ⟨#[x.cps[i]]⟩ s.toks) = some u ∧ wpAny (model X.prog X.w) X.A (letOwnedTupleGo tg (.ref it) u) (fun _ s2 => ∃ y H', Inv X pins σ H' s2 ∧ RelV y u ∧ (Its x).yld i H y H' ∧ s2.heap.IsStrIter it (strIterType x) x t (i + 1) ∧ ∀ b ∈ [it], H' b = none) E { s with heap := h', toks := s.toks + 1 } := fun h' st' sb => by
      have I1 : Inv X pins σ H { s with heap := h', toks := s.toks + 1 } := I.turned (fun b o hb e => (sb.2 b hb).trans e) f0 f1 f3 f4 f5
      have fin2 : ∃ y H', Inv X pins σ H' { s with heap := h', toks := s.toks + 1 } ∧ RelV y (Value.str ⟨#[x.cps[i]]⟩ s.toks) ∧ (Its x).yld i H y H' ∧ h'.IsStrIter it (strIterType x) x t (i + 1) ∧ ∀ b ∈ [it], H' b = none :=
        ⟨.str ⟨#[x.cps[i]]⟩, H, I1, ⟨_, rfl⟩, ⟨rfl, _, hx, rfl⟩, st', fun b hb => (hf b hb).1⟩
      refine ⟨_, rfl, ?_⟩
      unfold letOwnedTupleGo
      cases tg <;> exact wpAny_pure fin2
    rcases kinds x with e | e
    · rw [e] at st
      exact wpAny_pyNext_ascii_item st hx fun h' st' sb => fin h' (by rw [e]; exact st') sb
    · rw [e] at st
      exact wpAny_pyNext_wide_item st hx fun h' st' sb => fin h' (by rw [e]; exact st') sb
  done := by
    intro X hP hw hK hc i pins s σ H E I hf st hg
    subst hP hw hK
    obtain ⟨f0, f1, f2, f3, f4, f5⟩ := hf it (by simp)
    have hg' : x.cps.size ≤ i := hg
    have hx : x.cps[i]? = none := by simp [hg']
    unfold strIterType at st
    split at st
    · exact wpAny_pyNext_ascii_end (I.ok.hd hc) st hx fun h' eb => ⟨rfl, I.turned (t' := s.toks) (fun b o hb e => eb b o hb e) f0 f1 f3 f4 f5⟩
    · exact wpAny_pyNext_wide_end (I.ok.hd hc) st hx fun h' eb => ⟨rfl, I.turned (t' := s.toks) (fun b o hb e => eb b o hb e) f0 f1 f3 f4 f5⟩
  self := fun A i s Q E st h => by
    unfold strIterType at st
    split at st
    · exact wpAny_pyIter_striter_ascii st h
    · exact wpAny_pyIter_striter_wide st h
def iStr (tl : TE) : TI := fun σ H R => tl σ H fun x H1 => ∃ a, x = .str a ∧ R (Its a) H1
theorem pi_str {l : Expr} {tl : TE} (hl : PE X l tl) : PI X tg l (iStr tl) := by
  intro pins s σ H R I h
  refine thn (hl pins s σ H _ I h) fun v s1 ⟨x, H1, I1, r1, q1⟩ => ?_
  obtain ⟨a, e, q⟩ := q1
  subst e
  obtain ⟨t, rfl⟩ := r1
  refine wpAny_pyIter_strU ?_
  refine ⟨s1.heap.objs.size, [s1.heap.objs.size], _, _, H1, rfl, I1.kept (t' := s1.toks) fun b o e => Heap.get?_push_of_some _ e, turn_str _ a t, ⟨_, Heap.get?_push_size _ rfl, rfl, rfl⟩, fun b hb => ?_, q⟩
  have e : b = s1.heap.objs.size := by simpa using hb
  subst e
  exact I1.fpOk (Nat.le_refl _) (I1.hok.fresh (Nat.le_refl _))
def rAll (K : PySem.W.Frag) : List V → Hp → VK → Prop := fun xs H Q => ∃ (p : Addr) (bs : List Bool), xs = [.ref p] ∧ SqL K H p (bs.map V.bl) ∧ Q (.bl (bs.all id)) H
theorem call_all (hc : X.calm = true) : CallR X (.builtin "all") (rAll X.K) := by
  intro pins s σ H xs us Q I r h
  obtain ⟨p, bs, rfl, hq, q⟩ := h
  obtain ⟨u, rfl, rx⟩ := vals1 r
  cases rx
  obtain ⟨its, rv, pl, hz⟩ := I.list hq
  have hlen : its.toArray.size = bs.length := by rw [List.size_toArray, ← rv.length, List.length_map]
  have hne : p ≠ s.heap.objs.size := by
    obtain ⟨o, e, _⟩ := pl.isList
    exact Nat.ne_of_lt (Heap.lt_size e)
  refine call_all_walk (wpAny_pyIter_list pl.isList ?_)
  refine ⟨s.heap.objs.size, _, _, _, _, _, fun i => bs.getD i false, rfl, Walks.list (by exact I.ok.hd hc) s.heap.objs.size p hne its.toArray, ⟨⟨_, Heap.get?_push_size _ rfl, rfl, rfl⟩, ?_⟩, ?_, ?_⟩
  · obtain ⟨o, e, c⟩ := pl.isList
    exact ⟨o, Heap.get?_push_of_some _ e, c⟩
  · intro i v s' Q' E' hv q'
    have hv' : its[i]? = some v := by simpa using hv
    have hi : i < its.length := (List.getElem?_eq_some_iff.mp hv').1
    have hb : (bs.map V.bl)[i]? = some (.bl (bs.getD i false)) := by
      rw [List.getElem?_map, List.getElem?_eq_getElem (by rw [← hlen]; simpa using hi)]
      simp [List.getD, List.getElem?_eq_getElem (show i < bs.length by rw [← hlen]; simpa using hi)]
    obtain ⟨u, hu, ru⟩ := rv.get hb
    have e : u = v := by rw [hv'] at hu; cases hu; rfl
    subst e
    cases ru
    exact wpAny_truthy_bool q'
  · intro h' tk kk
    have e : (List.range its.toArray.size).all (fun i => bs.getD i false) = bs.all id := by
      rw [hlen, Bool.eq_iff_iff, List.all_eq_true, List.all_eq_true]
      constructor
      · intro z b hb
        obtain ⟨i, hi, rfl⟩ := List.getElem_of_mem hb
        have := z i (List.mem_range.mpr hi)
        simpa [List.getD, List.getElem?_eq_getElem hi] using this
      · intro z i hi
        have hi' := List.mem_range.mp hi
        have := z bs[i] (List.getElem_mem hi')
        simpa [List.getD, List.getElem?_eq_getElem hi'] using this
    rw [e]
    refine ⟨.bl _, H, I.kept (t' := tk) fun b o hb => ?_, rfl, q⟩
    have hb2 : b ≠ s.heap.objs.size := Nat.ne_of_lt (Heap.lt_size hb)
    exact kk b o (by simpa using hb2) (Heap.get?_push_of_some _ hb)
end
end L2

set_option Elab.async false
set_option linter.all false
set_option maxRecDepth 100000
set_option maxHeartbeats 2000000
namespace Tx
open PySem
def S (cs : List Nat) : Str := ⟨cs.toArray⟩
theorem S_of {x : Str} {cs : List Nat} (h : x.cps.toList = cs) : x = S cs := PySem.StrLaws.mk_of_toList h
theorem S_list (cs : List Nat) : (S cs).cps.toList = cs := by simp [S]
theorem S_size (cs : List Nat) : (S cs).cps.size = cs.length := by simp [S]
theorem S_len (cs : List Nat) : (S cs).length = cs.length := by simp [S, Str.length]
theorem S_app (a b : List Nat) : S a ++ S b = S (a ++ b) := S_of (by show ((S a).cps ++ (S b).cps).toList = _; simp [S])
theorem S_inj {a b : List Nat} : S a = S b ↔ a = b := ⟨fun h => by rw [← S_list a, h, S_list], fun h => by rw [h]⟩
theorem S_self (x : Str) : x = S x.cps.toList := S_of rfl
def dg (m : Nat) : List Nat := (Nat.toDigits 10 m).map Char.toNat
def itx (i : Int) : List Nat := if i < 0 then 45 :: dg i.natAbs else dg i.natAbs
theorem str_nat (m : Nat) : Str.ofString (toString (m : Int)) = S (dg m) := S_of (PySem.W.KIN.signs_num m)
theorem str_int (i : Int) : Str.ofString (toString i) = S (itx i) := by
  unfold itx
  split <;> rename_i h
  · rw [PyProof.Rows.toString_neg h]
    have e : 0 - i = (i.natAbs : Int) := by omega
    rw [e]
    refine S_of ?_
    have h1 := PySem.W.KIN.signs_num i.natAbs
    rw [PyProof.Rows.signs_ofString] at h1 ⊢
    rw [String.toList_append, List.map_append, h1]
    rfl
  · have e : i = (i.natAbs : Int) := by omega
    rw [e, str_nat]
    rfl
theorem isDigit_nat {c : Char} (h : c.isDigit = true) : 48 ≤ c.toNat ∧ c.toNat ≤ 57 := by
  unfold Char.isDigit at h
  simp only [Bool.and_eq_true, decide_eq_true_eq] at h
  exact ⟨UInt32.le_iff_toNat_le.mp h.1, UInt32.le_iff_toNat_le.mp h.2⟩
theorem dg_all (m : Nat) : NumText.AllDigits (dg m) := fun c hc => by
  obtain ⟨d, hd, rfl⟩ := List.mem_map.mp hc
  exact isDigit_nat (Nat.isDigit_of_mem_toDigits (by decide) (by decide) hd)
theorem dg_ne (m : Nat) : dg m ≠ [] := fun h => Nat.toDigits_ne_nil (List.map_eq_nil_iff.mp h)
theorem dg_val (m : Nat) : NumText.digitsVal (dg m) = m := PySem.W.KIN.val_back m
theorem dg_len {m k : Nat} (hk : 0 < k) : (dg m).length ≤ k ↔ m < 10 ^ k := by
  unfold dg
  rw [List.length_map]
  exact Nat.length_toDigits_le_iff (by decide) hk
theorem itx_pos {i : Int} (h : 0 ≤ i) : itx i = dg i.natAbs := if_neg (by omega)
theorem dg_no {m c : Nat} (h : c < 48) : c ∉ dg m := fun z => by have := dg_all m c z; omega
theorem itx_no (i : Int) : 47 ∉ itx i := by
  unfold itx
  split
  · intro z; rcases List.mem_cons.mp z with z | z
    · cases z
    · exact dg_no (by decide) z
  · exact dg_no (by decide)
theorem dg_head45 (m : Nat) : (dg m).head? ≠ some 45 := fun z => dg_no (m := m) (c := 45) (by decide) (List.mem_of_mem_head? (by simpa using z))
def nosign (cs : List Nat) : List Nat := if cs.head? = some 45 then cs.tail else cs
theorem nosign_itx (i : Int) : nosign (itx i) = dg i.natAbs := by
  unfold nosign itx
  split <;> rename_i h
  · simp
  · rw [if_neg (dg_head45 _)]
def Figs (cs : List Nat) : Prop := 1 ≤ cs.length ∧ cs.length ≤ 200 ∧ NumText.AllDigits cs
def ival (cs : List Nat) : Int := if cs.head? = some 45 then -(NumText.digitsVal cs.tail : Int) else (NumText.digitsVal cs : Int)
theorem ival_text {cs : List Nat} (h : Figs (nosign cs)) : intText? (S cs) = some (ival cs) ∧ (S cs).length ≤ 640 := by
  unfold nosign at h
  unfold ival
  rw [S_len]
  obtain ⟨h1, h2, h3⟩ := h
  split at h1 <;> rename_i q
  · rw [if_pos q] at h2 h3 ⊢
    cases cs with
    | nil => cases q
    | cons c r =>
      have q' : c = 45 := by simpa using q
      subst q'
      simp only [List.tail_cons, List.length_cons] at *
      refine ⟨intText_neg (x := S (45 :: r)) (cs := r) (S_list _) h3 (fun z => by rw [z] at h1; simp at h1) ?_, by omega⟩
      rw [S_len, List.length_cons]; omega
  · rw [if_neg q] at h2 h3 ⊢
    refine ⟨?_, by omega⟩
    have := intText_digits (x := S cs) (by rw [S_list]; exact h3) (by rw [S_list]; intro z; rw [z] at h1; simp at h1) (by rw [S_len]; omega)
    rw [this, S_list]
theorem ival_itx (i : Int) : ival (itx i) = i := by
  unfold ival itx
  split <;> rename_i h
  · simp [dg_val]; omega
  · rw [if_neg (dg_head45 _), dg_val]; omega
theorem ival_lt {cs : List Nat} (h : Figs (nosign cs)) : (ival cs).natAbs < 10 ^ 200 := by
  have key : ∀ r : List Nat, NumText.AllDigits r → NumText.digitsVal r < 10 ^ r.length := fun r => by
    intro hr
    have : ∀ (r : List Nat) (a : Nat), NumText.AllDigits r → List.foldl (fun acc c => acc * 10 + (c - 48)) a r < (a + 1) * 10 ^ r.length := fun r => by
      induction r with
      | nil => intro a _; simp
      | cons c r ih =>
        intro a hr
        have h1 := hr c (by simp)
        have h2 := ih (a * 10 + (c - 48)) fun d hd => hr d (List.mem_cons_of_mem _ hd)
        rw [List.foldl_cons, List.length_cons, Nat.pow_succ]
        refine Nat.lt_of_lt_of_le h2 ?_
        rw [Nat.mul_comm (10 ^ r.length) 10, ← Nat.mul_assoc]
        exact Nat.mul_le_mul_right _ (by omega)
    have := this r 0 hr
    simpa [NumText.digitsVal] using this
  have key2 : ∀ r : List Nat, NumText.AllDigits r → r.length ≤ 200 → NumText.digitsVal r < 10 ^ 200 := fun r h1 h2 => Nat.lt_of_lt_of_le (key r h1) (Nat.pow_le_pow_right (by decide) h2)
  unfold nosign at h
  unfold ival
  obtain ⟨h1, h2, h3⟩ := h
  split at h1 <;> rename_i q
  · rw [if_pos q] at h2 h3 ⊢
    have := key2 _ h3 h2
    rw [Int.natAbs_neg]; exact this
  · rw [if_neg q] at h2 h3 ⊢
    exact key2 _ h3 h2
end Tx

set_option Elab.async false
set_option linter.all false
set_option maxRecDepth 100000
set_option maxHeartbeats 2000000
namespace Tx
open PySem
theorem slice_from (cs : List Nat) (k : Nat) : Txt.slice (S cs) (some (k : Int)) none = S (cs.drop k) := by
  show StrLaws.sliceText (S cs) (some (k : Int)) none = _
  rcases Nat.lt_or_ge cs.length k with h | h
  · have e : StrLaws.sliceText (S cs) (some (k : Int)) none = StrLaws.sliceText (S cs) (some (cs.length : Int)) none := by
      unfold StrLaws.sliceText
      have := PyProof.Rows.sliceIdx_lo_beyond (S cs).length (i := (k : Int)) (by rw [S_len]; omega)
      rw [this, S_len]
    rw [e, StrLaws.sliceText_from (by rw [S_list]; omega), S_list]
    unfold S
    simp [List.drop_eq_nil_of_le (Nat.le_of_lt h)]
  · rw [StrLaws.sliceText_from (by rw [S_list]; omega), S_list]
    unfold S
    congr 2
    rw [List.take_of_length_le (by rw [List.length_drop]; omega)]
    rfl
theorem starts_one (cs : List Nat) (c : Nat) : Txt.startswith (S cs) ⟨#[c]⟩ = decide (cs.head? = some c) := by
  have h := StrLaws.subAt_one (S cs) c 0
  rw [S_list] at h
  unfold Txt.startswith
  rw [Bool.eq_iff_iff, Bool.and_eq_true, decide_eq_true_eq, decide_eq_true_eq, h]
  cases cs <;> simp
def ahead (c : Nat) (cs : List Nat) : List Nat := cs.takeWhile (fun x => x != c)
def behind (c : Nat) (cs : List Nat) : List Nat := (cs.dropWhile (fun x => x != c)).tail
theorem part_no {c : Nat} {cs : List Nat} (h : c ∉ cs) : Txt.partition (S cs) ⟨#[c]⟩ = (S cs, Str.empty, Str.empty) := by
  rcases PyProof.Rows.partition_whole (S cs) ⟨#[c]⟩ with ⟨e, _⟩ | ⟨i, _, ha, _⟩
  · exact e
  · have := (StrLaws.subAt_one (S cs) c i).mp ha
    rw [S_list] at this
    exact absurd (List.mem_of_getElem? this) h
theorem split_at {c : Nat} : ∀ {cs : List Nat} {i : Nat}, cs[i]? = some c → (∀ k, k < i → cs[k]? ≠ some c) → ahead c cs = cs.take i ∧ behind c cs = cs.drop (i + 1)
  | [], i, h, _ => by simp at h
  | x :: xs, 0, h, _ => by
    have e : x = c := by simpa using h
    subst e
    simp [ahead, behind]
  | x :: xs, i + 1, h, n => by
    have hx : x ≠ c := fun z => n 0 (by omega) (by simp [z])
    have ih := split_at (cs := xs) (i := i) (c := c) (by simpa using h) fun k hk => by
      have := n (k + 1) (by omega)
      simpa using this
    simp [ahead, behind, hx] at ih ⊢
    exact ih
theorem part_yes {c : Nat} {cs : List Nat} (h : c ∈ cs) : Txt.partition (S cs) ⟨#[c]⟩ = (S (ahead c cs), ⟨#[c]⟩, S (behind c cs)) := by
  rcases PyProof.Rows.partition_whole (S cs) ⟨#[c]⟩ with ⟨_, ha⟩ | ⟨i, e, ha, hk⟩
  · obtain ⟨i, hi, hc⟩ := List.getElem_of_mem h
    exact absurd ((StrLaws.subAt_one (S cs) c i).mpr (by rw [S_list, List.getElem?_eq_getElem hi, hc])) (ha i)
  · have h1 := (StrLaws.subAt_one (S cs) c i).mp ha
    rw [S_list] at h1
    have h2 : ∀ k, k < i → cs[k]? ≠ some c := fun k hk' z => hk k hk' ((StrLaws.subAt_one (S cs) c k).mpr (by rw [S_list]; exact z))
    obtain ⟨e1, e2⟩ := split_at h1 h2
    rw [e, e1, e2]
    have l1 : (⟨#[c]⟩ : Str).length = 1 := rfl
    refine Prod.ext (S_of ?_) (Prod.ext rfl (S_of ?_))
    · show (Builtin.Str.strSub (S cs) 0 i).cps.toList = _
      rw [StrLaws.strSub_toList, S_list]; simp
    · show (Builtin.Str.strSub (S cs) (i + (⟨#[c]⟩ : Str).length) (S cs).length).cps.toList = _
      rw [StrLaws.strSub_toList, S_list, l1, S_len, List.take_of_length_le (by rw [List.length_drop]; omega)]
theorem ahead_app {c : Nat} {a b : List Nat} (h : c ∉ a) : ahead c (a ++ c :: b) = a ∧ behind c (a ++ c :: b) = b := by
  induction a with
  | nil => simp [ahead, behind]
  | cons x xs ih =>
    have hx : x ≠ c := fun z => h (by simp [z])
    have := ih fun z => h (List.mem_cons_of_mem _ z)
    simp [ahead, behind, hx] at this ⊢
    exact this
theorem ahead_len (c : Nat) (cs : List Nat) : (ahead c cs).length ≤ cs.length ∧ (behind c cs).length ≤ cs.length := by
  unfold ahead behind
  have h1 := NumText.len_takeWhile (fun x => x != c) cs
  have h2 := NumText.len_dropWhile (fun x => x != c) cs
  rw [List.length_tail]
  omega
def shw (p : Mq.Q2) : List Nat := if p.2 = 1 then itx p.1 else itx p.1 ++ 47 :: itx p.2
structure Wr (p : Mq.Q2) (cs : List Nat) : Prop where
  low : Mq.Low p
  txt : cs = shw p
  top : p.1.natAbs < 10 ^ 200
  bot : p.2.natAbs < 10 ^ 200
theorem low_pos {p : Mq.Q2} (h : Mq.Low p) : 1 ≤ p.2 := h.1
def belowOf (cs : List Nat) : List Nat := if 47 ∈ cs then behind 47 cs else [49]
def Fine (cs : List Nat) : Prop := Figs (nosign (ahead 47 cs)) ∧ Figs (belowOf cs)
theorem ahead_self {cs : List Nat} (h : 47 ∉ cs) : ahead 47 cs = cs := by
  induction cs with
  | nil => rfl
  | cons x xs ih =>
    have hx : x ≠ 47 := fun z => h (by simp [z])
    have := ih fun z => h (List.mem_cons_of_mem _ z)
    simp only [ahead, List.takeWhile_cons, bne_iff_ne, ne_eq, hx, not_false_eq_true, if_true] at this ⊢
    rw [this]
theorem fine_head {cs : List Nat} (h : Figs cs) : cs.head? ≠ some 45 := fun z => by
  have := h.2.2 45 (List.mem_of_mem_head? (by simpa using z))
  omega
theorem nosign_fig {cs : List Nat} (h : Figs cs) : nosign cs = cs := if_neg (fine_head h)
theorem figs_dg {m : Nat} (h : m < 10 ^ 200) : Figs (dg m) := ⟨List.length_pos_iff.mpr (dg_ne m), (dg_len (by decide)).mpr h, dg_all m⟩
theorem wr_fine {p : Mq.Q2} {cs : List Nat} (h : Wr p cs) : Fine cs ∧ ival (ahead 47 cs) = p.1 ∧ ival (belowOf cs) = p.2 := by
  obtain ⟨low, rfl, ht, hb⟩ := h
  have hp := low_pos low
  unfold shw
  split <;> rename_i e
  · have n47 := itx_no p.1
    unfold Fine belowOf
    rw [ahead_self n47, if_neg n47, nosign_itx, ival_itx, e]
    exact ⟨⟨figs_dg ht, ⟨by decide, by decide, fun c hc => by simp at hc; omega⟩⟩, rfl, rfl⟩
  · have n47 := itx_no p.1
    have ha := ahead_app (b := itx p.2) n47
    unfold Fine belowOf
    rw [ha.1, ha.2, if_pos (by simp), nosign_itx, ival_itx, ival_itx]
    refine ⟨⟨figs_dg ht, ?_⟩, rfl, rfl⟩
    rw [itx_pos (by omega)]
    exact figs_dg hb
theorem red_wr {p : Mq.Q2} {cs : List Nat} (h : Wr p cs) : Mq.red (ival (ahead 47 cs)) (ival (belowOf cs)) = p := by
  obtain ⟨_, e1, e2⟩ := wr_fine h
  rw [e1, e2]
  exact Mq.low_red h.low
theorem fine_wr {cs : List Nat} (h : Fine cs) (h0 : ival (belowOf cs) ≠ 0) (e : shw (Mq.red (ival (ahead 47 cs)) (ival (belowOf cs))) = cs) : Wr (Mq.red (ival (ahead 47 cs)) (ival (belowOf cs))) cs := by
  have hl := Mq.red_le (t := ival (ahead 47 cs)) h0
  exact ⟨Mq.red_low h0, e.symm, Nat.lt_of_le_of_lt hl.1 (ival_lt h.1), Nat.lt_of_le_of_lt hl.2 (ival_lt (by rw [nosign_fig h.2]; exact h.2))⟩
end Tx

set_option Elab.async false
set_option linter.all false
set_option maxRecDepth 100000
set_option maxHeartbeats 1000000
namespace L2
open PySem PySem.Spec PyProof.Rows

def Tb (h0 : Heap) (H : Hp) (h : Heap) (a : Addr) (v : Value) : Prop :=
  v = .none ∨ ∃ T oT ts, v = .ref T ∧ T ≠ a ∧ h0.get? T = none ∧ H T = none ∧ h.get? T = some oT ∧ oT.data = .fields ts ∧ ts[3]? = some .none
structure Fl (h0 : Heap) (H : Hp) (h : Heap) (a : Addr) (C : Value) (d : Option Addr) : Prop where
  new : h0.get? a = none
  free : H a = none
  at_ : ∃ oe vs v, h.get? a = some oe ∧ oe.cls = C ∧ oe.dict = d ∧ oe.data = .fields vs ∧ vs[1]? = some v ∧ Tb h0 H h a v
theorem Fl.older {h0 h1 : Heap} {H : Hp} {h : Heap} {a : Addr} {C : Value} {d : Option Addr} (F : Fl h0 H h a C d) (k : ∀ b, h0.get? b = none → h1.get? b = none) : Fl h1 H h a C d := by
  obtain ⟨n, f, oe, vs, v, e1, e2, e3, e4, e5, t⟩ := F
  refine ⟨k _ n, f, oe, vs, v, e1, e2, e3, e4, e5, ?_⟩
  rcases t with t | ⟨T, oT, ts, t1, t2, t3, t4⟩
  · exact .inl t
  · exact .inr ⟨T, oT, ts, t1, t2, k _ t3, t4⟩

theorem dict_mapFields (f : Array Value → Array Value) (o : Obj) : (o.mapFields f).dict = o.dict := by
  obtain ⟨c, d, dt, sl⟩ := o
  cases dt <;> rfl
section
variable {M : Model} {A : Around} {E : Value → Shared → Prop} {s : Shared}
theorem entry_raw {base : Heap} {env : Env} {outer : List Env} {L e : Addr} {oe : Obj} {vs : Array Value} {head : Value} {hadNext : Bool} {Q : Unit → Shared → Prop}
    (hfr : A.frames = some (env :: outer)) (hl : s.heap.FunFrames base (env :: outer)) (hf : env.frame = some L)
    (he : s.heap.get? e = some oe) (hd : oe.data = .fields vs) (hsz : 1 < vs.size)
    (h : ∀ h' T oT ts, s.heap.objs.size ≤ T → (∀ b o, b ∉ frs (env :: outer) → b ≠ e → s.heap.get? b = some o → h'.get? b = some o) → (∀ b o, b ∈ frs (env :: outer) → s.heap.get? b = some o → ∃ sl, h'.get? b = some { o with slots := sl }) →
      h'.get? e = some (oe.mapFields (·.setIfInBounds 1 (.ref T))) → h'.get? T = some oT → oT.data = .fields ts → ts[3]? = some .none → T ≠ e → Q () { s with heap := h' }) :
    wpAny M A (do let a ← frameOf env; let pl ← entryPlaceOf L hadNext; let b ← EntryCells.newEntry head a .none (rawInt L) .none pl; setField (.ref e) 1 b) (fun _ s' => wpAny M A (setFlight (.ref e) none) Q E s') E s := by
  have hene : e ∉ frs (env :: outer) := fun hm => by
    obtain ⟨_, o, ho, hnf⟩ := hl.mem hm
    rw [he] at ho; injection ho with ho; subst ho; exact hnf vs hd
  refine wpAny_bind (wpAny_frameOf_fun hfr hl hf fun h₁ hs₁ => ?_)
  refine wpAny_bind (wpAny_entryPlaceOf fun pl hpl => ?_)
  unfold EntryCells.newEntry newFields
  refine wpAny_bind (wpAny_newObj_type ?_ (hpl.sizeOk5 _ _ _ _ _))
  have he₁ : h₁.get? e = some oe := (hs₁.2.1 e hene).trans he
  have he₂ := Heap.get?_push_of_some (h := h₁) { cls := .type "traceback", dict := none, data := .fields ([head, .ref L, .none, rawInt L, .none] ++ (if pl.isEmpty then List.replicate 6 Value.none else pl)).toArray } he₁
  refine wpAny_setField he₂ hd hsz ?_
  have hTe : h₁.objs.size ≠ e := Nat.ne_of_gt (Heap.lt_size he₁)
  have hd₃ := Obj.data_mapFields hd (·.setIfInBounds 1 (Value.ref h₁.objs.size))
  have he₃ := Heap.get?_update_self (Obj.mapFields (·.setIfInBounds 1 (Value.ref h₁.objs.size))) he₂ (Obj.isFreed_of_fields hd₃)
  have hT₃ := (Heap.get?_update_other (h₁.push { cls := .type "traceback", dict := none, data := .fields ([head, .ref L, .none, rawInt L, .none] ++ (if pl.isEmpty then List.replicate 6 Value.none else pl)).toArray })
    (Obj.mapFields (·.setIfInBounds 1 (Value.ref h₁.objs.size))) (Ne.symm hTe)).trans (Heap.get?_push_size h₁ rfl)
  unfold setFlight
  refine wpAny_bind (wpAny_field he₃ hd₃ (x := .ref h₁.objs.size) (by simp [hsz]) ?_)
  rw [if_pos (show (Value.ref h₁.objs.size != Value.none) = true from by simp)]
  have keep : ∀ b o, b ≠ e → h₁.get? b = some o →
      (((h₁.push { cls := .type "traceback", dict := none, data := .fields ([head, .ref L, .none, rawInt L, .none] ++ (if pl.isEmpty then List.replicate 6 Value.none else pl)).toArray }).update e (Obj.mapFields (·.setIfInBounds 1 (Value.ref h₁.objs.size)))).update h₁.objs.size
        (Obj.mapFields (·.setIfInBounds 3 ((none : Option Addr).elim Value.none fun f => rawInt f)))).get? b = some o := fun b o hbe hb => by
    have hbT : h₁.objs.size ≠ b := Nat.ne_of_gt (Heap.lt_size hb)
    rw [Heap.get?_update_other _ _ hbT, Heap.get?_update_other _ _ (Ne.symm hbe)]
    exact Heap.get?_push_of_some _ hb
  refine wpAny_setField hT₃ rfl (by simp only [List.size_toArray, List.length_append, List.length_cons, List.length_nil] <;> omega) (h _ h₁.objs.size _ _ (Nat.le_of_eq hs₁.1.symm) ?_ ?_ ?_
    (Heap.get?_update_self _ hT₃ (Obj.isFreed_of_fields (Obj.data_mapFields rfl _))) (Obj.data_mapFields rfl _) ?_ hTe)
  · exact fun b o hb hbe q => keep b o hbe ((hs₁.2.1 b hb).trans q)
  · intro b o hb q
    obtain ⟨sl, e1⟩ := hs₁.2.2 b o q
    exact ⟨sl, keep b _ (fun z => hene (z ▸ hb)) e1⟩
  · rw [Heap.get?_update_other _ _ hTe]; exact he₃
  · first | (simp; done) | (rcases hpl with rfl | ⟨_, _, _, _, _, _, _, rfl⟩ <;> simp)

theorem note_raw {base h0 : Heap} {H : Hp} {env : Env} {outer : List Env} {L e : Addr} {C : Value} {d : Option Addr} {Q : Unit → Shared → Prop}
    (hfr : A.frames = some (env :: outer)) (hl : s.heap.FunFrames base (env :: outer)) (hf : env.frame = some L) (F : Fl h0 H s.heap e C d)
    (hnew : ∀ b, s.heap.objs.size ≤ b → h0.get? b = none ∧ H b = none)
    (h : ∀ (h' : Heap) (ch : List Addr), (∀ b ∈ ch, h0.get? b = none ∧ H b = none ∧ ∃ o vs, s.heap.get? b = some o ∧ o.data = .fields vs) → (∀ b o, b ∉ frs (env :: outer) → b ∉ ch → s.heap.get? b = some o → h'.get? b = some o) →
      (∀ b o, b ∈ frs (env :: outer) → s.heap.get? b = some o → ∃ sl, h'.get? b = some { o with slots := sl }) → Fl h0 H h' e C d → Q () { s with heap := h' }) :
    wpAny M A (noteFrame (.ref e) env) (fun _ s' => wpAny M A (setFlight (.ref e) none) Q E s') E s := by
  obtain ⟨n, f, oe, vs, v, e1, e2, e3, e4, e5, t⟩ := F
  have hsz : 1 < vs.size := (Array.getElem?_eq_some_iff.mp e5).1
  have fin : ∀ {h' : Heap} {T : Addr} {oT : Obj} {ts : Array Value}, s.heap.objs.size ≤ T → h'.get? e = some (oe.mapFields (·.setIfInBounds 1 (.ref T))) → h'.get? T = some oT → oT.data = .fields ts → ts[3]? = some .none → T ≠ e → Fl h0 H h' e C d := by
    intro h' T oT ts z he hT hd h3 hTe
    refine ⟨n, f, _, _, .ref T, he, ?_, ?_, Obj.data_mapFields e4 _, by simp [hsz], .inr ⟨T, oT, ts, rfl, hTe, (hnew T z).1, (hnew T z).2, hT, hd, h3⟩⟩
    · rw [Obj.cls_mapFields]; exact e2
    · rw [dict_mapFields]; exact e3
  rcases t with rfl | ⟨T, oT, ts, rfl, t2, t3, t4, t5, t6, t7⟩
  · unfold noteFrame
    simp only [hf]
    refine wpAny_bind (wpAny_field e1 e4 e5 ?_)
    rw [if_neg (by decide)]
    refine entry_raw hfr hl hf e1 e4 hsz fun h' T oT ts z k1 k2 he hT hd h3 hTe => ?_
    refine h h' [e] (fun b hb => ?_) (fun b o h1 h2 q => k1 b o h1 (fun w => h2 (by simp [w])) q) k2 (fin z he hT hd h3 hTe)
    have hb : b = e := by simpa using hb
    subst hb
    exact ⟨n, f, _, _, e1, e4⟩
  · unfold noteFrame
    simp only [hf]
    refine wpAny_bind (wpAny_field e1 e4 e5 ?_)
    rw [if_pos (show (Value.ref T != Value.none) = true from by simp)]
    refine wpAny_bind (wpAny_field t5 t6 t7 ?_)
    rw [if_neg (show ¬ ((Value.none == rawInt L) = true) from by simp [rawInt])]
    refine wpAny_bind (wpAny_setField t5 t6 (Array.getElem?_eq_some_iff.mp t7).1 ?_)
    have other : ∀ b, b ≠ T → (s.heap.update T (Obj.mapFields (·.setIfInBounds 3 Value.none))).get? b = s.heap.get? b := fun b hb => Heap.get?_update_other _ _ (Ne.symm hb)
    have noRecord : ∀ b o, s.heap.get? b = some o → (∀ vs, o.data ≠ .fields vs) → b ≠ T := fun b o hb hnf q => by
      rw [q, t5] at hb; injection hb with hb; subst hb; exact hnf ts t6
    have nofr : ∀ b, b ∈ frs (env :: outer) → b ≠ T := fun b hb => by
      obtain ⟨_, o, ho, hnf⟩ := hl.mem hb
      exact noRecord b o ho hnf
    refine entry_raw (s := { s with heap := s.heap.update T (Obj.mapFields (·.setIfInBounds 3 Value.none)) }) (base := base) hfr (hl.of_keeps fun b o hb hnf => ⟨o, (other b (noRecord b o hb hnf)).trans hb, rfl⟩) hf ((other e (Ne.symm t2)).trans e1) e4 hsz
      fun h' T' oT' ts' z k1 k2 he hT hd h3 hTe => ?_
    have z' : s.heap.objs.size ≤ T' := by
      have := Heap.size_after_update s.heap T (Obj.mapFields (·.setIfInBounds 3 Value.none))
      exact Nat.le_trans (Nat.le_of_eq this.symm) z
    refine h h' [e, T] (fun b hb => ?_) (fun b o h1 h2 q => ?_) (fun b o hb q => ?_) (fin z' he hT hd h3 hTe)
    · rcases List.mem_cons.mp hb with hb | hb
      · subst hb; exact ⟨n, f, _, _, e1, e4⟩
      · have hb : b = T := by simpa using hb
        subst hb; exact ⟨t3, t4, _, _, t5, t6⟩
    · exact k1 b o h1 (fun w => h2 (by simp [w])) ((other b fun w => h2 (by simp [w])).trans q)
    · exact k2 b o hb ((other b (nofr b hb)).trans q)
end

section
variable {X : Cx} {pins : List (Addr × Obj)} {σ : List (Option V)} {H H' : Hp} {s : Shared} {h' : Heap}
theorem ObjOk.ex {P : Program} {w : World} {h : Heap} {a : Addr} {o : HO} (x : ObjOk P w H h a o) : ∃ u, h.get? a = some u := by
  cases o with
  | lst xs => obtain ⟨_, _, _, _, e⟩ := x; exact ⟨_, e⟩
  | tup xs => obtain ⟨_, _, _, o, e, _⟩ := x; exact ⟨_, e⟩
  | dK kvs => obtain ⟨_, _, _, _, o, _, _, e, _⟩ := x; exact ⟨_, e⟩
  | dT kvs => obtain ⟨_, _, _, _, o, _, _, e, _⟩ := x; exact ⟨_, e⟩
  | set S n => obtain ⟨o, _, _, _, e, _⟩ := x; exact ⟨_, e⟩
  | ins C dx fs => obtain ⟨_, _, _, e, _⟩ := x; exact ⟨_, e⟩
  | own y => obtain ⟨_, e⟩ := x; exact ⟨_, e⟩
  | xd fs => obtain ⟨_, ⟨_, _, _, e, _⟩, _⟩ := x; exact ⟨_, e⟩
  | rng lo hi => obtain ⟨_, _, _, e⟩ := x; exact ⟨_, e⟩
  | frz ob u => obtain ⟨e, _⟩ := x; exact ⟨_, e⟩
  | tbl ps => exact ⟨_, (show h.get? a = some _ from x)⟩
  | met f y => exact ⟨_, (show h.get? a = some _ from x)⟩
  | ext φ => obtain ⟨_, ⟨_, e⟩, _⟩ := x; exact ⟨_, e⟩
theorem HOk.none_of {P : Program} {w : World} {h : Heap} {a : Addr} (x : HOk P w H h) (e : h.get? a = none) : H a = none := by
  cases q : H a with
  | none => rfl
  | some o =>
    obtain ⟨u, hu⟩ := (x a o q).ex
    rw [e] at hu; cases hu
theorem Inv.stepN {g' : Array GenState} {t' : Nat} {d' : Drawn} {ch : List Addr} (I : Inv X pins σ H s)
    (hch : ∀ b ∈ ch, X.s₀.heap.get? b = none ∧ b ≠ X.env.locals ∧ (∀ x c, X.env.cells.lookup x = some c → c ≠ b) ∧ ∀ p ∈ X.pn ++ pins, p.1 ≠ b)
    (keep : ∀ b o, b ≠ X.env.locals → b ∉ X.fs → b ∉ ch → s.heap.get? b = some o → H b = none → h'.get? b = some o)
    (slot : ∀ b o, b ≠ X.env.locals → b ∈ X.fs → b ∉ ch → s.heap.get? b = some o → H b = none → ∃ sl, h'.get? b = some { o with slots := sl })
    (there : ∀ b o, b ∉ ch → s.heap.get? b = some o → ∃ o', h'.get? b = some o')
    (ns : ∀ m, s.heap.Ns X.env.locals m → h'.Ns X.env.locals m) (hok : HOk X.prog X.w H h') (hg : AllBare g') :
    Inv X pins σ H { s with heap := h', gens := g', drawn := d', toks := t' } := by
  have neL : ∀ b o, X.s₀.heap.get? b = some o → b ≠ X.env.locals := fun b o e => Nat.ne_of_lt (Nat.lt_of_lt_of_le (Heap.lt_size e) I.ok.above)
  have neC : ∀ b o, X.s₀.heap.get? b = some o → b ∉ ch := fun b o e hb => by rw [(hch b hb).1] at e; cases e
  have cellK : ∀ x c, X.env.cells.lookup x = some c → ∀ v, s.heap.IsCell c v → h'.IsCell c v := fun x c e v ⟨o, ho, hd⟩ => by
    have nch : c ∉ ch := fun z => (hch c z).2.2.1 x c e rfl
    by_cases hc : c ∈ X.fs
    · obtain ⟨sl, q⟩ := slot c o (I.cne x c e) hc nch ho (I.freeC x c e)
      exact ⟨_, q, hd⟩
    · exact ⟨o, keep c o (I.cne x c e) hc nch ho (I.freeC x c e), hd⟩
  refine ⟨I.ok, I.os, hg, ⟨fun b o e n hb hx => ?_, fun b o e n hb hx => ?_, fun b o e n hx => ?_, fun b o e hx => ?_, fun b xs e => I.base.tups b xs e, fun b o xs e => I.base.frzs b o xs e, fun b ps e => I.base.tbls b ps e⟩, ?_, fun x c e => ?_, I.free, I.freeC, fun p hp => ?_, hok, I.len⟩
  · exact keep b o (neL b o e) hb (neC b o e) (I.base.keep b o e n hb hx) (I.base.free b o e n hx)
  · obtain ⟨sl, e1⟩ := I.base.slot b o e n hb hx
    obtain ⟨sl', e2⟩ := slot b _ (neL b o e) hb (neC b o e) e1 (I.base.free b o e n hx)
    exact ⟨sl', e2⟩
  · exact I.base.free b o e n hx
  · obtain ⟨o', e1⟩ := I.base.there b o e hx
    exact there b o' (neC b o e) e1
  · obtain ⟨m, hn, hl⟩ := I.loc
    refine ⟨m, ns m hn, fun i x v e1 e2 e3 => ?_⟩
    obtain ⟨u, r, l⟩ := hl i x v e1 e2 e3
    refine ⟨u, r, ?_⟩
    rcases l with l | ⟨k, c, e, z⟩
    · exact .inl l
    · exact .inr ⟨k, c, e, cellK x c e _ z⟩
  · obtain ⟨v, z⟩ := I.cell x c e
    exact ⟨v, cellK x c e v z⟩
  · obtain ⟨e, n, ne, nf, d⟩ := I.pin p hp
    have nch : p.1 ∉ ch := fun z => (hch p.1 z).2.2.2 p hp rfl
    exact ⟨keep p.1 p.2 ne nf nch e n, n, ne, nf, d⟩

structure Frm (X : Cx) : Prop where
  ex : X.ex = []
  st : X.stack = X.env :: X.outer
  fr : X.env.frame = some X.env.locals
def Lies (X : Cx) (pins : List (Addr × Obj)) (σ : List (Option V)) (H : Hp) (s : Shared) (a : Addr) (C : Value) (d : Option Addr) : Prop :=
  Inv X pins σ H s ∧ ∃ h0 : Heap, (∀ p ∈ X.pn ++ pins, h0.get? p.1 ≠ none) ∧ (∀ b o, X.s₀.heap.get? b = some o → ∃ o', h0.get? b = some o') ∧ (∀ b o, h0.get? b = some o → ∃ o', s.heap.get? b = some o') ∧ Fl h0 H s.heap a C d
theorem none_back {h1 h2 : Heap} (k : ∀ b o, h1.get? b = some o → ∃ o', h2.get? b = some o') (b : Addr) (e : h2.get? b = none) : h1.get? b = none := by
  cases q : h1.get? b with
  | none => rfl
  | some o => obtain ⟨o', z⟩ := k b o q; rw [e] at z; cases z
theorem none_le {h : Heap} {b : Addr} (e : h.objs.size ≤ b) : h.get? b = none := Heap.get?_none_of_le e

theorem fields_ne {h : Heap} {b c : Addr} {o : Obj} {vs : Array Value} (e : h.get? b = some o) (hd : o.data = .fields vs) {o' : Obj} (e' : h.get? c = some o') (hd' : ∀ vs, o'.data ≠ .fields vs) : b ≠ c := by
  intro z; subst z; rw [e] at e'; cases e'; exact hd' vs hd

theorem lies_ch {a : Addr} {C : Value} {d : Option Addr} {h0 : Heap} (I : Inv X pins σ H s) (hp : ∀ p ∈ X.pn ++ pins, h0.get? p.1 ≠ none) (hs : ∀ b o, X.s₀.heap.get? b = some o → ∃ o', h0.get? b = some o') {b : Addr}
    (hb : h0.get? b = none ∧ H b = none ∧ ∃ o vs, s.heap.get? b = some o ∧ o.data = .fields vs) :
    X.s₀.heap.get? b = none ∧ b ≠ X.env.locals ∧ (∀ x c, X.env.cells.lookup x = some c → c ≠ b) ∧ ∀ p ∈ X.pn ++ pins, p.1 ≠ b := by
  obtain ⟨h1, h2, o, vs, h3, h4⟩ := hb
  refine ⟨none_back hs b h1, ?_, fun x c e => ?_, fun p hq z => hp p hq (by rw [z]; exact h1)⟩
  · obtain ⟨m, ⟨o', es, ep, ho', hd', _⟩, _⟩ := I.loc
    exact fields_ne h3 h4 ho' fun vs z => by rw [hd'] at z; cases z
  · obtain ⟨v, o', ho', hd'⟩ := I.cell x c e
    exact Ne.symm (fields_ne h3 h4 ho' fun vs z => by rw [hd'] at z; cases z)

theorem note_ok {A' : Around} {E : Value → Shared → Prop} {a : Addr} {C : Value} {d : Option Addr} {Q : Unit → Shared → Prop} (hA : A'.frames = some X.stack) (fm : Frm X) (L : Lies X pins σ H s a C d)
    (h : ∀ s', Lies X pins σ H s' a C d → Q () s') :
    wpAny (model X.prog X.w) A' (noteFrame (.ref a) X.env) (fun _ s2 => wpAny (model X.prog X.w) A' (setFlight (.ref a) none) Q E s2) E s := by
  obtain ⟨I, h0, hp, hs, ht, F⟩ := L
  have hstk := I.stack
  have hfree := I.stkFree
  rw [fm.st] at hA hstk hfree
  have hfrs : frs (X.env :: X.outer) = X.env.locals :: X.fs := by unfold frs; rw [List.filterMap_cons, fm.fr]; rfl
  refine note_raw (base := X.base) hA hstk fm.fr F (fun b hb => ⟨none_back ht b (none_le hb), I.hok.fresh hb⟩) fun h' ch c1 c2 c3 F' => ?_
  have tr : ∀ c u, H c = some u → ∀ v, s.heap.get? c = some v → h'.get? c = some v := fun c u e v q =>
    c2 c v (fun z => by rw [hfree c z] at e; cases e) (fun z => by rw [(c1 c z).2.1] at e; cases e) q
  have th : ∀ b o, b ∉ ch → s.heap.get? b = some o → ∃ o', h'.get? b = some o' := fun b o hb q => by
    by_cases hf : b ∈ frs (X.env :: X.outer)
    · obtain ⟨sl, e⟩ := c3 b o hf q; exact ⟨_, e⟩
    · exact ⟨o, c2 b o hf hb q⟩
  have J : Inv X pins σ H { s with heap := h', gens := s.gens, drawn := s.drawn, toks := s.toks } := by
    refine I.stepN (ch := ch) (fun b hb => lies_ch (a := a) (C := C) (d := d) I hp hs (c1 b hb)) (fun b o h1 h2 h3 e _ => c2 b o (by rw [hfrs]; intro z; rcases List.mem_cons.mp z with z | z; exact h1 z; exact h2 z) h3 e)
      (fun b o _ h2 _ e _ => c3 b o (by rw [hfrs]; exact List.mem_cons_of_mem _ h2) e) th (fun m hm => ?_) (fun b u e => ?_) I.bare
    · obtain ⟨o, es, ep, ho, r⟩ := hm
      obtain ⟨sl, e⟩ := c3 _ o (by rw [hfrs]; exact List.mem_cons_self) ho
      exact ⟨_, es, ep, e, r⟩
    · refine (I.hok b u e).stay (fun c v hc q => ?_) (fun _ q => q) fun _ _ q => q
      rcases hc with rfl | hc
      · exact tr c u e v q
      · exact tr c _ hc v q
  refine h _ ⟨J, h0, hp, hs, fun b o e => ?_, F'⟩
  obtain ⟨o', e'⟩ := ht b o e
  exact th b o' (fun z => by rw [(c1 b z).1] at e; cases e) e'

theorem land_ok {A' : Around} {E : Value → Shared → Prop} {a : Addr} {C : Value} {d : Option Addr} {Q : Unit → Shared → Prop} (L : Lies X pins σ H s a C d)
    (h : ∀ s', Lies X pins σ H s' a C d → Q () s') : wpAny (model X.prog X.w) A' (setFlight (.ref a) none) Q E s := by
  have L' := L
  obtain ⟨I, h0, hp, hs, ht, F⟩ := L'
  obtain ⟨n, f, oe, vs, v, e1, e2, e3, e4, e5, t⟩ := F
  unfold setFlight
  refine wpAny_bind (wpAny_field e1 e4 e5 ?_)
  rcases t with rfl | ⟨T, oT, ts, rfl, t2, t3, t4, t5, t6, t7⟩
  · rw [if_neg (by decide)]
    exact wpAny_pure (h s L)
  · rw [if_pos (show (Value.ref T != Value.none) = true from by simp)]
    have hsz3 : 3 < ts.size := (Array.getElem?_eq_some_iff.mp t7).1
    have other : ∀ b, b ≠ T → (s.heap.update T (Obj.mapFields (·.setIfInBounds 3 ((none : Option Addr).elim Value.none fun f => rawInt f)))).get? b = s.heap.get? b := fun b hb => Heap.get?_update_other _ _ (Ne.symm hb)
    have hT' := Heap.get?_update_self (Obj.mapFields (·.setIfInBounds 3 ((none : Option Addr).elim Value.none fun f => rawInt f))) t5 (Obj.isFreed_of_fields (Obj.data_mapFields t6 _))
    refine wpAny_setField t5 t6 hsz3 ?_
    have c1 : ∀ b ∈ [T], h0.get? b = none ∧ H b = none ∧ ∃ o vs, s.heap.get? b = some o ∧ o.data = .fields vs := fun b hb => by
      have hb : b = T := by simpa using hb
      subst hb; exact ⟨t3, t4, _, _, t5, t6⟩
    have nT : ∀ b, b ∉ [T] → b ≠ T := fun b hb z => hb (by simp [z])
    have J : Inv X pins σ H { s with heap := (s.heap.update T (Obj.mapFields (·.setIfInBounds 3 ((none : Option Addr).elim Value.none fun f => rawInt f)))), gens := s.gens, drawn := s.drawn, toks := s.toks } := by
      refine I.stepN (ch := [T]) (fun b hb => lies_ch (a := a) (C := C) (d := d) I hp hs (c1 b hb)) (fun b o _ _ h3 e _ => (other b (nT b h3)).trans e) (fun b o _ _ h3 e _ => ⟨o.slots, (other b (nT b h3)).trans e⟩)
        (fun b o h3 e => ⟨o, (other b (nT b h3)).trans e⟩) (fun m hm => ?_) (fun b u e => ?_) I.bare
      · obtain ⟨o, es, ep, ho, hd, r⟩ := hm
        exact ⟨o, es, ep, (other _ (Ne.symm (fields_ne t5 t6 ho fun vs z => by rw [hd] at z; cases z))).trans ho, hd, r⟩
      · refine (I.hok b u e).stay (fun c v hc q => (other c ?_).trans q) (fun _ q => q) fun _ _ q => q
        rintro rfl
        rcases hc with rfl | hc
        · rw [t4] at e; cases e
        · rw [t4] at hc; cases hc
    refine h _ ⟨J, h0, hp, hs, fun b o e => ?_, ⟨n, f, oe, vs, .ref T, (other a (Ne.symm t2)).trans e1, e2, e3, e4, e5, .inr ⟨T, _, _, rfl, t2, t3, t4, hT', Obj.data_mapFields t6 _, by simp [hsz3]⟩⟩⟩
    obtain ⟨o', e'⟩ := ht b o e
    exact ⟨o', (other b (fun z => by rw [z, t3] at e; cases e)).trans e'⟩
end

def CX1 (P : Program) (w : World) : CXT := fun outer H s E e s' => ∃ a C d H', e = .ref a ∧ s'.os = s.os ∧ AllBare s'.gens ∧ Un (frs outer) [] H H' s.heap s'.heap ∧ HOk P w H' s'.heap ∧ Fl s.heap H' s'.heap a C d ∧ E C d H'
def XeOk (X : Cx) (E : XK) : Prop := ∀ (pins : List (Addr × Obj)) (σ : St) (H : Hp) (s : Shared) (a : Addr) (C : Value) (d : Option Addr), Lies X pins σ H s a C d → E C d H → X.xe (.ref a) s
section
variable {X : Cx} {pins : List (Addr × Obj)} {σ : List (Option V)} {H : Hp} {s s' : Shared} {E : XK} {e : Value}
theorem lies_of_call (fm : Frm X) (I : Inv X pins σ H s) (hcx : CX1 X.prog X.w X.stack H s E e s') : ∃ a C d H', e = .ref a ∧ Lies X pins σ H' s' a C d ∧ E C d H' := by
  obtain ⟨a, C, d, H', rfl, os, bare, un, hok, F, q⟩ := hcx
  refine ⟨a, C, d, H', rfl, ⟨I.call' (ch := []) os un hok bare (fun b z => absurd z (by simp)), s.heap, fun p hp z => ?_, fun b o e => I.base.there b o e (by rw [fm.ex]; simp), fun b o e => un.there b o e (by simp), F⟩, q⟩
  rw [(I.pin p hp).1] at z; cases z
theorem passes_cx (fm : Frm X) (xo : XeOk X E) : Passes (CX1 X.prog X.w) X E := fun pins σ H s e s' I hcx => by
  obtain ⟨a, C, d, H', rfl, L, q⟩ := lies_of_call fm I hcx
  exact xo pins σ H' s' a C d L q
end
theorem frm_cxOf {CX : CXT} {P : Program} {w : World} {K : PySem.W.Frag} {mg : Str → Option Value} {base : Heap} {N : List Str} {qual : Str} {scope : Scope} {f : Addr} {cd : Value} {A : Around} {outer : List Env} {s : Shared} {H : Hp} {E : XK} :
    Frm (cxOf CX P w K mg base N qual scope f cd A outer s H E) := ⟨rfl, rfl, rfl⟩
theorem xe_cxOf {P : Program} {w : World} {K : PySem.W.Frag} {mg : Str → Option Value} {base : Heap} {N : List Str} {qual : Str} {scope : Scope} {f : Addr} {cd : Value} {A : Around} {outer : List Env} {s : Shared} {H : Hp} {E : XK} :
    XeOk (cxOf (CX1 P w) P w K mg base N qual scope f cd A outer s H E) E := by
  intro pins σ H' s' a C d L q
  show wpAny (model P w) (A.deeper (envOfC qual scope s.heap.objs.size f cd)) (leaving (envOfC qual scope s.heap.objs.size f cd) (.ref a)) (fun _ s'' => CX1 P w outer H s E (.ref a) s'') (fun e' s'' => CX1 P w outer H s E e' s'') s'
  unfold leaving
  refine wpAny_bind (note_ok (X := cxOf (CX1 P w) P w K mg base N qual scope f cd A outer s H E) L.1.ok.frames frm_cxOf L fun s'' L'' => ?_)
  obtain ⟨J, h0, hp, hs0, hth, F⟩ := L''
  exact ⟨a, C, d, H', rfl, J.os, J.bare, J.base, J.hok, F.older fun b z => none_back hs0 b z, q⟩
end L2

set_option Elab.async false
set_option linter.all false
set_option maxRecDepth 100000
set_option maxHeartbeats 1000000
namespace L2
open PySem PySem.Spec PyProof.Rows

abbrev bmVE : List Value := [.type "ValueError", .type "Exception", .type "BaseException", .type "object"]
def ExcC (K : PySem.W.Frag) (C : Addr) : Prop := PySem.W.excIn K C bmVE "ValueError.__new__" = true
theorem exc_of {K : PySem.W.Frag} {h : Heap} {C : Addr} {bmB : List Value} {newId : String} (X : K.In h) (q : PySem.W.excIn K C bmB newId = true) :
    ∃ bm N nm qn bs hdct sn sub ab col dd k0 k1 k2 k3 k5 mN, h.get? C = some (excClassObj nm qn C N bs bm hdct sn sub ab col dd k0 k1 k2 k3 k5 newId) ∧ h.Ns N mN ∧ mN "__init__" = none ∧ OwnTail h bmB bm := by
  unfold PySem.W.excIn at q
  split at q
  · rename_i dd cd sl ho
    split at q
    · rename_i C' bm k0 k1 k2 k3 n k5 hm hs
      simp only [Bool.and_eq_true, beq_iff_eq, Bool.not_eq_true'] at q
      obtain ⟨⟨⟨⟨⟨rfl, rfl⟩, hdel⟩, ht⟩, hok⟩, hni⟩ := q
      obtain ⟨nm, bs, mro, ns, qn, hd, sn, sub, ab, col, del⟩ := cd
      dsimp only at hm hdel hok hni
      subst hm hdel
      have hsl : sl = #[k0, k1, k2, k3, some (.builtin n), k5] := by
        obtain ⟨l⟩ := sl
        simp only at hs
        rw [hs]
      subst hsl
      exact ⟨bm, ns, nm, qn, bs, hd, sn, sub, ab, col, dd, k0, k1, k2, k3, k5, _, X _ _ ho, .of_isNs (PySem.W.isNs_of_in X hok), PySem.W.nsMap_none_of_in X hok hni, PySem.W.tail_of_in X ht⟩
    · cases q
  · cases q

section
variable {X : Cx} {pins : List (Addr × Obj)} {σ : List (Option V)} {H : Hp} {s : Shared}
def tRaise (C : Addr) (E : XK) (ta : TA) : TS := fun _ σ H => ta σ H fun vs H1 => vs.length ≤ sizeLine ∧ E (.ref C) none H1
theorem ps_raise {E : XK} {x : Str} {C : Addr} {np cpos pos : Pos} {e₀ : Expr} {es : List Expr} {ta : TA} (fm : Frm X) (xo : XeOk X E) (hc : X.calm = true) (hg : Gl X x) (hm : X.mg x = some (.ref C)) (q : ExcC X.K C) (ha : PA X (e₀ :: es) ta)
    (hdb : (x == ("__debug__" : Str)) = false := by decide) (he : starEach (e₀ :: es) X.env = (false, eval e₀ X.env) :: starEach es X.env := by rfl) (hpl : (backTo cpos (starEach es X.env)).any (·.1) = false := by rfl) :
    PS X (.Raise (some (.Call (.Name x np) (e₀ :: es) [] cpos)) none pos) (tRaise C E ta) := by
  intro pins s σ H D I h
  obtain ⟨tl, N, nm, qn, bs, hdct, sn, sub, ab, col, dd, k0, k1, k2, k3, k5, mN, hC, hN, hni, T⟩ := exc_of I.mod.kin q
  have FB := PySem.F.excBase_ValueError
  refine wpAny_Raise_call_subU (C := C) (nm := nm) (q := qn) (N := N) (bs := bs) (bm := tl) (hdct := hdct) (sn := sn) (sub := sub) (ab := ab) (col := col) (dd := dd) (k0 := k0) (k1 := k1) (k2 := k2) (k3 := k3) (k5 := k5)
    FB (by decide) FB (mN := mN) (T.hasType FB.hasBase) (I.ok.hd hc) (by rw [he]; show (false || (backTo cpos (starEach es X.env)).any (·.1)) = false; rw [hpl]; rfl) hni (ld_glob I hg hm ⟨rfl, ?_⟩ hdb)
  have ha' := ha cpos pins s σ H _ I h
  rw [he] at ha' ⊢
  refine Calls.evalArgs_plain (wpAny_mono ha' (fun vs s2 h2 => ?_) fun _ _ y => y)
  obtain ⟨xs, H1, I1, r, hz, q1⟩ := h2
  refine ⟨rfl, by rw [← r.length]; exact hz, I1.bk _ _ hC, hN.keeps I1.bk, T.keeps I1.bk, fun h' e hx => ?_⟩
  obtain ⟨t, he1, htn, ht⟩ := hx.there
  refine xo pins σ H1 _ e (.ref C) none ⟨I1.kept (t' := s2.toks) hx.keeps, s2.heap, fun p hp z => ?_, fun b o e => I1.base.there b o e (by rw [fm.ex]; simp), fun b o z => ⟨o, hx.keeps b o z⟩, ⟨hx.new, I1.hok.none_of hx.new, _, _, .none, he1, rfl, rfl, rfl, rfl, .inl rfl⟩⟩ q1
  rw [(I1.pin p hp).1] at z; cases z
end

abbrev TEX := St → Hp → VK → XK → Prop
abbrev TSX := Ends → (St → XK) → St → Hp → Prop
def XP (X : Cx) (pins : List (Addr × Obj)) (E : St → XK) (e : Value) (s' : Shared) : Prop := ∃ a C d σ' H', e = .ref a ∧ Lies X pins σ' H' s' a C d ∧ E σ' C d H'
def PX (X : Cx) (e : Expr) (t : TEX) : Prop :=
  ∀ (pins : List (Addr × Obj)) (s : Shared) (σ : St) (H : Hp) (Q : VK) (E : XK), Inv X pins σ H s → t σ H Q E → wpAny (model X.prog X.w) X.A (eval e X.env) (EP X pins σ Q) (XP X pins fun σ' C d H' => σ' = σ ∧ E C d H') s
def PSX (X : Cx) (st : Stmt) (t : TSX) : Prop :=
  ∀ (pins : List (Addr × Obj)) (s : Shared) (σ : St) (H : Hp) (D : Ends) (E : St → XK), Inv X pins σ H s → t D E σ H → wpAny (model X.prog X.w) X.A (exec st X.env) (SP X pins D) (XP X pins E) s
def PSXs (X : Cx) (st : List Stmt) (t : TSX) : Prop :=
  ∀ (pins : List (Addr × Obj)) (s : Shared) (σ : St) (H : Hp) (D : Ends) (E : St → XK), Inv X pins σ H s → t D E σ H → wpAny (model X.prog X.w) X.A (execs st X.env) (SP X pins D) (XP X pins E) s
theorem XP.at {X : Cx} {pins : List (Addr × Obj)} {σ : St} {E : St → XK} {e : Value} {s' : Shared} (h : XP X pins (fun σ' C d H' => σ' = σ ∧ E σ C d H') e s') : XP X pins E e s' := by
  obtain ⟨a, C, d, σ', H', rfl, L, rfl, q⟩ := h
  exact ⟨a, C, d, σ', H', rfl, L, q⟩
section
variable {X : Cx} {k : Nat} {f C : Addr} {fd : FuncData} {ps : List Str} {sp : Sp} {dvs : List V} {ds : List Value} {x m : Str} {p pos apos : Pos} {e o : Expr} {es : List Expr} {ta : TE} {t : TA}
theorem run_x {pins : List (Addr × Obj)} {σ : St} {H : Hp} {s : Shared} {Q : VK} {E : XK} {us : List Value} {vs : List V} (F : FnOk X.prog X.w X.K X.mg X.base (CX1 X.prog X.w) k f fd ps sp) (fm : Frm X) (hr : Room k X.A) (hb : Binds X.K fd ps ds) (hd : Vals dvs ds)
    (I : Inv X pins σ H s) (r : Vals vs us) (h : sp (vs ++ dvs) H Q E) : wpAny (model X.prog X.w) X.A (call (.ref f) us) (EP X pins σ Q) (XP X pins fun σ' C d H' => σ' = σ ∧ E C d H') s := by
  have r2 : Vals (vs ++ dvs) (us ++ ds) := r.append hd
  have hl : (us ++ ds).length = ps.length := by rw [← r2.length]; exact F.len _ _ _ _ h
  refine wpAny_call (codeAny_mono (F.run X.A X.stack s H ⟨us, []⟩ (us ++ ds) (vs ++ dvs) Q E hr I.env0 (hb s us I.kIn hl) r2 h) fun r s' hq => ?_)
  cases r with
  | error e =>
    obtain ⟨a, C, d, H', rfl, L, q⟩ := lies_of_call fm I hq
    exact ⟨a, C, d, σ, H', rfl, L, rfl, q⟩
  | ok fl =>
    cases fl with
    | ret u => exact I.after hq
    | next => exact False.elim hq
    | brk => exact False.elim hq
    | cont => exact False.elim hq
def xMeth (C : Addr) (m : Str) (sp : Sp) (dvs : List V) (ta : TE) (t : TA) : TEX := fun σ H Q E => ta σ H fun x H1 => ∃ a dx fs, x = .ref a ∧ H1 a = some (.ins C dx fs) ∧ fs.lookup m = none ∧ t σ H1 fun vs H2 => sp (x :: (vs ++ dvs)) H2 Q E
theorem px_meth {pl : Sem Bool} (he : PE X.nox o ta) (c : Cls X.K C) (hm : Meth X.K C m f) (F : FnOk X.prog X.w X.K X.mg X.base (CX1 X.prog X.w) k f fd ps sp) (fm : Frm X) (hr : Room k X.A) (hb : Binds X.K fd ps ds) (hd : Vals dvs ds) (ha : PA X.nox (e :: es) t)
    (hst : starEach (e :: es) X.env = (false, eval e X.env) :: starEach es X.env := by rfl) (hpl : (backTo pos (starEach es X.env)).any (·.1) = false := by rfl)
    (ht : eval (.Call (.Attribute o m apos) (e :: es) [] pos) X.env = (do
      let ov ← eval o X.env
      standAt apos.atName
      let (f, first) ← holding [ov] (getMethod ov m pl)
      callWith pos f first (backTo pos (starEach (e :: es) X.env)) (backToKw pos (keywordEach [] X.env))) := by rfl) :
    PX X (.Call (.Attribute o m apos) (e :: es) [] pos) (xMeth C m sp dvs ta t) := by
  intro pins s σ H Q E I h
  refine PySem.W.methodCall_KW (pl := pl) (wpAny_mono (he pins s σ H _ (I.wish _) h) (fun u s1 h1 => ?_) fun _ _ z => False.elim z) ht
  obtain ⟨x, H1, I1, rx, a, dx, fs, ex, ea, l, q⟩ := h1
  subst ex
  obtain rfl : u = Value.ref a := rx
  refine getmeth_ok (X := X.nox) I1 ea c hm l ?_
  refine PySem.W.callWith_K (first := [.ref a]) (h₀ := X.base) I.ok.mod.kin hm.kp (wpAny_mono (ha pos pins s1 σ H1 _ I1 q) (fun us s2 h2 => ?_) fun _ _ z => False.elim z) hst hpl
  obtain ⟨vs, H2, I2, r, q2⟩ := h2
  exact ⟨I2.kIn, run_x (us := .ref a :: us) (vs := .ref a :: vs) F fm hr hb hd I2.unwish (.cons rfl r) q2⟩

def xExpr (te : TEX) : TSX := fun D E σ H => te σ H (fun _ H1 => D.nx σ H1) (E σ)
theorem psx_expr (he : PX X e te) (hs : swapsWith e none pos.line X.env = pure false := by rfl) : PSX X (.Expr e pos) (xExpr te) := by
  intro pins s σ H D E I h
  exact wpAny_Expr_any (wpAny_mono (he pins s σ H _ _ I h) (fun v s1 ⟨x, H1, I1, r1, q1⟩ => ⟨σ, H1, I1, q1⟩) fun _ _ z => XP.at z) I.quiet hs
def xSet (i : Nat) (te : TEX) : TSX := fun D E σ H => te σ H (fun v H1 => D.nx (σ.set i (some v)) H1) (E σ)
theorem psx_set {i : Nat} {x : Str} {te : TEX} {pos' : Pos} (hN : X.N.Nodup) (hi : X.N[i]? = some x) (hx : Loc X.env.scope x) (he : PX X e te) (hs : swapsWith e (some (.Name x pos')) pos.line X.env = pure false := by rfl) (hf : X.fn x = true ∨ X.env.scope.names.lookup x = some .local := by first | exact .inl rfl | exact .inr rfl | assumption) :
    PSX X (.Assign [.Name x pos'] e pos) (xSet i te) := by
  intro pins s σ H D E I h
  refine wpAny_Assign_Name (wpAny_mono (he pins s σ H _ _ I h) (fun v s1 h1 => ?_) fun _ _ z => XP.at z) hs
  obtain ⟨y, H1, I1, r1, q1⟩ := h1
  exact store_ok I1 hN hi hx r1 (fun s2 I2 => ⟨_, H1, I2, q1⟩) hf
theorem psxs_one {st : Stmt} {t : TSX} (h1 : PSX X st t) : PSXs X [st] t := by
  intro pins s σ H D E I h
  refine wpAny_execs_cons (wpAny_mono (h1 pins s σ H D E I h) (fun f s1 q => ?_) fun _ _ z => z)
  cases f with
  | next => exact wpAny_execs_nil q
  | ret v => exact q
  | brk => exact q
  | cont => exact q
end

abbrev Cx.sup (X : Cx) (a : Addr) : Cx := { X with A := X.A.mark (some (.ref a)), calm := false, xe := fun _ _ => False }
section
variable {X : Cx} {pins : List (Addr × Obj)} {σ : List (Option V)} {H : Hp} {s : Shared} {a : Addr}
theorem Cx.Ok.sup (ok : X.Ok) (a : Addr) : (X.sup a).Ok :=
  ⟨ok.mod, ok.kind, ok.glob, ok.blt, ok.above, ok.inj, ok.has, ok.cab, fun z => Bool.noConfusion z, ok.frames, ok.stk, ok.exf, ok.bs, ok.bsz, ok.noex, ok.exfs, ok.funs, ok.frf⟩
theorem Inv.sup (I : Inv X pins σ H s) (a : Addr) : Inv (X.sup a) pins σ H s := ⟨I.ok.sup a, I.os, I.bare, I.base, I.loc, I.cell, I.free, I.freeC, I.pin, I.hok, I.len⟩
theorem Inv.unsup (ok : X.Ok) (I : Inv (X.sup a) pins σ H s) : Inv X pins σ H s := ⟨ok, I.os, I.bare, I.base, I.loc, I.cell, I.free, I.freeC, I.pin, I.hok, I.len⟩
theorem SP.unsup (ok : X.Ok) {D : Ends} {f : Flow} {s' : Shared} (h : SP (X.sup a) pins D f s') : SP X pins D f s' := by
  cases f with
  | next => obtain ⟨σ', H', I, q⟩ := h; exact ⟨σ', H', I.unsup ok, q⟩
  | brk => obtain ⟨σ', H', I, q⟩ := h; exact ⟨σ', H', I.unsup ok, q⟩
  | cont => obtain ⟨σ', H', I, q⟩ := h; exact ⟨σ', H', I.unsup ok, q⟩
  | ret u => obtain ⟨v, σ', H', I, r, q⟩ := h; exact ⟨v, σ', H', I.unsup ok, r, q⟩
def excO (a : Addr) (C : Value) (d : Option Addr) : HO := .ext fun h => ∃ o vs, h.get? a = some o ∧ o.cls = C ∧ o.dict = d ∧ o.data = .fields vs
theorem Lies.track {C : Value} {d : Option Addr} (L : Lies X pins σ H s a C d) (fm : Frm X) : Inv X pins σ (upd H a (excO a C d)) s := by
  obtain ⟨I, h0, hp, hs, ht, F⟩ := L
  obtain ⟨n, f, oe, vs, v, e1, e2, e3, e4, e5, t⟩ := F
  obtain ⟨c1, c2, c3, c4⟩ := lies_ch (a := a) (C := C) (d := d) I hp hs (b := a) ⟨n, f, _, _, e1, e4⟩
  have tr : ∀ b u, H b = some u → upd H a (excO a C d) b = some u := fun b u e => by rw [upd_ne (ne_of_none e f)]; exact e
  refine ⟨I.ok, I.os, I.bare, ⟨I.base.keep, I.base.slot, fun b o e n' hx => ?_, I.base.there, fun b xs e => tr _ _ (I.base.tups b xs e), fun b o u e => tr _ _ (I.base.frzs b o u e), fun b ps e => ?_⟩, I.loc, I.cell, ?_, fun x c e => ?_, fun p hp' => ?_, fun b o e => ?_, I.len⟩
  · have : b ≠ a := fun z => by rw [z, c1] at e; cases e
    rw [upd_ne this]; exact I.base.free b o e n' hx
  · obtain ⟨more, z⟩ := I.base.tbls b ps e
    exact ⟨more, tr _ _ z⟩
  · rw [upd_ne (Ne.symm c2)]; exact I.free
  · rw [upd_ne (c3 x c e)]; exact I.freeC x c e
  · obtain ⟨z1, z2, z3⟩ := I.pin p hp'
    exact ⟨z1, by rw [upd_ne (c4 p hp')]; exact z2, z3⟩
  · by_cases hb : b = a
    · subst hb
      rw [upd_same] at e; cases e
      refine ⟨⟨oe, vs, e1, e2, e3, e4⟩, ⟨oe, e1⟩, fun h1 h2 p k => ?_⟩
      obtain ⟨o, vs', z1, z2⟩ := p
      exact ⟨o, vs', k o z1, z2⟩
    · rw [upd_ne hb] at e
      exact (I.hok b o e).stay (fun _ _ _ q => q) (fun c q => tr _ _ q) fun c xs q => tr _ _ q
theorem forget_ok {A' : Around} {E : Value → Shared → Prop} {j : Nat} {n : Str} {pos : Pos} {Q : Unit → Shared → Prop} (I : Inv X pins σ H s) (hN : X.N.Nodup) (hj : X.N[j]? = some n) (hl : X.env.scope.names.lookup n = some .local)
    (h : ∀ s', Inv X pins (σ.set j none) H s' → Q () s') : wpAny (model X.prog X.w) A' (do bindName X.env n .none; unbindBehindTheSuite X.env n pos) Q E s := by
  obtain ⟨m, hn, hlk⟩ := id I.loc
  have hcls : (X.env.scope.kind == .class || (X.env.scope.kind == .module && X.env.locals != X.env.globals)) = false := by rw [I.ok.kind]; rfl
  have hiσ : j < σ.length := by rw [I.len]; exact (List.getElem?_eq_some_iff.mp hj).1
  have cne := I.cne
  refine wpAny_nameGoes_keeps hl hn hcls fun h' v hn' hs => ?_
  obtain ⟨oL, _, _, hoL, _⟩ := id hn
  refine h _ ⟨I.ok, I.os, I.bare, ⟨fun b o e n hb hx => ?_, fun b o e n hb hx => ?_, I.base.free, fun b o e hx => ?_, I.base.tups, I.base.frzs, I.base.tbls⟩, ⟨_, hn', fun i y v' e1 e2 e3 => ?_⟩, fun y c e => ?_, I.free, I.freeC, fun p hp => ?_, fun b ob e => ?_, by simpa using I.len⟩
  · exact (hs.2 b (Nat.ne_of_lt (Nat.lt_of_lt_of_le (Heap.lt_size e) I.ok.above))).trans (I.base.keep b o e n hb hx)
  · obtain ⟨sl, e1⟩ := I.base.slot b o e n hb hx
    exact ⟨sl, (hs.2 b (Nat.ne_of_lt (Nat.lt_of_lt_of_le (Heap.lt_size e) I.ok.above))).trans e1⟩
  · obtain ⟨o', e1⟩ := I.base.there b o e hx
    exact ⟨o', (hs.2 b (Nat.ne_of_lt (Nat.lt_of_lt_of_le (Heap.lt_size e) I.ok.above))).trans e1⟩
  · by_cases hij : i = j
    · subst hij
      rw [List.getElem?_set_self hiσ] at e2
      cases e2
    · rw [List.getElem?_set_ne (Ne.symm hij)] at e2
      obtain ⟨u', r', q⟩ := hlk i y v' e1 e2 e3
      refine ⟨u', r', ?_⟩
      rcases q with ⟨k, e⟩ | ⟨k, c, e, z⟩
      · refine .inl ⟨k, ?_⟩
        have : y ≠ n := fun e => hij (nodup_ix hN e1 (e ▸ hj))
        simp [this, e]
      · exact .inr ⟨k, c, e, z.sameBut hs (cne y c e)⟩
  · obtain ⟨w', z⟩ := I.cell y c e
    exact ⟨w', z.sameBut hs (cne y c e)⟩
  · obtain ⟨e, n, ne, nf, d⟩ := I.pin p hp
    exact ⟨(hs.2 p.1 ne).trans e, n, ne, nf, d⟩
  · refine (I.hok b ob e).stay (fun c w' hc q => (hs.2 c ?_).trans q) (fun _ q => q) fun _ _ q => q
    rintro rfl
    rcases hc with rfl | hc
    · rw [I.free] at e; cases e
    · rw [I.free] at hc; cases hc
end

abbrev TH := Addr → Value → Option Addr → Ends → St → Hp → Prop
def PH (X : Cx) (hs : List ExceptHandler) (t : TH) : Prop :=
  ∀ (pins : List (Addr × Obj)) (s : Shared) (σ : St) (H : Hp) (D : Ends) (a : Addr) (C : Value) (d : Option Addr), Lies X pins σ H s a C d → t a C d D σ H → wpAny (model X.prog X.w) X.A (handleBy (.ref a) X.env hs) (SP X pins D) X.xe s
section
variable {X : Cx} {pos np : Pos} {T : Str} {tc : Value} {b₀ : Stmt} {suite : List Stmt} {rest : List ExceptHandler} {ts : TS} {tr : TH}
def hNever : TH := fun _ _ _ _ _ _ => False
theorem ph_never {hs : List ExceptHandler} : PH X hs hNever := fun _ _ _ _ _ _ _ _ _ h => h.elim
def NameC (X : Cx) (T : Str) (c : Value) : Prop := X.mg T = some c ∨ (X.mg T = none ∧ bootBuiltins T = some c ∧ T ≠ "__name__")
theorem ld_cls {E : Value → Shared → Prop} {pins : List (Addr × Obj)} {s : Shared} {σ : St} {H : Hp} {Q : Value → Shared → Prop} (I : Inv X pins σ H s) (hg : Gl X T) (hc : NameC X T tc) (h : Q tc s)
    (hd : (T == ("__debug__" : Str)) = false := by decide) : wpAny (model X.prog X.w) X.A (eval (.Name T np) X.env) Q E s := by
  rcases hc with e | ⟨e, hv, hn⟩
  · exact ld_glob I hg e h hd
  · exact ld_blt I hg e hv h hn hd
def hTest (K : PySem.W.Frag) (tc : Value) (ts : TS) (tr : TH) : TH := fun a C d D σ H => ∃ b, PySem.W.exmOne K C tc = some b ∧ if b = true then ts D σ H else tr a C d D σ H
theorem Lies.ty {M : Model} {pins : List (Addr × Obj)} {s : Shared} {σ : St} {H : Hp} {a : Addr} {C : Value} {d : Option Addr} (L : Lies X pins σ H s a C d) : PySem.W.Looks M s.heap (typeOf (.ref a)) C := by
  obtain ⟨I, h0, hp, hs, ht, n, f, oe, vs, v, e1, e2, _⟩ := L
  subst e2
  exact (PySem.W.Looks.ld e1).andThen .now
theorem ph_cons (hg : Gl X T) (hc : NameC X T tc) (hs : ∀ a, PSs (X.sup a) (b₀ :: suite) ts) (hr : PH X rest tr) (hd : (T == ("__debug__" : Str)) = false := by decide) :
    PH X (.ExceptHandler (some (.Name T np)) none (b₀ :: suite) pos :: rest) (hTest X.K tc ts tr) := by
  intro pins s σ H D a C d L h
  obtain ⟨b, hb, h⟩ := h
  have I := L.1
  refine wpAny_handleBy_cons (codeAny_handlers_test (ld_cls (X := X.sup a) (I.sup a) hg hc ((PySem.W.exm_one I.kIn L.ty hb).here ?_) hd)) (by intro q; cases q)
  cases b with
  | false =>
    rw [if_neg Bool.false_ne_true] at h
    exact hr pins s σ H D a C d L h
  | true =>
    rw [if_pos rfl] at h
    refine codeAny_handlers_suite (land_ok (X := X) L fun s' L' => ?_)
    exact wpAny_mono (hs a pins s' σ H D (L'.1.sup a) h) (fun f s2 q => SP.unsup I.ok q) fun _ _ z => False.elim z
def hTestAs (K : PySem.W.Frag) (tc : Value) (j : Nat) (ts : TS) (tr : TH) : TH := fun a C d D σ H => ∃ b, PySem.W.exmOne K C tc = some b ∧
  if b = true then ts { nx := fun σ' H' => D.nx (σ'.set j none) H', rt := D.rt, bk := fun σ' H' => D.bk (σ'.set j none) H', ct := fun σ' H' => D.ct (σ'.set j none) H' } (σ.set j (some (.ref a))) (upd H a (excO a C d)) else tr a C d D σ H
theorem ph_as {j : Nat} {n : Str} (fm : Frm X) (hN : X.N.Nodup) (hj : X.N[j]? = some n) (hl : X.env.scope.names.lookup n = some .local) (hg : Gl X T) (hc : NameC X T tc) (hs : ∀ a, PSs (X.sup a) (b₀ :: suite) ts) (hr : PH X rest tr) (hd : (T == ("__debug__" : Str)) = false := by decide) :
    PH X (.ExceptHandler (some (.Name T np)) (some n) (b₀ :: suite) pos :: rest) (hTestAs X.K tc j ts tr) := by
  intro pins s σ H D a C d L h
  obtain ⟨b, hb, h⟩ := h
  have I := L.1
  refine wpAny_handleBy_cons (codeAny_handlers_test (ld_cls (X := X.sup a) (I.sup a) hg hc ((PySem.W.exm_one I.kIn L.ty hb).here ?_) hd)) (by intro q; cases q)
  cases b with
  | false =>
    rw [if_neg Bool.false_ne_true] at h
    exact hr pins s σ H D a C d L h
  | true =>
    rw [if_pos rfl] at h
    refine codeAny_handlers_suite_as (land_ok (X := X) L fun s' L' => ?_)
    refine store_ok (X := X.sup a) ((L'.track fm).sup a) hN hj (.inl hl) (v := .ref a) rfl (fun s2 I2 => ?_) (.inr hl)
    refine wpAny_mono (hs a pins s2 _ _ _ I2 h) (fun f s3 q => ?_) fun _ _ z => False.elim z
    cases f with
    | next =>
      obtain ⟨σ', H', J, q⟩ := q
      exact forget_ok (J.unsup I.ok) hN hj hl fun s4 J4 => ⟨_, H', J4, q⟩
    | brk =>
      obtain ⟨σ', H', J, q⟩ := q
      exact forget_ok (J.unsup I.ok) hN hj hl fun s4 J4 => ⟨_, H', J4, q⟩
    | cont =>
      obtain ⟨σ', H', J, q⟩ := q
      exact forget_ok (J.unsup I.ok) hN hj hl fun s4 J4 => ⟨_, H', J4, q⟩
    | ret u =>
      obtain ⟨v, σ', H', J, r, q⟩ := q
      exact forget_ok (J.unsup I.ok) hN hj hl fun s4 J4 => ⟨v, _, H', J4, r, q⟩
def tTry (tb : TSX) (to : TS) (th : TH) : TS := fun D σ H => tb { D with nx := to D } (fun σ' C d H' => ∀ a, H' a = none → th a C d D σ' H') σ H
theorem ps_try {body orelse : List Stmt} {h₀ : ExceptHandler} {hs : List ExceptHandler} {tb : TSX} {to : TS} {th : TH} (fm : Frm X) (hb : PSXs X body tb) (ho : PSs X orelse to) (hh : PH X (h₀ :: hs) th) : PS X (.Try body (h₀ :: hs) orelse [] pos) (tTry tb to th) := by
  intro pins s σ H D I h
  refine wpAny_Try_except (wpAny_mono (hb pins s σ H _ _ I h) (fun f s1 q => ?_) fun e s1 q => ?_)
  · cases f with
    | next =>
      obtain ⟨σ', H', I', q⟩ := q
      exact ho pins s1 σ' H' D I' q
    | ret v => exact q
    | brk => exact q
    | cont => exact q
  · obtain ⟨a, C, d, σ', H', rfl, L, q⟩ := q
    refine note_ok I.ok.frames fm L fun s2 L2 => ?_
    exact hh pins s2 σ' H' D a C d L2 (q a L2.2.choose_spec.2.2.2.free)
end

structure ExcK (K : PySem.W.Frag) (C : Addr) : Prop where
  ga : PySem.W.findIn K (.ref C) "__getattribute__" = some (some (.builtin "BaseException.__getattribute__"))
  gn : PySem.W.findIn K (.ref C) "__getattr__" = some none
  bx : PySem.W.mroIn K C (.type "BaseException") = some true
  ob : PySem.W.mroIn K C (.type "object") = some true
  ca : PySem.W.findIn K (.ref C) "__class__" = some (some (.builtin "object.__class__"))
  hn : PySem.W.specialIn K (.builtin "object.__class__") "__get__" = some (some (.builtin "getset_descriptor.__get__"))
  tk : PySem.W.takesIn K (.builtin "object.__class__") = some true
  cl : (PySem.W.clsIn K C).isSome = true
end L2

set_option Elab.async false
set_option linter.all false
set_option maxRecDepth 100000
set_option maxHeartbeats 1000000
namespace L2
open PySem PySem.Spec PyProof.Rows

section
variable {prog : Program} {w : World} {A : Around} {E : Value → Shared → Prop} {s : Shared} {K : PySem.W.Frag} {x D : Addr} {ox : Obj} {odo : Option Obj} {name : Str}
theorem exc_check {nameV : Value} {Q : Unit → Shared → Prop} (k : ExcK K D) (X : K.In s.heap) (I : PySem.W.InstAt s.heap x ox D odo) (h : Q () s) :
    wpAny (model prog w) A (checkBuiltinCall "BaseException.__getattribute__" ⟨[.ref x, nameV], []⟩) Q E s := by
  have hk : builtinKind "BaseException.__getattribute__" = some .slot := by decide +kernel
  have hsplit : splitId "BaseException.__getattribute__" = some ("BaseException", "__getattribute__") := by decide +kernel
  obtain ⟨hh, g, d, t, os⟩ := s
  have L0 := I.type (M := model prog w)
  have L1 := PySem.W.looks_mroIn (M := model prog w) X k.bx
  have LI : PySem.W.Looks (model prog w) hh (isInstance (.ref x) (.type "BaseException")) true := L0.andThen L1
  have ha := PySem.F.args_bexc_ga (.ref x) nameV
  simp only [checkBuiltinCall, hk, hsplit]
  refine wpAny_bind (LI.at ?_)
  repeat (first | lk | wp_step)
  exact h
theorem exc_by {v : Value} {tk : Tok} {fill expr : Bool} {P : Value → Shared → Prop} (k : ExcK K D) (X : K.In s.heap) (I : PySem.W.InstAt s.heap x ox D odo) (hv : PySem.W.handedIn v = true)
    (hf : PySem.W.findObj K D odo name = some (.value v) ∨ ∃ g a, PySem.W.findObj K D odo name = some (.bind g a) ∧ ∀ (A' : Around) (R : Result → Shared → Prop), R (.ok (.ret v)) s → codeAny (model prog w) A' (.call g ⟨[a, .ref x, .ref D], []⟩) R s) (h : P v s) :
    wpAny (model prog w) A (getAttrBy (.ref x) (.str name tk) fill expr) P E s := by
  obtain ⟨hh, g, d, t, os⟩ := s
  have L0 := I.type (M := model prog w)
  have L1 := PySem.W.looks_findIn (M := model prog w) X k.ga
  have L2 := PySem.W.looks_findIn (M := model prog w) X k.gn
  unfold getAttrBy
  refine wpAny_holding (wpAny_bind (L0.at (wpAny_bind (L1.at ?_))))
  show wpAny _ _ (getAttrByItsOwn (.ref x) (.str name tk) (.ref D) (.builtin "BaseException.__getattribute__") fill expr) _ _ _
  unfold getAttrByItsOwn hookBefore
  have f3 := PySem.F.attr_ValueError.ga.bind (.ref x)
  refine wpAny_bind (L2.at ?_)
  refine wpAny_bind (wpAny_attempt (wpAny_holding ?_))
  unfold callGetattribute boundAndCalled
  rw [if_neg (by cases expr <;> decide)]
  refine wpAny_bind (wpAny_of_eq f3 ?_)
  refine wpAny_call (codeAny_call_builtin PySem.F.attr_ValueError.ga.plain PySem.F.entry_bexc_ga (exc_check k X I ?_))
  unfold Builtin.«object.__getattribute__»
  refine wpAny_bind (wpAny_pure ?_)
  refine wpAny_bind (wpAny_pure ?_)
  refine wpAny_bind (L0.at ?_)
  rcases hf with hf | ⟨gg, a, hf, hc⟩
  · refine wpAny_bind ((PySem.W.looks_find (M := model prog w) X I hf).at ?_)
    refine wpAny_pure ?_
    show wpAny _ _ (handedOut v) _ _ _
    rw [PySem.W.handedOut_of hv]
    exact wpAny_pure h
  · refine wpAny_bind ((PySem.W.looks_find (M := model prog w) X I hf).at ?_)
    show wpAny _ _ (Builtin.ObjectAttr.bindTo gg a (.ref x) (.ref D)) _ _ _
    show wpAny _ _ (holding [a] (call gg [a, .ref x, .ref D]) >>= ret) _ _ _
    refine wpAny_bind (wpAny_holding (wpAny_call (hc _ _ ?_)))
    refine wpAny_pure ?_
    show wpAny _ _ (handedOut v) _ _ _
    rw [PySem.W.handedOut_of hv]
    exact wpAny_pure h
theorem exc_class {Q : Option Value → Shared → Prop} (k : ExcK K D) (X : K.In s.heap) (I : PySem.W.InstAt s.heap x ox D odo) (h : Q (some (.ref D)) { s with toks := s.toks + 1 }) :
    wpAny (model prog w) A (getAttr? (.ref x) "__class__") Q E s := by
  have hf : PySem.W.findObj K D odo "__class__" = some (.bind (.builtin "getset_descriptor.__get__") (.builtin "object.__class__")) := by
    obtain ⟨cd, hc⟩ := Option.isSome_iff_exists.mp k.cl
    unfold PySem.W.findObj
    rw [hc, Option.bind_some, k.ca, Option.bind_some]
    simp [k.hn, k.tk]
  unfold getAttr? getAttrBy?
  refine wpAny_bind (wpAny_mkText (wpAny_bind (wpAny_attempt (exc_by (s := { s with toks := s.toks + 1 }) k X I rfl (.inr ⟨_, _, hf, fun A' R q => PySem.W.class_get (s := { s with toks := s.toks + 1 }) X I k.ob q⟩) ?_))))
  exact wpAny_pure h
theorem kitx_exc (k : ExcK K D) : PySem.W.KitX K (.ref x) (.ref D) (fun h => PySem.W.InstAt h x ox D odo) where
  ty := fun _ _ _ I => I.type
  it := fun _ _ X _ => by
    obtain ⟨cdD, hcD⟩ := Option.isSome_iff_exists.mp k.cl
    unfold PySem.W.clsIn at hcD
    split at hcD
    · rename_i c' d' cd' sl' ho
      intro A' Q' E' s' kk q
      unfold isType loadHead
      exact wpAny_bind (wpAny_loadPart (kk _ _ (X _ _ ho)) (wpAny_pure q))
    · cases hcD
  ne := fun h tp dd its n sl X htp => by
    obtain ⟨cdD, hcD⟩ := Option.isSome_iff_exists.mp k.cl
    refine Bool.eq_false_iff.mpr fun q => ?_
    have e : D = tp := Value.ref.inj (beq_iff_eq.mp q)
    subst e
    unfold PySem.W.clsIn at hcD
    split at hcD
    · rename_i c' d' cd' sl' ho
      have z := (X _ _ ho).symm.trans htp
      cases z
    · cases hcD
  ca := fun X I h => exc_class k X I h
end
section
variable {X : Cx}
theorem exc_inst {pins : List (Addr × Obj)} {σ : St} {H : Hp} {s : Shared} {a C : Addr} (I : Inv X pins σ H s) (e : H a = some (excO a (.ref C) none)) : ∃ ox, PySem.W.InstAt s.heap a ox C none := by
  obtain ⟨⟨o, vs, h1, h2, h3, h4⟩, _⟩ := (show ObjOk X.prog X.w H s.heap a (excO a (.ref C) none) from I.hok a _ e)
  refine ⟨o, h1, h2, ?_, ?_⟩
  · unfold PySem.W.notCls; rw [h4]
  · rw [h3]; trivial
theorem call_isiX : CallR X (.builtin "isinstance") (fun xs H Q => ∃ a C c cv b, xs = [.ref a, c] ∧ H a = some (excO a (.ref C) none) ∧ ExcK X.K C ∧ RelV c cv ∧ (∀ u, RelV c u → u = cv) ∧ PySem.W.kitOne X.K (.ref C) cv = some b ∧ Q (.bl b) H) := by
  intro pins s σ H xs us Q I r h
  obtain ⟨a, C, c, cv, b, rfl, ha, k, rc, ru, e, q⟩ := h
  obtain ⟨u, w', rfl, rx, rn⟩ := vals2 r
  cases (show u = Value.ref a from rx)
  cases ru w' rn
  obtain ⟨ox, hi⟩ := exc_inst I ha
  exact PySem.W.kia_one (kitx_exc (ox := ox) (odo := none) k) I.kIn hi e (fun z => nomatch z) fun tk => ⟨.bl b, H, I.tok tk, rfl, q⟩
theorem pe_cls {x : Str} {C : Addr} {pos : Pos} (hg : Gl X x) (hm : X.mg x = some (.ref C)) (hd : (x == ("__debug__" : Str)) = false := by decide) : PE X (.Name x pos) (tC (.ref C)) := pe_glob hg hm rfl hd
theorem vals_refs : ∀ {cs : List Addr} {its : List Value}, Vals (cs.map V.ref) its → its = cs.map Value.ref
  | [], _, .nil => rfl
  | _ :: _, _, .cons r t => by rw [show _ = Value.ref _ from r, vals_refs t]; rfl
theorem call_isiXT : CallR X (.builtin "isinstance") (fun xs H Q => ∃ (a C tp : Addr) (cs : List Addr) (b : Bool), xs = [.ref a, .ref tp] ∧ H a = some (excO a (.ref C) none) ∧ ExcK X.K C ∧ H tp = some (.tup (cs.map V.ref)) ∧ PySem.W.kitAny X.K (.ref C) (cs.map Value.ref) = some b ∧ Q (.bl b) H) := by
  intro pins s σ H xs us Q I r h
  obtain ⟨a, C, tp, cs, b, rfl, ha, k, ht, e, q⟩ := h
  obtain ⟨u, w', rfl, rx, rn⟩ := vals2 r
  cases (show u = Value.ref a from rx)
  cases (show w' = Value.ref tp from rn)
  obtain ⟨ox, hi⟩ := exc_inst I ha
  obtain ⟨its, rv, ⟨o, h1, h2, n, h3⟩, _⟩ := I.tuple (SqT.of ht)
  have ei := vals_refs rv
  subst ei
  obtain ⟨oc, od, oda, osl⟩ := o
  dsimp only at h2 h3
  subst h2 h3
  exact PySem.W.kia_tup (kitx_exc (ox := ox) (odo := none) k) I.kIn hi h1 e (fun z => nomatch z) fun tk => ⟨.bl b, H, I.tok tk, rfl, q⟩
end
end L2

set_option maxHeartbeats 1000000
namespace Mq
end Mq

set_option Elab.async false
set_option linter.all false
set_option maxHeartbeats 1000000
namespace L2
open PySem PySem.Spec PyProof.Rows
def NW (K : PySem.W.Frag) (H : Hp) (x : V) : Prop := ∃ t, TyOf K H x t ∧ NotWhole t
def BadF (K : PySem.W.Frag) (H : Hp) (x y : V) : Prop := NW K H x ∨ (∃ t, x = .int t) ∧ (NW K H y ∨ y = .int 0)
def spFracX (K : PySem.W.Frag) (CN : Addr) : Sp := fun vs H Q E => ∃ x y, vs = [x, y] ∧
  ((∃ (t b : Int) (n : Nat), x = .int t ∧ y = .int b ∧ b ≠ 0 ∧ Mq.B n b ∧ n ≤ 9000 ∧ NewF H Q (Mq.red t b)) ∨ (BadF K H x y ∧ E (.ref CN) none H))
def spUnder (K : PySem.W.Frag) : Sp := fun vs H Q _ => ∃ (a b : Addr) (p q : Mq.Q2) (n m : Nat), vs = [.ref a, .ref b] ∧ Fq K H a p ∧ Fq K H b q ∧ Mq.Bd n p ∧ Mq.Bd m q ∧ n + m + 1 ≤ 9000 ∧ Q (.bl (decide (p.1 * q.2 < q.1 * p.2))) H
def pickN (ns : List Int) (k : Nat) : Int := ns.getD k 0
def spPick (K : PySem.W.Frag) : Sp := fun vs H Q _ => ∃ (a : Addr) (ns : List Int) (j : Int) (k : Nat), vs = [.ref a, .int j] ∧ j = (k : Int) ∧ SqL K H a (ns.map V.int) ∧ ns.length ≤ 63 ∧ ∀ H', Same H H' → Q (.int (pickN ns k)) H'
theorem pick_at (ns : List Int) (k : Nat) : atI (cutV (ns.map V.int) (some (k : Int)) (some ((k : Int) + 1)) ++ [V.int 0]) 0 = some (.int (pickN ns k)) := by
  have e1 : ((k : Int) + 1) = ((k + 1 : Nat) : Int) := by omega
  refine atI_nat (j := 0) ?_
  unfold cutV pickN
  rw [e1, HT.sIx_nat, HT.sIx_nat, List.length_map]
  by_cases h : k < ns.length
  · rw [Nat.min_eq_left (by omega), Nat.min_eq_left (by omega)]
    have e2 : k + 1 - k = 1 := by omega
    rw [e2]
    have e3 : (ns.map V.int).drop k = .int ns[k] :: (ns.map V.int).drop (k + 1) := by
      rw [List.drop_eq_getElem_cons (by simpa using h)]
      simp
    rw [e3]
    simp [List.getD, h]
  · rw [Nat.min_eq_right (by omega), Nat.min_eq_right (by omega), Nat.sub_self, List.take_zero]
    simp [List.getD, h]
end L2

set_option Elab.async false
set_option linter.all false
set_option maxRecDepth 100000
set_option maxHeartbeats 2000000
namespace L2
open PySem PySem.Spec PyProof.Rows Tx
section
variable {nl : Nat} {fr : List Nat} {g : TG} {tt : TT} {te : TE} {σ : St} {D : Addr} {H1 : Hp} {Q : VK}
theorem comp_str {cs : List Nat} (Pv : Nat → List V → Hp → Prop) (h0 : Pv 0 [] (upd H1 D (.lst []))) (hl : ∀ i ys H, Pv i ys H → H D = some (.lst ys))
    (hs : ∀ i ys c H, cs[i]? = some c → Pv i ys H → ∀ (C : Nat → List V → Hp → Prop), (∀ ys H, Pv (i + 1) ys H → C (i + 1) ys H) → CompT nl fr g tt te σ D C i ys (.str ⟨#[c]⟩) H) (hd : ∀ ys H, Pv cs.length ys H → Q (.ref D) H) :
    CompW (Its (S cs)) nl fr g tt te σ D H1 Q := by
  refine ⟨fun i m ys H => m = cs.length - i ∧ i ≤ cs.length ∧ Pv i ys H, ⟨cs.length, by simp, Nat.zero_le _, h0⟩, ?_⟩
  rintro i m ys H ⟨rfl, hi, p⟩
  refine ⟨hl i ys H p, ?_⟩
  by_cases hlt : i < cs.length
  · refine .inr ⟨by show i < (S cs).cps.size; rw [S_size]; exact hlt, fun x H' y => ?_⟩
    obtain ⟨e, c, hc, y⟩ := y
    subst e y
    have hc' : cs[i]? = some c := by rw [← S_list cs]; simpa using hc
    exact hs i ys c _ hc' p (fun j zs Hz => ∃ m', m' < cs.length - i ∧ m' = cs.length - j ∧ j ≤ cs.length ∧ Pv j zs Hz) fun zs Hz z => ⟨cs.length - (i + 1), by omega, rfl, hlt, z⟩
  · have e : i = cs.length := by omega
    subst e
    exact .inl ⟨by show (S cs).cps.size ≤ _; rw [S_size]; exact Nat.le_refl _, hd ys H p⟩
end
def digB (c : Nat) : Bool := decide (48 ≤ c ∧ c ≤ 57)
def figB (cs : List Nat) : Bool := decide (1 ≤ cs.length ∧ cs.length ≤ 200) && cs.all digB
theorem figB_iff (cs : List Nat) : figB cs = true ↔ Figs cs := by
  unfold figB Figs digB NumText.AllDigits
  simp only [Bool.and_eq_true, decide_eq_true_eq, List.all_eq_true]
  exact ⟨fun h => ⟨h.1.1, h.1.2, h.2⟩, fun h => ⟨⟨h.1, h.2.1⟩, h.2.2⟩⟩
theorem in_figs (c : Nat) : (!(Builtin.Str.occurrences "0123456789" ⟨#[c]⟩ 0 ("0123456789" : Str).length 1).isEmpty) = digB c := by
  rw [StrLaws.found_one]
  unfold digB
  rw [Bool.eq_iff_iff, decide_eq_true_eq, decide_eq_true_eq]
  have e : ("0123456789" : Str).cps.toList = [48, 49, 50, 51, 52, 53, 54, 55, 56, 57] := by decide +kernel
  rw [e]
  simp only [List.mem_cons, List.not_mem_nil, or_false]
  omega
theorem itx_len {i : Int} {n : Nat} (h : Mq.B n i) (hn : n ≤ 12900) : (itx i).length ≤ 4301 := by
  have h1 := lt_big h hn
  have h2 : (dg i.natAbs).length ≤ 4300 := (dg_len (by decide)).mpr h1
  unfold itx
  split
  · rw [List.length_cons]; omega
  · omega
theorem b200 {i : Int} (h : i.natAbs < 10 ^ 200) : Mq.B 700 i := by
  have h1 : (10 : Nat) ^ 200 ≤ 2 ^ 700 := by
    have : ((10 : Nat) ^ 2) ^ 100 ≤ (2 ^ 7) ^ 100 := Nat.pow_le_pow_left (by decide) _
    rw [← Nat.pow_mul, ← Nat.pow_mul] at this
    exact this
  exact Nat.lt_of_lt_of_le h h1
def stk (cs : List Nat) : Str := if 47 ∈ cs then "/" else Str.empty
theorem part_47 (cs : List Nat) : ∃ tl, Txt.partition (S cs) "/" = (S (ahead 47 cs), stk cs, S tl) ∧ (47 ∈ cs → tl = behind 47 cs) := by
  unfold stk
  rw [show ("/" : Str) = ⟨#[47]⟩ by decide +kernel]
  by_cases h : 47 ∈ cs
  · rw [if_pos h]
    exact ⟨_, part_yes h, fun _ => rfl⟩
  · rw [if_neg h, ahead_self h]
    exact ⟨[], part_no h, fun z => absurd z h⟩
theorem below_len {cs : List Nat} (h : cs.length ≤ 1000000) : (belowOf cs).length ≤ 1000000 := by
  unfold belowOf
  have := (ahead_len 47 cs).2
  split
  · omega
  · simp
def spFigs : Sp := fun vs H Q _ => ∃ cs, vs = [.str (S cs)] ∧ cs.length ≤ 1000000 ∧ ∀ H', Same H H' → Q (.bl (figB cs)) H'
def spNosign : Sp := fun vs H Q _ => ∃ cs, vs = [.str (S cs)] ∧ cs.length ≤ 1000000 ∧ Q (.str (S (nosign cs))) H
def spShow (K : PySem.W.Frag) : Sp := fun vs H Q _ => ∃ (a : Addr) (p : Mq.Q2) (n : Nat), vs = [.ref a] ∧ Fq K H a p ∧ Mq.Bd n p ∧ n ≤ 12900 ∧ Q (.str (S (shw p))) H
def NoTx (K : PySem.W.Frag) (H : Hp) (x : V) : Prop := ∃ t, TyOf K H x t ∧ (t = .type "NoneType" ∨ t = .type "bool" ∨ t = .type "int" ∨ t = .type "tuple" ∨ t = .type "list")
def spRead (K : PySem.W.Frag) (CN : Addr) : Sp := fun vs H Q E => ∃ x, vs = [x] ∧
  ((∃ cs, x = .str (S cs) ∧ cs.length ≤ 1000000 ∧ (∀ p, Wr p cs → NewF H Q p) ∧ ((¬ ∃ p, Wr p cs) → ∀ H', Same H H' → E (.ref CN) none H')) ∨ (NoTx K H x ∧ E (.ref CN) none H))
end L2

set_option Elab.async false
set_option linter.all false
namespace L2
open PySem PySem.Spec PyProof.Rows PySem.Builtin.Str PySem.SeqAt
variable {X : Cx}
def rSplit : V → List V → Hp → VK → Prop := fun x vs H Q => ∃ a b, x = .str a ∧ vs = [.str b] ∧ b.length ≠ 0 ∧ a.length + 2 ≤ sizeLine ∧ ∀ p, H p = none → Q (.ref p) (upd H p (.lst ((Txt.split a b).map V.str)))
theorem vals_strs : ∀ (l : List (Str × Tok)), Vals ((l.map (·.1)).map V.str) (strValues l)
  | [] => .nil
  | (a, t) :: l => .cons ⟨t, rfl⟩ (vals_strs l)
theorem mt_split : MtR X "str.split" rSplit := by
  intro pins s σ H x vs v us Q I rx rv h
  obtain ⟨a, b, rfl, rfl, hb, hz, q⟩ := h
  obtain ⟨t, rfl⟩ := rx
  obtain ⟨u, rfl, t', rfl⟩ := vals1 rv
  have hb' : (b.length == 0) = false := by simpa using hb
  have hle := split_le a b
  have fin : ∀ (l : List (Str × Tok)) (k : Nat), l.map (·.1) = Txt.split a b → EP X pins σ Q (.ref s.heap.objs.size) { s with heap := s.heap.push { cls := .type "list", data := .seq (strValues l).toArray }, toks := k } := fun l k e =>
    ⟨.ref s.heap.objs.size, _, I.laid (t' := k) (fun b o e => Heap.get?_push_of_some _ e) (Nat.le_refl _) (show ObjOk X.prog X.w _ _ _ (.lst ((Txt.split a b).map V.str)) from
      ⟨by rw [List.length_map]; omega, _, _, (by rw [← e]; exact vals_strs l), Heap.get?_push_size _ rfl⟩), rfl, q _ (I.hok.fresh (Nat.le_refl _))⟩
  cases h1 : (decide (a.length < b.length) || decide (strKind a < strKind b))
  · cases hf : (occurrences a b 0 a.length (a.length + 1)).isEmpty
    · have es : Txt.split a b = partsBetween a (occurrences a b 0 a.length (a.length + 1)) b.length := (if_neg (ne_true_of_eq_false h1)).trans (if_neg (ne_true_of_eq_false hf))
      refine call_meets F.slot_str_split (typeIs_str _ _ _) F.entry_str_split (F.args_str_split_2 _ _) (meets_str_split_sep a b t t' h1 hb' hf (by omega) (by rw [← es]; omega)) ?_
      show wants _ _ _ { s with toks := _, heap := s.heap.push { cls := .type "list", data := .seq (strsFrom s.toks (partsBetween a (occurrences a b 0 a.length (a.length + 1)) b.length)).toArray } }
      rw [strsFrom_eq]
      exact fin (numbered s.toks _) _ ((numbered_texts _ _).trans es.symm)
    · exact call_meets F.slot_str_split (typeIs_str _ _ _) F.entry_str_split (F.args_str_split_2 _ _) (meets_str_split_not_found a b t t' h1 hb' hf)
        (fin [(a, t)] s.toks ((if_neg (ne_true_of_eq_false h1)).trans (if_pos hf)).symm)
  · exact call_meets F.slot_str_split (typeIs_str _ _ _) F.entry_str_split (F.args_str_split_2 _ _) (meets_str_split_cannot_occur a b t t' h1)
      (fin [(a, t)] s.toks (if_pos h1).symm)
theorem strs_are : ∀ {ns : List Str} {us : List Value}, Vals (ns.map V.str) us → StrsAre us ns
  | [], _, .nil => .nil
  | n :: ns, _, .cons ⟨t, e⟩ q => by subst e; exact .cons _ _ (strs_are q)
theorem isStr_at (k : Str) : ∀ {vs : List Value} {ns : List Str}, StrsAre vs ns → ∀ (j : Nat) (h1 : j < vs.length) (h2 : j < ns.length), isStrOf k vs[j] = (ns[j] == k)
  | _, _, .cons n t _, 0, _, _ => rfl
  | _, _, .cons n t r, j + 1, h1, h2 => isStr_at k r j (Nat.lt_of_succ_lt_succ h1) (Nat.lt_of_succ_lt_succ h2)
theorem StrsAre_len : ∀ {vs : List Value} {ns : List Str}, StrsAre vs ns → vs.length = ns.length
  | _, _, .nil => rfl
  | _, _, .cons n t r => by rw [List.length_cons, List.length_cons, StrsAre_len r]
def rIndexS (K : PySem.W.Frag) : V → List V → Hp → VK → Prop := fun x vs H Q => ∃ (p : Addr) (ns : List Str) (k : Str) (j : Nat), x = .ref p ∧ vs = [.str k] ∧ SqL K H p (ns.map V.str) ∧ ns[j]? = some k ∧ (∀ i, i < j → ns[i]? ≠ some k) ∧ j ≤ 1000 ∧ Q (.int (j : Nat)) H
theorem mt_indexS : MtR X "list.index" (rIndexS X.K) := by
  intro pins s σ H x xs v us Q I rx rv h
  obtain ⟨p, ns, k, j, rfl, rfl, hq, hk, hno, hj, q⟩ := h
  cases rx
  obtain ⟨u, rfl, t, rfl⟩ := vals1 rv
  obtain ⟨its, r, pl, hz⟩ := I.list hq
  have hi := strs_are r
  have hlen := StrsAre_len hi
  obtain ⟨hjn, hjk⟩ := List.getElem?_eq_some_iff.mp hk
  obtain ⟨⟨cls, dd, data, sl⟩, ho, hc, n, hd⟩ := id pl.isList
  simp only at hc hd
  subst hc hd
  refine call_meets PySem.F.slot_list_index ⟨_, ho, rfl⟩ PySem.F.entry_list_index (PySem.F.args_list_index_2 _ _)
    (list_indexAt p its.toArray n dd sl (.str k t) (isStrOf k) j (by simpa [hlen] using hjn) (by omega) ?_ ?_) ⟨ho, fun y hy => (eq_isStrOf k t hi y (by simpa using hy)).at _ _, ⟨.int _, H, I.tok _, ⟨_, rfl⟩, q⟩⟩
  · show isStrOf k its[j] = true
    rw [isStr_at k hi _ (by omega) hjn, hjk]
    simp
  · intro i hjs hlt
    show isStrOf k its[i] = false
    have hi2 : i < ns.length := by simp at hjs; omega
    rw [isStr_at k hi i (by simpa using hjs) hi2]
    have := hno i hlt
    rw [List.getElem?_eq_getElem hi2] at this
    simpa using this
theorem mt_indexSK {X : Cx} {K : PySem.W.Frag} (h : X.K = K) : MtR X "list.index" (rIndexS K) := by subst h; exact mt_indexS
theorem app_sep {c : Nat} : ∀ {x y A B : List Nat}, c ∉ x → c ∉ y → x ++ c :: A = y ++ c :: B → x = y ∧ A = B
  | [], [], _, _, _, _, e => ⟨rfl, by simpa using e⟩
  | [], b :: y, _, _, _, h2, e => by
    have : c = b := by simpa using congrArg List.head? e
    exact absurd (List.mem_cons.mpr (.inl this)) h2
  | a :: x, [], _, _, h1, _, e => by
    have : a = c := by simpa using congrArg List.head? e
    exact absurd (List.mem_cons.mpr (.inl this.symm)) h1
  | a :: x, b :: y, A, B, h1, h2, e => by
    have e' : a = b ∧ x ++ c :: A = y ++ c :: B := by simpa using e
    obtain ⟨r1, r2⟩ := app_sep (fun z => h1 (List.mem_cons_of_mem _ z)) (fun z => h2 (List.mem_cons_of_mem _ z)) e'.2
    exact ⟨by rw [e'.1, r1], r2⟩
def jnc (c : Nat) : List (List Nat) → List Nat
  | [] => []
  | [x] => x
  | x :: y :: r => x ++ c :: jnc c (y :: r)
theorem jnc_inj {c : Nat} : ∀ {xs ys : List (List Nat)}, xs ≠ [] → ys ≠ [] → (∀ x ∈ xs, c ∉ x) → (∀ y ∈ ys, c ∉ y) → jnc c xs = jnc c ys → xs = ys
  | [], _, h, _, _, _, _ => absurd rfl h
  | _ :: _, [], _, h, _, _, _ => absurd rfl h
  | [x], [y], _, _, _, _, e => by rw [show x = y from e]
  | [x], y :: z :: r, _, _, h1, _, e => by
    have e : x = y ++ c :: jnc c (z :: r) := e
    exact absurd (by rw [e]; simp) (h1 x (by simp))
  | x :: z :: r, [y], _, _, _, h2, e => by
    have e : x ++ c :: jnc c (z :: r) = y := e
    exact absurd (by rw [← e]; simp) (h2 y (by simp))
  | x :: z :: r, y :: w :: q, _, _, h1, h2, e => by
    have e : x ++ c :: jnc c (z :: r) = y ++ c :: jnc c (w :: q) := e
    obtain ⟨r1, r2⟩ := app_sep (h1 x (by simp)) (h2 y (by simp)) e
    rw [r1, jnc_inj (xs := z :: r) (ys := w :: q) (by simp) (by simp) (fun a ha => h1 a (List.mem_cons_of_mem _ ha)) (fun a ha => h2 a (List.mem_cons_of_mem _ ha)) r2]
theorem join_jnc (c : Nat) : ∀ xs : List Str, (Str.join ⟨#[c]⟩ xs).cps.toList = jnc c (xs.map fun x => x.cps.toList)
  | [] => rfl
  | [x] => rfl
  | x :: y :: r => by
    have ih := join_jnc c (y :: r)
    show ((x ++ ⟨#[c]⟩ ++ Str.join ⟨#[c]⟩ (y :: r) : Str)).cps.toList = x.cps.toList ++ c :: jnc c ((y :: r).map fun x => x.cps.toList)
    rw [← ih]
    show ((x.cps ++ #[c]) ++ (Str.join ⟨#[c]⟩ (y :: r)).cps).toList = _
    simp
theorem split_is {c : Nat} {xs : List (List Nat)} (h0 : xs ≠ []) (h : ∀ x ∈ xs, c ∉ x) : Txt.split (Tx.S (jnc c xs)) ⟨#[c]⟩ = xs.map Tx.S := by
  have j := StrLaws.join_split (Tx.S (jnc c xs)) ⟨#[c]⟩
  have f := StrLaws.split_free (Tx.S (jnc c xs)) c
  have p := split_pos (Tx.S (jnc c xs)) ⟨#[c]⟩
  generalize Txt.split (Tx.S (jnc c xs)) ⟨#[c]⟩ = ys at j f p ⊢
  have e := congrArg (fun s : Str => s.cps.toList) j
  simp only [join_jnc, Tx.S_list] at e
  have := jnc_inj (c := c) (xs := ys.map fun x => x.cps.toList) (ys := xs) (fun z => by rw [List.map_eq_nil_iff] at z; rw [z] at p; simp at p) h0 (fun x hx => by
    obtain ⟨y, hy, rfl⟩ := List.mem_map.mp hx
    exact f y hy) h e
  rw [← this, List.map_map]
  conv => lhs; rw [← List.map_id ys]
  exact List.map_congr_left fun y _ => Tx.S_self y
end L2

set_option Elab.async false
set_option linter.all false
set_option maxRecDepth 100000
set_option maxHeartbeats 2000000
namespace L2
open PySem PySem.Spec PyProof.Rows
section
variable {X : Cx} {pins : List (Addr × Obj)} {σ : St} {H : Hp} {s : Shared} {h' : Heap}
end
section
variable {X : Cx}
end
end L2

set_option Elab.async false
set_option linter.all false
set_option maxRecDepth 100000
set_option maxHeartbeats 2000000
namespace L2
open PySem PySem.Spec PyProof.Rows
section
variable {X : Cx}
end
end L2

set_option Elab.async false
set_option linter.all false
set_option maxRecDepth 100000
set_option maxHeartbeats 2000000
namespace L2
open PySem PySem.Spec PyProof.Rows
inductive TyQ (K : PySem.W.Frag) (H : Hp) : V → Value → Prop where
  | of {x : V} {t : Value} (h : TyOf K H x t) : TyQ K H x t
  | tup {a : Addr} {xs : List V} (h : SqT K H a xs) : TyQ K H (.ref a) (.type "tuple")
  | lst {a : Addr} {xs : List V} (h : SqL K H a xs) : TyQ K H (.ref a) (.type "list")
section
variable {X : Cx} {pins : List (Addr × Obj)} {σ : St} {H : Hp} {s : Shared} {A : Around} {E : Value → Shared → Prop} {Q : Value → Shared → Prop} {c : Value} {b : Bool}
theorem isinst_okQ {x : V} {u t : Value} (I : Inv X pins σ H s) (rx : RelV x u) (ty : TyQ X.K H x t) (e : PySem.W.kitOne X.K t c = some b) (h : ∀ tk, Q (.bool b) { s with toks := tk }) :
    wpAny (model X.prog X.w) A (call (.builtin "isinstance") [u, c]) Q E s := by
  cases ty with
  | of ty => exact isinst_ok I rx ty e h
  | @tup a xs ht =>
    cases (show u = Value.ref a from rx)
    obtain ⟨its, _, p, _⟩ := I.tuple ht
    obtain ⟨o, h1, h2, _⟩ := p
    exact PySem.W.kia_one PySem.W.kitx_tuple I.kIn ⟨o, h1, h2⟩ e (fun z => nomatch z) h
  | @lst a xs ht =>
    cases (show u = Value.ref a from rx)
    obtain ⟨its, _, p, _⟩ := I.list ht
    obtain ⟨o, h1, h2, _⟩ := p.isList
    exact PySem.W.kia_one PySem.W.kitx_list I.kIn ⟨_, h1, h2⟩ e (fun z => nomatch z) h
end
section
variable {X : Cx}
theorem call_isiQ : CallR X (.builtin "isinstance") (fun xs H Q => ∃ x n t b, xs = [x, .ty n] ∧ TyQ X.K H x t ∧ PySem.W.kitOne X.K t (.type n) = some b ∧ Q (.bl b) H) := by
  intro pins s σ H vs us Q I rv h
  obtain ⟨x, n, t, b, rfl, ty, e, q⟩ := h
  obtain ⟨u, u2, rfl, r1, r2⟩ := vals2 rv
  cases (show u2 = Value.type n from r2)
  exact isinst_okQ I r1 ty e fun tk => ⟨.bl b, H, I.tok tk, rfl, q⟩
theorem pe_isiQ {i : Nat} {x T : Str} {T' : String} {p1 p2 p3 pos : Pos} (hN : X.N[i]? = some x) (hv : Vis X.env.scope x) (b : X.mg "isinstance" = none) (b2 : X.mg T = none) (g1 : Gl X "isinstance") (g2 : Gl X T) (hT : bootBuiltins T = some (.type T'))
    (hd : (x == ("__debug__" : Str)) = false := by decide) (hcd : (x == ("__classdict__" : Str)) = false := by decide) (hTn : T ≠ "__name__" := by decide) (hTd : (T == ("__debug__" : Str)) = false := by decide)
    (he : starEach [.Name x p2, .Name T p3] X.env = (false, eval (.Name x p2) X.env) :: starEach [.Name T p3] X.env := by rfl)
    (he2 : starEach [.Name T p3] X.env = (false, eval (.Name T p3) X.env) :: starEach [] X.env := by rfl) (hpl : (backTo pos (starEach [.Name T p3] X.env)).any (·.1) = false := by rfl) :
    PE X (.Call (.Name "isinstance" p1) [.Name x p2, .Name T p3] [] pos) (fun σ H Q => ∃ v t b, σ[i]? = some (some v) ∧ TyQ X.K H v t ∧ PySem.W.kitOne X.K t (.type T') = some b ∧ Q (.bl b) H) := by
  have h := pe_callB (X := X) (pos := pos) (p := p1) call_isiQ g1 b PyProof.Rows.boot_isinstance (pa_cons (pe_var (i := i) (pos := p2) hN hv hd hcd) (pa_cons (pe_bltn (v := .ty T') (pos := p3) g2 b2 hT rfl hTn hTd) pa_nil he2) he) (by decide) (by decide) he hpl
  intro pins s σ H Q I q
  obtain ⟨v, t, bb, h1, h2, h3, h4⟩ := q
  exact h pins s σ H Q I ⟨v, h1, v, T', t, bb, rfl, h2, h3, h4⟩
end
theorem SqT.upd {K : PySem.W.Frag} {H : Hp} {a l : Addr} {xs ys : List V} {o : HO} (h : SqT K H a xs) (hl : H l = some (.lst ys)) : SqT K (L2.upd H l o) a xs := by
  rcases h with (h | ⟨u, h⟩) | h
  · exact .inl (.inl (by rw [upd_ne (ne_of h hl (fun z => by cases z))]; exact h))
  · exact .inl (.inr ⟨u, by rw [upd_ne (ne_of h hl (fun z => by cases z))]; exact h⟩)
  · exact .inr h
theorem ints_dat {K : PySem.W.Frag} {H : Hp} : ∀ ns : List Int, DatVs K H (ns.map V.int) (ns.map PyData.int)
  | [] => .nil
  | n :: r => .cons (.int n) (ints_dat r)
theorem ints_lay : ∀ ns : List Int, PyData.canLayAll0 (ns.map PyData.int) = true
  | [] => rfl
  | n :: r => by
    show ((PyData.int n).canLay0 && PyData.canLayAll0 (r.map PyData.int)) = true
    rw [ints_lay r]; rfl
theorem rd_eqNil {K : PySem.W.Frag} {H : Hp} {a b : Addr} {ns : List Int} {neg : Bool} {Q : VK} (h1 : SqL K H a (ns.map V.int)) (h2 : SqL K H b []) (z : Q (.bl (if neg then !ns.isEmpty else ns.isEmpty)) H) : rDat K neg (.ref a) (.ref b) H Q := by
  refine ⟨_, _, .lst h1 (ints_dat ns), .lst h2 .nil, ints_lay ns, rfl, ?_, ?_⟩
  · have : (PyData.list []).depth ≤ 1 := by decide
    omega
  · cases ns <;> exact z
theorem B_of {n : Nat} {i : Int} (lo : -(2 ^ n : Int) < i) (hi : i < 2 ^ n) : Mq.B n i := by
  unfold Mq.B
  have e : ((2 ^ n : Nat) : Int) = 2 ^ n := by simp
  omega
end L2

set_option Elab.async false
set_option linter.all false
set_option maxRecDepth 100000
set_option maxHeartbeats 2000000
namespace L2
open PySem PySem.Spec PyProof.Rows
section
variable {X : Cx}
theorem call_isiO : CallR X (.builtin "isinstance") (fun xs H Q => ∃ x C t b, xs = [x, .ref C] ∧ TyQ X.K H x t ∧ PySem.W.kitOne X.K t (.ref C) = some b ∧ Q (.bl b) H) := by
  intro pins s σ H xs us Q I r h
  obtain ⟨x, C, t, b, rfl, ty, e, q⟩ := h
  obtain ⟨u, w', rfl, rx, rn⟩ := vals2 r
  cases (show w' = Value.ref C from rn)
  exact isinst_okQ I rx ty e fun tk => ⟨.bl b, H, I.tok tk, rfl, q⟩
end
def tMethD {ι : Type} (C : ι → Addr) (m : Str) (sp : ι → Sp) (dvs : List V) (E : XK) (ta : TE) (t : TA) : TE := fun σ H Q => ta σ H fun x H1 => ∃ i a dx fs, x = .ref a ∧ H1 a = some (.ins (C i) dx fs) ∧ fs.lookup m = none ∧
  t σ H1 fun vs H2 => sp i (x :: (vs ++ dvs)) H2 Q E
section
variable {X : Cx} {ι : Type} {C f : ι → Addr} {fd : ι → FuncData} {sp : ι → Sp} {m : Str} {CX : CXT} {k : Nat} {ps : List Str} {ds : List Value} {dvs : List V} {E : XK} {o e : Expr} {es : List Expr} {ta : TE} {t : TA} {apos pos : Pos}
theorem pe_methD0 {pl : Sem Bool} (he : PE X o ta) (c : ∀ i, Cls X.K (C i)) (hm : ∀ i, Meth X.K (C i) m (f i)) (F : ∀ i, FnOk X.prog X.w X.K X.mg X.base CX k (f i) (fd i) ps (sp i)) (hr : Room k X.A) (hb : ∀ i, Binds X.K (fd i) ps ds) (hd : Vals dvs ds) (hx : Passes CX X E)
    (ht : eval (.Call (.Attribute o m apos) [] [] pos) X.env = (do
      let ov ← eval o X.env
      standAt apos.atName
      let (f, first) ← holding [ov] (getMethod ov m pl)
      callWith pos f first (backTo pos (starEach [] X.env)) (backToKw pos (keywordEach [] X.env))) := by rfl) :
    PE X (.Call (.Attribute o m apos) [] [] pos) (tMethD C m sp dvs E ta tNil) := by
  intro pins s σ H Q I h
  refine PySem.W.methodCall_KW (pl := pl) (thn (he pins s σ H _ I h) fun u s1 ⟨x, H1, I1, rx, i, a, dx, fs, ex, ea, l, q⟩ => ?_) ht
  subst ex
  obtain rfl : u = Value.ref a := rx
  refine getmeth_ok I1 ea (c i) (hm i) l ?_
  exact PySem.W.callWith_K0 (first := [.ref a]) I1.kIn (hm i).kp (run_fn (us := [.ref a]) (vs := [.ref a]) (F i) hr (hb i) hd hx I1 (.cons rfl .nil) q)
end
inductive Kd where
  | pc | pu | ho
  deriving DecidableEq
def Kd.wd : Kd → Str
  | .pc => "piece"
  | .pu => "push"
  | .ho => "hold"
def Kd.cn : Kd → Str
  | .pc => "Piece"
  | .pu => "Push"
  | .ho => "Hold"
theorem Kd.wd_inj {k j : Kd} (h : k.wd = j.wd) : k = j := by
  cases k <;> cases j <;> first | rfl | exact absurd h (by decide +kernel)
theorem fsg : ¬ (("start" : Str) = "goal") := by decide +kernel
theorem fsz : ¬ (("start" : Str) = "size") := by decide +kernel
theorem fgz : ¬ (("goal" : Str) = "size") := by decide +kernel
def rflds (s g z : V) : List (Str × V) := putF "size" z (putF "goal" g (putF "start" s []))
theorem rflds_start (s g z : V) : (rflds s g z).lookup ("start" : Str) = some s := by
  unfold rflds
  rw [lookup_putF, if_neg fsz, lookup_putF, if_neg fsg, lookup_putF, if_pos rfl]
theorem rflds_goal (s g z : V) : (rflds s g z).lookup ("goal" : Str) = some g := by
  unfold rflds
  rw [lookup_putF, if_neg fgz, lookup_putF, if_pos rfl]
theorem rflds_size (s g z : V) : (rflds s g z).lookup ("size" : Str) = some z := by
  unfold rflds
  rw [lookup_putF, if_pos rfl]
theorem rflds_no (s g z : V) {m : Str} (h1 : ¬ m = "start") (h2 : ¬ m = "goal") (h3 : ¬ m = "size") : (rflds s g z).lookup m = none := by
  unfold rflds
  rw [lookup_putF, if_neg h3, lookup_putF, if_neg h2, lookup_putF, if_neg h1]
  rfl
def Rw (CK : Kd → Addr) (H : Hp) (x : Addr) (k : Kd) (s g z : V) : Prop := ∃ dx, H x = some (.ins (CK k) dx (rflds s g z))
structure RT (K : PySem.W.Frag) (mg : Str → Option Value) (CR : Addr) (CK : Kd → Addr) : Prop where
  cl : ∀ k, Cls K (CK k)
  nS : ∀ k, NoAttr K (CK k) "start"
  nG : ∀ k, NoAttr K (CK k) "goal"
  nZ : ∀ k, NoAttr K (CK k) "size"
  t1 : ∀ k, PySem.W.findIn K (.ref (CK k)) "__class__" = some (some (.builtin "object.__class__"))
  t2 : PySem.W.specialIn K (.builtin "object.__class__") "__get__" = some (some (.builtin "getset_descriptor.__get__"))
  t3 : PySem.W.takesIn K (.builtin "object.__class__") = some true
  t4 : ∀ k, PySem.W.mroIn K (CK k) (.type "object") = some true
  isR : ∀ k, PySem.W.kitOne K (.ref (CK k)) (.ref CR) = some true
  isK : ∀ k j, PySem.W.kitOne K (.ref (CK k)) (.ref (CK j)) = some (decide (k = j))
  mR : mg "Row" = some (.ref CR)
  mK : ∀ k, mg (Kd.cn k) = some (.ref (CK k))
section
variable {K : PySem.W.Frag} {mg : Str → Option Value} {CR : Addr} {CK : Kd → Addr} {H : Hp} {x : Addr} {k : Kd} {s g z : V}
theorem Rw.new {C x dx : Addr} {fs : List (Str × V)} (h1 : H x = none) (h2 : H dx = none) (ne : dx ≠ x) : Same H (L2.upd (L2.upd H dx (.own x)) x (.ins C dx fs)) := fun b o e => by
  rw [upd_ne (ne_of_none e h1), upd_ne (ne_of_none e h2)]; exact e
end
def spRInit (CK : Kd → Addr) : Sp := fun vs H Q _ => ∃ (x dx : Addr) (k : Kd) (s g z : V), vs = [.ref x, s, g, z] ∧ H x = some (.ins (CK k) dx []) ∧ Q .non (upd H x (.ins (CK k) dx (rflds s g z)))
def spWord (k : Kd) : Sp := fun vs H Q _ => ∃ x, vs = [x] ∧ Q (.str k.wd) H
def spRTold (CK : Kd → Addr) : Sp := fun vs H Q _ => ∃ (x : Addr) (k : Kd) (s g z : V), vs = [.ref x] ∧ Rw CK H x k s g z ∧ ∀ t, H t = none → Q (.ref t) (upd H t (.tup [.str k.wd, s, g, z]))
def NewR (CK : Kd → Addr) (H : Hp) (Q : VK) (k : Kd) (s g z : V) : Prop := ∀ x H', Same H H' → H x = none → Rw CK H' x k s g z → Q (.ref x) H'
end L2
namespace L2
open PySem PySem.Spec PyProof.Rows
theorem rd_eqS {K : PySem.W.Frag} {H : Hp} {x y : V} {d : PyData} {neg : Bool} {Q : VK} (h1 : DatV K H x d) (h2 : DatV K H y d) (hl : d.canLay0 = true) (hd : d.depth ≤ 16) (z : Q (.bl (!neg)) H) : rDat K neg x y H Q := by
  refine ⟨d, d, h1, h2, hl, hl, by omega, ?_⟩
  have e : PyData.eqv d d = true := PySem.SeqAt.eqv_refl _ hl
  rw [e]
  cases neg <;> exact z
def rd4 (w : Str) (i j : Int) (p : Mq.Q2) : PyData := .tuple [.str w, .int i, .int j, qd p]
theorem rd4_lay {w : Str} (h : (PyData.str w).canLay0 = true) (i j : Int) (p : Mq.Q2) : (rd4 w i j p).canLay0 = true := by
  show ((PyData.str w).canLay0 && ((PyData.int i).canLay0 && ((PyData.int j).canLay0 && ((qd p).canLay0 && true)))) = true
  rw [h]; rfl
theorem Kd.lay (k : Kd) : (PyData.str k.wd).canLay0 = true := by cases k <;> decide +kernel
theorem ifT {c : Bool} {A B : Prop} (h : c = true) (x : A) : if c = true then A else B := by rw [if_pos h]; exact x
theorem ifF {c : Bool} {A B : Prop} (h : c = false) (x : B) : if c = true then A else B := by rw [if_neg (by rw [h]; decide)]; exact x
theorem rd4_dat {K : PySem.W.Frag} {H : Hp} {t a : Addr} {w : Str} {i j : Int} {p : Mq.Q2} (h : SqT K H t [.str w, .int i, .int j, .ref a]) (f : Fq K H a p) : DatV K H (.ref t) (rd4 w i j p) := .tup h (.cons (.str _) (.cons (.int _) (.cons (.int _) (.cons f.dat .nil))))
theorem dec_wd (k j : Kd) : decide (V.str k.wd = V.str j.wd) = decide (k = j) := by
  by_cases h : k = j
  · subst h; simp
  · rw [decide_eq_false h]
    exact decide_eq_false fun z => h (Kd.wd_inj (V.str.inj z))
end L2
namespace L2
open PySem PySem.Spec PyProof.Rows
end L2
namespace L2
theorem all3 {p : Kd → Prop} (a : p .pc) (b : p .pu) (c : p .ho) : ∀ k, p k := fun k => by cases k <;> assumption
def kd3 {α : Type} (a b c : α) : Kd → α
  | .pc => a
  | .pu => b
  | .ho => c
end L2

set_option maxHeartbeats 1000000
namespace Mq
end Mq

set_option Elab.async false
set_option linter.all false
set_option maxRecDepth 100000
namespace L2
open PySem PySem.Spec PyProof.Rows

section
variable {κ : Type} [DecidableEq κ]
end


abbrev KT (H : Hp) : List (List Key × V) → List (List Key × Addr × Value) → Prop := Paired fun p q => p.1 = q.1 ∧ H q.2.1 = some (.tup (p.1.map kV)) ∧ RelV p.2 q.2.2
section
variable {P : Program} {w : World} {H : Hp} {h : Heap} {a : Addr}
end

section
variable {X : Cx} {pins : List (Addr × Obj)} {σ : St} {H : Hp} {s : Shared} {a : Addr} {y v : V} {u r : Value} {o : Option V} {A : Around} {E : Value → Shared → Prop}

theorem Inv.big (I : Inv X pins σ H s) : sysModules < s.heap.objs.size := by
  have h : mainGlobals < s.heap.objs.size := (I.mod.glob.keeps I.bk).lt
  exact Nat.lt_trans (by decide) h

end

section
variable {X : Cx} {pins : List (Addr × Obj)} {σ : St} {H : Hp} {s : Shared} {a : Addr} {kvs : List (Key × V)} {k : Key} {u : Value} {A : Around} {E : Value → Shared → Prop}
end


section
variable {X : Cx} {o i e value : Expr} {pos pos' tpos : Pos} {td ty tv : TE}
end


theorem dk_empty {P : Program} {w : World} {H : Hp} (h : Heap) (hb : sysModules < h.objs.size) : ObjOk P w H (h.push { cls := .type "dict", data := .dict #[] }) h.objs.size (.dK []) :=
  ⟨Nat.zero_le _, beq_eq_false_iff_ne.mpr (Ne.symm (Nat.ne_of_lt hb)), [], .nil, Heap.DictOf.new h⟩
def tDNewK : TE := fun _ H Q => ∀ p, H p = none → Q (.ref p) (upd H p (.dK []))
section
variable {X : Cx} {pos : Pos}
theorem pe_dnewK : PE X (.Dict [] [] pos) tDNewK := fun pins s σ H Q I h =>
  wpAny_Dict_empty ⟨.ref s.heap.objs.size, _, I.laid (a := s.heap.objs.size) (o := .dK []) (t' := s.toks) (fun _ _ q => Heap.get?_push_of_some _ q) (Nat.le_refl _) (dk_empty s.heap I.big), rfl, h _ (I.hok.fresh (Nat.le_refl _))⟩
end

abbrev VV : List (V × V) → List (Value × Value) → Prop := Paired fun p q => RelV p.1 q.1 ∧ RelV p.2 q.2
section
variable {X : Cx} {pins : List (Addr × Obj)} {σ : St} {H : Hp} {s : Shared} {a : Addr} {y d : V} {u r : Value} {o : Option V} {A : Around} {E : Value → Shared → Prop}
end

section
variable {X : Cx} {o e f : Expr} {apos cpos : Pos} {td ty tx : TE}
end

section
variable {X : Cx} {pins : List (Addr × Obj)} {σ : St} {H : Hp} {s : Shared} {a : Addr} {kvs : List (Key × V)} {A : Around} {E : Value → Shared → Prop}
end


section
variable {X : Cx} {pins : List (Addr × Obj)} {σ : St} {H : Hp} {s : Shared} {a : Addr} {y : V} {u : Value} {A : Around} {E : Value → Shared → Prop}
end
end L2

namespace L2
open PySem PySem.Spec PyProof.Rows
section
variable {X : Cx}
end
section
variable {κ : Type} [DecidableEq κ]
end
end L2

set_option Elab.async false
set_option linter.all false
set_option maxRecDepth 100000
set_option maxHeartbeats 2000000
namespace Mq
end Mq
namespace L2
open PySem PySem.Spec PyProof.Rows
theorem Fq.mod {K : PySem.W.Frag} {a : Addr} {d : Option Addr} {n : Nat} {sl : Array (Option Value)} {i j : Int} {t u : Tok} (l : K.lookup a = some ⟨.type "tuple", d, .seq #[.int i t, .int j u] n, sl⟩) (H : Hp) : Fq K H a (i, j) :=
  .inr ⟨_, _, _, l, rfl, rfl, (by show 2 ≤ sizeLine; decide), .cons ⟨_, rfl⟩ (.cons ⟨_, rfl⟩ .nil)⟩
end L2

set_option Elab.async false
set_option linter.all false
set_option maxRecDepth 100000
set_option maxHeartbeats 2000000
namespace L2
open PySem PySem.Spec PyProof.Rows
abbrev RD := Kd × Int × Int × Mq.Q2
inductive Rts (K : PySem.W.Frag) (H : Hp) : List V → List RD → Prop where
  | nil : Rts K H [] []
  | cons {t z : Addr} {k : Kd} {i j : Int} {p : Mq.Q2} {xs : List V} {ds : List RD} (h : SqT K H t [.str k.wd, .int i, .int j, .ref z]) (f : Fq K H z p) (q : Rts K H xs ds) : Rts K H (.ref t :: xs) ((k, i, j, p) :: ds)
section
variable {K : PySem.W.Frag} {H H' : Hp}
theorem Rts.same (e : Same H H') : ∀ {xs : List V} {ds : List RD}, Rts K H xs ds → Rts K H' xs ds
  | _, _, .nil => .nil
  | _, _, .cons h f q => .cons (e.seqT h) (e.fq f) (Rts.same e q)
theorem Rts.length : ∀ {xs : List V} {ds : List RD}, Rts K H xs ds → xs.length = ds.length
  | _, _, .nil => rfl
  | _, _, .cons _ _ q => by simp [Rts.length q]
theorem Rts.app : ∀ {xs ys : List V} {ds es : List RD}, Rts K H xs ds → Rts K H ys es → Rts K H (xs ++ ys) (ds ++ es)
  | _, _, _, _, .nil, r => r
  | _, _, _, _, .cons h f q, r => .cons h f (Rts.app q r)
theorem Rts.at : ∀ {xs : List V} {ds : List RD} {q : Nat} {d : RD}, Rts K H xs ds → ds[q]? = some d → ∃ t z, xs[q]? = some (.ref t) ∧ SqT K H t [.str d.1.wd, .int d.2.1, .int d.2.2.1, .ref z] ∧ Fq K H z d.2.2.2
  | _, _, _, _, .nil, h => by simp at h
  | _, _, 0, _, .cons h f _, e => by simp at e; subst e; exact ⟨_, _, rfl, h, f⟩
  | _, _, i + 1, _, .cons _ _ q, e => by simpa using Rts.at q (by simpa using e)
theorem Rts.upd {l : Addr} {ys : List V} {o : HO} (hl : H l = some (.lst ys)) : ∀ {xs : List V} {ds : List RD}, Rts K H xs ds → Rts K (L2.upd H l o) xs ds
  | _, _, .nil => .nil
  | _, _, .cons h f q => .cons (h.upd hl) (f.upd hl) (Rts.upd hl q)
def rdd (d : RD) : PyData := rd4 d.1.wd d.2.1 d.2.2.1 d.2.2.2
theorem Rts.dat : ∀ {xs : List V} {ds : List RD}, Rts K H xs ds → DatVs K H xs (ds.map rdd)
  | _, _, .nil => .nil
  | _, _, .cons h f q => .cons (rd4_dat h f) (Rts.dat q)
theorem rdds_lay : ∀ ds : List RD, PyData.canLayAll0 (ds.map rdd) = true
  | [] => rfl
  | d :: r => by
    show ((rdd d).canLay0 && PyData.canLayAll0 (r.map rdd)) = true
    rw [rdds_lay r, show (rdd d).canLay0 = true from rd4_lay (Kd.lay _) _ _ _]; rfl
theorem rdds_depth : ∀ ds : List RD, PyData.depthAll (ds.map rdd) ≤ 3
  | [] => by simp [PyData.depthAll]
  | d :: r => by
    have b := rdds_depth r
    have a : (rdd d).depth ≤ 3 := by simp [rdd, rd4, qd, PyData.depth, PyData.depthAll]
    simp only [List.map_cons, PyData.depthAll]
    omega
theorem rd_eqR {a b : Addr} {xs ys : List V} {ds : List RD} {neg : Bool} {Q : VK} (h1 : SqL K H a xs) (h2 : SqL K H b ys) (f1 : Rts K H xs ds) (f2 : Rts K H ys ds) (z : Q (.bl (!neg)) H) : rDat K neg (.ref a) (.ref b) H Q :=
  rd_eqS (d := .list (ds.map rdd)) (.lst h1 f1.dat) (.lst h2 f2.dat) (rdds_lay ds) (by have := rdds_depth ds; simp only [PyData.depth]; omega) z
end
def SameX (l : Addr) (H H' : Hp) : Prop := ∀ b o, H b = some o → b ≠ l → H' b = some o
theorem Same.x {l : Addr} {H H' : Hp} (s : Same H H') : SameX l H H' := fun b o h _ => s b o h
theorem SameX.write {l : Addr} {H H1 : Hp} {o : HO} (a : SameX l H H1) : SameX l H (upd H1 l o) := fun c u h n => by rw [upd_ne n]; exact a c u h n
section
variable {K : PySem.W.Frag} {H H' : Hp} {l : Addr}
theorem SameX.seqT {a : Addr} {xs ys : List V} (hl : H l = some (.lst ys)) (e : SameX l H H') (h : SqT K H a xs) : SqT K H' a xs := by
  rcases h with (h | ⟨u, h⟩) | h
  · exact .inl (.inl (e _ _ h (ne_of h hl (fun z => by cases z))))
  · exact .inl (.inr ⟨u, e _ _ h (ne_of h hl (fun z => by cases z))⟩)
  · exact .inr h
end
theorem fpk : ¬ (("point_count" : Str) = "kept") := by decide +kernel
def nflds (m : Int) (l : Addr) : List (Str × V) := putF "kept" (.ref l) (putF "point_count" (.int m) [])
theorem nflds_pc (m : Int) (l : Addr) : (nflds m l).lookup ("point_count" : Str) = some (.int m) := by
  unfold nflds
  rw [lookup_putF, if_neg fpk, lookup_putF, if_pos rfl]
theorem nflds_kept (m : Int) (l : Addr) : (nflds m l).lookup ("kept" : Str) = some (.ref l) := by
  unfold nflds
  rw [lookup_putF, if_pos rfl]
theorem nflds_no (m : Int) (l : Addr) {x : Str} (h1 : ¬ x = "point_count") (h2 : ¬ x = "kept") : (nflds m l).lookup x = none := by
  unfold nflds
  rw [lookup_putF, if_neg h2, lookup_putF, if_neg h1]
  rfl
def RdOk (m : Int) (d : RD) : Prop := 0 ≤ d.2.1 ∧ d.2.1 < m ∧ 0 ≤ d.2.2.1 ∧ d.2.2.1 < m ∧ Mq.Low d.2.2.2 ∧ (d.1 = .pc → 0 < d.2.2.2.1) ∧ Mq.Bd 100 d.2.2.2
structure NetAt (CN : Addr) (K : PySem.W.Frag) (H : Hp) (n l : Addr) (m : Int) (ds : List RD) : Prop where
  ob : ∃ dx, H n = some (.ins CN dx (nflds m l))
  ls : ∃ ts, H l = some (.lst ts) ∧ Rts K H ts ds
theorem NetAt.same {CN : Addr} {K : PySem.W.Frag} {H H' : Hp} {n l : Addr} {m : Int} {ds : List RD} (e : Same H H') (h : NetAt CN K H n l m ds) : NetAt CN K H' n l m ds :=
  let ⟨⟨dx, a⟩, ts, b, c⟩ := h; ⟨⟨dx, e _ _ a⟩, ts, e _ _ b, c.same e⟩
structure NT (K : PySem.W.Frag) (mg : Str → Option Value) (CN : Addr) : Prop where
  cl : Cls K CN
  nP : NoAttr K CN "point_count"
  nK : NoAttr K CN "kept"
  t1 : PySem.W.findIn K (.ref CN) "__class__" = some (some (.builtin "object.__class__"))
  t2 : PySem.W.specialIn K (.builtin "object.__class__") "__get__" = some (some (.builtin "getset_descriptor.__get__"))
  t3 : PySem.W.takesIn K (.builtin "object.__class__") = some true
  t4 : PySem.W.mroIn K CN (.type "object") = some true
  mN : mg "Net" = some (.ref CN)
def spRowOfG (K : PySem.W.Frag) (CK : Kd → Addr) : Sp := fun vs H Q _ => ∃ (t : Addr) (v s g z : V), vs = [.ref t] ∧ SqT K H t [v, s, g, z] ∧ ∃ k : Kd, v = .str k.wd ∧ NewR CK H Q k s g z
def spNB : Sp := fun vs H Q _ => ∃ i b : Int, vs = [.int i, .int b] ∧ 0 ≤ i ∧ i < b ∧ Q (.bl true) H
def spRS (K : PySem.W.Frag) : Sp := fun vs H Q _ => ∃ (k : Kd) (z : Addr) (p : Mq.Q2), vs = [.str k.wd, .ref z] ∧ Fq K H z p ∧ Mq.Low p ∧ (k = .pc → 0 < p.1) ∧ Mq.Bd 100 p ∧ Q .non H
def spMany (CN : Addr) (K : PySem.W.Frag) : Sp := fun vs H Q _ => ∃ (n l : Addr) (m : Int) (ds : List RD), vs = [.ref n] ∧ NetAt CN K H n l m ds ∧ Q (.int m) H
def spNTold (CN : Addr) (K : PySem.W.Frag) : Sp := fun vs H Q _ => ∃ (n l : Addr) (m : Int) (ds : List RD), vs = [.ref n] ∧ NetAt CN K H n l m ds ∧ ∀ a ts H', Same H H' → H a = none → H' a = some (.lst ts) → Rts K H' ts ds → Q (.ref a) H'
def spAdd (CN : Addr) (K : PySem.W.Frag) (CK : Kd → Addr) : Sp := fun vs H Q _ => ∃ (n l x z : Addr) (m : Int) (ds : List RD) (k : Kd) (i j : Int) (p : Mq.Q2), vs = [.ref n, .ref x] ∧ NetAt CN K H n l m ds ∧ Rw CK H x k (.int i) (.int j) (.ref z) ∧ Fq K H z p ∧ RdOk m (k, i, j, p) ∧ ds.length < 40 ∧
  ∀ H', SameX l H H' → NetAt CN K H' n l m (ds ++ [(k, i, j, p)]) → Q (.int ds.length) H'
end L2

set_option Elab.async false
set_option linter.all false
set_option maxRecDepth 100000
set_option maxHeartbeats 2000000
namespace L2
open PySem PySem.Spec PyProof.Rows
section
variable {K : PySem.W.Frag} {H H' : Hp} {l r : Addr} {as bs : List V}
end
section
variable {CN : Addr} {K : PySem.W.Frag} {H H' : Hp} {N R : Addr} {rs : List NR}
end
theorem cut2 {a1 a2 u : TS} {D : Ends} {σ : St} {H : Hp} (P : St → Hp → Prop) (h1 : ∀ X : St → Hp → Prop, (∀ σ' H', P σ' H' → X σ' H') → (tSeq a1 (a2)) { D with nx := X } σ H) (h2 : ∀ σ' H', P σ' H' → u D σ' H') : (tSeq a1 (tSeq a2 (u))) D σ H := h1 _ h2
theorem cut3 {a1 a2 a3 u : TS} {D : Ends} {σ : St} {H : Hp} (P : St → Hp → Prop) (h1 : ∀ X : St → Hp → Prop, (∀ σ' H', P σ' H' → X σ' H') → (tSeq a1 (tSeq a2 (a3))) { D with nx := X } σ H) (h2 : ∀ σ' H', P σ' H' → u D σ' H') : (tSeq a1 (tSeq a2 (tSeq a3 (u)))) D σ H := h1 _ h2
theorem cut4 {a1 a2 a3 a4 u : TS} {D : Ends} {σ : St} {H : Hp} (P : St → Hp → Prop) (h1 : ∀ X : St → Hp → Prop, (∀ σ' H', P σ' H' → X σ' H') → (tSeq a1 (tSeq a2 (tSeq a3 (a4)))) { D with nx := X } σ H) (h2 : ∀ σ' H', P σ' H' → u D σ' H') : (tSeq a1 (tSeq a2 (tSeq a3 (tSeq a4 (u))))) D σ H := h1 _ h2
theorem cut_intsN (ns : List Int) (lo hi : Option Int) : ∃ ms : List Int, cutV (ns.map V.int) lo hi = ms.map V.int :=
  ⟨(ns.drop (HT.sIx (ns.map V.int).length 0 lo)).take (HT.sIx (ns.map V.int).length (ns.map V.int).length hi - HT.sIx (ns.map V.int).length 0 lo), by unfold cutV; rw [List.map_take, List.map_drop]⟩
end L2

set_option linter.all false
namespace Mq
structure Ps (p : Q2) : Prop where
  low : Low p
  pos : 0 < p.1
theorem red_pos {t b : Int} (ht : 0 < t) (hb : 0 < b) : 0 < (red t b).1 := by
  have h1 := red_cross (t := t) (b := b) (by omega)
  have h2 := (red_low (t := t) (b := b) (by omega)).pos
  have h3 : 0 < t * (red t b).2 := Int.mul_pos ht (by omega)
  rw [← h1] at h3
  exact Int.pos_of_mul_pos_left h3 (by omega)
theorem red_ps {t b : Int} (ht : 0 < t) (hb : 0 < b) : Ps (red t b) := ⟨red_low (by omega), red_pos ht hb⟩
end Mq

set_option linter.all false
namespace Mq
abbrev z0 : Q2 := (0, 1)
abbrev Row := Nat × Nat × Q2
end Mq

set_option linter.all false
namespace Mq
end Mq

set_option Elab.async false
set_option linter.all false
set_option maxRecDepth 100000
set_option maxHeartbeats 2000000
namespace L2
open PySem PySem.Spec PyProof.Rows
section
variable {M : Model} {A : Around} {E : Value → Shared → Prop} {s : Shared}
end
abbrev compEnv1 (scope : Scope) (cl : List (Str × Addr)) (x0 : Str) (C : Addr) (env : Env) : Env := { compEnvC scope cl C env with cells := (x0, C + 1) :: cl }
abbrev compCx1 (X : Cx) (scope : Scope) (cl : List (Str × Addr)) (x0 : Str) (Nc : List Str) (C : Addr) (s3 : Shared) (H3 : Hp) (fp : List Addr) (pins : List (Addr × Obj)) : Cx :=
  { X with N := Nc, s₀ := s3, H₀ := H3, env := compEnv1 scope cl x0 C X.env, outer := X.stack, ex := fp, fn := fun x => x == x0, pn := X.pn ++ pins, xe := fun _ _ => False }
section
variable {X : Cx} {scope : Scope} {cl : List (Str × Addr)} {x0 : Str} {Nc : List Str} {nl : Nat} {fr : List Nat} {pins : List (Addr × Obj)} {σ : St} {H3 : Hp} {s3 : Shared} {fp : List Addr} {h4 : Heap} {tk : Nat}
end
section
variable {X : Cx} {scope : Scope} {cl : List (Str × Addr)} {x0 : Str} {Nc : List Str} {nl : Nat} {fr : List Nat} {elt tg iter : Expr} {ifs : List Expr} {pos : Pos} {wi : TI} {g : TG} {tt : TT} {te : TE}
end
end L2

set_option Elab.async false
set_option linter.all false
set_option maxRecDepth 100000
set_option maxHeartbeats 2000000
namespace L2
open PySem PySem.Spec PyProof.Rows
section
variable {X : Cx}
end
end L2
namespace L2
open PySem PySem.Spec PyProof.Rows
end L2
namespace L2
open PySem PySem.Spec PyProof.Rows
end L2
namespace L2
open PySem PySem.Spec PyProof.Rows
end L2

set_option Elab.async false
set_option linter.all false
set_option maxRecDepth 100000
set_option maxHeartbeats 2000000
namespace L2
open PySem PySem.Spec PyProof.Rows
section
variable {X : Cx}
end
end L2

set_option Elab.async false
set_option linter.all false
namespace L2
open PySem PySem.Spec PyProof.Rows
end L2

set_option Elab.async false
set_option linter.all false
set_option maxRecDepth 100000
set_option maxHeartbeats 4000000
namespace Shp
open PySem L2
end Shp

set_option Elab.async false
set_option linter.all false
set_option maxRecDepth 100000
set_option maxHeartbeats 4000000
namespace Shp
open PySem L2
end Shp

set_option linter.all false
namespace Mq
abbrev Mat := Nat → Nat → Rat
end Mq

set_option linter.all false
namespace Mq
section
variable {m : Nat} {A E : Mat} {r col : Nat} {d : Rat} {c : Nat → Nat}
end
end Mq

set_option linter.all false
namespace Mq
end Mq

set_option Elab.async false
set_option linter.all false
set_option maxRecDepth 100000
set_option maxHeartbeats 4000000
namespace Shp
open PySem L2
end Shp
namespace L2
open PySem
end L2

set_option linter.all false
set_option maxHeartbeats 1000000
namespace Mq
end Mq

set_option Elab.async false
set_option linter.all false
set_option maxRecDepth 100000
set_option maxHeartbeats 2000000
namespace PySem
open Sem (wp)
section
variable {prog : Program} {w : World} {A : Around} {E : Value → Shared → Prop} {h : Heap} {g : Array GenState} {d : Drawn} {t : Nat} {os : OsState}
variable {nm q : Str} {C N f : Addr} {bs bm bmB : List Value} {hdct : Bool} {sn : List Str} {sub : List Value} {ab : Bool} {col : Option Bool} {dd : Option Addr} {k0 k1 k2 k3 k5 : Option Value} {B Bn newId nid initId inN : String} {bmN : List Value}
abbrev newExcHeap (h : Heap) (C : Addr) (rest : List Value) : Heap := (h.push { cls := .type "tuple", data := .seq rest.toArray }).push { cls := .ref C, data := .fields #[.ref h.objs.size, .none, .none, .none, .bool false, .none] }
end
section
variable {M : Model} {A : Around} {E : Value → Shared → Prop} {env : Env}
variable {nm q : Str} {C N : Addr} {bs bm : List Value} {hdct : Bool} {sn : List Str} {sub : List Value} {ab : Bool} {col : Option Bool} {dd : Option Addr} {k0 k1 k2 k3 k5 : Option Value} {newId : String}
end
section
variable {prog : Program} {w : World} {A : Around} {E : Value → Shared → Prop} {s : Shared} {env : Env}
variable {nm q : Str} {C N f : Addr} {bs bm bmB : List Value} {hdct : Bool} {sn : List Str} {sub : List Value} {ab : Bool} {col : Option Bool} {dd : Option Addr} {k0 k1 k2 k3 k5 : Option Value} {B Bn newId nid initId inN : String} {bmN : List Value}
end
end PySem

set_option Elab.async false
set_option linter.all false
set_option maxRecDepth 100000
set_option maxHeartbeats 2000000
namespace L2
open PySem PySem.Spec PyProof.Rows
section
variable {X : Cx} {pins : List (Addr × Obj)} {σ : List (Option V)} {H : Hp} {s : Shared}
end
section
variable {X : Cx} {pins : List (Addr × Obj)} {σ : List (Option V)} {H : Hp} {s : Shared} {k : Nat} {f C C0 : Addr} {fd : FuncData} {ps : List Str} {sp : Sp}
end
end L2

set_option Elab.async false
set_option linter.all false
set_option maxRecDepth 100000
set_option maxHeartbeats 2000000
namespace L2
open PySem PySem.Spec PyProof.Rows
section
variable {X : Cx} {C C0 f : Addr}
end
section
variable {prog : Program} {w : World} {A : Around} {E : Value → Shared → Prop} {s : Shared} {K : PySem.W.Frag} {x C C0 f : Addr} {name : Str} {v : Value} {vs : Array Value}
end
section
variable {X : Cx} {o value : Expr} {nm : Str} {pos pos' : Pos} {ta tv : TE}
end
section
variable {X : Cx} {o : Expr} {nm : Str} {pos : Pos} {ta : TE}
end
end L2

set_option Elab.async false
set_option linter.all false
set_option maxRecDepth 100000
set_option maxHeartbeats 4000000
namespace Shp
open PySem L2
end Shp
namespace L2
open PySem
end L2

set_option linter.all false
set_option maxHeartbeats 2000000
namespace Mq
end Mq

set_option Elab.async false
set_option linter.all false
set_option maxRecDepth 100000
set_option maxHeartbeats 4000000
namespace L2
open PySem
end L2
namespace Mq
end Mq
namespace Shp
open PySem L2
end Shp

set_option linter.all false
set_option maxHeartbeats 1000000
namespace Mq
end Mq

set_option Elab.async false
set_option linter.all false
set_option maxRecDepth 100000
set_option maxHeartbeats 4000000
namespace Shp
open PySem L2
section
variable {X : List (List Mq.Q2)} {qs : List Mq.Q2}
end
end Shp

set_option linter.all false
set_option maxHeartbeats 1000000
namespace Mq
section
variable {m : Nat} {A E : Mat} {r col : Nat} {d : Rat} {c : Nat → Nat} {n : Nat}
end
end Mq

set_option Elab.async false
set_option linter.all false
set_option maxRecDepth 100000
set_option maxHeartbeats 4000000
namespace Shp
open PySem L2
abbrev bq (n m : Nat) : Nat := (n + 4) * (m + 1) + 7
end Shp

set_option Elab.async false
set_option linter.all false
set_option maxRecDepth 100000
set_option maxHeartbeats 4000000
namespace L2
open PySem PyProof.Rows
theorem FnOk.calm {P : Program} {w : World} {K : PySem.W.Frag} {mg : Str → Option Value} {base : Heap} {k : Nat} {f : Addr} {fd : FuncData} {ps : List Str} {sp : Sp} (F : FnOk P w K mg base (CX1 P w) k f fd ps sp) :
    FnOk P w K mg base CX0 k f fd ps (fun vs H Q _ => sp vs H Q (fun _ _ _ => False)) :=
  ⟨fun vs H Q E q => F.len vs H Q _ q, fun A outer s H args us vs Q E hr he hb hv hs => codeAny_mono (F.run A outer s H args us vs Q _ hr he hb hv hs) fun r s' h => by
    cases r with
    | ok fl => cases fl <;> exact h
    | error e =>
      obtain ⟨a, C, d, H', _, _, _, _, _, _, z⟩ := h
      exact z.elim⟩
end L2

set_option Elab.async false
set_option linter.all false
set_option maxRecDepth 100000
set_option maxHeartbeats 2000000
namespace L2
open PySem PySem.Spec PyProof.Rows
section
variable {X : Cx} {k : Nat} {f C : Addr} {fd : FuncData} {ps : List Str} {sp : Sp} {dvs : List V} {ds : List Value} {x : Str} {p pos : Pos} {e : Expr} {es : List Expr} {t : TA}
end
theorem FnOk.weak {P : Program} {w : World} {K : PySem.W.Frag} {mg : Str → Option Value} {base : Heap} {CX : CXT} {k : Nat} {f : Addr} {fd : FuncData} {ps : List Str} {sp sp' : Sp} (F : FnOk P w K mg base CX k f fd ps sp) (h : ∀ vs H Q E, sp' vs H Q E → sp vs H Q E) : FnOk P w K mg base CX k f fd ps sp' :=
  ⟨fun vs H Q E q => F.len vs H Q E (h _ _ _ _ q), fun A outer s H args us vs Q E hr he hb hv hs => F.run A outer s H args us vs Q E hr he hb hv (h _ _ _ _ hs)⟩
abbrev PtOk (m i j : Int) : Prop := 0 ≤ i ∧ i < m ∧ 0 ≤ j ∧ j < m
def BadM (K : PySem.W.Frag) (H : Hp) (v : V) : Prop := (∃ m : Int, v = .int m ∧ (m < 1 ∨ 20 < m)) ∨ ∃ t, TyOf K H v t ∧ NotWhole t
def spNInitX (CN : Addr) (K : PySem.W.Frag) (CP : Addr) : Sp := fun vs H Q E => ∃ (n dx : Addr) (v : V), vs = [.ref n, v] ∧ H n = some (.ins CN dx []) ∧ ((∃ m : Int, v = .int m ∧ 1 ≤ m ∧ m ≤ 20 ∧ ∀ l H', H l = none → (∀ b o, H b = some o → b ≠ n → H' b = some o) → H' n = some (.ins CN dx (nflds m l)) → H' l = some (.lst []) → Q .non H') ∨ (BadM K H v ∧ E (.ref CP) none H))
end L2

set_option Elab.async false
set_option linter.all false
set_option maxRecDepth 100000
set_option maxHeartbeats 2000000
namespace L2
open PySem PySem.Spec PyProof.Rows
inductive Zv (K : PySem.W.Frag) (H : Hp) : V → Option Mq.Q2 → Prop where
  | fr {u : Addr} {p : Mq.Q2} (h : Fq K H u p) (l : Mq.Low p) : Zv K H (.ref u) (some p)
  | ty {v : V} {t : Value} (h : TyQ K H v t) (n : PySem.W.kitOne K t (.type "tuple") = some false) : Zv K H v none
  | len {u : Addr} {x y z : V} (h : SqT K H u [x, y, z]) : Zv K H (.ref u) none
  | n0 {u : Addr} {x y : V} {t : Value} (h : SqT K H u [x, y]) (ty : TyOf K H x t) (n : NotWhole t) : Zv K H (.ref u) none
  | n1 {u : Addr} {i : Int} {y : V} {t : Value} (h : SqT K H u [.int i, y]) (ty : TyOf K H y t) (n : NotWhole t) : Zv K H (.ref u) none
  | fb {u : Addr} {p : Mq.Q2} (h : Fq K H u p) (c : p.2 < 1 ∨ (1 ≤ p.2 ∧ Mq.gc p.1 p.2 ≠ 1)) : Zv K H (.ref u) none
def okz (k : Kd) (o : Option Mq.Q2) : Bool := match o with
  | none => false
  | some p => match k with
    | .pc => decide (0 < p.1)
    | _ => true
abbrev Bz (o : Option Mq.Q2) : Prop := ∀ p, o = some p → Mq.Bd 100 p
def spIsFV (K : PySem.W.Frag) : Sp := fun vs H Q _ => ∃ (v : V) (o : Option Mq.Q2), vs = [v] ∧ Zv K H v o ∧ Q (.bl o.isSome) H
def spPSV (K : PySem.W.Frag) : Sp := fun vs H Q _ => ∃ (v : V) (o : Option Mq.Q2), vs = [v] ∧ Zv K H v o ∧ Bz o ∧ Q (.bl (okz .pc o)) H
def spRSV (K : PySem.W.Frag) (CZ : Addr) : Sp := fun vs H Q E => ∃ (k : Kd) (v : V) (o : Option Mq.Q2), vs = [.str k.wd, v] ∧ Zv K H v o ∧ Bz o ∧ (okz k o = true → Q .non H) ∧ (okz k o = false → E (.ref CZ) none H)
section
variable {CK : Kd → Addr} {K : PySem.W.Frag} {H H' : Hp}
end
end L2

set_option Elab.async false
set_option linter.all false
namespace L2
open PySem PySem.Spec PyProof.Rows
section
variable {X : Cx}
end
end L2

set_option Elab.async false
set_option linter.all false
set_option maxRecDepth 100000
namespace L2
open PySem
def pfl (l : Addr) (e : Int) (t p : Addr) : List (Str × V) := [("labels", .ref l), ("end_count", .int e), ("entries", .ref t), ("put_names", .ref p)]
def yfl (g d : Addr) (o q : V) : List (Str × V) := [("ground", .ref g), ("parts", .ref d), ("opened", o), ("opened_plan", q)]
theorem pfl_make (l : Addr) (e : Int) (t p : Addr) : putF "put_names" (.ref p) (putF "entries" (.ref t) (putF "end_count" (.int e) (putF "labels" (.ref l) []))) = pfl l e t p := by with_unfolding_all rfl
theorem pfl_en (l : Addr) (e : Int) (t p t' : Addr) : putF "entries" (.ref t') (pfl l e t p) = pfl l e t' p := by with_unfolding_all rfl
theorem pfl_pn (l : Addr) (e : Int) (t p p' : Addr) : putF "put_names" (.ref p') (pfl l e t p) = pfl l e t p' := by with_unfolding_all rfl
theorem pfl_l (l : Addr) (e : Int) (t p : Addr) : (pfl l e t p).lookup ("labels" : Str) = some (.ref l) := by with_unfolding_all rfl
theorem pfl_e (l : Addr) (e : Int) (t p : Addr) : (pfl l e t p).lookup ("end_count" : Str) = some (.int e) := by with_unfolding_all rfl
theorem pfl_t (l : Addr) (e : Int) (t p : Addr) : (pfl l e t p).lookup ("entries" : Str) = some (.ref t) := by with_unfolding_all rfl
theorem pfl_p (l : Addr) (e : Int) (t p : Addr) : (pfl l e t p).lookup ("put_names" : Str) = some (.ref p) := by with_unfolding_all rfl
theorem yfl_make (g d : Addr) (o q : V) : putF "opened_plan" q (putF "opened" o (putF "parts" (.ref d) (putF "ground" (.ref g) []))) = yfl g d o q := by with_unfolding_all rfl
theorem yfl_gr (g d g' : Addr) (o q : V) : putF "ground" (.ref g') (yfl g d o q) = yfl g' d o q := by with_unfolding_all rfl
theorem yfl_g (g d : Addr) (o q : V) : (yfl g d o q).lookup ("ground" : Str) = some (.ref g) := by with_unfolding_all rfl
theorem yfl_o (g d : Addr) (o q : V) : (yfl g d o q).lookup ("opened" : Str) = some o := by with_unfolding_all rfl
structure PlT (K : PySem.W.Frag) (mg : Str → Option Value) (CP : Addr) : Prop where
  cl : Cls K CP
  nl : NoAttr K CP "labels"
  ne : NoAttr K CP "end_count"
  nt : NoAttr K CP "entries"
  np : NoAttr K CP "put_names"
  mP : mg "Plan" = some (.ref CP)
structure YaT (K : PySem.W.Frag) (mg : Str → Option Value) (CY : Addr) : Prop where
  cl : Cls K CY
  ng : NoAttr K CY "ground"
  nd : NoAttr K CY "parts"
  no : NoAttr K CY "opened"
  nq : NoAttr K CY "opened_plan"
  mY : mg "Yard" = some (.ref CY)
structure PlAt (CP : Addr) (H : Hp) (g l : Addr) (e : Int) (t p : Addr) (ls : List Str) (es ps : List V) : Prop where
  ob : ∃ dg, H g = some (.ins CP dg (pfl l e t p))
  hl : H l = some (.lst (ls.map V.str))
  ht : H t = some (.lst es)
  hp : H p = some (.lst ps)
  lt : l ≠ t
  lp : l ≠ p
  tp : t ≠ p
theorem PlAt.same {CP : Addr} {H H' : Hp} {g l t p : Addr} {e : Int} {ls : List Str} {es ps : List V} (s : Same H H') (h : PlAt CP H g l e t p ls es ps) : PlAt CP H' g l e t p ls es ps :=
  let ⟨⟨dg, o⟩, a, b, c, x, y, z⟩ := h; ⟨⟨dg, s _ _ o⟩, s _ _ a, s _ _ b, s _ _ c, x, y, z⟩
end L2

set_option Elab.async false
set_option linter.all false
set_option maxRecDepth 100000
set_option maxHeartbeats 4000000
namespace K82
open PySem L2 Tx
def top (i : Nat) : Stmt := PySem.Challenge.pw_ohmyard_k82_rows_told.main.body.getD i (.Pass ⟨0, 0, 0, 0⟩)
section
variable {P : Program} {w : World} {K : PySem.W.Frag} {mg : Str → Option Value} {base : Heap} {f g1 g2 g3 g4 g5 g6 g7 g8 : Addr} {fd gd1 gd2 gd3 gd4 gd5 gd6 gd7 gd8 : FuncData} {CX : CXT}
abbrev sWhole : Stmt := top 12
theorem scWhole : FnScope ["thing"] ["thing"] (defScope sWhole) := ⟨rfl, rfl, rfl, by decide +kernel, rfl, by decide +kernel, by decide +kernel⟩
theorem ok_whole {dV : Value} (F : FunD K "is_whole" "is_whole" sWhole dV f fd) (b : Bl mg) : FnOk P w K mg base CX 1 f fd ["thing"] (spWhole K) := by
  refine F.ok scWhole (fun vs H Q E h => ?_) (fun cdv A outer s H vs Q E hr h => ?_)
  · obtain ⟨x, rfl, _⟩ := h
    rfl
  obtain ⟨x, rfl, h⟩ := h
  refine ⟨_, pss_one (ps_ret (pe_and (pe_isiQ (i := 0) rfl (Or.inl rfl) b.isi b.int rfl rfl PyProof.Rows.boot_int) (pe_one (pe_not (pe_isiQ (i := 0) rfl (Or.inl rfl) b.isi b.bool rfl rfl PyProof.Rows.boot_bool))))), ?_⟩
  rcases h with ⟨i, rfl, q⟩ | ⟨t, ty, nw, q⟩
  · exact ⟨_, _, _, rfl, .of (.int i), rfl, _, rfl, iteT ⟨_, _, false, rfl, .of (.int i), (by with_unfolding_all rfl), _, rfl, q⟩⟩
  · rcases nw with rfl | rfl | rfl | rfl | rfl
    · exact ⟨_, _, true, rfl, .of ty, (by with_unfolding_all rfl), _, rfl, iteT ⟨_, _, _, rfl, .of ty, rfl, _, rfl, q⟩⟩
    all_goals exact ⟨_, _, false, rfl, .of ty, (by with_unfolding_all rfl), _, rfl, iteF q⟩
abbrev sGc : Stmt := top 14
theorem scGc : FnScope ["one", "other", "rest"] ["one", "other"] (defScope sGc) := ⟨rfl, rfl, rfl, by decide +kernel, rfl, by decide +kernel, by decide +kernel⟩
theorem ok_gc {dV : Value} (F : FunD K "greatest_common" "greatest_common" sGc dV f fd) (b : Bl mg) : FnOk P w K mg base CX 1 f fd ["one", "other"] spGc := by
  refine F.ok scGc (fun vs H Q E h => ?_) (fun cdv A outer s H vs Q E hr h => ?_)
  · obtain ⟨x, y, rfl, _⟩ := h
    rfl
  obtain ⟨x, y, rfl, q⟩ := h
  refine ⟨_, pss_cons (ps_while PassesOwn.never (pt_cmpR op_ne (pv 1) pe_int (nomark _)) (pss_cons (ps_set (i := 2) scGc.nd rfl (Or.inl rfl) (pe_op op_modN (pv 0) (pv 1)))
    (pss_cons (ps_set (i := 0) scGc.nd rfl (Or.inl rfl) (pv 1)) (pss_one (ps_set (i := 1) scGc.nd rfl (Or.inl rfl) (pv 2))))))
    (pss_one (ps_ret (pe_callB call_abs rfl b.abs PyProof.Rows.boot_abs (pa_cons (pv 0) pa_nil)))), ?_⟩
  refine while_by (fun σ H' => H' = H ∧ ∃ u v z, σ = [some (.int u), some (.int v), z] ∧ Mq.gc u v = Mq.gc x y) (fun σ _ => match σ with | [_, some (.int v), _] => v.natAbs | _ => 0) ⟨rfl, x, y, none, rfl, rfl⟩ ?_ ?_
  · rintro σ H' ⟨rfl, u, v, z, rfl, e⟩
    refine ⟨_, rfl, rfl, _, rfl, ?_⟩
    refine ite2 (fun c => ?_) (fun c => ?_)
    · have hv : v ≠ 0 := by intro q; subst q; simp at c
      refine ⟨_, rfl, _, rfl, _, _, rfl, rfl, hv, _, rfl, _, rfl, ⟨rfl, v, Int.fmod u v, _, rfl, (Mq.gc_step u v).trans e⟩, Mq.fmod_less hv⟩
    · have hv : v = 0 := by
        simp at c
        exact c
      subst hv
      refine ⟨_, rfl, _, rfl, ?_⟩
      rw [← Mq.gc_zero, e]
      exact q
  · rintro σ H Q Q' m ⟨v, h1, h2, k, h3, h4⟩
    exact ⟨v, h1, h2, k, h3, m _ _ h4⟩
abbrev sUnder : Stmt := top 16
theorem scUnder : FnScope ["one", "other"] ["one", "other"] (defScope sUnder) := ⟨rfl, rfl, rfl, by decide +kernel, rfl, by decide +kernel, by decide +kernel⟩
theorem ok_under {dV : Value} (F : FunD K "under" "under" sUnder dV f fd) : FnOk P w K mg base CX 1 f fd ["one", "other"] (spUnder K) := by
  refine F.ok scUnder (fun vs H Q E h => ?_) (fun cdv A outer s H vs Q E hr h => ?_)
  · obtain ⟨a, b, p, q, n, m, rfl, _⟩ := h
    rfl
  obtain ⟨a, b, p, q, n, m, rfl, ha, hb, bp, bq, hn, z⟩ := h
  refine ⟨_, pss_one (ps_ret (pe_cmpR op_lt (pe_op op_mulB (pe_ix ix_tup (pv 0) pe_int (fun _ _ => rfl)) (pe_ix ix_tup (pv 1) pe_int (fun _ _ => rfl))) (pe_op op_mulB (pe_ix ix_tup (pv 1) pe_int (fun _ _ => rfl)) (pe_ix ix_tup (pv 0) pe_int (fun _ _ => rfl))) (nomark _))), ?_⟩
  exact rd_ix0 rfl ha (rd_ix1 rfl hb (rd_mulB bp.a bq.b (by omega) (by omega) (rd_ix0 rfl hb (rd_ix1 rfl ha (rd_mulB bq.a bp.b (by omega) (by omega) ⟨_, _, rfl, rfl, z⟩)))))
abbrev sFrac : Stmt := top 15
theorem scFrac : FnScope ["top", "bottom", "shared"] ["top", "bottom"] (defScope sFrac) := ⟨rfl, rfl, rfl, by decide +kernel, rfl, by decide +kernel, by decide +kernel⟩
theorem ok_frac {dV : Value} {CN : Addr} (F : FunD K "fraction" "fraction" sFrac dV f fd)
    (G1 : FnOk P w K mg base CX0 1 g1 gd1 ["thing"] (spWhole K)) (b1 : Binds K gd1 ["thing"] []) (k1 : PySem.W.keepIn K (.ref g1) = true) (m1 : mg "is_whole" = some (.ref g1))
    (G2 : FnOk P w K mg base CX0 1 g2 gd2 ["one", "other"] spGc) (b2 : Binds K gd2 ["one", "other"] []) (k2 : PySem.W.keepIn K (.ref g2) = true) (m2 : mg "greatest_common" = some (.ref g2))
    (mN : mg "NoNumber" = some (.ref CN)) (xN : ExcC K CN) :
    FnOk P w K mg base (CX1 P w) 2 f fd ["top", "bottom"] (spFracX K CN) := by
  refine F.okX scFrac (fun vs H Q E h => ?_) (fun cdv A outer s H vs Q E hr h => ?_)
  · obtain ⟨x, y, rfl, _⟩ := h
    rfl
  obtain ⟨x, y, rfl, h⟩ := h
  refine ⟨_, pss_cons (ps_if (PW.pt (pw_or (pt_not (pt_val (pe_call G1 hr rfl m1 k1 b1 .nil pass0 (pa_cons (pv 0) pa_nil)))) (pw_or (pt_not (pt_val (pe_call G1 hr rfl m1 k1 b1 .nil pass0 (pa_cons (pv 1) pa_nil)))) (pw_or1 (pt_cmpR op_eq (pv 1) pe_int (nomark _)))))) (pss_one (ps_raise frm_cxOf xe_cxOf rfl rfl mN xN (pa_cons pe_str pa_nil))) pss_nil)
    (pss_cons (ps_set (i := 2) scFrac.nd rfl (Or.inl rfl) (pe_call G2 hr rfl m2 k2 b2 .nil pass0 (pa_cons (pv 0) (pa_cons (pv 1) pa_nil))))
    (pss_cons (ps_if (pt_cmpR op_lt (pv 1) pe_int (nomark _)) (pss_one (ps_set (i := 2) scFrac.nd rfl (Or.inl rfl) (pe_un un_neg (pv 2)))) pss_nil)
    (pss_one (ps_ret (pe_tup (pa_cons (pe_op op_fdivB (pv 0) (pv 2)) (pa_cons (pe_op op_fdivB (pv 1) (pv 2)) pa_nil))))))), ?_⟩
  have one : ([V.str "a fraction is made of two whole numbers, the second not 0"] : List V).length ≤ sizeLine := by show 1 ≤ sizeLine; decide
  rcases h with ⟨t, b, n, rfl, rfl, hb, hB, hn, q⟩ | ⟨h, q⟩
  · have hd := Mq.dvr_ne (t := t) hb
    have hdB : Mq.B n (Mq.dvr t b) := hB.le (Mq.dvr_le hb)
    have c0 : decide (V.int b = V.int 0) = false := decide_eq_false (fun z => hb (by cases z; rfl))
    refine ⟨_, rfl, _, rfl, .inl ⟨t, rfl, _, rfl, iteF ⟨_, rfl, _, rfl, .inl ⟨b, rfl, _, rfl, iteF ⟨_, rfl, rfl, _, rfl, ?_⟩⟩⟩⟩⟩
    rw [c0]
    refine iteF ⟨_, rfl, _, rfl, t, b, rfl, ?_⟩
    refine ⟨_, rfl, _, _, rfl, rfl, _, rfl, ?_⟩
    refine ite2 (fun c => ?_) (fun c => ?_)
    · have hlt : b < 0 := of_decide_eq_true c
      have e : Mq.dvr t b = -Mq.gc t b := by unfold Mq.dvr; rw [if_pos hlt]
      rw [e] at hd hdB
      have q' : NewF H Q (t.fdiv (-Mq.gc t b), b.fdiv (-Mq.gc t b)) := by
        have z := q
        unfold Mq.red at z
        rw [e] at z
        exact z
      refine ⟨_, rfl, _, rfl, ?_⟩
      refine ⟨_, rfl, _, rfl, ?_⟩
      refine rd_fdivB hd hdB hn ⟨_, rfl, _, rfl, rd_fdivB hd hdB hn ⟨by show 2 ≤ sizeLine; decide, fun p hp => ?_⟩⟩
      exact q' p _ (same_new hp _) upd_same
    · have hlt : ¬ b < 0 := fun z => c (decide_eq_true z)
      have e : Mq.dvr t b = Mq.gc t b := by unfold Mq.dvr; rw [if_neg hlt]
      rw [e] at hd hdB
      have q' : NewF H Q (t.fdiv (Mq.gc t b), b.fdiv (Mq.gc t b)) := by
        have z := q
        unfold Mq.red at z
        rw [e] at z
        exact z
      refine ⟨_, rfl, _, rfl, ?_⟩
      refine rd_fdivB hd hdB hn ⟨_, rfl, _, rfl, rd_fdivB hd hdB hn ⟨by show 2 ≤ sizeLine; decide, fun p hp => ?_⟩⟩
      exact q' p _ (same_new hp _) upd_same
  · rcases h with ⟨t, ty, nw⟩ | ⟨⟨t, rfl⟩, ⟨t', ty, nw⟩ | rfl⟩
    · exact ⟨_, rfl, _, rfl, .inr ⟨t, ty, nw, _, rfl, iteT ⟨one, q⟩⟩⟩
    · exact ⟨_, rfl, _, rfl, .inl ⟨t, rfl, _, rfl, iteF ⟨_, rfl, _, rfl, .inr ⟨t', ty, nw, _, rfl, iteT ⟨one, q⟩⟩⟩⟩⟩
    · exact ⟨_, rfl, _, rfl, .inl ⟨t, rfl, _, rfl, iteF ⟨_, rfl, _, rfl, .inl ⟨0, rfl, _, rfl, iteF ⟨_, rfl, rfl, _, rfl, iteT ⟨one, q⟩⟩⟩⟩⟩⟩
abbrev sShow : Stmt := top 20
theorem scShow : FnScope ["one"] ["one"] (defScope sShow) := ⟨rfl, rfl, rfl, by decide +kernel, rfl, by decide +kernel, by decide +kernel⟩
theorem ok_show {dV : Value} (F : FunD K "show" "show" sShow dV f fd) (ms : mg "str" = none) (nd : PySem.W.nsIn K cStatics "sys.int_max_str_digits" = some none) : FnOk P w K mg base CX 1 f fd ["one"] (spShow K) := by
  refine F.ok scShow (fun vs H Q E h => ?_) (fun cdv A outer s H vs Q E hr h => ?_)
  · obtain ⟨a, p, n, rfl, _⟩ := h
    rfl
  obtain ⟨a, p, n, rfl, hF, hB, hn, q⟩ := h
  refine ⟨_, pss_cons (ps_if (pt_cmpR op_eq (pe_ix ix_tup (pv 0) pe_int (fun _ _ => rfl)) pe_int (nomark _)) (pss_one (ps_ret (pe_callTy (call_strB rfl nd) rfl ms PyProof.Rows.boot_str (pa_cons (pe_ix ix_tup (pv 0) pe_int (fun _ _ => rfl)) pa_nil)))) pss_nil)
    (pss_one (ps_ret (pe_op op_add_str (pe_op op_add_str (pe_callTy (call_strB rfl nd) rfl ms PyProof.Rows.boot_str (pa_cons (pe_ix ix_tup (pv 0) pe_int (fun _ _ => rfl)) pa_nil)) pe_str) (pe_callTy (call_strB rfl nd) rfl ms PyProof.Rows.boot_str (pa_cons (pe_ix ix_tup (pv 0) pe_int (fun _ _ => rfl)) pa_nil))))), ?_⟩
  have hz : sizeLine = 16777216 := sizeLine_eq
  have l1 := itx_len hB.a hn
  have l2 := itx_len hB.b hn
  refine rd_ix1 rfl hF ⟨rfl, _, rfl, ?_⟩
  by_cases e : p.2 = 1
  · rw [decide_eq_true (show V.int p.2 = V.int 1 by rw [e])]
    refine iteT (rd_ix0 rfl hF ⟨p.1, n, rfl, hB.a, hn, ?_⟩)
    rw [str_int]
    unfold shw at q
    rw [if_pos e] at q
    exact q
  · rw [decide_eq_false (fun z => e (by injection z))]
    refine iteF (rd_ix0 rfl hF ⟨p.1, n, rfl, hB.a, hn, ⟨_, _, rfl, rfl, ?_, ?_⟩⟩)
    · rw [str_int, S_len]
      have : ("/" : Str).length = 1 := by decide
      omega
    · refine rd_ix1 rfl hF ⟨p.2, n, rfl, hB.b, hn, _, _, rfl, rfl, ?_, ?_⟩
      · rw [str_int, str_int, show ("/" : Str) = S [47] by decide +kernel, S_app, S_len, S_len, List.length_append]
        simp only [List.length_cons, List.length_nil]
        omega
      · rw [str_int, str_int, show ("/" : Str) = S [47] by decide +kernel, S_app, S_app]
        unfold shw at q
        rw [if_neg e] at q
        rw [List.append_assoc]
        exact q
abbrev sNosign : Stmt := top 22
theorem scNosign : FnScope ["text"] ["text"] (defScope sNosign) := ⟨rfl, rfl, rfl, by decide +kernel, rfl, by decide +kernel, by decide +kernel⟩
theorem ok_nosign {dV : Value} (F : FunD K "without_sign" "without_sign" sNosign dV f fd) : FnOk P w K mg base CX 1 f fd ["text"] spNosign := by
  refine F.ok scNosign (fun vs H Q E h => ?_) (fun cdv A outer s H vs Q E hr h => ?_)
  · obtain ⟨cs, rfl, _⟩ := h
    rfl
  obtain ⟨cs, rfl, hl, q⟩ := h
  refine ⟨_, pss_cons (ps_if (pt_val (pe_bm PySem.F.plainAttrs_str PySem.F.slot_str_startswith PySem.F.type_str_startswith mt_startswith (pv 0) (pa_cons pe_str pa_nil))) (pss_one (ps_ret (pe_slice sl_str (pv 0) (po_some pe_int) po_none))) pss_nil)
    (pss_one (ps_ret (pv 0))), ?_⟩
  have hz : sizeLine = 16777216 := sizeLine_eq
  refine ⟨_, rfl, rfl, _, _, rfl, rfl, _, rfl, ?_⟩
  rw [show ("-" : Str) = ⟨#[45]⟩ by decide +kernel, starts_one]
  unfold nosign at q
  by_cases e : cs.head? = some 45
  · rw [decide_eq_true e]
    rw [if_pos e] at q
    refine iteT ⟨_, rfl, _, rfl, _, rfl, by rw [S_len]; omega, ?_⟩
    rw [show (1 : Int) = ((1 : Nat) : Int) from rfl, slice_from, List.drop_one]
    exact q
  · rw [decide_eq_false e]
    rw [if_neg e] at q
    exact iteF ⟨_, rfl, q⟩
abbrev sFigs : Stmt := top 23
theorem scFigs : FnScope ["text"] ["text"] (defScope sFigs) := ⟨rfl, rfl, rfl, by decide +kernel, rfl, by decide +kernel, by decide +kernel⟩
theorem ndFigs : (["sign"] : List Str).Nodup := by decide +kernel
theorem ok_figs {dV : Value} {tF tM : Tok} (F : FunD K "are_figures" "are_figures" sFigs dV f fd) (ml : mg "len" = none) (ma : mg "all" = none) (mF : mg "FIGURES" = some (.str "0123456789" tF)) (mM : mg "MOST_FIGURES" = some (.int 200 tM)) : FnOk P w K mg base CX 1 f fd ["text"] spFigs := by
  refine F.ok scFigs (fun vs H Q E h => ?_) (fun cdv A outer s H vs Q E hr h => ?_)
  · obtain ⟨cs, rfl, _⟩ := h
    rfl
  obtain ⟨cs, rfl, hl, q⟩ := h
  refine ⟨_, pss_cons (ps_if (PW.pt (pw_or (pt_cmpR op_lt (pe_callB call_len_str rfl ml PySem.boot_len (pa_cons (pv 0) pa_nil)) pe_int (nomark _)) (pw_or1 (pt_cmpR op_gt (pe_callB call_len_str rfl ml PySem.boot_len (pa_cons (pv 0) pa_nil)) (pe_glob (v := .int 200) rfl mM ⟨_, rfl⟩) (nomark _))))) (pss_one (ps_ret pe_bl)) pss_nil)
    (pss_one (ps_ret (pe_callB (call_all rfl) rfl ma PyProof.Rows.boot_all (pa_cons (pe_comp (nl := 1) (fr := []) (Nc := ["sign"]) (cl := []) rfl
        ⟨rfl, rfl, by decide +kernel, by decide +kernel, fun x c h => (nomatch h), has_of rfl, rfl, fun i n h => by rw [show 1 + i = i + 1 by omega] at h; cases h⟩
        (pi_str (pv 0)) (fun C s3 H3 fp pins => pg_name (i := 0) ndFigs rfl (Or.inl rfl)) (fun _ _ _ _ _ => pif_nil)
        (fun C s3 H3 fp pins => pe_cmpR op_in_str (pv 0) (pe_glob (v := .str "0123456789") rfl mF ⟨_, rfl⟩) rfl)) pa_nil)))), ?_⟩
  have hz : sizeLine = 16777216 := sizeLine_eq
  refine ⟨_, rfl, _, rfl, by rw [S_len]; omega, _, _, rfl, rfl, _, rfl, ?_⟩
  rw [S_len]
  have no : ¬ (1 ≤ cs.length ∧ cs.length ≤ 200) → Q (.bl false) H := fun c => by
    have := q H (Same.refl H)
    unfold figB at this
    rw [decide_eq_false c, Bool.false_and] at this
    exact this
  refine ite2 (fun c => ?_) (fun c => ?_)
  · have c' := of_decide_eq_true c
    exact no (by omega)
  have c1 : 1 ≤ cs.length := by
    simp only [decide_eq_true_eq] at c
    omega
  refine ⟨_, rfl, _, rfl, by rw [S_len]; omega, _, _, rfl, rfl, _, rfl, ?_⟩
  rw [S_len]
  refine ite2 (fun c => ?_) (fun c => ?_)
  · have c' := of_decide_eq_true c
    exact no (by omega)
  have c2 : cs.length ≤ 200 := by
    simp only [decide_eq_true_eq] at c
    omega
  refine ⟨_, rfl, _, rfl, fun D hD => ?_⟩
  have sD := same_new hD (.lst [])
  refine comp_str (fun i ys H' => Same H H' ∧ H' D = some (.lst ys) ∧ ys = (cs.take i).map (fun c => V.bl (digB c))) ⟨sD, upd_same, rfl⟩ (fun i ys H' h => h.2.1) ?_ ?_
  · rintro i ys c H1 hc ⟨s1, e1, rfl⟩ C hC
    refine ⟨keep1.1, keep1.2, iteT ?_⟩
    refine ⟨_, rfl, _, _, rfl, rfl, ?_⟩
    rw [in_figs]
    have hi : i < cs.length := (List.getElem?_eq_some_iff.mp hc).1
    refine ⟨e1, by simp only [List.length_map, List.length_take]; omega, hC _ _ ⟨s1.change hD, upd_same, ?_⟩⟩
    rw [List.take_succ, hc, List.map_append]
    rfl
  · rintro ys H1 ⟨s1, e1, rfl⟩
    refine ⟨D, cs.map digB, rfl, ?_, ?_⟩
    · rw [List.take_length] at e1
      rw [List.map_map]
      exact SqL.of e1
    · have := q H1 s1
      unfold figB at this
      rw [decide_eq_true ⟨c1, c2⟩, Bool.true_and] at this
      rw [List.all_map]
      exact this
abbrev sRead : Stmt := top 21
abbrev NRead : List Str := ["text", "parts", "above", "below", "one"]
theorem scRead : FnScope NRead ["text"] (defScope sRead) := ⟨rfl, rfl, rfl, by decide +kernel, rfl, by decide +kernel, by decide +kernel⟩
theorem ok_read {dV : Value} {CN : Addr} (F : FunD K "read" "read" sRead dV f fd) (b : Bl mg) (ms : mg "str" = none)
    (G1 : FnOk P w K mg base CX0 1 g1 gd1 ["text"] spNosign) (b1 : Binds K gd1 ["text"] []) (k1 : PySem.W.keepIn K (.ref g1) = true) (m1 : mg "without_sign" = some (.ref g1))
    (G2 : FnOk P w K mg base CX0 1 g2 gd2 ["text"] spFigs) (b2 : Binds K gd2 ["text"] []) (k2 : PySem.W.keepIn K (.ref g2) = true) (m2 : mg "are_figures" = some (.ref g2))
    (G3 : FnOk P w K mg base (CX1 P w) 2 g3 gd3 ["top", "bottom"] (spFracX K CN)) (b3 : Binds K gd3 ["top", "bottom"] []) (k3 : PySem.W.keepIn K (.ref g3) = true) (m3 : mg "fraction" = some (.ref g3))
    (G4 : FnOk P w K mg base CX0 1 g4 gd4 ["one"] (spShow K)) (b4 : Binds K gd4 ["one"] []) (k4 : PySem.W.keepIn K (.ref g4) = true) (m4 : mg "show" = some (.ref g4))
    (mN : mg "NoNumber" = some (.ref CN)) (xN : ExcC K CN) : FnOk P w K mg base (CX1 P w) 3 f fd ["text"] (spRead K CN) := by
  refine F.okX scRead (fun vs H Q E h => ?_) (fun cdv A outer s H vs Q E hr h => ?_)
  · obtain ⟨x, rfl, _⟩ := h
    rfl
  obtain ⟨x, rfl, h⟩ := h
  have r1 := hr.mono (show 1 ≤ 2 by omega)
  refine ⟨_, pss_cons (ps_if (pt_not (pt_val (pe_isi (i := 0) rfl (Or.inl rfl) b.isi ms rfl rfl PyProof.Rows.boot_str))) (pss_one (ps_raise frm_cxOf xe_cxOf rfl rfl mN xN (pa_cons pe_str pa_nil))) pss_nil)
    (pss_cons (ps_set (i := 1) scRead.nd rfl (Or.inl rfl) (pe_bm PySem.F.plainAttrs_str PySem.F.slot_str_partition PySem.F.type_str_partition mt_partition (pv 0) (pa_cons pe_str pa_nil)))
    (pss_cons (ps_set (i := 2) scRead.nd rfl (Or.inl rfl) (pe_ix ix_tup (pv 1) pe_int (fun _ _ => rfl)))
    (pss_cons (ps_set (i := 3) scRead.nd rfl (Or.inl rfl) (pe_ifExp (pt_cmpR op_eq (pe_ix ix_tup (pv 1) pe_int (fun _ _ => rfl)) pe_str (nomark _)) (pe_ix ix_tup (pv 1) pe_int (fun _ _ => rfl)) pe_str))
    (pss_cons (ps_if (PW.pt (pw_or (pt_not (pt_val (pe_call G2 r1 rfl m2 k2 b2 .nil pass0 (pa_cons (pe_call G1 r1 rfl m1 k1 b1 .nil pass0 (pa_cons (pv 2) pa_nil)) pa_nil)))) (pw_or1 (pt_not (pt_val (pe_call G2 r1 rfl m2 k2 b2 .nil pass0 (pa_cons (pv 3) pa_nil))))))) (pss_one (ps_raise frm_cxOf xe_cxOf rfl rfl mN xN (pa_cons pe_str pa_nil))) pss_nil)
    (pss_cons (ps_set (i := 4) scRead.nd rfl (Or.inl rfl) (pe_call G3 hr rfl m3 k3 b3 .nil (passes_cx frm_cxOf xe_cxOf) (pa_cons (pe_callTy call_intT rfl b.int PyProof.Rows.boot_int (pa_cons (pv 2) pa_nil)) (pa_cons (pe_callTy call_intT rfl b.int PyProof.Rows.boot_int (pa_cons (pv 3) pa_nil)) pa_nil))))
    (pss_cons (ps_if (pt_cmpR op_ne (pe_call G4 r1 rfl m4 k4 b4 .nil pass0 (pa_cons (pv 4) pa_nil)) (pv 0) (nomark _)) (pss_one (ps_raise frm_cxOf xe_cxOf rfl rfl mN xN (pa_cons pe_str pa_nil))) pss_nil)
    (pss_one (ps_ret (pv 4))))))))), ?_⟩
  have hz : sizeLine = 16777216 := sizeLine_eq
  have one : ∀ y : Str, ([V.str y] : List V).length ≤ sizeLine := fun _ => by show 1 ≤ sizeLine; decide
  rcases h with ⟨cs, rfl, hl, qy, qn⟩ | ⟨⟨t, ty, nw⟩, q⟩
  rotate_left
  · rcases nw with rfl | rfl | rfl | rfl | rfl
    all_goals exact ⟨_, _, false, rfl, ty, (by with_unfolding_all rfl), _, rfl, iteT ⟨one _, q⟩⟩
  obtain ⟨tl, hp, ht⟩ := part_47 cs
  refine ⟨_, _, true, rfl, .str _, (by with_unfolding_all rfl), _, rfl, iteF ?_⟩
  refine ⟨_, rfl, rfl, _, _, rfl, rfl, by decide, by rw [S_len]; omega, fun D hD => ?_⟩
  rw [hp]
  have sD := same_new hD (.tup [.str (S (ahead 47 cs)), .str (stk cs), .str (S tl)])
  have eD : upd H D (.tup [.str (S (ahead 47 cs)), .str (stk cs), .str (S tl)]) D = some (.tup [.str (S (ahead 47 cs)), .str (stk cs), .str (S tl)]) := upd_same
  dsimp only
  generalize upd H D (.tup [.str (S (ahead 47 cs)), .str (stk cs), .str (S tl)]) = H1 at sD eD ⊢
  refine ⟨_, rfl, D, _, _, _, rfl, rfl, SqT.of eD, rfl, ?_⟩
  refine ⟨_, rfl, D, _, _, _, rfl, rfl, SqT.of eD, rfl, rfl, _, rfl, ?_⟩
  have bel : ∀ {R : VK}, R (.str (S (belowOf cs))) H1 → (if decide (V.str (stk cs) = V.str "/") = true then tOp (rIxT K) (tVar 1) (tC (.int 2)) (List.set (List.set (L2.start NRead [V.str (S cs)]) 1 (some (V.ref D))) 2 (some (V.str (S (ahead 47 cs))))) H1 R else R (.str "1") H1) := fun {R} z => by
    unfold belowOf at z
    unfold stk
    by_cases h : 47 ∈ cs
    · rw [if_pos h] at z ⊢
      rw [decide_eq_true rfl]
      rw [← ht h] at z
      refine iteT ⟨_, rfl, D, _, _, _, rfl, rfl, SqT.of eD, rfl, z⟩
    · rw [if_neg h] at z ⊢
      rw [decide_eq_false (by intro q; injection q with q; exact absurd q (by decide +kernel))]
      refine iteF ?_
      rw [show ("1" : Str) = S [49] by decide +kernel]
      exact z
  refine bel ?_
  have la := (ahead_len 47 cs).1
  have lb := below_len hl
  refine ⟨_, rfl, _, rfl, by omega, _, rfl, ?_, fun H2 s2 => ?_⟩
  · unfold nosign; split
    · rw [List.length_tail]; omega
    · omega
  refine ⟨_, rfl, ?_⟩
  have no : ¬ Fine cs → ∀ H', Same H H' → E (.ref CN) none H' := fun h => qn fun ⟨p, z⟩ => h (wr_fine z).1
  by_cases f1 : figB (nosign (ahead 47 cs)) = true
  rotate_left
  · rw [Bool.eq_false_iff.mpr f1]
    exact iteT ⟨one _, no (fun z => f1 ((figB_iff _).mpr z.1)) _ (sD.trans s2)⟩
  rw [f1]
  refine iteF ⟨_, rfl, _, rfl, lb, fun H3 s3 => ⟨_, rfl, ?_⟩⟩
  by_cases f2 : figB (belowOf cs) = true
  rotate_left
  · rw [Bool.eq_false_iff.mpr f2]
    exact iteT ⟨one _, no (fun z => f2 ((figB_iff _).mpr z.2)) _ (sD.trans (s2.trans s3))⟩
  rw [f2]
  have hf : Fine cs := ⟨(figB_iff _).mp f1, (figB_iff _).mp f2⟩
  obtain ⟨ia, ja⟩ := ival_text hf.1
  obtain ⟨ib, jb⟩ := ival_text (cs := belowOf cs) (by rw [nosign_fig hf.2]; exact hf.2)
  have bb : (ival (belowOf cs)).natAbs < 10 ^ 200 := ival_lt (by rw [nosign_fig hf.2]; exact hf.2)
  have ba := ival_lt hf.1
  have sA := sD.trans (s2.trans s3)
  refine iteF ⟨_, rfl, _, _, rfl, ia, ja, _, rfl, _, _, rfl, ib, jb, ?_⟩
  refine ⟨_, _, rfl, ?_⟩
  by_cases h0 : ival (belowOf cs) = 0
  · refine .inr ⟨.inr ⟨⟨_, rfl⟩, .inr (by rw [h0])⟩, ?_⟩
    refine qn (fun ⟨p, z⟩ => ?_) _ sA
    have := (wr_fine z).2.2
    have := low_pos z.low
    omega
  refine .inl ⟨_, _, 700, rfl, rfl, h0, b200 bb, by omega, fun r H4 s4 e4 => ?_⟩
  have hl2 := Mq.red_le (t := ival (ahead 47 cs)) h0
  refine ⟨_, rfl, r, _, 700, rfl, Fq.of e4, ⟨b200 (Nat.lt_of_le_of_lt hl2.1 ba), b200 (Nat.lt_of_le_of_lt hl2.2 bb)⟩, by omega, _, rfl, rfl, _, rfl, ?_⟩
  by_cases e : shw (Mq.red (ival (ahead 47 cs)) (ival (belowOf cs))) = cs
  · rw [decide_eq_true (show V.str (S (shw (Mq.red (ival (ahead 47 cs)) (ival (belowOf cs))))) = V.str (S cs) by rw [e])]
    exact iteF ⟨_, rfl, qy _ (fine_wr hf h0 e) r H4 (sA.trans s4) e4⟩
  · rw [decide_eq_false (fun z => e (S_inj.mp (by injection z)))]
    refine iteT ⟨one _, qn (fun ⟨p, z⟩ => ?_) _ (sA.trans s4)⟩
    apply e
    rw [red_wr z]
    exact z.txt.symm
variable {CR : Addr} {CK : Kd → Addr} {fW fJ fT fS : Kd → Addr} {fdW fdJ fdT fdS : Kd → FuncData}
abbrev sRInit : Stmt := inClass (top 25) 0
theorem scRInit : FnScope ["self", "start", "goal", "size"] ["self", "start", "goal", "size"] (defScope sRInit) := ⟨rfl, rfl, rfl, by decide +kernel, rfl, by decide +kernel, by decide +kernel⟩
theorem ok_rinit {dV : Value} (F : FunD K "__init__" "Row.__init__" sRInit dV f fd) (T : RT K mg CR CK) : FnOk P w K mg base CX 1 f fd ["self", "start", "goal", "size"] (spRInit CK) := by
  refine F.ok scRInit (fun vs H Q E h => ?_) (fun cdv A outer s H vs Q E hr h => ?_)
  · obtain ⟨x, dx, k, s, g, z, rfl, _⟩ := h
    rfl
  obtain ⟨x, dx, k, s, g, z, rfl, hx, q⟩ := h
  refine ⟨_, (pss_cons (ps_fld (pv 0) (pv 1) rfl) (pss_cons (ps_fld (pv 0) (pv 2) rfl) (pss_one (ps_fld (pv 0) (pv 3) rfl)))), ?_⟩
  have l1 := length_putF ("start" : Str) s []
  have l2 := length_putF ("goal" : Str) g (putF "start" s [])
  simp only [List.length_nil] at l1
  refine ⟨_, rfl, _, rfl, x, CK k, dx, [], rfl, hx, T.cl k, T.nS k, (by show 0 < 1000; decide), ?_⟩
  refine ⟨_, rfl, _, rfl, x, CK k, dx, _, rfl, upd_same, T.cl k, T.nG k, by omega, ?_⟩
  refine ⟨_, rfl, _, rfl, x, CK k, dx, _, rfl, upd_same, T.cl k, T.nZ k, by omega, ?_⟩
  rw [upd_upd, upd_upd]
  exact q
abbrev sWord_pc : Stmt := inClass (top 26) 0
theorem scWord_pc : FnScope ["self"] ["self"] (defScope sWord_pc) := ⟨rfl, rfl, rfl, by decide +kernel, rfl, by decide +kernel, by decide +kernel⟩
theorem ok_word_pc {dV : Value} (F : FunD K "word" "Piece.word" sWord_pc dV f fd) : FnOk P w K mg base CX 1 f fd ["self"] (spWord .pc) := by
  refine F.ok scWord_pc (fun vs H Q E h => ?_) (fun cdv A outer s H vs Q E hr h => ?_)
  · obtain ⟨x, rfl, _⟩ := h
    rfl
  obtain ⟨x, rfl, q⟩ := h
  exact ⟨_, (pss_one (ps_ret pe_str)), q⟩
abbrev sWord_pu : Stmt := inClass (top 27) 0
theorem scWord_pu : FnScope ["self"] ["self"] (defScope sWord_pu) := ⟨rfl, rfl, rfl, by decide +kernel, rfl, by decide +kernel, by decide +kernel⟩
theorem ok_word_pu {dV : Value} (F : FunD K "word" "Push.word" sWord_pu dV f fd) : FnOk P w K mg base CX 1 f fd ["self"] (spWord .pu) := by
  refine F.ok scWord_pu (fun vs H Q E h => ?_) (fun cdv A outer s H vs Q E hr h => ?_)
  · obtain ⟨x, rfl, _⟩ := h
    rfl
  obtain ⟨x, rfl, q⟩ := h
  exact ⟨_, (pss_one (ps_ret pe_str)), q⟩
abbrev sWord_ho : Stmt := inClass (top 28) 0
theorem scWord_ho : FnScope ["self"] ["self"] (defScope sWord_ho) := ⟨rfl, rfl, rfl, by decide +kernel, rfl, by decide +kernel, by decide +kernel⟩
theorem ok_word_ho {dV : Value} (F : FunD K "word" "Hold.word" sWord_ho dV f fd) : FnOk P w K mg base CX 1 f fd ["self"] (spWord .ho) := by
  refine F.ok scWord_ho (fun vs H Q E h => ?_) (fun cdv A outer s H vs Q E hr h => ?_)
  · obtain ⟨x, rfl, _⟩ := h
    rfl
  obtain ⟨x, rfl, q⟩ := h
  exact ⟨_, (pss_one (ps_ret pe_str)), q⟩
abbrev sRTold : Stmt := inClass (top 25) 1
theorem scRTold : FnScope ["self"] ["self"] (defScope sRTold) := ⟨rfl, rfl, rfl, by decide +kernel, rfl, by decide +kernel, by decide +kernel⟩
theorem ok_rtold {dV : Value} (F : FunD K "told" "Row.told" sRTold dV f fd) (T : RT K mg CR CK)
    (GW : ∀ k, FnOk P w K mg base CX0 1 (fW k) (fdW k) ["self"] (spWord k)) (bW : ∀ k, Binds K (fdW k) ["self"] []) (mW : ∀ k, Meth K (CK k) "word" (fW k)) : FnOk P w K mg base CX 2 f fd ["self"] (spRTold CK) := by
  refine F.ok scRTold (fun vs H Q E h => ?_) (fun cdv A outer s H vs Q E hr h => ?_)
  · obtain ⟨x, k, s, g, z, rfl, _⟩ := h
    rfl
  obtain ⟨x, k, s, g, z, rfl, ⟨dx, hx⟩, q⟩ := h
  refine ⟨_, (pss_one (ps_ret (pe_tup (pa_cons (pe_methD0 (pv 0) T.cl mW GW hr bW .nil pass0) (pa_cons (pe_fld (pv 0) rfl) (pa_cons (pe_fld (pv 0) rfl) (pa_cons (pe_fld (pv 0) rfl) pa_nil))))))), ?_⟩
  refine ⟨_, rfl, k, x, dx, _, rfl, hx, (rflds_no _ _ _ (by decide +kernel) (by decide +kernel) (by decide +kernel)), _, rfl, ?_⟩
  refine ⟨_, rfl, x, CK k, dx, _, _, rfl, hx, T.cl k, T.nS k, rflds_start _ _ _, ?_⟩
  refine ⟨_, rfl, x, CK k, dx, _, _, rfl, hx, T.cl k, T.nG k, rflds_goal _ _ _, ?_⟩
  refine ⟨_, rfl, x, CK k, dx, _, _, rfl, hx, T.cl k, T.nZ k, rflds_size _ _ _, ?_⟩
  exact ⟨by show 4 ≤ sizeLine; decide, q⟩
abbrev sRowOf : Stmt := top 29
theorem scRowOf : FnScope ["told", "word"] ["told"] (defScope sRowOf) := ⟨rfl, rfl, rfl, by decide +kernel, rfl, by decide +kernel, by decide +kernel⟩
theorem ok_rowof {dV : Value} {gI : Addr} {gdI : FuncData} (F : FunD K "row_of" "row_of" sRowOf dV f fd) (T : RT K mg CR CK) (b : Bl mg) (ms : mg "str" = none)
    (GI : FnOk P w K mg base CX0 1 gI gdI ["self", "start", "goal", "size"] (spRInit CK)) (bI : Binds K gdI ["self", "start", "goal", "size"] []) (MK : ∀ k, Mk K (CK k) gI) : FnOk P w K mg base CX 3 f fd ["told"] (spRowOfG K CK) := by
  refine F.ok scRowOf (fun vs H Q E h => ?_) (fun cdv A outer s H vs Q E hr h => ?_)
  · obtain ⟨t, v, s, g, z, rfl, _⟩ := h
    rfl
  obtain ⟨t, v, s, g, z, rfl, hT, k, rfl, q⟩ := h
  refine ⟨_, (pss_cons (ps_set (i := 1) scRowOf.nd rfl (Or.inl rfl) (pe_ix ix_tup (pv 0) pe_int (fun _ _ => rfl)))
    (pss_cons (ps_if (PW.pt (pw_and (pt_val (pe_isiQ (i := 1) rfl (Or.inl rfl) b.isi ms rfl rfl PyProof.Rows.boot_str)) (pw_and1 (pt_cmpR op_eq (pv 1) pe_str (nomark _))))) (pss_one (ps_ret (pe_make (MK .pc) GI hr rfl (T.mK .pc) bI .nil pass0 (pa_cons (pe_ix ix_tup (pv 0) pe_int (fun _ _ => rfl)) (pa_cons (pe_ix ix_tup (pv 0) pe_int (fun _ _ => rfl)) (pa_cons (pe_ix ix_tup (pv 0) pe_int (fun _ _ => rfl)) pa_nil)))))) pss_nil)
    (pss_cons (ps_if (PW.pt (pw_and (pt_val (pe_isiQ (i := 1) rfl (Or.inl rfl) b.isi ms rfl rfl PyProof.Rows.boot_str)) (pw_and1 (pt_cmpR op_eq (pv 1) pe_str (nomark _))))) (pss_one (ps_ret (pe_make (MK .pu) GI hr rfl (T.mK .pu) bI .nil pass0 (pa_cons (pe_ix ix_tup (pv 0) pe_int (fun _ _ => rfl)) (pa_cons (pe_ix ix_tup (pv 0) pe_int (fun _ _ => rfl)) (pa_cons (pe_ix ix_tup (pv 0) pe_int (fun _ _ => rfl)) pa_nil)))))) pss_nil)
    (pss_cons (ps_if (PW.pt (pw_and (pt_val (pe_isiQ (i := 1) rfl (Or.inl rfl) b.isi ms rfl rfl PyProof.Rows.boot_str)) (pw_and1 (pt_cmpR op_eq (pv 1) pe_str (nomark _))))) (pss_one (ps_ret (pe_make (MK .ho) GI hr rfl (T.mK .ho) bI .nil pass0 (pa_cons (pe_ix ix_tup (pv 0) pe_int (fun _ _ => rfl)) (pa_cons (pe_ix ix_tup (pv 0) pe_int (fun _ _ => rfl)) (pa_cons (pe_ix ix_tup (pv 0) pe_int (fun _ _ => rfl)) pa_nil)))))) pss_nil)
    (pss_one ps_never))))), ?_⟩
  cases k
  · refine cut2 (fun _ _ => False) (fun X _ => ?_) (fun _ _ h => h.elim)
    refine ⟨_, rfl, t, _, 0, _, rfl, rfl, hT, rfl, ?_⟩
    exact ⟨_, _, true, rfl, .of (.str _), rfl, _, rfl, iteT ⟨_, rfl, rfl, _, rfl, ifT (dec_wd .pc .pc) ⟨_, rfl, t, _, 1, s, rfl, rfl, hT, rfl, _, rfl, t, _, 2, g, rfl, rfl, hT, rfl, _, rfl, t, _, 3, z, rfl, rfl, hT, rfl, fun x dx h1 h2 ne => ⟨x, dx, .pc, s, g, z, rfl, upd_same, rfl, by rw [upd_upd]; exact q x _ (Rw.new h1 h2 ne) h1 ⟨dx, upd_same⟩⟩⟩⟩⟩
  · refine cut3 (fun _ _ => False) (fun X _ => ?_) (fun _ _ h => h.elim)
    refine ⟨_, rfl, t, _, 0, _, rfl, rfl, hT, rfl, ?_⟩
    exact ⟨_, _, true, rfl, .of (.str _), rfl, _, rfl, iteT ⟨_, rfl, rfl, _, rfl, ifF (dec_wd .pu .pc) (⟨_, _, true, rfl, .of (.str _), rfl, _, rfl, iteT ⟨_, rfl, rfl, _, rfl, ifT (dec_wd .pu .pu) ⟨_, rfl, t, _, 1, s, rfl, rfl, hT, rfl, _, rfl, t, _, 2, g, rfl, rfl, hT, rfl, _, rfl, t, _, 3, z, rfl, rfl, hT, rfl, fun x dx h1 h2 ne => ⟨x, dx, .pu, s, g, z, rfl, upd_same, rfl, by rw [upd_upd]; exact q x _ (Rw.new h1 h2 ne) h1 ⟨dx, upd_same⟩⟩⟩⟩⟩)⟩⟩
  · refine cut4 (fun _ _ => False) (fun X _ => ?_) (fun _ _ h => h.elim)
    refine ⟨_, rfl, t, _, 0, _, rfl, rfl, hT, rfl, ?_⟩
    exact ⟨_, _, true, rfl, .of (.str _), rfl, _, rfl, iteT ⟨_, rfl, rfl, _, rfl, ifF (dec_wd .ho .pc) (⟨_, _, true, rfl, .of (.str _), rfl, _, rfl, iteT ⟨_, rfl, rfl, _, rfl, ifF (dec_wd .ho .pu) (⟨_, _, true, rfl, .of (.str _), rfl, _, rfl, iteT ⟨_, rfl, rfl, _, rfl, ifT (dec_wd .ho .ho) ⟨_, rfl, t, _, 1, s, rfl, rfl, hT, rfl, _, rfl, t, _, 2, g, rfl, rfl, hT, rfl, _, rfl, t, _, 3, z, rfl, rfl, hT, rfl, fun x dx h1 h2 ne => ⟨x, dx, .ho, s, g, z, rfl, upd_same, rfl, by rw [upd_upd]; exact q x _ (Rw.new h1 h2 ne) h1 ⟨dx, upd_same⟩⟩⟩⟩⟩)⟩⟩)⟩⟩
abbrev sIsF : Stmt := top 13
theorem scIsF : FnScope ["thing"] ["thing"] (defScope sIsF) := ⟨rfl, rfl, rfl, by decide +kernel, rfl, by decide +kernel, by decide +kernel⟩
theorem ok_isf {dV : Value} (F : FunD K "is_fraction" "is_fraction" sIsF dV f fd)
    (b : Bl mg) (ml : mg "len" = none) (mt : mg "tuple" = none)
    (G1 : FnOk P w K mg base CX0 1 g1 gd1 ["thing"] (spWhole K)) (b1 : Binds K gd1 ["thing"] []) (k1 : PySem.W.keepIn K (.ref g1) = true) (m1 : mg "is_whole" = some (.ref g1))
    (G2 : FnOk P w K mg base CX0 1 g2 gd2 ["one", "other"] spGc) (b2 : Binds K gd2 ["one", "other"] []) (k2 : PySem.W.keepIn K (.ref g2) = true) (m2 : mg "greatest_common" = some (.ref g2)) :
    FnOk P w K mg base CX 2 f fd ["thing"] (spIsFV K) := by
  refine F.ok scIsF (fun vs H Q E h => ?_) (fun cdv A outer s H vs Q E hr h => ?_)
  · obtain ⟨v, o, rfl, hz, q⟩ := h
    rfl
  obtain ⟨v, o, rfl, hz, q⟩ := h
  refine ⟨_, (pss_cons (ps_if (PW.pt (pw_or (pt_not (pt_val (pe_isiQ (i := 0) rfl (Or.inl rfl) b.isi mt rfl rfl PyProof.Rows.boot_tuple))) (pw_or1 (pt_cmpR op_ne (pe_callB call_len_seq rfl ml PySem.boot_len (pa_cons (pv 0) pa_nil)) pe_int (nomark _))))) (pss_one (ps_ret pe_bl)) pss_nil)
    (pss_cons (ps_if (PW.pt (pw_or (pt_not (pt_val (pe_call G1 hr rfl m1 k1 b1 .nil pass0 (pa_cons (pe_ix ix_tup (pv 0) pe_int (fun _ _ => rfl)) pa_nil)))) (pw_or1 (pt_not (pt_val (pe_call G1 hr rfl m1 k1 b1 .nil pass0 (pa_cons (pe_ix ix_tup (pv 0) pe_int (fun _ _ => rfl)) pa_nil))))))) (pss_one (ps_ret pe_bl)) pss_nil)
    (pss_one (ps_ret (pe_and (pe_cmpR op_ge (pe_ix ix_tup (pv 0) pe_int (fun _ _ => rfl)) pe_int (nomark _)) (pe_one (pe_cmpR op_eq (pe_call G2 hr rfl m2 k2 b2 .nil pass0 (pa_cons (pe_ix ix_tup (pv 0) pe_int (fun _ _ => rfl)) (pa_cons (pe_ix ix_tup (pv 0) pe_int (fun _ _ => rfl)) pa_nil))) pe_int (nomark _)))))))), ?_⟩
  cases hz with
  | fr fa hp =>
    refine ⟨_, _, true, rfl, .tup fa, rfl, _, rfl, iteF ⟨_, rfl, _, _, rfl, .inr fa, rfl, _, rfl, iteF ?_⟩⟩
    refine rd_ix0 rfl fa ⟨_, rfl, .inl ⟨_, rfl, _, rfl, iteF (rd_ix1 rfl fa ⟨_, rfl, .inl ⟨_, rfl, _, rfl, iteF ?_⟩⟩)⟩⟩
    have h1 := hp.pos
    refine rd_ix1 rfl fa ⟨_, _, rfl, rfl, _, rfl, ifT (decide_eq_true (by omega)) (rd_ix0 rfl fa (rd_ix1 rfl fa ⟨_, _, rfl, rfl, ?_⟩))⟩
    rw [hp.one]
    exact q
  | ty h n => exact ⟨_, _, false, rfl, h, n, _, rfl, iteT q⟩
  | len h => exact ⟨_, _, true, rfl, .tup h, rfl, _, rfl, iteF ⟨_, rfl, _, _, rfl, .inr h, rfl, _, rfl, iteT q⟩⟩
  | n0 h ty n =>
    refine ⟨_, _, true, rfl, .tup h, rfl, _, rfl, iteF ⟨_, rfl, _, _, rfl, .inr h, rfl, _, rfl, iteF ?_⟩⟩
    exact ⟨_, rfl, _, _, 0, _, rfl, rfl, h, rfl, _, rfl, .inr ⟨_, ty, n, _, rfl, iteT q⟩⟩
  | n1 h ty n =>
    refine ⟨_, _, true, rfl, .tup h, rfl, _, rfl, iteF ⟨_, rfl, _, _, rfl, .inr h, rfl, _, rfl, iteF ?_⟩⟩
    exact ⟨_, rfl, _, _, 0, _, rfl, rfl, h, rfl, _, rfl, .inl ⟨_, rfl, _, rfl, iteF ⟨_, rfl, _, _, 1, _, rfl, rfl, h, rfl, _, rfl, .inr ⟨_, ty, n, _, rfl, iteT q⟩⟩⟩⟩
  | fb fa c =>
    refine ⟨_, _, true, rfl, .tup fa, rfl, _, rfl, iteF ⟨_, rfl, _, _, rfl, .inr fa, rfl, _, rfl, iteF ?_⟩⟩
    refine rd_ix0 rfl fa ⟨_, rfl, .inl ⟨_, rfl, _, rfl, iteF (rd_ix1 rfl fa ⟨_, rfl, .inl ⟨_, rfl, _, rfl, iteF ?_⟩⟩)⟩⟩
    rcases c with c | ⟨c, d⟩
    · exact rd_ix1 rfl fa ⟨_, _, rfl, rfl, _, rfl, ifF (decide_eq_false (by omega)) q⟩
    · refine rd_ix1 rfl fa ⟨_, _, rfl, rfl, _, rfl, ifT (decide_eq_true c) (rd_ix0 rfl fa (rd_ix1 rfl fa ⟨_, _, rfl, rfl, ?_⟩))⟩
      rw [decide_eq_false (fun e => d (by injection e))]
      exact q
abbrev sPS : Stmt := top 30
theorem scPS : FnScope ["thing"] ["thing"] (defScope sPS) := ⟨rfl, rfl, rfl, by decide +kernel, rfl, by decide +kernel, by decide +kernel⟩
theorem ok_ps {dV : Value} (F : FunD K "is_piece_size" "is_piece_size" sPS dV f fd)
    {aN : Addr} (fN : ∀ H, Fq K H aN (0, 1)) (mNO : mg "NOUGHT" = some (.ref aN))
    (G1 : FnOk P w K mg base CX0 2 g1 gd1 ["thing"] (spIsFV K)) (b1 : Binds K gd1 ["thing"] []) (k1 : PySem.W.keepIn K (.ref g1) = true) (m1 : mg "is_fraction" = some (.ref g1))
    (G2 : FnOk P w K mg base CX0 1 g2 gd2 ["one", "other"] (spUnder K)) (b2 : Binds K gd2 ["one", "other"] []) (k2 : PySem.W.keepIn K (.ref g2) = true) (m2 : mg "under" = some (.ref g2)) :
    FnOk P w K mg base CX 3 f fd ["thing"] (spPSV K) := by
  refine F.ok scPS (fun vs H Q E h => ?_) (fun cdv A outer s H vs Q E hr h => ?_)
  · obtain ⟨v, o, rfl, hz, hb, q⟩ := h
    rfl
  obtain ⟨v, o, rfl, hz, hb, q⟩ := h
  have r1 := hr.mono (show 1 ≤ 2 by omega)
  refine ⟨_, (pss_one (ps_ret (pe_and (pe_call G1 hr rfl m1 k1 b1 .nil pass0 (pa_cons (pv 0) pa_nil)) (pe_one (pe_call G2 r1 rfl m2 k2 b2 .nil pass0 (pa_cons (pe_glob (v := .ref aN) rfl mNO rfl) (pa_cons (pv 0) pa_nil))))))), ?_⟩
  refine ⟨_, rfl, v, o, rfl, hz, _, rfl, ?_⟩
  cases o with
  | none => exact iteF q
  | some p =>
    cases hz with
    | fr fa hp =>
      refine iteT ⟨_, rfl, aN, _, _, p, 1, 100, rfl, fN _, fa, ⟨show (0 : Nat) < 2 ^ 1 by decide, show (1 : Nat) < 2 ^ 1 by decide⟩, hb p rfl, by omega, ?_⟩
      have e : decide ((0, 1).1 * p.2 < p.1 * (0, 1).2) = okz .pc (some p) := by
        show decide ((0 : Int) * p.2 < p.1 * 1) = decide (0 < p.1)
        rw [Int.zero_mul, Int.mul_one]
      rw [e]
      exact q
abbrev sNB : Stmt := top 35
theorem scNB : FnScope ["thing", "bound"] ["thing", "bound"] (defScope sNB) := ⟨rfl, rfl, rfl, by decide +kernel, rfl, by decide +kernel, by decide +kernel⟩
theorem ok_nb {dV : Value} (F : FunD K "is_number_below" "is_number_below" sNB dV f fd)
    (G1 : FnOk P w K mg base CX0 1 g1 gd1 ["thing"] (spWhole K)) (b1 : Binds K gd1 ["thing"] []) (k1 : PySem.W.keepIn K (.ref g1) = true) (m1 : mg "is_whole" = some (.ref g1)) :
    FnOk P w K mg base CX 2 f fd ["thing", "bound"] spNB := by
  refine F.ok scNB (fun vs H Q E h => ?_) (fun cdv A outer s H vs Q E hr h => ?_)
  · obtain ⟨i, b', rfl, h0, h1, q⟩ := h
    rfl
  obtain ⟨i, b', rfl, h0, h1, q⟩ := h
  refine ⟨_, (pss_one (ps_ret (pe_and (pe_call G1 hr rfl m1 k1 b1 .nil pass0 (pa_cons (pv 0) pa_nil)) (pe_and (pe_cmpR op_ge (pv 0) pe_int (nomark _)) (pe_one (pe_cmpR op_lt (pv 0) (pv 1) (nomark _))))))), ?_⟩
  refine ⟨_, rfl, _, rfl, .inl ⟨i, rfl, _, rfl, iteT ⟨_, rfl, _, _, rfl, rfl, _, rfl, ifT (decide_eq_true h0) ⟨_, rfl, _, rfl, _, _, rfl, rfl, ?_⟩⟩⟩⟩
  show Q (.bl (decide (i < b'))) H
  rw [decide_eq_true h1]
  exact q
abbrev sRS : Stmt := top 37
theorem scRS : FnScope ["word", "size"] ["word", "size"] (defScope sRS) := ⟨rfl, rfl, rfl, by decide +kernel, rfl, by decide +kernel, by decide +kernel⟩
theorem ok_rs {dV : Value} (F : FunD K "refuse_size" "refuse_size" sRS dV f fd)
    {CZ : Addr}
    (G1 : FnOk P w K mg base CX0 2 g1 gd1 ["thing"] (spIsFV K)) (b1 : Binds K gd1 ["thing"] []) (k1 : PySem.W.keepIn K (.ref g1) = true) (m1 : mg "is_fraction" = some (.ref g1))
    (G2 : FnOk P w K mg base CX0 3 g2 gd2 ["thing"] (spPSV K)) (b2 : Binds K gd2 ["thing"] []) (k2 : PySem.W.keepIn K (.ref g2) = true) (m2 : mg "is_piece_size" = some (.ref g2))
    (mN : mg "NoSize" = some (.ref CZ)) (xN : ExcC K CZ) :
    FnOk P w K mg base (CX1 P w) 4 f fd ["word", "size"] (spRSV K CZ) := by
  refine F.okX scRS (fun vs H Q E h => ?_) (fun cdv A outer s H vs Q E hr h => ?_)
  · obtain ⟨k, v, o, rfl, hz, hb, q1, q2⟩ := h
    rfl
  obtain ⟨k, v, o, rfl, hz, hb, q1, q2⟩ := h
  have r2 := hr.mono (show 2 ≤ 3 by omega)
  refine ⟨_, (pss_cons (ps_if (pt_not (pt_val (pe_call G1 r2 rfl m1 k1 b1 .nil pass0 (pa_cons (pv 1) pa_nil)))) (pss_one (ps_raise frm_cxOf xe_cxOf rfl rfl mN xN (pa_cons pe_str pa_nil))) pss_nil)
    (pss_one (ps_if (PW.pt (pw_and (pt_cmpR op_eq (pv 0) pe_str (nomark _)) (pw_and1 (pt_not (pt_val (pe_call G2 hr rfl m2 k2 b2 .nil pass0 (pa_cons (pv 1) pa_nil))))))) (pss_one (ps_raise frm_cxOf xe_cxOf rfl rfl mN xN (pa_cons pe_str pa_nil))) pss_nil))), ?_⟩
  refine ⟨_, rfl, v, o, rfl, hz, _, rfl, ?_⟩
  cases o with
  | none => exact iteT ⟨by show 1 ≤ sizeLine; decide, q2 rfl⟩
  | some p =>
    refine iteF ?_
    cases k
    · refine ⟨_, rfl, rfl, _, rfl, ifT (dec_wd .pc .pc) ⟨_, rfl, v, some p, rfl, hz, hb, _, rfl, ?_⟩⟩
      cases e : okz .pc (some p) with
      | true => exact iteF (q1 e)
      | false => exact iteT ⟨by show 1 ≤ sizeLine; decide, q2 e⟩
    · exact ⟨_, rfl, rfl, _, rfl, ifF (dec_wd .pu .pc) (iteF (q1 rfl))⟩
    · exact ⟨_, rfl, rfl, _, rfl, ifF (dec_wd .ho .pc) (iteF (q1 rfl))⟩
theorem nd_point_many : (["point", "many"] : List Str).Nodup := by decide +kernel
def spRP (K : PySem.W.Frag) : Sp := fun vs H Q _ => ∃ (l : Addr) (i j m : Int), vs = [.ref l, .int m] ∧ SqL K H l [.int i, .int j] ∧ 0 ≤ i ∧ i < m ∧ 0 ≤ j ∧ j < m ∧ ∀ H', Same H H' → Q .non H'
abbrev sRP : Stmt := top 36
theorem scRP : FnScope ["some", "many"] ["some", "many"] (defScope sRP) := ⟨rfl, rfl, rfl, by decide +kernel, rfl, by decide +kernel, by decide +kernel⟩
theorem ok_rp {dV : Value} (F : FunD K "refuse_points" "refuse_points" sRP dV f fd)
    (ma : mg "all" = none)
    (G1 : FnOk P w K mg base CX0 2 g1 gd1 ["thing", "bound"] spNB) (b1 : Binds K gd1 ["thing", "bound"] []) (k1 : PySem.W.keepIn K (.ref g1) = true) (m1 : mg "is_number_below" = some (.ref g1)) :
    FnOk P w K mg base CX 3 f fd ["some", "many"] (spRP K) := by
  refine F.ok scRP (fun vs H Q E h => ?_) (fun cdv A outer s H vs Q E hr h => ?_)
  · obtain ⟨l, i, j, m, rfl, hl, i0, i1, j0, j1, q⟩ := h
    rfl
  obtain ⟨l, i, j, m, rfl, hl, i0, i1, j0, j1, q⟩ := h
  refine ⟨_, (pss_one (ps_if (pt_not (pt_val (pe_callB (call_all rfl) rfl ma PyProof.Rows.boot_all (pa_cons (pe_comp (nl := 1) (fr := [1]) (Nc := ["point", "many"]) (cl := [("many", s.heap.objs.size + 1)]) rfl ⟨rfl, rfl, by decide +kernel, by decide +kernel, fun x c h => h, has_of rfl, rfl, fun i n h => match i, h with | 0, h => by cases h; exact ⟨1, rfl, rfl, rfl, rfl, .inl rfl⟩ | k + 1, h => by rw [show 1 + (k + 1) = k + 2 by omega] at h; cases h⟩
        (pi_list (pv 0)) (fun C s3 H3 fp pins => (pg_name (i := 0) nd_point_many rfl (Or.inl rfl))) (fun C s3 H3 fp pins => pif_nil)
        (fun C s3 H3 fp pins => (pe_call G1 hr rfl m1 k1 b1 .nil pass0 (pa_cons (pv 0) (pa_cons (pv 1) pa_nil))))) pa_nil)))) (pss_one ps_never) pss_nil)), ?_⟩
  refine ⟨_, rfl, l, rfl, ⟨_, hl⟩, fun D hD => ?_⟩
  have sD := same_new hD (.lst [])
  refine comp_list (xs := [.int i, .int j]) (fun k zs H' => Same H H' ∧ H' D = some (.lst zs) ∧ zs = (List.replicate k true).map V.bl) ⟨sD, upd_same, rfl⟩ (fun k zs H' h => h.2.1) (fun k zs H' _ h => h.1.seq hl) ?_ ?_
  · rintro k zs x H1 hx ⟨s1, e1, rfl⟩ C hC
    have hk : k < 2 := (List.getElem?_eq_some_iff.mp hx).1
    obtain ⟨y, rfl, y0, y1⟩ : ∃ y, x = .int y ∧ 0 ≤ y ∧ y < m := by
      rcases List.mem_cons.mp (List.mem_of_getElem? hx) with z | z
      · exact ⟨i, z, i0, i1⟩
      · exact ⟨j, by simpa using z, j0, j1⟩
    refine ⟨keep1.1, keep1.2, iteT ?_⟩
    refine ⟨_, rfl, _, rfl, y, m, rfl, y0, y1, e1, small1000 (by rw [List.length_map, List.length_replicate]; omega), hC _ _ ⟨s1.change hD, upd_same, ?_⟩⟩
    rw [List.replicate_succ', List.map_append]; rfl
  · rintro zs H1 ⟨s1, e1, rfl⟩
    refine ⟨D, _, rfl, SqL.of e1, _, rfl, ifF ?_ ?_⟩
    · simp
    · exact q _ s1
abbrev sNInit : Stmt := inClass (top 34) 0
theorem scNInit : FnScope ["self", "many"] ["self", "many"] (defScope sNInit) := ⟨rfl, rfl, rfl, by decide +kernel, rfl, by decide +kernel, by decide +kernel⟩
theorem ok_ninit {dV : Value} {CN : Addr} (F : FunD K "__init__" "Net.__init__" sNInit dV f fd) (NTx : NT K mg CN)
    {tM : Tok} {CP : Addr} (mN : mg "NoPoint" = some (.ref CP)) (xN : ExcC K CP) (mMP : mg "MOST_POINTS" = some (.int 20 tM))
    (G1 : FnOk P w K mg base CX0 1 g1 gd1 ["thing"] (spWhole K)) (b1 : Binds K gd1 ["thing"] []) (k1 : PySem.W.keepIn K (.ref g1) = true) (m1 : mg "is_whole" = some (.ref g1)) : FnOk P w K mg base (CX1 P w) 2 f fd ["self", "many"] (spNInitX CN K CP) := by
  refine F.okX scNInit (fun vs H Q E h => ?_) (fun cdv A outer s H vs Q E hr h => ?_)
  · obtain ⟨n, dx, v, rfl, hn, h⟩ := h
    rfl
  obtain ⟨n, dx, v, rfl, hn, h⟩ := h
  refine ⟨_, (pss_cons (ps_if (PW.pt (pw_or (pt_not (pt_val (pe_call G1 hr rfl m1 k1 b1 .nil pass0 (pa_cons (pv 1) pa_nil)))) (pw_or (pt_cmpR op_lt (pv 1) pe_int (nomark _)) (pw_or1 (pt_cmpR op_gt (pv 1) (pe_glob (v := .int 20) rfl mMP ⟨_, rfl⟩) (nomark _)))))) (pss_one (ps_raise frm_cxOf xe_cxOf rfl rfl mN xN (pa_cons pe_str pa_nil))) pss_nil)
    (pss_cons (ps_fld (pv 0) (pv 1) rfl)
    (pss_one (ps_fld (pv 0) (pe_lst pa_nil) rfl)))), ?_⟩
  have one : ([V.str "x"] : List V).length ≤ sizeLine := by show 1 ≤ sizeLine; decide
  rcases h with ⟨m, rfl, h1, h20, q⟩ | ⟨⟨m, rfl, h⟩ | ⟨t, ty, nw⟩, q⟩
  · refine ⟨_, rfl, _, rfl, .inl ⟨m, rfl, _, rfl, iteF ⟨_, rfl, _, _, rfl, rfl, _, rfl, ifF (decide_eq_false (by omega)) ⟨_, rfl, _, _, rfl, rfl, _, rfl, ifF (decide_eq_false (by omega)) ?_⟩⟩⟩⟩
    refine ⟨_, rfl, _, rfl, n, CN, dx, [], rfl, hn, NTx.cl, NTx.nP, (by show 0 < 1000; decide), ?_⟩
    refine ⟨by show 0 ≤ sizeLine; decide, fun l hl => ?_⟩
    have nl : n ≠ l := fun z => by subst z; rw [upd_same] at hl; cases hl
    have hl0 : H l = none := by rw [upd_ne (Ne.symm nl)] at hl; exact hl
    have l1 := length_putF ("point_count" : Str) (.int m) []
    simp only [List.length_nil] at l1
    refine ⟨_, rfl, n, CN, dx, putF "point_count" (.int m) [], rfl, by rw [upd_ne nl]; exact upd_same, NTx.cl, NTx.nK, by omega, ?_⟩
    refine q l _ hl0 (fun b o e hb => ?_) upd_same (by rw [upd_ne (Ne.symm nl)]; exact upd_same)
    rw [upd_ne hb, upd_ne (ne_of_none e hl0), upd_ne hb]
    exact e
  · refine ⟨_, rfl, _, rfl, .inl ⟨m, rfl, _, rfl, iteF ⟨_, rfl, _, _, rfl, rfl, _, rfl, ?_⟩⟩⟩
    by_cases h1 : m < 1
    · exact ifT (decide_eq_true h1) ⟨one, q⟩
    · exact ifF (decide_eq_false h1) ⟨_, rfl, _, _, rfl, rfl, _, rfl, ifT (decide_eq_true (by omega)) ⟨one, q⟩⟩
  · exact ⟨_, rfl, _, rfl, .inr ⟨t, ty, nw, _, rfl, iteT ⟨one, q⟩⟩⟩
abbrev sMany : Stmt := inClass (top 34) 1
theorem scMany : FnScope ["self"] ["self"] (defScope sMany) := ⟨rfl, rfl, rfl, by decide +kernel, rfl, by decide +kernel, by decide +kernel⟩
theorem ok_many {dV : Value} {CN : Addr} (F : FunD K "many" "Net.many" sMany dV f fd) (NTx : NT K mg CN) : FnOk P w K mg base CX 1 f fd ["self"] (spMany CN K) := by
  refine F.ok scMany (fun vs H Q E h => ?_) (fun cdv A outer s H vs Q E hr h => ?_)
  · obtain ⟨n, l, m, ds, rfl, ⟨⟨dx, hn⟩, ts, hl, hr'⟩, q⟩ := h
    rfl
  obtain ⟨n, l, m, ds, rfl, ⟨⟨dx, hn⟩, ts, hl, hr'⟩, q⟩ := h
  exact ⟨_, (pss_one (ps_ret (pe_fld (pv 0) rfl))), _, rfl, n, CN, dx, _, _, rfl, hn, NTx.cl, NTx.nP, nflds_pc _ _, q⟩
abbrev sCount : Stmt := inClass (top 34) 2
abbrev sNTold : Stmt := inClass (top 34) 6
theorem scNTold : FnScope ["self"] ["self"] (defScope sNTold) := ⟨rfl, rfl, rfl, by decide +kernel, rfl, by decide +kernel, by decide +kernel⟩
theorem ok_ntold {dV : Value} {CN : Addr} (F : FunD K "told" "Net.told" sNTold dV f fd) (NTx : NT K mg CN)
    (mli : mg "list" = none) : FnOk P w K mg base CX 1 f fd ["self"] (spNTold CN K) := by
  refine F.ok scNTold (fun vs H Q E h => ?_) (fun cdv A outer s H vs Q E hr h => ?_)
  · obtain ⟨n, l, m, ds, rfl, ⟨⟨dx, hn⟩, ts, hl, hr'⟩, q⟩ := h
    rfl
  obtain ⟨n, l, m, ds, rfl, ⟨⟨dx, hn⟩, ts, hl, hr'⟩, q⟩ := h
  refine ⟨_, (pss_one (ps_ret (pe_callTy call_list_of rfl mli PyProof.Rows.boot_list (pa_cons (pe_fld (pv 0) rfl) pa_nil)))), _, rfl, n, CN, dx, _, _, rfl, hn, NTx.cl, NTx.nK, nflds_kept _ _, l, ts, rfl, .inl (SqL.of hl), fun a ha => ?_⟩
  have sa := same_new ha (.lst ts)
  exact q a ts _ sa ha upd_same (hr'.same sa)
abbrev sAdd : Stmt := inClass (top 34) 3
theorem scAdd : FnScope ["self", "row", "told"] ["self", "row"] (defScope sAdd) := ⟨rfl, rfl, rfl, by decide +kernel, rfl, by decide +kernel, by decide +kernel⟩
theorem ok_add {dV : Value} {CN : Addr} (F : FunD K "add" "Net.add" sAdd dV f fd) (NTx : NT K mg CN)
    {tR : Tok} (mMR : mg "MOST_ROWS" = some (.int 40 tR)) (ml : mg "len" = none) {gT : Addr} {gdT : FuncData} (T : RT K mg CR CK) (GT : FnOk P w K mg base CX0 2 gT gdT ["self"] (spRTold CK)) (bT : Binds K gdT ["self"] []) (mT : ∀ k, Meth K (CK k) "told" gT)
    (G1 : FnOk P w K mg base CX0 3 g1 gd1 ["some", "many"] (spRP K)) (b1 : Binds K gd1 ["some", "many"] []) (k1 : PySem.W.keepIn K (.ref g1) = true) (m1 : mg "refuse_points" = some (.ref g1))
    (G2 : FnOk P w K mg base CX0 4 g2 gd2 ["word", "size"] (spRS K)) (b2 : Binds K gd2 ["word", "size"] []) (k2 : PySem.W.keepIn K (.ref g2) = true) (m2 : mg "refuse_size" = some (.ref g2)) : FnOk P w K mg base CX 5 f fd ["self", "row"] (spAdd CN K CK) := by
  refine F.ok scAdd (fun vs H Q E h => ?_) (fun cdv A outer s H vs Q E hr h => ?_)
  · obtain ⟨n, l, x, z, m, ds, k, i, j, p, rfl, ⟨⟨dx, hn⟩, ts, hl, hR⟩, rw, fz, ⟨i0, i1, j0, j1, lp, h0, bp⟩, h40, q⟩ := h
    rfl
  obtain ⟨n, l, x, z, m, ds, k, i, j, p, rfl, ⟨⟨dx, hn⟩, ts, hl, hR⟩, rw, fz, ⟨i0, i1, j0, j1, lp, h0, bp⟩, h40, q⟩ := h
  have r2 := hr.mono (show 2 ≤ 4 by omega)
  have r3 := hr.mono (show 3 ≤ 4 by omega)
  refine ⟨_, (pss_cons (ps_set (i := 2) scAdd.nd rfl (Or.inl rfl) (pe_methD0 (f := fun _ => gT) (fd := fun _ => gdT) (sp := fun _ => spRTold CK) (pv 1) T.cl mT (fun _ => GT) r2 (fun _ => bT) .nil pass0))
    (pss_cons (ps_expr (pe_call G1 r3 rfl m1 k1 b1 .nil pass0 (pa_cons (pe_lst (pa_cons (pe_ix ix_tup (pv 2) pe_int (fun _ _ => rfl)) (pa_cons (pe_ix ix_tup (pv 2) pe_int (fun _ _ => rfl)) pa_nil))) (pa_cons (pe_fld (pv 0) rfl) pa_nil))))
    (pss_cons (ps_expr (pe_call G2 hr rfl m2 k2 b2 .nil pass0 (pa_cons (pe_ix ix_tup (pv 2) pe_int (fun _ _ => rfl)) (pa_cons (pe_ix ix_tup (pv 2) pe_int (fun _ _ => rfl)) pa_nil))))
    (pss_cons (ps_if (pt_cmpR op_ge (pe_callB call_len_seq rfl ml PySem.boot_len (pa_cons (pe_fld (pv 0) rfl) pa_nil)) (pe_glob (v := .int 40) rfl mMR ⟨_, rfl⟩) (nomark _)) (pss_one ps_never) pss_nil)
    (pss_cons (ps_expr (pe_bm PySem.F.plainAttrs_list PySem.F.slot_list_append PySem.F.type_list_append mt_append (pe_fld (pv 0) rfl) (pa_cons (pv 2) pa_nil)))
    (pss_one (ps_ret (pe_op op_sub (pe_callB call_len_seq rfl ml PySem.boot_len (pa_cons (pe_fld (pv 0) rfl) pa_nil)) pe_int)))))))), ?_⟩
  obtain ⟨dr, hx⟩ := id rw
  have len := hR.length
  refine ⟨_, rfl, k, x, dr, _, rfl, hx, (rflds_no _ _ _ (by decide +kernel) (by decide +kernel) (by decide +kernel)), x, k, _, _, _, rfl, rw, fun t ht => ?_⟩
  have st := same_new ht (.tup [.str k.wd, .int i, .int j, .ref z])
  have et : SqT K (upd H t (.tup [.str k.wd, .int i, .int j, .ref z])) t [.str k.wd, .int i, .int j, .ref z] := SqT.of upd_same
  generalize upd H t (.tup [.str k.wd, .int i, .int j, .ref z]) = H1a at st et ⊢
  have hn1 := st _ _ hn
  have hl1 := st _ _ hl
  refine ⟨_, rfl, t, _, 1, _, rfl, rfl, et, rfl, _, rfl, t, _, 2, _, rfl, rfl, et, rfl, by show 2 ≤ sizeLine; decide, fun lq hlq => ?_⟩
  have sq := same_new hlq (.lst [.int i, .int j])
  have eq : upd H1a lq (.lst [.int i, .int j]) lq = some (.lst [.int i, .int j]) := upd_same
  generalize upd H1a lq (.lst [.int i, .int j]) = H1b at sq eq ⊢
  have hnb := sq _ _ hn1
  refine ⟨_, rfl, n, CN, dx, _, _, rfl, hnb, NTx.cl, NTx.nP, nflds_pc _ _, lq, i, j, m, rfl, SqL.of eq, i0, i1, j0, j1, fun H1 sc => ?_⟩
  have sqc := sq.trans sc
  have st := st.trans sqc
  have et := sqc.seqT et
  have hn1 := sqc _ _ hn1
  have hl1 := sqc _ _ hl1
  refine ⟨_, rfl, t, _, 0, _, rfl, rfl, et, rfl, _, rfl, t, _, 3, _, rfl, rfl, et, rfl, k, z, p, rfl, st.fq fz, lp, h0, bp, ?_⟩
  refine ⟨_, rfl, n, CN, dx, _, _, rfl, hn1, NTx.cl, NTx.nK, nflds_kept _ _, l, ts, rfl, .inl (SqL.of hl1), _, _, rfl, rfl, _, rfl, ifF (decide_eq_false (by omega)) ?_⟩
  refine ⟨_, rfl, n, CN, dx, _, _, rfl, hn1, NTx.cl, NTx.nK, nflds_kept _ _, .inl ⟨rfl, _, SqL.of hl1⟩, _, rfl, l, ts, .ref t, rfl, rfl, hl1, small1000 (by omega), ?_⟩
  have nn : n ≠ l := ne_of hn1 hl1 (fun z => by cases z)
  have hn2 : upd H1 l (.lst (ts ++ [.ref t])) n = some (.ins CN dx (nflds m l)) := by rw [upd_ne nn]; exact hn1
  have hl2 : upd H1 l (.lst (ts ++ [.ref t])) l = some (.lst (ts ++ [.ref t])) := upd_same
  refine ⟨_, rfl, n, CN, dx, _, _, rfl, hn2, NTx.cl, NTx.nK, nflds_kept _ _, l, _, rfl, .inl (SqL.of hl2), _, _, rfl, rfl, ?_⟩
  show Q (.int (((ts ++ [V.ref t]).length : Int) - 1)) _
  rw [List.length_append, List.length_singleton, len, show (((ds.length + 1 : Nat) : Int) - 1) = (ds.length : Int) by omega]
  refine q _ (st.x.write) ⟨⟨dx, hn2⟩, _, hl2, Rts.upd hl1 ((hR.same st).app (.cons et (st.fq fz) .nil))⟩
theorem rs_good {g CZ : Addr} {gd : FuncData} (F : FnOk P w K mg base (CX1 P w) 4 g gd ["word", "size"] (spRSV K CZ)) : FnOk P w K mg base CX0 4 g gd ["word", "size"] (spRS K) :=
  F.calm.weak fun vs H Q E h => by
    obtain ⟨k, z, p, rfl, f, l, p0, bd, q⟩ := h
    have ok : okz k (some p) = true := by cases k <;> first | exact decide_eq_true (p0 rfl) | rfl
    exact ⟨k, _, some p, rfl, .fr f l, fun p' e => by cases e; exact bd, fun _ => q, fun z => by rw [ok] at z; cases z⟩
end
end K82

set_option Elab.async false
set_option linter.all false
set_option maxRecDepth 100000
set_option maxHeartbeats 4000000
namespace K82
open PySem L2 Tx
section
variable {P : Program} {w : World} {K : PySem.W.Frag} {mg : Str → Option Value} {base : Heap} {f g1 g2 g3 g4 g5 g6 g7 g8 : Addr} {fd gd1 gd2 gd3 gd4 gd5 gd6 gd7 gd8 : FuncData} {CX : CXT}
variable {CR : Addr} {CK : Kd → Addr} {fW fJ fT fS : Kd → Addr} {fdW fdJ fdT fdS : Kd → FuncData}
def ltB (c : Nat) : Bool := decide (97 ≤ c ∧ c ≤ 122)
def nmB (cs : List Nat) : Bool := decide (1 ≤ cs.length ∧ cs.length ≤ 8) && cs.all ltB
theorem in_letters (c : Nat) : (!(Builtin.Str.occurrences "abcdefghijklmnopqrstuvwxyz" ⟨#[c]⟩ 0 ("abcdefghijklmnopqrstuvwxyz" : Str).length 1).isEmpty) = ltB c := by
  rw [StrLaws.found_one]
  unfold ltB
  rw [Bool.eq_iff_iff, decide_eq_true_eq, decide_eq_true_eq]
  have e : ("abcdefghijklmnopqrstuvwxyz" : Str).cps.toList = [97, 98, 99, 100, 101, 102, 103, 104, 105, 106, 107, 108, 109, 110, 111, 112, 113, 114, 115, 116, 117, 118, 119, 120, 121, 122] := by decide +kernel
  rw [e]
  simp only [List.mem_cons, List.not_mem_nil, or_false]
  omega
def NoStr (K : PySem.W.Frag) (H : Hp) (x : V) : Prop := ∃ t, TyQ K H x t ∧ PySem.W.kitOne K t (.type "str") = some false
def spName (K : PySem.W.Frag) : Sp := fun vs H Q _ => ∃ x, vs = [x] ∧ ((∃ cs, x = .str (S cs) ∧ cs.length ≤ 1000000 ∧ ∀ H', Same H H' → Q (.bl (nmB cs)) H') ∨ (NoStr K H x ∧ Q (.bl false) H))
theorem nd_sign : (["sign"] : List Str).Nodup := by decide +kernel
abbrev sName : Stmt := top 45
theorem scName : FnScope ["thing"] ["thing"] (defScope sName) := ⟨rfl, rfl, rfl, by decide +kernel, rfl, by decide +kernel, by decide +kernel⟩
theorem ok_name {dV : Value} (F : FunD K "is_name" "is_name" sName dV f fd)
    (b : Bl mg) (ms : mg "str" = none) (ml : mg "len" = none) (ma : mg "all" = none) {tL tM : Tok} (mLE : mg "LETTERS" = some (.str "abcdefghijklmnopqrstuvwxyz" tL)) (mML : mg "MOST_LETTERS" = some (.int 8 tM)) :
    FnOk P w K mg base CX 1 f fd ["thing"] (spName K) := by
  refine F.ok scName (fun vs H Q E h => ?_) (fun cdv A outer s H vs Q E hr h => ?_)
  · obtain ⟨x, rfl, h⟩ := h
    rfl
  obtain ⟨x, rfl, h⟩ := h
  refine ⟨_, (pss_cons (ps_if (PW.pt (pw_or (pt_not (pt_val (pe_isiQ (i := 0) rfl (Or.inl rfl) b.isi ms rfl rfl PyProof.Rows.boot_str))) (pw_or (pt_cmpR op_lt (pe_callB call_len_str rfl ml PySem.boot_len (pa_cons (pv 0) pa_nil)) pe_int (nomark _)) (pw_or1 (pt_cmpR op_gt (pe_callB call_len_str rfl ml PySem.boot_len (pa_cons (pv 0) pa_nil)) (pe_glob (v := .int 8) rfl mML ⟨_, rfl⟩) (nomark _)))))) (pss_one (ps_ret pe_bl)) pss_nil)
    (pss_one (ps_ret (pe_callB (call_all rfl) rfl ma PyProof.Rows.boot_all (pa_cons (pe_comp (nl := 1) (fr := []) (Nc := ["sign"]) (cl := []) rfl ⟨rfl, rfl, by decide +kernel, by decide +kernel, fun x c h => (by cases h), has_of rfl, rfl, fun i n h => (by simp at h)⟩
        (pi_str (pv 0)) (fun C s3 H3 fp pins => (pg_name (i := 0) nd_sign rfl (Or.inl rfl))) (fun C s3 H3 fp pins => pif_nil)
        (fun C s3 H3 fp pins => (pe_cmpR op_in_str (pv 0) (pe_glob (v := .str "abcdefghijklmnopqrstuvwxyz") rfl mLE ⟨_, rfl⟩) rfl))) pa_nil))))), ?_⟩
  have hz : sizeLine = 16777216 := sizeLine_eq
  rcases h with ⟨cs, rfl, hl, q⟩ | ⟨⟨t, ty, nw⟩, q⟩
  rotate_left
  · exact ⟨_, _, false, rfl, ty, nw, _, rfl, iteT q⟩
  refine ⟨_, _, true, rfl, .of (.str _), (by with_unfolding_all rfl), _, rfl, iteF ?_⟩
  have no : ¬ (1 ≤ cs.length ∧ cs.length ≤ 8) → Q (.bl false) H := fun c => by
    have := q H (Same.refl H)
    unfold nmB at this
    rw [decide_eq_false c, Bool.false_and] at this
    exact this
  refine ⟨_, rfl, _, rfl, by rw [S_len]; omega, _, _, rfl, rfl, _, rfl, ?_⟩
  rw [S_len]
  refine ite2 (fun c => ?_) (fun c => ?_)
  · have c' := of_decide_eq_true c
    exact no (by omega)
  have c1 : 1 ≤ cs.length := by
    simp only [decide_eq_true_eq] at c
    omega
  refine ⟨_, rfl, _, rfl, by rw [S_len]; omega, _, _, rfl, rfl, _, rfl, ?_⟩
  rw [S_len]
  refine ite2 (fun c => ?_) (fun c => ?_)
  · have c' := of_decide_eq_true c
    exact no (by omega)
  have c2 : cs.length ≤ 8 := by
    simp only [decide_eq_true_eq] at c
    omega
  refine ⟨_, rfl, _, rfl, fun D hD => ?_⟩
  have sD := same_new hD (.lst [])
  refine comp_str (fun i ys H' => Same H H' ∧ H' D = some (.lst ys) ∧ ys = (cs.take i).map (fun c => V.bl (ltB c))) ⟨sD, upd_same, rfl⟩ (fun i ys H' h => h.2.1) ?_ ?_
  · rintro i ys c H1 hc ⟨s1, e1, rfl⟩ C hC
    refine ⟨keep1.1, keep1.2, iteT ?_⟩
    refine ⟨_, rfl, _, _, rfl, rfl, ?_⟩
    rw [in_letters]
    have hi : i < cs.length := (List.getElem?_eq_some_iff.mp hc).1
    refine ⟨e1, by simp only [List.length_map, List.length_take]; omega, hC _ _ ⟨s1.change hD, upd_same, ?_⟩⟩
    rw [List.take_succ, hc, List.map_append]
    rfl
  · rintro ys H1 ⟨s1, e1, rfl⟩
    refine ⟨D, cs.map ltB, rfl, ?_, ?_⟩
    · rw [List.take_length] at e1
      rw [List.map_map]
      exact SqL.of e1
    · have := q H1 s1
      unfold nmB at this
      rw [decide_eq_true ⟨c1, c2⟩, Bool.true_and] at this
      rw [List.all_map]
      exact this
def spRNames (K : PySem.W.Frag) (CM : Addr) : Sp := fun vs H Q E => ∃ (l : Addr) (X : List (List Nat)), vs = [.ref l] ∧ SqL K H l (X.map fun cs => V.str (S cs)) ∧ X.length ≤ 1000 ∧ (∀ cs ∈ X, cs.length ≤ 1000000) ∧ ∀ H', Same H H' → (X.all nmB = true → Q .non H') ∧ (X.all nmB = false → E (.ref CM) none H')
theorem nd_word : (["word"] : List Str).Nodup := by decide +kernel
abbrev sRNames : Stmt := top 50
theorem scRNames : FnScope ["words"] ["words"] (defScope sRNames) := ⟨rfl, rfl, rfl, by decide +kernel, rfl, by decide +kernel, by decide +kernel⟩
theorem ok_rnames {dV : Value} (F : FunD K "refuse_names" "refuse_names" sRNames dV f fd)
    {CM : Addr} (ma : mg "all" = none)
    (G1 : FnOk P w K mg base CX0 1 g1 gd1 ["thing"] (spName K)) (b1 : Binds K gd1 ["thing"] []) (k1 : PySem.W.keepIn K (.ref g1) = true) (m1 : mg "is_name" = some (.ref g1))
    (mN : mg "NoName" = some (.ref CM)) (xN : ExcC K CM) :
    FnOk P w K mg base (CX1 P w) 2 f fd ["words"] (spRNames K CM) := by
  refine F.okX scRNames (fun vs H Q E h => ?_) (fun cdv A outer s H vs Q E hr h => ?_)
  · obtain ⟨l, X, rfl, hl, h1000, hX, q⟩ := h
    rfl
  obtain ⟨l, X, rfl, hl, h1000, hX, q⟩ := h
  refine ⟨_, (pss_one (ps_if (pt_not (pt_val (pe_callB (call_all rfl) rfl ma PyProof.Rows.boot_all (pa_cons (pe_comp (nl := 1) (fr := []) (Nc := ["word"]) (cl := []) rfl ⟨rfl, rfl, by decide +kernel, by decide +kernel, fun x c h => (by cases h), has_of rfl, rfl, fun i n h => (by simp at h)⟩
        (pi_list (pv 0)) (fun C s3 H3 fp pins => (pg_name (i := 0) nd_word rfl (Or.inl rfl))) (fun C s3 H3 fp pins => pif_nil)
        (fun C s3 H3 fp pins => (pe_call G1 hr rfl m1 k1 b1 .nil pass0 (pa_cons (pv 0) pa_nil)))) pa_nil)))) (pss_one (ps_raise frm_cxOf xe_cxOf rfl rfl mN xN (pa_cons pe_str pa_nil))) pss_nil)), ?_⟩
  refine ⟨_, rfl, l, rfl, ⟨_, hl⟩, fun D hD => ?_⟩
  have sD := same_new hD (.lst [])
  refine comp_list (xs := X.map fun cs => V.str (S cs)) (fun k zs H' => Same H H' ∧ H' D = some (.lst zs) ∧ zs = (X.take k).map fun cs => V.bl (nmB cs)) ⟨sD, upd_same, rfl⟩ (fun k zs H' h => h.2.1) (fun k zs H' _ h => h.1.seq hl) ?_ ?_
  · rintro k zs x H1 hx ⟨s1, e1, rfl⟩ C hC
    have hk : k < X.length := by have := (List.getElem?_eq_some_iff.mp hx).1; rw [List.length_map] at this; exact this
    obtain ⟨cs, hcs⟩ : ∃ cs, X[k]? = some cs := ⟨_, List.getElem?_eq_getElem hk⟩
    have ex : x = .str (S cs) := by rw [List.getElem?_map, hcs] at hx; cases hx; rfl
    subst ex
    refine ⟨keep1.1, keep1.2, iteT ?_⟩
    refine ⟨_, rfl, _, rfl, .inl ⟨cs, rfl, hX cs (List.mem_of_getElem? hcs), fun H2 s2 => ?_⟩⟩
    refine ⟨s2 _ _ e1, small1000 (by rw [List.length_map, List.length_take]; omega), hC _ _ ⟨(s1.trans s2).change hD, upd_same, ?_⟩⟩
    rw [List.take_add_one, hcs, List.map_append]; rfl
  · rintro zs H1 ⟨s1, e1, rfl⟩
    rw [List.length_map, List.take_length] at e1
    refine ⟨D, X.map nmB, rfl, by rw [List.map_map]; exact SqL.of e1, _, rfl, ?_⟩
    rw [show (X.map nmB).all id = X.all nmB by rw [List.all_map]; rfl]
    cases e : X.all nmB with
    | true => exact iteF ((q _ s1).1 e)
    | false => exact iteT ⟨by show 1 ≤ sizeLine; decide, (q _ s1).2 e⟩
end
end K82

set_option Elab.async false
set_option linter.all false
set_option maxRecDepth 100000
set_option maxHeartbeats 4000000
namespace K82
open PySem L2 Tx
section
variable {P : Program} {w : World} {K : PySem.W.Frag} {mg : Str → Option Value} {base : Heap} {f g1 g2 g3 g4 g5 g6 g7 g8 : Addr} {fd gd1 gd2 gd3 gd4 gd5 gd6 gd7 gd8 : FuncData} {CX : CXT}
variable {CR : Addr} {CK : Kd → Addr} {fW fJ fT fS : Kd → Addr} {fdW fdJ fdT fdS : Kd → FuncData}
def spWordsX (K : PySem.W.Frag) (CR : Addr) : Sp := fun vs H Q E => ∃ x, vs = [x] ∧ ((∃ (xs : List (List Nat)), x = .str (S (jnc 32 xs)) ∧ xs ≠ [] ∧ (∀ x ∈ xs, 32 ∉ x) ∧ (jnc 32 xs).length ≤ 1000000 ∧ ∀ l H', Same H H' → H l = none → H' l = some (.lst (xs.map fun x => V.str (S x))) → Q (.ref l) H') ∨ (NoStr K H x ∧ E (.ref CR) none H))
def rowW : List Str := ["piece", "push", "hold"]
structure NoPt (w : Str) : Prop where
  a : w ≠ "part"
  b : w ≠ "put"
  c : w ≠ "done"
def spFormX : Sp := fun vs H Q _ => ∃ (w : Str) (n : Int), vs = [.str w, .int n] ∧ NoPt w ∧ Q (.bl (decide (w ∈ rowW) && decide (n = 4))) H
def spRFormX (K : PySem.W.Frag) (CR : Addr) : Sp := fun vs H Q E => ∃ (l : Addr) (w : Str) (r : List V), vs = [.ref l] ∧ SqL K H l (.str w :: r) ∧ r.length ≤ 1000000 ∧ NoPt w ∧ ((decide (w ∈ rowW) && decide (r.length = 3)) = true → Q .non H) ∧ ((decide (w ∈ rowW) && decide (r.length = 3)) = false → E (.ref CR) none H)
theorem mod3 {K : PySem.W.Frag} {a : Addr} {d : Option Addr} {n : Nat} {sl : Array (Option Value)} {x y z : Str} {t u v : Tok} (l : K.lookup a = some ⟨.type "tuple", d, .seq #[.str x t, .str y u, .str z v] n, sl⟩) (H : Hp) : SqT K H a [.str x, .str y, .str z] :=
  .inr ⟨_, _, _, l, rfl, rfl, (by show 3 ≤ sizeLine; decide), .cons ⟨_, rfl⟩ (.cons ⟨_, rfl⟩ (.cons ⟨_, rfl⟩ .nil))⟩
theorem eqV_str (p c : Str) : eqV (.str p) (.str c) = decide (p = c) := by unfold eqV; first | rfl | simp
theorem inV_strs (c : Str) : ∀ ps : List Str, inV (.str c) (ps.map V.str) = decide (c ∈ ps)
  | [] => rfl
  | p :: ps => by
    have ih := inV_strs c ps
    show (eqV (.str p) (.str c) || inV (.str c) (ps.map V.str)) = _
    rw [ih, eqV_str]
    by_cases h : p = c
    · subst h; simp
    · have h' : c ≠ p := fun z => h z.symm
      simp [h, h']
abbrev sWords : Stmt := top 47
theorem scWords : FnScope ["row"] ["row"] (defScope sWords) := ⟨rfl, rfl, rfl, by decide +kernel, rfl, by decide +kernel, by decide +kernel⟩
theorem ok_words {dV : Value} (F : FunD K "words_of" "words_of" sWords dV f fd)
    {CR' : Addr} (b : Bl mg) (ms : mg "str" = none) (mN : mg "NoRow" = some (.ref CR')) (xN : ExcC K CR') :
    FnOk P w K mg base (CX1 P w) 1 f fd ["row"] (spWordsX K CR') := by
  refine F.okX scWords (fun vs H Q E h => ?_) (fun cdv A outer s H vs Q E hr h => ?_)
  · obtain ⟨x, rfl, h⟩ := h
    rfl
  obtain ⟨x, rfl, h⟩ := h
  refine ⟨_, (pss_cons (ps_if (pt_not (pt_val (pe_isiQ (i := 0) rfl (Or.inl rfl) b.isi ms rfl rfl PyProof.Rows.boot_str))) (pss_one (ps_raise frm_cxOf xe_cxOf rfl rfl mN xN (pa_cons pe_str pa_nil))) pss_nil)
    (pss_one (ps_ret (pe_bm PySem.F.plainAttrs_str PySem.F.slot_str_split PySem.F.type_str_split mt_split (pv 0) (pa_cons pe_str pa_nil))))), ?_⟩
  have hz : sizeLine = 16777216 := sizeLine_eq
  rcases h with ⟨xs, rfl, h0, h32, hl, q⟩ | ⟨⟨t, ty, nw⟩, q⟩
  rotate_left
  · exact ⟨_, _, false, rfl, ty, nw, _, rfl, iteT ⟨by show 1 ≤ sizeLine; decide, q⟩⟩
  refine ⟨_, _, true, rfl, .of (.str _), (by with_unfolding_all rfl), _, rfl, iteF ?_⟩
  refine ⟨_, rfl, rfl, _, _, rfl, rfl, by decide, by rw [S_len]; omega, fun D hD => ?_⟩
  rw [show (" " : Str) = ⟨#[32]⟩ by decide +kernel, split_is h0 h32]
  exact q D _ (same_new hD _) hD (by rw [upd_same, List.map_map]; rfl)
abbrev sForm : Stmt := top 49
theorem scForm : FnScope ["word", "count"] ["word", "count"] (defScope sForm) := ⟨rfl, rfl, rfl, by decide +kernel, rfl, by decide +kernel, by decide +kernel⟩
theorem ok_form {dV : Value} (F : FunD K "has_form" "has_form" sForm dV f fd)
    {aW : Addr} (hW : ∀ H, SqT K H aW [.str "piece", .str "push", .str "hold"]) (mRW : mg "ROW_WORDS" = some (.ref aW)) :
    FnOk P w K mg base CX 1 f fd ["word", "count"] spFormX := by
  refine F.ok scForm (fun vs H Q E h => ?_) (fun cdv A outer s H vs Q E hr h => ?_)
  · obtain ⟨w, n, rfl, np, q⟩ := h
    rfl
  obtain ⟨w, n, rfl, np, q⟩ := h
  refine ⟨_, (pss_cons (ps_if (pt_cmpR op_in_seq (pv 0) (pe_glob (v := .ref aW) rfl mRW rfl) rfl) (pss_one (ps_ret (pe_cmpR op_eq (pv 1) pe_int (nomark _)))) pss_nil)
    (pss_cons (ps_if (pt_cmpR op_eq (pv 0) pe_str (nomark _)) (pss_one (ps_ret (pe_cmpR op_ge (pv 1) pe_int (nomark _)))) pss_nil)
    (pss_cons (ps_if (pt_cmpR op_eq (pv 0) pe_str (nomark _)) (pss_one (ps_ret (pe_cmpR op_ge (pv 1) pe_int (nomark _)))) pss_nil)
    (pss_one (ps_ret (pe_and (pe_cmpR op_eq (pv 0) pe_str (nomark _)) (pe_one (pe_cmpR op_eq (pv 1) pe_int (nomark _))))))))), ?_⟩
  refine ⟨_, rfl, aW, rowW.map V.str, rfl, .inr (hW _), rfl, rfl, _, rfl, ?_⟩
  show (if inV (.str w) (rowW.map V.str) = true then _ else _)
  rw [inV_strs]
  have e : ∀ x : Str, w ≠ x → decide (V.str w = V.str x) = false := fun x h => decide_eq_false (fun z => h (by injection z))
  by_cases hw : w ∈ rowW
  · refine L2.ifT (decide_eq_true hw) ⟨_, rfl, rfl, ?_⟩
    rw [decide_eq_true hw, Bool.true_and] at q
    show Q (.bl (decide (V.int n = V.int 4))) H
    rw [show decide (V.int n = V.int 4) = decide (n = 4) from decide_eq_decide.mpr ⟨fun z => by injection z, fun z => by rw [z]⟩]
    exact q
  · refine L2.ifF (decide_eq_false hw) ?_
    rw [decide_eq_false hw, Bool.false_and] at q
    refine ⟨_, rfl, rfl, _, rfl, L2.ifF (e _ np.a) ?_⟩
    refine ⟨_, rfl, rfl, _, rfl, L2.ifF (e _ np.b) ?_⟩
    exact ⟨_, rfl, rfl, _, rfl, L2.ifF (e _ np.c) q⟩
abbrev sRForm : Stmt := top 48
theorem scRForm : FnScope ["words"] ["words"] (defScope sRForm) := ⟨rfl, rfl, rfl, by decide +kernel, rfl, by decide +kernel, by decide +kernel⟩
theorem ok_rform {dV : Value} (F : FunD K "refuse_form" "refuse_form" sRForm dV f fd)
    {CR' : Addr} (ml : mg "len" = none)
    (G1 : FnOk P w K mg base CX0 1 g1 gd1 ["word", "count"] spFormX) (b1 : Binds K gd1 ["word", "count"] []) (k1 : PySem.W.keepIn K (.ref g1) = true) (m1 : mg "has_form" = some (.ref g1))
    (mN : mg "NoRow" = some (.ref CR')) (xN : ExcC K CR') :
    FnOk P w K mg base (CX1 P w) 2 f fd ["words"] (spRFormX K CR') := by
  refine F.okX scRForm (fun vs H Q E h => ?_) (fun cdv A outer s H vs Q E hr h => ?_)
  · obtain ⟨l, w, r, rfl, hl, h6, np, q1, q2⟩ := h
    rfl
  obtain ⟨l, w, r, rfl, hl, h6, np, q1, q2⟩ := h
  refine ⟨_, (pss_one (ps_if (pt_not (pt_val (pe_call G1 hr rfl m1 k1 b1 .nil pass0 (pa_cons (pe_ix ix_list (pv 0) pe_int (fun _ _ => rfl)) (pa_cons (pe_callB call_len_seq rfl ml PySem.boot_len (pa_cons (pv 0) pa_nil)) pa_nil))))) (pss_one (ps_raise frm_cxOf xe_cxOf rfl rfl mN xN (pa_cons pe_str pa_nil))) pss_nil)), ?_⟩
  refine ⟨_, rfl, l, _, _, _, rfl, rfl, hl, atI_nat (j := 0) rfl, _, rfl, l, _, rfl, .inl hl, w, _, rfl, np, _, rfl, ?_⟩
  have e : decide ((((V.str w :: r).length : Nat) : Int) = 4) = decide (r.length = 3) := decide_eq_decide.mpr (by rw [List.length_cons]; omega)
  rw [e]
  cases c : (decide (w ∈ rowW) && decide (r.length = 3)) with
  | true => exact iteF (q1 c)
  | false => exact iteT ⟨by show 1 ≤ sizeLine; decide, q2 c⟩
end
end K82

set_option Elab.async false
set_option linter.all false
set_option maxRecDepth 100000
set_option maxHeartbeats 4000000
namespace K82
open PySem L2 Tx
section
variable {P : Program} {w : World} {K : PySem.W.Frag} {mg : Str → Option Value} {base : Heap} {f g1 g2 g3 g4 g5 g6 g7 g8 : Addr} {fd gd1 gd2 gd3 gd4 gd5 gd6 gd7 gd8 : FuncData} {CX : CXT}
variable {CR : Addr} {CK : Kd → Addr} {fW fJ fT fS : Kd → Addr} {fdW fdJ fdT fdS : Kd → FuncData}
def spPInit (CP : Addr) (K : PySem.W.Frag) : Sp := fun vs H Q _ => ∃ (g dg a : Addr) (e : Int) (ls : List Str), vs = [.ref g, .ref a, .int e] ∧ H g = some (.ins CP dg []) ∧ SqL K H a (ls.map V.str) ∧ g ≠ a ∧
  ∀ l t p H', (∀ b o, H b = some o → b ≠ g → H' b = some o) → H l = none → H t = none → H p = none → H' g = some (.ins CP dg (pfl l e t p)) → H' l = some (.lst (ls.map V.str)) → H' t = some (.lst []) → H' p = some (.lst []) → l ≠ t → l ≠ p → t ≠ p → Q .non H'
def spPCopy (CP : Addr) : Sp := fun vs H Q _ => ∃ (g l t p : Addr) (e : Int) (ls : List Str) (es ps : List V), vs = [.ref g] ∧ PlAt CP H g l e t p ls es ps ∧
  ∀ g' l' t' p' H', Same H H' → H g' = none → H l' = none → H t' = none → H p' = none → PlAt CP H' g' l' e t' p' ls es ps → Q (.ref g') H'
def lput (ls : List Str) (x : Str) : List Str := if x ∈ ls then ls else ls ++ [x]
def spPlace (CP : Addr) : Sp := fun vs H Q _ => ∃ (g l t p : Addr) (e : Int) (ls : List Str) (es ps : List V) (x : Str), vs = [.ref g, .str x] ∧ PlAt CP H g l e t p ls es ps ∧ ls.length ≤ 500 ∧
  ∀ (j : Nat) H', SameX l H H' → PlAt CP H' g l e t p (lput ls x) es ps → (lput ls x)[j]? = some x → Q (.int (j : Int)) H'
def spEnter (CP : Addr) (K : PySem.W.Frag) : Sp := fun vs H Q _ => ∃ (g l t p : Addr) (e : Int) (ls : List Str) (es ps : List V) (wd x y : Str) (z : V), vs = [.ref g, .str wd, .str x, .str y, z] ∧ PlAt CP H g l e t p ls es ps ∧ ls.length ≤ 400 ∧ es.length ≤ 500 ∧
  ∀ (i j : Nat) u H', (∀ b o, H b = some o → b ≠ l → b ≠ t → H' b = some o) → SqT K H' u [.str wd, .int (i : Int), .int (j : Int), z] → (lput (lput ls x) y)[i]? = some x → (lput (lput ls x) y)[j]? = some y → PlAt CP H' g l e t p (lput (lput ls x) y) (es ++ [.ref u]) ps → Q .non H'
def spOver (CP : Addr) : Sp := fun vs H Q _ => ∃ (g l t p : Addr) (e : Int) (ls : List Str) (es ps : List V), vs = [.ref g] ∧ PlAt CP H g l e t p ls es ps ∧ Q (.bl (decide (20 < ls.length) || decide (40 < es.length))) H
theorem first_at (x : Str) : ∀ (ls : List Str), x ∈ ls → ∃ j, ls[j]? = some x ∧ (∀ i, i < j → ls[i]? ≠ some x) ∧ j < ls.length
  | [], h => by cases h
  | a :: r, h => by
    by_cases e : a = x
    · exact ⟨0, by rw [e]; rfl, fun i hi => by omega, by simp⟩
    · obtain ⟨j, h1, h2, h3⟩ := first_at x r (by rcases List.mem_cons.mp h with z | z; exact absurd z.symm e; exact z)
      refine ⟨j + 1, h1, fun i hi => ?_, by simp; omega⟩
      cases i with
      | zero => intro z; exact e (by simpa using z)
      | succ i => exact h2 i (by omega)
theorem lput_in (ls : List Str) (x : Str) : x ∈ lput ls x := by
  unfold lput
  by_cases h : x ∈ ls
  · rw [if_pos h]; exact h
  · rw [if_neg h]; simp
theorem lput_len (ls : List Str) (x : Str) : (lput ls x).length ≤ ls.length + 1 := by
  unfold lput
  by_cases h : x ∈ ls
  · rw [if_pos h]; omega
  · rw [if_neg h]; simp
theorem lput_keep {ls : List Str} {x : Str} (y : Str) {i : Nat} (h : ls[i]? = some x) : (lput ls y)[i]? = some x := by
  unfold lput
  by_cases c : y ∈ ls
  · rw [if_pos c]; exact h
  · rw [if_neg c, List.getElem?_append_left (List.getElem?_eq_some_iff.mp h).1]; exact h
theorem flat_strs : ∀ ps : List Str, (ps.map V.str).all flatV = true
  | [] => rfl
  | p :: ps => by show (true && (ps.map V.str).all flatV) = true; rw [flat_strs ps]; rfl
abbrev sPInit : Stmt := inClass (top 39) 0
theorem scPInit : FnScope ["self", "labels", "end_count"] ["self", "labels", "end_count"] (defScope sPInit) := ⟨rfl, rfl, rfl, by decide +kernel, rfl, by decide +kernel, by decide +kernel⟩
theorem ok_pinit {dV : Value} {CP : Addr} (F : FunD K "__init__" "Plan.__init__" sPInit dV f fd) (PTx : PlT K mg CP)
    (mli : mg "list" = none) : FnOk P w K mg base CX 1 f fd ["self", "labels", "end_count"] (spPInit CP K) := by
  refine F.ok scPInit (fun vs H Q E h => ?_) (fun cdv A outer s H vs Q E hr h => ?_)
  · obtain ⟨g, dg, a, e, ls, rfl, hg, hA, nga, q⟩ := h
    rfl
  obtain ⟨g, dg, a, e, ls, rfl, hg, hA, nga, q⟩ := h
  refine ⟨_, (pss_cons (ps_fld (pv 0) (pe_callTy call_list_of rfl mli PyProof.Rows.boot_list (pa_cons (pv 1) pa_nil)) rfl)
    (pss_cons (ps_fld (pv 0) (pv 2) rfl)
    (pss_cons (ps_fld (pv 0) (pe_lst pa_nil) rfl)
    (pss_one (ps_fld (pv 0) (pe_lst pa_nil) rfl))))), ?_⟩
  refine ⟨_, rfl, a, _, rfl, .inl hA, fun l hl => ?_⟩
  have nl : g ≠ l := fun z => by rw [z, hl] at hg; cases hg
  have s1 := same_new hl (.lst (ls.map V.str))
  have e1 : upd H l (.lst (ls.map V.str)) l = some (.lst (ls.map V.str)) := upd_same
  have g1' := s1 _ _ hg
  generalize upd H l (.lst (ls.map V.str)) = H1 at s1 e1 g1' ⊢
  refine ⟨_, rfl, g, CP, dg, [], rfl, g1', PTx.cl, PTx.nl, by show 0 < 1000; decide, ?_⟩
  have l1 := length_putF ("labels" : Str) (.ref l) []
  simp only [List.length_nil] at l1
  refine ⟨_, rfl, _, rfl, g, CP, dg, putF "labels" (.ref l) [], rfl, upd_same, PTx.cl, PTx.ne, by omega, ?_⟩
  have l2 := length_putF ("end_count" : Str) (.int e) (putF "labels" (.ref l) [])
  refine ⟨by show 0 ≤ sizeLine; decide, fun t ht => ?_⟩
  have nt : g ≠ t := fun z => by rw [← z, upd_same] at ht; cases ht
  have ht1 : H1 t = none := by rw [upd_ne (Ne.symm nt), upd_ne (Ne.symm nt)] at ht; exact ht
  refine ⟨_, rfl, g, CP, dg, putF "end_count" (.int e) (putF "labels" (.ref l) []), rfl, (by rw [upd_ne nt]; exact upd_same), PTx.cl, PTx.nt, by omega, ?_⟩
  have l3 := length_putF ("entries" : Str) (.ref t) (putF "end_count" (.int e) (putF "labels" (.ref l) []))
  refine ⟨by show 0 ≤ sizeLine; decide, fun p hp => ?_⟩
  have np : g ≠ p := fun z => by rw [← z, upd_same] at hp; cases hp
  have ntp : t ≠ p := fun z => by rw [← z, upd_ne (Ne.symm nt), upd_same] at hp; cases hp
  have hp1 : H1 p = none := by rw [upd_ne (Ne.symm np), upd_ne (Ne.symm ntp), upd_ne (Ne.symm np), upd_ne (Ne.symm np)] at hp; exact hp
  refine ⟨_, rfl, g, CP, dg, putF "entries" (.ref t) (putF "end_count" (.int e) (putF "labels" (.ref l) [])), rfl, (by rw [upd_ne np]; exact upd_same), PTx.cl, PTx.np, by omega, ?_⟩
  rw [pfl_make]
  have nlt : l ≠ t := ne_of_none e1 ht1
  have nlp : l ≠ p := ne_of_none e1 hp1
  refine q l t p _ (fun b o h nb => ?_) hl (s1.free ht1) (s1.free hp1) upd_same ?_ ?_ ?_ nlt nlp ntp
  · have hb := s1 _ _ h
    rw [upd_ne nb, upd_ne (ne_of_none hb hp1), upd_ne nb, upd_ne (ne_of_none hb ht1), upd_ne nb, upd_ne nb]
    exact hb
  · rw [upd_ne (Ne.symm nl), upd_ne nlp, upd_ne (Ne.symm nl), upd_ne nlt, upd_ne (Ne.symm nl), upd_ne (Ne.symm nl)]
    exact e1
  · rw [upd_ne (Ne.symm nt), upd_ne ntp, upd_ne (Ne.symm nt)]
    exact upd_same
  · rw [upd_ne (Ne.symm np)]
    exact upd_same
abbrev sPCopy : Stmt := inClass (top 39) 1
theorem scPCopy : FnScope ["self", "made"] ["self"] (defScope sPCopy) := ⟨rfl, rfl, rfl, by decide +kernel, rfl, by decide +kernel, by decide +kernel⟩
theorem ok_pcopy {dV : Value} {CP : Addr} (F : FunD K "copy" "Plan.copy" sPCopy dV f fd) (PTx : PlT K mg CP)
    (mli : mg "list" = none)
    {gPI : Addr} {gdPI : FuncData} (GPI : FnOk P w K mg base CX0 1 gPI gdPI ["self", "labels", "end_count"] (spPInit CP K)) (bPI : Binds K gdPI ["self", "labels", "end_count"] []) (MP : Mk K CP gPI) : FnOk P w K mg base CX 3 f fd ["self"] (spPCopy CP) := by
  refine F.ok scPCopy (fun vs H Q E h => ?_) (fun cdv A outer s H vs Q E hr h => ?_)
  · obtain ⟨g, l, t, p, e, ls, es, ps, rfl, PA, q⟩ := h
    rfl
  obtain ⟨g, l, t, p, e, ls, es, ps, rfl, PA, q⟩ := h
  obtain ⟨⟨dg, hg⟩, hl, ht, hp, lt, lp, tp⟩ := PA
  refine ⟨_, (pss_cons (ps_set (i := 1) scPCopy.nd rfl (Or.inl rfl) (pe_make MP GPI hr rfl PTx.mP bPI .nil pass0 (pa_cons (pe_fld (pv 0) rfl) (pa_cons (pe_fld (pv 0) rfl) pa_nil))))
    (pss_cons (ps_fld (pv 1) (pe_callTy call_list_of rfl mli PyProof.Rows.boot_list (pa_cons (pe_fld (pv 0) rfl) pa_nil)) rfl)
    (pss_cons (ps_fld (pv 1) (pe_callTy call_list_of rfl mli PyProof.Rows.boot_list (pa_cons (pe_fld (pv 0) rfl) pa_nil)) rfl)
    (pss_one (ps_ret (pv 1)))))), ?_⟩
  refine ⟨_, rfl, g, CP, dg, _, _, rfl, hg, PTx.cl, PTx.nl, pfl_l _ _ _ _, _, rfl, g, CP, dg, _, _, rfl, hg, PTx.cl, PTx.ne, pfl_e _ _ _ _, fun x dx h1 h2 ne => ?_⟩
  have hgx : ∀ b o, H b = some o → (upd (upd H dx (.own x)) x (.ins CP dx [])) b = some o := fun b o h => by rw [upd_ne (ne_of_none h h1), upd_ne (ne_of_none h h2)]; exact h
  refine ⟨x, dx, l, e, ls, rfl, upd_same, SqL.of (hgx _ _ hl), Ne.symm (ne_of_none hl h1), fun l1 t1 p1 H2 keep nl nt np hx hl1 ht1 hp1 a1 a2 a3 => ⟨rfl, ?_⟩⟩
  have s2 : Same H H2 := fun b o h => keep b o (hgx b o h) (ne_of_none h h1)
  have nn : ∀ b, (upd (upd H dx (.own x)) x (.ins CP dx [])) b = none → H b = none := fun b h => by
    cases o : H b with
    | none => rfl
    | some o' => rw [hgx _ _ o] at h; cases h
  have nxl : x ≠ l1 := fun z => by rw [← z, upd_same] at nl; cases nl
  clear keep
  refine ⟨_, rfl, g, CP, dg, _, _, rfl, (s2 _ _ hg), PTx.cl, PTx.nt, pfl_t _ _ _ _, t, es, rfl, .inl (SqL.of (s2 _ _ ht)), fun t2 ht2 => ?_⟩
  have s3 := same_new ht2 (.lst es)
  have e3 : upd H2 t2 (.lst es) t2 = some (.lst es) := upd_same
  generalize upd H2 t2 (.lst es) = H3 at s3 e3 ⊢
  refine ⟨_, rfl, x, CP, dx, pfl l1 e t1 p1, rfl, (s3 _ _ hx), PTx.cl, PTx.nt, by show 4 < 1000; decide, ?_⟩
  rw [pfl_en]
  have nxg : g ≠ x := ne_of_none hg h1
  have nxt2 : x ≠ t2 := ne_of_none hx ht2
  have n12 : l1 ≠ t2 := ne_of_none hl1 ht2
  have hx3 : upd H3 x (.ins CP dx (pfl l1 e t2 p1)) x = some (.ins CP dx (pfl l1 e t2 p1)) := upd_same
  have s4 : Same H (upd H3 x (.ins CP dx (pfl l1 e t2 p1))) := (s2.trans s3).change h1
  have hl3 : upd H3 x (.ins CP dx (pfl l1 e t2 p1)) l1 = some (.lst (ls.map V.str)) := by rw [upd_ne (Ne.symm nxl)]; exact s3 _ _ hl1
  have ht3 : upd H3 x (.ins CP dx (pfl l1 e t2 p1)) t2 = some (.lst es) := by rw [upd_ne (Ne.symm nxt2)]; exact e3
  generalize upd H3 x (.ins CP dx (pfl l1 e t2 p1)) = H4 at hx3 s4 hl3 ht3 ⊢
  refine ⟨_, rfl, g, CP, dg, _, _, rfl, (s4 _ _ hg), PTx.cl, PTx.np, pfl_p _ _ _ _, p, ps, rfl, .inl (SqL.of (s4 _ _ hp)), fun p2 hp2 => ?_⟩
  have s5 := same_new hp2 (.lst ps)
  have e5 : upd H4 p2 (.lst ps) p2 = some (.lst ps) := upd_same
  generalize upd H4 p2 (.lst ps) = H5 at s5 e5 ⊢
  refine ⟨_, rfl, x, CP, dx, pfl l1 e t2 p1, rfl, (s5 _ _ hx3), PTx.cl, PTx.np, by show 4 < 1000; decide, ?_⟩
  rw [pfl_pn]
  have nxp2 : x ≠ p2 := ne_of_none hx3 hp2
  refine ⟨_, rfl, q x l1 t2 p2 _ ((s4.trans s5).change h1) h1 (nn _ nl) (s2.free ht2) (s4.free hp2) ⟨⟨dx, upd_same⟩, ?_, ?_, ?_, n12, ne_of_none hl3 hp2, ne_of_none ht3 hp2⟩⟩
  · rw [upd_ne (Ne.symm nxl)]; exact s5 _ _ hl3
  · rw [upd_ne (Ne.symm nxt2)]; exact s5 _ _ ht3
  · rw [upd_ne (Ne.symm nxp2)]; exact e5
abbrev sPlace : Stmt := inClass (top 39) 2
theorem scPlace : FnScope ["self", "label"] ["self", "label"] (defScope sPlace) := ⟨rfl, rfl, rfl, by decide +kernel, rfl, by decide +kernel, by decide +kernel⟩
theorem ok_place {dV : Value} {CP : Addr} (F : FunD K "place_of" "Plan.place_of" sPlace dV f fd) (PTx : PlT K mg CP) : FnOk P w K mg base CX 1 f fd ["self", "label"] (spPlace CP) := by
  refine F.ok scPlace (fun vs H Q E h => ?_) (fun cdv A outer s H vs Q E hr h => ?_)
  · obtain ⟨g, l, t, p, e, ls, es, ps, x, rfl, PA, h500, q⟩ := h
    rfl
  obtain ⟨g, l, t, p, e, ls, es, ps, x, rfl, PA, h500, q⟩ := h
  obtain ⟨⟨dg, hg⟩, hl, ht, hp, lt, lp, tp⟩ := PA
  refine ⟨_, (pss_cons (ps_if (pt_cmpR op_notIn_seq (pv 1) (pe_fld (pv 0) rfl) rfl) (pss_one (ps_expr (pe_bm PySem.F.plainAttrs_list PySem.F.slot_list_append PySem.F.type_list_append mt_append (pe_fld (pv 0) rfl) (pa_cons (pv 1) pa_nil)))) pss_nil)
    (pss_one (ps_ret (pe_bm PySem.F.plainAttrs_list PySem.F.slot_list_index PySem.F.type_list_index mt_indexS (pe_fld (pv 0) rfl) (pa_cons (pv 1) pa_nil))))), ?_⟩
  refine ⟨_, rfl, _, rfl, g, CP, dg, _, _, rfl, hg, PTx.cl, PTx.nl, pfl_l _ _ _ _, l, _, rfl, .inl (SqL.of hl), rfl, flat_strs _, _, rfl, ?_⟩
  show (if (!inV (.str x) (ls.map V.str)) = true then _ else _)
  rw [inV_strs]
  have ngl : g ≠ l := ne_of hg hl (fun z => by cases z)
  by_cases hx : x ∈ ls
  · refine L2.ifF (by rw [decide_eq_true hx]; rfl) ?_
    obtain ⟨j, j1, j2, j3⟩ := first_at x ls hx
    refine ⟨_, rfl, g, CP, dg, _, _, rfl, hg, PTx.cl, PTx.nl, pfl_l _ _ _ _, .inl ⟨rfl, _, SqL.of hl⟩, _, rfl, l, ls, x, j, rfl, rfl, SqL.of hl, j1, j2, by omega, ?_⟩
    have el : lput ls x = ls := if_pos hx
    exact q j H (fun b o h _ => h) (by rw [el]; exact ⟨⟨dg, hg⟩, hl, ht, hp, lt, lp, tp⟩) (by rw [el]; exact j1)
  · refine L2.ifT (by rw [decide_eq_false hx]; rfl) ?_
    have el : lput ls x = ls ++ [x] := if_neg hx
    refine ⟨_, rfl, g, CP, dg, _, _, rfl, hg, PTx.cl, PTx.nl, pfl_l _ _ _ _, .inl ⟨rfl, _, SqL.of hl⟩, _, rfl, l, _, _, rfl, rfl, hl, small1000 (by rw [List.length_map]; omega), ?_⟩
    have hg2 : upd H l (.lst (ls.map V.str ++ [.str x])) g = some (.ins CP dg (pfl l e t p)) := by rw [upd_ne ngl]; exact hg
    have hl2 : upd H l (.lst (ls.map V.str ++ [.str x])) l = some (.lst ((lput ls x).map V.str)) := by rw [upd_same, el, List.map_append]; rfl
    have ht2 : upd H l (.lst (ls.map V.str ++ [.str x])) t = some (.lst es) := by rw [upd_ne (Ne.symm lt)]; exact ht
    have hp2 : upd H l (.lst (ls.map V.str ++ [.str x])) p = some (.lst ps) := by rw [upd_ne (Ne.symm lp)]; exact hp
    have sx : SameX l H (upd H l (.lst (ls.map V.str ++ [.str x]))) := fun b o h n => by rw [upd_ne n]; exact h
    generalize upd H l (.lst (ls.map V.str ++ [.str x])) = H1 at hg2 hl2 ht2 hp2 sx ⊢
    obtain ⟨j, j1, j2, j3⟩ := first_at x (lput ls x) (lput_in _ _)
    have ll := lput_len ls x
    refine ⟨_, rfl, g, CP, dg, _, _, rfl, hg2, PTx.cl, PTx.nl, pfl_l _ _ _ _, .inl ⟨rfl, _, SqL.of hl2⟩, _, rfl, l, lput ls x, x, j, rfl, rfl, SqL.of hl2, j1, j2, by omega, ?_⟩
    exact q j H1 sx ⟨⟨dg, hg2⟩, hl2, ht2, hp2, lt, lp, tp⟩ j1
abbrev sEnter : Stmt := inClass (top 39) 3
theorem scEnter : FnScope ["self", "word", "start", "goal", "size", "begin", "end"] ["self", "word", "start", "goal", "size"] (defScope sEnter) := ⟨rfl, rfl, rfl, by decide +kernel, rfl, by decide +kernel, by decide +kernel⟩
theorem ok_enter {dV : Value} {CP : Addr} (F : FunD K "enter" "Plan.enter" sEnter dV f fd) (PTx : PlT K mg CP)
    {gPl : Addr} {gdPl : FuncData} (GPl : FnOk P w K mg base CX0 1 gPl gdPl ["self", "label"] (spPlace CP)) (bPl : Binds K gdPl ["self", "label"] []) (mPl : Meth K CP "place_of" gPl) : FnOk P w K mg base CX 2 f fd ["self", "word", "start", "goal", "size"] (spEnter CP K) := by
  refine F.ok scEnter (fun vs H Q E h => ?_) (fun cdv A outer s H vs Q E hr h => ?_)
  · obtain ⟨g, l, t, p, e, ls, es, ps, wd, x, y, z, rfl, PA, h400, h500, q⟩ := h
    rfl
  obtain ⟨g, l, t, p, e, ls, es, ps, wd, x, y, z, rfl, PA, h400, h500, q⟩ := h
  obtain ⟨dg, hg⟩ := PA.ob
  have l1 := lput_len ls x
  have l2 := lput_len (lput ls x) y
  refine ⟨_, (pss_cons (ps_set (i := 5) scEnter.nd rfl (Or.inl rfl) (pe_meth (pv 0) PTx.cl mPl GPl hr bPl .nil pass0 (pa_cons (pv 2) pa_nil)))
    (pss_cons (ps_set (i := 6) scEnter.nd rfl (Or.inl rfl) (pe_meth (pv 0) PTx.cl mPl GPl hr bPl .nil pass0 (pa_cons (pv 3) pa_nil)))
    (pss_one (ps_expr (pe_bm PySem.F.plainAttrs_list PySem.F.slot_list_append PySem.F.type_list_append mt_append (pe_fld (pv 0) rfl) (pa_cons (pe_tup (pa_cons (pv 1) (pa_cons (pv 5) (pa_cons (pv 6) (pa_cons (pv 4) pa_nil))))) pa_nil)))))), ?_⟩
  refine ⟨_, rfl, g, dg, _, rfl, hg, (by with_unfolding_all rfl), _, rfl, g, l, t, p, e, ls, es, ps, x, rfl, PA, by omega, fun i H1 x1 P1 hi => ?_⟩
  obtain ⟨dg1, hg1⟩ := P1.ob
  refine ⟨_, rfl, g, dg1, _, rfl, hg1, (by with_unfolding_all rfl), _, rfl, g, l, t, p, e, _, es, ps, y, rfl, P1, by omega, fun j H2 x2 P2 hj => ?_⟩
  obtain ⟨⟨dg2, hg2⟩, hl2, ht2, hp2, lt, lp, tp⟩ := P2
  refine ⟨_, rfl, g, CP, dg2, _, _, rfl, hg2, PTx.cl, PTx.nt, pfl_t _ _ _ _, .inl ⟨rfl, _, SqL.of ht2⟩, _, rfl, _, rfl, _, rfl, _, rfl, by show 4 ≤ sizeLine; decide, fun u hu => ?_⟩
  have s3 := same_new hu (.tup [.str wd, .int (i : Int), .int (j : Int), z])
  have e3 : upd H2 u (.tup [.str wd, .int (i : Int), .int (j : Int), z]) u = some (.tup [.str wd, .int (i : Int), .int (j : Int), z]) := upd_same
  generalize upd H2 u (.tup [.str wd, .int (i : Int), .int (j : Int), z]) = H3 at s3 e3 ⊢
  refine ⟨t, es, .ref u, rfl, rfl, s3 _ _ ht2, small1000 (by omega), ?_⟩
  have ngt : g ≠ t := ne_of hg2 ht2 (fun z => by cases z)
  have nut : u ≠ t := Ne.symm (ne_of_none ht2 hu)
  refine q i j u _ (fun b o h n1 n2 => by rw [upd_ne n2]; exact s3 _ _ (x2 _ _ (x1 _ _ h n1) n1)) (SqT.of (by rw [upd_ne nut]; exact e3)) (lput_keep y hi) hj ⟨⟨dg2, by rw [upd_ne ngt]; exact s3 _ _ hg2⟩, by rw [upd_ne lt]; exact s3 _ _ hl2, upd_same, by rw [upd_ne (Ne.symm tp)]; exact s3 _ _ hp2, lt, lp, tp⟩
abbrev sOver : Stmt := inClass (top 39) 5
theorem scOver : FnScope ["self"] ["self"] (defScope sOver) := ⟨rfl, rfl, rfl, by decide +kernel, rfl, by decide +kernel, by decide +kernel⟩
theorem ok_over {dV : Value} {CP : Addr} (F : FunD K "is_overfull" "Plan.is_overfull" sOver dV f fd) (PTx : PlT K mg CP)
    {tM tR : Tok} (mMP : mg "MOST_POINTS" = some (.int 20 tM)) (mMR : mg "MOST_ROWS" = some (.int 40 tR)) (ml : mg "len" = none) : FnOk P w K mg base CX 1 f fd ["self"] (spOver CP) := by
  refine F.ok scOver (fun vs H Q E h => ?_) (fun cdv A outer s H vs Q E hr h => ?_)
  · obtain ⟨g, l, t, p, e, ls, es, ps, rfl, PA, q⟩ := h
    rfl
  obtain ⟨g, l, t, p, e, ls, es, ps, rfl, PA, q⟩ := h
  obtain ⟨⟨dg, hg⟩, hl, ht, hp, lt, lp, tp⟩ := PA
  refine ⟨_, (pss_one (ps_ret (pe_or (pe_cmpR op_gt (pe_callB call_len_seq rfl ml PySem.boot_len (pa_cons (pe_fld (pv 0) rfl) pa_nil)) (pe_glob (v := .int 20) rfl mMP ⟨_, rfl⟩) (nomark _)) (pe_one (pe_cmpR op_gt (pe_callB call_len_seq rfl ml PySem.boot_len (pa_cons (pe_fld (pv 0) rfl) pa_nil)) (pe_glob (v := .int 40) rfl mMR ⟨_, rfl⟩) (nomark _)))))), ?_⟩
  refine ⟨_, rfl, g, CP, dg, _, _, rfl, hg, PTx.cl, PTx.nl, pfl_l _ _ _ _, l, _, rfl, .inl (SqL.of hl), _, _, rfl, rfl, _, rfl, ?_⟩
  have e1 : decide (((ls.map V.str).length : Int) > 20) = decide (20 < ls.length) := by rw [List.length_map]; exact decide_eq_decide.mpr (by omega)
  have e2 : decide ((es.length : Int) > 40) = decide (40 < es.length) := decide_eq_decide.mpr (by omega)
  by_cases h : 20 < ls.length
  · refine L2.ifT (by show decide (((ls.map V.str).length : Int) > 20) = true; rw [e1]; exact decide_eq_true h) ?_
    rw [decide_eq_true h, Bool.true_or] at q
    exact q
  · refine L2.ifF (by show decide (((ls.map V.str).length : Int) > 20) = false; rw [e1]; exact decide_eq_false h) ?_
    refine ⟨_, rfl, g, CP, dg, _, _, rfl, hg, PTx.cl, PTx.nt, pfl_t _ _ _ _, t, _, rfl, .inl (SqL.of ht), _, _, rfl, rfl, ?_⟩
    show Q (.bl (decide ((es.length : Int) > 40))) H
    rw [e2]
    rw [decide_eq_false h, Bool.false_or] at q
    exact q
def spROver (CP : Addr) : Sp := fun vs H Q _ => ∃ (g l t p : Addr) (e : Int) (ls : List Str) (es ps : List V), vs = [.ref g] ∧ PlAt CP H g l e t p ls es ps ∧ ls.length ≤ 20 ∧ es.length ≤ 40 ∧ Q .non H
def spYInit (CY CP : Addr) : Sp := fun vs H Q _ => ∃ (y dy : Addr), vs = [.ref y] ∧ H y = some (.ins CY dy []) ∧
  ∀ g l t p d H', (∀ b o, H b = some o → b ≠ y → H' b = some o) → H' y = some (.ins CY dy (yfl g d .non .non)) → PlAt CP H' g l 0 t p [] [] [] → H' d = some (.dK []) → Q .non H'
def spCoT (CY CP : Addr) : Sp := fun vs H Q _ => ∃ (y dy g d l t p : Addr) (q' : V) (e : Int) (ls : List Str) (es ps : List V), vs = [.ref y] ∧ H y = some (.ins CY dy (yfl g d .non q')) ∧ PlAt CP H g l e t p ls es ps ∧
  ∀ g' l' t' p' H', Same H H' → H g' = none → H l' = none → H t' = none → H p' = none → PlAt CP H' g' l' e t' p' ls es ps → Q (.ref g') H'
def spKeep (CY CP : Addr) : Sp := fun vs H Q _ => ∃ (y dy g d g' l t p : Addr) (q' : V) (e : Int) (ls : List Str) (es ps : List V), vs = [.ref y, .ref g'] ∧ H y = some (.ins CY dy (yfl g d .non q')) ∧ PlAt CP H g' l e t p ls es ps ∧ ls.length ≤ 20 ∧ es.length ≤ 40 ∧
  Q .non (upd H y (.ins CY dy (yfl g' d .non q')))
def spNames (CY CP : Addr) : Sp := fun vs H Q _ => ∃ (y dy g d l t p : Addr) (o q' : V) (e : Int) (ls : List Str) (es ps : List V), vs = [.ref y] ∧ H y = some (.ins CY dy (yfl g d o q')) ∧ PlAt CP H g l e t p ls es ps ∧ ∀ r H', Same H H' → H r = none → H' r = some (.lst (ls.map V.str)) → Q (.ref r) H'
abbrev sROver : Stmt := top 51
theorem scROver : FnScope ["plan"] ["plan"] (defScope sROver) := ⟨rfl, rfl, rfl, by decide +kernel, rfl, by decide +kernel, by decide +kernel⟩
theorem ok_rover {dV : Value} (F : FunD K "refuse_overfull" "refuse_overfull" sROver dV f fd)
    {CP : Addr} (PTx : PlT K mg CP)
    {gOv : Addr} {gdOv : FuncData} (GOv : FnOk P w K mg base CX0 1 gOv gdOv ["self"] (spOver CP)) (bOv : Binds K gdOv ["self"] []) (mOv : Meth K CP "is_overfull" gOv) :
    FnOk P w K mg base CX 2 f fd ["plan"] (spROver CP) := by
  refine F.ok scROver (fun vs H Q E h => ?_) (fun cdv A outer s H vs Q E hr h => ?_)
  · obtain ⟨g, l, t, p, e, ls, es, ps, rfl, PA, h20, h40, q⟩ := h
    rfl
  obtain ⟨g, l, t, p, e, ls, es, ps, rfl, PA, h20, h40, q⟩ := h
  obtain ⟨dg, hg⟩ := PA.ob
  refine ⟨_, (pss_one (ps_if (pt_val (pe_meth0 (pv 0) PTx.cl mOv GOv hr bOv .nil pass0)) (pss_one ps_never) pss_nil)), ?_⟩
  refine ⟨_, rfl, g, dg, _, rfl, hg, (by with_unfolding_all rfl), g, l, t, p, e, ls, es, ps, rfl, PA, _, rfl, L2.ifF (by rw [decide_eq_false (by omega), decide_eq_false (by omega)]; rfl) q⟩
abbrev sYInit : Stmt := inClass (top 46) 0
theorem scYInit : FnScope ["self"] ["self"] (defScope sYInit) := ⟨rfl, rfl, rfl, by decide +kernel, rfl, by decide +kernel, by decide +kernel⟩
theorem ok_yinit {dV : Value} {CY : Addr} (F : FunD K "__init__" "Yard.__init__" sYInit dV f fd) (YTx : YaT K mg CY) {CP : Addr} (PTx : PlT K mg CP)
    {gPI : Addr} {gdPI : FuncData} (GPI : FnOk P w K mg base CX0 1 gPI gdPI ["self", "labels", "end_count"] (spPInit CP K)) (bPI : Binds K gdPI ["self", "labels", "end_count"] []) (MP : Mk K CP gPI) : FnOk P w K mg base CX 3 f fd ["self"] (spYInit CY CP) := by
  refine F.ok scYInit (fun vs H Q E h => ?_) (fun cdv A outer s H vs Q E hr h => ?_)
  · obtain ⟨y, dy, rfl, hy, q⟩ := h
    rfl
  obtain ⟨y, dy, rfl, hy, q⟩ := h
  refine ⟨_, (pss_cons (ps_fld (pv 0) (pe_make MP GPI hr rfl PTx.mP bPI .nil pass0 (pa_cons (pe_lst pa_nil) (pa_cons pe_int pa_nil))) rfl)
    (pss_cons (ps_fld (pv 0) pe_dnewK rfl)
    (pss_cons (ps_fld (pv 0) pe_non rfl)
    (pss_one (ps_fld (pv 0) pe_non rfl))))), ?_⟩
  refine ⟨by show 0 ≤ sizeLine; decide, fun a ha => ?_⟩
  have nya : y ≠ a := ne_of_none hy ha
  have s1 := same_new ha (.lst [])
  have e1 : upd H a (.lst []) a = some (.lst []) := upd_same
  generalize upd H a (.lst []) = H1 at s1 e1 ⊢
  have hy1 := s1 _ _ hy
  intro x dx h1 h2 ne
  have hgx : ∀ b o, H1 b = some o → (upd (upd H1 dx (.own x)) x (.ins CP dx [])) b = some o := fun b o h => by rw [upd_ne (ne_of_none h h1), upd_ne (ne_of_none h h2)]; exact h
  refine ⟨x, dx, a, 0, [], rfl, upd_same, SqL.of (hgx _ _ e1), Ne.symm (ne_of_none e1 h1), fun l1 t1 p1 H2 keep nl nt np hx hl1 ht1 hp1 a1 a2 a3 => ⟨rfl, ?_⟩⟩
  have s2 : Same H1 H2 := fun b o h => keep b o (hgx b o h) (ne_of_none h h1)
  clear keep
  have hy2 := s2 _ _ hy1
  refine ⟨_, rfl, y, CY, dy, [], rfl, hy2, YTx.cl, YTx.ng, by show 0 < 1000; decide, ?_⟩
  have nyx : y ≠ x := ne_of_none hy1 h1
  have nyl : l1 ≠ y := Ne.symm (ne_of hy2 hl1 (fun z => by cases z))
  have nyt : t1 ≠ y := Ne.symm (ne_of hy2 ht1 (fun z => by cases z))
  have nyp : p1 ≠ y := Ne.symm (ne_of hy2 hp1 (fun z => by cases z))
  have l1' := length_putF ("ground" : Str) (.ref x) []
  simp only [List.length_nil] at l1'
  have l2' := fun d : Addr => length_putF ("parts" : Str) (.ref d) (putF "ground" (.ref x) [])
  have l3' := fun d : Addr => length_putF ("opened" : Str) .non (putF "parts" (.ref d) (putF "ground" (.ref x) []))
  intro d hd
  have nyd : y ≠ d := fun z => by rw [← z, upd_same] at hd; cases hd
  have hd2 : H2 d = none := by rw [upd_ne (Ne.symm nyd)] at hd; exact hd
  have l2 := l2' d
  have l3 := l3' d
  refine ⟨_, rfl, y, CY, dy, putF "ground" (.ref x) [], rfl, (by rw [upd_ne nyd]; exact upd_same), YTx.cl, YTx.nd, by omega, ?_⟩
  refine ⟨_, rfl, y, CY, dy, putF "parts" (.ref d) (putF "ground" (.ref x) []), rfl, upd_same, YTx.cl, YTx.no, by omega, ?_⟩
  refine ⟨_, rfl, y, CY, dy, putF "opened" .non (putF "parts" (.ref d) (putF "ground" (.ref x) [])), rfl, upd_same, YTx.cl, YTx.nq, by omega, ?_⟩
  rw [yfl_make]
  have far : ∀ b, b ≠ y → b ≠ d → upd (upd (upd (upd (upd H2 y (.ins CY dy (putF "ground" (.ref x) []))) d (.dK [])) y (.ins CY dy (putF "parts" (.ref d) (putF "ground" (.ref x) [])))) y (.ins CY dy (putF "opened" .non (putF "parts" (.ref d) (putF "ground" (.ref x) []))))) y (.ins CY dy (yfl x d .non .non)) b = H2 b := fun b n1 n2 => by rw [upd_ne n1, upd_ne n1, upd_ne n1, upd_ne n2, upd_ne n1]
  refine q x l1 t1 p1 d _ (fun b o h nb => ?_) upd_same ⟨⟨dx, ?_⟩, ?_, ?_, ?_, a1, a2, a3⟩ ?_
  · have hb := s2 _ _ (s1 _ _ h)
    rw [far b nb (ne_of_none hb hd2)]; exact hb
  · rw [far x (Ne.symm nyx) (ne_of_none hx hd2)]; exact hx
  · rw [far l1 nyl (ne_of_none hl1 hd2)]; exact hl1
  · rw [far t1 nyt (ne_of_none ht1 hd2)]; exact ht1
  · rw [far p1 nyp (ne_of_none hp1 hd2)]; exact hp1
  · rw [upd_ne (Ne.symm nyd), upd_ne (Ne.symm nyd), upd_ne (Ne.symm nyd)]; exact upd_same
abbrev sCoT : Stmt := inClass (top 46) 6
theorem scCoT : FnScope ["self"] ["self"] (defScope sCoT) := ⟨rfl, rfl, rfl, by decide +kernel, rfl, by decide +kernel, by decide +kernel⟩
theorem ok_cot {dV : Value} {CY : Addr} (F : FunD K "copy_of_told" "Yard.copy_of_told" sCoT dV f fd) (YTx : YaT K mg CY) {CP : Addr} (PTx : PlT K mg CP)
    {gCp : Addr} {gdCp : FuncData} (GCp : FnOk P w K mg base CX0 3 gCp gdCp ["self"] (spPCopy CP)) (bCp : Binds K gdCp ["self"] []) (mCp : Meth K CP "copy" gCp) : FnOk P w K mg base CX 4 f fd ["self"] (spCoT CY CP) := by
  refine F.ok scCoT (fun vs H Q E h => ?_) (fun cdv A outer s H vs Q E hr h => ?_)
  · obtain ⟨y, dy, g, d, l, t, p, q', e, ls, es, ps, rfl, hy, PA, q⟩ := h
    rfl
  obtain ⟨y, dy, g, d, l, t, p, q', e, ls, es, ps, rfl, hy, PA, q⟩ := h
  obtain ⟨dg, hg⟩ := PA.ob
  refine ⟨_, (pss_cons (ps_if (pt_cmp (pc_isN (pe_fld (pv 0) rfl))) (pss_one (ps_ret (pe_meth0 (pe_fld (pv 0) rfl) PTx.cl mCp GCp hr bCp .nil pass0))) pss_nil)
    (pss_one (ps_ret (pe_meth0 (pe_fld (pv 0) rfl) PTx.cl mCp GCp hr bCp .nil pass0)))), ?_⟩
  refine ⟨_, rfl, y, CY, dy, _, _, rfl, hy, YTx.cl, YTx.no, yfl_o _ _ _ _, _, rfl, iteT ?_⟩
  exact ⟨_, rfl, y, CY, dy, _, _, rfl, hy, YTx.cl, YTx.ng, yfl_g _ _ _ _, g, dg, _, rfl, hg, (by with_unfolding_all rfl), g, l, t, p, e, ls, es, ps, rfl, PA, q⟩
abbrev sKeep : Stmt := inClass (top 46) 7
theorem scKeep : FnScope ["self", "plan"] ["self", "plan"] (defScope sKeep) := ⟨rfl, rfl, rfl, by decide +kernel, rfl, by decide +kernel, by decide +kernel⟩
theorem ok_keep {dV : Value} {CY : Addr} (F : FunD K "keep" "Yard.keep" sKeep dV f fd) (YTx : YaT K mg CY) {CP : Addr}
    (G1 : FnOk P w K mg base CX0 2 g1 gd1 ["plan"] (spROver CP)) (b1 : Binds K gd1 ["plan"] []) (k1 : PySem.W.keepIn K (.ref g1) = true) (m1 : mg "refuse_overfull" = some (.ref g1)) : FnOk P w K mg base CX 3 f fd ["self", "plan"] (spKeep CY CP) := by
  refine F.ok scKeep (fun vs H Q E h => ?_) (fun cdv A outer s H vs Q E hr h => ?_)
  · obtain ⟨y, dy, g, d, g', l, t, p, q', e, ls, es, ps, rfl, hy, PA, h20, h40, q⟩ := h
    rfl
  obtain ⟨y, dy, g, d, g', l, t, p, q', e, ls, es, ps, rfl, hy, PA, h20, h40, q⟩ := h
  refine ⟨_, (pss_cons (ps_expr (pe_call G1 hr rfl m1 k1 b1 .nil pass0 (pa_cons (pv 1) pa_nil)))
    (pss_one (ps_if (pt_cmp (pc_isN (pe_fld (pv 0) rfl))) (pss_one (ps_fld (pv 0) (pv 1) rfl)) (pss_one (ps_fld (pv 0) (pv 1) rfl))))), ?_⟩
  refine ⟨_, rfl, g', l, t, p, e, ls, es, ps, rfl, PA, h20, h40, ?_⟩
  refine ⟨_, rfl, y, CY, dy, _, _, rfl, hy, YTx.cl, YTx.no, yfl_o _ _ _ _, _, rfl, iteT ?_⟩
  refine ⟨_, rfl, _, rfl, y, CY, dy, yfl g d .non q', rfl, hy, YTx.cl, YTx.ng, by show 4 < 1000; decide, ?_⟩
  rw [yfl_gr]
  exact q
abbrev sNames : Stmt := inClass (top 46) 8
theorem scNames : FnScope ["self"] ["self"] (defScope sNames) := ⟨rfl, rfl, rfl, by decide +kernel, rfl, by decide +kernel, by decide +kernel⟩
theorem ok_names {dV : Value} {CY : Addr} (F : FunD K "names" "Yard.names" sNames dV f fd) (YTx : YaT K mg CY) {CP : Addr} (PTx : PlT K mg CP)
    (mli : mg "list" = none) : FnOk P w K mg base CX 1 f fd ["self"] (spNames CY CP) := by
  refine F.ok scNames (fun vs H Q E h => ?_) (fun cdv A outer s H vs Q E hr h => ?_)
  · obtain ⟨y, dy, g, d, l, t, p, o, q', e, ls, es, ps, rfl, hy, PA, q⟩ := h
    rfl
  obtain ⟨y, dy, g, d, l, t, p, o, q', e, ls, es, ps, rfl, hy, PA, q⟩ := h
  obtain ⟨dg, hg⟩ := PA.ob
  refine ⟨_, (pss_one (ps_ret (pe_callTy call_list_of rfl mli PyProof.Rows.boot_list (pa_cons (pe_fld (pe_fld (pv 0) rfl) rfl) pa_nil)))), ?_⟩
  refine ⟨_, rfl, y, CY, dy, _, _, rfl, hy, YTx.cl, YTx.ng, yfl_g _ _ _ _, g, CP, dg, _, _, rfl, hg, PTx.cl, PTx.nl, pfl_l _ _ _ _, l, _, rfl, .inl (SqL.of PA.hl), fun r hr0 => ?_⟩
  exact q r _ (same_new hr0 _) hr0 upd_same
end
end K82

set_option Elab.async false
set_option linter.all false
set_option maxRecDepth 100000
set_option maxHeartbeats 4000000
namespace K82
open PySem L2 Tx
section
variable {P : Program} {w : World} {K : PySem.W.Frag} {mg : Str → Option Value} {base : Heap} {f g1 g2 g3 g4 g5 g6 g7 g8 : Addr} {fd gd1 gd2 gd3 gd4 gd5 gd6 gd7 gd8 : FuncData} {CX : CXT}
variable {CR : Addr} {CK : Kd → Addr} {fW fJ fT fS : Kd → Addr} {fdW fdJ fdT fdS : Kd → FuncData}
def Yd (CY CP : Addr) (K : PySem.W.Frag) (av : List Addr) (H : Hp) (y : Addr) (ls : List Str) (ds : List RD) : Prop :=
  ∃ (dy g d l t p : Addr) (es : List V), H y = some (.ins CY dy (yfl g d .non .non)) ∧ PlAt CP H g l 0 t p ls es [] ∧ Rts K H es ds ∧ (∀ x ∈ ds, RdOk (ls.length : Int) x) ∧ l ∉ av ∧ t ∉ av ∧ p ∉ av ∧ ∀ a ∈ av, H a ≠ none
theorem Yd.same {CY CP : Addr} {K : PySem.W.Frag} {av : List Addr} {H H' : Hp} {y : Addr} {ls : List Str} {ds : List RD} (s : Same H H') (h : Yd CY CP K av H y ls ds) : Yd CY CP K av H' y ls ds :=
  let ⟨dy, g, d, l, t, p, es, a, b, c, e, x1, x2, x3, x4⟩ := h; ⟨dy, g, d, l, t, p, es, s _ _ a, b.same s, c.same s, e, x1, x2, x3, fun a ha z => by
    cases o : H a with
    | none => exact x4 a ha o
    | some o' => rw [s _ _ o] at z; cases z⟩
theorem rd_up {m n : Nat} (h : m ≤ n) {d : RD} (r : RdOk (m : Int) d) : RdOk (n : Int) d := ⟨r.1, by have := r.2.1; omega, r.2.2.1, by have := r.2.2.2.1; omega, r.2.2.2.2⟩
theorem lput_ge (ls : List Str) (x : Str) : ls.length ≤ (lput ls x).length := by
  unfold lput
  by_cases h : x ∈ ls
  · rw [if_pos h]; omega
  · rw [if_neg h]; simp
def lp2 (ls : List Str) (a b : List Nat) : List Str := lput (lput ls (S a)) (S b)
theorem insT {K : PySem.W.Frag} {H H' : Hp} {y C dx a : Addr} {fs : List (Str × V)} {xs : List V} (hy : H y = some (.ins C dx fs)) (e : SameX y H H') (h : SqT K H a xs) : SqT K H' a xs := by
  rcases h with h | h
  · refine .inl ?_
    rcases h with h | ⟨o, h⟩
    · exact .inl (e _ _ h (ne_of h hy (fun z => by cases z)))
    · exact .inr ⟨o, e _ _ h (ne_of h hy (fun z => by cases z))⟩
  · exact .inr h
theorem insR {K : PySem.W.Frag} {H H' : Hp} {y C dx : Addr} {fs : List (Str × V)} (hy : H y = some (.ins C dx fs)) (e : SameX y H H') : ∀ {xs : List V} {ds : List RD}, Rts K H xs ds → Rts K H' xs ds
  | _, _, .nil => .nil
  | _, _, .cons a b c => .cons (insT hy e a) (insT hy e b) (insR hy e c)
def ERow (CY CP CM CU CZ : Addr) (K : PySem.W.Frag) (av : List Addr) (y : Addr) (ls : List Str) (ds : List RD) (k : Kd) (a b t : List Nat) (H : Hp) (Q : VK) (E : XK) : Prop :=
  ((nmB a && nmB b) = false → ∀ H', Same H H' → E (.ref CM) none H') ∧
  ((nmB a && nmB b) = true → (¬ ∃ p, Wr p t) → ∀ H', Same H H' → E (.ref CU) none H') ∧
  ((nmB a && nmB b) = true → ∀ p, Wr p t → okz k (some p) = false → ∀ H', Same H H' → E (.ref CZ) none H') ∧
  ((nmB a && nmB b) = true → ∀ p, Wr p t → okz k (some p) = true → (lp2 ls a b).length ≤ 20 ∧ ∀ (i j : Nat) H', SameX y H H' → (lp2 ls a b)[i]? = some (S a) → (lp2 ls a b)[j]? = some (S b) → Yd CY CP K av H' y (lp2 ls a b) (ds ++ [(k, (i : Int), (j : Int), p)]) → Q .non H')
theorem ERow.mono {CY CP CM CU CZ : Addr} {K : PySem.W.Frag} {av : List Addr} {y : Addr} {ls : List Str} {ds : List RD} {k : Kd} {a b t : List Nat} {H H1 : Hp} {Q : VK} {E : XK} (s : Same H H1) (h : ERow CY CP CM CU CZ K av y ls ds k a b t H Q E) : ERow CY CP CM CU CZ K av y ls ds k a b t H1 Q E :=
  ⟨fun x H' s' => h.1 x H' (s.trans s'), fun x n H' s' => h.2.1 x n H' (s.trans s'), fun x p wr o H' s' => h.2.2.1 x p wr o H' (s.trans s'), fun x p wr o => ⟨(h.2.2.2 x p wr o).1, fun i j H' s' => (h.2.2.2 x p wr o).2 i j H' (fun b o hb nb => s' b o (s _ _ hb) nb)⟩⟩
def spERowX (CY CP CM CU CZ : Addr) (K : PySem.W.Frag) : Sp := fun vs H Q E => ∃ (av : List Addr) (y wl : Addr) (ls : List Str) (ds : List RD) (k : Kd) (a b t : List Nat), vs = [.ref y, .ref wl] ∧ SqL K H wl [.str k.wd, .str (S a), .str (S b), .str (S t)] ∧ Yd CY CP K av H y ls ds ∧ ls.length ≤ 20 ∧ ds.length < 40 ∧ a.length ≤ 1000 ∧ b.length ≤ 1000 ∧ t.length ≤ 1000 ∧ (∀ p, Wr p t → Mq.Bd 100 p) ∧ ERow CY CP CM CU CZ K av y ls ds k a b t H Q E
def spTellX (CY CP CM CU CZ CR' : Addr) (K : PySem.W.Frag) : Sp := fun vs H Q E => ∃ (y : Addr) (x : V), vs = [.ref y, x] ∧
  ((NoStr K H x ∧ E (.ref CR') none H) ∨
   (∃ (w : List Nat) (r : List (List Nat)), x = .str (S (jnc 32 (w :: r))) ∧ (∀ z ∈ w :: r, 32 ∉ z) ∧ (jnc 32 (w :: r)).length ≤ 1000000 ∧ r.length ≤ 1000000 ∧ NoPt (S w) ∧ (decide (S w ∈ rowW) && decide (r.length = 3)) = false ∧ ∀ H', Same H H' → E (.ref CR') none H') ∨
   (∃ (av : List Addr) (ls : List Str) (ds : List RD) (k : Kd) (wd a b t : List Nat), x = .str (S (jnc 32 [wd, a, b, t])) ∧ S wd = k.wd ∧ 32 ∉ wd ∧ 32 ∉ a ∧ 32 ∉ b ∧ 32 ∉ t ∧ wd.length ≤ 1000 ∧ Yd CY CP K av H y ls ds ∧ ls.length ≤ 20 ∧ ds.length < 40 ∧ a.length ≤ 1000 ∧ b.length ≤ 1000 ∧ t.length ≤ 1000 ∧ (∀ p, Wr p t → Mq.Bd 100 p) ∧ ERow CY CP CM CU CZ K av y ls ds k a b t H Q E))
abbrev sERow : Stmt := inClass (top 46) 5
theorem scERow : FnScope ["self", "words", "size", "plan"] ["self", "words"] (defScope sERow) := ⟨rfl, rfl, rfl, by decide +kernel, rfl, by decide +kernel, by decide +kernel⟩
theorem ok_erow {dV : Value} {CY : Addr} (F : FunD K "enter_row" "Yard.enter_row" sERow dV f fd) (YTx : YaT K mg CY) {CP CM CU CZ : Addr} (PTx : PlT K mg CP)
    (G1 : FnOk P w K mg base (CX1 P w) 2 g1 gd1 ["words"] (spRNames K CM)) (b1 : Binds K gd1 ["words"] []) (k1 : PySem.W.keepIn K (.ref g1) = true) (m1 : mg "refuse_names" = some (.ref g1))
    (G2 : FnOk P w K mg base (CX1 P w) 3 g2 gd2 ["text"] (spRead K CU)) (b2 : Binds K gd2 ["text"] []) (k2 : PySem.W.keepIn K (.ref g2) = true) (m2 : mg "read" = some (.ref g2))
    (G3 : FnOk P w K mg base (CX1 P w) 4 g3 gd3 ["word", "size"] (spRSV K CZ)) (b3 : Binds K gd3 ["word", "size"] []) (k3 : PySem.W.keepIn K (.ref g3) = true) (m3 : mg "refuse_size" = some (.ref g3))
    {gCo : Addr} {gdCo : FuncData} (GCo : FnOk P w K mg base CX0 4 gCo gdCo ["self"] (spCoT CY CP)) (bCo : Binds K gdCo ["self"] []) (mCo : Meth K CY "copy_of_told" gCo)
    {gEn : Addr} {gdEn : FuncData} (GEn : FnOk P w K mg base CX0 2 gEn gdEn ["self", "word", "start", "goal", "size"] (spEnter CP K)) (bEn : Binds K gdEn ["self", "word", "start", "goal", "size"] []) (mEn : Meth K CP "enter" gEn)
    {gKe : Addr} {gdKe : FuncData} (GKe : FnOk P w K mg base CX0 3 gKe gdKe ["self", "plan"] (spKeep CY CP)) (bKe : Binds K gdKe ["self", "plan"] []) (mKe : Meth K CY "keep" gKe) : FnOk P w K mg base (CX1 P w) 5 f fd ["self", "words"] (spERowX CY CP CM CU CZ K) := by
  refine F.okX scERow (fun vs H Q E h => ?_) (fun cdv A outer s H vs Q E hr h => ?_)
  · obtain ⟨av, y, wl, ls, ds, k, a, b, t, rfl, hW, YD, h20, h39, la, lb, lt, bd, q⟩ := h
    rfl
  obtain ⟨av, y, wl, ls, ds, k, a, b, t, rfl, hW, YD, h20, h39, la, lb, lt, bd, q⟩ := h
  have r2 := hr.mono (show 2 ≤ 4 by omega)
  have r3 := hr.mono (show 3 ≤ 4 by omega)
  refine ⟨_, (pss_cons (ps_expr (pe_call G1 r2 rfl m1 k1 b1 .nil (passes_cx frm_cxOf xe_cxOf) (pa_cons (pe_slice sl_list (pv 1) (po_some pe_int) (po_some pe_int)) pa_nil)))
    (pss_cons (ps_set (i := 2) scERow.nd rfl (Or.inl rfl) (pe_call G2 r3 rfl m2 k2 b2 .nil (passes_cx frm_cxOf xe_cxOf) (pa_cons (pe_ix ix_list (pv 1) pe_int (fun _ _ => rfl)) pa_nil)))
    (pss_cons (ps_expr (pe_call G3 hr rfl m3 k3 b3 .nil (passes_cx frm_cxOf xe_cxOf) (pa_cons (pe_ix ix_list (pv 1) pe_int (fun _ _ => rfl)) (pa_cons (pv 2) pa_nil))))
    (pss_cons (ps_set (i := 3) scERow.nd rfl (Or.inl rfl) (pe_meth0 (pv 0) YTx.cl mCo GCo hr bCo .nil pass0))
    (pss_cons (ps_expr (pe_meth (pv 3) PTx.cl mEn GEn r2 bEn .nil pass0 (pa_cons (pe_ix ix_list (pv 1) pe_int (fun _ _ => rfl)) (pa_cons (pe_ix ix_list (pv 1) pe_int (fun _ _ => rfl)) (pa_cons (pe_ix ix_list (pv 1) pe_int (fun _ _ => rfl)) (pa_cons (pv 2) pa_nil))))))
    (pss_one (ps_expr (pe_meth (pv 0) YTx.cl mKe GKe r3 bKe .nil pass0 (pa_cons (pv 3) pa_nil))))))))), ?_⟩
  refine ⟨_, rfl, 1, rfl, 3, rfl, wl, _, rfl, hW, fun A hA => ?_⟩
  rw [show cutV [V.str k.wd, .str (S a), .str (S b), .str (S t)] (some 1) (some 3) = [V.str (S a), .str (S b)] from rfl]
  have s1 := same_new hA (.lst [V.str (S a), .str (S b)])
  have e1 : upd H A (.lst [V.str (S a), .str (S b)]) A = some (.lst [V.str (S a), .str (S b)]) := upd_same
  generalize upd H A (.lst [V.str (S a), .str (S b)]) = H1 at s1 e1 ⊢
  refine ⟨A, [a, b], rfl, SqL.of e1, by show 2 ≤ 1000; decide, fun cs hcs => ?_, fun H2 s2 => ⟨fun ok => ?_, fun bad => ?_⟩⟩
  · have : cs = a ∨ cs = b := by simpa using hcs
    rcases this with rfl | rfl <;> omega
  · have ok : (nmB a && nmB b) = true := by simpa using ok
    have s02 := s1.trans s2
    have hW2 := s02.seq hW
    refine ⟨_, rfl, wl, _, _, _, rfl, rfl, hW2, rfl, _, rfl, .inl ⟨t, rfl, by omega, fun p0 wr z H3 s3 e3 => ?_, fun no H3 s3 => q.2.1 ok no H3 (s02.trans s3)⟩⟩
    have s03 := s02.trans s3
    have fz : Fq K H3 z p0 := Fq.of e3
    refine ⟨_, rfl, wl, _, _, _, rfl, rfl, s03.seq hW, rfl, _, rfl, k, _, some p0, rfl, .fr fz wr.low, fun p' e => by cases e; exact bd _ wr, fun okz1 => ?_, fun no => q.2.2.1 ok p0 wr no H3 s03⟩
    obtain ⟨dy, g, d, l, t', p, es, hy, PA, hR, hK, _, _, _, x4⟩ := YD
    have hy3 := s03 _ _ hy
    refine ⟨_, rfl, y, dy, _, rfl, hy3, (by with_unfolding_all rfl), y, dy, g, d, l, t', p, .non, 0, ls, es, [], rfl, hy3, PA.same s03, fun g5 l5 t5 p5 H5 s5 ng nl nt np PA5 => ?_⟩
    obtain ⟨dg5, hg5⟩ := PA5.ob
    have s05 := s03.trans s5
    have hy5 := s05 _ _ hy
    have hW5 := s05.seq hW
    have les := hR.length
    refine ⟨_, rfl, g5, dg5, _, rfl, hg5, (by with_unfolding_all rfl), _, rfl, wl, _, _, _, rfl, rfl, hW5, rfl, _, rfl, wl, _, _, _, rfl, rfl, hW5, rfl, _, rfl, wl, _, _, _, rfl, rfl, hW5, rfl, _, rfl, g5, l5, t5, p5, 0, ls, es, [], _, _, _, _, rfl, PA5, by omega, by omega, fun i j u H6 k6 sq i1 j1 PA6 => ?_⟩
    have nyl : y ≠ l5 := ne_of_none hy3 nl
    have nyt : y ≠ t5 := ne_of_none hy3 nt
    have hy6 := k6 _ _ hy5 nyl nyt
    obtain ⟨ll20, q4⟩ := q.2.2.2 ok p0 wr okz1
    have ll20 : (lput (lput ls (S a)) (S b)).length ≤ 20 := ll20
    refine ⟨_, rfl, y, dy, _, rfl, hy6, (by with_unfolding_all rfl), _, rfl, y, dy, g, d, g5, l5, t5, p5, .non, 0, _, _, [], rfl, hy6, PA6, ll20, by rw [List.length_append]; simp only [List.length_cons, List.length_nil]; omega, ?_⟩
    obtain ⟨⟨dg6, hg6⟩, hl6, ht6, hp6, n1, n2, n3⟩ := PA6
    have nyg : g5 ≠ y := Ne.symm (ne_of_none hy3 ng)
    have nyp : p5 ≠ y := Ne.symm (ne_of_none hy3 np)
    have keep : ∀ b o, H3 b = some o → b ≠ y → upd H6 y (.ins CY dy (yfl g5 d .non .non)) b = some o := fun b o h3 nb => by
      rw [upd_ne nb]
      exact k6 _ _ (s5 _ _ h3) (ne_of_none h3 nl) (ne_of_none h3 nt)
    have sq6 : SqT K (upd H6 y (.ins CY dy (yfl g5 d .non .non))) u [.str k.wd, .int (i : Int), .int (j : Int), .ref z] := insT hy6 (fun b o h n => by rw [upd_ne n]; exact h) sq
    have fz6 : Fq K (upd H6 y (.ins CY dy (yfl g5 d .non .non))) z p0 := insT hy3 keep fz
    have far : ∀ b, H3 b = none → b ∉ av := fun b hb z => by
      cases o : H b with
      | none => exact x4 b z o
      | some o' => rw [s03 _ _ o] at hb; cases hb
    have lg1 := lput_ge ls (S a)
    have lg2 := lput_ge (lput ls (S a)) (S b)
    have il := (List.getElem?_eq_some_iff.mp i1).1
    have jl := (List.getElem?_eq_some_iff.mp j1).1
    refine q4 i j _ (fun b o h nb => keep b o (s03 _ _ h) nb) i1 j1 ⟨dy, g5, d, l5, t5, p5, es ++ [.ref u], upd_same, ⟨⟨dg6, by rw [upd_ne nyg]; exact hg6⟩, by rw [upd_ne (Ne.symm nyl)]; exact hl6, by rw [upd_ne (Ne.symm nyt)]; exact ht6, by rw [upd_ne nyp]; exact hp6, n1, n2, n3⟩, (insR hy3 keep (hR.same s03)).app (.cons sq6 fz6 .nil), fun x hx => ?_, far l5 nl, far t5 nt, far p5 np, fun a ha z => ?_⟩
    rotate_left
    · by_cases hay : a = y
      · rw [hay, upd_same] at z; cases z
      · cases o : H a with
        | none => exact x4 a ha o
        | some o' => rw [keep a o' (s03 _ _ o) hay] at z; cases z
    rcases List.mem_append.mp hx with z | z
    · exact rd_up (show ls.length ≤ (lput (lput ls (S a)) (S b)).length by omega) (hK x z)
    · have : x = (k, (i : Int), (j : Int), p0) := by simpa using z
      rw [this]
      refine ⟨by show (0 : Int) ≤ i; omega, by show (i : Int) < _; unfold lp2; omega, by show (0 : Int) ≤ j; omega, by show (j : Int) < _; unfold lp2; omega, wr.low, fun hk => ?_, bd _ wr⟩
      have hk : k = .pc := hk
      rw [hk] at okz1
      exact of_decide_eq_true okz1
  · have bad : (nmB a && nmB b) = false := by rw [← bad]; simp
    exact q.1 bad H2 (s1.trans s2)
end
end K82

set_option Elab.async false
set_option linter.all false
set_option maxRecDepth 100000
set_option maxHeartbeats 4000000
namespace Shp
open PySem L2
theorem ps_nox {X : Cx} {st : Stmt} {t : TS} (h : PS X.nox st t) : PS X st t := fun pins s σ H D I hq => wpAny_mono (h pins s σ H D (I.wish _) hq) (fun _ _ q => SP.unwish q) fun _ _ z => False.elim z
end Shp
namespace Shp
open PySem L2
end Shp

set_option Elab.async false
set_option linter.all false
set_option maxRecDepth 100000
set_option maxHeartbeats 4000000
namespace K82
open PySem L2 Tx Shp
section
variable {P : Program} {w : World} {K : PySem.W.Frag} {mg : Str → Option Value} {base : Heap} {f g1 g2 g3 g4 g5 g6 g7 g8 : Addr} {fd gd1 gd2 gd3 gd4 gd5 gd6 gd7 gd8 : FuncData} {CX : CXT}
variable {CR : Addr} {CK : Kd → Addr} {fW fJ fT fS : Kd → Addr} {fdW fdJ fdT fdS : Kd → FuncData}
theorem kd_pt (k : Kd) : NoPt k.wd := by cases k <;> exact ⟨by decide +kernel, by decide +kernel, by decide +kernel⟩
theorem kd_row (k : Kd) : k.wd ∈ rowW := by cases k <;> decide +kernel
abbrev sTell : Stmt := inClass (top 46) 1
theorem scTell : FnScope ["self", "row", "words"] ["self", "row"] (defScope sTell) := ⟨rfl, rfl, rfl, by decide +kernel, rfl, by decide +kernel, by decide +kernel⟩
theorem ok_tell {dV : Value} {CY : Addr} (F : FunD K "tell" "Yard.tell" sTell dV f fd) (YTx : YaT K mg CY) {CP CM CU CZ CR' : Addr}
    (G1 : FnOk P w K mg base (CX1 P w) 1 g1 gd1 ["row"] (spWordsX K CR')) (b1 : Binds K gd1 ["row"] []) (k1 : PySem.W.keepIn K (.ref g1) = true) (m1 : mg "words_of" = some (.ref g1))
    (G2 : FnOk P w K mg base (CX1 P w) 2 g2 gd2 ["words"] (spRFormX K CR')) (b2 : Binds K gd2 ["words"] []) (k2 : PySem.W.keepIn K (.ref g2) = true) (m2 : mg "refuse_form" = some (.ref g2))
    {gER : Addr} {gdER : FuncData} (GER : FnOk P w K mg base (CX1 P w) 5 gER gdER ["self", "words"] (spERowX CY CP CM CU CZ K)) (bER : Binds K gdER ["self", "words"] []) (mER : Meth K CY "enter_row" gER) : FnOk P w K mg base (CX1 P w) 6 f fd ["self", "row"] (spTellX CY CP CM CU CZ CR' K) := by
  refine F.okX scTell (fun vs H Q E h => ?_) (fun cdv A outer s H vs Q E hr h => ?_)
  · obtain ⟨y, x, rfl, h⟩ := h
    rfl
  obtain ⟨y, x, rfl, h⟩ := h
  have r1 := hr.mono (show 1 ≤ 5 by omega)
  have r2 := hr.mono (show 2 ≤ 5 by omega)
  refine ⟨_, (pss_cons (ps_set (i := 2) scTell.nd rfl (Or.inl rfl) (pe_call G1 r1 rfl m1 k1 b1 .nil (passes_cx frm_cxOf xe_cxOf) (pa_cons (pv 1) pa_nil)))
    (pss_cons (ps_expr (pe_call G2 r2 rfl m2 k2 b2 .nil (passes_cx frm_cxOf xe_cxOf) (pa_cons (pv 2) pa_nil)))
    (pss_one (ps_if (pt_cmpR op_eq (pe_ix ix_list (pv 2) pe_int (fun _ _ => rfl)) pe_str (nomark _)) (pss_one ps_never) (pss_one (ps_if (pt_cmpR op_eq (pe_ix ix_list (pv 2) pe_int (fun _ _ => rfl)) pe_str (nomark _)) (pss_one ps_never) (pss_one (ps_if (pt_cmpR op_eq (pe_ix ix_list (pv 2) pe_int (fun _ _ => rfl)) pe_str (nomark _)) (pss_one ps_never) (pss_one (ps_expr (pe_meth (pv 0) YTx.cl mER GER hr bER .nil (passes_cx frm_cxOf xe_cxOf) (pa_cons (pv 2) pa_nil)))))))))))), ?_⟩
  rcases h with ⟨nx, q⟩ | ⟨w, r, rfl, h32, hl, hrl, np, bad, q⟩ | ⟨av, ls, ds, k, wd, a, b, t, rfl, ek, n0, n1, n2, n3, lw, YD, h20, h39, la, lb, lt, bd, q⟩
  · exact ⟨_, rfl, x, rfl, .inr ⟨nx, q⟩⟩
  · refine ⟨_, rfl, _, rfl, .inl ⟨w :: r, rfl, by simp, h32, hl, fun wl H1 s1 nw ew => ?_⟩⟩
    refine ⟨_, rfl, wl, S w, r.map fun x => V.str (S x), rfl, SqL.of ew, by rw [List.length_map]; omega, np, fun z => ?_, fun _ => q H1 s1⟩
    rw [List.length_map, bad] at z
    cases z
  · refine ⟨_, rfl, _, rfl, .inl ⟨[wd, a, b, t], rfl, by simp, fun x hx => ?_, ?_, fun wl H1 s1 nw ew => ?_⟩⟩
    · simp only [List.mem_cons, List.not_mem_nil, or_false] at hx
      rcases hx with rfl | rfl | rfl | rfl <;> assumption
    · simp only [jnc, List.length_append, List.length_cons]
      omega
    have hW : SqL K H1 wl [.str k.wd, .str (S a), .str (S b), .str (S t)] := by rw [← ek]; exact SqL.of ew
    refine ⟨_, rfl, wl, k.wd, _, rfl, hW, by show 3 ≤ 1000000; decide, kd_pt k, fun _ => ?_, fun z => ?_⟩
    rotate_left
    · rw [decide_eq_true (kd_row k)] at z
      cases z
    have np := kd_pt k
    have e : ∀ x : Str, k.wd ≠ x → decide (V.str k.wd = V.str x) = false := fun x h => decide_eq_false (fun z => h (by injection z))
    refine ⟨_, rfl, wl, _, _, _, rfl, rfl, hW, rfl, rfl, _, rfl, L2.ifF (e _ np.a) ?_⟩
    refine ⟨_, rfl, wl, _, _, _, rfl, rfl, hW, rfl, rfl, _, rfl, L2.ifF (e _ np.c) ?_⟩
    refine ⟨_, rfl, wl, _, _, _, rfl, rfl, hW, rfl, rfl, _, rfl, L2.ifF (e _ np.b) ?_⟩
    obtain ⟨dy, g, d, l, t', p, es, hy, rest⟩ := YD
    have hy1 := s1 _ _ hy
    exact ⟨_, rfl, y, dy, _, rfl, hy1, (by with_unfolding_all rfl), _, rfl, av, y, wl, ls, ds, k, a, b, t, rfl, hW, Yd.same s1 ⟨dy, g, d, l, t', p, es, hy, rest⟩, h20, h39, la, lb, lt, bd, ERow.mono s1 q⟩
def spPNet (CP CN CO : Addr) (K : PySem.W.Frag) : Sp := fun vs H Q E => ∃ (g l t p : Addr) (ls : List Str) (es ps : List V) (ds : List RD), vs = [.ref g] ∧ PlAt CP H g l 0 t p ls es ps ∧ Rts K H es ds ∧ (∀ x ∈ ds, RdOk (ls.length : Int) x) ∧ ls.length ≤ 20 ∧ ds.length ≤ 40 ∧
  (ls = [] → ∀ H', Same H H' → E (.ref CO) none H') ∧ (ls ≠ [] → ∀ n nl H', Same H H' → H nl = none → NetAt CN K H' n nl (ls.length : Int) ds → Q (.ref n) H')
def spYNet (CY CP CN CO : Addr) (K : PySem.W.Frag) : Sp := fun vs H Q E => ∃ (av : List Addr) (y : Addr) (ls : List Str) (ds : List RD), vs = [.ref y] ∧ Yd CY CP K av H y ls ds ∧ ls.length ≤ 20 ∧ ds.length ≤ 40 ∧
  (ls = [] → ∀ H', Same H H' → E (.ref CO) none H') ∧ (ls ≠ [] → ∀ n nl H', Same H H' → H nl = none → NetAt CN K H' n nl (ls.length : Int) ds → Q (.ref n) H')
abbrev sPNet : Stmt := inClass (top 39) 6
theorem scPNet : FnScope ["self", "made", "entry"] ["self"] (defScope sPNet) := ⟨rfl, rfl, rfl, by decide +kernel, rfl, by decide +kernel, by decide +kernel⟩
theorem ok_pnet {dV : Value} {CP : Addr} (F : FunD K "net" "Plan.net" sPNet dV f fd) (PTx : PlT K mg CP) {CN CO : Addr} (NTx : NT K mg CN)
    (ml : mg "len" = none)
    {gNI : Addr} {gdNI : FuncData} (GNI : FnOk P w K mg base (CX1 P w) 2 gNI gdNI ["self", "many"] (spNInitX CN K CO)) (bNI : Binds K gdNI ["self", "many"] []) (MN : Mk K CN gNI)
    {gAd : Addr} {gdAd : FuncData} (GAd : FnOk P w K mg base CX0 5 gAd gdAd ["self", "row"] (spAdd CN K CK)) (bAd : Binds K gdAd ["self", "row"] []) (mAd : Meth K CN "add" gAd)
    (G1 : FnOk P w K mg base CX0 3 g1 gd1 ["told"] (spRowOfG K CK)) (b1 : Binds K gd1 ["told"] []) (k1 : PySem.W.keepIn K (.ref g1) = true) (m1 : mg "row_of" = some (.ref g1)) : FnOk P w K mg base (CX1 P w) 6 f fd ["self"] (spPNet CP CN CO K) := by
  refine F.okX scPNet (fun vs H Q E h => ?_) (fun cdv A outer s H vs Q E hr h => ?_)
  · obtain ⟨g, l, t, p, ls, es, ps, ds, rfl, PA, hR, hK, h20, h40, qe, q⟩ := h
    rfl
  obtain ⟨g, l, t, p, ls, es, ps, ds, rfl, PA, hR, hK, h20, h40, qe, q⟩ := h
  have r3 := hr.mono (show 3 ≤ 5 by omega)
  obtain ⟨⟨dg, hg⟩, hl, ht, hp, lt, lp, tp⟩ := PA
  refine ⟨_, (pss_cons (ps_set (i := 1) scPNet.nd rfl (Or.inl rfl) (pe_make MN GNI r3 rfl NTx.mN bNI .nil (passes_cx frm_cxOf xe_cxOf) (pa_cons (pe_callB call_len_seq rfl ml PySem.boot_len (pa_cons (pe_fld (pv 0) rfl) pa_nil)) pa_nil)))
    (pss_cons (ps_nox (ps_for PassesOwn.never rfl (pi_list (pe_fld (pv 0) rfl)) (pg_name (i := 2) scPNet.nd rfl (Or.inl rfl))
      (pss_one (ps_expr (pe_meth (pv 1) NTx.cl mAd GAd hr bAd .nil pass0 (pa_cons (pe_call G1 r3 rfl m1 k1 b1 .nil pass0 (pa_cons (pv 2) pa_nil)) pa_nil))))))
    (pss_one (ps_ret (pv 1))))), ?_⟩
  refine ⟨_, rfl, g, CP, dg, _, _, rfl, hg, PTx.cl, PTx.nl, pfl_l _ _ _ _, l, _, rfl, .inl (SqL.of hl), fun n dx h1 h2 ne => ?_⟩
  have hgx : ∀ b o, H b = some o → (upd (upd H dx (.own n)) n (.ins CN dx [])) b = some o := fun b o h => by rw [upd_ne (ne_of_none h h1), upd_ne (ne_of_none h h2)]; exact h
  by_cases e0 : ls = []
  · exact ⟨n, dx, _, rfl, upd_same, .inr ⟨.inl ⟨((ls.map V.str).length : Int), rfl, .inl (by rw [e0]; decide)⟩, qe e0 _ hgx⟩⟩
  have l1 : 1 ≤ ls.length := List.length_pos_iff.mpr e0
  have lm : ((ls.map V.str).length : Int) = (ls.length : Int) := by rw [List.length_map]
  refine ⟨n, dx, _, rfl, upd_same, .inl ⟨((ls.map V.str).length : Int), rfl, by omega, by omega, fun nl H2 nn keep hn hnl => ⟨rfl, ?_⟩⟩⟩
  rw [lm] at hn
  have s2 : Same H H2 := fun b o h => keep b o (hgx b o h) (ne_of_none h h1)
  have hl0 : H nl = none := by
    cases o : H nl with
    | none => rfl
    | some o' => rw [hgx _ _ o] at nn; cases nn
  clear keep
  have les := hR.length
  refine ⟨_, rfl, g, CP, dg, _, _, rfl, (s2 _ _ hg), PTx.cl, PTx.nt, pfl_t _ _ _ _, t, rfl, ⟨_, SqL.of (s2 _ _ ht)⟩, ?_⟩
  refine for_list (xs := es) (fun i σ H' => Same H H' ∧ NetAt CN K H' n nl (ls.length : Int) (ds.take i) ∧ ∃ z, σ = [some (.ref g), some (.ref n), z]) ⟨s2, ⟨⟨dx, hn⟩, [], hnl, .nil⟩, none, rfl⟩ (fun i σ H' _ h => h.1.seq (SqL.of ht)) ?_ ?_
  · rintro i x σ H3 hx ⟨s3, N3, z, rfl⟩
    have hi : i < ds.length := by
      have := (List.getElem?_eq_some_iff.mp hx).1
      omega
    obtain ⟨⟨k, u, v, p'⟩, hd⟩ : ∃ d, ds[i]? = some d := ⟨_, List.getElem?_eq_getElem hi⟩
    obtain ⟨t', z', et, hT, fz⟩ := hR.at hd
    have ex : x = .ref t' := by rw [et] at hx; exact (Option.some.inj hx).symm
    subst ex
    obtain ⟨dn, hn3⟩ := N3.ob
    refine ⟨_, rfl, n, dn, _, rfl, hn3, nflds_no _ _ (by decide +kernel) (by decide +kernel), _, rfl, t', _, _, _, _, rfl, s3.seqT hT, k, rfl, fun y H4 s4 ny rw => ?_⟩
    refine ⟨n, nl, y, z', _, ds.take i, k, u, v, p', rfl, N3.same s4, rw, (s3.trans s4).fq fz, hK _ (List.mem_of_getElem? hd), by rw [List.length_take]; omega, fun H5 x5 N5 => ?_⟩
    refine ⟨fun b o e => x5 _ _ ((s3.trans s4) _ _ e) (ne_of_none e hl0), ?_, _, rfl⟩
    rw [List.take_add_one, hd]
    exact N5
  · rintro σ H3 ⟨s3, N3, z, rfl⟩
    rw [les, List.take_length] at N3
    exact ⟨_, rfl, q e0 n nl H3 s3 hl0 N3⟩
abbrev sYNet : Stmt := inClass (top 46) 10
theorem scYNet : FnScope ["self"] ["self"] (defScope sYNet) := ⟨rfl, rfl, rfl, by decide +kernel, rfl, by decide +kernel, by decide +kernel⟩
theorem ok_ynet {dV : Value} {CY : Addr} (F : FunD K "net" "Yard.net" sYNet dV f fd) (YTx : YaT K mg CY) {CP CN CO : Addr} (PTx : PlT K mg CP)
    {gNe : Addr} {gdNe : FuncData} (GNe : FnOk P w K mg base (CX1 P w) 6 gNe gdNe ["self"] (spPNet CP CN CO K)) (bNe : Binds K gdNe ["self"] []) (mNe : Meth K CP "net" gNe) : FnOk P w K mg base (CX1 P w) 7 f fd ["self"] (spYNet CY CP CN CO K) := by
  refine F.okX scYNet (fun vs H Q E h => ?_) (fun cdv A outer s H vs Q E hr h => ?_)
  · obtain ⟨av, y, ls, ds, rfl, YD, h20, h40, qe, q⟩ := h
    rfl
  obtain ⟨av, y, ls, ds, rfl, YD, h20, h40, qe, q⟩ := h
  obtain ⟨dy, g, d, l, t, p, es, hy, PA, hR, hK, _⟩ := YD
  obtain ⟨dg, hg⟩ := PA.ob
  refine ⟨_, (pss_one (ps_ret (pe_meth0 (pe_fld (pv 0) rfl) PTx.cl mNe GNe hr bNe .nil (passes_cx frm_cxOf xe_cxOf)))), ?_⟩
  exact ⟨_, rfl, y, CY, dy, _, _, rfl, hy, YTx.cl, YTx.ng, yfl_g _ _ _ _, g, dg, _, rfl, hg, (by with_unfolding_all rfl), g, l, t, p, ls, es, [], ds, rfl, PA, hR, hK, h20, h40, qe, q⟩
end
end K82

set_option Elab.async false
set_option linter.all false
set_option maxRecDepth 100000
set_option maxHeartbeats 4000000
namespace K82
open PySem L2 Tx
section
variable {P : Program} {w : World} {K : PySem.W.Frag} {mg : Str → Option Value} {base : Heap} {f g1 g2 g3 g4 g5 g6 g7 g8 : Addr} {fd gd1 gd2 gd3 gd4 gd5 gd6 gd7 gd8 : FuncData} {CX : CXT}
variable {CR : Addr} {CK : Kd → Addr} {fW fJ fT fS : Kd → Addr} {fdW fdJ fdT fdS : Kd → FuncData}
abbrev sPick : Stmt := top 53
theorem scPick : FnScope ["_law_script", "_law_k"] ["_law_script", "_law_k"] (defScope sPick) := ⟨rfl, rfl, rfl, by decide +kernel, rfl, by decide +kernel, by decide +kernel⟩
theorem ok_pick {dV : Value} (F : FunD K "_law_pick" "_law_pick" sPick dV f fd) : FnOk P w K mg base CX 1 f fd ["_law_script", "_law_k"] (spPick K) := by
  refine F.ok scPick (fun vs H Q E h => ?_) (fun cdv A outer s H vs Q E hr h => ?_)
  · obtain ⟨a, ns, j, k, rfl, _⟩ := h
    rfl
  obtain ⟨a, ns, _, k, rfl, rfl, hS, h63, q⟩ := h
  refine ⟨_, pss_one (ps_ret (pe_ix ix_list (pe_op op_cat (pe_slice sl_list (pv 0) (po_some (pv 1)) (po_some (pe_op op_add (pv 1) pe_int))) (pe_lst (pa_cons pe_int pa_nil))) pe_int (fun _ _ => rfl))), ?_⟩
  refine ⟨_, rfl, _, rfl, _, rfl, _, rfl, _, _, rfl, rfl, _, rfl, a, _, rfl, hS, fun p hp => ?_⟩
  refine ⟨by show 1 ≤ sizeLine; decide, fun p2 hp2 => ?_⟩
  have s1 := same_new hp (.lst (cutV (ns.map V.int) (some (k : Int)) (some ((k : Int) + 1))))
  have s2 := same_new hp2 (.lst [V.int 0])
  have hc := cutV_length (ns.map V.int) (some (k : Int)) (some ((k : Int) + 1))
  rw [List.length_map] at hc
  refine ⟨p, p2, _, _, rfl, rfl, s2 _ _ upd_same, upd_same, ?_, fun p3 hp3 => ?_⟩
  · have : sizeLine = 16777216 := sizeLine_eq
    simp only [List.length_cons, List.length_nil]; omega
  have s3 := same_new hp3 (.lst (cutV (ns.map V.int) (some (k : Int)) (some ((k : Int) + 1)) ++ [V.int 0]))
  refine ⟨p3, _, 0, _, rfl, rfl, SqL.of upd_same, pick_at ns k, q _ ((s1.trans s2).trans s3)⟩
abbrev sMix : Stmt := top 54
theorem scMix : FnScope ["_law_cell", "_law_prime", "_law_many", "_law_rest", "_law_number"] ["_law_cell", "_law_prime", "_law_many"] (defScope sMix) := ⟨rfl, rfl, rfl, by decide +kernel, rfl, by decide +kernel, by decide +kernel⟩
def spMix : Sp := fun vs H Q _ => ∃ c p m : Int, vs = [.int c, .int p, .int m] ∧ 0 ≤ p ∧ p < 1099511627776 ∧ 0 < m ∧ ∀ r : Int, 0 ≤ r → r < m → Q (.int r) H
theorem ok_mix {dV : Value} (F : FunD K "_law_mix" "_law_mix" sMix dV f fd) :
    FnOk P w K mg base CX 1 f fd ["_law_cell", "_law_prime", "_law_many"] spMix := by
  refine F.ok scMix (fun vs H Q E h => ?_) (fun cdv A outer s H vs Q E hr h => ?_)
  · obtain ⟨c, p, m, rfl, h0, h9, hm, q⟩ := h
    rfl
  obtain ⟨c, p, m, rfl, h0, h9, hm, q⟩ := h
  refine ⟨_, (pss_cons (ps_if (pt_cmpR op_ge (pv 0) (pe_op op_pow pe_int pe_int) (nomark _)) (pss_cons (ps_set (i := 3) scMix.nd rfl (Or.inl rfl) (pe_op op_shr (pv 0) (pe_op op_add pe_int (pe_op op_mul pe_int (pe_op op_mod (pv 1) pe_int)))))
    (pss_one (ps_if (pt_cmpR op_gt (pv 3) pe_int (nomark _)) (pss_one (ps_ret (pe_op op_modN (pv 3) (pv 2)))) pss_nil))) pss_nil)
    (pss_cons (ps_set (i := 4) scMix.nd rfl (Or.inl rfl) (pe_op op_mod (pe_op op_mulB (pe_op op_add (pe_op op_mod (pv 0) pe_int) pe_int) (pv 1)) pe_int))
    (pss_one (ps_ret (pe_op op_modN (pe_op op_mod (pe_op op_mulB (pv 4) (pe_op op_add (pv 4) (pv 1))) pe_int) (pv 2)))))), ?_⟩
  have hf : ∀ u : Int, 0 ≤ u.fmod m ∧ u.fmod m < m := fun u => ⟨Int.fmod_nonneg_of_pos u hm, Int.fmod_lt_of_pos u hm⟩
  have m0 : m ≠ 0 := by omega
  refine ⟨_, rfl, _, _, rfl, rfl, ⟨by decide, by decide, by decide⟩, _, _, rfl, rfl, _, rfl, ?_⟩
  have x1 := Int.emod_nonneg c (show (1000003 : Int) ≠ 0 by decide)
  have x2 := Int.emod_lt_of_pos c (show (0 : Int) < 1000003 by decide)
  have n1 : 0 ≤ (c % 1000003 + 1) * p % 999983 := Int.emod_nonneg _ (by decide)
  have n2 : (c % 1000003 + 1) * p % 999983 < 999983 := Int.emod_lt_of_pos _ (by decide)
  refine ite2 (fun _ => ?_) (fun _ => ?_)
  · have j1 := Int.emod_nonneg p (show (274 : Int) ≠ 0 by decide)
    refine ⟨_, rfl, _, rfl, _, _, rfl, rfl, (show (0 : Int) < 274 by decide), _, _, rfl, rfl, Or.inl ⟨by decide, by decide⟩, _, _, rfl, rfl, _, _, rfl, rfl, by omega, ?_⟩
    refine ⟨_, rfl, _, _, rfl, rfl, _, rfl, ite2 (fun _ => ?_) (fun _ => ?_)⟩
    · exact ⟨_, rfl, _, rfl, _, _, rfl, rfl, m0, q _ (hf _).1 (hf _).2⟩
    · refine ⟨_, rfl, _, _, rfl, rfl, (show (0 : Int) < 1000003 by decide), _, _, rfl, rfl, _, rfl, rd_mulB (n := 40) (m := 40) (B_of (by omega) (by omega)) (B_of (by omega) (by omega)) (by omega) (by omega) ⟨_, _, rfl, rfl, (show (0 : Int) < 999983 by decide), ?_⟩⟩
      refine ⟨_, rfl, _, rfl, _, rfl, _, _, rfl, rfl, rd_mulB (n := 41) (m := 41) (B_of (by omega) (by omega)) (B_of (by omega) (by omega)) (by omega) (by omega) ?_⟩
      exact ⟨_, _, rfl, rfl, (show (0 : Int) < 1000033 by decide), _, rfl, _, _, rfl, rfl, m0, q _ (hf _).1 (hf _).2⟩
  · refine ⟨_, rfl, _, _, rfl, rfl, (show (0 : Int) < 1000003 by decide), _, _, rfl, rfl, _, rfl, rd_mulB (n := 40) (m := 40) (B_of (by omega) (by omega)) (B_of (by omega) (by omega)) (by omega) (by omega) ⟨_, _, rfl, rfl, (show (0 : Int) < 999983 by decide), ?_⟩⟩
    refine ⟨_, rfl, _, rfl, _, rfl, _, _, rfl, rfl, rd_mulB (n := 41) (m := 41) (B_of (by omega) (by omega)) (B_of (by omega) (by omega)) (by omega) (by omega) ?_⟩
    exact ⟨_, _, rfl, rfl, (show (0 : Int) < 1000033 by decide), _, rfl, _, _, rfl, rfl, m0, q _ (hf _).1 (hf _).2⟩
abbrev sDiv : Stmt := top 56
theorem scDiv : FnScope ["_law_one", "_law_other"] ["_law_one", "_law_other"] (defScope sDiv) := ⟨rfl, rfl, rfl, by decide +kernel, rfl, by decide +kernel, by decide +kernel⟩
def spGcP : Sp := fun vs H Q _ => ∃ a b : Int, vs = [.int a, .int b] ∧ 0 ≤ a ∧ 0 ≤ b ∧ Q (.int (Mq.gc a b)) H
theorem p12 : (10 : Int) ^ (12 : Int).toNat = 1000000000000 := by decide
theorem dvr_pos' {t b : Int} (h : 0 < b) : Mq.dvr t b = Mq.gc t b := by unfold Mq.dvr; rw [if_neg (by omega)]
theorem at2 {x y : V} {r : Int} (h0 : 0 ≤ r) (h2 : r < 2) : atI [x, y] r = some (if r = 0 then x else y) := by
  have : r = 0 ∨ r = 1 := by omega
  rcases this with rfl | rfl
  · rfl
  · rfl
theorem gc_neg (a b : Int) : Mq.gc (0 - a) b = Mq.gc a b := by unfold Mq.gc; rw [Int.zero_sub, Int.neg_gcd]
abbrev GoodZ (k : Kd) (p : Mq.Q2) : Prop := Mq.Low p ∧ (k = .pc → 0 < p.1) ∧ Mq.Bd 50 p
def spSize : Sp := fun vs H Q _ => ∃ (c : Int) (k : Kd), vs = [.int c, .str k.wd] ∧ ∀ p, GoodZ k p → ∀ a H', Same H H' → H a = none → H' a = some (.tup [.int p.1, .int p.2]) → Q (.ref a) H'
theorem ok_div {dV : Value} (F : FunD K "_law_divisor" "_law_divisor" sDiv dV f fd) :
    FnOk P w K mg base CX 1 f fd ["_law_one", "_law_other"] spGcP := by
  refine F.ok scDiv (fun vs H Q E h => ?_) (fun cdv A outer s H vs Q E hr h => ?_)
  · obtain ⟨x, y, rfl, hx, hy, q⟩ := h
    rfl
  obtain ⟨x, y, rfl, hx, hy, q⟩ := h
  refine ⟨_, (pss_cons (ps_while PassesOwn.never (pt_cmpR op_ne (pv 1) pe_int (nomark _)) (pss_one (ps_par (i := 0) (j := 1) rfl scDiv.nd rfl rfl (by decide) rfl rfl (pa_cons (pv 1) (pa_cons (pe_op op_modN (pv 0) (pv 1)) pa_nil)) rfl)))
    (pss_one (ps_ret (pv 0)))), ?_⟩
  refine while_by (fun σ H' => H' = H ∧ ∃ u v, σ = [some (.int u), some (.int v)] ∧ Mq.gc u v = Mq.gc x y ∧ 0 ≤ u ∧ 0 ≤ v) (fun σ _ => match σ with | [_, some (.int v)] => v.natAbs | _ => 0) ⟨rfl, x, y, rfl, rfl, hx, hy⟩ ?_ ?_
  · rintro σ H' ⟨rfl, u, v, rfl, e, hu, hv0⟩
    refine ⟨_, rfl, rfl, _, rfl, ?_⟩
    refine ite2 (fun c => ?_) (fun c => ?_)
    · have hv : v ≠ 0 := by intro q; subst q; simp at c
      refine ⟨_, rfl, _, rfl, _, rfl, _, _, rfl, rfl, hv, _, _, rfl, ⟨rfl, v, Int.fmod u v, rfl, (Mq.gc_step u v).trans e, hv0, Int.fmod_nonneg_of_pos u (by omega)⟩, Mq.fmod_less hv⟩
    · have hv : v = 0 := by
        simp at c
        exact c
      subst hv
      refine ⟨_, rfl, ?_⟩
      rw [← e, Mq.gc_zero, if_neg (by omega)] at q
      exact q
  · rintro σ H Q Q' m ⟨v, h1, h2, k, h3, h4⟩
    exact ⟨v, h1, h2, k, h3, m _ _ h4⟩
abbrev sSize : Stmt := top 57
theorem scSize : FnScope ["_law_cell", "_law_word", "_law_top", "_law_bottom", "_law_share"] ["_law_cell", "_law_word"] (defScope sSize) := ⟨rfl, rfl, rfl, by decide +kernel, rfl, by decide +kernel, by decide +kernel⟩
theorem ok_size {dV : Value} (F : FunD K "_law_size" "_law_size" sSize dV f fd)
    (G1 : FnOk P w K mg base CX0 1 g1 gd1 ["_law_cell", "_law_prime", "_law_many"] spMix) (b1 : Binds K gd1 ["_law_cell", "_law_prime", "_law_many"] []) (k1 : PySem.W.keepIn K (.ref g1) = true) (m1 : mg "_law_mix" = some (.ref g1))
    (G2 : FnOk P w K mg base CX0 1 g2 gd2 ["_law_one", "_law_other"] spGcP) (b2 : Binds K gd2 ["_law_one", "_law_other"] []) (k2 : PySem.W.keepIn K (.ref g2) = true) (m2 : mg "_law_divisor" = some (.ref g2)) :
    FnOk P w K mg base CX 2 f fd ["_law_cell", "_law_word"] spSize := by
  refine F.ok scSize (fun vs H Q E h => ?_) (fun cdv A outer s H vs Q E hr h => ?_)
  · obtain ⟨c, k, rfl, q⟩ := h
    rfl
  obtain ⟨c, k, rfl, q⟩ := h
  refine ⟨_, (pss_cons (ps_set (i := 2) scSize.nd rfl (Or.inl rfl) (pe_op op_mod (pe_op op_shr (pv 0) pe_int) (pe_op op_pow pe_int pe_int)))
    (pss_cons (ps_set (i := 3) scSize.nd rfl (Or.inl rfl) (pe_op op_add pe_int (pe_call G1 hr rfl m1 k1 b1 .nil pass0 (pa_cons (pv 0) (pa_cons pe_int (pa_cons (pe_ix ix_list (pe_lst (pa_cons pe_int (pa_cons pe_int pa_nil))) (pe_call G1 hr rfl m1 k1 b1 .nil pass0 (pa_cons (pv 0) (pa_cons pe_int (pa_cons pe_int pa_nil)))) (fun _ _ => rfl)) pa_nil))))))
    (pss_cons (ps_if (pt_cmpR op_eq (pv 1) pe_str (nomark _)) (pss_one (ps_set (i := 2) scSize.nd rfl (Or.inl rfl) (pe_op op_add (pv 2) pe_int))) pss_nil)
    (pss_cons (ps_set (i := 4) scSize.nd rfl (Or.inl rfl) (pe_call G2 hr rfl m2 k2 b2 .nil pass0 (pa_cons (pv 2) (pa_cons (pv 3) pa_nil))))
    (pss_cons (ps_set (i := 2) scSize.nd rfl (Or.inl rfl) (pe_op op_fdivB (pv 2) (pv 4)))
    (pss_cons (ps_if (PW.pt (pw_and (pt_cmpR op_ne (pv 1) pe_str (nomark _)) (pw_and1 (pt_cmpR op_eq (pe_call G1 hr rfl m1 k1 b1 .nil pass0 (pa_cons (pv 0) (pa_cons pe_int (pa_cons pe_int pa_nil)))) pe_int (nomark _))))) (pss_one (ps_set (i := 2) scSize.nd rfl (Or.inl rfl) (pe_op op_sub pe_int (pv 2)))) pss_nil)
    (pss_one (ps_ret (pe_tup (pa_cons (pv 2) (pa_cons (pe_op op_fdivB (pv 3) (pv 4)) pa_nil))))))))))), ?_⟩
  refine ⟨_, rfl, _, _, rfl, rfl, (show (0 : Int) ≤ 1 by decide), _, _, rfl, rfl, ⟨by decide, by decide, by decide⟩, _, _, rfl, rfl, (show (0 : Int) < 10 ^ (12 : Int).toNat by decide), ?_⟩
  have a1 := Int.emod_nonneg (c / 2 ^ (1 : Int).toNat) (show (10 ^ (12 : Int).toNat : Int) ≠ 0 by decide)
  have a2 := Int.emod_lt_of_pos (c / 2 ^ (1 : Int).toNat) (show (0 : Int) < 10 ^ (12 : Int).toNat by decide)
  show gName 2 (.int (c / 2 ^ (1 : Int).toNat % 10 ^ (12 : Int).toNat)) _ _ _
  generalize c / 2 ^ (1 : Int).toNat % 10 ^ (12 : Int).toNat = t at a1 a2 ⊢
  rw [p12] at a2
  refine ⟨_, rfl, by show 2 ≤ sizeLine; decide, fun l hl => ?_⟩
  have s1 := same_new hl (.lst [.int 4, .int 900007])
  have e1 : upd H l (.lst [.int 4, .int 900007]) l = some (.lst [.int 4, .int 900007]) := upd_same
  generalize upd H l (.lst [.int 4, .int 900007]) = H1 at s1 e1 ⊢
  refine ⟨_, rfl, c, 30269, 2, rfl, by decide, by decide, by decide, fun r r0 r2 => ?_⟩
  obtain ⟨m, em, m1', m9⟩ : ∃ m : Int, atI [V.int 4, V.int 900007] r = some (.int m) ∧ 0 < m ∧ m ≤ 900007 := by
    rw [at2 r0 r2]
    by_cases z : r = 0
    · rw [if_pos z]; exact ⟨4, rfl, by decide, by decide⟩
    · rw [if_neg z]; exact ⟨900007, rfl, by decide, by decide⟩
  refine ⟨l, _, r, _, rfl, rfl, SqL.of e1, em, c, 39373, m, rfl, by decide, by decide, m1', fun v v0 v1 => ⟨_, _, rfl, rfl, ?_⟩⟩
  show gName 3 (.int (1 + v)) _ _ _
  obtain ⟨b', hb⟩ : ∃ b, 1 + v = b := ⟨_, rfl⟩
  rw [hb]
  have b1' : 0 < b' := by omega
  have bB : Mq.B 50 b' := B_of (by omega) (by omega)
  have core : ∀ t' : Int, 0 ≤ t' → t' ≤ 1000000000000 → Mq.gc t' b' ≠ 0 ∧ Mq.B 50 (Mq.gc t' b') ∧ Mq.Low (t'.fdiv (Mq.gc t' b'), b'.fdiv (Mq.gc t' b')) ∧ Mq.Bd 50 (t'.fdiv (Mq.gc t' b'), b'.fdiv (Mq.gc t' b')) ∧ (0 < t' → 0 < t'.fdiv (Mq.gc t' b')) := fun t' t0 t9 => by
    have bT : Mq.B 50 t' := B_of (by omega) (by omega)
    have hd := Mq.dvr_ne (t := t') (show b' ≠ 0 by omega)
    have hdB : Mq.B 50 (Mq.dvr t' b') := bB.le (Mq.dvr_le (by omega))
    have e := dvr_pos' (t := t') b1'
    rw [e] at hd hdB
    have er : Mq.red t' b' = (t'.fdiv (Mq.gc t' b'), b'.fdiv (Mq.gc t' b')) := by unfold Mq.red; rw [e]
    have le := Mq.red_le (t := t') (show b' ≠ 0 by omega)
    rw [← er]
    refine ⟨hd, hdB, Mq.red_low (by omega), ⟨bT.le le.1, bB.le le.2⟩, fun tp => ?_⟩
    have := (Mq.red_ps tp b1').pos
    rw [er] at this
    exact this
  clear hb
  cases k
  · refine ⟨_, rfl, rfl, _, rfl, L2.ifT (dec_wd .pc .pc) ⟨_, rfl, _, _, rfl, rfl, ?_⟩⟩
    show gName 2 (.int (t + 1)) _ _ _
    obtain ⟨hd, hdB, low, bd, pos⟩ := core (t + 1) (by omega) (by omega)
    refine ⟨_, rfl, _, rfl, t + 1, b', rfl, by omega, by omega, ?_⟩
    refine ⟨_, rfl, _, rfl, rd_fdivB hd hdB (by omega) ?_⟩
    refine ⟨_, rfl, rfl, _, rfl, L2.ifF (congrArg Bool.not (dec_wd .pc .pc)) ?_⟩
    refine ⟨_, rfl, _, rfl, _, rfl, rd_fdivB hd hdB (by omega) ⟨by show 2 ≤ sizeLine; decide, fun p hp => ?_⟩⟩
    exact q _ ⟨low, fun _ => pos (by omega), bd⟩ p _ (s1.trans (same_new hp _)) (s1.free hp) upd_same
  · refine ⟨_, rfl, rfl, _, rfl, L2.ifF (dec_wd .pu .pc) ?_⟩
    obtain ⟨hd, hdB, low, bd, pos⟩ := core t (by omega) (by omega)
    refine ⟨_, rfl, _, rfl, t, b', rfl, by omega, by omega, ?_⟩
    refine ⟨_, rfl, _, rfl, rd_fdivB hd hdB (by omega) ?_⟩
    refine ⟨_, rfl, rfl, _, rfl, L2.ifT (congrArg Bool.not (dec_wd .pu .pc)) ?_⟩
    refine ⟨_, rfl, c, 30307, 2, rfl, by decide, by decide, by decide, fun u u0 u2 => ⟨rfl, _, rfl, ite2 (fun _ => ?_) (fun _ => ?_)⟩⟩
    · refine ⟨_, rfl, _, _, rfl, rfl, ?_⟩
      refine ⟨_, rfl, _, rfl, _, rfl, rd_fdivB hd hdB (by omega) ⟨by show 2 ≤ sizeLine; decide, fun p hp => ?_⟩⟩
      exact q (0 - t.fdiv (Mq.gc t b'), b'.fdiv (Mq.gc t b')) ⟨⟨low.1, (gc_neg _ _).trans low.2⟩, (fun z => by cases z), ⟨by have := bd.a; unfold Mq.B at this ⊢; show (0 - t.fdiv (Mq.gc t b')).natAbs < _; have h3 : (t.fdiv (Mq.gc t b'), b'.fdiv (Mq.gc t b')).1 = t.fdiv (Mq.gc t b') := rfl; rw [h3] at this; omega, bd.b⟩⟩ p _ (s1.trans (same_new hp _)) (s1.free hp) upd_same
    · refine ⟨_, rfl, _, rfl, _, rfl, rd_fdivB hd hdB (by omega) ⟨by show 2 ≤ sizeLine; decide, fun p hp => ?_⟩⟩
      exact q _ ⟨low, (fun z => by cases z), bd⟩ p _ (s1.trans (same_new hp _)) (s1.free hp) upd_same
  · refine ⟨_, rfl, rfl, _, rfl, L2.ifF (dec_wd .ho .pc) ?_⟩
    obtain ⟨hd, hdB, low, bd, pos⟩ := core t (by omega) (by omega)
    refine ⟨_, rfl, _, rfl, t, b', rfl, by omega, by omega, ?_⟩
    refine ⟨_, rfl, _, rfl, rd_fdivB hd hdB (by omega) ?_⟩
    refine ⟨_, rfl, rfl, _, rfl, L2.ifT (congrArg Bool.not (dec_wd .ho .pc)) ?_⟩
    refine ⟨_, rfl, c, 30307, 2, rfl, by decide, by decide, by decide, fun u u0 u2 => ⟨rfl, _, rfl, ite2 (fun _ => ?_) (fun _ => ?_)⟩⟩
    · refine ⟨_, rfl, _, _, rfl, rfl, ?_⟩
      refine ⟨_, rfl, _, rfl, _, rfl, rd_fdivB hd hdB (by omega) ⟨by show 2 ≤ sizeLine; decide, fun p hp => ?_⟩⟩
      exact q (0 - t.fdiv (Mq.gc t b'), b'.fdiv (Mq.gc t b')) ⟨⟨low.1, (gc_neg _ _).trans low.2⟩, (fun z => by cases z), ⟨by have := bd.a; unfold Mq.B at this ⊢; show (0 - t.fdiv (Mq.gc t b')).natAbs < _; have h3 : (t.fdiv (Mq.gc t b'), b'.fdiv (Mq.gc t b')).1 = t.fdiv (Mq.gc t b') := rfl; rw [h3] at this; omega, bd.b⟩⟩ p _ (s1.trans (same_new hp _)) (s1.free hp) upd_same
    · refine ⟨_, rfl, _, rfl, _, rfl, rd_fdivB hd hdB (by omega) ⟨by show 2 ≤ sizeLine; decide, fun p hp => ?_⟩⟩
      exact q _ ⟨low, (fun z => by cases z), bd⟩ p _ (s1.trans (same_new hp _)) (s1.free hp) upd_same
end
end K82

set_option Elab.async false
set_option linter.all false
namespace L2
open PySem PySem.Spec PyProof.Rows
variable {X : Cx}
def rRep1 : R2 := fun x y H Q => ∃ (d : Nat) (k : Int), x = .str (Tx.S [d]) ∧ y = .int k ∧ 0 ≤ k ∧ k ≤ 1000 ∧ Q (.str (Tx.S (List.replicate k.toNat d))) H
theorem foldl_rep1 (d : Nat) : ∀ (n : Nat) (a : Array Nat), (List.foldl (fun x1 x2 => x1 ++ x2) a (List.replicate n #[d])).toList = a.toList ++ List.replicate n d
  | 0, a => by simp
  | n + 1, a => by
    rw [List.replicate_succ, List.foldl_cons, foldl_rep1 d n, List.replicate_succ]
    simp
theorem op_rep1 : OpR X (binaryOp .Mult) rRep1 := by
  intro pins s σ H x y v u Q I rx ry h
  obtain ⟨d, k, rfl, rfl, h0, h1, q⟩ := h
  obtain ⟨t, rfl⟩ := rx
  obtain ⟨t', rfl⟩ := ry
  have hz : sizeLine = 16777216 := sizeLine_eq
  have l1 : (Tx.S [d]).length = 1 := rfl
  refine PySem.P.mul_str (by rw [Bool.or_eq_false_iff]; exact ⟨decide_eq_false (by omega), decide_eq_false (by omega)⟩) (fun hk _ => ?_) (fun hk _ => ?_) ?_
  · have hk1 : 1 ≤ k := by omega
    have : (1000 : Int) ≤ (2 ^ 63 - 1) / k := by
      refine Int.le_ediv_of_mul_le (by omega) ?_
      have : 1000 * k ≤ 1000 * 1000 := by omega
      omega
    omega
  · unfold Builtin.Str.tooLong
    exact decide_eq_false (by rw [l1]; omega)
  · split
    · have e : Tx.S (List.replicate k.toNat d) = Str.empty := by rw [show k.toNat = 0 by omega]; rfl
      rw [e] at q
      exact ⟨by show (0 : Nat) ≤ _; omega, .str Str.empty, H, I.tok _, ⟨_, rfl⟩, q⟩
    · split
      · rename_i hk e
        have : k = 1 := by
          rw [l1] at e
          simpa using e
        rw [this] at q
        exact ⟨.str _, H, I, ⟨_, rfl⟩, q⟩
      · have hl : (⟨List.foldl (fun x1 x2 => x1 ++ x2) #[] (List.replicate k.toNat (Tx.S [d]).cps)⟩ : Str) = Tx.S (List.replicate k.toNat d) := Tx.S_of (foldl_rep1 d k.toNat #[])
        rw [hl]
        exact ⟨by rw [Tx.S_len, List.length_replicate]; omega, .str _, H, I.tok _, ⟨_, rfl⟩, q⟩
end L2

set_option Elab.async false
set_option linter.all false
set_option maxRecDepth 100000
set_option maxHeartbeats 4000000
namespace K82
open PySem L2 Tx
section
variable {P : Program} {w : World} {K : PySem.W.Frag} {mg : Str → Option Value} {base : Heap} {f g1 g2 g3 g4 g5 g6 g7 g8 : Addr} {fd gd1 gd2 gd3 gd4 gd5 gd6 gd7 gd8 : FuncData} {CX : CXT}
variable {CR : Addr} {CK : Kd → Addr} {fW fJ fT fS : Kd → Addr} {fdW fdJ fdT fdS : Kd → FuncData}
abbrev sShown : Stmt := top 58
theorem scShown : FnScope ["_law_size_here"] ["_law_size_here"] (defScope sShown) := ⟨rfl, rfl, rfl, by decide +kernel, rfl, by decide +kernel, by decide +kernel⟩
theorem ok_shown {dV : Value} (F : FunD K "_law_shown" "_law_shown" sShown dV f fd) (ms : mg "str" = none) (nd : PySem.W.nsIn K cStatics "sys.int_max_str_digits" = some none) : FnOk P w K mg base CX 1 f fd ["_law_size_here"] (spShow K) := by
  refine F.ok scShown (fun vs H Q E h => ?_) (fun cdv A outer s H vs Q E hr h => ?_)
  · obtain ⟨a, p, n, rfl, _⟩ := h
    rfl
  obtain ⟨a, p, n, rfl, hF, hB, hn, q⟩ := h
  refine ⟨_, pss_cons (ps_if (pt_cmpR op_eq (pe_ix ix_tup (pv 0) pe_int (fun _ _ => rfl)) pe_int (nomark _)) (pss_one (ps_ret (pe_callTy (call_strB rfl nd) rfl ms PyProof.Rows.boot_str (pa_cons (pe_ix ix_tup (pv 0) pe_int (fun _ _ => rfl)) pa_nil)))) pss_nil)
    (pss_one (ps_ret (pe_op op_add_str (pe_op op_add_str (pe_callTy (call_strB rfl nd) rfl ms PyProof.Rows.boot_str (pa_cons (pe_ix ix_tup (pv 0) pe_int (fun _ _ => rfl)) pa_nil)) pe_str) (pe_callTy (call_strB rfl nd) rfl ms PyProof.Rows.boot_str (pa_cons (pe_ix ix_tup (pv 0) pe_int (fun _ _ => rfl)) pa_nil))))), ?_⟩
  have hz : sizeLine = 16777216 := sizeLine_eq
  have l1 := itx_len hB.a hn
  have l2 := itx_len hB.b hn
  refine rd_ix1 rfl hF ⟨rfl, _, rfl, ?_⟩
  by_cases e : p.2 = 1
  · rw [decide_eq_true (show V.int p.2 = V.int 1 by rw [e])]
    refine iteT (rd_ix0 rfl hF ⟨p.1, n, rfl, hB.a, hn, ?_⟩)
    rw [str_int]
    unfold shw at q
    rw [if_pos e] at q
    exact q
  · rw [decide_eq_false (fun z => e (by injection z))]
    refine iteF (rd_ix0 rfl hF ⟨p.1, n, rfl, hB.a, hn, ⟨_, _, rfl, rfl, ?_, ?_⟩⟩)
    · rw [str_int, S_len]
      have : ("/" : Str).length = 1 := by decide
      omega
    · refine rd_ix1 rfl hF ⟨p.2, n, rfl, hB.b, hn, _, _, rfl, rfl, ?_, ?_⟩
      · rw [str_int, str_int, show ("/" : Str) = S [47] by decide +kernel, S_app, S_len, S_len, List.length_append]
        simp only [List.length_cons, List.length_nil]
        omega
      · rw [str_int, str_int, show ("/" : Str) = S [47] by decide +kernel, S_app, S_app]
        unfold shw at q
        rw [if_neg e] at q
        rw [List.append_assoc]
        exact q
theorem item_some {z : Str} {i : Int} (h0 : 0 ≤ i) (h1 : i < (z.length : Int)) : ∃ c, z.cps[i.toNat]? = some c := by
  have h : i.toNat < z.cps.size := by have : z.length = z.cps.size := rfl; omega
  exact ⟨_, Array.getElem?_eq_getElem h⟩
theorem mid_all : ((List.range 9).all fun a => (List.range 9).all fun b => (Txt.slice "momoommo" (some (a : Int)) (some (b : Int))).cps.toList.all ltB && decide ((Txt.slice "momoommo" (some (a : Int)) (some (b : Int))).cps.toList.length ≤ b - a)) = true := by decide +kernel
theorem to_all : ((List.range 9).all fun b => (Txt.slice "momoommo" none (some (b : Int))).cps.toList.all ltB && decide ((Txt.slice "momoommo" none (some (b : Int))).cps.toList.length ≤ b)) = true := by decide +kernel
theorem mid_ok {a b : Nat} (ha : a < 9) (hb : b < 9) : ∃ cs, Txt.slice "momoommo" (some (a : Int)) (some (b : Int)) = S cs ∧ cs.all ltB = true ∧ cs.length ≤ b - a := by
  have h := List.all_eq_true.mp (List.all_eq_true.mp mid_all a (List.mem_range.mpr ha)) b (List.mem_range.mpr hb)
  rw [Bool.and_eq_true] at h
  exact ⟨_, S_self _, h.1, of_decide_eq_true h.2⟩
theorem to_ok {b : Nat} (hb : b < 9) : ∃ cs, Txt.slice "momoommo" none (some (b : Int)) = S cs ∧ cs.all ltB = true ∧ cs.length ≤ b := by
  have h := List.all_eq_true.mp to_all b (List.mem_range.mpr hb)
  rw [Bool.and_eq_true] at h
  exact ⟨_, S_self _, h.1, of_decide_eq_true h.2⟩
theorem let_all : ((List.range 26).all fun i => (("abcdefghijklmnopqrstuvwxyz" : Str).cps[i]?).all ltB) = true := by decide +kernel
theorem let_ok {i : Nat} {d : Nat} (hi : i < 26) (h : ("abcdefghijklmnopqrstuvwxyz" : Str).cps[i]? = some d) : ltB d = true := by
  have := List.all_eq_true.mp let_all i (List.mem_range.mpr hi)
  rw [h] at this
  exact this
theorem S_snoc (cs : List Nat) (c : Nat) : S cs ++ (⟨#[c]⟩ : Str) = S (cs ++ [c]) := by rw [← S_app]; rfl
def mixB (c p m : Int) : Int := ((c % 1000003 + 1) * p % 999983 * ((c % 1000003 + 1) * p % 999983 + p) % 1000033).fmod m
def mixF (c p m : Int) : Int := if 10 ^ (18 : Int).toNat ≤ c then (if 0 < c / 2 ^ (1 + 24 * (p % 274)).toNat then (c / 2 ^ (1 + 24 * (p % 274)).toNat).fmod m else mixB c p m) else mixB c p m
theorem mixF_in (c p : Int) {m : Int} (hm : 0 < m) : 0 ≤ mixF c p m ∧ mixF c p m < m := by
  have hf : ∀ u : Int, 0 ≤ u.fmod m ∧ u.fmod m < m := fun u => ⟨Int.fmod_nonneg_of_pos u hm, Int.fmod_lt_of_pos u hm⟩
  unfold mixF mixB
  split
  · split <;> exact hf _
  · exact hf _
def spMixF : Sp := fun vs H Q _ => ∃ c p m : Int, vs = [.int c, .int p, .int m] ∧ 0 ≤ p ∧ p < 1099511627776 ∧ 0 < m ∧ Q (.int (mixF c p m)) H
theorem ok_mixF {dV : Value} (F : FunD K "_law_mix" "_law_mix" sMix dV f fd) :
    FnOk P w K mg base CX 1 f fd ["_law_cell", "_law_prime", "_law_many"] spMixF := by
  refine F.ok scMix (fun vs H Q E h => ?_) (fun cdv A outer s H vs Q E hr h => ?_)
  · obtain ⟨c, p, m, rfl, h0, h9, hm, q⟩ := h
    rfl
  obtain ⟨c, p, m, rfl, h0, h9, hm, q⟩ := h
  refine ⟨_, (pss_cons (ps_if (pt_cmpR op_ge (pv 0) (pe_op op_pow pe_int pe_int) (nomark _)) (pss_cons (ps_set (i := 3) scMix.nd rfl (Or.inl rfl) (pe_op op_shr (pv 0) (pe_op op_add pe_int (pe_op op_mul pe_int (pe_op op_mod (pv 1) pe_int)))))
    (pss_one (ps_if (pt_cmpR op_gt (pv 3) pe_int (nomark _)) (pss_one (ps_ret (pe_op op_modN (pv 3) (pv 2)))) pss_nil))) pss_nil)
    (pss_cons (ps_set (i := 4) scMix.nd rfl (Or.inl rfl) (pe_op op_mod (pe_op op_mulB (pe_op op_add (pe_op op_mod (pv 0) pe_int) pe_int) (pv 1)) pe_int))
    (pss_one (ps_ret (pe_op op_modN (pe_op op_mod (pe_op op_mulB (pv 4) (pe_op op_add (pv 4) (pv 1))) pe_int) (pv 2)))))), ?_⟩
  have m0 : m ≠ 0 := by omega
  refine ⟨_, rfl, _, _, rfl, rfl, ⟨by decide, by decide, by decide⟩, _, _, rfl, rfl, _, rfl, ?_⟩
  have x1 := Int.emod_nonneg c (show (1000003 : Int) ≠ 0 by decide)
  have x2 := Int.emod_lt_of_pos c (show (0 : Int) < 1000003 by decide)
  have n1 : 0 ≤ (c % 1000003 + 1) * p % 999983 := Int.emod_nonneg _ (by decide)
  have n2 : (c % 1000003 + 1) * p % 999983 < 999983 := Int.emod_lt_of_pos _ (by decide)
  have B1 : Mq.B 40 (c % 1000003 + 1) := B_of (by omega) (by omega)
  have B2 : Mq.B 40 p := B_of (by omega) (by omega)
  have B3 : Mq.B 41 ((c % 1000003 + 1) * p % 999983) := B_of (by omega) (by omega)
  have B4 : Mq.B 41 ((c % 1000003 + 1) * p % 999983 + p) := B_of (by omega) (by omega)
  refine ite2 (fun hc => ?_) (fun hc => ?_)
  · have hc' : 10 ^ (18 : Int).toNat ≤ c := of_decide_eq_true hc
    have j1 := Int.emod_nonneg p (show (274 : Int) ≠ 0 by decide)
    refine ⟨_, rfl, _, rfl, _, _, rfl, rfl, (show (0 : Int) < 274 by decide), _, _, rfl, rfl, Or.inl ⟨by decide, by decide⟩, _, _, rfl, rfl, _, _, rfl, rfl, by omega, ?_⟩
    refine ⟨_, rfl, _, _, rfl, rfl, _, rfl, ite2 (fun hd => ?_) (fun hd => ?_)⟩
    · have hd' : 0 < c / 2 ^ (1 + 24 * (p % 274)).toNat := of_decide_eq_true hd
      have ee : mixF c p m = (c / 2 ^ (1 + 24 * (p % 274)).toNat).fmod m := by unfold mixF; rw [if_pos hc', if_pos hd']
      exact ⟨_, rfl, _, rfl, _, _, rfl, rfl, m0, (show Q (.int ((c / 2 ^ (1 + 24 * (p % 274)).toNat).fmod m)) H by rw [← ee]; exact q)⟩
    · have hd' : ¬ 0 < c / 2 ^ (1 + 24 * (p % 274)).toNat := fun z => hd (decide_eq_true z)
      have ee : mixF c p m = mixB c p m := by unfold mixF; rw [if_pos hc', if_neg hd']
      refine ⟨_, rfl, _, _, rfl, rfl, (show (0 : Int) < 1000003 by decide), _, _, rfl, rfl, _, rfl, rd_mulB B1 B2 (by decide) (by decide) ⟨_, _, rfl, rfl, (show (0 : Int) < 999983 by decide), ?_⟩⟩
      refine ⟨_, rfl, _, rfl, _, rfl, _, _, rfl, rfl, rd_mulB B3 B4 (by decide) (by decide) ?_⟩
      exact ⟨_, _, rfl, rfl, (show (0 : Int) < 1000033 by decide), _, rfl, _, _, rfl, rfl, m0, (show Q (.int (mixB c p m)) H by rw [← ee]; exact q)⟩
  · have hc' : ¬ 10 ^ (18 : Int).toNat ≤ c := fun z => hc (decide_eq_true z)
    have ee : mixF c p m = mixB c p m := by unfold mixF; rw [if_neg hc']
    refine ⟨_, rfl, _, _, rfl, rfl, (show (0 : Int) < 1000003 by decide), _, _, rfl, rfl, _, rfl, rd_mulB B1 B2 (by decide) (by decide) ⟨_, _, rfl, rfl, (show (0 : Int) < 999983 by decide), ?_⟩⟩
    refine ⟨_, rfl, _, rfl, _, rfl, _, _, rfl, rfl, rd_mulB B3 B4 (by decide) (by decide) ?_⟩
    exact ⟨_, _, rfl, rfl, (show (0 : Int) < 1000033 by decide), _, rfl, _, _, rfl, rfl, m0, (show Q (.int (mixB c p m)) H by rw [← ee]; exact q)⟩
def nmS (c k : Int) : Str := if mixF c 48271 3 = 1 then S (List.replicate (k % 8).toNat 120) ++ ⟨#[("xyz" : Str).cps.getD (k / 8).toNat 0]⟩ else Txt.slice "momoommo" none (some (mixF c 69621 8)) ++ ⟨#[("abcdefghijklmnopqrstuvwxyz" : Str).cps.getD k.toNat 0]⟩ ++ Txt.slice "momoommo" (some (mixF c 69621 8 + 1)) (some (mixF c 69621 8 + 1 + mixF c 16807 (8 - mixF c 69621 8)))
def spNameL : Sp := fun vs H Q _ => ∃ (k : Int) (c : Int), vs = [.int k, .int c] ∧ 0 ≤ k ∧ k < 20 ∧ Q (.str (nmS c k)) H
theorem getD_is {z : Array Nat} {i d : Nat} (h : z[i]? = some d) : z.getD i 0 = d := by rw [Array.getD_eq_getD_getElem?, h]; rfl
theorem nm_ok {c k : Int} (k0 : 0 ≤ k) (k20 : k < 20) : ∃ cs, nmS c k = S cs ∧ nmB cs = true := by
  unfold nmS
  have m0 := Int.emod_nonneg k (show (8 : Int) ≠ 0 by decide)
  have m8 := Int.emod_lt_of_pos k (show (0 : Int) < 8 by decide)
  by_cases h : mixF c 48271 3 = 1
  · rw [if_pos h]
    have e3 : ("xyz" : Str).length = 3 := by decide +kernel
    obtain ⟨d, hd⟩ := item_some (z := ("xyz" : Str)) (i := k / 8) (by omega) (by rw [e3]; omega)
    rw [getD_is hd, S_snoc]
    refine ⟨_, rfl, ?_⟩
    have hd2 : ltB d = true := by
      have : k / 8 = 0 ∨ k / 8 = 1 ∨ k / 8 = 2 := by omega
      rcases this with h | h | h <;> rw [h] at hd <;> (have := Option.some.inj hd; subst this; decide +kernel)
    unfold nmB
    rw [List.all_append, List.length_append, List.length_replicate, decide_eq_true (by simp only [List.length_cons, List.length_nil]; omega), Bool.true_and]
    rw [show ([d] : List Nat).all ltB = true by simp [hd2], Bool.and_true]
    rw [List.all_eq_true]
    intro x hx
    rw [(List.mem_replicate.mp hx).2]
    decide
  · rw [if_neg h]
    obtain ⟨p0, p8⟩ := mixF_in c 69621 (show (0 : Int) < 8 by decide)
    obtain ⟨z0, z8⟩ := mixF_in c 16807 (show (0 : Int) < 8 - mixF c 69621 8 by omega)
    generalize mixF c 16807 (8 - mixF c 69621 8) = sz at z0 z8 ⊢
    generalize mixF c 69621 8 = pl at p0 p8 z8 ⊢
    obtain ⟨pn, rfl⟩ : ∃ pn : Nat, pl = (pn : Int) := ⟨pl.toNat, by omega⟩
    obtain ⟨sn, hsn⟩ : ∃ sn : Nat, (pn : Int) + 1 + sz = (sn : Int) := ⟨((pn : Int) + 1 + sz).toNat, by omega⟩
    rw [hsn, show (pn : Int) + 1 = ((pn + 1 : Nat) : Int) by omega]
    have eL : ("abcdefghijklmnopqrstuvwxyz" : Str).length = 26 := by decide +kernel
    obtain ⟨c1, h1, a1, l1⟩ := to_ok (b := pn) (by omega)
    obtain ⟨c2, h2, a2, l2⟩ := mid_ok (a := pn + 1) (b := sn) (by omega) (by omega)
    obtain ⟨d, hd⟩ := item_some (z := ("abcdefghijklmnopqrstuvwxyz" : Str)) (i := k) (by omega) (by rw [eL]; omega)
    rw [h1, h2, getD_is hd, S_snoc, S_app]
    refine ⟨_, rfl, ?_⟩
    have hd2 := let_ok (i := k.toNat) (by omega) hd
    unfold nmB
    rw [List.all_append, List.all_append, a1, a2, List.length_append, List.length_append, decide_eq_true (by simp only [List.length_cons, List.length_nil]; omega)]
    simp [hd2]
abbrev sNameL : Stmt := top 55
theorem scNameL : FnScope ["_law_k", "_law_cell", "_law_place", "_law_size_here", "_law_text"] ["_law_k", "_law_cell"] (defScope sNameL) := ⟨rfl, rfl, rfl, by decide +kernel, rfl, by decide +kernel, by decide +kernel⟩
theorem ok_namel {dV : Value} (F : FunD K "_law_name" "_law_name" sNameL dV f fd)
    (G1 : FnOk P w K mg base CX0 1 g1 gd1 ["_law_cell", "_law_prime", "_law_many"] spMixF) (b1 : Binds K gd1 ["_law_cell", "_law_prime", "_law_many"] []) (k1 : PySem.W.keepIn K (.ref g1) = true) (m1 : mg "_law_mix" = some (.ref g1)) :
    FnOk P w K mg base CX 2 f fd ["_law_k", "_law_cell"] spNameL := by
  refine F.ok scNameL (fun vs H Q E h => ?_) (fun cdv A outer s H vs Q E hr h => ?_)
  · obtain ⟨k, c, rfl, k0, k20, q⟩ := h
    rfl
  obtain ⟨k, c, rfl, k0, k20, q⟩ := h
  have hz : sizeLine = 16777216 := sizeLine_eq
  unfold nmS at q
  refine ⟨_, (pss_cons (ps_if (pt_cmpR op_eq (pe_call G1 hr rfl m1 k1 b1 .nil pass0 (pa_cons (pv 1) (pa_cons pe_int (pa_cons pe_int pa_nil)))) pe_int (nomark _)) (pss_one (ps_ret (pe_op op_add_str (pe_op op_rep1 pe_str (pe_op op_mod (pv 0) pe_int)) (pe_item_str pe_str (pe_op op_fdiv (pv 0) pe_int) (fun _ _ => rfl))))) pss_nil)
    (pss_cons (ps_set (i := 2) scNameL.nd rfl (Or.inl rfl) (pe_call G1 hr rfl m1 k1 b1 .nil pass0 (pa_cons (pv 1) (pa_cons pe_int (pa_cons pe_int pa_nil)))))
    (pss_cons (ps_set (i := 3) scNameL.nd rfl (Or.inl rfl) (pe_op op_add (pe_op op_add (pv 2) pe_int) (pe_call G1 hr rfl m1 k1 b1 .nil pass0 (pa_cons (pv 1) (pa_cons pe_int (pa_cons (pe_op op_sub pe_int (pv 2)) pa_nil))))))
    (pss_cons (ps_set (i := 4) scNameL.nd rfl (Or.inl rfl) pe_str)
    (pss_one (ps_ret (pe_op op_add_str (pe_op op_add_str (pe_slice sl_str (pv 4) po_none (po_some (pv 2))) (pe_item_str pe_str (pv 0) (fun _ _ => rfl))) (pe_slice sl_str (pv 4) (po_some (pe_op op_add (pv 2) pe_int)) (po_some (pv 3)))))))))), ?_⟩
  refine ⟨_, rfl, c, 48271, 3, rfl, by decide, by decide, by decide, rfl, _, rfl, ite2 (fun h => ?_) (fun h => ?_)⟩
  · have h : mixF c 48271 3 = 1 := by have := of_decide_eq_true h; injection this
    rw [if_pos h] at q
    have m0 := Int.emod_nonneg k (show (8 : Int) ≠ 0 by decide)
    have m8 := Int.emod_lt_of_pos k (show (0 : Int) < 8 by decide)
    have e3 : ("xyz" : Str).length = 3 := by decide +kernel
    refine ⟨_, rfl, _, _, rfl, rfl, (show (0 : Int) < 8 by decide), 120, _, (by rw [show ("x" : Str) = S [120] by decide +kernel]), rfl, m0, by omega, ?_⟩
    obtain ⟨d, hd⟩ := item_some (z := ("xyz" : Str)) (i := k / 8) (by omega) (by rw [e3]; omega)
    rw [getD_is hd] at q
    refine ⟨_, rfl, _, _, rfl, rfl, ⟨by decide, by decide⟩, _, _, d, rfl, rfl, by omega, by omega, by rw [e3]; omega, hd, _, _, rfl, rfl, ?_, q⟩
    rw [S_len, List.length_replicate]; show _ + 1 ≤ sizeLine; omega
  · have h : ¬ mixF c 48271 3 = 1 := fun z => h (by rw [z]; rfl)
    rw [if_neg h] at q
    obtain ⟨p0, p8⟩ := mixF_in c 69621 (show (0 : Int) < 8 by decide)
    obtain ⟨z0, z8⟩ := mixF_in c 16807 (show (0 : Int) < 8 - mixF c 69621 8 by omega)
    refine ⟨_, rfl, c, 69621, 8, rfl, by decide, by decide, by decide, ?_⟩
    refine ⟨_, rfl, _, _, rfl, rfl, _, rfl, _, rfl, _, _, rfl, rfl, c, 16807, _, rfl, by decide, by decide, by omega, ⟨_, _, rfl, rfl, ?_⟩⟩
    show gName 3 (.int (mixF c 69621 8 + 1 + mixF c 16807 (8 - mixF c 69621 8))) _ _ _
    generalize mixF c 16807 (8 - mixF c 69621 8) = sz at z0 z8 q ⊢
    generalize mixF c 69621 8 = pl at p0 p8 z8 q ⊢
    have em : ("momoommo" : Str).length = 8 := by decide +kernel
    have eL : ("abcdefghijklmnopqrstuvwxyz" : Str).length = 26 := by decide +kernel
    have sl1 := Txt.slice_le "momoommo" none (some pl)
    have sl2 := Txt.slice_le "momoommo" (some (pl + 1)) (some (pl + 1 + sz))
    refine ⟨_, rfl, _, rfl, pl, rfl, _, rfl, by rw [em]; omega, ?_⟩
    obtain ⟨d, hd⟩ := item_some (z := ("abcdefghijklmnopqrstuvwxyz" : Str)) (i := k) (by omega) (by rw [eL]; omega)
    rw [getD_is hd] at q
    refine ⟨_, rfl, _, _, d, rfl, rfl, by omega, by omega, by rw [eL]; omega, hd, _, _, rfl, rfl, ?_, ?_⟩
    · show _ + 1 ≤ sizeLine; omega
    refine ⟨_, rfl, _, rfl, _, _, rfl, rfl, pl + 1, rfl, _, rfl, pl + 1 + sz, rfl, _, rfl, by rw [em]; omega, ?_⟩
    refine ⟨_, _, rfl, rfl, ?_, q⟩
    have l1 : (Txt.slice "momoommo" none (some pl) ++ (⟨#[d]⟩ : Str) : Str).length = (Txt.slice "momoommo" none (some pl)).length + 1 := by
      show ((Txt.slice "momoommo" none (some pl)).cps ++ #[d]).size = _
      rw [Array.size_append]; rfl
    omega
end
end K82

set_option Elab.async false
set_option linter.all false
set_option maxRecDepth 100000
set_option maxHeartbeats 4000000
namespace K82
open PySem L2 Tx
section
variable {P : Program} {w : World} {K : PySem.W.Frag} {mg : Str → Option Value} {base : Heap} {f g1 g2 g3 g4 g5 g6 g7 g8 : Addr} {fd gd1 gd2 gd3 gd4 gd5 gd6 gd7 gd8 : FuncData} {CX : CXT}
variable {CR : Addr} {CK : Kd → Addr} {fW fJ fT fS : Kd → Addr} {fdW fdJ fdT fdS : Kd → FuncData}
theorem call_isiE {X : Cx} : CallR X (.builtin "isinstance") (fun xs H Q => (∃ a C c cv b, xs = [.ref a, c] ∧ H a = some (excO a (.ref C) none) ∧ ExcK X.K C ∧ RelV c cv ∧ (∀ u, RelV c u → u = cv) ∧ PySem.W.kitOne X.K (.ref C) cv = some b ∧ Q (.bl b) H) ∨ (∃ x C t b, xs = [x, .ref C] ∧ TyQ X.K H x t ∧ PySem.W.kitOne X.K t (.ref C) = some b ∧ Q (.bl b) H)) := by
  intro pins s σ H xs us Q I r h
  rcases h with h | h
  · exact call_isiX pins s σ H xs us Q I r h
  · exact call_isiO pins s σ H xs us Q I r h
theorem kit_self (K : PySem.W.Frag) (C : Addr) : PySem.W.kitOne K (.ref C) (.ref C) = some true := by unfold PySem.W.kitOne; rw [if_pos (beq_self_eq_true _)]
inductive Ek where
  | r | m | u | z
  deriving DecidableEq
def Ek.wd : Ek → Str
  | .r => "row"
  | .m => "name"
  | .u => "number"
  | .z => "size"
def Ek.oth (cl : Ek → Addr) : Ek → List Addr
  | .r => [cl .m, cl .u, cl .z]
  | .m => [cl .r, cl .u, cl .z]
  | .u => [cl .r, cl .m, cl .z]
  | .z => [cl .r, cl .m, cl .u]
structure ErrC (K : PySem.W.Frag) (mg : Str → Option Value) (cl : Ek → Addr) : Prop where
  x : ∀ e, ExcK K (cl e)
  mr : mg "NoRow" = some (.ref (cl .r))
  mm : mg "NoName" = some (.ref (cl .m))
  mu : mg "NoNumber" = some (.ref (cl .u))
  mz : mg "NoSize" = some (.ref (cl .z))
  oe : ∃ CO, mg "OhmError" = some (.ref CO) ∧ ∀ e, PySem.W.exmOne K (.ref (cl e)) (.ref CO) = some true
  k : ∀ e e', e ≠ e' → PySem.W.kitOne K (.ref (cl e)) (.ref (cl e')) = some false
  a : ∀ e, PySem.W.kitAny K (.ref (cl e)) ((e.oth cl).map Value.ref) = some false
  n : ∀ e, PySem.W.kitOne K (.type "NoneType") (.ref (cl e)) = some false
theorem ERow.imp {CY CP CM CU CZ : Addr} {K : PySem.W.Frag} {av : List Addr} {y : Addr} {ls : List Str} {ds : List RD} {k : Kd} {a b t : List Nat} {H : Hp} {Q Q' : VK} {E E' : XK} (hq : ∀ v H', Q v H' → Q' v H') (he : ∀ C d H', E C d H' → E' C d H') (h : ERow CY CP CM CU CZ K av y ls ds k a b t H Q E) : ERow CY CP CM CU CZ K av y ls ds k a b t H Q' E' :=
  ⟨fun x H' s' => he _ _ _ (h.1 x H' s'), fun x n H' s' => he _ _ _ (h.2.1 x n H' s'), fun x p wr o H' s' => he _ _ _ (h.2.2.1 x p wr o H' s'), fun x p wr o => ⟨(h.2.2.2 x p wr o).1, fun i j H' s' i1 j1 yd => hq _ _ ((h.2.2.2 x p wr o).2 i j H' s' i1 j1 yd)⟩⟩
theorem tell_imp {CY CP CM CU CZ CR' : Addr} {K : PySem.W.Frag} {vs : List V} {H : Hp} {Q Q' : VK} {E E' : XK} (hq : ∀ v H', Q v H' → Q' v H') (he : ∀ C d H', E C d H' → E' C d H') (h : spTellX CY CP CM CU CZ CR' K vs H Q E) : spTellX CY CP CM CU CZ CR' K vs H Q' E' := by
  obtain ⟨y, x, rfl, h⟩ := h
  refine ⟨y, x, rfl, ?_⟩
  rcases h with ⟨nx, q⟩ | ⟨w, r, rfl, h32, hl, hrl, np, bad, q⟩ | ⟨av, ls, ds, k, wd, a, b, t, rfl, ek, n0, n1, n2, n3, lw, YD, h20, h39, la, lb, lt, bd, q⟩
  · exact .inl ⟨nx, he _ _ _ q⟩
  · exact .inr (.inl ⟨w, r, rfl, h32, hl, hrl, np, bad, fun H' s' => he _ _ _ (q H' s')⟩)
  · exact .inr (.inr ⟨av, ls, ds, k, wd, a, b, t, rfl, ek, n0, n1, n2, n3, lw, YD, h20, h39, la, lb, lt, bd, q.imp hq he⟩)
def QT (Q : VK) : VK := fun v H' => v = .non ∧ ∀ H'', Same H' H'' → Q (.str "") H''
def ET (cl : Ek → Addr) (Q : VK) : XK := fun C d H' => ∃ e : Ek, C = .ref (cl e) ∧ d = none ∧ ∀ H'', Same H' H'' → Q (.str e.wd) H''
def spToldL (CY CP : Addr) (cl : Ek → Addr) (K : PySem.W.Frag) : Sp := fun vs H Q _ => ∃ (y : Addr) (x : V), vs = [.ref y, x] ∧ (∃ dy g d, H y = some (.ins CY dy (yfl g d .non .non))) ∧ spTellX CY CP (cl .m) (cl .u) (cl .z) (cl .r) K [.ref y, x] H (QT Q) (ET cl Q)
abbrev sTold : Stmt := top 60
theorem scTold : FnScope ["_law_yard", "_law_row", "_law_kept", "_law_found", "e"] ["_law_yard", "_law_row"] (defScope sTold) := ⟨rfl, rfl, rfl, by decide +kernel, rfl, by decide +kernel, by decide +kernel⟩
theorem ok_told {dV : Value} (F : FunD K "_law_told" "_law_told" sTold dV f fd)
    {CY CP : Addr} {cl : Ek → Addr} (YTx : YaT K mg CY) (b : Bl mg) (c : ErrC K mg cl)
    {gTe : Addr} {gdTe : FuncData} (GTe : FnOk P w K mg base (CX1 P w) 6 gTe gdTe ["self", "row"] (spTellX CY CP (cl .m) (cl .u) (cl .z) (cl .r) K)) (bTe : Binds K gdTe ["self", "row"] []) (mTe : Meth K CY "tell" gTe) :
    FnOk P w K mg base CX 7 f fd ["_law_yard", "_law_row"] (spToldL CY CP cl K) := by
  refine F.ok scTold (fun vs H Q E h => ?_) (fun cdv A outer s H vs Q E hr h => ?_)
  · obtain ⟨y, x, rfl, hy, h⟩ := h
    rfl
  obtain ⟨y, x, rfl, hy, h⟩ := h
  obtain ⟨CO, mO, oe⟩ := c.oe
  obtain ⟨dy, g, d, hy⟩ := hy
  refine ⟨_, (pss_cons (ps_set (i := 2) scTold.nd rfl (Or.inl rfl) pe_non) (pss_cons (ps_set (i := 3) scTold.nd rfl (Or.inl rfl) pe_int) (pss_cons (ps_try ⟨rfl, rfl, rfl⟩ (psxs_one (psx_set (i := 3) scTold.nd rfl (Or.inl rfl) (px_meth (pv 0) YTx.cl mTe GTe ⟨rfl, rfl, rfl⟩ hr bTe .nil (pa_cons (pv 1) pa_nil)))) pss_nil (ph_as (j := 4) ⟨rfl, rfl, rfl⟩ scTold.nd rfl rfl rfl (.inl mO) (fun a => pss_one (ps_set (i := 2) scTold.nd rfl (Or.inl rfl) (pv 4))) ph_never)) (pss_cons (ps_if (PW.pt (pw_and (pt_val (pe_callB call_isiE rfl b.isi PyProof.Rows.boot_isinstance (pa_cons (pv 2) (pa_cons (pe_cls rfl c.mr) pa_nil)))) (pw_and1 (pt_not (pt_val (pe_callB call_isiXT rfl b.isi PyProof.Rows.boot_isinstance (pa_cons (pv 2) (pa_cons (pe_tup (pa_cons (pe_cls rfl c.mm) (pa_cons (pe_cls rfl c.mu) (pa_cons (pe_cls rfl c.mz) pa_nil)))) pa_nil)))))))) (pss_one (ps_ret pe_str)) pss_nil) (pss_cons (ps_if (PW.pt (pw_and (pt_val (pe_callB call_isiE rfl b.isi PyProof.Rows.boot_isinstance (pa_cons (pv 2) (pa_cons (pe_cls rfl c.mm) pa_nil)))) (pw_and1 (pt_not (pt_val (pe_callB call_isiXT rfl b.isi PyProof.Rows.boot_isinstance (pa_cons (pv 2) (pa_cons (pe_tup (pa_cons (pe_cls rfl c.mr) (pa_cons (pe_cls rfl c.mu) (pa_cons (pe_cls rfl c.mz) pa_nil)))) pa_nil)))))))) (pss_one (ps_ret pe_str)) pss_nil) (pss_cons (ps_if (PW.pt (pw_and (pt_val (pe_callB call_isiE rfl b.isi PyProof.Rows.boot_isinstance (pa_cons (pv 2) (pa_cons (pe_cls rfl c.mu) pa_nil)))) (pw_and1 (pt_not (pt_val (pe_callB call_isiXT rfl b.isi PyProof.Rows.boot_isinstance (pa_cons (pv 2) (pa_cons (pe_tup (pa_cons (pe_cls rfl c.mr) (pa_cons (pe_cls rfl c.mm) (pa_cons (pe_cls rfl c.mz) pa_nil)))) pa_nil)))))))) (pss_one (ps_ret pe_str)) pss_nil) (pss_cons (ps_if (PW.pt (pw_and (pt_val (pe_callB call_isiE rfl b.isi PyProof.Rows.boot_isinstance (pa_cons (pv 2) (pa_cons (pe_cls rfl c.mz) pa_nil)))) (pw_and1 (pt_not (pt_val (pe_callB call_isiXT rfl b.isi PyProof.Rows.boot_isinstance (pa_cons (pv 2) (pa_cons (pe_tup (pa_cons (pe_cls rfl c.mr) (pa_cons (pe_cls rfl c.mm) (pa_cons (pe_cls rfl c.mu) pa_nil)))) pa_nil)))))))) (pss_one (ps_ret pe_str)) pss_nil) (pss_cons (ps_if (PW.pt (pw_and (pt_cmp (pc_isN (pv 2))) (pw_and1 (pt_cmp (pc_isN (pv 3)))))) (pss_one (ps_ret pe_str)) pss_nil) (pss_one (ps_ret pe_str)))))))))), ?_⟩
  refine ⟨_, rfl, y, dy, _, rfl, hy, (by with_unfolding_all rfl), _, rfl, ?_⟩
  dsimp only [tNil]
  change spTellX CY CP (cl .m) (cl .u) (cl .z) (cl .r) K [.ref y, x] H _ _
  refine tell_imp (fun v H1 hq => ?_) (fun C d' H1 he => ?_) h
  · obtain ⟨rfl, q1⟩ := hq
    refine ⟨_, rfl, .inr ⟨.non, cl .r, _, false, rfl, .of .non, c.n .r, _, rfl, iteF ?_⟩⟩
    refine ⟨_, rfl, .inr ⟨.non, cl .m, _, false, rfl, .of .non, c.n .m, _, rfl, iteF ?_⟩⟩
    refine ⟨_, rfl, .inr ⟨.non, cl .u, _, false, rfl, .of .non, c.n .u, _, rfl, iteF ?_⟩⟩
    refine ⟨_, rfl, .inr ⟨.non, cl .z, _, false, rfl, .of .non, c.n .z, _, rfl, iteF ?_⟩⟩
    refine ⟨_, rfl, _, rfl, iteT ⟨_, rfl, _, rfl, iteT ?_⟩⟩
    exact q1 _ (Same.refl _)
  · obtain ⟨e, rfl, rfl, q1⟩ := he
    intro a ha
    cases e
    · refine ⟨true, oe .r, ?_⟩
      rw [if_pos rfl]
      refine ⟨_, rfl, ?_⟩
      have sa := same_new ha (excO a (.ref (cl .r)) none)
      have ea : upd H1 a (excO a (.ref (cl .r)) none) a = some (excO a (.ref (cl .r)) none) := upd_same
      generalize upd H1 a (excO a (.ref (cl .r)) none) = H2 at sa ea ⊢
      refine ⟨_, rfl, .inl ⟨a, cl .r, _, _, true, rfl, ea, c.x .r, rfl, fun _ h => h, kit_self K (cl .r), _, rfl, iteT ⟨_, rfl, by show 3 ≤ sizeLine; decide, fun p2 hp2 => ?_⟩⟩⟩
      have s2 := same_new hp2 (.tup [.ref (cl .m), .ref (cl .u), .ref (cl .z)])
      refine ⟨a, cl .r, p2, [cl .m, cl .u, cl .z], false, rfl, s2 _ _ ea, c.x .r, upd_same, c.a .r, _, rfl, iteT ?_⟩
      exact q1 _ (sa.trans s2)
    · refine ⟨true, oe .m, ?_⟩
      rw [if_pos rfl]
      refine ⟨_, rfl, ?_⟩
      have sa := same_new ha (excO a (.ref (cl .m)) none)
      have ea : upd H1 a (excO a (.ref (cl .m)) none) a = some (excO a (.ref (cl .m)) none) := upd_same
      generalize upd H1 a (excO a (.ref (cl .m)) none) = H2 at sa ea ⊢
      refine ⟨_, rfl, .inl ⟨a, cl .m, _, _, false, rfl, ea, c.x .m, rfl, fun _ h => h, c.k .m .r (by decide), _, rfl, iteF ?_⟩⟩
      refine ⟨_, rfl, .inl ⟨a, cl .m, _, _, true, rfl, ea, c.x .m, rfl, fun _ h => h, kit_self K (cl .m), _, rfl, iteT ⟨_, rfl, by show 3 ≤ sizeLine; decide, fun p2 hp2 => ?_⟩⟩⟩
      have s2 := same_new hp2 (.tup [.ref (cl .r), .ref (cl .u), .ref (cl .z)])
      refine ⟨a, cl .m, p2, [cl .r, cl .u, cl .z], false, rfl, s2 _ _ ea, c.x .m, upd_same, c.a .m, _, rfl, iteT ?_⟩
      exact q1 _ (sa.trans s2)
    · refine ⟨true, oe .u, ?_⟩
      rw [if_pos rfl]
      refine ⟨_, rfl, ?_⟩
      have sa := same_new ha (excO a (.ref (cl .u)) none)
      have ea : upd H1 a (excO a (.ref (cl .u)) none) a = some (excO a (.ref (cl .u)) none) := upd_same
      generalize upd H1 a (excO a (.ref (cl .u)) none) = H2 at sa ea ⊢
      refine ⟨_, rfl, .inl ⟨a, cl .u, _, _, false, rfl, ea, c.x .u, rfl, fun _ h => h, c.k .u .r (by decide), _, rfl, iteF ?_⟩⟩
      refine ⟨_, rfl, .inl ⟨a, cl .u, _, _, false, rfl, ea, c.x .u, rfl, fun _ h => h, c.k .u .m (by decide), _, rfl, iteF ?_⟩⟩
      refine ⟨_, rfl, .inl ⟨a, cl .u, _, _, true, rfl, ea, c.x .u, rfl, fun _ h => h, kit_self K (cl .u), _, rfl, iteT ⟨_, rfl, by show 3 ≤ sizeLine; decide, fun p2 hp2 => ?_⟩⟩⟩
      have s2 := same_new hp2 (.tup [.ref (cl .r), .ref (cl .m), .ref (cl .z)])
      refine ⟨a, cl .u, p2, [cl .r, cl .m, cl .z], false, rfl, s2 _ _ ea, c.x .u, upd_same, c.a .u, _, rfl, iteT ?_⟩
      exact q1 _ (sa.trans s2)
    · refine ⟨true, oe .z, ?_⟩
      rw [if_pos rfl]
      refine ⟨_, rfl, ?_⟩
      have sa := same_new ha (excO a (.ref (cl .z)) none)
      have ea : upd H1 a (excO a (.ref (cl .z)) none) a = some (excO a (.ref (cl .z)) none) := upd_same
      generalize upd H1 a (excO a (.ref (cl .z)) none) = H2 at sa ea ⊢
      refine ⟨_, rfl, .inl ⟨a, cl .z, _, _, false, rfl, ea, c.x .z, rfl, fun _ h => h, c.k .z .r (by decide), _, rfl, iteF ?_⟩⟩
      refine ⟨_, rfl, .inl ⟨a, cl .z, _, _, false, rfl, ea, c.x .z, rfl, fun _ h => h, c.k .z .m (by decide), _, rfl, iteF ?_⟩⟩
      refine ⟨_, rfl, .inl ⟨a, cl .z, _, _, false, rfl, ea, c.x .z, rfl, fun _ h => h, c.k .z .u (by decide), _, rfl, iteF ?_⟩⟩
      refine ⟨_, rfl, .inl ⟨a, cl .z, _, _, true, rfl, ea, c.x .z, rfl, fun _ h => h, kit_self K (cl .z), _, rfl, iteT ⟨_, rfl, by show 3 ≤ sizeLine; decide, fun p2 hp2 => ?_⟩⟩⟩
      have s2 := same_new hp2 (.tup [.ref (cl .r), .ref (cl .m), .ref (cl .u)])
      refine ⟨a, cl .z, p2, [cl .r, cl .m, cl .u], false, rfl, s2 _ _ ea, c.x .z, upd_same, c.a .z, _, rfl, iteT ?_⟩
      exact q1 _ (sa.trans s2)
end
end K82

set_option Elab.async false
set_option linter.all false
set_option maxRecDepth 100000
namespace L2
open PySem PySem.Spec PyProof.Rows
theorem px_meth0 {X : Cx} {o : Expr} {ta : TE} {C f : Addr} {m : Str} {k : Nat} {fd : FuncData} {ps : List Str} {ds : List Value} {dvs : List V} {sp : Sp} {apos pos : Pos} {pl : Sem Bool} (he : PE X.nox o ta) (c : Cls X.K C) (hm : Meth X.K C m f) (F : FnOk X.prog X.w X.K X.mg X.base (CX1 X.prog X.w) k f fd ps sp) (fm : Frm X) (hr : Room k X.A) (hb : Binds X.K fd ps ds) (hd : Vals dvs ds)
    (ht : eval (.Call (.Attribute o m apos) [] [] pos) X.env = (do
      let ov ← eval o X.env
      standAt apos.atName
      let (f, first) ← holding [ov] (getMethod ov m pl)
      callWith pos f first (backTo pos (starEach [] X.env)) (backToKw pos (keywordEach [] X.env))) := by rfl) :
    PX X (.Call (.Attribute o m apos) [] [] pos) (xMeth C m sp dvs ta tNil) := by
  intro pins s σ H Q E I h
  refine PySem.W.methodCall_KW (pl := pl) (wpAny_mono (he pins s σ H _ (I.wish _) h) (fun u s1 h1 => ?_) fun _ _ z => False.elim z) ht
  obtain ⟨x, H1, I1, rx, a, dx, fs, ex, ea, l, q⟩ := h1
  subst ex
  obtain rfl : u = Value.ref a := rx
  refine getmeth_ok (X := X.nox) I1 ea c hm l ?_
  exact PySem.W.callWith_K0 (first := [.ref a]) I1.kIn hm.kp (run_x (us := [.ref a]) (vs := [.ref a]) F fm hr hb hd I1.unwish (.cons rfl .nil) q)
end L2

set_option Elab.async false
set_option linter.all false
set_option maxRecDepth 100000
set_option maxHeartbeats 4000000
namespace K82
open PySem L2 Tx
section
variable {P : Program} {w : World} {K : PySem.W.Frag} {mg : Str → Option Value} {base : Heap} {f g1 g2 g3 g4 g5 g6 g7 g8 : Addr} {fd gd1 gd2 gd3 gd4 gd5 gd6 gd7 gd8 : FuncData} {CX : CXT}
variable {CR : Addr} {CK : Kd → Addr} {fW fJ fT fS : Kd → Addr} {fdW fdJ fdT fdS : Kd → FuncData}
theorem pe_bmK {X : Cx} {K : PySem.W.Frag} (hK : X.K = K) {o e : Expr} {es : List Expr} {to : TE} {t : TA} {name : Str} {apos cpos : Pos} {T id : String} {r : V → List V → Hp → VK → Prop} (pa : PySem.PlainAttrs T) (slot : PySem.Slot T name id) (hty : typeOf (.builtin id) = pure (.type "method_descriptor")) (hm : MtR X id r) (ho : PE X o to) (ha : PA X (e :: es) t)
    (hbase : attributeBase o name X.env (eval o X.env) = eval o X.env := by rfl)
    (hfew : ((backTo cpos (starEach (e :: es) X.env)).all (fun x => !x.1) && (backToKw cpos (keywordEach [] X.env)).all (fun x => x.1.isSome)
      && decide ((e :: es).length + ([] : List Keyword).length + (if ([] : List Keyword).isEmpty then 0 else 1) < 30)) = true := by rfl)
    (hline : (apos.endLine == cpos.line) = true := by rfl) (hs : starEach (e :: es) X.env = (false, eval e X.env) :: starEach es X.env := by rfl) (hplain : (backTo cpos (starEach es X.env)).any (·.1) = false := by rfl) :
    PE X (.Call (.Attribute o name apos) (e :: es) [] cpos) (tBM K T r to t) := by subst hK; exact pe_bm pa slot hty hm ho ha hbase hfew hline hs hplain
def spNoNet (CY CP : Addr) (K : PySem.W.Frag) : Sp := fun vs H Q _ => ∃ (av : List Addr) (y : Addr), vs = [.ref y] ∧ Yd CY CP K av H y [] [] ∧ ∀ H', Same H H' → Q (.bl true) H'
def spYNetG (CY CP CN : Addr) (K : PySem.W.Frag) : Sp := fun vs H Q _ => ∃ (av : List Addr) (y : Addr) (ls : List Str) (ds : List RD), vs = [.ref y] ∧ Yd CY CP K av H y ls ds ∧ ls.length ≤ 20 ∧ ds.length ≤ 40 ∧ ls ≠ [] ∧ ∀ n nl H', Same H H' → H nl = none → NetAt CN K H' n nl (ls.length : Int) ds → Q (.ref n) H'
theorem ynet_good {CY CP CN CO g : Addr} {gd : FuncData} (F : FnOk P w K mg base (CX1 P w) 7 g gd ["self"] (spYNet CY CP CN CO K)) : FnOk P w K mg base CX0 7 g gd ["self"] (spYNetG CY CP CN K) :=
  F.calm.weak fun vs H Q E h => by
    obtain ⟨av, y, ls, ds, rfl, yd, h20, h40, ne, q⟩ := h
    exact ⟨av, y, ls, ds, rfl, yd, h20, h40, fun z => absurd z ne, fun _ => q⟩
theorem keep4 {fr : List Nat} {σ : St} {x y z u : V} : (((((σC 4 fr σ).set 0 (some x)).set 1 (some y)).set 2 (some z)).set 3 (some u)).length = (σC 4 fr σ).length ∧ ∀ (i : Nat) v, (σC 4 fr σ)[i]? = some (some v) → (((((σC 4 fr σ).set 0 (some x)).set 1 (some y)).set 2 (some z)).set 3 (some u))[i]? = some (some v) := by
  refine ⟨by simp, fun i v h => ?_⟩
  have h4 : 4 ≤ i := by
    rcases i with _ | _ | _ | _ | i
    · cases h
    · cases h
    · cases h
    · cases h
    · omega
  rw [List.getElem?_set_ne (by omega), List.getElem?_set_ne (by omega), List.getElem?_set_ne (by omega), List.getElem?_set_ne (by omega)]
  exact h
abbrev LD := Kd × Str × Str × Mq.Q2
inductive Lrs (K : PySem.W.Frag) (H : Hp) : List V → List LD → Prop where
  | nil : Lrs K H [] []
  | cons {t z : Addr} {d : LD} {xs : List V} {rs : List LD} (h : SqT K H t [.str d.1.wd, .str d.2.1, .str d.2.2.1, .ref z]) (f : Fq K H z d.2.2.2) (r : Lrs K H xs rs) : Lrs K H (.ref t :: xs) (d :: rs)
theorem Lrs.same {K : PySem.W.Frag} {H H' : Hp} (s : Same H H') : ∀ {xs : List V} {rs : List LD}, Lrs K H xs rs → Lrs K H' xs rs
  | _, _, .nil => .nil
  | _, _, .cons h f r => .cons (s.seqT h) (s.fq f) (Lrs.same s r)
theorem Lrs.length {K : PySem.W.Frag} {H : Hp} : ∀ {xs : List V} {rs : List LD}, Lrs K H xs rs → xs.length = rs.length
  | _, _, .nil => rfl
  | _, _, .cons _ _ r => by rw [List.length_cons, List.length_cons, r.length]
theorem Lrs.at {K : PySem.W.Frag} {H : Hp} : ∀ {xs : List V} {rs : List LD} {i : Nat} {x : V}, Lrs K H xs rs → xs[i]? = some x → ∃ (t z : Addr) (d : LD), x = .ref t ∧ rs[i]? = some d ∧ SqT K H t [.str d.1.wd, .str d.2.1, .str d.2.2.1, .ref z] ∧ Fq K H z d.2.2.2
  | _, _, 0, _, .cons h f r, e => by cases e; exact ⟨_, _, _, rfl, rfl, h, f⟩
  | _, _, i + 1, _, .cons h f r, e => by
    obtain ⟨t, z, d, a, b, c, f'⟩ := Lrs.at (i := i) r (by simpa using e)
    exact ⟨t, z, d, a, by simpa using b, c, f'⟩
  | _, _, _, _, .nil, e => by simp at e
theorem Lrs.app {K : PySem.W.Frag} {H : Hp} {ys : List V} {ss : List LD} (q : Lrs K H ys ss) : ∀ {xs : List V} {rs : List LD}, Lrs K H xs rs → Lrs K H (xs ++ ys) (rs ++ ss)
  | _, _, .nil => q
  | _, _, .cons h f r => .cons h f (Lrs.app q r)
def Mat (ls : List Str) (d : RD) (r : LD) : Prop := d.1 = r.1 ∧ d.2.2.2 = r.2.2.2 ∧ 0 ≤ d.2.1 ∧ 0 ≤ d.2.2.1 ∧ ls[d.2.1.toNat]? = some r.2.1 ∧ ls[d.2.2.1.toNat]? = some r.2.2.1
structure Mts (ls : List Str) (ds : List RD) (rs : List LD) : Prop where
  l : ds.length = rs.length
  r : ∀ (i : Nat) (d : RD) (r : LD), ds[i]? = some d → rs[i]? = some r → Mat ls d r
structure NmOk (ls : List Str) : Prop where
  nd : ls.Nodup
  ok : ∀ x ∈ ls, PyData.canLay0 (.str x) = true
theorem strs_dat {K : PySem.W.Frag} {H : Hp} : ∀ ls : List Str, DatVs K H (ls.map V.str) (ls.map PyData.str)
  | [] => .nil
  | x :: r => .cons (.str x) (strs_dat r)
theorem strs_lay : ∀ {ls : List Str}, (∀ x ∈ ls, PyData.canLay0 (.str x) = true) → PyData.canLayAll0 (ls.map PyData.str) = true
  | [], _ => rfl
  | x :: r, h => by
    show (PyData.canLay0 (.str x) && PyData.canLayAll0 (r.map PyData.str)) = true
    rw [strs_lay fun y hy => h y (List.mem_cons_of_mem _ hy), h x (by simp)]
    rfl
theorem strs_depth : ∀ ls : List Str, PyData.depthAll (ls.map PyData.str) ≤ 1
  | [] => by simp [PyData.depthAll]
  | x :: r => by
    have b := strs_depth r
    simp only [List.map_cons, PyData.depthAll, PyData.depth] at b ⊢
    omega
theorem nd_at {ls : List Str} (h : ls.Nodup) {i : Nat} {x : Str} (e : ls[i]? = some x) : ∀ j, j < i → ls[j]? ≠ some x := fun j hj z => by
  obtain ⟨l1, e1⟩ := List.getElem?_eq_some_iff.mp e
  obtain ⟨l2, e2⟩ := List.getElem?_eq_some_iff.mp z
  have := List.pairwise_iff_getElem.mp h j i l2 l1 hj
  rw [e1, e2] at this
  exact this rfl
def spLook (CY CP : Addr) (K : PySem.W.Frag) : Sp := fun vs H Q _ => ∃ (av : List Addr) (y nm rw : Addr) (ls : List Str) (ds : List RD) (rs : List LD) (us : List V), vs = [.ref y, .ref nm, .ref rw] ∧ Yd CY CP K av H y ls ds ∧ SqL K H nm (ls.map V.str) ∧ SqL K H rw us ∧ Lrs K H us rs ∧ Mts ls ds rs ∧ NmOk ls ∧ ls.length ≤ 20 ∧ ds.length ≤ 40 ∧ (ls = [] → ds = []) ∧ ∀ H', Same H H' → Q (.bl true) H'
abbrev sNoNet : Stmt := top 61
theorem scNoNet : FnScope ["_law_yard", "_law_refused"] ["_law_yard"] (defScope sNoNet) := ⟨rfl, rfl, rfl, by decide +kernel, rfl, by decide +kernel, by decide +kernel⟩
theorem ok_nonet {dV : Value} (F : FunD K "_law_no_net" "_law_no_net" sNoNet dV f fd)
    {CY CP CN CO : Addr} (YTx : YaT K mg CY) (mO : mg "NoPoint" = some (.ref CO)) (xm : PySem.W.exmOne K (.ref CO) (.ref CO) = some true)
    {gNe : Addr} {gdNe : FuncData} (GNe : FnOk P w K mg base (CX1 P w) 7 gNe gdNe ["self"] (spYNet CY CP CN CO K)) (bNe : Binds K gdNe ["self"] []) (mNe : Meth K CY "net" gNe)
    {gNa : Addr} {gdNa : FuncData} (GNa : FnOk P w K mg base CX0 1 gNa gdNa ["self"] (spNames CY CP)) (bNa : Binds K gdNa ["self"] []) (mNa : Meth K CY "names" gNa) :
    FnOk P w K mg base CX 8 f fd ["_law_yard"] (spNoNet CY CP K) := by
  refine F.ok scNoNet (fun vs H Q E h => ?_) (fun cdv A outer s H vs Q E hr h => ?_)
  · obtain ⟨av, y, rfl, YD, q⟩ := h
    rfl
  obtain ⟨av, y, rfl, YD, q⟩ := h
  have hu := hr.units
  have r1 := hr.mono (show 1 ≤ 7 by omega)
  obtain ⟨dy, g, d, l, t, p, es, hy, PA, hR, hK, _⟩ := id YD
  refine ⟨_, (pss_cons (ps_set (i := 1) scNoNet.nd rfl (Or.inl rfl) pe_bl)
    (pss_cons (ps_try ⟨rfl, rfl, rfl⟩ (psxs_one (psx_expr (px_meth0 (pv 0) YTx.cl mNe GNe ⟨rfl, rfl, rfl⟩ hr bNe .nil))) pss_nil (ph_cons rfl (.inl mO) (fun a => pss_one (ps_set (i := 1) scNoNet.nd rfl (Or.inl rfl) pe_bl)) ph_never))
    (pss_one (ps_ret (pe_and (pv 1) (pe_one (pe_cmpR (op_eqD hu) (pe_meth0 (pv 0) YTx.cl mNa GNa r1 bNa .nil pass0) (pe_lst pa_nil) (nomark _)))))))), ?_⟩
  refine ⟨_, rfl, y, dy, _, rfl, hy, (by with_unfolding_all rfl), av, y, [], [], rfl, YD, by decide, by decide, fun _ H3 s3 a ha => ?_, fun z => absurd rfl z⟩
  refine ⟨true, xm, iteT ?_⟩
  have hy4 := s3 _ _ hy
  have PA4 := PA.same s3
  refine ⟨_, rfl, _, rfl, iteT ?_⟩
  refine ⟨_, rfl, y, dy, _, rfl, hy4, (by with_unfolding_all rfl), y, dy, g, d, l, t, p, .non, .non, 0, _, _, _, rfl, hy4, PA4, fun r H5 s5 _ e5 => ?_⟩
  refine ⟨by show 0 ≤ sizeLine; decide, fun e he => ?_⟩
  have s6 := same_new he (.lst [])
  exact rd_eqNil (ns := []) (s6.seq (SqL.of e5)) (SqL.of upd_same) (q _ (s3.trans (s5.trans s6)))
end
end K82

set_option Elab.async false
set_option linter.all false
set_option maxRecDepth 100000
set_option maxHeartbeats 4000000
namespace K82
open PySem L2 Tx
section
variable {P : Program} {w : World} {K : PySem.W.Frag} {mg : Str → Option Value} {base : Heap} {f g1 g2 g3 g4 g5 g6 g7 g8 : Addr} {fd gd1 gd2 gd3 gd4 gd5 gd6 gd7 gd8 : FuncData} {CX : CXT}
variable {CR : Addr} {CK : Kd → Addr} {fW fJ fT fS : Kd → Addr} {fdW fdJ fdT fdS : Kd → FuncData}
theorem rd_sNil {K : PySem.W.Frag} {H : Hp} {a b : Addr} {ls : List Str} {Q : VK} (h1 : SqL K H a (ls.map V.str)) (hl : ∀ x ∈ ls, PyData.canLay0 (.str x) = true) (h2 : SqL K H b []) (z : Q (.bl ls.isEmpty) H) : rDat K false (.ref a) (.ref b) H Q := by
  have d := strs_depth ls
  refine ⟨.list (ls.map .str), .list [], .lst h1 (strs_dat ls), .lst h2 .nil, strs_lay hl, rfl, by simp only [PyData.depth, PyData.depthAll]; omega, ?_⟩
  cases ls with
  | nil => exact z
  | cons x r => exact z
theorem nd_word_one_other_size_here_names : (["_law_word", "_law_one", "_law_other", "_law_size_here", "_law_names"] : List Str).Nodup := by decide +kernel
abbrev sLook : Stmt := top 62
theorem scLook : FnScope ["_law_yard", "_law_names", "_law_rows", "_law_found", "_law_net", "_law_due"] ["_law_yard", "_law_names", "_law_rows"] (defScope sLook) := ⟨rfl, rfl, rfl, by decide +kernel, rfl, by decide +kernel, by decide +kernel⟩
theorem ok_look {dV : Value} (F : FunD K "_law_look" "_law_look" sLook dV f fd)
    {CY CP CN : Addr} (YTx : YaT K mg CY) (NTx : NT K mg CN) (b : Bl mg) (mli : mg "list" = none) (ml : mg "len" = none)
    {gNe : Addr} {gdNe : FuncData} (GNe : FnOk P w K mg base CX0 7 gNe gdNe ["self"] (spYNetG CY CP CN K)) (bNe : Binds K gdNe ["self"] []) (mNe : Meth K CY "net" gNe)
    {gNa : Addr} {gdNa : FuncData} (GNa : FnOk P w K mg base CX0 1 gNa gdNa ["self"] (spNames CY CP)) (bNa : Binds K gdNa ["self"] []) (mNa : Meth K CY "names" gNa)
    {gMa : Addr} {gdMa : FuncData} (GMa : FnOk P w K mg base CX0 1 gMa gdMa ["self"] (spMany CN K)) (bMa : Binds K gdMa ["self"] []) (mMa : Meth K CN "many" gMa)
    {gTo : Addr} {gdTo : FuncData} (GTo : FnOk P w K mg base CX0 1 gTo gdTo ["self"] (spNTold CN K)) (bTo : Binds K gdTo ["self"] []) (mTo : Meth K CN "told" gTo)
    (G1 : FnOk P w K mg base CX0 8 g1 gd1 ["_law_yard"] (spNoNet CY CP K)) (b1 : Binds K gd1 ["_law_yard"] []) (k1 : PySem.W.keepIn K (.ref g1) = true) (m1 : mg "_law_no_net" = some (.ref g1)) :
    FnOk P w K mg base CX 9 f fd ["_law_yard", "_law_names", "_law_rows"] (spLook CY CP K) := by
  refine F.ok scLook (fun vs H Q E h => ?_) (fun cdv A outer s H vs Q E hr h => ?_)
  · obtain ⟨av, y, nm, rw, ls, ds, rs, us, rfl, YD, hN, hU, hR, mt, ok, h20, h40, he, q⟩ := h
    rfl
  obtain ⟨av, y, nm, rw, ls, ds, rs, us, rfl, YD, hN, hU, hR, mt, ok, h20, h40, he, q⟩ := h
  have hu := hr.units
  have r1 := hr.mono (show 1 ≤ 8 by omega)
  have r7 := hr.mono (show 7 ≤ 8 by omega)
  obtain ⟨dy, g, d, l, t, p, es, hy, PA, hRt, hK, _⟩ := id YD
  refine ⟨_, (pss_cons (ps_set (i := 3) scLook.nd rfl (Or.inl rfl) (pe_meth0 (pv 0) YTx.cl mNa GNa r1 bNa .nil pass0))
    (pss_cons (ps_if (PW.pt (pw_or (pt_not (pt_val (pe_isiQ (i := 3) rfl (Or.inl rfl) b.isi mli rfl rfl PyProof.Rows.boot_list))) (pw_or1 (pt_cmpR (op_neD hu) (pv 3) (pv 1) (nomark _))))) (pss_one (ps_ret pe_bl)) pss_nil)
    (pss_cons (ps_expr (pe_bm PySem.F.plainAttrs_list PySem.F.slot_list_append PySem.F.type_list_append mt_append (pv 3) (pa_cons pe_str pa_nil)))
    (pss_cons (ps_if (pt_cmpR (op_eqD hu) (pv 1) (pe_lst pa_nil) (nomark _)) (pss_one (ps_ret (pe_call G1 hr rfl m1 k1 b1 .nil pass0 (pa_cons (pv 0) pa_nil)))) pss_nil)
    (pss_cons (ps_set (i := 4) scLook.nd rfl (Or.inl rfl) (pe_meth0 (pv 0) YTx.cl mNe GNe r7 bNe .nil pass0))
    (pss_cons (ps_setC (i := 5) (nl := 4) (fr := [1]) (Nc := ["_law_word", "_law_one", "_law_other", "_law_size_here", "_law_names"]) (cl := [("_law_names", s.heap.objs.size + 1)]) (g := (gTup K 4 (gCons (gName 0) (gCons (gName 1) (gCons (gName 2) (gCons (gName 3) gNil)))))) scLook.nd rfl rfl rfl ⟨rfl, rfl, by decide +kernel, by decide +kernel, fun x c h => h, has_of rfl, rfl, fun i n h => match i, h with | 0, h => by cases h; exact ⟨1, rfl, rfl, rfl, rfl, .inl rfl⟩ | k + 1, h => by rw [show 4 + (k + 1) = k + 5 by omega] at h; cases h⟩
        (pi_list (pv 2)) (fun C s3 H3 fp pins => (pg_tup rfl (pgs_cons (pg_name (i := 0) nd_word_one_other_size_here_names rfl (Or.inl rfl)) (pgs_cons (pg_name (i := 1) nd_word_one_other_size_here_names rfl (Or.inl rfl)) (pgs_cons (pg_name (i := 2) nd_word_one_other_size_here_names rfl (Or.inl rfl)) (pgs_cons (pg_name (i := 3) nd_word_one_other_size_here_names rfl (Or.inl rfl)) pgs_nil)))))) (fun C s3 H3 fp pins => pif_nil)
        (fun C s3 H3 fp pins => (pe_tup (pa_cons (pv 0) (pa_cons (pe_bmK (K := K) rfl PySem.F.plainAttrs_list PySem.F.slot_list_index PySem.F.type_list_index (mt_indexSK (K := K) rfl) (pv 4) (pa_cons (pv 1) pa_nil)) (pa_cons (pe_bmK (K := K) rfl PySem.F.plainAttrs_list PySem.F.slot_list_index PySem.F.type_list_index (mt_indexSK (K := K) rfl) (pv 4) (pa_cons (pv 2) pa_nil)) (pa_cons (pv 3) pa_nil)))))) rfl)
    (pss_one (ps_ret (pe_and (pe_cmpR op_eq (pe_meth0 (pv 4) NTx.cl mMa GMa r1 bMa .nil pass0) (pe_callB call_len_seq rfl ml PySem.boot_len (pa_cons (pv 1) pa_nil)) (nomark _)) (pe_one (pe_cmpR (op_eqD hu) (pe_meth0 (pv 4) NTx.cl mTo GTo r1 bTo .nil pass0) (pv 5) (nomark _)))))))))))), ?_⟩
  refine ⟨_, rfl, y, dy, _, rfl, hy, (by with_unfolding_all rfl), y, dy, g, d, l, t, p, .non, .non, 0, ls, es, [], rfl, hy, PA, fun r H1 s1 nr e1 => ?_⟩
  refine ⟨_, _, true, rfl, .lst (SqL.of e1), rfl, _, rfl, iteF ?_⟩
  have dd := strs_depth ls
  refine ⟨_, rfl, _, rfl, rd_eqS (d := .list (ls.map .str)) (.lst (SqL.of e1) (strs_dat ls)) (.lst (s1.seq hN) (strs_dat ls)) (strs_lay ok.ok) (by simp only [PyData.depth]; omega) ⟨_, rfl, iteF ?_⟩⟩
  refine ⟨_, rfl, .inl ⟨rfl, _, SqL.of e1⟩, r, _, _, rfl, rfl, e1, small1000 (by rw [List.length_map]; omega), ?_⟩
  have s2 : Same H (upd H1 r (.lst (ls.map V.str ++ [.str "kuw"]))) := s1.change nr
  generalize upd H1 r (.lst (ls.map V.str ++ [.str "kuw"])) = H2 at s2 ⊢
  refine ⟨_, rfl, by show 0 ≤ sizeLine; decide, fun e0 he0 => ?_⟩
  have s3 := same_new he0 (.lst [])
  have e3 : upd H2 e0 (.lst []) e0 = some (.lst []) := upd_same
  generalize upd H2 e0 (.lst []) = H3 at s3 e3 ⊢
  have s03 := s2.trans s3
  refine rd_sNil (s03.seq hN) ok.ok (SqL.of e3) ⟨_, rfl, ?_⟩
  by_cases h0 : ls = []
  · have hd0 := he h0
    refine L2.ifT (by rw [h0]; rfl) ?_
    refine ⟨_, rfl, av, y, rfl, ?_, fun H4 s4 => q H4 (s03.trans s4)⟩
    have := Yd.same s03 YD
    rw [h0, hd0] at this
    exact this
  refine L2.ifF (by cases ls with | nil => exact absurd rfl h0 | cons x r => rfl) ?_
  have hy3 := s03 _ _ hy
  refine ⟨_, rfl, y, dy, _, rfl, hy3, (by with_unfolding_all rfl), av, y, ls, ds, rfl, Yd.same s03 YD, h20, h40, h0, fun n nl H5 s5 nnl NT5 => ?_⟩
  have s05 := s03.trans s5
  have lus := hR.length
  have lml := mt.l
  refine ⟨_, rfl, rw, rfl, ⟨_, s05.seq hU⟩, fun D hD => ?_⟩
  have sD := same_new hD (.lst [])
  refine comp_list (xs := us) (fun i zs H' => Same H5 H' ∧ H' D = some (.lst zs) ∧ Rts K H' zs (ds.take i)) ⟨sD, upd_same, .nil⟩ (fun i zs H' h => h.2.1) (fun i zs H' _ h => (s05.trans h.1).seq hU) ?_ ?_
  · rintro i zs x H6 hx ⟨s6, e6, R6⟩ C hC
    obtain ⟨t', z', dd', rfl, hdd, hT, fz⟩ := hR.at hx
    have hi := (List.getElem?_eq_some_iff.mp hdd).1
    obtain ⟨⟨k, u, v, p'⟩, hd⟩ : ∃ d, ds[i]? = some d := ⟨_, List.getElem?_eq_getElem (by omega)⟩
    obtain ⟨kd, x1, x2, p2⟩ := dd'
    obtain ⟨ek, ep, u0, v0, hu1, hv1⟩ : Mat ls (k, u, v, p') (kd, x1, x2, p2) := mt.r i _ _ hd hdd
    have ek : k = kd := ek
    have ep : p' = p2 := ep
    subst ek ep
    have u0 : 0 ≤ u := u0
    have v0 : 0 ≤ v := v0
    have hu1 : ls[u.toNat]? = some x1 := hu1
    have hv1 : ls[v.toNat]? = some x2 := hv1
    have lu := (List.getElem?_eq_some_iff.mp hu1).1
    have lv := (List.getElem?_eq_some_iff.mp hv1).1
    have s06 := s05.trans s6
    have hN7 := s06.seq hN
    have lz := R6.length
    refine ⟨t', _, rfl, s06.seqT hT, rfl, _, _, rfl, _, _, rfl, _, _, rfl, _, _, rfl, rfl, keep4.1, keep4.2, iteT ?_⟩
    refine ⟨_, rfl, _, rfl, .inl ⟨rfl, _, hN7⟩, _, rfl, nm, ls, _, u.toNat, rfl, rfl, hN7, hu1, nd_at ok.nd hu1, by omega, _, rfl, .inl ⟨rfl, _, hN7⟩, _, rfl, nm, ls, _, v.toNat, rfl, rfl, hN7, hv1, nd_at ok.nd hv1, by omega, _, rfl, by show 4 ≤ sizeLine; decide, fun w' hw' => ?_⟩
    rw [show ((u.toNat : Nat) : Int) = u by omega, show ((v.toNat : Nat) : Int) = v by omega]
    have s7 := same_new hw' (.tup [.str k.wd, .int u, .int v, .ref z'])
    have e7 : SqT K (upd H6 w' (.tup [.str k.wd, .int u, .int v, .ref z'])) w' [.str k.wd, .int u, .int v, .ref z'] := SqT.of upd_same
    generalize upd H6 w' (.tup [.str k.wd, .int u, .int v, .ref z']) = H7 at s7 e7 ⊢
    refine ⟨s7 _ _ e6, small1000 (by rw [lz, List.length_take]; omega), hC _ _ ⟨(s6.trans s7).change hD, upd_same, ?_⟩⟩
    rw [List.take_add_one, hd]
    exact Rts.upd (s7 _ _ e6) ((R6.same s7).app (.cons e7 ((s06.trans s7).fq fz) .nil))
  rintro zs H6 ⟨s6, e6, R6⟩
  rw [lus, ← lml, List.take_length] at R6
  have NT6 := NT5.same s6
  obtain ⟨dn, hn⟩ := NT6.ob
  have s06 := s05.trans s6
  refine ⟨_, rfl, n, dn, _, rfl, hn, nflds_no _ _ (by decide +kernel) (by decide +kernel), n, nl, _, ds, rfl, NT6, _, rfl, nm, _, rfl, .inl (s06.seq hN), rfl, _, rfl, L2.ifT (by rw [List.length_map]; exact decide_eq_true rfl) ?_⟩
  refine ⟨_, rfl, n, dn, _, rfl, hn, nflds_no _ _ (by decide +kernel) (by decide +kernel), n, nl, _, ds, rfl, NT6, fun a ts H7 s7 na e7 R7 => ⟨_, rfl, ?_⟩⟩
  exact rd_eqR (SqL.of e7) (SqL.of (s7 _ _ e6)) R7 (R6.same s7) (q H7 (s06.trans s7))
end
end K82

set_option Elab.async false
set_option linter.all false
set_option maxRecDepth 100000
set_option maxHeartbeats 4000000
namespace K82
open PySem L2 Tx
section
variable {P : Program} {w : World} {K : PySem.W.Frag} {mg : Str → Option Value} {base : Heap} {f g1 g2 g3 g4 g5 g6 g7 g8 : Addr} {fd gd1 gd2 gd3 gd4 gd5 gd6 gd7 gd8 : FuncData} {CX : CXT}
variable {CR : Addr} {CK : Kd → Addr} {fW fJ fT fS : Kd → Addr} {fdW fdJ fdT fdS : Kd → FuncData}
inductive BadW : List (List Nat) → Ek → Prop where
  | r {w : List Nat} {r : List (List Nat)} (np : NoPt (S w)) (f : (decide (S w ∈ rowW) && decide (r.length = 3)) = false) : BadW (w :: r) .r
  | m {k : Kd} {wd a b t : List Nat} (ek : S wd = k.wd) (lw : wd.length ≤ 10) (la : a.length ≤ 20) (lb : b.length ≤ 20) (lt : t.length ≤ 20) (n : (nmB a && nmB b) = false) : BadW [wd, a, b, t] .m
  | u {k : Kd} {wd a b t : List Nat} (ek : S wd = k.wd) (lw : wd.length ≤ 10) (la : a.length ≤ 20) (lb : b.length ≤ 20) (lt : t.length ≤ 20) (n : (nmB a && nmB b) = true) (h : ¬ ∃ p, Wr p t) : BadW [wd, a, b, t] .u
  | z {k : Kd} {wd a b t : List Nat} {p : Mq.Q2} (ek : S wd = k.wd) (lw : wd.length ≤ 10) (la : a.length ≤ 20) (lb : b.length ≤ 20) (lt : t.length ≤ 20) (n : (nmB a && nmB b) = true) (h : Wr p t) (o : okz k (some p) = false) : BadW [wd, a, b, t] .z
def BadT (x : Str) (e : Ek) : Prop := ∃ xs : List (List Nat), x = S (jnc 32 xs) ∧ (∀ z ∈ xs, 32 ∉ z) ∧ (jnc 32 xs).length ≤ 1000 ∧ xs.length ≤ 1000 ∧ BadW xs e
theorem wr_bd {p : Mq.Q2} {t : List Nat} (h : Wr p t) (l : t.length ≤ 28) : Mq.Bd 100 p := by
  have ge : ∀ i : Int, (dg i.natAbs).length ≤ (itx i).length := fun i => by unfold itx; split <;> simp
  have l1 : (itx p.1).length ≤ t.length := by rw [h.txt]; unfold shw; split <;> simp
  have k : ∀ n : Nat, n < 10 ^ 28 → n < 2 ^ 100 := fun n hn => Nat.lt_trans hn (by decide)
  have b1 : p.1.natAbs < 10 ^ 28 := (dg_len (by decide)).mp (Nat.le_trans (ge p.1) (by omega))
  have b2 : p.2.natAbs < 10 ^ 28 := by
    by_cases e : p.2 = 1
    · rw [e]; decide
    · have l2 : (itx p.2).length ≤ t.length := by rw [h.txt]; unfold shw; rw [if_neg e]; simp; omega
      exact (dg_len (by decide)).mp (Nat.le_trans (ge p.2) (by omega))
  exact ⟨k _ b1, k _ b2⟩
theorem wr_uni {p p' : Mq.Q2} {t : List Nat} (h : Wr p t) (h' : Wr p' t) : p = p' := by
  obtain ⟨_, a, b⟩ := wr_fine h
  obtain ⟨_, a', b'⟩ := wr_fine h'
  exact Prod.ext (a.symm.trans a') (b.symm.trans b')
theorem bad_tell {CY CP y : Addr} {cl : Ek → Addr} {K : PySem.W.Frag} {H : Hp} {Q : VK} {E : XK} {x : Str} {e : Ek} {ls : List Str} {ds : List RD} {av : List Addr} (yd : Yd CY CP K av H y ls ds) (h20 : ls.length ≤ 20) (h40 : ds.length < 40) (b : BadT x e) (q : ∀ H', Same H H' → E (.ref (cl e)) none H') : spTellX CY CP (cl .m) (cl .u) (cl .z) (cl .r) K [.ref y, .str x] H Q E := by
  obtain ⟨xs, rfl, h32, hl, hx, w⟩ := b
  refine ⟨y, _, rfl, ?_⟩
  cases w with
  | r np f => exact .inr (.inl ⟨_, _, rfl, h32, by omega, by simp only [List.length_cons] at hx; omega, np, f, q⟩)
  | m ek lw la lb lt n => exact .inr (.inr ⟨av, ls, ds, _, _, _, _, _, rfl, ek, h32 _ (by simp), h32 _ (by simp), h32 _ (by simp), h32 _ (by simp), by omega, yd, h20, h40, by omega, by omega, by omega, fun p wr => wr_bd wr (by omega), ⟨fun _ => q, fun z => absurd (z.symm.trans n) (by decide), fun z => absurd (z.symm.trans n) (by decide), fun z => absurd (z.symm.trans n) (by decide)⟩⟩)
  | u ek lw la lb lt n h => exact .inr (.inr ⟨av, ls, ds, _, _, _, _, _, rfl, ek, h32 _ (by simp), h32 _ (by simp), h32 _ (by simp), h32 _ (by simp), by omega, yd, h20, h40, by omega, by omega, by omega, fun p wr => wr_bd wr (by omega), ⟨fun z => absurd (z.symm.trans n) (by decide), fun _ _ => q, fun _ p wr => absurd ⟨p, wr⟩ h, fun _ p wr => absurd ⟨p, wr⟩ h⟩⟩)
  | z ek lw la lb lt n h o => exact .inr (.inr ⟨av, ls, ds, _, _, _, _, _, rfl, ek, h32 _ (by simp), h32 _ (by simp), h32 _ (by simp), h32 _ (by simp), by omega, yd, h20, h40, by omega, by omega, by omega, fun p wr => wr_bd wr (by omega), ⟨fun z => absurd (z.symm.trans n) (by decide), fun _ no => absurd ⟨_, h⟩ no, fun _ p wr _ => q, fun _ p wr ok => by rw [wr_uni wr h, o] at ok; cases ok⟩⟩)
theorem nm_32 {a : List Nat} (h : nmB a = true) : 32 ∉ a ∧ a.length ≤ 8 := by
  unfold nmB at h
  rw [Bool.and_eq_true] at h
  have l := of_decide_eq_true h.1
  refine ⟨fun z => ?_, l.2⟩
  have := List.all_eq_true.mp h.2 32 z
  exact absurd this (by decide)
theorem no_wr {t : List Nat} (h : ¬ Fine t ∨ ¬ Mq.Low (ival (ahead 47 t), ival (belowOf t))) : ¬ ∃ p, Wr p t := fun ⟨p, wr⟩ => by
  obtain ⟨f, a, b⟩ := wr_fine wr
  rcases h with h | h
  · exact h f
  · rw [a, b] at h; exact h wr.low
theorem low_no {a b : Int} (h : b < 1 ∨ Mq.gc a b ≠ 1) : ¬ Mq.Low (a, b) := fun ⟨x, y⟩ => by
  rcases h with h | h
  · have : (1 : Int) ≤ b := x
    omega
  · exact h y
theorem nw1 : ¬ ∃ p, Wr p [50, 47, 52] := no_wr (.inr (low_no (.inr (by decide))))
theorem nw2 : ¬ ∃ p, Wr p [] := no_wr (.inl (fun h => by have := h.1.1; revert this; decide))
theorem nw3 : ¬ ∃ p, Wr p [45, 50, 47, 52] := no_wr (.inr (low_no (.inr (by decide))))
theorem nw4 : ¬ ∃ p, Wr p [49, 47, 48] := no_wr (.inr (low_no (.inl (by decide))))
theorem p200 {n : Nat} (h : n ≤ 9) : n < 10 ^ 200 := Nat.lt_of_le_of_lt h (by have : (10 : Nat) ^ 1 ≤ 10 ^ 200 := Nat.pow_le_pow_right (by decide) (by decide); omega)
theorem wz1 : Wr (0, 1) [48] := ⟨⟨by decide, by decide⟩, by decide +kernel, p200 (by decide), p200 (by decide)⟩
theorem wz2 : Wr (-1, 1) [45, 49] := ⟨⟨by decide, by decide⟩, by decide +kernel, p200 (by decide), p200 (by decide)⟩
theorem wz3 : Wr (-1, 2) [45, 49, 47, 50] := ⟨⟨by decide, by decide⟩, by decide +kernel, p200 (by decide), p200 (by decide)⟩
end
end K82

set_option Elab.async false
set_option linter.all false
set_option maxRecDepth 100000
set_option maxHeartbeats 4000000
namespace K82
open PySem L2 Tx
section
variable {P : Program} {w : World} {K : PySem.W.Frag} {mg : Str → Option Value} {base : Heap} {f g1 g2 g3 g4 g5 g6 g7 g8 : Addr} {fd gd1 gd2 gd3 gd4 gd5 gd6 gd7 gd8 : FuncData} {CX : CXT}
variable {CR : Addr} {CK : Kd → Addr} {fW fJ fT fS : Kd → Addr} {fdW fdJ fdT fdS : Kd → FuncData}
def spBad : Sp := fun vs H Q _ => ∃ (c : Int) (a b : List Nat), vs = [.int c, .str (S a), .str (S b)] ∧ nmB a = true ∧ nmB b = true ∧ ∀ t x e H', Same H H' → H' t = some (.tup [.str x, .str e.wd]) → BadT x e → Q (.ref t) H'
theorem len2 (x y : Str) : (x ++ y).length = x.length + y.length := by
  show (x.cps ++ y.cps).size = _
  rw [Array.size_append]; rfl
theorem bt0 {a b : List Nat} (ha : nmB a = true) (hb : nmB b = true) : BadT ("piece " ++ (S a ++ " " ++ S b)) .r := by
  obtain ⟨a32, al⟩ := nm_32 ha
  obtain ⟨b32, bl⟩ := nm_32 hb
  refine ⟨[[112, 105, 101, 99, 101], a, b], ?_, fun z hz => ?_, ?_, by simp, .r ⟨by decide +kernel, by decide +kernel, by decide +kernel⟩ (by show (decide (S [112, 105, 101, 99, 101] ∈ rowW) && decide ((2 : Nat) = 3)) = false; decide +kernel)⟩
  · rw [show ("piece " : Str) = S [112, 105, 101, 99, 101, 32] by decide +kernel, show (" " : Str) = S [32] by decide +kernel]
    simp only [S_app]
    congr 1
    simp [jnc]
  · simp only [List.mem_cons, List.not_mem_nil, or_false] at hz
    rcases hz with rfl | rfl | rfl <;> first | exact a32 | exact b32 | decide
  · simp only [jnc, List.length_append, List.length_cons, List.length_nil]
    omega
theorem bt1 {a b : List Nat} (ha : nmB a = true) (hb : nmB b = true) : BadT ("piece " ++ (S a ++ " " ++ S b) ++ " 1 1") .r := by
  obtain ⟨a32, al⟩ := nm_32 ha
  obtain ⟨b32, bl⟩ := nm_32 hb
  refine ⟨[[112, 105, 101, 99, 101], a, b, [49], [49]], ?_, fun z hz => ?_, ?_, by simp, .r ⟨by decide +kernel, by decide +kernel, by decide +kernel⟩ (by show (decide (S [112, 105, 101, 99, 101] ∈ rowW) && decide ((4 : Nat) = 3)) = false; decide +kernel)⟩
  · rw [show ("piece " : Str) = S [112, 105, 101, 99, 101, 32] by decide +kernel, show (" " : Str) = S [32] by decide +kernel, show (" 1 1" : Str) = S [32, 49, 32, 49] by decide +kernel]
    simp only [S_app]
    congr 1
    simp [jnc]
  · simp only [List.mem_cons, List.not_mem_nil, or_false] at hz
    rcases hz with rfl | rfl | rfl | rfl | rfl <;> first | exact a32 | exact b32 | decide
  · simp only [jnc, List.length_append, List.length_cons, List.length_nil]
    omega
theorem bt2 {a b : List Nat} (ha : nmB a = true) (hb : nmB b = true) : BadT ("hold " ++ (S a ++ " " ++ S b) ++ "  1") .r := by
  obtain ⟨a32, al⟩ := nm_32 ha
  obtain ⟨b32, bl⟩ := nm_32 hb
  refine ⟨[[104, 111, 108, 100], a, b, [], [49]], ?_, fun z hz => ?_, ?_, by simp, .r ⟨by decide +kernel, by decide +kernel, by decide +kernel⟩ (by show (decide (S [104, 111, 108, 100] ∈ rowW) && decide ((4 : Nat) = 3)) = false; decide +kernel)⟩
  · rw [show ("hold " : Str) = S [104, 111, 108, 100, 32] by decide +kernel, show (" " : Str) = S [32] by decide +kernel, show ("  1" : Str) = S [32, 32, 49] by decide +kernel]
    simp only [S_app]
    congr 1
    simp [jnc]
  · simp only [List.mem_cons, List.not_mem_nil, or_false] at hz
    rcases hz with rfl | rfl | rfl | rfl | rfl <;> first | exact a32 | exact b32 | decide
  · simp only [jnc, List.length_append, List.length_cons, List.length_nil]
    omega
theorem bt3 {a b : List Nat} (ha : nmB a = true) (hb : nmB b = true) : BadT ("peace " ++ (S a ++ " " ++ S b) ++ " 1") .r := by
  obtain ⟨a32, al⟩ := nm_32 ha
  obtain ⟨b32, bl⟩ := nm_32 hb
  refine ⟨[[112, 101, 97, 99, 101], a, b, [49]], ?_, fun z hz => ?_, ?_, by simp, .r ⟨by decide +kernel, by decide +kernel, by decide +kernel⟩ (by show (decide (S [112, 101, 97, 99, 101] ∈ rowW) && decide ((3 : Nat) = 3)) = false; decide +kernel)⟩
  · rw [show ("peace " : Str) = S [112, 101, 97, 99, 101, 32] by decide +kernel, show (" " : Str) = S [32] by decide +kernel, show (" 1" : Str) = S [32, 49] by decide +kernel]
    simp only [S_app]
    congr 1
    simp [jnc]
  · simp only [List.mem_cons, List.not_mem_nil, or_false] at hz
    rcases hz with rfl | rfl | rfl | rfl <;> first | exact a32 | exact b32 | decide
  · simp only [jnc, List.length_append, List.length_cons, List.length_nil]
    omega
theorem bt4 {a b : List Nat} (ha : nmB a = true) (hb : nmB b = true) : BadT (" push " ++ (S a ++ " " ++ S b) ++ " 1") .r := by
  obtain ⟨a32, al⟩ := nm_32 ha
  obtain ⟨b32, bl⟩ := nm_32 hb
  refine ⟨[[], [112, 117, 115, 104], a, b, [49]], ?_, fun z hz => ?_, ?_, by simp, .r ⟨by decide +kernel, by decide +kernel, by decide +kernel⟩ (by show (decide (S [] ∈ rowW) && decide ((4 : Nat) = 3)) = false; decide +kernel)⟩
  · rw [show (" push " : Str) = S [32, 112, 117, 115, 104, 32] by decide +kernel, show (" " : Str) = S [32] by decide +kernel, show (" 1" : Str) = S [32, 49] by decide +kernel]
    simp only [S_app]
    congr 1
    simp [jnc]
  · simp only [List.mem_cons, List.not_mem_nil, or_false] at hz
    rcases hz with rfl | rfl | rfl | rfl | rfl <;> first | exact a32 | exact b32 | decide
  · simp only [jnc, List.length_append, List.length_cons, List.length_nil]
    omega
theorem bt5 {a b : List Nat} (ha : nmB a = true) (hb : nmB b = true) {w t : List Nat} (hw : nmB w = false) (w32 : 32 ∉ w) (wl : w.length ≤ 20) (t32 : 32 ∉ t) (tl : t.length ≤ 20) : BadT ("piece " ++ S w ++ " " ++ S b ++ " " ++ S t) .m := by
  obtain ⟨a32, al⟩ := nm_32 ha
  obtain ⟨b32, bl⟩ := nm_32 hb
  refine ⟨[[112, 105, 101, 99, 101], w, b, t], ?_, fun z hz => ?_, ?_, by simp, .m (k := .pc) (by decide +kernel) (by decide) wl (by omega) tl (by rw [hw]; rfl)⟩
  · rw [show ("piece " : Str) = S [112, 105, 101, 99, 101, 32] by decide +kernel, show (" " : Str) = S [32] by decide +kernel]
    simp only [S_app]
    congr 1
    simp [jnc]
  · simp only [List.mem_cons, List.not_mem_nil, or_false] at hz
    rcases hz with rfl | rfl | rfl | rfl <;> first | exact w32 | exact t32 | exact b32 | decide
  · simp only [jnc, List.length_append, List.length_cons, List.length_nil]
    omega
theorem bt6 {a b : List Nat} (ha : nmB a = true) (hb : nmB b = true) {w t : List Nat} (hw : nmB w = false) (w32 : 32 ∉ w) (wl : w.length ≤ 20) (t32 : 32 ∉ t) (tl : t.length ≤ 20) : BadT ("hold " ++ S a ++ " " ++ S w ++ " " ++ S t) .m := by
  obtain ⟨a32, al⟩ := nm_32 ha
  obtain ⟨b32, bl⟩ := nm_32 hb
  refine ⟨[[104, 111, 108, 100], a, w, t], ?_, fun z hz => ?_, ?_, by simp, .m (k := .ho) (by decide +kernel) (by decide) (by omega) wl tl (by rw [hw, Bool.and_false])⟩
  · rw [show ("hold " : Str) = S [104, 111, 108, 100, 32] by decide +kernel, show (" " : Str) = S [32] by decide +kernel]
    simp only [S_app]
    congr 1
    simp [jnc]
  · simp only [List.mem_cons, List.not_mem_nil, or_false] at hz
    rcases hz with rfl | rfl | rfl | rfl <;> first | exact w32 | exact t32 | exact a32 | decide
  · simp only [jnc, List.length_append, List.length_cons, List.length_nil]
    omega
theorem bt7 {a b : List Nat} (ha : nmB a = true) (hb : nmB b = true) {t : List Nat} (t32 : 32 ∉ t) (tl : t.length ≤ 20) (nw : ¬ ∃ p, Wr p t) : BadT ("piece " ++ S a ++ " " ++ S b ++ " " ++ S t) .u := by
  obtain ⟨a32, al⟩ := nm_32 ha
  obtain ⟨b32, bl⟩ := nm_32 hb
  refine ⟨[[112, 105, 101, 99, 101], a, b, t], ?_, fun z hz => ?_, ?_, by simp, .u (k := .pc) (by decide +kernel) (by decide) (by omega) (by omega) tl (by rw [ha, hb]; rfl) nw⟩
  · rw [show ("piece " : Str) = S [112, 105, 101, 99, 101, 32] by decide +kernel, show (" " : Str) = S [32] by decide +kernel]
    simp only [S_app]
    congr 1
    simp [jnc]
  · simp only [List.mem_cons, List.not_mem_nil, or_false] at hz
    rcases hz with rfl | rfl | rfl | rfl <;> first | exact t32 | exact a32 | exact b32 | decide
  · simp only [jnc, List.length_append, List.length_cons, List.length_nil]
    omega
theorem bt8 {a b : List Nat} (ha : nmB a = true) (hb : nmB b = true) {t : List Nat} (t32 : 32 ∉ t) (tl : t.length ≤ 20) {p : Mq.Q2} (wr : Wr p t) (no : okz .pc (some p) = false) : BadT ("piece " ++ S a ++ " " ++ S b ++ " " ++ S t) .z := by
  obtain ⟨a32, al⟩ := nm_32 ha
  obtain ⟨b32, bl⟩ := nm_32 hb
  refine ⟨[[112, 105, 101, 99, 101], a, b, t], ?_, fun z hz => ?_, ?_, by simp, .z (k := .pc) (by decide +kernel) (by decide) (by omega) (by omega) tl (by rw [ha, hb]; rfl) wr no⟩
  · rw [show ("piece " : Str) = S [112, 105, 101, 99, 101, 32] by decide +kernel, show (" " : Str) = S [32] by decide +kernel]
    simp only [S_app]
    congr 1
    simp [jnc]
  · simp only [List.mem_cons, List.not_mem_nil, or_false] at hz
    rcases hz with rfl | rfl | rfl | rfl <;> first | exact t32 | exact a32 | exact b32 | decide
  · simp only [jnc, List.length_append, List.length_cons, List.length_nil]
    omega
abbrev sBad : Stmt := top 59
theorem scBad : FnScope ["_law_cell", "_law_one", "_law_other", "_law_way", "_law_two", "_law_some", "_law_wrong"] ["_law_cell", "_law_one", "_law_other"] (defScope sBad) := ⟨rfl, rfl, rfl, by decide +kernel, rfl, by decide +kernel, by decide +kernel⟩
theorem ok_bad {dV : Value} (F : FunD K "_law_bad" "_law_bad" sBad dV f fd)
    (G1 : FnOk P w K mg base CX0 1 g1 gd1 ["_law_cell", "_law_prime", "_law_many"] spMix) (b1 : Binds K gd1 ["_law_cell", "_law_prime", "_law_many"] []) (k1 : PySem.W.keepIn K (.ref g1) = true) (m1 : mg "_law_mix" = some (.ref g1)) :
    FnOk P w K mg base CX 2 f fd ["_law_cell", "_law_one", "_law_other"] spBad := by
  refine F.ok scBad (fun vs H Q E h => ?_) (fun cdv A outer s H vs Q E hr h => ?_)
  · obtain ⟨c, a, b, rfl, ha, hb, q⟩ := h
    rfl
  obtain ⟨c, a, b, rfl, ha, hb, q⟩ := h
  have hz : sizeLine = 16777216 := sizeLine_eq
  obtain ⟨a32, al⟩ := nm_32 ha
  obtain ⟨b32, bl⟩ := nm_32 hb
  have el0 : ("piece " : Str).length = 6 := by decide +kernel
  have el1 : ("hold " : Str).length = 5 := by decide +kernel
  have el2 : ("peace " : Str).length = 6 := by decide +kernel
  have el3 : (" push " : Str).length = 6 := by decide +kernel
  have el4 : (" " : Str).length = 1 := by decide +kernel
  have el5 : (" 1 1" : Str).length = 4 := by decide +kernel
  have el6 : ("  1" : Str).length = 3 := by decide +kernel
  have el7 : (" 1" : Str).length = 2 := by decide +kernel
  refine ⟨_, (pss_cons (ps_set (i := 3) scBad.nd rfl (Or.inl rfl) (pe_call G1 hr rfl m1 k1 b1 .nil pass0 (pa_cons (pv 0) (pa_cons pe_int (pa_cons pe_int pa_nil)))))
    (pss_cons (ps_if (pt_cmpR op_lt (pv 3) pe_int (nomark _)) (pss_cons (ps_set (i := 4) scBad.nd rfl (Or.inl rfl) (pe_op op_add_str (pe_op op_add_str (pv 1) pe_str) (pv 2)))
    (pss_cons (ps_set (i := 5) scBad.nd rfl (Or.inl rfl) (pe_lst (pa_cons (pe_op op_add_str pe_str (pv 4)) (pa_cons (pe_op op_add_str (pe_op op_add_str pe_str (pv 4)) pe_str) (pa_cons (pe_op op_add_str (pe_op op_add_str pe_str (pv 4)) pe_str) (pa_cons (pe_op op_add_str (pe_op op_add_str pe_str (pv 4)) pe_str) pa_nil))))))
    (pss_one (ps_ret (pe_tup (pa_cons (pe_ix ix_list (pe_op op_cat (pv 5) (pe_lst (pa_cons (pe_op op_add_str (pe_op op_add_str pe_str (pv 4)) pe_str) pa_nil))) (pv 3) (fun _ _ => rfl)) (pa_cons pe_str pa_nil))))))) pss_nil)
    (pss_cons (ps_if (pt_cmpR op_lt (pv 3) pe_int (nomark _)) (pss_cons (ps_set (i := 6) scBad.nd rfl (Or.inl rfl) (pe_ix ix_list (pe_lst (pa_cons pe_str (pa_cons pe_str (pa_cons pe_str (pa_cons pe_str pa_nil))))) (pe_op op_sub (pv 3) pe_int) (fun _ _ => rfl)))
    (pss_cons (ps_if (pt_cmpR op_eq (pe_call G1 hr rfl m1 k1 b1 .nil pass0 (pa_cons (pv 0) (pa_cons pe_int (pa_cons pe_int pa_nil)))) pe_int (nomark _)) (pss_one (ps_ret (pe_tup (pa_cons (pe_op op_add_str (pe_op op_add_str (pe_op op_add_str (pe_op op_add_str (pe_op op_add_str pe_str (pv 6)) pe_str) (pv 2)) pe_str) (pe_ix ix_list (pe_lst (pa_cons pe_str (pa_cons pe_str (pa_cons pe_str pa_nil)))) (pe_call G1 hr rfl m1 k1 b1 .nil pass0 (pa_cons (pv 0) (pa_cons pe_int (pa_cons pe_int pa_nil)))) (fun _ _ => rfl))) (pa_cons pe_str pa_nil))))) pss_nil)
    (pss_one (ps_ret (pe_tup (pa_cons (pe_op op_add_str (pe_op op_add_str (pe_op op_add_str (pe_op op_add_str (pe_op op_add_str pe_str (pv 1)) pe_str) (pv 6)) pe_str) (pe_ix ix_list (pe_lst (pa_cons pe_str (pa_cons pe_str pa_nil))) (pe_call G1 hr rfl m1 k1 b1 .nil pass0 (pa_cons (pv 0) (pa_cons pe_int (pa_cons pe_int pa_nil)))) (fun _ _ => rfl))) (pa_cons pe_str pa_nil))))))) pss_nil)
    (pss_cons (ps_if (pt_cmpR op_lt (pv 3) pe_int (nomark _)) (pss_one (ps_ret (pe_tup (pa_cons (pe_op op_add_str (pe_op op_add_str (pe_op op_add_str (pe_op op_add_str (pe_op op_add_str pe_str (pv 1)) pe_str) (pv 2)) pe_str) (pe_ix ix_list (pe_lst (pa_cons pe_str (pa_cons pe_str (pa_cons pe_str (pa_cons pe_str pa_nil))))) (pe_op op_sub (pv 3) pe_int) (fun _ _ => rfl))) (pa_cons pe_str pa_nil))))) pss_nil)
    (pss_one (ps_ret (pe_tup (pa_cons (pe_op op_add_str (pe_op op_add_str (pe_op op_add_str (pe_op op_add_str (pe_op op_add_str pe_str (pv 1)) pe_str) (pv 2)) pe_str) (pe_ix ix_list (pe_lst (pa_cons pe_str (pa_cons pe_str (pa_cons pe_str pa_nil)))) (pe_op op_sub (pv 3) pe_int) (fun _ _ => rfl))) (pa_cons pe_str pa_nil))))))))), ?_⟩
  refine ⟨_, rfl, c, 53668, 16, rfl, by decide, by decide, by decide, fun wy w0 w16 => ?_⟩
  refine ⟨_, rfl, _, _, rfl, rfl, _, rfl, ite2 (fun h5 => ?_) (fun h5 => ?_)⟩
  · refine ⟨_, rfl, _, _, rfl, rfl, (by simp only [len2, S_len, el0, el1, el2, el3, el4, el5, el6, el7]; omega), _, rfl, _, _, rfl, rfl, (by simp only [len2, S_len, el0, el1, el2, el3, el4, el5, el6, el7]; omega), ?_⟩
    have lT : (S a ++ " " ++ S b : Str).length ≤ 20 := by simp only [len2, S_len, el4]; omega
    have t0 := bt0 ha hb
    have t1 := bt1 ha hb
    have t2 := bt2 ha hb
    have t3 := bt3 ha hb
    have t4 := bt4 ha hb
    show gName 4 (.str (S a ++ " " ++ S b)) _ _ _
    generalize (S a ++ " " ++ S b : Str) = T at lT t0 t1 t2 t3 t4 ⊢
    refine ⟨_, rfl, _, _, rfl, rfl, (by simp only [len2, el0, el1, el2, el3, el4, el5, el6, el7]; omega), _, rfl, _, _, rfl, rfl, (by simp only [len2, el0, el1, el2, el3, el4, el5, el6, el7]; omega), _, _, rfl, rfl, (by simp only [len2, el0, el1, el2, el3, el4, el5, el6, el7]; omega), _, rfl, _, _, rfl, rfl, (by simp only [len2, el0, el1, el2, el3, el4, el5, el6, el7]; omega), _, _, rfl, rfl, (by simp only [len2, el0, el1, el2, el3, el4, el5, el6, el7]; omega), _, rfl, _, _, rfl, rfl, (by simp only [len2, el0, el1, el2, el3, el4, el5, el6, el7]; omega), _, _, rfl, rfl, (by simp only [len2, el0, el1, el2, el3, el4, el5, el6, el7]; omega), by show 4 ≤ sizeLine; decide, fun L hL => ?_⟩
    have l4 : ("piece " ++ T ++ " 1 1" : Str).length ≤ 1000 := (by simp only [len2, el0, el1, el2, el3, el4, el5, el6, el7]; omega)
    generalize ("piece " ++ T : Str) = x0 at t0 t1 ⊢
    generalize (x0 ++ " 1 1" : Str) = x1 at t1 ⊢
    generalize ("hold " ++ T ++ "  1" : Str) = x2 at t2 ⊢
    generalize ("peace " ++ T ++ " 1" : Str) = x3 at t3 ⊢
    have s1 := same_new hL (.lst [.str x0, .str x1, .str x2, .str x3])
    have e1 : upd H L (.lst [.str x0, .str x1, .str x2, .str x3]) L = some (.lst [.str x0, .str x1, .str x2, .str x3]) := upd_same
    generalize upd H L (.lst [.str x0, .str x1, .str x2, .str x3]) = H1 at s1 e1 ⊢

    refine ⟨_, rfl, _, rfl, _, _, rfl, rfl, (by simp only [len2, el0, el1, el2, el3, el4, el5, el6, el7]; omega), _, _, rfl, rfl, (by simp only [len2, el0, el1, el2, el3, el4, el5, el6, el7]; omega), by show 1 ≤ sizeLine; decide, fun M hM => ?_⟩
    generalize (" push " ++ T ++ " 1" : Str) = x4 at t4 ⊢
    have s2 := same_new hM (.lst [.str x4])
    have e2 : upd H1 M (.lst [.str x4]) M = some (.lst [.str x4]) := upd_same
    generalize upd H1 M (.lst [.str x4]) = H2 at s2 e2 ⊢

    refine ⟨L, M, _, _, rfl, rfl, s2 _ _ e1, e2, by show 5 ≤ sizeLine; decide, fun C hC => ?_⟩
    change tVar 3 _ (upd H2 C (.lst [.str x0, .str x1, .str x2, .str x3, .str x4])) _
    have s3 := same_new hC (.lst [.str x0, .str x1, .str x2, .str x3, .str x4])
    have e3 : upd H2 C (.lst [.str x0, .str x1, .str x2, .str x3, .str x4]) C = some (.lst [.str x0, .str x1, .str x2, .str x3, .str x4]) := upd_same
    generalize upd H2 C (.lst [.str x0, .str x1, .str x2, .str x3, .str x4]) = H3 at s3 e3 ⊢

    obtain ⟨x, ex, bx⟩ : ∃ x, atI [V.str x0, .str x1, .str x2, .str x3, .str x4] wy = some (.str x) ∧ BadT x .r := by
      have h5 := of_decide_eq_true h5
      have : wy = 0 ∨ wy = 1 ∨ wy = 2 ∨ wy = 3 ∨ wy = 4 := by omega
      rcases this with rfl | rfl | rfl | rfl | rfl
      · exact ⟨_, rfl, t0⟩
      · exact ⟨_, rfl, t1⟩
      · exact ⟨_, rfl, t2⟩
      · exact ⟨_, rfl, t3⟩
      · exact ⟨_, rfl, t4⟩
    refine ⟨_, rfl, C, _, wy, _, rfl, rfl, SqL.of e3, ex, by show 2 ≤ sizeLine; decide, fun t ht => ?_⟩
    exact q t x .r _ (s1.trans (s2.trans (s3.trans (same_new ht _)))) upd_same bx
  refine ⟨_, rfl, _, _, rfl, rfl, _, rfl, ite2 (fun h9 => ?_) (fun h9 => ?_)⟩
  · refine ⟨by show 4 ≤ sizeLine; decide, fun L hL => ?_⟩
    have s1 := same_new hL (.lst [V.str "A", V.str "a1", V.str "abcdefghi", V.str ""])
    have e1 : upd H L (.lst [V.str "A", V.str "a1", V.str "abcdefghi", V.str ""]) L = some (.lst [V.str "A", V.str "a1", V.str "abcdefghi", V.str ""]) := upd_same
    generalize upd H L (.lst [V.str "A", V.str "a1", V.str "abcdefghi", V.str ""]) = H1 at s1 e1 ⊢
    obtain ⟨w, ew, hw, w32, wl⟩ : ∃ t : List Nat, atI [V.str "A", V.str "a1", V.str "abcdefghi", V.str ""] (wy - 5) = some (.str (S t)) ∧ nmB t = false ∧ 32 ∉ t ∧ t.length ≤ 20 := by
      have : wy - 5 = 0 ∨ wy - 5 = 1 ∨ wy - 5 = 2 ∨ wy - 5 = 3 := by simp only [decide_eq_true_eq] at h5 h9; omega
      rcases this with h | h | h | h
      · rw [h]; exact ⟨[65], by rw [show ("A" : Str) = S [65] by decide +kernel, show ("a1" : Str) = S [97, 49] by decide +kernel, show ("abcdefghi" : Str) = S [97, 98, 99, 100, 101, 102, 103, 104, 105] by decide +kernel, show ("" : Str) = S [] by decide +kernel]; rfl, by decide, by decide, by decide⟩
      · rw [h]; exact ⟨[97, 49], by rw [show ("A" : Str) = S [65] by decide +kernel, show ("a1" : Str) = S [97, 49] by decide +kernel, show ("abcdefghi" : Str) = S [97, 98, 99, 100, 101, 102, 103, 104, 105] by decide +kernel, show ("" : Str) = S [] by decide +kernel]; rfl, by decide, by decide, by decide⟩
      · rw [h]; exact ⟨[97, 98, 99, 100, 101, 102, 103, 104, 105], by rw [show ("A" : Str) = S [65] by decide +kernel, show ("a1" : Str) = S [97, 49] by decide +kernel, show ("abcdefghi" : Str) = S [97, 98, 99, 100, 101, 102, 103, 104, 105] by decide +kernel, show ("" : Str) = S [] by decide +kernel]; rfl, by decide, by decide, by decide⟩
      · rw [h]; exact ⟨[], by rw [show ("A" : Str) = S [65] by decide +kernel, show ("a1" : Str) = S [97, 49] by decide +kernel, show ("abcdefghi" : Str) = S [97, 98, 99, 100, 101, 102, 103, 104, 105] by decide +kernel, show ("" : Str) = S [] by decide +kernel]; rfl, by decide, by decide, by decide⟩
    refine ⟨_, rfl, _, _, rfl, rfl, L, _, _, _, rfl, rfl, SqL.of e1, ew, ?_⟩
    refine ⟨_, rfl, c, 52774, 2, rfl, by decide, by decide, by decide, fun u u0 u2 => ⟨rfl, _, rfl, ite2 (fun _ => ?_) (fun _ => ?_)⟩⟩
    · refine ⟨_, rfl, _, _, rfl, rfl, (by simp only [len2, S_len, el0, el1, el2, el3, el4, el5, el6, el7]; omega), _, _, rfl, rfl, (by simp only [len2, S_len, el0, el1, el2, el3, el4, el5, el6, el7]; omega), _, rfl, _, _, rfl, rfl, (by simp only [len2, S_len, el0, el1, el2, el3, el4, el5, el6, el7]; omega), _, _, rfl, rfl, (by simp only [len2, S_len, el0, el1, el2, el3, el4, el5, el6, el7]; omega), by show 3 ≤ sizeLine; decide, fun L2' hL2' => ?_⟩
      have s2 := same_new hL2' (.lst [V.str "1", V.str "2/4", V.str "0"])
      have e2 : upd H1 L2' (.lst [V.str "1", V.str "2/4", V.str "0"]) L2' = some (.lst [V.str "1", V.str "2/4", V.str "0"]) := upd_same
      generalize upd H1 L2' (.lst [V.str "1", V.str "2/4", V.str "0"]) = H2 at s2 e2 ⊢
      refine ⟨_, rfl, c, 12211, 3, rfl, by decide, by decide, by decide, fun r r0 r3 => ?_⟩
      obtain ⟨t, et, t32, tl⟩ : ∃ t : List Nat, atI [V.str "1", V.str "2/4", V.str "0"] (r) = some (.str (S t)) ∧ 32 ∉ t ∧ t.length ≤ 20 := by
        have : r = 0 ∨ r = 1 ∨ r = 2 := by omega
        rcases this with h | h | h
        · rw [h]; exact ⟨[49], by rw [show ("1" : Str) = S [49] by decide +kernel, show ("2/4" : Str) = S [50, 47, 52] by decide +kernel, show ("0" : Str) = S [48] by decide +kernel]; rfl, by decide, by decide⟩
        · rw [h]; exact ⟨[50, 47, 52], by rw [show ("1" : Str) = S [49] by decide +kernel, show ("2/4" : Str) = S [50, 47, 52] by decide +kernel, show ("0" : Str) = S [48] by decide +kernel]; rfl, by decide, by decide⟩
        · rw [h]; exact ⟨[48], by rw [show ("1" : Str) = S [49] by decide +kernel, show ("2/4" : Str) = S [50, 47, 52] by decide +kernel, show ("0" : Str) = S [48] by decide +kernel]; rfl, by decide, by decide⟩
      refine ⟨L2', _, r, _, rfl, rfl, SqL.of e2, et, _, _, rfl, rfl, (by simp only [len2, S_len, el0, el1, el2, el3, el4, el5, el6, el7]; omega), by show 2 ≤ sizeLine; decide, fun tt htt => ?_⟩
      exact q tt _ .m _ (s1.trans (s2.trans (same_new htt _))) upd_same (bt5 ha hb hw w32 wl t32 tl)
    · refine ⟨_, rfl, _, _, rfl, rfl, (by simp only [len2, S_len, el0, el1, el2, el3, el4, el5, el6, el7]; omega), _, _, rfl, rfl, (by simp only [len2, S_len, el0, el1, el2, el3, el4, el5, el6, el7]; omega), _, rfl, _, _, rfl, rfl, (by simp only [len2, S_len, el0, el1, el2, el3, el4, el5, el6, el7]; omega), _, _, rfl, rfl, (by simp only [len2, S_len, el0, el1, el2, el3, el4, el5, el6, el7]; omega), by show 2 ≤ sizeLine; decide, fun L2' hL2' => ?_⟩
      have s2 := same_new hL2' (.lst [V.str "1", V.str "x"])
      have e2 : upd H1 L2' (.lst [V.str "1", V.str "x"]) L2' = some (.lst [V.str "1", V.str "x"]) := upd_same
      generalize upd H1 L2' (.lst [V.str "1", V.str "x"]) = H2 at s2 e2 ⊢
      refine ⟨_, rfl, c, 12211, 2, rfl, by decide, by decide, by decide, fun r r0 r3 => ?_⟩
      obtain ⟨t, et, t32, tl⟩ : ∃ t : List Nat, atI [V.str "1", V.str "x"] (r) = some (.str (S t)) ∧ 32 ∉ t ∧ t.length ≤ 20 := by
        have : r = 0 ∨ r = 1 := by omega
        rcases this with h | h
        · rw [h]; exact ⟨[49], by rw [show ("1" : Str) = S [49] by decide +kernel, show ("x" : Str) = S [120] by decide +kernel]; rfl, by decide, by decide⟩
        · rw [h]; exact ⟨[120], by rw [show ("1" : Str) = S [49] by decide +kernel, show ("x" : Str) = S [120] by decide +kernel]; rfl, by decide, by decide⟩
      refine ⟨L2', _, r, _, rfl, rfl, SqL.of e2, et, _, _, rfl, rfl, (by simp only [len2, S_len, el0, el1, el2, el3, el4, el5, el6, el7]; omega), by show 2 ≤ sizeLine; decide, fun tt htt => ?_⟩
      exact q tt _ .m _ (s1.trans (s2.trans (same_new htt _))) upd_same (bt6 ha hb hw w32 wl t32 tl)
  refine ⟨_, rfl, _, _, rfl, rfl, _, rfl, ite2 (fun h13 => ?_) (fun h13 => ?_)⟩
  · refine ⟨_, rfl, _, _, rfl, rfl, (by simp only [len2, S_len, el0, el1, el2, el3, el4, el5, el6, el7]; omega), _, _, rfl, rfl, (by simp only [len2, S_len, el0, el1, el2, el3, el4, el5, el6, el7]; omega), _, rfl, _, _, rfl, rfl, (by simp only [len2, S_len, el0, el1, el2, el3, el4, el5, el6, el7]; omega), _, _, rfl, rfl, (by simp only [len2, S_len, el0, el1, el2, el3, el4, el5, el6, el7]; omega), by show 4 ≤ sizeLine; decide, fun L hL => ?_⟩
    have s1 := same_new hL (.lst [V.str "2/4", V.str "", V.str "-2/4", V.str "1/0"])
    have e1 : upd H L (.lst [V.str "2/4", V.str "", V.str "-2/4", V.str "1/0"]) L = some (.lst [V.str "2/4", V.str "", V.str "-2/4", V.str "1/0"]) := upd_same
    generalize upd H L (.lst [V.str "2/4", V.str "", V.str "-2/4", V.str "1/0"]) = H1 at s1 e1 ⊢
    obtain ⟨t, et, t32, tl, nw⟩ : ∃ t : List Nat, atI [V.str "2/4", V.str "", V.str "-2/4", V.str "1/0"] (wy - 9) = some (.str (S t)) ∧ 32 ∉ t ∧ t.length ≤ 20 ∧ ¬ ∃ p, Wr p t := by
      have : wy - 9 = 0 ∨ wy - 9 = 1 ∨ wy - 9 = 2 ∨ wy - 9 = 3 := by simp only [decide_eq_true_eq] at h9 h13; omega
      rcases this with h | h | h | h
      · rw [h]; exact ⟨[50, 47, 52], by rw [show ("2/4" : Str) = S [50, 47, 52] by decide +kernel, show ("" : Str) = S [] by decide +kernel, show ("-2/4" : Str) = S [45, 50, 47, 52] by decide +kernel, show ("1/0" : Str) = S [49, 47, 48] by decide +kernel]; rfl, by decide, by decide, nw1⟩
      · rw [h]; exact ⟨[], by rw [show ("2/4" : Str) = S [50, 47, 52] by decide +kernel, show ("" : Str) = S [] by decide +kernel, show ("-2/4" : Str) = S [45, 50, 47, 52] by decide +kernel, show ("1/0" : Str) = S [49, 47, 48] by decide +kernel]; rfl, by decide, by decide, nw2⟩
      · rw [h]; exact ⟨[45, 50, 47, 52], by rw [show ("2/4" : Str) = S [50, 47, 52] by decide +kernel, show ("" : Str) = S [] by decide +kernel, show ("-2/4" : Str) = S [45, 50, 47, 52] by decide +kernel, show ("1/0" : Str) = S [49, 47, 48] by decide +kernel]; rfl, by decide, by decide, nw3⟩
      · rw [h]; exact ⟨[49, 47, 48], by rw [show ("2/4" : Str) = S [50, 47, 52] by decide +kernel, show ("" : Str) = S [] by decide +kernel, show ("-2/4" : Str) = S [45, 50, 47, 52] by decide +kernel, show ("1/0" : Str) = S [49, 47, 48] by decide +kernel]; rfl, by decide, by decide, nw4⟩
    refine ⟨_, rfl, _, _, rfl, rfl, L, _, _, _, rfl, rfl, SqL.of e1, et, _, _, rfl, rfl, (by simp only [len2, S_len, el0, el1, el2, el3, el4, el5, el6, el7]; omega), by show 2 ≤ sizeLine; decide, fun tt htt => ?_⟩
    exact q tt _ .u _ (s1.trans (same_new htt _)) upd_same (bt7 ha hb t32 tl nw)
  · refine ⟨_, rfl, _, _, rfl, rfl, (by simp only [len2, S_len, el0, el1, el2, el3, el4, el5, el6, el7]; omega), _, _, rfl, rfl, (by simp only [len2, S_len, el0, el1, el2, el3, el4, el5, el6, el7]; omega), _, rfl, _, _, rfl, rfl, (by simp only [len2, S_len, el0, el1, el2, el3, el4, el5, el6, el7]; omega), _, _, rfl, rfl, (by simp only [len2, S_len, el0, el1, el2, el3, el4, el5, el6, el7]; omega), by show 3 ≤ sizeLine; decide, fun L hL => ?_⟩
    have s1 := same_new hL (.lst [V.str "0", V.str "-1", V.str "-1/2"])
    have e1 : upd H L (.lst [V.str "0", V.str "-1", V.str "-1/2"]) L = some (.lst [V.str "0", V.str "-1", V.str "-1/2"]) := upd_same
    generalize upd H L (.lst [V.str "0", V.str "-1", V.str "-1/2"]) = H1 at s1 e1 ⊢
    obtain ⟨t, et, t32, tl, pz, wrz, oz⟩ : ∃ t : List Nat, atI [V.str "0", V.str "-1", V.str "-1/2"] (wy - 13) = some (.str (S t)) ∧ 32 ∉ t ∧ t.length ≤ 20 ∧ ∃ p, Wr p t ∧ okz .pc (some p) = false := by
      have : wy - 13 = 0 ∨ wy - 13 = 1 ∨ wy - 13 = 2 := by simp only [decide_eq_true_eq] at h13; omega
      rcases this with h | h | h
      · rw [h]; exact ⟨[48], by rw [show ("0" : Str) = S [48] by decide +kernel, show ("-1" : Str) = S [45, 49] by decide +kernel, show ("-1/2" : Str) = S [45, 49, 47, 50] by decide +kernel]; rfl, by decide, by decide, _, wz1, by decide⟩
      · rw [h]; exact ⟨[45, 49], by rw [show ("0" : Str) = S [48] by decide +kernel, show ("-1" : Str) = S [45, 49] by decide +kernel, show ("-1/2" : Str) = S [45, 49, 47, 50] by decide +kernel]; rfl, by decide, by decide, _, wz2, by decide⟩
      · rw [h]; exact ⟨[45, 49, 47, 50], by rw [show ("0" : Str) = S [48] by decide +kernel, show ("-1" : Str) = S [45, 49] by decide +kernel, show ("-1/2" : Str) = S [45, 49, 47, 50] by decide +kernel]; rfl, by decide, by decide, _, wz3, by decide⟩
    refine ⟨_, rfl, _, _, rfl, rfl, L, _, _, _, rfl, rfl, SqL.of e1, et, _, _, rfl, rfl, (by simp only [len2, S_len, el0, el1, el2, el3, el4, el5, el6, el7]; omega), by show 2 ≤ sizeLine; decide, fun tt htt => ?_⟩
    exact q tt _ .z _ (s1.trans (same_new htt _)) upd_same (bt8 ha hb t32 tl wrz oz)
end
end K82

set_option Elab.async false
set_option linter.all false
set_option maxRecDepth 100000
set_option maxHeartbeats 4000000
namespace K82
open PySem L2 Tx
section
variable {P : Program} {w : World} {K : PySem.W.Frag} {mg : Str → Option Value} {base : Heap} {f g1 g2 g3 g4 g5 g6 g7 g8 : Addr} {fd gd1 gd2 gd3 gd4 gd5 gd6 gd7 gd8 : FuncData} {CX : CXT}
variable {CR : Addr} {CK : Kd → Addr} {fW fJ fT fS : Kd → Addr} {fdW fdJ fdT fdS : Kd → FuncData}
theorem Yd.upd {CY CP : Addr} {K : PySem.W.Frag} {av : List Addr} {H : Hp} {y l0 : Addr} {ls : List Str} {ds : List RD} {ys : List V} {o : HO} (hl0 : H l0 = some (.lst ys)) (h0 : l0 ∈ av) (h : Yd CY CP K av H y ls ds) : Yd CY CP K av (upd H l0 o) y ls ds := by
  obtain ⟨dy, g, d, l, t, p, es, a, ⟨⟨dg, b⟩, hl, ht, hp, n1, n2, n3⟩, c, e, x1, x2, x3, x4⟩ := h
  refine ⟨dy, g, d, l, t, p, es, ?_, ⟨⟨dg, ?_⟩, ?_, ?_, ?_, n1, n2, n3⟩, Rts.upd hl0 c, e, x1, x2, x3, fun b hb z => ?_⟩
  · rw [upd_ne (ne_of a hl0 (fun z => by cases z))]; exact a
  · rw [upd_ne (ne_of b hl0 (fun z => by cases z))]; exact b
  · rw [upd_ne (fun z => x1 (by rw [z]; exact h0))]; exact hl
  · rw [upd_ne (fun z => x2 (by rw [z]; exact h0))]; exact ht
  · rw [upd_ne (fun z => x3 (by rw [z]; exact h0))]; exact hp
  · by_cases hbl : b = l0
    · rw [hbl, upd_same] at z; cases z
    · rw [upd_ne hbl] at z; exact x4 b hb z
theorem Lrs.upd {K : PySem.W.Frag} {H : Hp} {l0 : Addr} {ys : List V} {o : HO} (hl0 : H l0 = some (.lst ys)) : ∀ {xs : List V} {rs : List LD}, Lrs K H xs rs → Lrs K (L2.upd H l0 o) xs rs
  | _, _, .nil => .nil
  | _, _, .cons h f r => .cons ((SameX.write (fun b o h _ => h)).seqT hl0 h) ((SameX.write (fun b o h _ => h)).seqT hl0 f) (Lrs.upd hl0 r)
theorem at3 {r : Int} (h0 : 0 ≤ r) (h3 : r < 3) : ∃ k : Kd, atI [V.str "piece", .str "push", .str "hold"] r = some (.str k.wd) := by
  have : r = 0 ∨ r = 1 ∨ r = 2 := by omega
  rcases this with rfl | rfl | rfl
  · exact ⟨.pc, rfl⟩
  · exact ⟨.pu, rfl⟩
  · exact ⟨.ho, rfl⟩
theorem cut40 (xs : List V) : (cutV xs (some 1) (some 41)).length ≤ 40 := by
  unfold cutV
  have h1 : HT.sIx xs.length xs.length (some 41) = min 41 xs.length := by simp [HT.sIx]
  have h2 : HT.sIx xs.length 0 (some 1) = min 1 xs.length := by simp [HT.sIx]
  rw [h1, h2]
  simp
  omega
theorem lput_nd {ls : List Str} (h : ls.Nodup) (x : Str) : (lput ls x).Nodup := by
  unfold lput
  by_cases c : x ∈ ls
  · rw [if_pos c]; exact h
  · rw [if_neg c]
    exact List.nodup_append.mpr ⟨h, by simp, fun a ha b hb => by
      have : b = x := by simpa using hb
      rw [this]
      intro z
      exact c (by rw [← z]; exact ha)⟩
theorem lput_mem {ls : List Str} {x y : Str} (h : y ∈ lput ls x) : y ∈ ls ∨ y = x := by
  unfold lput at h
  by_cases c : x ∈ ls
  · rw [if_pos c] at h; exact .inl h
  · rw [if_neg c] at h
    rcases List.mem_append.mp h with z | z
    · exact .inl z
    · exact .inr (by simpa using z)
theorem nm_lay {cs : List Nat} (h : nmB cs = true) : PyData.canLay0 (.str (S cs)) = true := by
  unfold nmB at h
  rw [Bool.and_eq_true] at h
  show (S cs).cps.all (fun c => decide (c < 0x110000)) = true
  rw [← Array.all_toList, S_list, List.all_eq_true]
  intro c hc
  have := of_decide_eq_true (List.all_eq_true.mp h.2 c hc)
  exact decide_eq_true (by omega)
def Nm20 (c : Int) (x : Str) : Prop := ∃ k : Nat, k < 20 ∧ x = nmS c (k : Int)
theorem nm_count {c : Int} {ls : List Str} (nd : ls.Nodup) (h : ∀ x ∈ ls, Nm20 c x) : ls.length ≤ 20 := by
  have := List.Nodup.length_le_of_subset (l₂ := (List.range 20).map fun (k : Nat) => nmS c (k : Int)) nd (fun x hx => by
    obtain ⟨k, hk, e⟩ := h x hx
    exact List.mem_map.mpr ⟨k, List.mem_range.mpr hk, e.symm⟩)
  simpa using this
theorem nm20_ok {c : Int} {x : Str} (h : Nm20 c x) : ∃ cs, x = S cs ∧ nmB cs = true := by
  obtain ⟨k, hk, rfl⟩ := h
  exact nm_ok (by omega) (by omega)
theorem shw_32 (p : Mq.Q2) : 32 ∉ shw p := by
  have h : ∀ i : Int, 32 ∉ itx i := fun i => by
    unfold itx
    split
    · intro z
      rcases List.mem_cons.mp z with z | z
      · cases z
      · exact dg_no (by decide) z
    · exact dg_no (by decide)
  unfold shw
  split
  · exact h _
  · intro z
    rcases List.mem_append.mp z with z | z
    · exact h _ z
    · rcases List.mem_cons.mp z with z | z
      · cases z
      · exact h _ z
theorem shw_len {p : Mq.Q2} (h : Mq.Bd 50 p) : (shw p).length ≤ 40 := by
  have k : ∀ n : Nat, n < 2 ^ 50 → n < 10 ^ 16 := fun n hn => Nat.lt_trans hn (by decide)
  have g : ∀ i : Int, i.natAbs < 2 ^ 50 → (itx i).length ≤ 17 := fun i hi => by
    have := (dg_len (m := i.natAbs) (k := 16) (by decide)).mpr (k _ hi)
    unfold itx
    split
    · rw [List.length_cons]; omega
    · omega
  have a := g p.1 h.a
  have b := g p.2 h.b
  unfold shw
  split
  · omega
  · rw [List.length_append, List.length_cons]; omega
theorem good_wr {k : Kd} {p : Mq.Q2} (h : GoodZ k p) : Wr p (shw p) := by
  have k1 : ∀ n : Nat, n < 2 ^ 50 → n < 10 ^ 200 := fun n hn => Nat.lt_of_lt_of_le (Nat.lt_trans hn (show 2 ^ 50 < 10 ^ 16 by decide)) (Nat.pow_le_pow_right (by decide) (by decide))
  exact ⟨h.1, rfl, k1 _ h.2.2.a, k1 _ h.2.2.b⟩
theorem good_okz {k : Kd} {p : Mq.Q2} (h : GoodZ k p) : okz k (some p) = true := by
  cases k
  · exact decide_eq_true (h.2.1 rfl)
  · rfl
  · rfl
theorem kd_32 (k : Kd) : 32 ∉ k.wd.cps.toList ∧ k.wd.cps.toList.length ≤ 10 := by cases k <;> exact ⟨by decide +kernel, by decide +kernel⟩
theorem row_is (k : Kd) (a b t : List Nat) : k.wd ++ " " ++ S a ++ " " ++ S b ++ " " ++ S t = S (jnc 32 [k.wd.cps.toList, a, b, t]) := by
  rw [show (" " : Str) = S [32] by decide +kernel]
  conv => lhs; rw [S_self k.wd]
  simp only [S_app]
  congr 1
  simp [jnc]
theorem good_tell {CY CP y : Addr} {cl : Ek → Addr} {K : PySem.W.Frag} {H : Hp} {Q : VK} {E : XK} {k : Kd} {p : Mq.Q2} {a b : List Nat} {ls : List Str} {ds : List RD} {av : List Addr} (yd : Yd CY CP K av H y ls ds) (h20 : ls.length ≤ 20) (h40 : ds.length < 40) (ha : nmB a = true) (hb : nmB b = true) (l20 : (lp2 ls a b).length ≤ 20) (gz : GoodZ k p)
    (q : ∀ (i j : Nat) H', SameX y H H' → (lp2 ls a b)[i]? = some (S a) → (lp2 ls a b)[j]? = some (S b) → Yd CY CP K av H' y (lp2 ls a b) (ds ++ [(k, (i : Int), (j : Int), p)]) → Q .non H') :
    spTellX CY CP (cl .m) (cl .u) (cl .z) (cl .r) K [.ref y, .str (S (jnc 32 [k.wd.cps.toList, a, b, shw p]))] H Q E := by
  obtain ⟨a32, al⟩ := nm_32 ha
  obtain ⟨b32, bl⟩ := nm_32 hb
  obtain ⟨k32, kl⟩ := kd_32 k
  have sl := shw_len gz.2.2
  have wr := good_wr gz
  have nn : (nmB a && nmB b) = true := by rw [ha, hb]; rfl
  refine ⟨y, _, rfl, .inr (.inr ⟨av, ls, ds, k, _, a, b, _, rfl, (S_self _).symm, k32, a32, b32, shw_32 p, by omega, yd, h20, h40, by omega, by omega, by omega, fun p' w' => ?_, ⟨fun z => absurd (z.symm.trans nn) (by decide), fun _ no => absurd ⟨p, wr⟩ no, fun _ p' w' no => ?_, fun _ p' w' _ => ?_⟩⟩)⟩
  · rw [wr_uni w' wr]; exact gz.2.2.mono (by omega)
  · rw [wr_uni w' wr, good_okz gz] at no; cases no
  · rw [wr_uni w' wr]; exact ⟨l20, q⟩
def spLaw (K : PySem.W.Frag) : Sp := fun vs H Q _ => ∃ (a : Addr) (ns : List Int), vs = [.ref a] ∧ SqL K H a (ns.map V.int) ∧ ns.length ≤ 63 ∧ ∀ H', Q (.bl true) H'
end
end K82

set_option Elab.async false
set_option linter.all false
set_option maxRecDepth 100000
set_option maxHeartbeats 4000000
namespace K82
open PySem L2 Tx
section
variable {P : Program} {w : World} {K : PySem.W.Frag} {mg : Str → Option Value} {base : Heap} {f g1 g2 g3 g4 g5 g6 g7 g8 g9 : Addr} {fd gd1 gd2 gd3 gd4 gd5 gd6 gd7 gd8 gd9 : FuncData} {CX : CXT}
variable {CR : Addr} {CK : Kd → Addr} {fW fJ fT fS : Kd → Addr} {fdW fdJ fdT fdS : Kd → FuncData}
theorem insL {K : PySem.W.Frag} {H H' : Hp} {y C dx : Addr} {fs : List (Str × V)} (hy : H y = some (.ins C dx fs)) (e : SameX y H H') : ∀ {xs : List V} {rs : List LD}, Lrs K H xs rs → Lrs K H' xs rs
  | _, _, .nil => .nil
  | _, _, .cons a b c => .cons (insT hy e a) (insT hy e b) (insL hy e c)
structure LS (CY CP : Addr) (K : PySem.W.Frag) (c : Int) (H0 : Hp) (y nm rw : Addr) (H : Hp) (ls : List Str) (ds : List RD) (rs : List LD) (us : List V) : Prop where
  s : Same H0 H
  yd : Yd CY CP K [nm, rw] H y ls ds
  hn : H nm = some (.lst (ls.map V.str))
  hr : H rw = some (.lst us)
  lr : Lrs K H us rs
  mt : Mts ls ds rs
  ok : NmOk ls
  n20 : ∀ x ∈ ls, Nm20 c x
  e : ls = [] → ds = []
theorem LS.same {CY CP : Addr} {K : PySem.W.Frag} {c : Int} {H0 : Hp} {y nm rw : Addr} {H H' : Hp} {ls : List Str} {ds : List RD} {rs : List LD} {us : List V} (s : Same H H') (h : LS CY CP K c H0 y nm rw H ls ds rs us) : LS CY CP K c H0 y nm rw H' ls ds rs us :=
  ⟨h.s.trans s, h.yd.same s, s _ _ h.hn, s _ _ h.hr, h.lr.same s, h.mt, h.ok, h.n20, h.e⟩
abbrev sLaw : Stmt := top 63
theorem scLaw : FnScope ["_law_script", "_law_cell", "_law_many", "_law_yard", "_law_names", "_law_rows", "_law_number", "_law_word", "_law_one", "_law_other", "_law_bad_here", "_law_due", "_law_size_here", "_law_name_here"] ["_law_script"] (defScope sLaw) := ⟨rfl, rfl, rfl, by decide +kernel, rfl, by decide +kernel, by decide +kernel⟩
theorem ok_law {dV : Value} (F : FunD K "law" "law" sLaw dV f fd)
    {CY CP : Addr} {cl : Ek → Addr} (YTx : YaT K mg CY) (b : Bl mg)
    {gYI : Addr} {gdYI : FuncData} (GYI : FnOk P w K mg base CX0 3 gYI gdYI ["self"] (spYInit CY CP)) (bYI : Binds K gdYI ["self"] []) (MY : Mk K CY gYI)
    (G1 : FnOk P w K mg base CX0 1 g1 gd1 ["_law_script", "_law_k"] (spPick K)) (b1 : Binds K gd1 ["_law_script", "_law_k"] []) (k1 : PySem.W.keepIn K (.ref g1) = true) (m1 : mg "_law_pick" = some (.ref g1))
    (G2 : FnOk P w K mg base CX0 1 g2 gd2 ["_law_cell", "_law_prime", "_law_many"] spMix) (b2 : Binds K gd2 ["_law_cell", "_law_prime", "_law_many"] []) (k2 : PySem.W.keepIn K (.ref g2) = true) (m2 : mg "_law_mix" = some (.ref g2))
    (G3 : FnOk P w K mg base CX0 9 g3 gd3 ["_law_yard", "_law_names", "_law_rows"] (spLook CY CP K)) (b3 : Binds K gd3 ["_law_yard", "_law_names", "_law_rows"] []) (k3 : PySem.W.keepIn K (.ref g3) = true) (m3 : mg "_law_look" = some (.ref g3))
    (G4 : FnOk P w K mg base CX0 7 g4 gd4 ["_law_yard", "_law_row"] (spToldL CY CP cl K)) (b4 : Binds K gd4 ["_law_yard", "_law_row"] []) (k4 : PySem.W.keepIn K (.ref g4) = true) (m4 : mg "_law_told" = some (.ref g4))
    (G5 : FnOk P w K mg base CX0 2 g5 gd5 ["_law_k", "_law_cell"] spNameL) (b5 : Binds K gd5 ["_law_k", "_law_cell"] []) (k5 : PySem.W.keepIn K (.ref g5) = true) (m5 : mg "_law_name" = some (.ref g5))
    (G6 : FnOk P w K mg base CX0 2 g6 gd6 ["_law_cell", "_law_one", "_law_other"] spBad) (b6 : Binds K gd6 ["_law_cell", "_law_one", "_law_other"] []) (k6 : PySem.W.keepIn K (.ref g6) = true) (m6 : mg "_law_bad" = some (.ref g6))
    (G7 : FnOk P w K mg base CX0 2 g7 gd7 ["_law_cell", "_law_word"] spSize) (b7 : Binds K gd7 ["_law_cell", "_law_word"] []) (k7 : PySem.W.keepIn K (.ref g7) = true) (m7 : mg "_law_size" = some (.ref g7))
    (G8 : FnOk P w K mg base CX0 1 g8 gd8 ["_law_size_here"] (spShow K)) (b8 : Binds K gd8 ["_law_size_here"] []) (k8 : PySem.W.keepIn K (.ref g8) = true) (m8 : mg "_law_shown" = some (.ref g8)) :
    FnOk P w K mg base CX 10 f fd ["_law_script"] (spLaw K) := by
  refine F.ok scLaw (fun vs H Q E h => ?_) (fun cdv A outer s H vs Q E hr h => ?_)
  · obtain ⟨a, ns, rfl, hS, h63, q⟩ := h
    rfl
  obtain ⟨a, ns, rfl, hS, h63, q⟩ := h
  have hz : sizeLine = 16777216 := sizeLine_eq
  have r1 := hr.mono (show 1 ≤ 9 by omega)
  have r2 := hr.mono (show 2 ≤ 9 by omega)
  have r4 := hr.mono (show 4 ≤ 9 by omega)
  have r7 := hr.mono (show 7 ≤ 9 by omega)
  refine ⟨_, (pss_cons (ps_set (i := 1) scLaw.nd rfl (Or.inl rfl) (pe_call G1 r1 rfl m1 k1 b1 .nil pass0 (pa_cons (pv 0) (pa_cons pe_int pa_nil))))
    (pss_cons (ps_set (i := 2) scLaw.nd rfl (Or.inl rfl) (pe_op op_add pe_int (pe_call G2 r1 rfl m2 k2 b2 .nil pass0 (pa_cons (pv 1) (pa_cons pe_int (pa_cons pe_int pa_nil))))))
    (pss_cons (ps_set (i := 3) scLaw.nd rfl (Or.inl rfl) (pe_make0 MY GYI r4 rfl YTx.mY bYI .nil pass0))
    (pss_cons (ps_set (i := 4) scLaw.nd rfl (Or.inl rfl) (pe_lst pa_nil))
    (pss_cons (ps_set (i := 5) scLaw.nd rfl (Or.inl rfl) (pe_lst pa_nil))
    (pss_cons (ps_if (PW.pt (pw_or (pt_not (pt_val (pe_call G3 hr rfl m3 k3 b3 .nil pass0 (pa_cons (pv 3) (pa_cons (pv 4) (pa_cons (pv 5) pa_nil)))))) (pw_or (pt_cmpR op_ne (pe_call G4 r7 rfl m4 k4 b4 .nil pass0 (pa_cons (pv 3) (pa_cons pe_non pa_nil))) pe_str (nomark _)) (pw_or1 (pt_cmpR op_ne (pe_call G4 r7 rfl m4 k4 b4 .nil pass0 (pa_cons (pv 3) (pa_cons pe_str pa_nil))) pe_str (nomark _)))))) (pss_one (ps_ret pe_bl)) pss_nil)
    (pss_cons (ps_for PassesOwn.never rfl (pi_list (pe_slice sl_list (pv 0) (po_some pe_int) (po_some pe_int))) (pg_name (i := 6) scLaw.nd rfl (Or.inl rfl))
      (pss_cons (ps_set (i := 7) scLaw.nd rfl (Or.inl rfl) (pe_ix ix_list (pe_lst (pa_cons pe_str (pa_cons pe_str (pa_cons pe_str pa_nil)))) (pe_call G2 r1 rfl m2 k2 b2 .nil pass0 (pa_cons (pv 6) (pa_cons pe_int (pa_cons pe_int pa_nil)))) (fun _ _ => rfl)))
    (pss_cons (ps_set (i := 8) scLaw.nd rfl (Or.inl rfl) (pe_call G5 r2 rfl m5 k5 b5 .nil pass0 (pa_cons (pe_call G2 r1 rfl m2 k2 b2 .nil pass0 (pa_cons (pv 6) (pa_cons pe_int (pa_cons (pv 2) pa_nil)))) (pa_cons (pv 1) pa_nil))))
    (pss_cons (ps_set (i := 9) scLaw.nd rfl (Or.inl rfl) (pe_call G5 r2 rfl m5 k5 b5 .nil pass0 (pa_cons (pe_call G2 r1 rfl m2 k2 b2 .nil pass0 (pa_cons (pv 6) (pa_cons pe_int (pa_cons (pv 2) pa_nil)))) (pa_cons (pv 1) pa_nil))))
    (pss_cons (ps_if (pt_cmpR op_eq (pe_call G2 r1 rfl m2 k2 b2 .nil pass0 (pa_cons (pv 6) (pa_cons pe_int (pa_cons pe_int pa_nil)))) pe_int (nomark _)) (pss_cons (ps_asg (pe_call G6 r2 rfl m6 k6 b6 .nil pass0 (pa_cons (pv 6) (pa_cons (pv 8) (pa_cons (pv 9) pa_nil)))) (pg_tup rfl (pgs_cons (pg_name (i := 10) scLaw.nd rfl (Or.inl rfl)) (pgs_cons (pg_name (i := 11) scLaw.nd rfl (Or.inl rfl)) pgs_nil))))
    (pss_cons (ps_if (pt_cmpR op_ne (pe_call G4 r7 rfl m4 k4 b4 .nil pass0 (pa_cons (pv 3) (pa_cons (pv 10) pa_nil))) (pv 11) (nomark _)) (pss_one (ps_ret pe_bl)) pss_nil)
    (pss_one (ps_if (PW.pt (pw_and (pt_cmpR op_eq (pe_call G2 r1 rfl m2 k2 b2 .nil pass0 (pa_cons (pv 6) (pa_cons pe_int (pa_cons pe_int pa_nil)))) pe_int (nomark _)) (pw_and1 (pt_not (pt_val (pe_call G3 hr rfl m3 k3 b3 .nil pass0 (pa_cons (pv 3) (pa_cons (pv 4) (pa_cons (pv 5) pa_nil))))))))) (pss_one (ps_ret pe_bl)) pss_nil)))) pss_nil)
    (pss_cons (ps_set (i := 12) scLaw.nd rfl (Or.inl rfl) (pe_call G7 r2 rfl m7 k7 b7 .nil pass0 (pa_cons (pv 6) (pa_cons (pv 7) pa_nil))))
    (pss_cons (ps_if (pt_cmpR op_ne (pe_call G4 r7 rfl m4 k4 b4 .nil pass0 (pa_cons (pv 3) (pa_cons (pe_op op_add_str (pe_op op_add_str (pe_op op_add_str (pe_op op_add_str (pe_op op_add_str (pe_op op_add_str (pv 7) pe_str) (pv 8)) pe_str) (pv 9)) pe_str) (pe_call G8 r1 rfl m8 k8 b8 .nil pass0 (pa_cons (pv 12) pa_nil))) pa_nil))) pe_str (nomark _)) (pss_one (ps_ret pe_bl)) pss_nil)
    (pss_cons (ps_for PassesOwn.never rfl (pi_list (pe_lst (pa_cons (pv 8) (pa_cons (pv 9) pa_nil)))) (pg_name (i := 13) scLaw.nd rfl (Or.inl rfl))
      (pss_one (ps_if (pt_cmpR op_notIn_seq (pv 13) (pv 4) rfl) (pss_one (ps_expr (pe_bm PySem.F.plainAttrs_list PySem.F.slot_list_append PySem.F.type_list_append mt_append (pv 4) (pa_cons (pv 13) pa_nil)))) pss_nil)))
    (pss_one (ps_expr (pe_bm PySem.F.plainAttrs_list PySem.F.slot_list_append PySem.F.type_list_append mt_append (pv 5) (pa_cons (pe_tup (pa_cons (pv 7) (pa_cons (pv 8) (pa_cons (pv 9) (pa_cons (pv 12) pa_nil))))) pa_nil))))))))))))
    (pss_one (ps_ret (pe_and (pe_call G3 hr rfl m3 k3 b3 .nil pass0 (pa_cons (pv 3) (pa_cons (pv 4) (pa_cons (pv 5) pa_nil)))) (pe_one (pe_call G3 hr rfl m3 k3 b3 .nil pass0 (pa_cons (pv 3) (pa_cons (pv 4) (pa_cons (pv 5) pa_nil))))))))))))))), ?_⟩
  refine ⟨_, rfl, a, ns, 0, 0, rfl, rfl, hS, h63, fun H1 s1 => ?_⟩
  generalize pickN ns 0 = c
  refine ⟨_, rfl, c, 40692, 20, rfl, by decide, by decide, by decide, fun mm m0 m20 => ⟨_, _, rfl, rfl, ?_⟩⟩
  show gName 2 (.int (1 + mm)) _ _ _
  obtain ⟨m, hm⟩ : ∃ m, 1 + mm = m := ⟨_, rfl⟩
  rw [hm]
  have hm1 : 1 ≤ m := by omega
  have hm2 : m ≤ 20 := by omega
  clear hm
  intro y dy h1 h2 ne
  refine ⟨y, dy, rfl, upd_same, fun g l t p d H2 keep hy PA hd => ⟨rfl, ?_⟩⟩
  have s2 : Same H1 H2 := fun b o h => keep b o (by rw [upd_ne (ne_of_none h h1), upd_ne (ne_of_none h h2)]; exact h) (ne_of_none h h1)
  clear keep
  refine ⟨by show 0 ≤ sizeLine; decide, fun nm hnm => ?_⟩
  have s3 := same_new hnm (.lst [])
  have e3 : upd H2 nm (.lst []) nm = some (.lst []) := upd_same
  generalize upd H2 nm (.lst []) = H3 at s3 e3 ⊢
  refine ⟨by show 0 ≤ sizeLine; decide, fun rw hrw => ?_⟩
  have s4 := same_new hrw (.lst [])
  have e4 : upd H3 rw (.lst []) rw = some (.lst []) := upd_same
  generalize upd H3 rw (.lst []) = H4 at s4 e4 ⊢
  have s04 := s1.trans (s2.trans (s3.trans s4))
  have PA4 := PA.same (s3.trans s4)
  have st0 : LS CY CP K c H y nm rw H4 [] [] [] [] := ⟨s04, ⟨dy, g, d, l, t, p, [], (s3.trans s4) _ _ hy, PA4, .nil, fun x hx => (by cases hx), by
      simp only [List.mem_cons, List.not_mem_nil, or_false, not_or]; exact ⟨ne_of_none PA.hl hnm, ne_of_none (s3 _ _ PA.hl) hrw⟩, by
      simp only [List.mem_cons, List.not_mem_nil, or_false, not_or]; exact ⟨ne_of_none PA.ht hnm, ne_of_none (s3 _ _ PA.ht) hrw⟩, by
      simp only [List.mem_cons, List.not_mem_nil, or_false, not_or]; exact ⟨ne_of_none PA.hp hnm, ne_of_none (s3 _ _ PA.hp) hrw⟩, fun x hx z => by
      simp only [List.mem_cons, List.not_mem_nil, or_false] at hx
      rcases hx with rfl | rfl
      · rw [s4 _ _ e3] at z; cases z
      · rw [e4] at z; cases z⟩, s4 _ _ e3, e4, .nil, ⟨rfl, fun i d r h => by simp at h⟩, ⟨List.nodup_nil, fun x hx => by cases hx⟩, (fun x hx => by cases hx), fun _ => rfl⟩
  have nnr : nm ≠ rw := ne_of_none e3 hrw
  have hy0 : H y = none := by
    cases o : H y with
    | none => rfl
    | some o' => rw [s1 _ _ o] at h1; cases h1
  have hnm0 : H nm = none := by
    cases o : H nm with
    | none => rfl
    | some o' => rw [(s1.trans s2) _ _ o] at hnm; cases hnm
  have hrw0 : H rw = none := by
    cases o : H rw with
    | none => rfl
    | some o' => rw [(s1.trans (s2.trans s3)) _ _ o] at hrw; cases hrw
  clear PA4 PA hd hy
  refine ⟨_, rfl, _, rfl, _, rfl, [nm, rw], y, nm, rw, [], [], [], [], rfl, st0.yd, SqL.of st0.hn, SqL.of st0.hr, st0.lr, st0.mt, st0.ok, by decide, by decide, st0.e, fun H5 s5 => ⟨_, rfl, iteF ?_⟩⟩
  have st5 := st0.same s5
  obtain ⟨dy5, g5, d5, _, _, _, _, hy5, _⟩ := id st5.yd
  refine ⟨_, rfl, y, .non, rfl, ⟨dy5, g5, d5, hy5⟩, ⟨y, _, rfl, .inl ⟨⟨_, .of .non, by with_unfolding_all rfl⟩, .r, rfl, rfl, fun H6 s6 => ⟨rfl, _, rfl, L2.ifF (by rw [decide_eq_true (show V.str Ek.r.wd = V.str "row" from rfl)]; rfl) ?_⟩⟩⟩⟩
  have st6 := st5.same s6
  refine ⟨_, rfl, y, .str "", rfl, ⟨dy5, g5, d5, s6 _ _ hy5⟩, ⟨y, _, rfl, .inr (.inl ⟨[], [], by rw [show ("" : Str) = S [] by decide +kernel]; rfl, by simp, by decide, by decide, ⟨by decide +kernel, by decide +kernel, by decide +kernel⟩, by decide +kernel, fun H7 s7 => ⟨.r, rfl, rfl, fun H8 s8 => ⟨rfl, _, rfl, L2.ifF (by rw [decide_eq_true (show V.str Ek.r.wd = V.str "row" from rfl)]; rfl) ?_⟩⟩⟩)⟩⟩
  have st8 := st6.same (s7.trans s8)
  refine ⟨_, rfl, 1, rfl, 41, rfl, a, _, rfl, st8.s.seq hS, fun C hC => ?_⟩
  have c40 := cut40 (ns.map V.int)
  obtain ⟨ms, em⟩ := cut_intsN ns (some 1) (some 41)
  rw [em] at c40 ⊢
  rw [List.length_map] at c40
  have s9 := same_new hC (.lst (ms.map V.int))
  have eC : upd H8 C (.lst (ms.map V.int)) C = some (.lst (ms.map V.int)) := upd_same
  have nCn : C ≠ nm := Ne.symm (ne_of_none st8.hn hC)
  have nCr : C ≠ rw := Ne.symm (ne_of_none st8.hr hC)
  generalize upd H8 C (.lst (ms.map V.int)) = H9 at s9 eC ⊢
  have st9 := st8.same s9
  refine ⟨C, rfl, ⟨_, SqL.of eC⟩, ?_⟩
  refine for_list (xs := ms.map V.int) (fun i σ H' => H' C = some (.lst (ms.map V.int)) ∧ ∃ (ls : List Str) (ds : List RD) (rs : List LD) (us : List V) (z6 z7 z8 z9 z10 z11 z12 z13 : Option V), σ = [some (.ref a), some (.int c), some (.int m), some (.ref y), some (.ref nm), some (.ref rw), z6, z7, z8, z9, z10, z11, z12, z13] ∧ LS CY CP K c H y nm rw H' ls ds rs us ∧ ds.length = i) ⟨eC, [], [], [], [], none, none, none, none, none, none, none, none, rfl, st9, rfl⟩ (fun i σ H' _ h => SqL.of h.1) ?_ ?_
  · rintro i x σ Ha hx ⟨eCa, ls, ds, rs, us, z6, z7, z8, z9, z10, z11, z12, z13, rfl, st, hlen⟩
    have hi : i < 40 := by
      have := (List.getElem?_eq_some_iff.mp hx).1
      rw [List.length_map] at this
      omega
    obtain ⟨v, rfl⟩ : ∃ v, x = .int v := by
      rw [List.getElem?_map] at hx
      obtain ⟨v, _, rfl⟩ := Option.map_eq_some_iff.mp hx
      exact ⟨v, rfl⟩
    have l20 := nm_count st.ok.nd st.n20
    refine ⟨by show 3 ≤ sizeLine; decide, fun L hL => ?_⟩
    have sb := same_new hL (.lst [V.str "piece", .str "push", .str "hold"])
    have eb : upd Ha L (.lst [V.str "piece", .str "push", .str "hold"]) L = some (.lst [V.str "piece", .str "push", .str "hold"]) := upd_same
    generalize upd Ha L (.lst [V.str "piece", .str "push", .str "hold"]) = Hb at sb eb ⊢
    refine ⟨_, rfl, v, 48271, 3, rfl, by decide, by decide, by decide, fun r r0 r3 => ?_⟩
    obtain ⟨k, ek⟩ := at3 r0 r3
    refine ⟨L, _, r, _, rfl, rfl, SqL.of eb, ek, ?_⟩
    refine ⟨_, rfl, _, rfl, v, 69621, m, rfl, by decide, by decide, by omega, fun q1 q10 q1m => ⟨_, rfl, q1, c, rfl, by omega, by omega, ?_⟩⟩
    have n1 : Nm20 c (nmS c q1) := ⟨q1.toNat, by omega, by rw [show ((q1.toNat : Nat) : Int) = q1 by omega]⟩
    obtain ⟨a1, ea1, na1⟩ := nm20_ok n1
    rw [ea1] at n1 ⊢
    refine ⟨_, rfl, _, rfl, v, 16807, m, rfl, by decide, by decide, by omega, fun q2 q20 q2m => ⟨_, rfl, q2, c, rfl, by omega, by omega, ?_⟩⟩
    have n2 : Nm20 c (nmS c q2) := ⟨q2.toNat, by omega, by rw [show ((q2.toNat : Nat) : Int) = q2 by omega]⟩
    obtain ⟨b1', eb1, nb1⟩ := nm20_ok n2
    rw [eb1] at n2 ⊢
    clear ea1 eb1
    have stb := st.same sb
    have eCb := sb _ _ eCa
    refine (fun (hrest : ∀ (y10 y11 : Option V) (Hx : Hp), Same Hb Hx → PySem.W.KIN.Hid ((?T : Option V → Option V → Hp → Prop) y10 y11 Hx)) => ?main) ?rest
    case main =>
      refine ⟨_, rfl, v, 44488, 3, rfl, by decide, by decide, by decide, fun w0 w00 w03 => ⟨rfl, _, rfl, ite2 (fun _ => ?_) (fun _ => ?_)⟩⟩
      · refine ⟨_, rfl, _, rfl, _, rfl, v, a1, b1', rfl, na1, nb1, fun tt xx ee Hc sc ec bad => ?_⟩
        refine ⟨tt, _, rfl, SqT.of ec, rfl, _, _, rfl, _, _, rfl, rfl, ?_⟩
        have stc := stb.same sc
        obtain ⟨dyc, gc, dc, _, _, _, _, hyc, _⟩ := id stc.yd
        refine ⟨_, rfl, _, rfl, y, .str xx, rfl, ⟨dyc, gc, dc, hyc⟩, bad_tell stc.yd l20 (by omega) bad (fun Hd sd => ⟨ee, rfl, rfl, fun He se => ⟨_, rfl, rfl, _, rfl, L2.ifF (by simp) ?_⟩⟩)⟩
        have ste := stc.same (sd.trans se)
        refine ⟨_, rfl, v, 21701, 4, rfl, by decide, by decide, by decide, fun u0 u00 u04 => ⟨rfl, _, rfl, ite2 (fun _ => ?_) (fun _ => ?_)⟩⟩
        · refine ⟨_, rfl, _, rfl, _, rfl, [nm, rw], y, nm, rw, ls, ds, rs, us, rfl, ste.yd, SqL.of ste.hn, SqL.of ste.hr, ste.lr, ste.mt, ste.ok, l20, by omega, ste.e, fun Hf sf => ⟨_, rfl, iteF ?_⟩⟩
          show tSeq _ _ _ [some (.ref a), some (.int c), some (.int m), some (.ref y), some (.ref nm), some (.ref rw), some (.int v), some (.str k.wd), some (.str (S a1)), some (.str (S b1')), some (.str xx), some (.str ee.wd), z12, z13] Hf
          generalize (some (V.str xx) : Option V) = y10
          generalize (some (V.str ee.wd) : Option V) = y11
          exact (hrest y10 y11 Hf (sc.trans (sd.trans (se.trans sf)))).out
        · refine iteF ?_
          show tSeq _ _ _ [some (.ref a), some (.int c), some (.int m), some (.ref y), some (.ref nm), some (.ref rw), some (.int v), some (.str k.wd), some (.str (S a1)), some (.str (S b1')), some (.str xx), some (.str ee.wd), z12, z13] He
          generalize (some (V.str xx) : Option V) = y10
          generalize (some (V.str ee.wd) : Option V) = y11
          exact (hrest y10 y11 He (sc.trans (sd.trans se))).out
      · show tSeq _ _ _ [some (.ref a), some (.int c), some (.int m), some (.ref y), some (.ref nm), some (.ref rw), some (.int v), some (.str k.wd), some (.str (S a1)), some (.str (S b1')), z10, z11, z12, z13] Hb
        exact (hrest z10 z11 Hb (Same.refl _)).out
    case rest =>
    intro y10 y11 Hc sc
    refine ⟨?_⟩
    have stc := stb.same sc
    have eCc := sc _ _ eCb
    refine ⟨_, rfl, _, rfl, v, k, rfl, fun p gz z Hd sd nz ez => ?_⟩
    have std := stc.same sd
    have eCd := sd _ _ eCc
    have fz : Fq K Hd z p := Fq.of ez
    have el0 : (" " : Str).length = 1 := by decide +kernel
    obtain ⟨a32, al⟩ := nm_32 na1
    obtain ⟨b32, bl⟩ := nm_32 nb1
    obtain ⟨_, kl⟩ := kd_32 k
    have kl : k.wd.length ≤ 10 := kl
    have sl := shw_len gz.2.2
    have bz := gz.2.2
    have lz : (S (shw p)).length ≤ 40 := by rw [S_len]; exact sl
    refine ⟨_, rfl, _, rfl, _, _, rfl, rfl, (by simp only [len2, S_len, el0]; omega), _, rfl, _, _, rfl, rfl, (by simp only [len2, S_len, el0]; omega), _, _, rfl, rfl, (by simp only [len2, S_len, el0]; omega), _, rfl, _, _, rfl, rfl, (by simp only [len2, S_len, el0]; omega), _, _, rfl, rfl, (by simp only [len2, S_len, el0]; omega), _, rfl, z, p, 50, rfl, fz, bz, by omega, _, _, rfl, rfl, (by simp only [len2, S_len, el0] at lz ⊢; omega), ?_⟩
    obtain ⟨dyd, gd', dd, _, _, _, _, hyd, _⟩ := id std.yd
    have ndl : (lp2 ls a1 b1').Nodup := lput_nd (lput_nd std.ok.nd _) _
    have n20' : ∀ x ∈ lp2 ls a1 b1', Nm20 c x := fun x hx => by
      rcases lput_mem hx with h | h
      · rcases lput_mem h with h | h
        · exact std.n20 x h
        · rw [h]; exact n1
      · rw [h]; exact n2
    have l20' := nm_count ndl n20'
    refine ⟨y, _, rfl, ⟨dyd, gd', dd, hyd⟩, ?_⟩
    rw [row_is]
    refine good_tell std.yd l20 (by omega) na1 nb1 l20' gz (fun ii jj He xe hii hjj yde => ⟨rfl, fun Hf sf => ⟨rfl, _, rfl, L2.ifF (by simp) ?_⟩⟩)
    have nyn : nm ≠ y := Ne.symm (ne_of hyd std.hn (fun z => by cases z))
    have nyr : rw ≠ y := Ne.symm (ne_of hyd std.hr (fun z => by cases z))
    have ydf := yde.same sf
    have hnf := sf _ _ (xe _ _ std.hn nyn)
    have hrf := sf _ _ (xe _ _ std.hr nyr)
    have nyC : C ≠ y := Ne.symm (ne_of hyd eCd (fun z => by cases z))
    have eCf := sf _ _ (xe _ _ eCd nyC)
    have lrf : Lrs K Hf us rs := (insL hyd xe std.lr).same sf
    have fzf : Fq K Hf z p := sf.fq (insT hyd xe fz)
    have sHf : Same H Hf := fun b o h => sf _ _ (xe _ _ (std.s _ _ h) (fun e => by rw [e, hy0] at h; cases h))
    show tSeq _ _ _ [some (.ref a), some (.int c), some (.int m), some (.ref y), some (.ref nm), some (.ref rw), some (.int v), some (.str k.wd), some (.str (S a1)), some (.str (S b1')), y10, y11, some (.ref z), z13] Hf
    refine ⟨_, rfl, _, rfl, by show 2 ≤ sizeLine; decide, fun M hM => ?_⟩
    have sg := same_new hM (.lst [.str (S a1), .str (S b1')])
    have eM : upd Hf M (.lst [.str (S a1), .str (S b1')]) M = some (.lst [.str (S a1), .str (S b1')]) := upd_same
    have nMn : M ≠ nm := Ne.symm (ne_of_none hnf hM)
    generalize upd Hf M (.lst [.str (S a1), .str (S b1')]) = Hg at sg eM ⊢
    refine ⟨M, rfl, ⟨_, SqL.of eM⟩, ?_⟩
    refine for_list (xs := [.str (S a1), .str (S b1')]) (fun j σ H' => Same H H' ∧ H' C = some (.lst (ms.map V.int)) ∧ H' M = some (.lst [.str (S a1), .str (S b1')]) ∧ Yd CY CP K [nm, rw] H' y (lp2 ls a1 b1') (ds ++ [(k, (ii : Int), (jj : Int), p)]) ∧ H' nm = some (.lst ((([S a1, S b1'].take j).foldl lput ls).map V.str)) ∧ H' rw = some (.lst us) ∧ Lrs K H' us rs ∧ Fq K H' z p ∧ ∃ z13, σ = [some (.ref a), some (.int c), some (.int m), some (.ref y), some (.ref nm), some (.ref rw), some (.int v), some (.str k.wd), some (.str (S a1)), some (.str (S b1')), y10, y11, some (.ref z), z13]) ⟨sHf.trans sg, sg _ _ eCf, eM, ydf.same sg, sg _ _ hnf, sg _ _ hrf, lrf.same sg, sg.fq fzf, z13, rfl⟩ (fun j σ H' _ h => SqL.of h.2.2.1) ?_ ?_
    · rintro j xx σ Hh hxx ⟨sh, ech, emh, ydh, hnh, hrh, lrh, fzh, z13', rfl⟩
      obtain ⟨w1, hw1, rfl⟩ : ∃ w1, [S a1, S b1'][j]? = some w1 ∧ xx = .str w1 := by
        have : ([S a1, S b1'].map V.str)[j]? = some xx := hxx
        rw [List.getElem?_map] at this
        obtain ⟨w1, h1, h2⟩ := Option.map_eq_some_iff.mp this
        exact ⟨w1, h1, h2.symm⟩
      have et : [S a1, S b1'].take (j + 1) = [S a1, S b1'].take j ++ [w1] := by rw [List.take_add_one, hw1]; rfl
      rw [et, List.foldl_append, List.foldl_cons, List.foldl_nil]
      have lq : (([S a1, S b1'].take j).foldl lput ls).length ≤ 22 := by
        have : ∀ (xs : List Str) (l : List Str), (xs.foldl lput l).length ≤ l.length + xs.length := fun xs => by
          induction xs with
          | nil => intro l; simp
          | cons x r ih => intro l; have := ih (lput l x); have := lput_len l x; simp only [List.foldl_cons, List.length_cons]; omega
        have h := this ([S a1, S b1'].take j) ls
        have h2 : ([S a1, S b1'].take j).length ≤ 2 := by rw [List.length_take]; simp; omega
        omega
      generalize ([S a1, S b1'].take j).foldl lput ls = lj at hnh lq ⊢
      refine ⟨_, rfl, _, rfl, nm, _, rfl, .inl (SqL.of hnh), rfl, flat_strs _, _, rfl, ?_⟩
      show (if (!inV (.str w1) (lj.map V.str)) = true then _ else _)
      rw [inV_strs]
      by_cases hin : w1 ∈ lj
      · refine L2.ifF (by rw [decide_eq_true hin]; rfl) ?_
        exact ⟨sh, ech, emh, ydh, by rw [show lput lj w1 = lj from if_pos hin]; exact hnh, hrh, lrh, fzh, _, rfl⟩
      · refine L2.ifT (by rw [decide_eq_false hin]; rfl) ?_
        refine ⟨_, rfl, .inl ⟨rfl, _, SqL.of hnh⟩, _, rfl, nm, _, _, rfl, rfl, hnh, small1000 (by rw [List.length_map]; omega), ?_⟩
        refine ⟨sh.change hnm0, by rw [upd_ne nCn]; exact ech, by rw [upd_ne nMn]; exact emh, Yd.upd hnh (by simp) ydh, by rw [upd_same, show lput lj w1 = lj ++ [w1] from if_neg hin, List.map_append]; rfl, by rw [upd_ne (Ne.symm nnr)]; exact hrh, Lrs.upd hnh lrh, (SameX.write (fun b o h _ => h)).seqT hnh fzh, _, rfl⟩
    · rintro σ Hh ⟨sh, ech, emh, ydh, hnh, hrh, lrh, fzh, z13', rfl⟩
      have hnh : Hh nm = some (.lst ((lp2 ls a1 b1').map V.str)) := hnh
      have lus := lrh.length
      have lml := std.mt.l
      refine ⟨_, rfl, .inl ⟨rfl, _, SqL.of hrh⟩, _, rfl, _, rfl, _, rfl, _, rfl, by show 4 ≤ sizeLine; decide, fun T hT => ?_⟩
      have sj := same_new hT (.tup [.str k.wd, .str (S a1), .str (S b1'), .ref z])
      have eT : SqT K (upd Hh T (.tup [.str k.wd, .str (S a1), .str (S b1'), .ref z])) T [.str k.wd, .str (S a1), .str (S b1'), .ref z] := SqT.of upd_same
      generalize upd Hh T (.tup [.str k.wd, .str (S a1), .str (S b1'), .ref z]) = Hj at sj eT ⊢
      have hrj := sj _ _ hrh
      refine ⟨rw, us, .ref T, rfl, rfl, hrj, small1000 (by omega), ?_⟩
      have lrj : Lrs K Hj (us ++ [.ref T]) (rs ++ [(k, S a1, S b1', p)]) := Lrs.app (.cons eT (sj.fq fzh) .nil) (lrh.same sj)
      refine ⟨by rw [upd_ne nCr]; exact sj _ _ ech, lp2 ls a1 b1', _, rs ++ [(k, S a1, S b1', p)], us ++ [.ref T], _, _, _, _, _, _, _, _, rfl, ⟨(sh.trans sj).change hrw0, Yd.upd hrj (by simp) (ydh.same sj), by rw [upd_ne nnr]; exact sj _ _ hnh, upd_same, Lrs.upd hrj lrj, ⟨by rw [List.length_append, List.length_append, lml]; rfl, fun i' d' r' h1 h2 => ?_⟩, ⟨ndl, fun x hx => ?_⟩, n20', fun z => ?_⟩, by rw [List.length_append, hlen]; rfl⟩
      · by_cases hi' : i' < ds.length
        · rw [List.getElem?_append_left hi'] at h1
          rw [List.getElem?_append_left (by omega)] at h2
          obtain ⟨m1, m2, m3, m4, m5, m6⟩ := std.mt.r i' d' r' h1 h2
          exact ⟨m1, m2, m3, m4, lput_keep _ (lput_keep _ m5), lput_keep _ (lput_keep _ m6)⟩
        · rw [List.getElem?_append_right (by omega)] at h1
          rw [List.getElem?_append_right (by omega)] at h2
          have e1 : i' - ds.length = 0 := by have := (List.getElem?_eq_some_iff.mp h1).1; simp at this; omega
          rw [e1] at h1
          rw [show i' - rs.length = 0 by omega] at h2
          cases h1
          cases h2
          exact ⟨rfl, rfl, by show (0 : Int) ≤ ii; omega, by show (0 : Int) ≤ jj; omega, hii, hjj⟩
      · obtain ⟨cs, rfl, nc⟩ := nm20_ok (n20' x hx)
        exact nm_lay nc
      · have := lput_in (lput ls (S a1)) (S b1')
        rw [show lput (lput ls (S a1)) (S b1') = [] from z] at this
        cases this
  · rintro σ Ha ⟨_, ls, ds, rs, us, z6, z7, z8, z9, z10, z11, z12, z13, rfl, st, hlen⟩
    rw [List.length_map] at hlen
    have l20 := nm_count st.ok.nd st.n20
    refine ⟨_, rfl, _, rfl, _, rfl, [nm, rw], y, nm, rw, ls, ds, rs, us, rfl, st.yd, SqL.of st.hn, SqL.of st.hr, st.lr, st.mt, st.ok, l20, by omega, st.e, fun Hf sf => ⟨_, rfl, iteT ?_⟩⟩
    have stf := st.same sf
    exact ⟨_, rfl, _, rfl, _, rfl, [nm, rw], y, nm, rw, ls, ds, rs, us, rfl, stf.yd, SqL.of stf.hn, SqL.of stf.hr, stf.lr, stf.mt, stf.ok, l20, by omega, stf.e, fun Hg sg => q Hg⟩
end
end K82

set_option Elab.async false
set_option linter.all false
namespace L2
open PySem PySem.W
theorem walkX_of {q : Program} {loose : List Str} {XP : (Str → Option Value) → Heap → Prop} {K : Params → PySem.W.Frag} {bs : List Addr} {n t : Nat} {r : RowW} {d : DefRec} {kwd : List (Str × Expr)} {run : Value → List Value → Sem Value}
    (e : ∀ P, bs = (K P).map (·.1)) (h : WalkO q loose XP (fun w h => (K w.params).In h) r d kwd run) : WalkX q loose XP (PySem.W.X.obsZ bs) (PySem.W.X.valZ K n t) r d kwd run :=
  fun w s₀ s₁ mg mb G y a o pm cd doc dV kV h1 h2 h3 h4 h5 h6 args vals as' L => h w s₀ s₁ mg mb G (InK.keeps w _ _ (PySem.W.X.z_facts e y).2.1 L.keeps) a o pm cd doc dV kV h1 h2 h3 h4 h5 h6 args vals as'
end L2

set_option Elab.async false
set_option linter.all false
set_option maxRecDepth 100000
set_option maxHeartbeats 4000000
namespace K82
open PySem L2
def ek4 (a b c d : Addr) : Ek → Addr
  | .r => a
  | .m => b
  | .u => c
  | .z => d
theorem all_mk {l : PySem.W.OpenLaw} {w : World} {K : PySem.W.Frag} {h : Heap} {mg : Str → Option Value} {fa : Addr} (X : K.In h) (G : h.Ns mainGlobals mg) (hfa : mg "law" = some (.ref fa))
    {c_OhmError : Addr}
    {c_NoRow : Addr}
    {c_NoName : Addr}
    {c_NoNumber : Addr}
    {c_NoSize : Addr}
    {c_NoPoint : Addr}
    {c_Row : Addr}
    {c_Piece : Addr}
    {c_Push : Addr}
    {c_Hold : Addr}
    {c_Net : Addr}
    {c_Plan : Addr}
    {c_Yard : Addr}
    {f1 : Addr} {od1 an1 : Option Addr} {sl1 : Array (Option Value)} {oc1 kV1 dc1 pm1 cd1 ct1 : Value}
    {f2 : Addr} {od2 an2 : Option Addr} {sl2 : Array (Option Value)} {oc2 kV2 dc2 pm2 cd2 ct2 : Value}
    {f3 : Addr} {od3 an3 : Option Addr} {sl3 : Array (Option Value)} {oc3 kV3 dc3 pm3 cd3 ct3 : Value}
    {f4 : Addr} {od4 an4 : Option Addr} {sl4 : Array (Option Value)} {oc4 kV4 dc4 pm4 cd4 ct4 : Value}
    {T4 : Addr} {oT4 : Value} {dT4 : Option Addr} {nT4 : Nat} {sT4 : Array (Option Value)} {tk4 : Tok}
    {f5 : Addr} {od5 an5 : Option Addr} {sl5 : Array (Option Value)} {oc5 kV5 dc5 pm5 cd5 ct5 : Value}
    {f6 : Addr} {od6 an6 : Option Addr} {sl6 : Array (Option Value)} {oc6 kV6 dc6 pm6 cd6 ct6 : Value}
    {f7 : Addr} {od7 an7 : Option Addr} {sl7 : Array (Option Value)} {oc7 kV7 dc7 pm7 cd7 ct7 : Value}
    {f8 : Addr} {od8 an8 : Option Addr} {sl8 : Array (Option Value)} {oc8 kV8 dc8 pm8 cd8 ct8 : Value}
    {f9 : Addr} {od9 an9 : Option Addr} {sl9 : Array (Option Value)} {oc9 kV9 dc9 pm9 cd9 ct9 : Value}
    {f10 : Addr} {od10 an10 : Option Addr} {sl10 : Array (Option Value)} {oc10 kV10 dc10 pm10 cd10 ct10 : Value}
    {f11 : Addr} {od11 an11 : Option Addr} {sl11 : Array (Option Value)} {oc11 kV11 dc11 pm11 cd11 ct11 : Value}
    {f12 : Addr} {od12 an12 : Option Addr} {sl12 : Array (Option Value)} {oc12 kV12 dc12 pm12 cd12 ct12 : Value}
    {f13 : Addr} {od13 an13 : Option Addr} {sl13 : Array (Option Value)} {oc13 kV13 dc13 pm13 cd13 ct13 : Value}
    {f14 : Addr} {od14 an14 : Option Addr} {sl14 : Array (Option Value)} {oc14 kV14 dc14 pm14 cd14 ct14 : Value}
    {f15 : Addr} {od15 an15 : Option Addr} {sl15 : Array (Option Value)} {oc15 kV15 dc15 pm15 cd15 ct15 : Value}
    {f16 : Addr} {od16 an16 : Option Addr} {sl16 : Array (Option Value)} {oc16 kV16 dc16 pm16 cd16 ct16 : Value}
    {f17 : Addr} {od17 an17 : Option Addr} {sl17 : Array (Option Value)} {oc17 kV17 dc17 pm17 cd17 ct17 : Value}
    {f18 : Addr} {od18 an18 : Option Addr} {sl18 : Array (Option Value)} {oc18 kV18 dc18 pm18 cd18 ct18 : Value}
    {f19 : Addr} {od19 an19 : Option Addr} {sl19 : Array (Option Value)} {oc19 kV19 dc19 pm19 cd19 ct19 : Value}
    {f20 : Addr} {od20 an20 : Option Addr} {sl20 : Array (Option Value)} {oc20 kV20 dc20 pm20 cd20 ct20 : Value}
    {f21 : Addr} {od21 an21 : Option Addr} {sl21 : Array (Option Value)} {oc21 kV21 dc21 pm21 cd21 ct21 : Value}
    {f22 : Addr} {od22 an22 : Option Addr} {sl22 : Array (Option Value)} {oc22 kV22 dc22 pm22 cd22 ct22 : Value}
    {f23 : Addr} {od23 an23 : Option Addr} {sl23 : Array (Option Value)} {oc23 kV23 dc23 pm23 cd23 ct23 : Value}
    {f24 : Addr} {od24 an24 : Option Addr} {sl24 : Array (Option Value)} {oc24 kV24 dc24 pm24 cd24 ct24 : Value}
    {f25 : Addr} {od25 an25 : Option Addr} {sl25 : Array (Option Value)} {oc25 kV25 dc25 pm25 cd25 ct25 : Value}
    {f26 : Addr} {od26 an26 : Option Addr} {sl26 : Array (Option Value)} {oc26 kV26 dc26 pm26 cd26 ct26 : Value}
    {f27 : Addr} {od27 an27 : Option Addr} {sl27 : Array (Option Value)} {oc27 kV27 dc27 pm27 cd27 ct27 : Value}
    {f28 : Addr} {od28 an28 : Option Addr} {sl28 : Array (Option Value)} {oc28 kV28 dc28 pm28 cd28 ct28 : Value}
    {f29 : Addr} {od29 an29 : Option Addr} {sl29 : Array (Option Value)} {oc29 kV29 dc29 pm29 cd29 ct29 : Value}
    {f30 : Addr} {od30 an30 : Option Addr} {sl30 : Array (Option Value)} {oc30 kV30 dc30 pm30 cd30 ct30 : Value}
    {f31 : Addr} {od31 an31 : Option Addr} {sl31 : Array (Option Value)} {oc31 kV31 dc31 pm31 cd31 ct31 : Value}
    {f32 : Addr} {od32 an32 : Option Addr} {sl32 : Array (Option Value)} {oc32 kV32 dc32 pm32 cd32 ct32 : Value}
    {f33 : Addr} {od33 an33 : Option Addr} {sl33 : Array (Option Value)} {oc33 kV33 dc33 pm33 cd33 ct33 : Value}
    {f34 : Addr} {od34 an34 : Option Addr} {sl34 : Array (Option Value)} {oc34 kV34 dc34 pm34 cd34 ct34 : Value}
    {f35 : Addr} {od35 an35 : Option Addr} {sl35 : Array (Option Value)} {oc35 kV35 dc35 pm35 cd35 ct35 : Value}
    {f36 : Addr} {od36 an36 : Option Addr} {sl36 : Array (Option Value)} {oc36 kV36 dc36 pm36 cd36 ct36 : Value}
    {f37 : Addr} {od37 an37 : Option Addr} {sl37 : Array (Option Value)} {oc37 kV37 dc37 pm37 cd37 ct37 : Value}
    {f38 : Addr} {od38 an38 : Option Addr} {sl38 : Array (Option Value)} {oc38 kV38 dc38 pm38 cd38 ct38 : Value}
    {f39 : Addr} {od39 an39 : Option Addr} {sl39 : Array (Option Value)} {oc39 kV39 dc39 pm39 cd39 ct39 : Value}
    {f40 : Addr} {od40 an40 : Option Addr} {sl40 : Array (Option Value)} {oc40 kV40 dc40 pm40 cd40 ct40 : Value}
    {f41 : Addr} {od41 an41 : Option Addr} {sl41 : Array (Option Value)} {oc41 kV41 dc41 pm41 cd41 ct41 : Value}
    {f42 : Addr} {od42 an42 : Option Addr} {sl42 : Array (Option Value)} {oc42 kV42 dc42 pm42 cd42 ct42 : Value}
    {f43 : Addr} {od43 an43 : Option Addr} {sl43 : Array (Option Value)} {oc43 kV43 dc43 pm43 cd43 ct43 : Value}
    {f44 : Addr} {od44 an44 : Option Addr} {sl44 : Array (Option Value)} {oc44 kV44 dc44 pm44 cd44 ct44 : Value}
    {f45 : Addr} {od45 an45 : Option Addr} {sl45 : Array (Option Value)} {oc45 kV45 dc45 pm45 cd45 ct45 : Value}
    {f46 : Addr} {od46 an46 : Option Addr} {sl46 : Array (Option Value)} {oc46 kV46 dc46 pm46 cd46 ct46 : Value}
    {f47 : Addr} {od47 an47 : Option Addr} {sl47 : Array (Option Value)} {oc47 kV47 dc47 pm47 cd47 ct47 : Value}
    {f48 : Addr} {od48 an48 : Option Addr} {sl48 : Array (Option Value)} {oc48 kV48 dc48 pm48 cd48 ct48 : Value}
    {f49 : Addr} {od49 an49 : Option Addr} {sl49 : Array (Option Value)} {oc49 kV49 dc49 pm49 cd49 ct49 : Value}
    {f50 : Addr} {od50 an50 : Option Addr} {sl50 : Array (Option Value)} {oc50 kV50 dc50 pm50 cd50 ct50 : Value}
    {f51 : Addr} {od51 an51 : Option Addr} {sl51 : Array (Option Value)} {oc51 kV51 dc51 pm51 cd51 ct51 : Value}
    {f52 : Addr} {od52 an52 : Option Addr} {sl52 : Array (Option Value)} {oc52 kV52 dc52 pm52 cd52 ct52 : Value}
    {f53 : Addr} {od53 an53 : Option Addr} {sl53 : Array (Option Value)} {oc53 kV53 dc53 pm53 cd53 ct53 : Value}
    {aN : Addr} {dN : Option Addr} {nN : Nat} {sN : Array (Option Value)} {t0 t1 : Tok}
    {aW : Addr} {dW : Option Addr} {nW : Nat} {sW : Array (Option Value)} {w0 w1 w2 : Tok}
    {tM : Tok}
    {tR : Tok}
    {tF : Tok}
    {tG : Tok}
    {tL : Tok}
    {tE : Tok}
    (y_OhmError : PySem.W.nsIn K mainGlobals "OhmError" = some (some (.ref c_OhmError)))
    (y_NoRow : PySem.W.nsIn K mainGlobals "NoRow" = some (some (.ref c_NoRow)))
    (y_NoName : PySem.W.nsIn K mainGlobals "NoName" = some (some (.ref c_NoName)))
    (y_NoNumber : PySem.W.nsIn K mainGlobals "NoNumber" = some (some (.ref c_NoNumber)))
    (y_NoSize : PySem.W.nsIn K mainGlobals "NoSize" = some (some (.ref c_NoSize)))
    (y_NoPoint : PySem.W.nsIn K mainGlobals "NoPoint" = some (some (.ref c_NoPoint)))
    (y_Row : PySem.W.nsIn K mainGlobals "Row" = some (some (.ref c_Row)))
    (y_Piece : PySem.W.nsIn K mainGlobals "Piece" = some (some (.ref c_Piece)))
    (y_Push : PySem.W.nsIn K mainGlobals "Push" = some (some (.ref c_Push)))
    (y_Hold : PySem.W.nsIn K mainGlobals "Hold" = some (some (.ref c_Hold)))
    (y_Net : PySem.W.nsIn K mainGlobals "Net" = some (some (.ref c_Net)))
    (y_Plan : PySem.W.nsIn K mainGlobals "Plan" = some (some (.ref c_Plan)))
    (y_Yard : PySem.W.nsIn K mainGlobals "Yard" = some (some (.ref c_Yard)))
    (a1 : PySem.W.nsIn K mainGlobals "is_whole" = some (some (.ref f1)))
    (l1 : K.lookup f1 = some ⟨oc1, od1, .func (PySem.W.fnOf "is_whole" "is_whole" (defArgs sWhole) (defBody sWhole) (defScope sWhole) .none kV1 dc1 pm1 an1 cd1 ct1), sl1⟩) (c1 : PySem.W.codeIn K cd1 "is_whole" = true) (k1 : PySem.W.keepIn K (.ref f1) = true)
    (a2 : PySem.W.nsIn K mainGlobals "greatest_common" = some (some (.ref f2)))
    (l2 : K.lookup f2 = some ⟨oc2, od2, .func (PySem.W.fnOf "greatest_common" "greatest_common" (defArgs sGc) (defBody sGc) (defScope sGc) .none kV2 dc2 pm2 an2 cd2 ct2), sl2⟩) (c2 : PySem.W.codeIn K cd2 "greatest_common" = true) (k2 : PySem.W.keepIn K (.ref f2) = true)
    (a3 : PySem.W.nsIn K mainGlobals "under" = some (some (.ref f3)))
    (l3 : K.lookup f3 = some ⟨oc3, od3, .func (PySem.W.fnOf "under" "under" (defArgs sUnder) (defBody sUnder) (defScope sUnder) .none kV3 dc3 pm3 an3 cd3 ct3), sl3⟩) (c3 : PySem.W.codeIn K cd3 "under" = true) (k3 : PySem.W.keepIn K (.ref f3) = true)
    (a4 : PySem.W.nsIn K mainGlobals "fraction" = some (some (.ref f4)))
    (l4 : K.lookup f4 = some ⟨oc4, od4, .func (PySem.W.fnOf "fraction" "fraction" (defArgs sFrac) (defBody sFrac) (defScope sFrac) (.ref T4) kV4 dc4 pm4 an4 cd4 ct4), sl4⟩) (c4 : PySem.W.codeIn K cd4 "fraction" = true) (k4 : PySem.W.keepIn K (.ref f4) = true)
    (lt4 : K.lookup T4 = some ⟨oT4, dT4, .seq #[.int 1 tk4] nT4, sT4⟩)
    (a5 : PySem.W.nsIn K mainGlobals "show" = some (some (.ref f5)))
    (l5 : K.lookup f5 = some ⟨oc5, od5, .func (PySem.W.fnOf "show" "show" (defArgs sShow) (defBody sShow) (defScope sShow) .none kV5 dc5 pm5 an5 cd5 ct5), sl5⟩) (c5 : PySem.W.codeIn K cd5 "show" = true) (k5 : PySem.W.keepIn K (.ref f5) = true)
    (a6 : PySem.W.nsIn K mainGlobals "without_sign" = some (some (.ref f6)))
    (l6 : K.lookup f6 = some ⟨oc6, od6, .func (PySem.W.fnOf "without_sign" "without_sign" (defArgs sNosign) (defBody sNosign) (defScope sNosign) .none kV6 dc6 pm6 an6 cd6 ct6), sl6⟩) (c6 : PySem.W.codeIn K cd6 "without_sign" = true) (k6 : PySem.W.keepIn K (.ref f6) = true)
    (a7 : PySem.W.nsIn K mainGlobals "are_figures" = some (some (.ref f7)))
    (l7 : K.lookup f7 = some ⟨oc7, od7, .func (PySem.W.fnOf "are_figures" "are_figures" (defArgs sFigs) (defBody sFigs) (defScope sFigs) .none kV7 dc7 pm7 an7 cd7 ct7), sl7⟩) (c7 : PySem.W.codeIn K cd7 "are_figures" = true) (k7 : PySem.W.keepIn K (.ref f7) = true)
    (a8 : PySem.W.nsIn K mainGlobals "read" = some (some (.ref f8)))
    (l8 : K.lookup f8 = some ⟨oc8, od8, .func (PySem.W.fnOf "read" "read" (defArgs sRead) (defBody sRead) (defScope sRead) .none kV8 dc8 pm8 an8 cd8 ct8), sl8⟩) (c8 : PySem.W.codeIn K cd8 "read" = true) (k8 : PySem.W.keepIn K (.ref f8) = true)
    (a9 : PySem.W.nsIn K mainGlobals "is_fraction" = some (some (.ref f9)))
    (l9 : K.lookup f9 = some ⟨oc9, od9, .func (PySem.W.fnOf "is_fraction" "is_fraction" (defArgs sIsF) (defBody sIsF) (defScope sIsF) .none kV9 dc9 pm9 an9 cd9 ct9), sl9⟩) (c9 : PySem.W.codeIn K cd9 "is_fraction" = true) (k9 : PySem.W.keepIn K (.ref f9) = true)
    (a10_0 : PySem.W.findIn K (.ref c_Piece) "__init__" = some (some (.ref f10)))
    (a10_1 : PySem.W.findIn K (.ref c_Push) "__init__" = some (some (.ref f10)))
    (a10_2 : PySem.W.findIn K (.ref c_Hold) "__init__" = some (some (.ref f10)))
    (i10 : PySem.W.isFn K (.ref f10) = true)
    (l10 : K.lookup f10 = some ⟨oc10, od10, .func (PySem.W.fnOf "__init__" "Row.__init__" (defArgs sRInit) (defBody sRInit) (defScope sRInit) .none kV10 dc10 pm10 an10 cd10 ct10), sl10⟩) (c10 : PySem.W.codeIn K cd10 "Row.__init__" = true) (k10 : PySem.W.keepIn K (.ref f10) = true)
    (a11_0 : PySem.W.findIn K (.ref c_Piece) "word" = some (some (.ref f11)))
    (i11 : PySem.W.isFn K (.ref f11) = true)
    (l11 : K.lookup f11 = some ⟨oc11, od11, .func (PySem.W.fnOf "word" "Piece.word" (defArgs sWord_pc) (defBody sWord_pc) (defScope sWord_pc) .none kV11 dc11 pm11 an11 cd11 ct11), sl11⟩) (c11 : PySem.W.codeIn K cd11 "Piece.word" = true) (k11 : PySem.W.keepIn K (.ref f11) = true)
    (a12_0 : PySem.W.findIn K (.ref c_Push) "word" = some (some (.ref f12)))
    (i12 : PySem.W.isFn K (.ref f12) = true)
    (l12 : K.lookup f12 = some ⟨oc12, od12, .func (PySem.W.fnOf "word" "Push.word" (defArgs sWord_pu) (defBody sWord_pu) (defScope sWord_pu) .none kV12 dc12 pm12 an12 cd12 ct12), sl12⟩) (c12 : PySem.W.codeIn K cd12 "Push.word" = true) (k12 : PySem.W.keepIn K (.ref f12) = true)
    (a13_0 : PySem.W.findIn K (.ref c_Hold) "word" = some (some (.ref f13)))
    (i13 : PySem.W.isFn K (.ref f13) = true)
    (l13 : K.lookup f13 = some ⟨oc13, od13, .func (PySem.W.fnOf "word" "Hold.word" (defArgs sWord_ho) (defBody sWord_ho) (defScope sWord_ho) .none kV13 dc13 pm13 an13 cd13 ct13), sl13⟩) (c13 : PySem.W.codeIn K cd13 "Hold.word" = true) (k13 : PySem.W.keepIn K (.ref f13) = true)
    (a14_0 : PySem.W.findIn K (.ref c_Piece) "told" = some (some (.ref f14)))
    (a14_1 : PySem.W.findIn K (.ref c_Push) "told" = some (some (.ref f14)))
    (a14_2 : PySem.W.findIn K (.ref c_Hold) "told" = some (some (.ref f14)))
    (i14 : PySem.W.isFn K (.ref f14) = true)
    (l14 : K.lookup f14 = some ⟨oc14, od14, .func (PySem.W.fnOf "told" "Row.told" (defArgs sRTold) (defBody sRTold) (defScope sRTold) .none kV14 dc14 pm14 an14 cd14 ct14), sl14⟩) (c14 : PySem.W.codeIn K cd14 "Row.told" = true) (k14 : PySem.W.keepIn K (.ref f14) = true)
    (a15 : PySem.W.nsIn K mainGlobals "row_of" = some (some (.ref f15)))
    (l15 : K.lookup f15 = some ⟨oc15, od15, .func (PySem.W.fnOf "row_of" "row_of" (defArgs sRowOf) (defBody sRowOf) (defScope sRowOf) .none kV15 dc15 pm15 an15 cd15 ct15), sl15⟩) (c15 : PySem.W.codeIn K cd15 "row_of" = true) (k15 : PySem.W.keepIn K (.ref f15) = true)
    (a16 : PySem.W.nsIn K mainGlobals "is_piece_size" = some (some (.ref f16)))
    (l16 : K.lookup f16 = some ⟨oc16, od16, .func (PySem.W.fnOf "is_piece_size" "is_piece_size" (defArgs sPS) (defBody sPS) (defScope sPS) .none kV16 dc16 pm16 an16 cd16 ct16), sl16⟩) (c16 : PySem.W.codeIn K cd16 "is_piece_size" = true) (k16 : PySem.W.keepIn K (.ref f16) = true)
    (a17 : PySem.W.nsIn K mainGlobals "is_number_below" = some (some (.ref f17)))
    (l17 : K.lookup f17 = some ⟨oc17, od17, .func (PySem.W.fnOf "is_number_below" "is_number_below" (defArgs sNB) (defBody sNB) (defScope sNB) .none kV17 dc17 pm17 an17 cd17 ct17), sl17⟩) (c17 : PySem.W.codeIn K cd17 "is_number_below" = true) (k17 : PySem.W.keepIn K (.ref f17) = true)
    (a18 : PySem.W.nsIn K mainGlobals "refuse_size" = some (some (.ref f18)))
    (l18 : K.lookup f18 = some ⟨oc18, od18, .func (PySem.W.fnOf "refuse_size" "refuse_size" (defArgs sRS) (defBody sRS) (defScope sRS) .none kV18 dc18 pm18 an18 cd18 ct18), sl18⟩) (c18 : PySem.W.codeIn K cd18 "refuse_size" = true) (k18 : PySem.W.keepIn K (.ref f18) = true)
    (a19 : PySem.W.nsIn K mainGlobals "refuse_points" = some (some (.ref f19)))
    (l19 : K.lookup f19 = some ⟨oc19, od19, .func (PySem.W.fnOf "refuse_points" "refuse_points" (defArgs sRP) (defBody sRP) (defScope sRP) .none kV19 dc19 pm19 an19 cd19 ct19), sl19⟩) (c19 : PySem.W.codeIn K cd19 "refuse_points" = true) (k19 : PySem.W.keepIn K (.ref f19) = true)
    (a20_0 : PySem.W.findIn K (.ref c_Net) "__init__" = some (some (.ref f20)))
    (i20 : PySem.W.isFn K (.ref f20) = true)
    (l20 : K.lookup f20 = some ⟨oc20, od20, .func (PySem.W.fnOf "__init__" "Net.__init__" (defArgs sNInit) (defBody sNInit) (defScope sNInit) .none kV20 dc20 pm20 an20 cd20 ct20), sl20⟩) (c20 : PySem.W.codeIn K cd20 "Net.__init__" = true) (k20 : PySem.W.keepIn K (.ref f20) = true)
    (a21_0 : PySem.W.findIn K (.ref c_Net) "many" = some (some (.ref f21)))
    (i21 : PySem.W.isFn K (.ref f21) = true)
    (l21 : K.lookup f21 = some ⟨oc21, od21, .func (PySem.W.fnOf "many" "Net.many" (defArgs sMany) (defBody sMany) (defScope sMany) .none kV21 dc21 pm21 an21 cd21 ct21), sl21⟩) (c21 : PySem.W.codeIn K cd21 "Net.many" = true) (k21 : PySem.W.keepIn K (.ref f21) = true)
    (a22_0 : PySem.W.findIn K (.ref c_Net) "add" = some (some (.ref f22)))
    (i22 : PySem.W.isFn K (.ref f22) = true)
    (l22 : K.lookup f22 = some ⟨oc22, od22, .func (PySem.W.fnOf "add" "Net.add" (defArgs sAdd) (defBody sAdd) (defScope sAdd) .none kV22 dc22 pm22 an22 cd22 ct22), sl22⟩) (c22 : PySem.W.codeIn K cd22 "Net.add" = true) (k22 : PySem.W.keepIn K (.ref f22) = true)
    (a23_0 : PySem.W.findIn K (.ref c_Net) "told" = some (some (.ref f23)))
    (i23 : PySem.W.isFn K (.ref f23) = true)
    (l23 : K.lookup f23 = some ⟨oc23, od23, .func (PySem.W.fnOf "told" "Net.told" (defArgs sNTold) (defBody sNTold) (defScope sNTold) .none kV23 dc23 pm23 an23 cd23 ct23), sl23⟩) (c23 : PySem.W.codeIn K cd23 "Net.told" = true) (k23 : PySem.W.keepIn K (.ref f23) = true)
    (a24 : PySem.W.nsIn K mainGlobals "is_name" = some (some (.ref f24)))
    (l24 : K.lookup f24 = some ⟨oc24, od24, .func (PySem.W.fnOf "is_name" "is_name" (defArgs sName) (defBody sName) (defScope sName) .none kV24 dc24 pm24 an24 cd24 ct24), sl24⟩) (c24 : PySem.W.codeIn K cd24 "is_name" = true) (k24 : PySem.W.keepIn K (.ref f24) = true)
    (a25 : PySem.W.nsIn K mainGlobals "refuse_names" = some (some (.ref f25)))
    (l25 : K.lookup f25 = some ⟨oc25, od25, .func (PySem.W.fnOf "refuse_names" "refuse_names" (defArgs sRNames) (defBody sRNames) (defScope sRNames) .none kV25 dc25 pm25 an25 cd25 ct25), sl25⟩) (c25 : PySem.W.codeIn K cd25 "refuse_names" = true) (k25 : PySem.W.keepIn K (.ref f25) = true)
    (a26 : PySem.W.nsIn K mainGlobals "words_of" = some (some (.ref f26)))
    (l26 : K.lookup f26 = some ⟨oc26, od26, .func (PySem.W.fnOf "words_of" "words_of" (defArgs sWords) (defBody sWords) (defScope sWords) .none kV26 dc26 pm26 an26 cd26 ct26), sl26⟩) (c26 : PySem.W.codeIn K cd26 "words_of" = true) (k26 : PySem.W.keepIn K (.ref f26) = true)
    (a27 : PySem.W.nsIn K mainGlobals "has_form" = some (some (.ref f27)))
    (l27 : K.lookup f27 = some ⟨oc27, od27, .func (PySem.W.fnOf "has_form" "has_form" (defArgs sForm) (defBody sForm) (defScope sForm) .none kV27 dc27 pm27 an27 cd27 ct27), sl27⟩) (c27 : PySem.W.codeIn K cd27 "has_form" = true) (k27 : PySem.W.keepIn K (.ref f27) = true)
    (a28 : PySem.W.nsIn K mainGlobals "refuse_form" = some (some (.ref f28)))
    (l28 : K.lookup f28 = some ⟨oc28, od28, .func (PySem.W.fnOf "refuse_form" "refuse_form" (defArgs sRForm) (defBody sRForm) (defScope sRForm) .none kV28 dc28 pm28 an28 cd28 ct28), sl28⟩) (c28 : PySem.W.codeIn K cd28 "refuse_form" = true) (k28 : PySem.W.keepIn K (.ref f28) = true)
    (a29_0 : PySem.W.findIn K (.ref c_Plan) "__init__" = some (some (.ref f29)))
    (i29 : PySem.W.isFn K (.ref f29) = true)
    (l29 : K.lookup f29 = some ⟨oc29, od29, .func (PySem.W.fnOf "__init__" "Plan.__init__" (defArgs sPInit) (defBody sPInit) (defScope sPInit) .none kV29 dc29 pm29 an29 cd29 ct29), sl29⟩) (c29 : PySem.W.codeIn K cd29 "Plan.__init__" = true) (k29 : PySem.W.keepIn K (.ref f29) = true)
    (a30_0 : PySem.W.findIn K (.ref c_Plan) "copy" = some (some (.ref f30)))
    (i30 : PySem.W.isFn K (.ref f30) = true)
    (l30 : K.lookup f30 = some ⟨oc30, od30, .func (PySem.W.fnOf "copy" "Plan.copy" (defArgs sPCopy) (defBody sPCopy) (defScope sPCopy) .none kV30 dc30 pm30 an30 cd30 ct30), sl30⟩) (c30 : PySem.W.codeIn K cd30 "Plan.copy" = true) (k30 : PySem.W.keepIn K (.ref f30) = true)
    (a31_0 : PySem.W.findIn K (.ref c_Plan) "place_of" = some (some (.ref f31)))
    (i31 : PySem.W.isFn K (.ref f31) = true)
    (l31 : K.lookup f31 = some ⟨oc31, od31, .func (PySem.W.fnOf "place_of" "Plan.place_of" (defArgs sPlace) (defBody sPlace) (defScope sPlace) .none kV31 dc31 pm31 an31 cd31 ct31), sl31⟩) (c31 : PySem.W.codeIn K cd31 "Plan.place_of" = true) (k31 : PySem.W.keepIn K (.ref f31) = true)
    (a32_0 : PySem.W.findIn K (.ref c_Plan) "enter" = some (some (.ref f32)))
    (i32 : PySem.W.isFn K (.ref f32) = true)
    (l32 : K.lookup f32 = some ⟨oc32, od32, .func (PySem.W.fnOf "enter" "Plan.enter" (defArgs sEnter) (defBody sEnter) (defScope sEnter) .none kV32 dc32 pm32 an32 cd32 ct32), sl32⟩) (c32 : PySem.W.codeIn K cd32 "Plan.enter" = true) (k32 : PySem.W.keepIn K (.ref f32) = true)
    (a33_0 : PySem.W.findIn K (.ref c_Plan) "is_overfull" = some (some (.ref f33)))
    (i33 : PySem.W.isFn K (.ref f33) = true)
    (l33 : K.lookup f33 = some ⟨oc33, od33, .func (PySem.W.fnOf "is_overfull" "Plan.is_overfull" (defArgs sOver) (defBody sOver) (defScope sOver) .none kV33 dc33 pm33 an33 cd33 ct33), sl33⟩) (c33 : PySem.W.codeIn K cd33 "Plan.is_overfull" = true) (k33 : PySem.W.keepIn K (.ref f33) = true)
    (a34_0 : PySem.W.findIn K (.ref c_Plan) "net" = some (some (.ref f34)))
    (i34 : PySem.W.isFn K (.ref f34) = true)
    (l34 : K.lookup f34 = some ⟨oc34, od34, .func (PySem.W.fnOf "net" "Plan.net" (defArgs sPNet) (defBody sPNet) (defScope sPNet) .none kV34 dc34 pm34 an34 cd34 ct34), sl34⟩) (c34 : PySem.W.codeIn K cd34 "Plan.net" = true) (k34 : PySem.W.keepIn K (.ref f34) = true)
    (a35 : PySem.W.nsIn K mainGlobals "refuse_overfull" = some (some (.ref f35)))
    (l35 : K.lookup f35 = some ⟨oc35, od35, .func (PySem.W.fnOf "refuse_overfull" "refuse_overfull" (defArgs sROver) (defBody sROver) (defScope sROver) .none kV35 dc35 pm35 an35 cd35 ct35), sl35⟩) (c35 : PySem.W.codeIn K cd35 "refuse_overfull" = true) (k35 : PySem.W.keepIn K (.ref f35) = true)
    (a36_0 : PySem.W.findIn K (.ref c_Yard) "__init__" = some (some (.ref f36)))
    (i36 : PySem.W.isFn K (.ref f36) = true)
    (l36 : K.lookup f36 = some ⟨oc36, od36, .func (PySem.W.fnOf "__init__" "Yard.__init__" (defArgs sYInit) (defBody sYInit) (defScope sYInit) .none kV36 dc36 pm36 an36 cd36 ct36), sl36⟩) (c36 : PySem.W.codeIn K cd36 "Yard.__init__" = true) (k36 : PySem.W.keepIn K (.ref f36) = true)
    (a37_0 : PySem.W.findIn K (.ref c_Yard) "copy_of_told" = some (some (.ref f37)))
    (i37 : PySem.W.isFn K (.ref f37) = true)
    (l37 : K.lookup f37 = some ⟨oc37, od37, .func (PySem.W.fnOf "copy_of_told" "Yard.copy_of_told" (defArgs sCoT) (defBody sCoT) (defScope sCoT) .none kV37 dc37 pm37 an37 cd37 ct37), sl37⟩) (c37 : PySem.W.codeIn K cd37 "Yard.copy_of_told" = true) (k37 : PySem.W.keepIn K (.ref f37) = true)
    (a38_0 : PySem.W.findIn K (.ref c_Yard) "keep" = some (some (.ref f38)))
    (i38 : PySem.W.isFn K (.ref f38) = true)
    (l38 : K.lookup f38 = some ⟨oc38, od38, .func (PySem.W.fnOf "keep" "Yard.keep" (defArgs sKeep) (defBody sKeep) (defScope sKeep) .none kV38 dc38 pm38 an38 cd38 ct38), sl38⟩) (c38 : PySem.W.codeIn K cd38 "Yard.keep" = true) (k38 : PySem.W.keepIn K (.ref f38) = true)
    (a39_0 : PySem.W.findIn K (.ref c_Yard) "names" = some (some (.ref f39)))
    (i39 : PySem.W.isFn K (.ref f39) = true)
    (l39 : K.lookup f39 = some ⟨oc39, od39, .func (PySem.W.fnOf "names" "Yard.names" (defArgs sNames) (defBody sNames) (defScope sNames) .none kV39 dc39 pm39 an39 cd39 ct39), sl39⟩) (c39 : PySem.W.codeIn K cd39 "Yard.names" = true) (k39 : PySem.W.keepIn K (.ref f39) = true)
    (a40_0 : PySem.W.findIn K (.ref c_Yard) "net" = some (some (.ref f40)))
    (i40 : PySem.W.isFn K (.ref f40) = true)
    (l40 : K.lookup f40 = some ⟨oc40, od40, .func (PySem.W.fnOf "net" "Yard.net" (defArgs sYNet) (defBody sYNet) (defScope sYNet) .none kV40 dc40 pm40 an40 cd40 ct40), sl40⟩) (c40 : PySem.W.codeIn K cd40 "Yard.net" = true) (k40 : PySem.W.keepIn K (.ref f40) = true)
    (a41_0 : PySem.W.findIn K (.ref c_Yard) "enter_row" = some (some (.ref f41)))
    (i41 : PySem.W.isFn K (.ref f41) = true)
    (l41 : K.lookup f41 = some ⟨oc41, od41, .func (PySem.W.fnOf "enter_row" "Yard.enter_row" (defArgs sERow) (defBody sERow) (defScope sERow) .none kV41 dc41 pm41 an41 cd41 ct41), sl41⟩) (c41 : PySem.W.codeIn K cd41 "Yard.enter_row" = true) (k41 : PySem.W.keepIn K (.ref f41) = true)
    (a42_0 : PySem.W.findIn K (.ref c_Yard) "tell" = some (some (.ref f42)))
    (i42 : PySem.W.isFn K (.ref f42) = true)
    (l42 : K.lookup f42 = some ⟨oc42, od42, .func (PySem.W.fnOf "tell" "Yard.tell" (defArgs sTell) (defBody sTell) (defScope sTell) .none kV42 dc42 pm42 an42 cd42 ct42), sl42⟩) (c42 : PySem.W.codeIn K cd42 "Yard.tell" = true) (k42 : PySem.W.keepIn K (.ref f42) = true)
    (a43 : PySem.W.nsIn K mainGlobals "_law_pick" = some (some (.ref f43)))
    (l43 : K.lookup f43 = some ⟨oc43, od43, .func (PySem.W.fnOf "_law_pick" "_law_pick" (defArgs sPick) (defBody sPick) (defScope sPick) .none kV43 dc43 pm43 an43 cd43 ct43), sl43⟩) (c43 : PySem.W.codeIn K cd43 "_law_pick" = true) (k43 : PySem.W.keepIn K (.ref f43) = true)
    (a44 : PySem.W.nsIn K mainGlobals "_law_mix" = some (some (.ref f44)))
    (l44 : K.lookup f44 = some ⟨oc44, od44, .func (PySem.W.fnOf "_law_mix" "_law_mix" (defArgs sMix) (defBody sMix) (defScope sMix) .none kV44 dc44 pm44 an44 cd44 ct44), sl44⟩) (c44 : PySem.W.codeIn K cd44 "_law_mix" = true) (k44 : PySem.W.keepIn K (.ref f44) = true)
    (a45 : PySem.W.nsIn K mainGlobals "_law_divisor" = some (some (.ref f45)))
    (l45 : K.lookup f45 = some ⟨oc45, od45, .func (PySem.W.fnOf "_law_divisor" "_law_divisor" (defArgs sDiv) (defBody sDiv) (defScope sDiv) .none kV45 dc45 pm45 an45 cd45 ct45), sl45⟩) (c45 : PySem.W.codeIn K cd45 "_law_divisor" = true) (k45 : PySem.W.keepIn K (.ref f45) = true)
    (a46 : PySem.W.nsIn K mainGlobals "_law_size" = some (some (.ref f46)))
    (l46 : K.lookup f46 = some ⟨oc46, od46, .func (PySem.W.fnOf "_law_size" "_law_size" (defArgs sSize) (defBody sSize) (defScope sSize) .none kV46 dc46 pm46 an46 cd46 ct46), sl46⟩) (c46 : PySem.W.codeIn K cd46 "_law_size" = true) (k46 : PySem.W.keepIn K (.ref f46) = true)
    (a47 : PySem.W.nsIn K mainGlobals "_law_shown" = some (some (.ref f47)))
    (l47 : K.lookup f47 = some ⟨oc47, od47, .func (PySem.W.fnOf "_law_shown" "_law_shown" (defArgs sShown) (defBody sShown) (defScope sShown) .none kV47 dc47 pm47 an47 cd47 ct47), sl47⟩) (c47 : PySem.W.codeIn K cd47 "_law_shown" = true) (k47 : PySem.W.keepIn K (.ref f47) = true)
    (a48 : PySem.W.nsIn K mainGlobals "_law_name" = some (some (.ref f48)))
    (l48 : K.lookup f48 = some ⟨oc48, od48, .func (PySem.W.fnOf "_law_name" "_law_name" (defArgs sNameL) (defBody sNameL) (defScope sNameL) .none kV48 dc48 pm48 an48 cd48 ct48), sl48⟩) (c48 : PySem.W.codeIn K cd48 "_law_name" = true) (k48 : PySem.W.keepIn K (.ref f48) = true)
    (a49 : PySem.W.nsIn K mainGlobals "_law_bad" = some (some (.ref f49)))
    (l49 : K.lookup f49 = some ⟨oc49, od49, .func (PySem.W.fnOf "_law_bad" "_law_bad" (defArgs sBad) (defBody sBad) (defScope sBad) .none kV49 dc49 pm49 an49 cd49 ct49), sl49⟩) (c49 : PySem.W.codeIn K cd49 "_law_bad" = true) (k49 : PySem.W.keepIn K (.ref f49) = true)
    (a50 : PySem.W.nsIn K mainGlobals "_law_told" = some (some (.ref f50)))
    (l50 : K.lookup f50 = some ⟨oc50, od50, .func (PySem.W.fnOf "_law_told" "_law_told" (defArgs sTold) (defBody sTold) (defScope sTold) .none kV50 dc50 pm50 an50 cd50 ct50), sl50⟩) (c50 : PySem.W.codeIn K cd50 "_law_told" = true) (k50 : PySem.W.keepIn K (.ref f50) = true)
    (a51 : PySem.W.nsIn K mainGlobals "_law_no_net" = some (some (.ref f51)))
    (l51 : K.lookup f51 = some ⟨oc51, od51, .func (PySem.W.fnOf "_law_no_net" "_law_no_net" (defArgs sNoNet) (defBody sNoNet) (defScope sNoNet) .none kV51 dc51 pm51 an51 cd51 ct51), sl51⟩) (c51 : PySem.W.codeIn K cd51 "_law_no_net" = true) (k51 : PySem.W.keepIn K (.ref f51) = true)
    (a52 : PySem.W.nsIn K mainGlobals "_law_look" = some (some (.ref f52)))
    (l52 : K.lookup f52 = some ⟨oc52, od52, .func (PySem.W.fnOf "_law_look" "_law_look" (defArgs sLook) (defBody sLook) (defScope sLook) .none kV52 dc52 pm52 an52 cd52 ct52), sl52⟩) (c52 : PySem.W.codeIn K cd52 "_law_look" = true) (k52 : PySem.W.keepIn K (.ref f52) = true)
    (a53 : PySem.W.nsIn K mainGlobals "law" = some (some (.ref f53)))
    (l53 : K.lookup f53 = some ⟨oc53, od53, .func (PySem.W.fnOf "law" "law" (defArgs sLaw) (defBody sLaw) (defScope sLaw) .none kV53 dc53 pm53 an53 cd53 ct53), sl53⟩) (c53 : PySem.W.codeIn K cd53 "law" = true) (k53 : PySem.W.keepIn K (.ref f53) = true)
    (v_NOUGHT : PySem.W.nsIn K mainGlobals "NOUGHT" = some (some (.ref aN)))
    (v_ROW_WORDS : PySem.W.nsIn K mainGlobals "ROW_WORDS" = some (some (.ref aW)))
    (v_MOST_POINTS : PySem.W.nsIn K mainGlobals "MOST_POINTS" = some (some (.int 20 tM)))
    (v_MOST_ROWS : PySem.W.nsIn K mainGlobals "MOST_ROWS" = some (some (.int 40 tR)))
    (v_FIGURES : PySem.W.nsIn K mainGlobals "FIGURES" = some (some (.str "0123456789" tF)))
    (v_MOST_FIGURES : PySem.W.nsIn K mainGlobals "MOST_FIGURES" = some (some (.int 200 tG)))
    (v_LETTERS : PySem.W.nsIn K mainGlobals "LETTERS" = some (some (.str "abcdefghijklmnopqrstuvwxyz" tL)))
    (v_MOST_LETTERS : PySem.W.nsIn K mainGlobals "MOST_LETTERS" = some (some (.int 8 tE)))
    (lN : K.lookup aN = some ⟨.type "tuple", dN, .seq #[.int 0 t0, .int 1 t1] nN, sN⟩)
    (lW : K.lookup aW = some ⟨.type "tuple", dW, .seq #[.str "piece" w0, .str "push" w1, .str "hold" w2] nW, sW⟩)
    (pg_Piece : PySem.W.plainGet K c_Piece Str.empty = true)
    (hd_Piece : PySem.W.hasDictIn K c_Piece = true)
    (po_Piece : PySem.W.plainOver K c_Piece = true)
    (sa_Piece : PySem.W.findIn K (.ref c_Piece) "__setattr__" = some (some (.builtin "object.__setattr__")))
    (mk_Piece : PySem.W.makesIn K c_Piece = true)
    (kc_Piece : PySem.W.keepIn K (.ref c_Piece) = true)
    (t1_Piece : PySem.W.findIn K (.ref c_Piece) "__class__" = some (some (.builtin "object.__class__")))
    (t4_Piece : PySem.W.mroIn K c_Piece (.type "object") = some true)
    (na_Piece_start : PySem.W.findIn K (.ref c_Piece) "start" = some none)
    (na_Piece_goal : PySem.W.findIn K (.ref c_Piece) "goal" = some none)
    (na_Piece_size : PySem.W.findIn K (.ref c_Piece) "size" = some none)
    (pg_Push : PySem.W.plainGet K c_Push Str.empty = true)
    (hd_Push : PySem.W.hasDictIn K c_Push = true)
    (po_Push : PySem.W.plainOver K c_Push = true)
    (sa_Push : PySem.W.findIn K (.ref c_Push) "__setattr__" = some (some (.builtin "object.__setattr__")))
    (mk_Push : PySem.W.makesIn K c_Push = true)
    (kc_Push : PySem.W.keepIn K (.ref c_Push) = true)
    (t1_Push : PySem.W.findIn K (.ref c_Push) "__class__" = some (some (.builtin "object.__class__")))
    (t4_Push : PySem.W.mroIn K c_Push (.type "object") = some true)
    (na_Push_start : PySem.W.findIn K (.ref c_Push) "start" = some none)
    (na_Push_goal : PySem.W.findIn K (.ref c_Push) "goal" = some none)
    (na_Push_size : PySem.W.findIn K (.ref c_Push) "size" = some none)
    (pg_Hold : PySem.W.plainGet K c_Hold Str.empty = true)
    (hd_Hold : PySem.W.hasDictIn K c_Hold = true)
    (po_Hold : PySem.W.plainOver K c_Hold = true)
    (sa_Hold : PySem.W.findIn K (.ref c_Hold) "__setattr__" = some (some (.builtin "object.__setattr__")))
    (mk_Hold : PySem.W.makesIn K c_Hold = true)
    (kc_Hold : PySem.W.keepIn K (.ref c_Hold) = true)
    (t1_Hold : PySem.W.findIn K (.ref c_Hold) "__class__" = some (some (.builtin "object.__class__")))
    (t4_Hold : PySem.W.mroIn K c_Hold (.type "object") = some true)
    (na_Hold_start : PySem.W.findIn K (.ref c_Hold) "start" = some none)
    (na_Hold_goal : PySem.W.findIn K (.ref c_Hold) "goal" = some none)
    (na_Hold_size : PySem.W.findIn K (.ref c_Hold) "size" = some none)
    (tt2 : PySem.W.specialIn K (.builtin "object.__class__") "__get__" = some (some (.builtin "getset_descriptor.__get__")))
    (tt3 : PySem.W.takesIn K (.builtin "object.__class__") = some true)
    (isR_Piece : PySem.W.kitOne K (.ref c_Piece) (.ref c_Row) = some true)
    (isR_Push : PySem.W.kitOne K (.ref c_Push) (.ref c_Row) = some true)
    (isR_Hold : PySem.W.kitOne K (.ref c_Hold) (.ref c_Row) = some true)
    (isK_Piece_Push : PySem.W.kitOne K (.ref c_Piece) (.ref c_Push) = some false)
    (isK_Piece_Hold : PySem.W.kitOne K (.ref c_Piece) (.ref c_Hold) = some false)
    (isK_Push_Piece : PySem.W.kitOne K (.ref c_Push) (.ref c_Piece) = some false)
    (isK_Push_Hold : PySem.W.kitOne K (.ref c_Push) (.ref c_Hold) = some false)
    (isK_Hold_Piece : PySem.W.kitOne K (.ref c_Hold) (.ref c_Piece) = some false)
    (isK_Hold_Push : PySem.W.kitOne K (.ref c_Hold) (.ref c_Push) = some false)
    (pg_Net : PySem.W.plainGet K c_Net Str.empty = true)
    (hd_Net : PySem.W.hasDictIn K c_Net = true)
    (po_Net : PySem.W.plainOver K c_Net = true)
    (sa_Net : PySem.W.findIn K (.ref c_Net) "__setattr__" = some (some (.builtin "object.__setattr__")))
    (mk_Net : PySem.W.makesIn K c_Net = true)
    (kc_Net : PySem.W.keepIn K (.ref c_Net) = true)
    (t1_Net : PySem.W.findIn K (.ref c_Net) "__class__" = some (some (.builtin "object.__class__")))
    (t4_Net : PySem.W.mroIn K c_Net (.type "object") = some true)
    (na_Net_point_count : PySem.W.findIn K (.ref c_Net) "point_count" = some none)
    (na_Net_kept : PySem.W.findIn K (.ref c_Net) "kept" = some none)
    (x1_NoRow : PySem.W.excIn K c_NoRow bmVE "ValueError.__new__" = true)
    (x2_NoRow : PySem.W.findIn K (.ref c_NoRow) "__getattribute__" = some (some (.builtin "BaseException.__getattribute__")))
    (x3_NoRow : PySem.W.findIn K (.ref c_NoRow) "__getattr__" = some none)
    (x4_NoRow : PySem.W.mroIn K c_NoRow (.type "BaseException") = some true)
    (x5_NoRow : PySem.W.mroIn K c_NoRow (.type "object") = some true)
    (x6_NoRow : PySem.W.findIn K (.ref c_NoRow) "__class__" = some (some (.builtin "object.__class__")))
    (x7_NoRow : PySem.W.specialIn K (.builtin "object.__class__") "__get__" = some (some (.builtin "getset_descriptor.__get__")))
    (x8_NoRow : PySem.W.takesIn K (.builtin "object.__class__") = some true)
    (x9_NoRow : (PySem.W.clsIn K c_NoRow).isSome = true)
    (x1_NoName : PySem.W.excIn K c_NoName bmVE "ValueError.__new__" = true)
    (x2_NoName : PySem.W.findIn K (.ref c_NoName) "__getattribute__" = some (some (.builtin "BaseException.__getattribute__")))
    (x3_NoName : PySem.W.findIn K (.ref c_NoName) "__getattr__" = some none)
    (x4_NoName : PySem.W.mroIn K c_NoName (.type "BaseException") = some true)
    (x5_NoName : PySem.W.mroIn K c_NoName (.type "object") = some true)
    (x6_NoName : PySem.W.findIn K (.ref c_NoName) "__class__" = some (some (.builtin "object.__class__")))
    (x7_NoName : PySem.W.specialIn K (.builtin "object.__class__") "__get__" = some (some (.builtin "getset_descriptor.__get__")))
    (x8_NoName : PySem.W.takesIn K (.builtin "object.__class__") = some true)
    (x9_NoName : (PySem.W.clsIn K c_NoName).isSome = true)
    (x1_NoNumber : PySem.W.excIn K c_NoNumber bmVE "ValueError.__new__" = true)
    (x2_NoNumber : PySem.W.findIn K (.ref c_NoNumber) "__getattribute__" = some (some (.builtin "BaseException.__getattribute__")))
    (x3_NoNumber : PySem.W.findIn K (.ref c_NoNumber) "__getattr__" = some none)
    (x4_NoNumber : PySem.W.mroIn K c_NoNumber (.type "BaseException") = some true)
    (x5_NoNumber : PySem.W.mroIn K c_NoNumber (.type "object") = some true)
    (x6_NoNumber : PySem.W.findIn K (.ref c_NoNumber) "__class__" = some (some (.builtin "object.__class__")))
    (x7_NoNumber : PySem.W.specialIn K (.builtin "object.__class__") "__get__" = some (some (.builtin "getset_descriptor.__get__")))
    (x8_NoNumber : PySem.W.takesIn K (.builtin "object.__class__") = some true)
    (x9_NoNumber : (PySem.W.clsIn K c_NoNumber).isSome = true)
    (x1_NoSize : PySem.W.excIn K c_NoSize bmVE "ValueError.__new__" = true)
    (x2_NoSize : PySem.W.findIn K (.ref c_NoSize) "__getattribute__" = some (some (.builtin "BaseException.__getattribute__")))
    (x3_NoSize : PySem.W.findIn K (.ref c_NoSize) "__getattr__" = some none)
    (x4_NoSize : PySem.W.mroIn K c_NoSize (.type "BaseException") = some true)
    (x5_NoSize : PySem.W.mroIn K c_NoSize (.type "object") = some true)
    (x6_NoSize : PySem.W.findIn K (.ref c_NoSize) "__class__" = some (some (.builtin "object.__class__")))
    (x7_NoSize : PySem.W.specialIn K (.builtin "object.__class__") "__get__" = some (some (.builtin "getset_descriptor.__get__")))
    (x8_NoSize : PySem.W.takesIn K (.builtin "object.__class__") = some true)
    (x9_NoSize : (PySem.W.clsIn K c_NoSize).isSome = true)
    (x1_NoPoint : PySem.W.excIn K c_NoPoint bmVE "ValueError.__new__" = true)
    (x2_NoPoint : PySem.W.findIn K (.ref c_NoPoint) "__getattribute__" = some (some (.builtin "BaseException.__getattribute__")))
    (x3_NoPoint : PySem.W.findIn K (.ref c_NoPoint) "__getattr__" = some none)
    (x4_NoPoint : PySem.W.mroIn K c_NoPoint (.type "BaseException") = some true)
    (x5_NoPoint : PySem.W.mroIn K c_NoPoint (.type "object") = some true)
    (x6_NoPoint : PySem.W.findIn K (.ref c_NoPoint) "__class__" = some (some (.builtin "object.__class__")))
    (x7_NoPoint : PySem.W.specialIn K (.builtin "object.__class__") "__get__" = some (some (.builtin "getset_descriptor.__get__")))
    (x8_NoPoint : PySem.W.takesIn K (.builtin "object.__class__") = some true)
    (x9_NoPoint : (PySem.W.clsIn K c_NoPoint).isSome = true)
    (xm_P : PySem.W.exmOne K (.ref c_NoPoint) (.ref c_NoPoint) = some true)
    (nd : PySem.W.nsIn K cStatics "sys.int_max_str_digits" = some none)
    (q1_r : PySem.W.exmOne K (.ref c_NoRow) (.ref c_OhmError) = some true)
    (qn_r : PySem.W.kitOne K (.type "NoneType") (.ref c_NoRow) = some false)
    (qa_r : PySem.W.kitAny K (.ref c_NoRow) [.ref c_NoName, .ref c_NoNumber, .ref c_NoSize] = some false)
    (qk_rm : PySem.W.kitOne K (.ref c_NoRow) (.ref c_NoName) = some false)
    (qk_ru : PySem.W.kitOne K (.ref c_NoRow) (.ref c_NoNumber) = some false)
    (qk_rz : PySem.W.kitOne K (.ref c_NoRow) (.ref c_NoSize) = some false)
    (q1_m : PySem.W.exmOne K (.ref c_NoName) (.ref c_OhmError) = some true)
    (qn_m : PySem.W.kitOne K (.type "NoneType") (.ref c_NoName) = some false)
    (qa_m : PySem.W.kitAny K (.ref c_NoName) [.ref c_NoRow, .ref c_NoNumber, .ref c_NoSize] = some false)
    (qk_mr : PySem.W.kitOne K (.ref c_NoName) (.ref c_NoRow) = some false)
    (qk_mu : PySem.W.kitOne K (.ref c_NoName) (.ref c_NoNumber) = some false)
    (qk_mz : PySem.W.kitOne K (.ref c_NoName) (.ref c_NoSize) = some false)
    (q1_u : PySem.W.exmOne K (.ref c_NoNumber) (.ref c_OhmError) = some true)
    (qn_u : PySem.W.kitOne K (.type "NoneType") (.ref c_NoNumber) = some false)
    (qa_u : PySem.W.kitAny K (.ref c_NoNumber) [.ref c_NoRow, .ref c_NoName, .ref c_NoSize] = some false)
    (qk_ur : PySem.W.kitOne K (.ref c_NoNumber) (.ref c_NoRow) = some false)
    (qk_um : PySem.W.kitOne K (.ref c_NoNumber) (.ref c_NoName) = some false)
    (qk_uz : PySem.W.kitOne K (.ref c_NoNumber) (.ref c_NoSize) = some false)
    (q1_z : PySem.W.exmOne K (.ref c_NoSize) (.ref c_OhmError) = some true)
    (qn_z : PySem.W.kitOne K (.type "NoneType") (.ref c_NoSize) = some false)
    (qa_z : PySem.W.kitAny K (.ref c_NoSize) [.ref c_NoRow, .ref c_NoName, .ref c_NoNumber] = some false)
    (qk_zr : PySem.W.kitOne K (.ref c_NoSize) (.ref c_NoRow) = some false)
    (qk_zm : PySem.W.kitOne K (.ref c_NoSize) (.ref c_NoName) = some false)
    (qk_zu : PySem.W.kitOne K (.ref c_NoSize) (.ref c_NoNumber) = some false)
    (pg_Plan : PySem.W.plainGet K c_Plan Str.empty = true)
    (hd_Plan : PySem.W.hasDictIn K c_Plan = true)
    (po_Plan : PySem.W.plainOver K c_Plan = true)
    (sa_Plan : PySem.W.findIn K (.ref c_Plan) "__setattr__" = some (some (.builtin "object.__setattr__")))
    (mk_Plan : PySem.W.makesIn K c_Plan = true)
    (kc_Plan : PySem.W.keepIn K (.ref c_Plan) = true)
    (na_Plan_labels : PySem.W.findIn K (.ref c_Plan) "labels" = some none)
    (na_Plan_end_count : PySem.W.findIn K (.ref c_Plan) "end_count" = some none)
    (na_Plan_entries : PySem.W.findIn K (.ref c_Plan) "entries" = some none)
    (na_Plan_put_names : PySem.W.findIn K (.ref c_Plan) "put_names" = some none)
    (pg_Yard : PySem.W.plainGet K c_Yard Str.empty = true)
    (hd_Yard : PySem.W.hasDictIn K c_Yard = true)
    (po_Yard : PySem.W.plainOver K c_Yard = true)
    (sa_Yard : PySem.W.findIn K (.ref c_Yard) "__setattr__" = some (some (.builtin "object.__setattr__")))
    (mk_Yard : PySem.W.makesIn K c_Yard = true)
    (kc_Yard : PySem.W.keepIn K (.ref c_Yard) = true)
    (na_Yard_ground : PySem.W.findIn K (.ref c_Yard) "ground" = some none)
    (na_Yard_parts : PySem.W.findIn K (.ref c_Yard) "parts" = some none)
    (na_Yard_opened : PySem.W.findIn K (.ref c_Yard) "opened" = some none)
    (na_Yard_opened_plan : PySem.W.findIn K (.ref c_Yard) "opened_plan" = some none)
    (z1 : PySem.W.nsIn K mainGlobals "isinstance" = some none)
    (z2 : PySem.W.nsIn K mainGlobals "int" = some none)
    (z3 : PySem.W.nsIn K mainGlobals "bool" = some none)
    (z4 : PySem.W.nsIn K mainGlobals "abs" = some none)
    (z5 : PySem.W.nsIn K mainGlobals "len" = some none)
    (z6 : PySem.W.nsIn K mainGlobals "range" = some none)
    (z7 : PySem.W.nsIn K mainGlobals "str" = some none)
    (z8 : PySem.W.nsIn K mainGlobals "tuple" = some none)
    (z9 : PySem.W.nsIn K mainGlobals "list" = some none)
    (z10 : PySem.W.nsIn K mainGlobals "all" = some none) :
    ∃ fd : FuncData, (∀ (s : Shared) (v : Value), BindsTo s fd ⟨[v], []⟩ [("_law_script", v)]) ∧ ∀ base : Heap, K.In base → base.Ns mainGlobals mg → FnOk l.prog w K mg base CX0 10 fa fd ["_law_script"] (spLaw K) := by
  have e := hfa.symm.trans (PySem.W.mg_of X G a53)
  cases e
  have mc_OhmError := PySem.W.mg_of X G y_OhmError
  have mc_NoRow := PySem.W.mg_of X G y_NoRow
  have mc_NoName := PySem.W.mg_of X G y_NoName
  have mc_NoNumber := PySem.W.mg_of X G y_NoNumber
  have mc_NoSize := PySem.W.mg_of X G y_NoSize
  have mc_NoPoint := PySem.W.mg_of X G y_NoPoint
  have mc_Row := PySem.W.mg_of X G y_Row
  have mc_Piece := PySem.W.mg_of X G y_Piece
  have mc_Push := PySem.W.mg_of X G y_Push
  have mc_Hold := PySem.W.mg_of X G y_Hold
  have mc_Net := PySem.W.mg_of X G y_Net
  have mc_Plan := PySem.W.mg_of X G y_Plan
  have mc_Yard := PySem.W.mg_of X G y_Yard
  have F1 := fund_mk (st := sWhole) l1 c1 k1
  have m1 := PySem.W.mg_of X G a1
  have b1 := F1.binds (ps := ["thing"]) fun _ _ _ _ _ _ us hl => match us, hl with | [_], _ => rfl
  have F2 := fund_mk (st := sGc) l2 c2 k2
  have m2 := PySem.W.mg_of X G a2
  have b2 := F2.binds (ps := ["one", "other"]) fun _ _ _ _ _ _ us hl => match us, hl with | [_, _], _ => rfl
  have F3 := fund_mk (st := sUnder) l3 c3 k3
  have m3 := PySem.W.mg_of X G a3
  have b3 := F3.binds (ps := ["one", "other"]) fun _ _ _ _ _ _ us hl => match us, hl with | [_, _], _ => rfl
  have F4 := fund_mk (st := sFrac) l4 c4 k4
  have m4 := PySem.W.mg_of X G a4
  have b4 : Binds K _ ["top", "bottom"] [] := fun s us XX hl => match us, hl with | [_, _], _ => PySem.W.binds_K (fd := PySem.W.fnOf "fraction" "fraction" (defArgs sFrac) (defBody sFrac) (defScope sFrac) (.ref T4) kV4 dc4 pm4 an4 cd4 ct4) XX rfl lt4 rfl rfl rfl
  have bd4 : Binds K _ ["top", "bottom"] [.int 1 tk4] := fun s us XX hl => match us, (show us.length = 1 by simp at hl; omega) with | [_], _ => PySem.W.binds_K (fd := PySem.W.fnOf "fraction" "fraction" (defArgs sFrac) (defBody sFrac) (defScope sFrac) (.ref T4) kV4 dc4 pm4 an4 cd4 ct4) XX rfl lt4 rfl rfl rfl
  have F5 := fund_mk (st := sShow) l5 c5 k5
  have m5 := PySem.W.mg_of X G a5
  have b5 := F5.binds (ps := ["one"]) fun _ _ _ _ _ _ us hl => match us, hl with | [_], _ => rfl
  have F6 := fund_mk (st := sNosign) l6 c6 k6
  have m6 := PySem.W.mg_of X G a6
  have b6 := F6.binds (ps := ["text"]) fun _ _ _ _ _ _ us hl => match us, hl with | [_], _ => rfl
  have F7 := fund_mk (st := sFigs) l7 c7 k7
  have m7 := PySem.W.mg_of X G a7
  have b7 := F7.binds (ps := ["text"]) fun _ _ _ _ _ _ us hl => match us, hl with | [_], _ => rfl
  have F8 := fund_mk (st := sRead) l8 c8 k8
  have m8 := PySem.W.mg_of X G a8
  have b8 := F8.binds (ps := ["text"]) fun _ _ _ _ _ _ us hl => match us, hl with | [_], _ => rfl
  have F9 := fund_mk (st := sIsF) l9 c9 k9
  have m9 := PySem.W.mg_of X G a9
  have b9 := F9.binds (ps := ["thing"]) fun _ _ _ _ _ _ us hl => match us, hl with | [_], _ => rfl
  have F10 := fund_mk (st := sRInit) l10 c10 k10
  have b10 := F10.binds (ps := ["self", "start", "goal", "size"]) fun _ _ _ _ _ _ us hl => match us, hl with | [_, _, _, _], _ => rfl
  have F11 := fund_mk (st := sWord_pc) l11 c11 k11
  have b11 := F11.binds (ps := ["self"]) fun _ _ _ _ _ _ us hl => match us, hl with | [_], _ => rfl
  have F12 := fund_mk (st := sWord_pu) l12 c12 k12
  have b12 := F12.binds (ps := ["self"]) fun _ _ _ _ _ _ us hl => match us, hl with | [_], _ => rfl
  have F13 := fund_mk (st := sWord_ho) l13 c13 k13
  have b13 := F13.binds (ps := ["self"]) fun _ _ _ _ _ _ us hl => match us, hl with | [_], _ => rfl
  have F14 := fund_mk (st := sRTold) l14 c14 k14
  have b14 := F14.binds (ps := ["self"]) fun _ _ _ _ _ _ us hl => match us, hl with | [_], _ => rfl
  have F15 := fund_mk (st := sRowOf) l15 c15 k15
  have m15 := PySem.W.mg_of X G a15
  have b15 := F15.binds (ps := ["told"]) fun _ _ _ _ _ _ us hl => match us, hl with | [_], _ => rfl
  have F16 := fund_mk (st := sPS) l16 c16 k16
  have m16 := PySem.W.mg_of X G a16
  have b16 := F16.binds (ps := ["thing"]) fun _ _ _ _ _ _ us hl => match us, hl with | [_], _ => rfl
  have F17 := fund_mk (st := sNB) l17 c17 k17
  have m17 := PySem.W.mg_of X G a17
  have b17 := F17.binds (ps := ["thing", "bound"]) fun _ _ _ _ _ _ us hl => match us, hl with | [_, _], _ => rfl
  have F18 := fund_mk (st := sRS) l18 c18 k18
  have m18 := PySem.W.mg_of X G a18
  have b18 := F18.binds (ps := ["word", "size"]) fun _ _ _ _ _ _ us hl => match us, hl with | [_, _], _ => rfl
  have F19 := fund_mk (st := sRP) l19 c19 k19
  have m19 := PySem.W.mg_of X G a19
  have b19 := F19.binds (ps := ["some", "many"]) fun _ _ _ _ _ _ us hl => match us, hl with | [_, _], _ => rfl
  have F20 := fund_mk (st := sNInit) l20 c20 k20
  have b20 := F20.binds (ps := ["self", "many"]) fun _ _ _ _ _ _ us hl => match us, hl with | [_, _], _ => rfl
  have F21 := fund_mk (st := sMany) l21 c21 k21
  have b21 := F21.binds (ps := ["self"]) fun _ _ _ _ _ _ us hl => match us, hl with | [_], _ => rfl
  have F22 := fund_mk (st := sAdd) l22 c22 k22
  have b22 := F22.binds (ps := ["self", "row"]) fun _ _ _ _ _ _ us hl => match us, hl with | [_, _], _ => rfl
  have F23 := fund_mk (st := sNTold) l23 c23 k23
  have b23 := F23.binds (ps := ["self"]) fun _ _ _ _ _ _ us hl => match us, hl with | [_], _ => rfl
  have F24 := fund_mk (st := sName) l24 c24 k24
  have m24 := PySem.W.mg_of X G a24
  have b24 := F24.binds (ps := ["thing"]) fun _ _ _ _ _ _ us hl => match us, hl with | [_], _ => rfl
  have F25 := fund_mk (st := sRNames) l25 c25 k25
  have m25 := PySem.W.mg_of X G a25
  have b25 := F25.binds (ps := ["words"]) fun _ _ _ _ _ _ us hl => match us, hl with | [_], _ => rfl
  have F26 := fund_mk (st := sWords) l26 c26 k26
  have m26 := PySem.W.mg_of X G a26
  have b26 := F26.binds (ps := ["row"]) fun _ _ _ _ _ _ us hl => match us, hl with | [_], _ => rfl
  have F27 := fund_mk (st := sForm) l27 c27 k27
  have m27 := PySem.W.mg_of X G a27
  have b27 := F27.binds (ps := ["word", "count"]) fun _ _ _ _ _ _ us hl => match us, hl with | [_, _], _ => rfl
  have F28 := fund_mk (st := sRForm) l28 c28 k28
  have m28 := PySem.W.mg_of X G a28
  have b28 := F28.binds (ps := ["words"]) fun _ _ _ _ _ _ us hl => match us, hl with | [_], _ => rfl
  have F29 := fund_mk (st := sPInit) l29 c29 k29
  have b29 := F29.binds (ps := ["self", "labels", "end_count"]) fun _ _ _ _ _ _ us hl => match us, hl with | [_, _, _], _ => rfl
  have F30 := fund_mk (st := sPCopy) l30 c30 k30
  have b30 := F30.binds (ps := ["self"]) fun _ _ _ _ _ _ us hl => match us, hl with | [_], _ => rfl
  have F31 := fund_mk (st := sPlace) l31 c31 k31
  have b31 := F31.binds (ps := ["self", "label"]) fun _ _ _ _ _ _ us hl => match us, hl with | [_, _], _ => rfl
  have F32 := fund_mk (st := sEnter) l32 c32 k32
  have b32 := F32.binds (ps := ["self", "word", "start", "goal", "size"]) fun _ _ _ _ _ _ us hl => match us, hl with | [_, _, _, _, _], _ => rfl
  have F33 := fund_mk (st := sOver) l33 c33 k33
  have b33 := F33.binds (ps := ["self"]) fun _ _ _ _ _ _ us hl => match us, hl with | [_], _ => rfl
  have F34 := fund_mk (st := sPNet) l34 c34 k34
  have b34 := F34.binds (ps := ["self"]) fun _ _ _ _ _ _ us hl => match us, hl with | [_], _ => rfl
  have F35 := fund_mk (st := sROver) l35 c35 k35
  have m35 := PySem.W.mg_of X G a35
  have b35 := F35.binds (ps := ["plan"]) fun _ _ _ _ _ _ us hl => match us, hl with | [_], _ => rfl
  have F36 := fund_mk (st := sYInit) l36 c36 k36
  have b36 := F36.binds (ps := ["self"]) fun _ _ _ _ _ _ us hl => match us, hl with | [_], _ => rfl
  have F37 := fund_mk (st := sCoT) l37 c37 k37
  have b37 := F37.binds (ps := ["self"]) fun _ _ _ _ _ _ us hl => match us, hl with | [_], _ => rfl
  have F38 := fund_mk (st := sKeep) l38 c38 k38
  have b38 := F38.binds (ps := ["self", "plan"]) fun _ _ _ _ _ _ us hl => match us, hl with | [_, _], _ => rfl
  have F39 := fund_mk (st := sNames) l39 c39 k39
  have b39 := F39.binds (ps := ["self"]) fun _ _ _ _ _ _ us hl => match us, hl with | [_], _ => rfl
  have F40 := fund_mk (st := sYNet) l40 c40 k40
  have b40 := F40.binds (ps := ["self"]) fun _ _ _ _ _ _ us hl => match us, hl with | [_], _ => rfl
  have F41 := fund_mk (st := sERow) l41 c41 k41
  have b41 := F41.binds (ps := ["self", "words"]) fun _ _ _ _ _ _ us hl => match us, hl with | [_, _], _ => rfl
  have F42 := fund_mk (st := sTell) l42 c42 k42
  have b42 := F42.binds (ps := ["self", "row"]) fun _ _ _ _ _ _ us hl => match us, hl with | [_, _], _ => rfl
  have F43 := fund_mk (st := sPick) l43 c43 k43
  have m43 := PySem.W.mg_of X G a43
  have b43 := F43.binds (ps := ["_law_script", "_law_k"]) fun _ _ _ _ _ _ us hl => match us, hl with | [_, _], _ => rfl
  have F44 := fund_mk (st := sMix) l44 c44 k44
  have m44 := PySem.W.mg_of X G a44
  have b44 := F44.binds (ps := ["_law_cell", "_law_prime", "_law_many"]) fun _ _ _ _ _ _ us hl => match us, hl with | [_, _, _], _ => rfl
  have F45 := fund_mk (st := sDiv) l45 c45 k45
  have m45 := PySem.W.mg_of X G a45
  have b45 := F45.binds (ps := ["_law_one", "_law_other"]) fun _ _ _ _ _ _ us hl => match us, hl with | [_, _], _ => rfl
  have F46 := fund_mk (st := sSize) l46 c46 k46
  have m46 := PySem.W.mg_of X G a46
  have b46 := F46.binds (ps := ["_law_cell", "_law_word"]) fun _ _ _ _ _ _ us hl => match us, hl with | [_, _], _ => rfl
  have F47 := fund_mk (st := sShown) l47 c47 k47
  have m47 := PySem.W.mg_of X G a47
  have b47 := F47.binds (ps := ["_law_size_here"]) fun _ _ _ _ _ _ us hl => match us, hl with | [_], _ => rfl
  have F48 := fund_mk (st := sNameL) l48 c48 k48
  have m48 := PySem.W.mg_of X G a48
  have b48 := F48.binds (ps := ["_law_k", "_law_cell"]) fun _ _ _ _ _ _ us hl => match us, hl with | [_, _], _ => rfl
  have F49 := fund_mk (st := sBad) l49 c49 k49
  have m49 := PySem.W.mg_of X G a49
  have b49 := F49.binds (ps := ["_law_cell", "_law_one", "_law_other"]) fun _ _ _ _ _ _ us hl => match us, hl with | [_, _, _], _ => rfl
  have F50 := fund_mk (st := sTold) l50 c50 k50
  have m50 := PySem.W.mg_of X G a50
  have b50 := F50.binds (ps := ["_law_yard", "_law_row"]) fun _ _ _ _ _ _ us hl => match us, hl with | [_, _], _ => rfl
  have F51 := fund_mk (st := sNoNet) l51 c51 k51
  have m51 := PySem.W.mg_of X G a51
  have b51 := F51.binds (ps := ["_law_yard"]) fun _ _ _ _ _ _ us hl => match us, hl with | [_], _ => rfl
  have F52 := fund_mk (st := sLook) l52 c52 k52
  have m52 := PySem.W.mg_of X G a52
  have b52 := F52.binds (ps := ["_law_yard", "_law_names", "_law_rows"]) fun _ _ _ _ _ _ us hl => match us, hl with | [_, _, _], _ => rfl
  have F53 := fund_mk (st := sLaw) l53 c53 k53
  have m53 := PySem.W.mg_of X G a53
  have b53 := F53.binds (ps := ["_law_script"]) fun _ _ _ _ _ _ us hl => match us, hl with | [_], _ => rfl
  have mv_NOUGHT := PySem.W.mg_of X G v_NOUGHT
  have mv_ROW_WORDS := PySem.W.mg_of X G v_ROW_WORDS
  have mv_MOST_POINTS := PySem.W.mg_of X G v_MOST_POINTS
  have mv_MOST_ROWS := PySem.W.mg_of X G v_MOST_ROWS
  have mv_FIGURES := PySem.W.mg_of X G v_FIGURES
  have mv_MOST_FIGURES := PySem.W.mg_of X G v_MOST_FIGURES
  have mv_LETTERS := PySem.W.mg_of X G v_LETTERS
  have mv_MOST_LETTERS := PySem.W.mg_of X G v_MOST_LETTERS
  have n_isinstance := PySem.W.mg_none_of X G z1
  have n_int := PySem.W.mg_none_of X G z2
  have n_bool := PySem.W.mg_none_of X G z3
  have n_abs := PySem.W.mg_none_of X G z4
  have n_len := PySem.W.mg_none_of X G z5
  have n_range := PySem.W.mg_none_of X G z6
  have n_str := PySem.W.mg_none_of X G z7
  have n_tuple := PySem.W.mg_none_of X G z8
  have n_list := PySem.W.mg_none_of X G z9
  have n_all := PySem.W.mg_none_of X G z10
  refine ⟨PySem.W.fnOf "law" "law" (defArgs sLaw) (defBody sLaw) (defScope sLaw) .none kV53 dc53 pm53 an53 cd53 ct53, fun s v => .of_eq rfl, fun base _ _ => ?_⟩
  have bl : Bl mg := ⟨n_isinstance, n_int, n_bool, n_abs⟩
  have T : RT K mg c_Row (kd3 c_Piece c_Push c_Hold) := ⟨all3 ⟨pg_Piece, hd_Piece, po_Piece, sa_Piece⟩ ⟨pg_Push, hd_Push, po_Push, sa_Push⟩ ⟨pg_Hold, hd_Hold, po_Hold, sa_Hold⟩, all3 na_Piece_start na_Push_start na_Hold_start, all3 na_Piece_goal na_Push_goal na_Hold_goal, all3 na_Piece_size na_Push_size na_Hold_size, all3 t1_Piece t1_Push t1_Hold, tt2, tt3, all3 t4_Piece t4_Push t4_Hold, all3 isR_Piece isR_Push isR_Hold, all3 (all3 (kit_self _ _) isK_Piece_Push isK_Piece_Hold) (all3 isK_Push_Piece (kit_self _ _) isK_Push_Hold) (all3 isK_Hold_Piece isK_Hold_Push (kit_self _ _)), mc_Row, all3 mc_Piece mc_Push mc_Hold⟩
  have fN : ∀ H, Fq K H aN (0, 1) := Fq.mod lN
  have hW := mod3 lW
  have NTx : NT K mg c_Net := ⟨⟨pg_Net, hd_Net, po_Net, sa_Net⟩, na_Net_point_count, na_Net_kept, t1_Net, tt2, tt3, t4_Net, mc_Net⟩
  have PTx : PlT K mg c_Plan := ⟨⟨pg_Plan, hd_Plan, po_Plan, sa_Plan⟩, na_Plan_labels, na_Plan_end_count, na_Plan_entries, na_Plan_put_names, mc_Plan⟩
  have YTx : YaT K mg c_Yard := ⟨⟨pg_Yard, hd_Yard, po_Yard, sa_Yard⟩, na_Yard_ground, na_Yard_parts, na_Yard_opened, na_Yard_opened_plan, mc_Yard⟩
  have ec : ErrC K mg (ek4 c_NoRow c_NoName c_NoNumber c_NoSize) := ⟨(fun e => match e with | .r => ⟨x2_NoRow, x3_NoRow, x4_NoRow, x5_NoRow, x6_NoRow, x7_NoRow, x8_NoRow, x9_NoRow⟩ | .m => ⟨x2_NoName, x3_NoName, x4_NoName, x5_NoName, x6_NoName, x7_NoName, x8_NoName, x9_NoName⟩ | .u => ⟨x2_NoNumber, x3_NoNumber, x4_NoNumber, x5_NoNumber, x6_NoNumber, x7_NoNumber, x8_NoNumber, x9_NoNumber⟩ | .z => ⟨x2_NoSize, x3_NoSize, x4_NoSize, x5_NoSize, x6_NoSize, x7_NoSize, x8_NoSize, x9_NoSize⟩), mc_NoRow, mc_NoName, mc_NoNumber, mc_NoSize, ⟨_, mc_OhmError, (fun e => match e with | .r => q1_r | .m => q1_m | .u => q1_u | .z => q1_z)⟩, (fun e e' h => match e, e', h with | .r, .r, h => absurd rfl h | .r, .m, _ => qk_rm | .r, .u, _ => qk_ru | .r, .z, _ => qk_rz | .m, .r, _ => qk_mr | .m, .m, h => absurd rfl h | .m, .u, _ => qk_mu | .m, .z, _ => qk_mz | .u, .r, _ => qk_ur | .u, .m, _ => qk_um | .u, .u, h => absurd rfl h | .u, .z, _ => qk_uz | .z, .r, _ => qk_zr | .z, .m, _ => qk_zm | .z, .u, _ => qk_zu | .z, .z, h => absurd rfl h), (fun e => match e with | .r => qa_r | .m => qa_m | .u => qa_u | .z => qa_z), (fun e => match e with | .r => qn_r | .m => qn_m | .u => qn_u | .z => qn_z)⟩
  have R1 := ok_whole (P := l.prog) (w := w) (K := K) (mg := mg) (base := base) (CX := CX0) F1 bl
  have R2 := ok_gc (P := l.prog) (w := w) (K := K) (mg := mg) (base := base) (CX := CX0) F2 bl
  have R3 := ok_under (P := l.prog) (w := w) (K := K) (mg := mg) (base := base) (CX := CX0) F3 
  have R4 := ok_frac (P := l.prog) (w := w) (K := K) (mg := mg) (base := base) F4  R1 b1 k1 m1 R2 b2 k2 m2 mc_NoNumber x1_NoNumber
  have R5 := ok_show (P := l.prog) (w := w) (K := K) (mg := mg) (base := base) (CX := CX0) F5 n_str nd
  have R6 := ok_nosign (P := l.prog) (w := w) (K := K) (mg := mg) (base := base) (CX := CX0) F6 
  have R7 := ok_figs (P := l.prog) (w := w) (K := K) (mg := mg) (base := base) (CX := CX0) F7 n_len n_all mv_FIGURES mv_MOST_FIGURES
  have R8 := ok_read (P := l.prog) (w := w) (K := K) (mg := mg) (base := base) F8 bl n_str R6 b6 k6 m6 R7 b7 k7 m7 R4 b4 k4 m4 R5 b5 k5 m5 mc_NoNumber x1_NoNumber
  have R9 := ok_isf (P := l.prog) (w := w) (K := K) (mg := mg) (base := base) (CX := CX0) F9 bl n_len n_tuple R1 b1 k1 m1 R2 b2 k2 m2
  have R10 := ok_rinit (P := l.prog) (w := w) (K := K) (mg := mg) (base := base) (CX := CX0) F10 T
  have R11 := ok_word_pc (P := l.prog) (w := w) (K := K) (mg := mg) (base := base) (CX := CX0) F11 
  have R12 := ok_word_pu (P := l.prog) (w := w) (K := K) (mg := mg) (base := base) (CX := CX0) F12 
  have R13 := ok_word_ho (P := l.prog) (w := w) (K := K) (mg := mg) (base := base) (CX := CX0) F13 
  have GW : ∀ k, FnOk l.prog w K mg base CX0 1 (kd3 f11 f12 f13 k) (kd3 _ _ _ k) ["self"] (spWord k) := all3 (R11) (R12) (R13)
  have bW : ∀ k, Binds K (kd3 _ _ _ k) ["self"] [] := all3 (b11) (b12) (b13)
  have mW : ∀ k, Meth K (kd3 c_Piece c_Push c_Hold k) "word" (kd3 f11 f12 f13 k) := all3 (⟨a11_0, i11, k11⟩) (⟨a12_0, i12, k12⟩) (⟨a13_0, i13, k13⟩)
  have R14 := ok_rtold (P := l.prog) (w := w) (K := K) (mg := mg) (base := base) (CX := CX0) F14 T GW bW mW
  have mT : ∀ k, Meth K (kd3 c_Piece c_Push c_Hold k) "told" f14 := all3 (⟨a14_0, i14, k14⟩) (⟨a14_1, i14, k14⟩) (⟨a14_2, i14, k14⟩)
  have MK : ∀ k, Mk K (kd3 c_Piece c_Push c_Hold k) f10 := all3 (⟨mk_Piece, a10_0, i10, kc_Piece⟩) (⟨mk_Push, a10_1, i10, kc_Push⟩) (⟨mk_Hold, a10_2, i10, kc_Hold⟩)
  have R15 := ok_rowof (P := l.prog) (w := w) (K := K) (mg := mg) (base := base) (CX := CX0) F15 T bl n_str R10 b10 MK
  have R16 := ok_ps (P := l.prog) (w := w) (K := K) (mg := mg) (base := base) (CX := CX0) F16 fN mv_NOUGHT R9 b9 k9 m9 R3 b3 k3 m3
  have R17 := ok_nb (P := l.prog) (w := w) (K := K) (mg := mg) (base := base) (CX := CX0) F17  R1 b1 k1 m1
  have R18 := ok_rs (P := l.prog) (w := w) (K := K) (mg := mg) (base := base) F18  R9 b9 k9 m9 R16 b16 k16 m16 mc_NoSize x1_NoSize
  have R19 := ok_rp (P := l.prog) (w := w) (K := K) (mg := mg) (base := base) (CX := CX0) F19 n_all R17 b17 k17 m17
  have R20 := ok_ninit (P := l.prog) (w := w) (K := K) (mg := mg) (base := base) F20 NTx mc_NoPoint x1_NoPoint mv_MOST_POINTS R1 b1 k1 m1
  have R21 := ok_many (P := l.prog) (w := w) (K := K) (mg := mg) (base := base) (CX := CX0) F21 NTx
  have R22 := ok_add (P := l.prog) (w := w) (K := K) (mg := mg) (base := base) (CX := CX0) F22 NTx mv_MOST_ROWS n_len T R14 b14 mT R19 b19 k19 m19 (rs_good R18) b18 k18 m18
  have R23 := ok_ntold (P := l.prog) (w := w) (K := K) (mg := mg) (base := base) (CX := CX0) F23 NTx n_list
  have MN : Mk K c_Net f20 := ⟨mk_Net, a20_0, i20, kc_Net⟩
  have R24 := ok_name (P := l.prog) (w := w) (K := K) (mg := mg) (base := base) (CX := CX0) F24 bl n_str n_len n_all mv_LETTERS mv_MOST_LETTERS
  have R25 := ok_rnames (P := l.prog) (w := w) (K := K) (mg := mg) (base := base) F25 n_all R24 b24 k24 m24 mc_NoName x1_NoName
  have R26 := ok_words (P := l.prog) (w := w) (K := K) (mg := mg) (base := base) F26 bl n_str mc_NoRow x1_NoRow
  have R27 := ok_form (P := l.prog) (w := w) (K := K) (mg := mg) (base := base) (CX := CX0) F27 hW mv_ROW_WORDS
  have R28 := ok_rform (P := l.prog) (w := w) (K := K) (mg := mg) (base := base) F28 n_len R27 b27 k27 m27 mc_NoRow x1_NoRow
  have R29 := ok_pinit (P := l.prog) (w := w) (K := K) (mg := mg) (base := base) (CX := CX0) F29 PTx n_list
  have MP : Mk K c_Plan f29 := ⟨mk_Plan, a29_0, i29, kc_Plan⟩
  have R30 := ok_pcopy (P := l.prog) (w := w) (K := K) (mg := mg) (base := base) (CX := CX0) F30 PTx n_list R29 b29 MP
  have R31 := ok_place (P := l.prog) (w := w) (K := K) (mg := mg) (base := base) (CX := CX0) F31 PTx
  have R32 := ok_enter (P := l.prog) (w := w) (K := K) (mg := mg) (base := base) (CX := CX0) F32 PTx R31 b31 ⟨a31_0, i31, k31⟩
  have R33 := ok_over (P := l.prog) (w := w) (K := K) (mg := mg) (base := base) (CX := CX0) F33 PTx mv_MOST_POINTS mv_MOST_ROWS n_len
  have R34 := ok_pnet (P := l.prog) (w := w) (K := K) (mg := mg) (base := base) F34 PTx NTx n_len R20 b20 MN R22 b22 ⟨a22_0, i22, k22⟩ R15 b15 k15 m15
  have R35 := ok_rover (P := l.prog) (w := w) (K := K) (mg := mg) (base := base) (CX := CX0) F35 PTx R33 b33 ⟨a33_0, i33, k33⟩
  have R36 := ok_yinit (P := l.prog) (w := w) (K := K) (mg := mg) (base := base) (CX := CX0) F36 YTx PTx R29 b29 MP
  have MY : Mk K c_Yard f36 := ⟨mk_Yard, a36_0, i36, kc_Yard⟩
  have R37 := ok_cot (P := l.prog) (w := w) (K := K) (mg := mg) (base := base) (CX := CX0) F37 YTx PTx R30 b30 ⟨a30_0, i30, k30⟩
  have R38 := ok_keep (P := l.prog) (w := w) (K := K) (mg := mg) (base := base) (CX := CX0) F38 YTx R35 b35 k35 m35
  have R39 := ok_names (P := l.prog) (w := w) (K := K) (mg := mg) (base := base) (CX := CX0) F39 YTx PTx n_list
  have R40 := ok_ynet (P := l.prog) (w := w) (K := K) (mg := mg) (base := base) F40 YTx PTx R34 b34 ⟨a34_0, i34, k34⟩
  have R41 := ok_erow (P := l.prog) (w := w) (K := K) (mg := mg) (base := base) F41 YTx PTx R25 b25 k25 m25 R8 b8 k8 m8 R18 b18 k18 m18 R37 b37 ⟨a37_0, i37, k37⟩ R32 b32 ⟨a32_0, i32, k32⟩ R38 b38 ⟨a38_0, i38, k38⟩
  have R42 := ok_tell (P := l.prog) (w := w) (K := K) (mg := mg) (base := base) F42 YTx R26 b26 k26 m26 R28 b28 k28 m28 R41 b41 ⟨a41_0, i41, k41⟩
  have R43 := ok_pick (P := l.prog) (w := w) (K := K) (mg := mg) (base := base) (CX := CX0) F43 
  have R44 := ok_mix (P := l.prog) (w := w) (K := K) (mg := mg) (base := base) (CX := CX0) F44 
  have RmF := ok_mixF (P := l.prog) (w := w) (K := K) (mg := mg) (base := base) (CX := CX0) F44
  have R45 := ok_div (P := l.prog) (w := w) (K := K) (mg := mg) (base := base) (CX := CX0) F45 
  have R46 := ok_size (P := l.prog) (w := w) (K := K) (mg := mg) (base := base) (CX := CX0) F46  R44 b44 k44 m44 R45 b45 k45 m45
  have R47 := ok_shown (P := l.prog) (w := w) (K := K) (mg := mg) (base := base) (CX := CX0) F47 n_str nd
  have R48 := ok_namel (P := l.prog) (w := w) (K := K) (mg := mg) (base := base) (CX := CX0) F48 RmF b44 k44 m44
  have R49 := ok_bad (P := l.prog) (w := w) (K := K) (mg := mg) (base := base) (CX := CX0) F49  R44 b44 k44 m44
  have R50 := ok_told (P := l.prog) (w := w) (K := K) (mg := mg) (base := base) (CX := CX0) F50 YTx bl ec R42 b42 ⟨a42_0, i42, k42⟩
  have R51 := ok_nonet (P := l.prog) (w := w) (K := K) (mg := mg) (base := base) (CX := CX0) F51 YTx mc_NoPoint xm_P R40 b40 ⟨a40_0, i40, k40⟩ R39 b39 ⟨a39_0, i39, k39⟩
  have R52 := ok_look (P := l.prog) (w := w) (K := K) (mg := mg) (base := base) (CX := CX0) F52 YTx NTx bl n_list n_len (ynet_good R40) b40 ⟨a40_0, i40, k40⟩ R39 b39 ⟨a39_0, i39, k39⟩ R21 b21 ⟨a21_0, i21, k21⟩ R23 b23 ⟨a23_0, i23, k23⟩ R51 b51 k51 m51
  exact ok_law (P := l.prog) (w := w) (K := K) (mg := mg) (base := base) (CX := CX0) F53 YTx bl R36 b36 MY R43 b43 k43 m43 R44 b44 k44 m44 R52 b52 k52 m52 R50 b50 k50 m50 R48 b48 k48 m48 R49 b49 k49 m49 R46 b46 k46 m46 R47 b47 k47 m47
theorem walk {l : PySem.W.OpenLaw} {q : Program} {loose : List Str} {XP : (Str → Option Value) → Heap → Prop} {YP : World → Heap → Prop} {d : DefRec} {K : Params → PySem.W.Frag} (hn : l.most = some 63) (hdf : d.params.defaults = [])
    (hY : ∀ (w : World) (h : Heap), YP w h → (K w.params).In h)
    (F : ∀ (w : World) (mg : Str → Option Value) (fa : Addr) (h : Heap), (K w.params).In h → h.Ns mainGlobals mg → mg d.name = some (.ref fa) →
      ∃ fd : FuncData, (∀ (s : Shared) (u : Value), BindsTo s fd ⟨[u], []⟩ [("_law_script", u)]) ∧ ∀ base : Heap, (K w.params).In base → base.Ns mainGlobals mg → FnOk l.prog w (K w.params) mg base CX0 10 fa fd ["_law_script"] (spLaw (K w.params))) :
    PySem.W.WalkO q loose XP YP l.row.toRowW d [] (fun f vs => PySem.call f vs) :=
  L2.walk_of (n := 63) (k := 10) (x := "_law_script") (CX := fun _ => CX0) (sp := fun w => spLaw (K w.params)) hn (by decide) hdf ⟨rfl, by decide, by decide⟩ hY F (fun _ _ a ns hl _ hS => ⟨a, ns, rfl, hS, hl, fun _ => rfl⟩) fun _ _ _ _ _ z => z
end K82
def PySem.W.Fast.tw9344503830914654315 : Nat := 0
def PySem.W.Fast.tw15281334995229917455 : Nat := 0
def PySem.W.Fast.tw6168286700413029609 : Nat := 0
def PySem.W.Fast.tw5410471081970918266 : Nat := 0
def PySem.W.Fast.tw4572791381597010383 : Nat := 0
def PySem.W.Fast.tw14189464178455628079 : Nat := 0
def PySem.W.Fast.tw4806881923347928514 : Nat := 0
def PySem.W.Fast.tw5305440097334486903 : Nat := 0
def PySem.W.Fast.tw10135783443035173977 : Nat := 0
def PySem.W.Fast.tw8775650468666404760 : Nat := 0
def PySem.W.Fast.tw10816145379748879142 : Nat := 0
def PySem.W.Fast.tw15273902581172119186 : Nat := 0
def PySem.W.Fast.tw11880453198045717312 : Nat := 0
def PySem.W.Fast.tw8890996717248188593 : Nat := 0
def PySem.W.Fast.tw7036044819256124511 : Nat := 0
def PySem.W.Fast.tw8175916783793168692 : Nat := 0
def PySem.W.Fast.tw6792497851819169501 : Nat := 0
def PySem.W.Fast.tw8093050276178863619 : Nat := 0
def PySem.W.Fast.tw18216027231148196138 : Nat := 0
def PySem.W.Fast.tw8217958587513526409 : Nat := 0
def PySem.W.Fast.tw16439433074209583761 : Nat := 0
def PySem.W.Fast.tw5642461286089288827 : Nat := 0
def PySem.W.Fast.tw10116683906016807479 : Nat := 0
def PySem.W.Fast.tw3938251845395315302 : Nat := 0
def PySem.W.Fast.tw5959832863868451556 : Nat := 0
def PySem.W.Fast.tw14774518152768121832 : Nat := 0
open PySem PySem.W PyProof.Rows
set_option maxRecDepth 100000 in
set_option maxHeartbeats 0 in
theorem PySem.Challenge.cw_ohmyard_k82_rows_told_holds : PySem.Challenge.rw_ohmyard_k82_rows_told.Holds := by
  w_on; o_law; z_head; (case hw => w_witness2)
  k_fill
  refine L2.walkX_of (fun _ => by kernel_rfl) (K82.walk (l := PySem.Challenge.rw_ohmyard_k82_rows_told) rfl rfl (fun w h Y => Y) ?F)
  case F =>
    intro w mg fa h KX G hmg
    refine' K82.all_mk KX G hmg ?y_OhmError ?y_NoRow ?y_NoName ?y_NoNumber ?y_NoSize ?y_NoPoint ?y_Row ?y_Piece ?y_Push ?y_Hold ?y_Net ?y_Plan ?y_Yard ?a1 ?l1 ?c1 ?k1 ?a2 ?l2 ?c2 ?k2 ?a3 ?l3 ?c3 ?k3 ?a4 ?l4 ?c4 ?k4 ?lt4 ?a5 ?l5 ?c5 ?k5 ?a6 ?l6 ?c6 ?k6 ?a7 ?l7 ?c7 ?k7 ?a8 ?l8 ?c8 ?k8 ?a9 ?l9 ?c9 ?k9 ?a10_0 ?a10_1 ?a10_2 ?i10 ?l10 ?c10 ?k10 ?a11_0 ?i11 ?l11 ?c11 ?k11 ?a12_0 ?i12 ?l12 ?c12 ?k12 ?a13_0 ?i13 ?l13 ?c13 ?k13 ?a14_0 ?a14_1 ?a14_2 ?i14 ?l14 ?c14 ?k14 ?a15 ?l15 ?c15 ?k15 ?a16 ?l16 ?c16 ?k16 ?a17 ?l17 ?c17 ?k17 ?a18 ?l18 ?c18 ?k18 ?a19 ?l19 ?c19 ?k19 ?a20_0 ?i20 ?l20 ?c20 ?k20 ?a21_0 ?i21 ?l21 ?c21 ?k21 ?a22_0 ?i22 ?l22 ?c22 ?k22 ?a23_0 ?i23 ?l23 ?c23 ?k23 ?a24 ?l24 ?c24 ?k24 ?a25 ?l25 ?c25 ?k25 ?a26 ?l26 ?c26 ?k26 ?a27 ?l27 ?c27 ?k27 ?a28 ?l28 ?c28 ?k28 ?a29_0 ?i29 ?l29 ?c29 ?k29 ?a30_0 ?i30 ?l30 ?c30 ?k30 ?a31_0 ?i31 ?l31 ?c31 ?k31 ?a32_0 ?i32 ?l32 ?c32 ?k32 ?a33_0 ?i33 ?l33 ?c33 ?k33 ?a34_0 ?i34 ?l34 ?c34 ?k34 ?a35 ?l35 ?c35 ?k35 ?a36_0 ?i36 ?l36 ?c36 ?k36 ?a37_0 ?i37 ?l37 ?c37 ?k37 ?a38_0 ?i38 ?l38 ?c38 ?k38 ?a39_0 ?i39 ?l39 ?c39 ?k39 ?a40_0 ?i40 ?l40 ?c40 ?k40 ?a41_0 ?i41 ?l41 ?c41 ?k41 ?a42_0 ?i42 ?l42 ?c42 ?k42 ?a43 ?l43 ?c43 ?k43 ?a44 ?l44 ?c44 ?k44 ?a45 ?l45 ?c45 ?k45 ?a46 ?l46 ?c46 ?k46 ?a47 ?l47 ?c47 ?k47 ?a48 ?l48 ?c48 ?k48 ?a49 ?l49 ?c49 ?k49 ?a50 ?l50 ?c50 ?k50 ?a51 ?l51 ?c51 ?k51 ?a52 ?l52 ?c52 ?k52 ?a53 ?l53 ?c53 ?k53 ?v_NOUGHT ?v_ROW_WORDS ?v_MOST_POINTS ?v_MOST_ROWS ?v_FIGURES ?v_MOST_FIGURES ?v_LETTERS ?v_MOST_LETTERS ?lN ?lW ?pg_Piece ?hd_Piece ?po_Piece ?sa_Piece ?mk_Piece ?kc_Piece ?t1_Piece ?t4_Piece ?na_Piece_start ?na_Piece_goal ?na_Piece_size ?pg_Push ?hd_Push ?po_Push ?sa_Push ?mk_Push ?kc_Push ?t1_Push ?t4_Push ?na_Push_start ?na_Push_goal ?na_Push_size ?pg_Hold ?hd_Hold ?po_Hold ?sa_Hold ?mk_Hold ?kc_Hold ?t1_Hold ?t4_Hold ?na_Hold_start ?na_Hold_goal ?na_Hold_size ?tt2 ?tt3 ?isR_Piece ?isR_Push ?isR_Hold ?isK_Piece_Push ?isK_Piece_Hold ?isK_Push_Piece ?isK_Push_Hold ?isK_Hold_Piece ?isK_Hold_Push ?pg_Net ?hd_Net ?po_Net ?sa_Net ?mk_Net ?kc_Net ?t1_Net ?t4_Net ?na_Net_point_count ?na_Net_kept ?x1_NoRow ?x2_NoRow ?x3_NoRow ?x4_NoRow ?x5_NoRow ?x6_NoRow ?x7_NoRow ?x8_NoRow ?x9_NoRow ?x1_NoName ?x2_NoName ?x3_NoName ?x4_NoName ?x5_NoName ?x6_NoName ?x7_NoName ?x8_NoName ?x9_NoName ?x1_NoNumber ?x2_NoNumber ?x3_NoNumber ?x4_NoNumber ?x5_NoNumber ?x6_NoNumber ?x7_NoNumber ?x8_NoNumber ?x9_NoNumber ?x1_NoSize ?x2_NoSize ?x3_NoSize ?x4_NoSize ?x5_NoSize ?x6_NoSize ?x7_NoSize ?x8_NoSize ?x9_NoSize ?x1_NoPoint ?x2_NoPoint ?x3_NoPoint ?x4_NoPoint ?x5_NoPoint ?x6_NoPoint ?x7_NoPoint ?x8_NoPoint ?x9_NoPoint ?xm_P ?nd ?q1_r ?qn_r ?qa_r ?qk_rm ?qk_ru ?qk_rz ?q1_m ?qn_m ?qa_m ?qk_mr ?qk_mu ?qk_mz ?q1_u ?qn_u ?qa_u ?qk_ur ?qk_um ?qk_uz ?q1_z ?qn_z ?qa_z ?qk_zr ?qk_zm ?qk_zu ?pg_Plan ?hd_Plan ?po_Plan ?sa_Plan ?mk_Plan ?kc_Plan ?na_Plan_labels ?na_Plan_end_count ?na_Plan_entries ?na_Plan_put_names ?pg_Yard ?hd_Yard ?po_Yard ?sa_Yard ?mk_Yard ?kc_Yard ?na_Yard_ground ?na_Yard_parts ?na_Yard_opened ?na_Yard_opened_plan ?z1 ?z2 ?z3 ?z4 ?z5 ?z6 ?z7 ?z8 ?z9 ?z10
    (case y_OhmError => k_is)
    (case y_NoRow => k_is)
    (case y_NoName => k_is)
    (case y_NoNumber => k_is)
    (case y_NoSize => k_is)
    (case y_NoPoint => k_is)
    (case y_Row => k_is)
    (case y_Piece => k_is)
    (case y_Push => k_is)
    (case y_Hold => k_is)
    (case y_Net => k_is)
    (case y_Plan => k_is)
    (case y_Yard => k_is)
    (case a1 => k_is); (case l1 => k_is); (case c1 => k_is); (case k1 => k_is)
    (case a2 => k_is); (case l2 => k_is); (case c2 => k_is); (case k2 => k_is)
    (case a3 => k_is); (case l3 => k_is); (case c3 => k_is); (case k3 => k_is)
    (case a4 => k_is); (case l4 => k_is); (case c4 => k_is); (case k4 => k_is); (case lt4 => k_is)
    (case a5 => k_is); (case l5 => k_is); (case c5 => k_is); (case k5 => k_is)
    (case a6 => k_is); (case l6 => k_is); (case c6 => k_is); (case k6 => k_is)
    (case a7 => k_is); (case l7 => k_is); (case c7 => k_is); (case k7 => k_is)
    (case a8 => k_is); (case l8 => k_is); (case c8 => k_is); (case k8 => k_is)
    (case a9 => k_is); (case l9 => k_is); (case c9 => k_is); (case k9 => k_is)
    (case a10_0 => k_is); (case a10_1 => k_is); (case a10_2 => k_is); (case i10 => k_is); (case l10 => k_is); (case c10 => k_is); (case k10 => k_is)
    (case a11_0 => k_is); (case i11 => k_is); (case l11 => k_is); (case c11 => k_is); (case k11 => k_is)
    (case a12_0 => k_is); (case i12 => k_is); (case l12 => k_is); (case c12 => k_is); (case k12 => k_is)
    (case a13_0 => k_is); (case i13 => k_is); (case l13 => k_is); (case c13 => k_is); (case k13 => k_is)
    (case a14_0 => k_is); (case a14_1 => k_is); (case a14_2 => k_is); (case i14 => k_is); (case l14 => k_is); (case c14 => k_is); (case k14 => k_is)
    (case a15 => k_is); (case l15 => k_is); (case c15 => k_is); (case k15 => k_is)
    (case a16 => k_is); (case l16 => k_is); (case c16 => k_is); (case k16 => k_is)
    (case a17 => k_is); (case l17 => k_is); (case c17 => k_is); (case k17 => k_is)
    (case a18 => k_is); (case l18 => k_is); (case c18 => k_is); (case k18 => k_is)
    (case a19 => k_is); (case l19 => k_is); (case c19 => k_is); (case k19 => k_is)
    (case a20_0 => k_is); (case i20 => k_is); (case l20 => k_is); (case c20 => k_is); (case k20 => k_is)
    (case a21_0 => k_is); (case i21 => k_is); (case l21 => k_is); (case c21 => k_is); (case k21 => k_is)
    (case a22_0 => k_is); (case i22 => k_is); (case l22 => k_is); (case c22 => k_is); (case k22 => k_is)
    (case a23_0 => k_is); (case i23 => k_is); (case l23 => k_is); (case c23 => k_is); (case k23 => k_is)
    (case a24 => k_is); (case l24 => k_is); (case c24 => k_is); (case k24 => k_is)
    (case a25 => k_is); (case l25 => k_is); (case c25 => k_is); (case k25 => k_is)
    (case a26 => k_is); (case l26 => k_is); (case c26 => k_is); (case k26 => k_is)
    (case a27 => k_is); (case l27 => k_is); (case c27 => k_is); (case k27 => k_is)
    (case a28 => k_is); (case l28 => k_is); (case c28 => k_is); (case k28 => k_is)
    (case a29_0 => k_is); (case i29 => k_is); (case l29 => k_is); (case c29 => k_is); (case k29 => k_is)
    (case a30_0 => k_is); (case i30 => k_is); (case l30 => k_is); (case c30 => k_is); (case k30 => k_is)
    (case a31_0 => k_is); (case i31 => k_is); (case l31 => k_is); (case c31 => k_is); (case k31 => k_is)
    (case a32_0 => k_is); (case i32 => k_is); (case l32 => k_is); (case c32 => k_is); (case k32 => k_is)
    (case a33_0 => k_is); (case i33 => k_is); (case l33 => k_is); (case c33 => k_is); (case k33 => k_is)
    (case a34_0 => k_is); (case i34 => k_is); (case l34 => k_is); (case c34 => k_is); (case k34 => k_is)
    (case a35 => k_is); (case l35 => k_is); (case c35 => k_is); (case k35 => k_is)
    (case a36_0 => k_is); (case i36 => k_is); (case l36 => k_is); (case c36 => k_is); (case k36 => k_is)
    (case a37_0 => k_is); (case i37 => k_is); (case l37 => k_is); (case c37 => k_is); (case k37 => k_is)
    (case a38_0 => k_is); (case i38 => k_is); (case l38 => k_is); (case c38 => k_is); (case k38 => k_is)
    (case a39_0 => k_is); (case i39 => k_is); (case l39 => k_is); (case c39 => k_is); (case k39 => k_is)
    (case a40_0 => k_is); (case i40 => k_is); (case l40 => k_is); (case c40 => k_is); (case k40 => k_is)
    (case a41_0 => k_is); (case i41 => k_is); (case l41 => k_is); (case c41 => k_is); (case k41 => k_is)
    (case a42_0 => k_is); (case i42 => k_is); (case l42 => k_is); (case c42 => k_is); (case k42 => k_is)
    (case a43 => k_is); (case l43 => k_is); (case c43 => k_is); (case k43 => k_is)
    (case a44 => k_is); (case l44 => k_is); (case c44 => k_is); (case k44 => k_is)
    (case a45 => k_is); (case l45 => k_is); (case c45 => k_is); (case k45 => k_is)
    (case a46 => k_is); (case l46 => k_is); (case c46 => k_is); (case k46 => k_is)
    (case a47 => k_is); (case l47 => k_is); (case c47 => k_is); (case k47 => k_is)
    (case a48 => k_is); (case l48 => k_is); (case c48 => k_is); (case k48 => k_is)
    (case a49 => k_is); (case l49 => k_is); (case c49 => k_is); (case k49 => k_is)
    (case a50 => k_is); (case l50 => k_is); (case c50 => k_is); (case k50 => k_is)
    (case a51 => k_is); (case l51 => k_is); (case c51 => k_is); (case k51 => k_is)
    (case a52 => k_is); (case l52 => k_is); (case c52 => k_is); (case k52 => k_is)
    (case a53 => k_is); (case l53 => k_is); (case c53 => k_is); (case k53 => k_is)
    (case v_NOUGHT => k_is)
    (case v_ROW_WORDS => k_is)
    (case v_MOST_POINTS => k_is)
    (case v_MOST_ROWS => k_is)
    (case v_FIGURES => k_is)
    (case v_MOST_FIGURES => k_is)
    (case v_LETTERS => k_is)
    (case v_MOST_LETTERS => k_is)
    (case lN => k_is)
    (case lW => k_is)
    (case pg_Piece => k_is)
    (case hd_Piece => k_is)
    (case po_Piece => k_is)
    (case sa_Piece => k_is)
    (case mk_Piece => k_is)
    (case kc_Piece => k_is)
    (case t1_Piece => k_is)
    (case t4_Piece => k_is)
    (case na_Piece_start => k_is)
    (case na_Piece_goal => k_is)
    (case na_Piece_size => k_is)
    (case pg_Push => k_is)
    (case hd_Push => k_is)
    (case po_Push => k_is)
    (case sa_Push => k_is)
    (case mk_Push => k_is)
    (case kc_Push => k_is)
    (case t1_Push => k_is)
    (case t4_Push => k_is)
    (case na_Push_start => k_is)
    (case na_Push_goal => k_is)
    (case na_Push_size => k_is)
    (case pg_Hold => k_is)
    (case hd_Hold => k_is)
    (case po_Hold => k_is)
    (case sa_Hold => k_is)
    (case mk_Hold => k_is)
    (case kc_Hold => k_is)
    (case t1_Hold => k_is)
    (case t4_Hold => k_is)
    (case na_Hold_start => k_is)
    (case na_Hold_goal => k_is)
    (case na_Hold_size => k_is)
    (case tt2 => k_is)
    (case tt3 => k_is)
    (case isR_Piece => kit_is)
    (case isR_Push => kit_is)
    (case isR_Hold => kit_is)
    (case isK_Piece_Push => kit_is)
    (case isK_Piece_Hold => kit_is)
    (case isK_Push_Piece => kit_is)
    (case isK_Push_Hold => kit_is)
    (case isK_Hold_Piece => kit_is)
    (case isK_Hold_Push => kit_is)
    (case pg_Net => k_is)
    (case hd_Net => k_is)
    (case po_Net => k_is)
    (case sa_Net => k_is)
    (case mk_Net => k_is)
    (case kc_Net => k_is)
    (case t1_Net => k_is)
    (case t4_Net => k_is)
    (case na_Net_point_count => k_is)
    (case na_Net_kept => k_is)
    (case x1_NoRow => k_exc)
    (case x2_NoRow => k_is)
    (case x3_NoRow => k_is)
    (case x4_NoRow => k_is)
    (case x5_NoRow => k_is)
    (case x6_NoRow => k_is)
    (case x7_NoRow => k_is)
    (case x8_NoRow => k_is)
    (case x9_NoRow => first | k_is | rfl | decide)
    (case x1_NoName => k_exc)
    (case x2_NoName => k_is)
    (case x3_NoName => k_is)
    (case x4_NoName => k_is)
    (case x5_NoName => k_is)
    (case x6_NoName => k_is)
    (case x7_NoName => k_is)
    (case x8_NoName => k_is)
    (case x9_NoName => first | k_is | rfl | decide)
    (case x1_NoNumber => k_exc)
    (case x2_NoNumber => k_is)
    (case x3_NoNumber => k_is)
    (case x4_NoNumber => k_is)
    (case x5_NoNumber => k_is)
    (case x6_NoNumber => k_is)
    (case x7_NoNumber => k_is)
    (case x8_NoNumber => k_is)
    (case x9_NoNumber => first | k_is | rfl | decide)
    (case x1_NoSize => k_exc)
    (case x2_NoSize => k_is)
    (case x3_NoSize => k_is)
    (case x4_NoSize => k_is)
    (case x5_NoSize => k_is)
    (case x6_NoSize => k_is)
    (case x7_NoSize => k_is)
    (case x8_NoSize => k_is)
    (case x9_NoSize => first | k_is | rfl | decide)
    (case x1_NoPoint => k_exc)
    (case x2_NoPoint => k_is)
    (case x3_NoPoint => k_is)
    (case x4_NoPoint => k_is)
    (case x5_NoPoint => k_is)
    (case x6_NoPoint => k_is)
    (case x7_NoPoint => k_is)
    (case x8_NoPoint => k_is)
    (case x9_NoPoint => first | k_is | rfl | decide)
    (case xm_P => kts_exm)
    (case nd => k_is)
    (case q1_r => kts_exm)
    (case qn_r => kit_is)
    (case qa_r => kit_is)
    (case qk_rm => kit_is)
    (case qk_ru => kit_is)
    (case qk_rz => kit_is)
    (case q1_m => kts_exm)
    (case qn_m => kit_is)
    (case qa_m => kit_is)
    (case qk_mr => kit_is)
    (case qk_mu => kit_is)
    (case qk_mz => kit_is)
    (case q1_u => kts_exm)
    (case qn_u => kit_is)
    (case qa_u => kit_is)
    (case qk_ur => kit_is)
    (case qk_um => kit_is)
    (case qk_uz => kit_is)
    (case q1_z => kts_exm)
    (case qn_z => kit_is)
    (case qa_z => kit_is)
    (case qk_zr => kit_is)
    (case qk_zm => kit_is)
    (case qk_zu => kit_is)
    (case pg_Plan => k_is)
    (case hd_Plan => k_is)
    (case po_Plan => k_is)
    (case sa_Plan => k_is)
    (case mk_Plan => k_is)
    (case kc_Plan => k_is)
    (case na_Plan_labels => k_is)
    (case na_Plan_end_count => k_is)
    (case na_Plan_entries => k_is)
    (case na_Plan_put_names => k_is)
    (case pg_Yard => k_is)
    (case hd_Yard => k_is)
    (case po_Yard => k_is)
    (case sa_Yard => k_is)
    (case mk_Yard => k_is)
    (case kc_Yard => k_is)
    (case na_Yard_ground => k_is)
    (case na_Yard_parts => k_is)
    (case na_Yard_opened => k_is)
    (case na_Yard_opened_plan => k_is)
    (case z1 => k_is)
    (case z2 => k_is)
    (case z3 => k_is)
    (case z4 => k_is)
    (case z5 => k_is)
    (case z6 => k_is)
    (case z7 => k_is)
    (case z8 => k_is)
    (case z9 => k_is)
    (case z10 => k_is)
