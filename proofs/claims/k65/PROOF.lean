import PyProof.Rows.All
import Wide.All
import OpenK.AllK
import Wide.FinOn
import Lean
import PyProof.EqAt
import PyProof.EqKinds
import PyProof.TupleCall
import PyProof.Cells
import PyProof.SumWalkG
import PyProof.EnumStmt
import PyProof.EnumMake
import PyProof.InstStoreFacts
import PyProof.MinMaxWalk
import PyProof.WalkInts
import PyProof.WalksMore
import PySem.Challenge.RW_ohmyard_k65_tree_sum_by_one_piece
set_option Elab.async false
set_option linter.all false
set_option maxRecDepth 100000
/-! THE HAND LAYER, for ints, bools, texts, own classes, LISTS and tuples (index, slices, in, append, pop ..), calls, loops. Paste it whole ahead of your own text; what your proof does not reach may be deleted. -/
namespace L2
open PySem PySem.Spec PyProof.Rows

/-- a key: an int or a str -/
abbrev Key := Sum Int Str
def keyIs : Key → Value → Bool
  | .inl k, v => Value.isInt k v
  | .inr x, v => Value.isStrOf x v
def keyH (w : World) : Key → Int
  | .inl k => hashInt k
  | .inr x => hashStr w x
theorem keyIs_shape : ∀ {k : Key} {v : Value}, keyIs k v = true → (∃ i t, k = Sum.inl i ∧ v = Value.int i t) ∨ (∃ x t, k = Sum.inr x ∧ v = Value.str x t)
  | .inl i, v, h => by
    obtain ⟨t, e⟩ := Value.isInt_shape (k := i) (v := v) h
    exact .inl ⟨i, t, rfl, e⟩
  | .inr x, v, h => by
    obtain ⟨t, e⟩ := Value.isStrOf_shape (x := x) (v := v) h
    exact .inr ⟨x, t, rfl, e⟩
theorem keyIs_int (i : Int) (t : Tok) : keyIs (.inl i) (.int i t) = true := by simp [keyIs, Value.isInt]
theorem keyIs_str (x : Str) (t : Tok) : keyIs (.inr x) (.str x t) = true := by simp [keyIs, Value.isStrOf]
theorem key_ll (a b : Int) : decide ((Sum.inl a : Key) = Sum.inl b) = (a == b) := by
  by_cases e : a = b
  · subst e; simp
  · have h : ¬ (Sum.inl a : Key) = Sum.inl b := fun q => e (Sum.inl.inj q)
    rw [decide_eq_false h]
    exact (beq_eq_false_iff_ne.mpr e).symm
theorem key_rr (a b : Str) : decide ((Sum.inr a : Key) = Sum.inr b) = decide (a = b) := by
  by_cases e : a = b
  · subst e; simp
  · have h : ¬ (Sum.inr a : Key) = Sum.inr b := fun q => e (Sum.inr.inj q)
    rw [decide_eq_false h, decide_eq_false e]
theorem key_lr (a : Int) (b : Str) : decide ((Sum.inl a : Key) = Sum.inr b) = false := decide_eq_false (fun q => nomatch q)
theorem key_rl (a : Str) (b : Int) : decide ((Sum.inr a : Key) = Sum.inl b) = false := decide_eq_false (fun q => nomatch q)

def mixKind (prog : Program) (w : World) : PySem.KeyKind prog w Key where
  is := keyIs
  hash := keyH w
  inj := fun v a b ha hb => by
    rcases keyIs_shape ha with ⟨i, t, rfl, rfl⟩ | ⟨x, t, rfl, rfl⟩
    · rcases keyIs_shape hb with ⟨j, u, rfl, e⟩ | ⟨y, u, rfl, e⟩
      · injection e with e1 _; rw [e1]
      · exact nomatch e
    · rcases keyIs_shape hb with ⟨j, u, rfl, e⟩ | ⟨y, u, rfl, e⟩
      · exact nomatch e
      · injection e with e1 _; rw [e1]
  byValue := fun k v h => by
    rcases keyIs_shape h with ⟨i, t, rfl, rfl⟩ | ⟨x, t, rfl, rfl⟩ <;> rfl
  pyHash := fun hv h => by
    rcases keyIs_shape hv with ⟨i, t, rfl, rfl⟩ | ⟨x, t, rfl, rfl⟩
    · exact wpAny_pyHash_int h
    · exact wpAny_pyHash_str h
  eqBool := fun hu hv h => by
    rcases keyIs_shape hu with ⟨i, t, rfl, rfl⟩ | ⟨x, t, rfl, rfl⟩
    · rcases keyIs_shape hv with ⟨j, u, rfl, rfl⟩ | ⟨y, u, rfl, rfl⟩
      · rw [key_ll] at h; exact wpAny_eqBool_int h
      · rw [key_lr] at h; exact SeqAt.EqAt.int_str i t y u _ _ _ _ h
    · rcases keyIs_shape hv with ⟨j, u, rfl, rfl⟩ | ⟨y, u, rfl, rfl⟩
      · rw [key_rl] at h; exact SeqAt.EqAt.str_int x t j u _ _ _ _ h
      · rw [key_rr] at h; exact wpAny_eqBool_str h
  «strs» := fun k x t v h => by
    rcases keyIs_shape h with ⟨i, u, rfl, e⟩ | ⟨y, u, rfl, e⟩
    · exact nomatch e
    · injection e with e1 _
      subst e1
      cases v <;> rfl

theorem mixKind_int (prog : Program) (w : World) (i : Int) (t : Tok) : (mixKind prog w).is (.inl i) (.int i t) = true := keyIs_int i t
theorem mixKind_str (prog : Program) (w : World) (x : Str) (t : Tok) : (mixKind prog w).is (.inr x) (.str x t) = true := keyIs_str x t
end L2

namespace L2
open PySem PySem.Spec PyProof.Rows

/-- a value, without the heap -/
inductive V where
  | non | bl (b : Bool) | int (i : Int) | str (x : Str) | byt (b : Array UInt8) | flt (b : UInt64) | ref (a : Addr) | ty (n : String)
  deriving DecidableEq

def RelV : V → Value → Prop
  | .non, u => u = Value.none
  | .bl b, u => u = Value.bool b
  | .int i, u => ∃ t, u = Value.int i t
  | .str x, u => ∃ t, u = Value.str x t
  | .byt b, u => ∃ t, u = Value.bytes b t
  | .flt b, u => ∃ t, u = Value.float b t
  | .ref a, u => u = Value.ref a
  | .ty n, u => u = Value.type n

abbrev Vals : List V → List Value → Prop := Paired RelV
theorem Vals.length {xs : List V} {us : List Value} (r : Vals xs us) : xs.length = us.length := Paired.length r
theorem Vals.get : ∀ {xs : List V} {us : List Value} {i : Nat} {x : V}, Vals xs us → xs[i]? = some x → ∃ u, us[i]? = some u ∧ RelV x u
  | _, _, _, _, .nil, e => by simp at e
  | _, _, 0, _, .cons r _, e => by simp at e; subst e; exact ⟨_, rfl, r⟩
  | _, _, i + 1, x, .cons _ t, e => by
    obtain ⟨u, h1, h2⟩ := Vals.get (i := i) (x := x) t (by simpa using e)
    exact ⟨u, by simpa using h1, h2⟩
theorem Vals.set {x : V} {u : Value} (r : RelV x u) : ∀ {xs : List V} {us : List Value} (i : Nat), Vals xs us → Vals (xs.set i x) (us.set i u)
  | _, _, _, .nil => .nil
  | _, _, 0, .cons _ t => .cons r t
  | _, _, i + 1, .cons q t => .cons q (Vals.set r i t)
theorem Vals.append : ∀ {xs ys : List V} {us ws : List Value}, Vals xs us → Vals ys ws → Vals (xs ++ ys) (us ++ ws)
  | _, _, _, _, .nil, s => s
  | _, _, _, _, .cons r t, s => .cons r (Vals.append t s)
theorem Vals.take : ∀ {xs : List V} {us : List Value} (n : Nat), Vals xs us → Vals (xs.take n) (us.take n)
  | _, _, 0, _ => .nil
  | _, _, _ + 1, .nil => .nil
  | _, _, n + 1, .cons r t => .cons r (Vals.take n t)
theorem Vals.drop : ∀ {xs : List V} {us : List Value} (n : Nat), Vals xs us → Vals (xs.drop n) (us.drop n)
  | _, _, 0, r => r
  | _, _, _ + 1, .nil => .nil
  | _, _, n + 1, .cons _ t => Vals.drop n t
def RelO : Option V → Option Value → Prop
  | some v, some u => RelV v u
  | none, none => True
  | _, _ => False
def KV {κ : Type} : List (κ × V) → List (κ × Value) → Prop := Paired fun (p : κ × V) (q : κ × Value) => p.1 = q.1 ∧ RelV p.2 q.2

/-- a key of a dict (00_mix): an int or a text -/
def kV : Key → V
  | .inl i => .int i
  | .inr x => .str x

/-- what stands at a tracked address -/
inductive HO where
  /-- a list -/
  | lst (xs : List V)
  /-- a tuple (never changes) -/
  | tup (xs : List V)
  /-- a dict whose keys are ints and texts; one whose keys are tuples of ints and texts (the empty one is both) -/
  | dK (kvs : List (Key × V)) | dT (kvs : List (List Key × V))
  /-- a set of ints: its members, its size -/
  | set (S : Int → Bool) (n : Nat)
  /-- an instance of the class at C, its dict at dx, its attributes -/
  | ins (C dx : Addr) (fs : List (Str × V))
  /-- the dict of the instance at x -/
  | own (x : Addr)
  /-- the dict of an exception -/
  | xd (fs : List (Str × V))
  /-- a bound method, f of x -/
  | met (f x : Addr)
  /-- a range object lo, lo + 1, .. below hi -/
  | rng (lo hi : Int)
  /-- a thing that is known to the object (the script; a dict while a loop walks it): read, never written while it is so -/
  | frz (o : Obj) (u : HO)
  /-- a code object's table -/
  | tbl (ps : Array Value)
  /-- any other thing, by what is true of its one object (a def of one's own: SetO a S n := HO.ext fun h => ..) -/
  | ext (φ : Heap → Prop)

abbrev Hp := Addr → Option HO
def upd (H : Hp) (a : Addr) (o : HO) : Hp := fun b => if b = a then some o else H b
theorem upd_same {H : Hp} {a : Addr} {o : HO} : upd H a o a = some o := by unfold upd; rw [if_pos rfl]
theorem upd_ne {H : Hp} {a b : Addr} {o : HO} (h : b ≠ a) : upd H a o b = H b := by unfold upd; rw [if_neg h]
theorem upd_upd {H : Hp} {a : Addr} {o u : HO} : upd (upd H a o) a u = upd H a u := by
  funext b; unfold upd; split <;> rfl
/-- two objects of different content stand apart -/
theorem ne_of {H : Hp} {a b : Addr} {o u : HO} (h : H a = some o) (h' : H b = some u) (d : o ≠ u) : a ≠ b := by
  intro e; subst e; rw [h] at h'; exact d (Option.some.inj h')
theorem ne_of_none {H : Hp} {a b : Addr} {o : HO} (h : H a = some o) (h' : H b = none) : a ≠ b := by
  intro e; subst e; rw [h] at h'; cases h'

section
variable (P : Program) (w : World)
def ObjOk (H : Hp) (h : Heap) (a : Addr) : HO → Prop
  | .lst xs => xs.length ≤ sizeLine ∧ ∃ (its : List Value) (n : Nat), Vals xs its ∧ h.get? a = some { cls := .type "list", data := .seq its.toArray n }
  | .tup xs => xs.length ≤ sizeLine ∧ ∃ its : List Value, Vals xs its ∧ IsTup h a its.toArray
  | .dK kvs => kvs.length ≤ sizeLine ∧ (a == sysModules) = false ∧ ∃ vs, KV kvs vs ∧ h.DictOf (mixKind P w) a vs
  | .dT kvs => kvs.length ≤ sizeLine ∧ (a == sysModules) = false ∧ ∃ xs : List (List Key × Addr × Value),
      Paired (fun (p : List Key × V) (q : List Key × Addr × Value) => p.1 = q.1 ∧ H q.2.1 = some (.tup (p.1.map kV)) ∧ RelV p.2 q.2.2) kvs xs ∧
      ∃ o es ep, h.get? a = some o ∧ o.ExactDict ∧ o.data = .dict es ep ∧ es.toList = xs.map (entryOfKey (tupleKind (mixKind P w))) ∧ (xs.map (·.1)).Nodup
  | .set S n => h.SetOf (intKind P w) a S n
  | .ins C dx fs => H dx = some (.own a) ∧ fs.length ≤ 1000 ∧ dx ≠ a ∧ h.get? a = some (PySem.W.instObj C dx) ∧
      ∃ mA, h.Ns1 dx mA ∧ (∀ f, RelO (fs.lookup f) (mA f)) ∧ PySem.Within mA (fs.map (·.1))
  | .own _ => ∃ o, h.get? a = some o
  | .xd fs => ∃ mA, h.Ns1 a mA ∧ ∀ f, RelO (fs.lookup f) (mA f)
  | .rng lo hi => ∃ t u v, h.get? a = some { cls := .type "range", data := .fields #[.int lo t, .int hi u, .int 1 v] }
  | .frz o u => h.get? a = some o ∧ ObjOk H h a u
  | .tbl ps => h.get? a = some { cls := .none, data := .fields ps }
  | .met f x => h.get? a = some (PySem.W.methodObj (.ref f) (.ref x))
  | .ext φ => φ h ∧ (∃ o, h.get? a = some o) ∧ ∀ h1 h2 : Heap, φ h1 → (∀ o, h1.get? a = some o → h2.get? a = some o) → φ h2
/-- the abstract heap is held -/
def HOk (H : Hp) (h : Heap) : Prop := ∀ a o, H a = some o → ObjOk P w H h a o
end

section
variable {P : Program} {w : World} {H H' : Hp} {h h' : Heap} {a : Addr} {o : HO}
theorem ObjOk.lt (x : ObjOk P w H h a o) : a < h.objs.size := by
  cases o with
  | lst xs => obtain ⟨_, _, _, _, e⟩ := x; exact Heap.lt_size e
  | tup xs => obtain ⟨_, _, _, p⟩ := x; exact p.lt
  | dK kvs => obtain ⟨_, _, _, _, o, _, _, e, _⟩ := x; exact Heap.lt_size e
  | dT kvs => obtain ⟨_, _, _, _, o, _, _, e, _⟩ := x; exact Heap.lt_size e
  | set S n => obtain ⟨o, _, _, _, e, _⟩ := x; exact Heap.lt_size e
  | ins C dx fs => obtain ⟨_, _, _, e, _⟩ := x; exact Heap.lt_size e
  | own y => obtain ⟨_, e⟩ := x; exact Heap.lt_size e
  | xd fs => obtain ⟨_, ⟨_, _, _, e, _⟩, _⟩ := x; exact Heap.lt_size e
  | rng lo hi => obtain ⟨_, _, _, e⟩ := x; exact Heap.lt_size e
  | frz ob u => obtain ⟨e, _⟩ := x; exact Heap.lt_size e
  | tbl ps => exact Heap.lt_size (show h.get? a = some _ from x)
  | met f y => exact Heap.lt_size (show h.get? a = some _ from x)
  | ext φ => obtain ⟨_, ⟨_, e⟩, _⟩ := x; exact Heap.lt_size e
theorem Paired.mapP {α β : Type} {F G : α → β → Prop} : ∀ {l₁ : List α} {l₂ : List β}, Paired F l₁ l₂ → (∀ a b, F a b → G a b) → Paired G l₁ l₂
  | _, _, .nil, _ => .nil
  | _, _, .cons r t, f => .cons (f _ _ r) (Paired.mapP t f)
/-- what an object's description leans on: its own object, its own dict, the tuples -/
theorem ObjOk.stay (x : ObjOk P w H h a o) (k : ∀ b u, (b = a ∨ H b = some (.own a)) → h.get? b = some u → h'.get? b = some u)
    (ho : ∀ b, H b = some (.own a) → H' b = some (.own a)) (ht : ∀ b xs, H b = some (.tup xs) → H' b = some (.tup xs)) : ObjOk P w H' h' a o := by
  induction o with
  | lst xs => obtain ⟨z, its, n, r, e⟩ := x; exact ⟨z, its, n, r, k _ _ (.inl rfl) e⟩
  | tup xs => obtain ⟨z, its, r, ob, e, c⟩ := x; exact ⟨z, its, r, ob, k _ _ (.inl rfl) e, c⟩
  | dK kvs => obtain ⟨z, y, vs, r, ob, es, ep, e, c⟩ := x; exact ⟨z, y, vs, r, ob, es, ep, k _ _ (.inl rfl) e, c⟩
  | dT kvs =>
    obtain ⟨z, y, xs, r, ob, es, ep, e, c⟩ := x
    exact ⟨z, y, xs, Paired.mapP r fun p q z => ⟨z.1, ht _ _ z.2.1, z.2.2⟩, ob, es, ep, k _ _ (.inl rfl) e, c⟩
  | set S n => obtain ⟨ob, es, ep, t, e, c⟩ := x; exact ⟨ob, es, ep, t, k _ _ (.inl rfl) e, c⟩
  | ins C dx fs =>
    obtain ⟨d, z, ne, e, mA, ⟨od, es, ep, e2, c⟩, r⟩ := x
    exact ⟨ho _ d, z, ne, k _ _ (.inl rfl) e, mA, ⟨od, es, ep, k _ _ (.inr d) e2, c⟩, r⟩
  | own y => obtain ⟨ob, e⟩ := x; exact ⟨ob, k _ _ (.inl rfl) e⟩
  | xd fs => obtain ⟨mA, ⟨od, es, ep, e, c⟩, r⟩ := x; exact ⟨mA, ⟨od, es, ep, k _ _ (.inl rfl) e, c⟩, r⟩
  | rng lo hi => obtain ⟨t, u, v, e⟩ := x; exact ⟨t, u, v, k _ _ (.inl rfl) e⟩
  | frz ob u ih => obtain ⟨e, q⟩ := x; exact ⟨k _ _ (.inl rfl) e, ih q⟩
  | tbl ps =>
    have e : h.get? a = some { cls := .none, data := .fields ps } := x
    show h'.get? a = some { cls := .none, data := .fields ps }
    exact k a _ (.inl rfl) e
  | met f y =>
    have e : h.get? a = some (PySem.W.methodObj (.ref f) (.ref y)) := x
    show h'.get? a = some (PySem.W.methodObj (.ref f) (.ref y))
    exact k a _ (.inl rfl) e
  | ext φ => obtain ⟨p, ⟨o, e⟩, st⟩ := x; exact ⟨st _ _ p fun o q => k _ _ (.inl rfl) q, ⟨o, k _ _ (.inl rfl) e⟩, st⟩
theorem HOk.lt (x : HOk P w H h) (e : H a = some o) : a < h.objs.size := (x a o e).lt
theorem HOk.fresh (x : HOk P w H h) (e : h.objs.size ≤ a) : H a = none := by
  cases q : H a with
  | none => rfl
  | some u => exact absurd (Nat.lt_of_lt_of_le (x.lt q) e) (Nat.lt_irrefl _)
/-- every object of the heap is kept -/
theorem HOk.kept (x : HOk P w H h) (k : ∀ b u, h.get? b = some u → h'.get? b = some u) : HOk P w H h' := fun a o e =>
  (x a o e).stay (fun b u _ q => k b u q) (fun _ q => q) fun _ _ q => q
/-- a new object is laid and tracked -/
theorem HOk.laid (x : HOk P w H h) (k : ∀ b u, h.get? b = some u → h'.get? b = some u) (hp : h.objs.size ≤ a) (new : ObjOk P w (upd H a o) h' a o) : HOk P w (upd H a o) h' := fun b u e => by
  have hn := x.fresh hp
  by_cases hb : b = a
  · subst hb; rw [upd_same] at e; cases e; exact new
  · rw [upd_ne hb] at e
    exact (x b u e).stay (fun c v _ q => k c v q) (fun c q => by rw [upd_ne (ne_of_none q hn)]; exact q) fun c xs q => by rw [upd_ne (ne_of_none q hn)]; exact q
end

/-- what may be read as u: it is u, or a known u -/
def Rd (H : Hp) (a : Addr) (u : HO) : Prop := H a = some u ∨ ∃ o, H a = some (.frz o u)
theorem Rd.ok {P : Program} {w : World} {H : Hp} {h : Heap} {a : Addr} {u : HO} (r : Rd H a u) (x : HOk P w H h) : ObjOk P w H h a u := by
  rcases r with r | ⟨o, r⟩
  · exact x a u r
  · obtain ⟨_, q⟩ := x a _ r
    exact q
/-- what may be written -/
def Mut : Option HO → Prop
  | some (.lst _) => True
  | some (.dK _) => True
  | some (.dT _) => True
  | some (.set _ _) => True
  | some (.ins _ _ _) => True
  | some (.ext _) => True
  | _ => False
section
variable {P : Program} {w : World} {H : Hp} {h h' : Heap} {x e : Addr} {o' : HO}
/-- the object at e is changed: x itself, or the dict of the instance x -/
theorem HOk.write (ok : HOk P w H h) (mu : Mut (H x)) (he : e = x ∨ H e = some (.own x)) (k : ∀ b u, b ≠ e → h.get? b = some u → h'.get? b = some u) (heo : ∃ u, h'.get? e = some u)
    (new : ObjOk P w (upd H x o') h' x o') : HOk P w (upd H x o') h' := fun b u q => by
  have nown : ∀ c y, H c = some (.own y) → c ≠ x := fun c y r z => by subst z; rw [r] at mu; exact mu
  have ntup : ∀ c xs, H c = some (.tup xs) → c ≠ x := fun c xs r z => by subst z; rw [r] at mu; exact mu
  by_cases hb : b = x
  · subst hb; rw [upd_same] at q; cases q; exact new
  · rw [upd_ne hb] at q
    by_cases hbe : b = e
    · have q' : H b = some (.own x) := by
        rcases he with z | z
        · exact absurd (hbe.trans z) hb
        · rw [hbe]; exact z
      rw [q] at q'; cases q'
      obtain ⟨v, hv⟩ := heo
      exact ⟨v, by rw [hbe]; exact hv⟩
    · refine (ok b u q).stay (fun c v hc r => k c v ?_ r) (fun c r => by rw [upd_ne (nown c b r)]; exact r) fun c xs r => by rw [upd_ne (ntup c xs r)]; exact r
      rcases hc with rfl | hc
      · exact hbe
      · rintro rfl
        rcases he with z | z
        · exact nown c b hc z
        · rw [hc] at z; cases z; exact hb rfl
end

/-! ### kept unless tracked; of the frames at fs (the callers') the slots may change (an exception that passes writes there); of the records at ex (iterators) nothing is said -/
structure Un (fs ex : List Addr) (H H' : Hp) (h h' : Heap) : Prop where
  keep : ∀ b o, h.get? b = some o → H b = none → b ∉ fs → b ∉ ex → h'.get? b = some o
  slot : ∀ b o, h.get? b = some o → H b = none → b ∈ fs → b ∉ ex → ∃ sl, h'.get? b = some { o with slots := sl }
  free : ∀ b o, h.get? b = some o → H b = none → b ∉ ex → H' b = none
  there : ∀ b o, h.get? b = some o → b ∉ ex → ∃ o', h'.get? b = some o'
  tups : ∀ b xs, H b = some (.tup xs) → H' b = some (.tup xs)
  frzs : ∀ b o u, H b = some (.frz o u) → H' b = some (.frz o u)
  tbls : ∀ b ps, H b = some (.tbl ps) → ∃ more, H' b = some (.tbl (ps ++ more))
section
variable {fs fs' ex ex' : List Addr} {H H1 H2 : Hp} {h h1 h2 h' : Heap} {a x e : Addr} {o : HO}
theorem Un.any (u : Un fs ex H H1 h h1) {b : Addr} {ob : Obj} (q : h.get? b = some ob) (n : H b = none) (hx : b ∉ ex) : ∃ sl, h1.get? b = some { ob with slots := sl } := by
  by_cases hb : b ∈ fs
  · exact u.slot b ob q n hb hx
  · exact ⟨ob.slots, u.keep b ob q n hb hx⟩
theorem Un.kept (k : ∀ b u, h.get? b = some u → h'.get? b = some u) : Un fs ex H H h h' :=
  ⟨fun b ob q _ _ _ => k b ob q, fun b ob q _ _ _ => ⟨ob.slots, k b ob q⟩, fun _ _ _ n _ => n, fun b ob q _ => ⟨ob, k b ob q⟩, fun _ _ q => q, fun _ _ _ q => q, fun _ ps q => ⟨#[], by rw [q]; simp⟩⟩
theorem Un.refl : Un fs ex H H h h := Un.kept fun _ _ q => q
theorem Un.laid (k : ∀ b u, h.get? b = some u → h'.get? b = some u) (hp : h.objs.size ≤ a) (hn : H a = none) : Un fs ex H (upd H a o) h h' where
  keep := fun b u q _ _ _ => k b u q
  slot := fun b u q _ _ _ => ⟨u.slots, k b u q⟩
  free := fun b u q n _ => by rw [upd_ne (Nat.ne_of_lt (Nat.lt_of_lt_of_le (Heap.lt_size q) hp))]; exact n
  there := fun b u q _ => ⟨u, k b u q⟩
  tups := fun b xs q => by rw [upd_ne (ne_of_none q hn)]; exact q
  frzs := fun b u xs q => by rw [upd_ne (ne_of_none q hn)]; exact q
  tbls := fun b ps q => ⟨#[], by rw [upd_ne (ne_of_none q hn), q]; simp⟩
theorem Un.write (mu : Mut (H x)) (he : e = x ∨ H e = some (.own x)) (k : ∀ b u, b ≠ e → h.get? b = some u → h'.get? b = some u) (heo : ∃ u, h'.get? e = some u) : Un fs ex H (upd H x o) h h' := by
  have hx : ∀ b, H b = none → b ≠ x := fun b n z => by subst z; rw [n] at mu; exact mu
  have hb : ∀ b, H b = none → b ≠ e := fun b n z => by
    subst z
    rcases he with r | r
    · exact hx b n r
    · rw [n] at r; cases r
  have hm : ∀ b u, H b = some u → ¬ Mut (some u) → b ≠ x := fun b u q nm z => by subst z; rw [q] at mu; exact nm mu
  refine ⟨fun b u q n _ _ => k b u (hb b n) q, fun b u q n _ _ => ⟨u.slots, k b u (hb b n) q⟩, fun b u q n _ => by rw [upd_ne (hx b n)]; exact n, fun b u q _ => ?_,
    fun b xs q => by rw [upd_ne (hm b _ q fun z => z)]; exact q, fun b u xs q => by rw [upd_ne (hm b _ q fun z => z)]; exact q, fun b ps q => ⟨#[], by rw [upd_ne (hm b _ q fun z => z), q]; simp⟩⟩
  by_cases hbe : b = e
  · subst hbe; exact heo
  · exact ⟨u, k b u hbe q⟩
end

/-! ### the heap without what is tracked -/
def trk (h : Heap) (H : Hp) : List Addr := (List.range h.objs.size).filter fun a => (H a).isSome
def hidT (h : Heap) (H : Hp) : Heap := PySem.W.hideAll h (trk h H)
theorem hidT_size (h : Heap) (H : Hp) : (hidT h H).objs.size = h.objs.size := PySem.W.hideAll_size _ _
theorem hidT_get {h : Heap} {H : Hp} {b : Addr} {o : Obj} (e : h.get? b = some o) (n : H b = none) : (hidT h H).get? b = some o :=
  PySem.W.hideAll_get _ e fun hm => by
    have q : (H b).isSome = true := (List.mem_filter.mp hm).2
    rw [n] at q; simp at q
theorem of_hidT {h : Heap} {H : Hp} {b : Addr} {o : Obj} (e : (hidT h H).get? b = some o) : h.get? b = some o ∧ H b = none := by
  have e' : h.get? b = some o := PySem.W.of_hideAll (trk h H) e
  refine ⟨e', ?_⟩
  cases q : H b with
  | none => rfl
  | some x =>
    have hm : b ∈ trk h H := List.mem_filter.mpr ⟨List.mem_range.mpr (Heap.lt_size e'), by simp [q]⟩
    have z : (hidT h H).get? b = none := PySem.W.hideAll_none (trk h H) hm
    rw [z] at e; cases e

/-! ### OpenK's ledger, filled with every new object but one -/
def allNews (g h : Heap) (L : Addr) : List (Addr × Obj) := (List.range h.objs.size).filterMap fun a => if a = L ∨ (g.get? a).isSome = true then none else (h.get? a).map fun o => (a, o)
def rest (g h : Heap) (L d : Addr) : List (Addr × Obj) := (allNews g h L).filter fun p => decide (p.1 ≠ d)
end L2

namespace L2
open PySem PySem.Spec PyProof.Rows

/-- the module's facts, over the base: the heap at the law's entry without what is tracked there -/
structure Mod (K : PySem.W.Frag) (mg : Str → Option Value) (base : Heap) : Prop where
  kin : K.In base
  glob : base.Ns mainGlobals mg
  blt : ∃ mb, base.Ns builtinsNs mb ∧ ∀ x : Str, x ≠ "__name__" → mb x = bootBuiltins x
  nolimit : base.NoLimit

/-- the context: a def's body (or a comprehension's block) running. base: fixed through the whole law; s₀, H₀: the entry; outer: the frames whose slots others may change (a def's callers); stack: all frames that run;
   ex: iterators that were made ahead of the entry and are walked here (a comprehension's); fn: the names whose cells were made at the entry (a def: all; a comprehension's block: its own); calm: not within an except suite; pn: pins that every state bears; xe: what is wanted of an exception that leaves the code -/
structure Cx where
  prog : Program
  w : World
  K : PySem.W.Frag
  mg : Str → Option Value
  base : Heap
  A : Around
  N : List Str
  s₀ : Shared
  H₀ : Hp
  env : Env
  outer : List Env
  stack : List Env
  ex : List Addr
  fn : Str → Bool
  calm : Bool
  pn : List (Addr × Obj)
  xe : Value → Shared → Prop
/-- the callers' frames -/
def frs (l : List Env) : List Addr := l.filterMap (·.frame)
abbrev Cx.fs (X : Cx) : List Addr := frs X.outer

def Vis (sc : Scope) (x : Str) : Prop := sc.names.lookup x = some .local ∨ sc.names.lookup x = some .cell ∨ sc.names.lookup x = some .free
def Loc (sc : Scope) (x : Str) : Prop := sc.names.lookup x = some .local ∨ sc.names.lookup x = some .cell
def Look (env : Env) (h : Heap) (m : Str → Option Value) (x : Str) (u : Value) : Prop :=
  (env.kindOf x = some .local ∧ m x = some u) ∨ ((env.kindOf x = some .cell ∨ env.kindOf x = some .free) ∧ ∃ c, env.cells.lookup x = some c ∧ h.IsCell c (some u))

structure Cx.Ok (X : Cx) : Prop where
  mod : Mod X.K X.mg X.base
  kind : X.env.scope.kind = .function
  glob : X.env.globals = mainGlobals
  blt : X.env.builtins = builtinsNs
  above : X.s₀.heap.objs.size ≤ X.env.locals
  inj : ∀ x y c, X.env.cells.lookup x = some c → X.env.cells.lookup y = some c → x = y
  has : ∀ x, (X.env.kindOf x = some .cell ∨ X.env.kindOf x = some .free) → ∃ c, X.env.cells.lookup x = some c
  cab : ∀ x c, X.fn x = true → X.env.cells.lookup x = some c → X.s₀.heap.objs.size ≤ c
  hd : X.calm = true → X.A.handled = none
  frames : X.A.frames = some X.stack
  stk : X.stack = X.outer ∨ (X.stack = X.env :: X.outer ∧ X.env.frame = some X.env.locals)
  exf : ∀ b ∈ X.ex, b ≠ X.env.locals ∧ ∀ x c, X.env.cells.lookup x = some c → c ≠ b
  bs : ∀ b o, X.base.get? b = some o → X.s₀.heap.get? b = some o ∧ X.H₀ b = none
  bsz : X.base.objs.size ≤ X.s₀.heap.objs.size
  noex : ∀ b o, X.base.get? b = some o → b ∉ X.ex
  exfs : ∀ b ∈ X.ex, b ∉ X.fs
  funs : X.s₀.heap.FunFrames X.base X.outer
  frf : ∀ b ∈ X.fs, X.H₀ b = none

structure Inv (X : Cx) (pins : List (Addr × Obj)) (σ : List (Option V)) (H : Hp) (s : Shared) : Prop where
  ok : X.Ok
  os : s.os = X.s₀.os
  bare : AllBare s.gens
  base : Un X.fs X.ex X.H₀ H X.s₀.heap s.heap
  loc : ∃ m, s.heap.Ns X.env.locals m ∧ ∀ (i : Nat) (x : Str) (v : V), X.N[i]? = some x → σ[i]? = some (some v) → Vis X.env.scope x → ∃ u, RelV v u ∧ Look X.env s.heap m x u
  cell : ∀ x c, X.env.cells.lookup x = some c → ∃ v, s.heap.IsCell c v
  free : H X.env.locals = none
  freeC : ∀ x c, X.env.cells.lookup x = some c → H c = none
  pin : ∀ p ∈ X.pn ++ pins, s.heap.get? p.1 = some p.2 ∧ H p.1 = none ∧ p.1 ≠ X.env.locals ∧ p.1 ∉ X.fs ∧ ∀ v, p.2.data ≠ .cell v
  hok : HOk X.prog X.w H s.heap
  len : σ.length = X.N.length

section
variable {X : Cx} {pins : List (Addr × Obj)} {σ : List (Option V)} {H H' : Hp} {s : Shared} {h' : Heap}

theorem Cx.Ok.nofr (ok : X.Ok) {b : Addr} {o : Obj} (e : X.base.get? b = some o) : b ∉ X.fs := fun hb => by
  have := (ok.funs.mem hb).1
  rw [e] at this; cases this
theorem Inv.bs (I : Inv X pins σ H s) : ∀ b o, X.base.get? b = some o → s.heap.get? b = some o ∧ H b = none := fun b o e =>
  ⟨I.base.keep b o (I.ok.bs b o e).1 (I.ok.bs b o e).2 (I.ok.nofr e) (I.ok.noex b o e), I.base.free b o (I.ok.bs b o e).1 (I.ok.bs b o e).2 (I.ok.noex b o e)⟩
theorem Inv.bk (I : Inv X pins σ H s) : ∀ b o, X.base.get? b = some o → s.heap.get? b = some o := fun b o e => (I.bs b o e).1
theorem Inv.mod (I : Inv X pins σ H s) : Mod X.K X.mg X.base := I.ok.mod
theorem Inv.kIn (I : Inv X pins σ H s) : X.K.In s.heap := I.ok.mod.kin.keeps I.bk
theorem Inv.lt (I : Inv X pins σ H s) : X.env.locals < s.heap.objs.size := let ⟨_, hn, _⟩ := I.loc; hn.lt
theorem Inv.sz (I : Inv X pins σ H s) : X.s₀.heap.objs.size ≤ s.heap.objs.size := Nat.le_trans I.ok.above (Nat.le_of_lt I.lt)
theorem Inv.nofs (I : Inv X pins σ H s) {a : Addr} (h : s.heap.objs.size ≤ a) : a ∉ X.fs := fun hb => by
  obtain ⟨_, o, ho, _⟩ := I.ok.funs.mem hb
  exact absurd (Nat.lt_of_lt_of_le (Heap.lt_size ho) (Nat.le_trans I.sz h)) (Nat.lt_irrefl _)
theorem Inv.cne (I : Inv X pins σ H s) : ∀ x c, X.env.cells.lookup x = some c → c ≠ X.env.locals := fun x c e z => by
  obtain ⟨v, o, ho, hd⟩ := I.cell x c e
  obtain ⟨m, ⟨o', es, ep, ho', hd', _⟩, _⟩ := I.loc
  rw [z, ho'] at ho; cases ho; rw [hd'] at hd; cases hd
theorem Inv.funs (I : Inv X pins σ H s) : s.heap.FunFrames X.base X.outer := by
  have all : ∀ (l : List Env), (∀ b ∈ frs l, b ∈ X.fs) → X.s₀.heap.FunFrames X.base l → s.heap.FunFrames X.base l := by
    intro l
    induction l with
    | nil => intro _ _; trivial
    | cons env r ih =>
      intro hs hl
      obtain ⟨hk, ⟨L, o, hf, hn, ho, hd⟩, hr⟩ := hl
      have hL : L ∈ X.fs := hs L (by unfold frs; rw [List.filterMap_cons, hf]; exact List.mem_cons_self)
      obtain ⟨sl, e⟩ := I.base.slot L o ho (I.ok.frf L hL) hL fun z => I.ok.exfs L z hL
      exact ⟨hk, ⟨L, _, hf, hn, e, hd⟩, ih (fun b hb => hs b (by unfold frs; rw [List.filterMap_cons, hf]; exact List.mem_cons_of_mem _ hb)) hr⟩
  exact all X.outer (fun _ hb => hb) I.ok.funs

/-- the frames that run, for a call -/
theorem Inv.stack (I : Inv X pins σ H s) : s.heap.FunFrames X.base X.stack := by
  rcases I.ok.stk with e | ⟨e, hf⟩
  · rw [e]; exact I.funs
  · rw [e]
    obtain ⟨m, hn, _⟩ := I.loc
    refine .cons (by rw [I.ok.kind]; decide) hf hn ?_ I.funs
    exact Heap.get?_none_of_le (Nat.le_trans I.ok.bsz I.ok.above)
theorem Inv.stkSub (I : Inv X pins σ H s) : ∀ b ∈ frs X.stack, b ∈ X.env.locals :: X.fs := fun b hb => by
  rcases I.ok.stk with e | ⟨e, hf⟩
  · rw [e] at hb; exact List.mem_cons_of_mem _ hb
  · rw [e] at hb
    unfold frs at hb
    rw [List.filterMap_cons, hf] at hb
    exact hb
theorem Inv.stkFree (I : Inv X pins σ H s) : ∀ b ∈ frs X.stack, H b = none := fun b hb => by
  rcases List.mem_cons.mp (I.stkSub b hb) with e | hb
  · rw [e]; exact I.free
  · obtain ⟨_, o, ho, _⟩ := I.ok.funs.mem hb
    exact I.base.free b o ho (I.ok.frf b hb) fun z => I.ok.exfs b z hb

/-- THE STEP: the untracked objects but the frame and the records at ch are kept (the callers' frames up to slots), the frame's map is kept, the new abstract heap is held -/
theorem Inv.step {g' : Array GenState} {t' : Nat} {d' : Drawn} {ch : List Addr} (I : Inv X pins σ H s)
    (hch : ∀ b ∈ ch, (b ∈ X.ex ∨ X.s₀.heap.objs.size ≤ b) ∧ b ≠ X.env.locals ∧ (∀ x c, X.env.cells.lookup x = some c → c ≠ b) ∧ ∀ p ∈ X.pn ++ pins, p.1 ≠ b)
    (keep : ∀ b o, b ≠ X.env.locals → b ∉ X.fs → b ∉ ch → s.heap.get? b = some o → H b = none → h'.get? b = some o)
    (slot : ∀ b o, b ≠ X.env.locals → b ∈ X.fs → b ∉ ch → s.heap.get? b = some o → H b = none → ∃ sl, h'.get? b = some { o with slots := sl }) (free : ∀ b o, b ∉ ch → s.heap.get? b = some o → H b = none → H' b = none)
    (there : ∀ b o, b ∉ ch → s.heap.get? b = some o → ∃ o', h'.get? b = some o')
    (tups : ∀ b xs, H b = some (.tup xs) → H' b = some (.tup xs)) (frzs : ∀ b o u, H b = some (.frz o u) → H' b = some (.frz o u)) (tbls : ∀ b ps, H b = some (.tbl ps) → ∃ more, H' b = some (.tbl (ps ++ more)))
    (ns : ∀ m, s.heap.Ns X.env.locals m → h'.Ns X.env.locals m) (hok : HOk X.prog X.w H' h') (hg : AllBare g') :
    Inv X pins σ H' { s with heap := h', gens := g', drawn := d', toks := t' } := by
  have neL : ∀ b o, X.s₀.heap.get? b = some o → b ≠ X.env.locals := fun b o e => Nat.ne_of_lt (Nat.lt_of_lt_of_le (Heap.lt_size e) I.ok.above)
  have neC : ∀ b o, X.s₀.heap.get? b = some o → b ∉ X.ex → b ∉ ch := fun b o e hx hb => by
    rcases (hch b hb).1 with z | z
    · exact hx z
    · exact absurd (Nat.lt_of_lt_of_le (Heap.lt_size e) z) (Nat.lt_irrefl _)
  have cellK : ∀ x c, X.env.cells.lookup x = some c → ∀ v, s.heap.IsCell c v → h'.IsCell c v := fun x c e v ⟨o, ho, hd⟩ => by
    have nch : c ∉ ch := fun z => (hch c z).2.2.1 x c e rfl
    by_cases hc : c ∈ X.fs
    · obtain ⟨sl, q⟩ := slot c o (I.cne x c e) hc nch ho (I.freeC x c e)
      exact ⟨_, q, hd⟩
    · exact ⟨o, keep c o (I.cne x c e) hc nch ho (I.freeC x c e), hd⟩
  refine ⟨I.ok, I.os, hg, ⟨fun b o e n hb hx => ?_, fun b o e n hb hx => ?_, fun b o e n hx => ?_, fun b o e hx => ?_, fun b xs e => tups b xs (I.base.tups b xs e), fun b o xs e => frzs b o xs (I.base.frzs b o xs e), fun b ps e => ?_⟩, ?_, fun x c e => ?_, ?_, fun x c e => ?_, fun p hp => ?_, hok, I.len⟩
  · exact keep b o (neL b o e) hb (neC b o e hx) (I.base.keep b o e n hb hx) (I.base.free b o e n hx)
  · obtain ⟨sl, e1⟩ := I.base.slot b o e n hb hx
    obtain ⟨sl', e2⟩ := slot b _ (neL b o e) hb (neC b o e hx) e1 (I.base.free b o e n hx)
    exact ⟨sl', e2⟩
  · obtain ⟨o', e1⟩ := I.base.there b o e hx
    exact free b o' (neC b o e hx) e1 (I.base.free b o e n hx)
  · obtain ⟨o', e1⟩ := I.base.there b o e hx
    exact there b o' (neC b o e hx) e1
  · obtain ⟨m1, e1⟩ := I.base.tbls b ps e
    obtain ⟨m2, e2⟩ := tbls b _ e1
    exact ⟨m1 ++ m2, by rw [e2, Array.append_assoc]⟩
  · obtain ⟨m, hn, hl⟩ := I.loc
    refine ⟨m, ns m hn, fun i x v e1 e2 e3 => ?_⟩
    obtain ⟨u, r, l⟩ := hl i x v e1 e2 e3
    refine ⟨u, r, ?_⟩
    rcases l with l | ⟨k, c, e, z⟩
    · exact .inl l
    · exact .inr ⟨k, c, e, cellK x c e _ z⟩
  · obtain ⟨v, z⟩ := I.cell x c e
    exact ⟨v, cellK x c e v z⟩
  · obtain ⟨m, ⟨o, _, _, ho, _⟩, _⟩ := I.loc
    exact free _ o (fun z => (hch _ z).2.1 rfl) ho I.free
  · obtain ⟨v, o, ho, hd⟩ := I.cell x c e
    exact free c o (fun z => (hch c z).2.2.1 x c e rfl) ho (I.freeC x c e)
  · obtain ⟨e, n, ne, nf, d⟩ := I.pin p hp
    have nch : p.1 ∉ ch := fun z => (hch p.1 z).2.2.2 p hp rfl
    exact ⟨keep p.1 p.2 ne nf nch e n, free p.1 p.2 nch e n, ne, nf, d⟩
/-- .. where the frame's own object is kept too -/
theorem Inv.un {t' : Nat} (I : Inv X pins σ H s) (u : Un X.fs [] H H' s.heap h') (hok : HOk X.prog X.w H' h') : Inv X pins σ H' { s with heap := h', toks := t' } := by
  obtain ⟨m, ⟨o, es, ep, ho, r⟩, _⟩ := id I.loc
  obtain ⟨sl, hL⟩ := u.any ho I.free (by simp)
  exact I.step (g' := s.gens) (d' := s.drawn) (ch := []) (fun _ z => nomatch z) (fun b o _ hb _ e n => u.keep b o e n hb (by simp)) (fun b o _ hb _ e n => u.slot b o e n hb (by simp)) (fun b o _ e n => u.free b o e n (by simp)) (fun b o _ e => u.there b o e (by simp)) u.tups u.frzs u.tbls (fun m' hm => by
    obtain ⟨o', es', ep', ho', r'⟩ := hm
    rw [ho] at ho'; cases ho'
    exact ⟨_, es', ep', hL, r'⟩) hok I.bare
/-- behind a call (or a comprehension's block): the slots of this frame may have changed too, the records at ch may have turned -/
theorem Inv.call {g' : Array GenState} {t' : Nat} {d' : Drawn} {ch : List Addr} (I : Inv X pins σ H s) (u : Un (frs X.stack) ch H H' s.heap h') (hok : HOk X.prog X.w H' h') (hg : AllBare g')
    (hch : ∀ b ∈ ch, (b ∈ X.ex ∨ X.s₀.heap.objs.size ≤ b) ∧ b ≠ X.env.locals ∧ (∀ x c, X.env.cells.lookup x = some c → c ≠ b) ∧ ∀ p ∈ X.pn ++ pins, p.1 ≠ b) :
    Inv X pins σ H' { s with heap := h', gens := g', drawn := d', toks := t' } := by
  obtain ⟨m, ⟨o, es, ep, ho, r⟩, _⟩ := id I.loc
  obtain ⟨sl, hL⟩ := u.any ho I.free fun z => (hch _ z).2.1 rfl
  exact I.step (ch := ch) hch (fun b o hL hb hc e n => u.keep b o e n (fun z => (List.mem_cons.mp (I.stkSub b z)).elim hL hb) hc) (fun b o _ _ hc e n => u.any e n hc) (fun b o hc e n => u.free b o e n hc) (fun b o hc e => u.there b o e hc) u.tups u.frzs u.tbls (fun m' hm => by
    obtain ⟨o', es', ep', ho', r'⟩ := hm
    rw [ho] at ho'; cases ho'
    exact ⟨_, es', ep', hL, r'⟩) hok hg
/-- an untracked record of ours (an iterator) has turned -/
theorem Inv.turned {t' : Nat} {it : Addr} (I : Inv X pins σ H s) (k : ∀ b o, b ≠ it → s.heap.get? b = some o → h'.get? b = some o) (hn : H it = none) (hL : it ≠ X.env.locals)
    (h1 : it ∈ X.ex ∨ X.s₀.heap.objs.size ≤ it) (h2 : ∀ x c, X.env.cells.lookup x = some c → c ≠ it) (h3 : ∀ p ∈ X.pn ++ pins, p.1 ≠ it) : Inv X pins σ H { s with heap := h', toks := t' } := by
  have nit : ∀ b u, H b = some u → b ≠ it := fun b u e z => by rw [z, hn] at e; cases e
  refine I.step (g' := s.gens) (d' := s.drawn) (ch := [it]) (fun b hb => ?_) (fun b o _ _ hc e _ => k b o (fun z => hc (by simp [z])) e) (fun b o _ _ hc e _ => ⟨o.slots, k b o (fun z => hc (by simp [z])) e⟩) (fun _ _ _ _ n => n)
    (fun b o hc e => ⟨o, k b o (fun z => hc (by simp [z])) e⟩) (fun _ _ e => e) (fun _ _ _ e => e) (fun b ps e => ⟨#[], by rw [e]; simp⟩) (fun m hm => ?_) (fun b u e => ?_) I.bare
  · have e : b = it := by simpa using hb
    subst e
    exact ⟨h1, hL, h2, h3⟩
  · obtain ⟨o, es, ep, ho, r⟩ := hm
    exact ⟨o, es, ep, k _ o (Ne.symm hL) ho, r⟩
  · refine (I.hok b u e).stay (fun c v hc q => k c v ?_ q) (fun _ q => q) fun _ _ q => q
    rcases hc with z | z
    · rw [z]; exact nit b u e
    · exact nit c _ z
theorem Inv.tok (I : Inv X pins σ H s) (t : Nat) : Inv X pins σ H { s with toks := t } := I.un (h' := s.heap) (t' := t) Un.refl I.hok
/-- all objects kept -/
theorem Inv.kept {t' : Nat} (I : Inv X pins σ H s) (k : ∀ b u, s.heap.get? b = some u → h'.get? b = some u) : Inv X pins σ H { s with heap := h', toks := t' } := I.un (Un.kept k) (I.hok.kept k)
/-- a new object laid and tracked -/
theorem Inv.laid {a : Addr} {o : HO} {t' : Nat} (I : Inv X pins σ H s) (k : ∀ b u, s.heap.get? b = some u → h'.get? b = some u) (hp : s.heap.objs.size ≤ a) (new : ObjOk X.prog X.w (upd H a o) h' a o) :
    Inv X pins σ (upd H a o) { s with heap := h', toks := t' } := I.un (Un.laid k hp (I.hok.fresh hp)) (I.hok.laid k hp new)
/-- an object written -/
theorem Inv.write {x e : Addr} {o : HO} {t' : Nat} (I : Inv X pins σ H s) (mu : Mut (H x)) (he : e = x ∨ H e = some (.own x)) (k : ∀ b u, b ≠ e → s.heap.get? b = some u → h'.get? b = some u) (heo : ∃ u, h'.get? e = some u)
    (new : ObjOk X.prog X.w (upd H x o) h' x o) : Inv X pins σ (upd H x o) { s with heap := h', toks := t' } := I.un (Un.write mu he k heo) (I.hok.write mu he k heo new)
/-- forgetting slots, pins -/
theorem Inv.weak {σ' : List (Option V)} (I : Inv X pins σ H s) (hl : σ'.length = σ.length) (w : ∀ (i : Nat) v, σ'[i]? = some (some v) → σ[i]? = some (some v)) : Inv X pins σ' H s :=
  ⟨I.ok, I.os, I.bare, I.base, let ⟨m, hn, hl'⟩ := I.loc; ⟨m, hn, fun i x v e1 e2 e3 => hl' i x v e1 (w i v e2) e3⟩, I.cell, I.free, I.freeC, I.pin, I.hok, hl.trans I.len⟩
theorem Inv.pins_of {pins' : List (Addr × Obj)} (I : Inv X pins σ H s) (h : ∀ p ∈ pins', s.heap.get? p.1 = some p.2 ∧ H p.1 = none ∧ p.1 ≠ X.env.locals ∧ p.1 ∉ X.fs ∧ ∀ v, p.2.data ≠ .cell v) : Inv X pins' σ H s :=
  ⟨I.ok, I.os, I.bare, I.base, I.loc, I.cell, I.free, I.freeC, fun p hp => (List.mem_append.mp hp).elim (fun z => I.pin p (List.mem_append_left _ z)) (h p), I.hok, I.len⟩

theorem nodup_ix {N : List Str} (hN : N.Nodup) {i j : Nat} {x : Str} (a : N[i]? = some x) (b : N[j]? = some x) : i = j := by
  obtain ⟨h1, e1⟩ := List.getElem?_eq_some_iff.mp a
  obtain ⟨h2, e2⟩ := List.getElem?_eq_some_iff.mp b
  exact (List.getElem_inj hN).mp (e1.trans e2.symm)

/-- a name is stored; what changed -/
theorem store_ok2 {M : Model} {A : Around} {E : Value → Shared → Prop} {i : Nat} {x : Str} {v : V} {u : Value} {Q : Unit → Shared → Prop} (I : Inv X pins σ H s) (hN : X.N.Nodup) (hi : X.N[i]? = some x) (hx : Loc X.env.scope x) (r : RelV v u)
    (h : ∀ s', Inv X pins (σ.set i (some v)) H s' → (∃ a, Heap.SameBut a s.heap s'.heap ∧ (a = X.env.locals ∨ X.env.cells.lookup x = some a)) → Q () s') (hf : X.fn x = true ∨ X.env.scope.names.lookup x = some .local := by first | exact .inl rfl | exact .inr rfl | assumption) : wpAny M A (storeName X.env x u) Q E s := by
  obtain ⟨m, hn, hl⟩ := id I.loc
  have hcls : (X.env.scope.kind == .class || (X.env.scope.kind == .module && X.env.locals != X.env.globals)) = false := by rw [I.ok.kind]; rfl
  have hiσ : i < σ.length := by rw [I.len]; exact (List.getElem?_eq_some_iff.mp hi).1
  have cne := I.cne
  have tracked : ∀ {a : Addr} {h' : Heap}, (∃ o, s.heap.get? a = some o ∧ H a = none) → Heap.SameBut a s.heap h' → HOk X.prog X.w H h' := fun {a h'} ha hs b ob e => by
    obtain ⟨_, _, hfree⟩ := ha
    refine (I.hok b ob e).stay (fun c w' hc q => (hs.2 c ?_).trans q) (fun _ q => q) fun _ _ q => q
    rintro rfl
    rcases hc with rfl | hc
    · rw [hfree] at e; cases e
    · rw [hfree] at hc; cases hc
  rcases hx with hk | hk
  · refine wpAny_storeName_local hk hn (fun h' hn' hs => ?_) hcls
    obtain ⟨oL, _, _, hoL, _⟩ := id hn
    refine h _ ⟨I.ok, I.os, I.bare, ⟨fun b o e n hb hx => ?_, fun b o e n hb hx => ?_, I.base.free, fun b o e hx => ?_, I.base.tups, I.base.frzs, I.base.tbls⟩, ⟨_, hn', fun j y v' e1 e2 e3 => ?_⟩, fun y c e => ?_, I.free, I.freeC, fun p hp => ?_, tracked ⟨oL, hoL, I.free⟩ hs, by simpa using I.len⟩ ⟨_, hs, .inl rfl⟩
    · exact (hs.2 b (Nat.ne_of_lt (Nat.lt_of_lt_of_le (Heap.lt_size e) I.ok.above))).trans (I.base.keep b o e n hb hx)
    · obtain ⟨sl, e1⟩ := I.base.slot b o e n hb hx
      exact ⟨sl, (hs.2 b (Nat.ne_of_lt (Nat.lt_of_lt_of_le (Heap.lt_size e) I.ok.above))).trans e1⟩
    · obtain ⟨o', e1⟩ := I.base.there b o e hx
      exact ⟨o', (hs.2 b (Nat.ne_of_lt (Nat.lt_of_lt_of_le (Heap.lt_size e) I.ok.above))).trans e1⟩
    · by_cases hj : j = i
      · subst hj
        rw [hi] at e1; cases e1
        rw [List.getElem?_set_self hiσ] at e2
        cases e2
        exact ⟨u, r, .inl ⟨hk, by simp⟩⟩
      · rw [List.getElem?_set_ne (Ne.symm hj)] at e2
        obtain ⟨u', r', q⟩ := hl j y v' e1 e2 e3
        refine ⟨u', r', ?_⟩
        rcases q with ⟨k, e⟩ | ⟨k, c, e, z⟩
        · refine .inl ⟨k, ?_⟩
          have : y ≠ x := fun e => hj (nodup_ix hN e1 (e ▸ hi))
          simp [this, e]
        · exact .inr ⟨k, c, e, z.sameBut hs (cne y c e)⟩
    · obtain ⟨w', z⟩ := I.cell y c e
      exact ⟨w', z.sameBut hs (cne y c e)⟩
    · obtain ⟨e, n, ne, nf, d⟩ := I.pin p hp
      exact ⟨(hs.2 p.1 ne).trans e, n, ne, nf, d⟩
  · have hfn : X.fn x = true := by
      rcases hf with z | z
      · exact z
      · rw [z] at hk; cases hk
    obtain ⟨c, hc⟩ := I.ok.has x (.inl hk)
    obtain ⟨w', z⟩ := I.cell x c hc
    refine wpAny_storeName_cell I.ok.kind hk hc z (fun h' hc' hs => ?_)
    obtain ⟨oc, hoc, hocd⟩ := id z
    refine h { s with heap := h' } ⟨I.ok, I.os, I.bare, ⟨fun b o e n hb hx => ?_, fun b o e n hb hx => ?_, I.base.free, fun b o e hx => ?_, I.base.tups, I.base.frzs, I.base.tbls⟩, ⟨m, hn.sameBut hs (Ne.symm (cne x c hc)), fun j y v' e1 e2 e3 => ?_⟩, fun y c' e => ?_, I.free, I.freeC, fun p hp => ?_, tracked ⟨oc, hoc, I.freeC x c hc⟩ hs, by simpa using I.len⟩ ⟨c, hs, .inr hc⟩
    · exact (hs.2 b (Nat.ne_of_lt (Nat.lt_of_lt_of_le (Heap.lt_size e) (I.ok.cab x c hfn hc)))).trans (I.base.keep b o e n hb hx)
    · obtain ⟨sl, e1⟩ := I.base.slot b o e n hb hx
      exact ⟨sl, (hs.2 b (Nat.ne_of_lt (Nat.lt_of_lt_of_le (Heap.lt_size e) (I.ok.cab x c hfn hc)))).trans e1⟩
    · obtain ⟨o', e1⟩ := I.base.there b o e hx
      exact ⟨o', (hs.2 b (Nat.ne_of_lt (Nat.lt_of_lt_of_le (Heap.lt_size e) (I.ok.cab x c hfn hc)))).trans e1⟩
    · by_cases hj : j = i
      · subst hj
        rw [hi] at e1; cases e1
        rw [List.getElem?_set_self hiσ] at e2
        cases e2
        exact ⟨u, r, .inr ⟨.inl hk, c, hc, hc'⟩⟩
      · rw [List.getElem?_set_ne (Ne.symm hj)] at e2
        obtain ⟨u', r', q⟩ := hl j y v' e1 e2 e3
        refine ⟨u', r', ?_⟩
        rcases q with q | ⟨k, c', e, z'⟩
        · exact .inl q
        · refine .inr ⟨k, c', e, z'.sameBut hs ?_⟩
          rintro rfl
          exact hj (nodup_ix hN e1 (I.ok.inj _ _ _ e hc ▸ hi))
    · by_cases hcc : c' = c
      · subst hcc; exact ⟨_, hc'⟩
      · obtain ⟨w2, z2⟩ := I.cell y c' e
        exact ⟨w2, z2.sameBut hs hcc⟩
    · obtain ⟨e, n, ne, nf, d⟩ := I.pin p hp
      refine ⟨(hs.2 p.1 ?_).trans e, n, ne, nf, d⟩
      intro q
      rw [q, hoc] at e
      have q' : oc = p.2 := Option.some.inj e
      exact d w' (by rw [← q']; exact hocd)
theorem store_ok {M : Model} {A : Around} {E : Value → Shared → Prop} {i : Nat} {x : Str} {v : V} {u : Value} {Q : Unit → Shared → Prop} (I : Inv X pins σ H s) (hN : X.N.Nodup) (hi : X.N[i]? = some x) (hx : Loc X.env.scope x) (r : RelV v u)
    (h : ∀ s', Inv X pins (σ.set i (some v)) H s' → Q () s') (hf : X.fn x = true ∨ X.env.scope.names.lookup x = some .local := by first | exact .inl rfl | exact .inr rfl | assumption) : wpAny M A (storeName X.env x u) Q E s :=
  store_ok2 I hN hi hx r (fun s' I' _ => h s' I') hf
/-- behind a call or a block, the state as it is -/
theorem Inv.call' {s' : Shared} {ch : List Addr} (I : Inv X pins σ H s) (ho : s'.os = s.os) (u : Un (frs X.stack) ch H H' s.heap s'.heap) (hok : HOk X.prog X.w H' s'.heap) (hg : AllBare s'.gens)
    (hch : ∀ b ∈ ch, (b ∈ X.ex ∨ X.s₀.heap.objs.size ≤ b) ∧ b ≠ X.env.locals ∧ (∀ x c, X.env.cells.lookup x = some c → c ≠ b) ∧ ∀ p ∈ X.pn ++ pins, p.1 ≠ b) : Inv X pins σ H' s' := by
  obtain ⟨h', g', d', t', o'⟩ := s'
  have e : o' = s.os := ho
  subst e
  exact I.call (g' := g') (t' := t') (d' := d') u hok hg hch
end

/-! ### the judgements -/
/-- an exception: its class, its own dict's address (where it has one), the abstract heap behind it -/
abbrev XK := Value → Option Addr → Hp → Prop
abbrev St := List (Option V)
abbrev VK := V → Hp → Prop
/-- an expression's reading; a test's; an argument list's -/
abbrev TE := St → Hp → VK → Prop
abbrev TT := St → Hp → (Bool → Hp → Prop) → Prop
abbrev TA := St → Hp → (List V → Hp → Prop) → Prop
/-- what is wanted behind a statement -/
structure Ends where
  nx : St → Hp → Prop
  rt : VK
  bk : St → Hp → Prop := fun _ _ => False
  ct : St → Hp → Prop := fun _ _ => False
abbrev TS := Ends → St → Hp → Prop

def EP (X : Cx) (pins : List (Addr × Obj)) (σ : St) (Q : VK) (u : Value) (s' : Shared) : Prop := ∃ v H', Inv X pins σ H' s' ∧ RelV v u ∧ Q v H'
def TP (X : Cx) (pins : List (Addr × Obj)) (σ : St) (Q : Bool → Hp → Prop) (b : Bool) (s' : Shared) : Prop := ∃ H', Inv X pins σ H' s' ∧ Q b H'
def AP (X : Cx) (pins : List (Addr × Obj)) (σ : St) (Q : List V → Hp → Prop) (us : List Value) (s' : Shared) : Prop := ∃ vs H', Inv X pins σ H' s' ∧ Vals vs us ∧ Q vs H'
def SP (X : Cx) (pins : List (Addr × Obj)) (D : Ends) (f : Flow) (s' : Shared) : Prop :=
  match f with
  | .next => ∃ σ' H', Inv X pins σ' H' s' ∧ D.nx σ' H'
  | .brk => ∃ σ' H', Inv X pins σ' H' s' ∧ D.bk σ' H'
  | .cont => ∃ σ' H', Inv X pins σ' H' s' ∧ D.ct σ' H'
  | .ret u => ∃ v σ' H', Inv X pins σ' H' s' ∧ RelV v u ∧ D.rt v H'

def PE (X : Cx) (e : Expr) (t : TE) : Prop :=
  ∀ (pins : List (Addr × Obj)) (s : Shared) (σ : St) (H : Hp) (Q : VK), Inv X pins σ H s → t σ H Q → wpAny (model X.prog X.w) X.A (eval e X.env) (EP X pins σ Q) X.xe s
def PT (X : Cx) (e : Expr) (t : TT) : Prop :=
  ∀ (pins : List (Addr × Obj)) (s : Shared) (σ : St) (H : Hp) (Q : Bool → Hp → Prop), Inv X pins σ H s → t σ H Q → wpAny (model X.prog X.w) X.A (isTrue e X.env (eval e X.env)) (TP X pins σ Q) X.xe s
/-- a test whatever its 'whole' is (and, or) -/
def PW (X : Cx) (e : Expr) (t : TT) : Prop :=
  ∀ (whole : Sem Value) (pins : List (Addr × Obj)) (s : Shared) (σ : St) (H : Hp) (Q : Bool → Hp → Prop), Inv X pins σ H s → t σ H Q → wpAny (model X.prog X.w) X.A (isTrue e X.env whole) (TP X pins σ Q) X.xe s
theorem PW.pt {X : Cx} {e : Expr} {t : TT} (h : PW X e t) : PT X e t := h _
/-- an argument list (no star), from the left -/
def PA (X : Cx) (es : List Expr) (t : TA) : Prop :=
  ∀ (pos : Pos) (pins : List (Addr × Obj)) (s : Shared) (σ : St) (H : Hp) (Q : List V → Hp → Prop), Inv X pins σ H s → t σ H Q → wpAny (model X.prog X.w) X.A (spliced (backTo pos (starEach es X.env))) (AP X pins σ Q) X.xe s
def PS (X : Cx) (st : Stmt) (t : TS) : Prop :=
  ∀ (pins : List (Addr × Obj)) (s : Shared) (σ : St) (H : Hp) (D : Ends), Inv X pins σ H s → t D σ H → wpAny (model X.prog X.w) X.A (exec st X.env) (SP X pins D) X.xe s
def PSs (X : Cx) (st : List Stmt) (t : TS) : Prop :=
  ∀ (pins : List (Addr × Obj)) (s : Shared) (σ : St) (H : Hp) (D : Ends), Inv X pins σ H s → t D σ H → wpAny (model X.prog X.w) X.A (execs st X.env) (SP X pins D) X.xe s
/-- weaken the end -/
theorem thn {α : Type} {t : Sem α} {Q Q' : α → Shared → Prop} {M : Model} {A : Around} {E : Value → Shared → Prop} {s : Shared} (h : wpAny M A t Q E s) (hQ : ∀ a s, Q a s → Q' a s) : wpAny M A t Q' E s := wpAny_mono h hQ fun _ _ x => x
end L2

namespace L2
open PySem PySem.Spec PyProof.Rows
section
variable {X : Cx}

/-! ### names and constants -/
def tVar (i : Nat) : TE := fun σ H Q => ∃ v, σ[i]? = some (some v) ∧ Q v H
def tC (v : V) : TE := fun _ H Q => Q v H
theorem pe_var {i : Nat} {x : Str} {pos : Pos} (hN : X.N[i]? = some x) (hv : Vis X.env.scope x) (hd : (x == ("__debug__" : Str)) = false := by decide) (hcd : (x == ("__classdict__" : Str)) = false := by decide) : PE X (.Name x pos) (tVar i) := by
  intro pins s σ H Q I h
  obtain ⟨v, e, h⟩ := h
  obtain ⟨m, hn, hl⟩ := I.loc
  obtain ⟨u, r, l⟩ := hl i x v hN e hv
  have fin : EP X pins σ Q u s := ⟨v, H, I, r, h⟩
  rcases l with ⟨hk, hm⟩ | ⟨hk, c, hc, hcell⟩
  · exact wpAny_Name (wpAny_loadName_local I.ok.kind hk hn hm fin) hd
  · rcases hk with hk | hk
    · exact wpAny_Name (wpAny_loadName_cell I.ok.kind hk hc hcell fin) hd
    · exact wpAny_Name (wpAny_loadName_free I.ok.kind hk hc hcell fin hcd) hd
theorem pe_int {i j pos} : PE X (.Constant (.int i) j pos) (tC (.int i)) := fun _ _ _ H _ I h => wpAny_Constant_int ⟨.int i, H, I.tok _, ⟨_, rfl⟩, h⟩
theorem pe_bl {b j pos} : PE X (.Constant (.bool b) j pos) (tC (.bl b)) := fun _ _ _ H _ I h => Constant_bool ⟨.bl b, H, I, rfl, h⟩
theorem pe_non {j pos} : PE X (.Constant .none j pos) (tC .non) := fun _ _ _ H _ I h => Constant_none ⟨.non, H, I, rfl, h⟩
theorem pe_str {x j pos} : PE X (.Constant (.str x) j pos) (tC (.str x)) := fun _ _ _ H _ I h => Calls.Constant_str ⟨.str x, H, I.tok _, ⟨_, rfl⟩, h⟩

/-- a global name of the def -/
def Gl (X : Cx) (x : Str) : Prop := X.env.kindOf x = some .globalImplicit
theorem ld_glob {E : Value → Shared → Prop} {pins : List (Addr × Obj)} {s : Shared} {σ : St} {H : Hp} {x : Str} {u : Value} {pos : Pos} {Q : Value → Shared → Prop} (I : Inv X pins σ H s) (hg : Gl X x) (hm : X.mg x = some u) (h : Q u s)
    (hd : (x == ("__debug__" : Str)) = false := by decide) : wpAny (model X.prog X.w) X.A (eval (.Name x pos) X.env) Q E s :=
  Calls.Name_function_global I.ok.kind hg (Calls.loadGlobal_global (by rw [I.ok.glob]; exact I.mod.glob.keeps I.bk) hm h) hd
theorem ld_blt {E : Value → Shared → Prop} {pins : List (Addr × Obj)} {s : Shared} {σ : St} {H : Hp} {x : Str} {u : Value} {pos : Pos} {Q : Value → Shared → Prop} (I : Inv X pins σ H s) (hg : Gl X x) (hm : X.mg x = none) (hv : bootBuiltins x = some u) (h : Q u s)
    (hn : x ≠ "__name__" := by decide) (hd : (x == ("__debug__" : Str)) = false := by decide) : wpAny (model X.prog X.w) X.A (eval (.Name x pos) X.env) Q E s := by
  obtain ⟨mb, h1, h2⟩ := I.mod.blt
  exact Calls.Name_function_global I.ok.kind hg (Calls.loadGlobal_builtin (by rw [I.ok.glob]; exact I.mod.glob.keeps I.bk) hm (by rw [I.ok.blt]; exact h1.keeps I.bk) ((h2 x hn).trans hv) h) hd
/-- a module's constant, a class, a function, as a value -/
theorem pe_glob {x : Str} {v : V} {u : Value} {pos : Pos} (hg : Gl X x) (hm : X.mg x = some u) (r : RelV v u) (hd : (x == ("__debug__" : Str)) = false := by decide) : PE X (.Name x pos) (tC v) :=
  fun _ _ _ H _ I h => ld_glob I hg hm ⟨v, H, I, r, h⟩ hd
theorem pe_bltn {x : Str} {v : V} {u : Value} {pos : Pos} (hg : Gl X x) (hm : X.mg x = none) (hv : bootBuiltins x = some u) (r : RelV v u) (hn : x ≠ "__name__" := by decide) (hd : (x == ("__debug__" : Str)) = false := by decide) : PE X (.Name x pos) (tC v) :=
  fun _ _ _ H _ I h => ld_blt I hg hm hv ⟨v, H, I, r, h⟩ hn hd

/-! ### arithmetic -/
/-- two ints -/
def t2I (ta tb : TE) (k : Int → Int → Hp → Prop) : St → Hp → Prop := fun σ H => ta σ H fun x H1 => tb σ H1 fun y H2 => ∃ i j, x = .int i ∧ y = .int j ∧ k i j H2
def tAdd (ta tb : TE) : TE := fun σ H Q => t2I ta tb (fun i j H2 => Q (.int (i + j)) H2) σ H
def tSub (ta tb : TE) : TE := fun σ H Q => t2I ta tb (fun i j H2 => Q (.int (i - j)) H2) σ H
/-- the left factor below 2^64 -/
def tMul (ta tb : TE) : TE := fun σ H Q => t2I ta tb (fun i j H2 => (-(2 ^ 64) < i ∧ i < 2 ^ 64) ∧ Q (.int (i * j)) H2) σ H
variable {a b : Expr} {ta tb : TE} {pos : Pos}
/-! ### comparisons -/
def PC (X : Cx) (op : CmpOp) (a b : Expr) (t : TE) : Prop :=
  ∀ (pins : List (Addr × Obj)) (s : Shared) (σ : St) (H : Hp) (Q : VK), Inv X pins σ H s → t σ H Q →
    wpAny (model X.prog X.w) X.A (eval a X.env) (fun v s₁ => wpAny (model X.prog X.w) X.A (eval b X.env) (fun u s₂ => wpAny (model X.prog X.w) X.A (compareOp op v u) (EP X pins σ Q) X.xe s₂) X.xe s₁) X.xe s
theorem nobehind (b : Expr) {op : CmpOp} (h : op ≠ .In) (h2 : op ≠ .NotIn) : behindInMarks op b = false := by
  have e1 : (op == CmpOp.In) = false := by cases op <;> first | rfl | exact absurd rfl h
  have e2 : (op == CmpOp.NotIn) = false := by cases op <;> first | rfl | exact absurd rfl h2
  cases b <;> simp [behindInMarks, e1, e2]
def tCmp (p : Int → Int → Bool) (ta tb : TE) : TE := fun σ H Q => t2I ta tb (fun i j H2 => Q (.bl (p i j)) H2) σ H
abbrev tLt : TE → TE → TE := tCmp fun i j => decide (i < j)
abbrev tLe : TE → TE → TE := tCmp fun i j => decide (i ≤ j)
abbrev tGt : TE → TE → TE := tCmp fun i j => decide (j < i)
abbrev tGe : TE → TE → TE := tCmp fun i j => decide (j ≤ i)
abbrev tEqI : TE → TE → TE := tCmp fun i j => decide (i = j)
abbrev tNeI : TE → TE → TE := tCmp fun i j => !decide (i = j)
/-- is None -/
def tIsN (ta : TE) : TE := fun σ H Q => ta σ H fun x H1 => Q (.bl (decide (x = .non))) H1
def tNotN (ta : TE) : TE := fun σ H Q => ta σ H fun x H1 => Q (.bl (!decide (x = .non))) H1
theorem RelV.none_iff {x : V} {v : Value} (r : RelV x v) : (v == Value.none) = decide (x = .non) := by
  cases x with
  | non => cases r; rfl
  | bl _ => cases r; rfl
  | int _ => obtain ⟨t, rfl⟩ := r; rfl
  | str _ => obtain ⟨t, rfl⟩ := r; rfl
  | byt _ => obtain ⟨t, rfl⟩ := r; rfl
  | flt _ => obtain ⟨t, rfl⟩ := r; rfl
  | ref _ => cases r; rfl
  | ty _ => cases r; rfl
theorem pc_isN {j pos'} (ha : PE X a ta) : PC X .Is a (.Constant .none j pos') (tIsN ta) := by
  intro pins s σ H Q I h
  refine thn (ha pins s σ H _ I h) fun v s1 ⟨x, H1, I1, r1, q1⟩ => ?_
  exact Constant_none (is_none_gen ⟨.bl _, H1, I1, by rw [r1.none_iff]; rfl, q1⟩)
/-- a comparison as a value, as a test -/
def tB (t : TE) : TT := fun σ H Q => t σ H fun x H1 => ∃ c, x = .bl c ∧ Q c H1
theorem pt_cmp {op : CmpOp} {t : TE} (h : PC X op a b t) (h1 : behindInMarks op b = false := by first | exact nobehind _ (by decide) (by decide) | rfl) : PT X (.Compare a [op] [b] pos) (tB t) := by
  intro pins s σ H Q I hw
  refine wpAny_isTrue_Compare1 (thn (h pins s σ H _ I hw) fun v s1 h1 => thn h1 fun u s2 h2 => thn h2 fun c s3 ⟨x, H1, I1, r1, q1⟩ => ?_) h1
  obtain ⟨d, rfl, q⟩ := q1
  cases r1
  exact wpAny_truthy_bool ⟨H1, I1, q⟩
/-- an expression whose value is a bool, as a test -/
theorem pt_val {e : Expr} {t : TE} (h : PE X e t) (he : ∀ whole, isTrue e X.env whole = (do let v ← whole; standAt e.pos; holding [v] (truthy v)) := by intro _; rfl) : PT X e (tB t) := by
  intro pins s σ H Q I hw
  refine isTrue_plain (thn (h pins s σ H _ I hw) fun v s1 ⟨x, H1, I1, r1, q1⟩ => ?_) (he _)
  obtain ⟨d, rfl, q⟩ := q1
  cases r1
  exact wpAny_truthy_bool ⟨H1, I1, q⟩

/-! ### and, or, not -/
variable {tA tB' : TT} {rest : List Expr}
def tAnd (t u : TT) : TT := fun σ H Q => t σ H fun c H1 => if c = true then u σ H1 Q else Q false H1
def tOr (t u : TT) : TT := fun σ H Q => t σ H fun c H1 => if c = true then Q true H1 else u σ H1 Q
def tNot (t : TT) : TT := fun σ H Q => t σ H fun c H1 => Q (!c) H1
theorem pw_and1 (ha : PT X a tA) : PW X (.BoolOp .And [a] pos) tA := by
  intro wh pins s σ H Q I h
  refine isTrue_and (thn (ha pins s σ H Q I h) fun c s1 e => ?_)
  cases c with
  | true => exact isTrue_and_nil e
  | false => exact e
theorem pw_or1 (ha : PT X a tA) : PW X (.BoolOp .Or [a] pos) tA := by
  intro wh pins s σ H Q I h
  refine isTrue_or (thn (ha pins s σ H Q I h) fun c s1 e => ?_)
  cases c with
  | false => exact isTrue_or_nil e
  | true => exact e
theorem pw_and (ha : PT X a tA) (hb : PW X (.BoolOp .And (b :: rest) pos) tB') : PW X (.BoolOp .And (a :: b :: rest) pos) (tAnd tA tB') := by
  intro wh pins s σ H Q I h
  refine isTrue_and (thn (ha pins s σ H _ I h) fun c s1 ⟨H1, I1, q1⟩ => ?_)
  cases c with
  | true => exact hb wh pins s1 σ H1 Q I1 q1
  | false => exact ⟨H1, I1, q1⟩
theorem pw_or (ha : PT X a tA) (hb : PW X (.BoolOp .Or (b :: rest) pos) tB') : PW X (.BoolOp .Or (a :: b :: rest) pos) (tOr tA tB') := by
  intro wh pins s σ H Q I h
  refine isTrue_or (thn (ha pins s σ H _ I h) fun c s1 ⟨H1, I1, q1⟩ => ?_)
  cases c with
  | true => exact ⟨H1, I1, q1⟩
  | false => exact hb wh pins s1 σ H1 Q I1 q1
theorem pt_not (ha : PT X a tA) : PT X (.UnaryOp .Not a pos) (tNot tA) := by
  intro pins s σ H Q I h
  exact isTrue_not (ha pins s σ H (fun c H1 => Q (!c) H1) I h)
/-- .. as values (bools) -/
def tAndV (ta tb : TE) : TE := fun σ H Q => ta σ H fun x H1 => ∃ c, x = .bl c ∧ if c = true then tb σ H1 Q else Q (.bl false) H1
def tOrV (ta tb : TE) : TE := fun σ H Q => ta σ H fun x H1 => ∃ c, x = .bl c ∧ if c = true then Q (.bl true) H1 else tb σ H1 Q
def tNotV (ta : TE) : TE := fun σ H Q => ta σ H fun x H1 => ∃ c, x = .bl c ∧ Q (.bl (!c)) H1
theorem pe_one {op} {t : TE} (h : PE X a t) : PE X (.BoolOp op [a] pos) t := fun pins s σ H Q I hw => BoolOp_one (h pins s σ H Q I hw)
theorem pe_and (ha : PE X a ta) (hb : PE X (.BoolOp .And (b :: rest) pos) tb) : PE X (.BoolOp .And (a :: b :: rest) pos) (tAndV ta tb) := by
  intro pins s σ H Q I h
  refine BoolOp_and (thn (ha pins s σ H _ I h) fun v s1 ⟨x, H1, I1, r1, q1⟩ => ?_)
  obtain ⟨c, rfl, q1⟩ := q1
  cases r1
  refine wpAny_truthy_bool ?_
  cases c with
  | true => exact hb pins s1 σ H1 Q I1 q1
  | false => exact ⟨.bl false, H1, I1, rfl, q1⟩
theorem pe_not (ha : PE X a ta) : PE X (.UnaryOp .Not a pos) (tNotV ta) := by
  intro pins s σ H Q I h
  refine UnaryOp_ (thn (ha pins s σ H _ I h) fun v s1 ⟨x, H1, I1, r1, q1⟩ => ?_)
  obtain ⟨c, rfl, q1⟩ := q1
  cases r1
  exact not_of (wpAny_truthy_bool ⟨.bl (!c), H1, I1, rfl, q1⟩)
/-- a if t else b -/
def tIf (t : TT) (ta tb : TE) : TE := fun σ H Q => t σ H fun c H1 => if c = true then ta σ H1 Q else tb σ H1 Q
theorem pe_ifExp {c : Expr} (hc : PT X c tA) (ha : PE X a ta) (hb : PE X b tb) : PE X (.IfExp c a b pos) (tIf tA ta tb) := by
  intro pins s σ H Q I h
  refine wpAny_IfExp (thn (hc pins s σ H _ I h) fun d s1 ⟨H1, I1, q1⟩ => ?_)
  cases d with
  | true => exact ha pins s1 σ H1 Q I1 q1
  | false => exact hb pins s1 σ H1 Q I1 q1
end
end L2

namespace L2
open PySem PySem.Spec PyProof.Rows

/-! ### a list, a tuple that is read: tracked, frozen, or an object of the module -/
def SqL (K : PySem.W.Frag) (H : Hp) (a : Addr) (xs : List V) : Prop :=
  Rd H a (.lst xs) ∨
    ∃ (o : Obj) (its : Array Value) (n : Nat), K.lookup a = some o ∧ o.cls = .type "list" ∧ o.dict = none ∧ o.data = .seq its n ∧ its.size ≤ sizeLine ∧ Vals xs its.toList
def SqT (K : PySem.W.Frag) (H : Hp) (a : Addr) (xs : List V) : Prop :=
  Rd H a (.tup xs) ∨
    ∃ (o : Obj) (its : Array Value) (n : Nat), K.lookup a = some o ∧ o.cls = .type "tuple" ∧ o.data = .seq its n ∧ its.size ≤ sizeLine ∧ Vals xs its.toList
def absV : Value → Option V
  | .none => some .non
  | .bool b => some (.bl b)
  | .int i _ => some (.int i)
  | .str x _ => some (.str x)
  | .bytes b _ => some (.byt b)
  | .float b _ => some (.flt b)
  | .ref a => some (.ref a)
  | .type n => some (.ty n)
  | _ => none
theorem RelV.abs {x : V} {u : Value} (r : RelV x u) : absV u = some x := by
  cases x with
  | non => cases r; rfl
  | bl _ => cases r; rfl
  | int _ => obtain ⟨t, rfl⟩ := r; rfl
  | str _ => obtain ⟨t, rfl⟩ := r; rfl
  | byt _ => obtain ⟨t, rfl⟩ := r; rfl
  | flt _ => obtain ⟨t, rfl⟩ := r; rfl
  | ref _ => cases r; rfl
  | ty _ => cases r; rfl
theorem RelV.inj {x y : V} {u : Value} (r : RelV x u) (q : RelV y u) : x = y := Option.some.inj (r.abs.symm.trans q.abs)
theorem Vals.inj : ∀ {xs ys : List V} {us : List Value}, Vals xs us → Vals ys us → xs = ys
  | _, _, _, .nil, .nil => rfl
  | _, _, _, .cons r t, .cons r' t' => by rw [r.inj r', Vals.inj t t']
section
variable {X : Cx} {pins : List (Addr × Obj)} {σ : St} {H : Hp} {s : Shared} {a : Addr} {xs ys : List V}
theorem SqL.of {K : PySem.W.Frag} (h : H a = some (.lst xs)) : SqL K H a xs := .inl (.inl h)
theorem SqT.of {K : PySem.W.Frag} (h : H a = some (.tup xs)) : SqT K H a xs := .inl (.inl h)
theorem Inv.list (I : Inv X pins σ H s) (h : SqL X.K H a xs) : ∃ its : List Value, Vals xs its ∧ PlainL s.heap a its.toArray ∧ xs.length ≤ sizeLine := by
  rcases h with h | ⟨o, its, n, hk, hc, hd, hs, hz, r⟩
  · obtain ⟨z, its, n, r, e⟩ := h.ok I.hok
    exact ⟨its, r, ⟨_, n, e, rfl, rfl, rfl⟩, z⟩
  · refine ⟨its.toList, r, ⟨o, n, I.kIn a o hk, hc, hd, by simpa using hs⟩, ?_⟩
    have e := r.length
    simp only [Array.length_toList] at e
    omega
theorem Inv.tuple (I : Inv X pins σ H s) (h : SqT X.K H a xs) : ∃ its : List Value, Vals xs its ∧ IsTup s.heap a its.toArray ∧ xs.length ≤ sizeLine := by
  rcases h with h | ⟨o, its, n, hk, hc, hs, hz, r⟩
  · obtain ⟨z, its, r, p⟩ := h.ok I.hok
    exact ⟨its, r, p, z⟩
  · refine ⟨its.toList, r, ⟨o, I.kIn a o hk, hc, n, by simpa using hs⟩, ?_⟩
    have e := r.length
    simp only [Array.length_toList] at e
    omega
theorem Inv.list_inj (I : Inv X pins σ H s) (h : SqL X.K H a xs) (h' : SqL X.K H a ys) : xs = ys := by
  obtain ⟨its, r, ⟨o, n, e, _, _, d⟩, _⟩ := I.list h
  obtain ⟨its', r', ⟨o', n', e', _, _, d'⟩, _⟩ := I.list h'
  rw [e] at e'; cases e'
  rw [d] at d'
  injection d' with d1 _
  have : its = its' := by simpa using congrArg Array.toList d1
  subst this
  exact r.inj r'
theorem Inv.tuple_inj (I : Inv X pins σ H s) (h : SqT X.K H a xs) (h' : SqT X.K H a ys) : xs = ys := by
  obtain ⟨its, r, ⟨o, e, _, n, d⟩, _⟩ := I.tuple h
  obtain ⟨its', r', ⟨o', e', _, n', d'⟩, _⟩ := I.tuple h'
  rw [e] at e'; cases e'
  rw [d] at d'
  injection d' with d1 _
  have : its = its' := by simpa using congrArg Array.toList d1
  subst this
  exact r.inj r'
end

/-! ### another wish about exceptions -/
abbrev Cx.wish (X : Cx) (E : Value → Shared → Prop) : Cx := { X with xe := E }
/-- no exception leaves -/
abbrev Cx.nox (X : Cx) : Cx := X.wish fun _ _ => False
theorem Cx.Ok.wish {X : Cx} (ok : X.Ok) (E : Value → Shared → Prop) : (X.wish E).Ok :=
  ⟨ok.mod, ok.kind, ok.glob, ok.blt, ok.above, ok.inj, ok.has, ok.cab, ok.hd, ok.frames, ok.stk, ok.exf, ok.bs, ok.bsz, ok.noex, ok.exfs, ok.funs, ok.frf⟩
theorem Cx.Ok.unwish {X : Cx} {E : Value → Shared → Prop} (ok : (X.wish E).Ok) : X.Ok :=
  ⟨ok.mod, ok.kind, ok.glob, ok.blt, ok.above, ok.inj, ok.has, ok.cab, ok.hd, ok.frames, ok.stk, ok.exf, ok.bs, ok.bsz, ok.noex, ok.exfs, ok.funs, ok.frf⟩
section
variable {X : Cx} {pins : List (Addr × Obj)} {σ : St} {H : Hp} {s : Shared} {E : Value → Shared → Prop}
theorem Inv.wish (I : Inv X pins σ H s) (E : Value → Shared → Prop) : Inv (X.wish E) pins σ H s := ⟨I.ok.wish E, I.os, I.bare, I.base, I.loc, I.cell, I.free, I.freeC, I.pin, I.hok, I.len⟩
theorem Inv.unwish (I : Inv (X.wish E) pins σ H s) : Inv X pins σ H s := ⟨I.ok.unwish, I.os, I.bare, I.base, I.loc, I.cell, I.free, I.freeC, I.pin, I.hok, I.len⟩
theorem SP.unwish {D : Ends} {f : Flow} {s' : Shared} (h : SP (X.wish E) pins D f s') : SP X pins D f s' := by
  cases f with
  | next => obtain ⟨σ', H', I, q⟩ := h; exact ⟨σ', H', I.unwish, q⟩
  | brk => obtain ⟨σ', H', I, q⟩ := h; exact ⟨σ', H', I.unwish, q⟩
  | cont => obtain ⟨σ', H', I, q⟩ := h; exact ⟨σ', H', I.unwish, q⟩
  | ret u => obtain ⟨v, σ', H', I, r, q⟩ := h; exact ⟨v, σ', H', I.unwish, r, q⟩
theorem PSs.nox {st : List Stmt} {t : TS} (h : PSs X.nox st t) : PSs X st t := fun pins s σ H D I hw =>
  wpAny_mono (h pins s σ H D (I.wish _) hw) (fun _ _ q => q.unwish) fun _ _ z => False.elim z
end

/-! ### blocks and small statements -/
section
variable {X : Cx} {st : Stmt} {rest : List Stmt} {t u : TS} {e : Expr} {te : TE} {pos : Pos}
def tNext : TS := fun D σ H => D.nx σ H
def tSeq (t u : TS) : TS := fun D σ H => t { D with nx := u D } σ H
theorem pss_nil : PSs X [] tNext := fun _ _ σ H _ I h => wpAny_execs_nil ⟨σ, H, I, h⟩
theorem pss_cons (h1 : PS X st t) (h2 : PSs X rest u) : PSs X (st :: rest) (tSeq t u) := by
  intro pins s σ H D I h
  refine wpAny_execs_cons (thn (h1 pins s σ H { D with nx := u D } I h) fun f s1 q => ?_)
  cases f with
  | next =>
    obtain ⟨σ', H', I', q⟩ := q
    exact h2 pins s1 σ' H' D I' q
  | ret v => exact q
  | brk => exact q
  | cont => exact q
theorem pss_one (h1 : PS X st t) : PSs X [st] t := by
  intro pins s σ H D I h
  refine wpAny_execs_cons (thn (h1 pins s σ H D I h) fun f s1 q => ?_)
  cases f with
  | next => exact wpAny_execs_nil q
  | ret v => exact q
  | brk => exact q
  | cont => exact q
def tBreak : TS := fun D σ H => D.bk σ H
def tCont : TS := fun D σ H => D.ct σ H
theorem ps_continue : PS X (.Continue pos) tCont := fun _ _ σ H _ I h => wpAny_Continue ⟨σ, H, I, h⟩
/-- in a def's body nothing is shown -/
theorem Inv.quiet {pins : List (Addr × Obj)} {σ : St} {H : Hp} {s : Shared} (I : Inv X pins σ H s) : interactive X.env = false := by simp [interactive, I.ok.kind]
/-- an expression whose value is dropped -/
def tDrop (te : TE) : TS := fun D σ H => te σ H fun _ H1 => D.nx σ H1
theorem ps_expr (he : PE X e te) (hs : swapsWith e none pos.line X.env = pure false := by rfl) : PS X (.Expr e pos) (tDrop te) := by
  intro pins s σ H D I h
  exact wpAny_Expr_any (thn (he pins s σ H _ I h) fun v s1 ⟨x, H1, I1, r1, q1⟩ => ⟨σ, H1, I1, q1⟩) I.quiet hs
def tRet (te : TE) : TS := fun D σ H => te σ H D.rt
theorem ps_ret (he : PE X e te) : PS X (.Return (some e) pos) (tRet te) := by
  intro pins s σ H D I h
  exact wpAny_Return_some (thn (he pins s σ H _ I h) fun v s1 ⟨x, H1, I1, r1, q1⟩ => ⟨x, σ, H1, I1, r1, q1⟩)
def tRetN : TS := fun D _ H => D.rt .non H
def tIfS (c : TT) (t u : TS) : TS := fun D σ H => c σ H fun b H1 => if b = true then t D σ H1 else u D σ H1
theorem ps_if {c : Expr} {a b : List Stmt} {tc : TT} (hc : PT X c tc) (ha : PSs X a t) (hb : PSs X b u) : PS X (.If c a b pos) (tIfS tc t u) := by
  intro pins s σ H D I h
  refine wpAny_If (thn (hc pins s σ H _ I h) fun d s1 ⟨H1, I1, q1⟩ => ?_)
  cases d with
  | true => exact ha pins s1 σ H1 D I1 q1
  | false => exact hb pins s1 σ H1 D I1 q1
/-- code that the proof never comes to -/
def tNever : TS := fun _ _ _ => False
theorem ps_never : PS X st tNever := fun _ _ _ _ _ _ h => h.elim
theorem pss_never {sts : List Stmt} : PSs X sts tNever := fun _ _ _ _ _ _ h => h.elim
end

/-! ### targets -/
abbrev TG := V → St → Hp → (St → Hp → Prop) → Prop
abbrev TGs := List V → St → Hp → (St → Hp → Prop) → Prop
def PG (X : Cx) (target : Expr) (t : TG) : Prop :=
  ∀ (pins : List (Addr × Obj)) (s : Shared) (σ : St) (H : Hp) (v : V) (u : Value) (Q : St → Hp → Prop), Inv X pins σ H s → RelV v u → t v σ H Q →
    wpAny (model X.prog X.w) X.A (assign target X.env u) (fun _ s' => ∃ σ' H', Inv X pins σ' H' s' ∧ Q σ' H') X.xe s
/-- several targets, one after another -/
def PGs (X : Cx) (ts : List Expr) (t : TGs) : Prop :=
  ∀ (pins : List (Addr × Obj)) (s : Shared) (σ : St) (H : Hp) (vs : List V) (us : List Value) (Q : St → Hp → Prop), Inv X pins σ H s → Vals vs us → t vs σ H Q →
    wpAny (model X.prog X.w) X.A (assignInOrder ((assignEach ts X.env).map (·.2)) us) (fun _ s' => ∃ σ' H', Inv X pins σ' H' s' ∧ Q σ' H') X.xe s
/-- o[i] = v, by values -/
abbrev TSet := V → V → V → Hp → (Hp → Prop) → Prop
def PSet (X : Cx) (t : TSet) : Prop :=
  ∀ (pins : List (Addr × Obj)) (s : Shared) (σ : St) (H : Hp) (o i v : V) (ov iv u : Value) (Q : Hp → Prop), Inv X pins σ H s → RelV o ov → RelV i iv → RelV v u → t o i v H Q →
    wpAny (model X.prog X.w) X.A (setItem ov iv u) (fun _ s' => ∃ H', Inv X pins σ H' s' ∧ Q H') X.xe s
/-- a op= b, by values -/
abbrev TIp := V → V → Hp → VK → Prop
def PIp (X : Cx) (op : Operator) (t : TIp) : Prop :=
  ∀ (pins : List (Addr × Obj)) (s : Shared) (σ : St) (H : Hp) (x y : V) (v u : Value) (Q : VK), Inv X pins σ H s → RelV x v → RelV y u → t x y H Q →
    wpAny (model X.prog X.w) X.A (inplaceOp op v u) (EP X pins σ Q) X.xe s
section
variable {X : Cx} {pos : Pos}
def gName (i : Nat) : TG := fun v σ H Q => Q (σ.set i (some v)) H
theorem pg_name {i : Nat} {x : Str} (hN : X.N.Nodup) (hi : X.N[i]? = some x) (hx : Loc X.env.scope x) (hf : X.fn x = true ∨ X.env.scope.names.lookup x = some .local := by first | exact .inl rfl | exact .inr rfl | assumption) : PG X (.Name x pos) (gName i) := by
  intro pins s σ H v u Q I r h
  exact wpAny_assign_Name (store_ok I hN hi hx r (fun s' I' => ⟨_, H, I', h⟩) hf)
def gNil : TGs := fun vs σ H Q => vs = [] ∧ Q σ H
def gCons (t : TG) (u : TGs) : TGs := fun vs σ H Q => ∃ v r, vs = v :: r ∧ t v σ H fun σ' H' => u r σ' H' Q
theorem pgs_nil : PGs X [] gNil := by
  intro pins s σ H vs us Q I r h
  obtain ⟨e, h⟩ := h
  subst e
  cases r
  exact assignInOrder_nil ⟨σ, H, I, h⟩
theorem pgs_cons {e : Expr} {es : List Expr} {t : TG} {u : TGs} (h1 : PG X e t) (h2 : PGs X es u)
    (hs : (assignEach (e :: es) X.env).map (·.2) = assign e X.env :: (assignEach es X.env).map (·.2) := by rfl) : PGs X (e :: es) (gCons t u) := by
  intro pins s σ H vs us Q I r h
  obtain ⟨v, vr, e1, h⟩ := h
  subst e1
  cases r with
  | cons r rr =>
    rw [hs]
    refine assignInOrder_cons (thn (h1 pins s σ H _ _ _ I r h) fun _ s1 ⟨σ1, H1, I1, q1⟩ => ?_)
    exact h2 pins s1 σ1 H1 _ _ Q I1 rr q1
/-- (a, b, ..) = a tuple of that length -/
def gTup (K : PySem.W.Frag) (n : Nat) (t : TGs) : TG := fun v σ H Q => ∃ a xs, v = .ref a ∧ SqT K H a xs ∧ xs.length = n ∧ t xs σ H Q
theorem pg_tup {es : List Expr} {k : Nat} {t : TGs} {n : Nat} (hc : X.calm = true) (h : PGs X es t)
    (hn : (assignEach es X.env).length = n := by rfl) (hst : (assignEach es X.env).findIdx? (·.1) = none := by rfl) : PG X (.Tuple es k pos) (gTup X.K n t) := by
  intro pins s σ H v u Q I r hw
  obtain ⟨a, xs, e1, hq, hl, hw⟩ := hw
  subst e1
  cases r
  obtain ⟨its, rv, ht, hz⟩ := I.tuple hq
  refine assign_Tuple_tuple (I.ok.hd hc) ht (by simp [hn, ← hl, rv.length]) hst fun h' hx => ?_
  have I1 : Inv X pins σ H { s with heap := h' } := I.kept (t' := s.toks) fun b o e => hx b o (Nat.ne_of_lt (Heap.lt_size e)) e
  exact h pins _ σ H xs _ Q I1 (by simpa using rv) hw
/-- o[i] = .. -/
def gSub (to ti : TE) (t : TSet) : TG := fun v σ H Q => to σ H fun o H1 => ti σ H1 fun i H2 => t o i v H2 fun H3 => Q σ H3
theorem pg_sub {o i : Expr} {to ti : TE} {t : TSet} (ho : PE X o to) (hi : PE X i ti) (hs : PSet X t)
    (ha : ∀ v, assign (.Subscript o i pos) X.env v = (do
      let ov ← holding [v] (eval o X.env)
      let iv ← holding [v, ov] (eval i X.env)
      standAt pos
      holding [v, ov, iv] (setItem ov iv v)
      release [v, ov, iv] []) := by intro _; rfl) : PG X (.Subscript o i pos) (gSub to ti t) := by
  intro pins s σ H v u Q I r h
  rw [ha]
  refine wpAny_bind (wpAny_holding (thn (ho pins s σ H _ I h) fun ov s1 ⟨x, H1, I1, r1, q1⟩ => ?_))
  refine wpAny_bind (wpAny_holding (thn (hi pins s1 σ H1 _ I1 q1) fun iv s2 ⟨y, H2, I2, r2, q2⟩ => ?_))
  refine wpAny_bind (wpAny_standAt (wpAny_bind (wpAny_holding (thn (hs pins s2 σ H2 x y v ov iv u _ I2 r1 r2 r q2) fun _ s3 ⟨H3, I3, q3⟩ => ?_))))
  exact wpAny_release ⟨σ, H3, I3, q3⟩
/-- target = value -/
def tAsg (te : TE) (g : TG) : TS := fun D σ H => te σ H fun x H1 => g x σ H1 D.nx
theorem ps_asg {tg e : Expr} {te : TE} {g : TG} (he : PE X e te) (hg : PG X tg g) (hs : swapsWithSole [tg] e pos.line X.env = pure false := by rfl) (hw : swappedStores [tg] e X.env = pure none := by rfl)
    (h1 : (assignEach [tg] X.env).map (·.2) = [assign tg X.env] := by rfl) : PS X (.Assign [tg] e pos) (tAsg te g) := by
  intro pins s σ H D I h
  refine wpAny_Assign_stores (thn (he pins s σ H _ I h) fun v s1 ⟨x, H1, I1, r1, q1⟩ => ?_) hs hw
  rw [h1]
  exact thn (hg pins s1 σ H1 x v _ I1 r1 q1) fun _ s2 q => q
/-- name = value -/
theorem ps_set {i : Nat} {x : Str} {e : Expr} {te : TE} {pos' : Pos} (hN : X.N.Nodup) (hi : X.N[i]? = some x) (hx : Loc X.env.scope x) (he : PE X e te) (hs : swapsWith e (some (.Name x pos')) pos.line X.env = pure false := by rfl) (hf : X.fn x = true ∨ X.env.scope.names.lookup x = some .local := by first | exact .inl rfl | exact .inr rfl | assumption) :
    PS X (.Assign [.Name x pos'] e pos) (tAsg te (gName i)) := by
  intro pins s σ H D I h
  refine wpAny_Assign_Name (thn (he pins s σ H _ I h) fun v s1 ⟨y, H1, I1, r1, q1⟩ => ?_) hs
  exact store_ok I1 hN hi hx r1 (fun s2 I2 => ⟨_, H1, I2, q1⟩) hf
/-- a, b = x, y with plain local names: stored from the right; the pair itself is not tracked (the opening rows as in PyProof/Rows/TupAssign.lean:23) -/
def tPar (i j : Nat) (ta : TA) : TS := fun D σ H => ta σ H fun vs H1 => ∃ v w, vs = [v, w] ∧ D.nx ((σ.set i (some v)).set j (some w)) H1
theorem ps_par {i j : Nat} {x y : Str} {a b : Expr} {ta : TA} {px py pt : Pos} {kt k2 pt2} (hc : X.calm = true) (hN : X.N.Nodup) (hi : X.N[i]? = some x) (hj : X.N[j]? = some y) (hij : i ≠ j)
    (hx : X.env.scope.names.lookup x = some .local) (hy : X.env.scope.names.lookup y = some .local) (ha : PA X [a, b] ta)
    (hw : swappedStores [.Tuple [.Name x px, .Name y py] kt pt] (.Tuple [a, b] k2 pt2) X.env = pure (some [x, y]))
    (hs : swapsWithSole [.Tuple [.Name x px, .Name y py] kt pt] (.Tuple [a, b] k2 pt2) pos.line X.env = pure false := by rfl) :
    PS X (.Assign [.Tuple [.Name x px, .Name y py] kt pt] (.Tuple [a, b] k2 pt2) pos) (tPar i j ta) := by
  intro pins s σ H D I h
  rw [exec_Assign_arm]
  refine wpAny_bind (wpAny_standAt ?_)
  rw [hs]
  refine wpAny_bind (wpAny_pure ?_)
  rw [if_neg (by decide)]
  refine wpAny_bind (Tuple_ (thn (ha _ pins s σ H _ I h) fun us s1 ⟨vs, H1, I1, r1, q1⟩ => ?_))
  obtain ⟨v, w, e1, q1⟩ := q1
  subst e1
  obtain ⟨u1, u2, rfl, rv, rw'⟩ : ∃ u1 u2, us = [u1, u2] ∧ RelV v u1 ∧ RelV w u2 := by
    cases r1 with
    | cons p q =>
      cases q with
      | cons p' q' =>
        cases q'
        exact ⟨_, _, rfl, p, p'⟩
  refine wpAny_newObj_type ?_ (by show 2 ≤ sizeLine; decide)
  have I2 : Inv X pins σ H1 { s1 with heap := s1.heap.push { cls := .type "tuple", data := .seq [u1, u2].toArray } } := I1.kept (t' := s1.toks) fun b o e => Heap.get?_push_of_some _ e
  rw [hw]
  refine wpAny_bind (wpAny_pure ?_)
  show wpAny (model X.prog X.w) X.A (do rule "assign.swapped-stores"; let items ← unpackItems (.ref s1.heap.objs.size) 2 none; assignInOrder [fun v => bindName X.env y v, fun v => bindName X.env x v] items.reverse; pure Flow.next) _ _ _
  refine wpAny_bind (wpAny_rule (wpAny_bind (unpackItems_tuple (items := #[u1, u2]) (I.ok.hd hc) (IsTup.new s1.heap _) fun h' hx' => ?_)))
  have I3 := I2.kept (h' := h') (t' := s1.toks) fun b o e => hx' b o (Nat.ne_of_lt (Heap.lt_size e)) e
  show wpAny _ _ (assignInOrder [fun v => bindName X.env y v, fun v => bindName X.env x v] [u2, u1] >>= fun _ => pure Flow.next) _ _ _
  refine wpAny_bind (assignInOrder_cons (wpAny_bindName (store_ok I3 hN hj (.inl hy) rw' (fun s2 I4 => ?_) (.inr hy))))
  refine assignInOrder_cons (wpAny_bindName (store_ok I4 hN hi (.inl hx) rv (fun s3 I5 => assignInOrder_nil (wpAny_pure ?_)) (.inr hx)))
  rw [List.set_comm _ _ (Ne.symm hij)] at I5
  exact ⟨_, H1, I5, q1⟩
/-- name op= e -/
def tAug (i : Nat) (te : TE) (ti : TIp) : TS := fun D σ H => ∃ x, σ[i]? = some (some x) ∧ te σ H fun y H1 => ti x y H1 fun z H2 => D.nx (σ.set i (some z)) H2
theorem ps_aug {i : Nat} {x : Str} {e : Expr} {te : TE} {op : Operator} {ti : TIp} {pos' : Pos} (hN : X.N.Nodup) (hi : X.N[i]? = some x) (hx : Loc X.env.scope x) (he : PE X e te) (ho : PIp X op ti) (hf : X.fn x = true ∨ X.env.scope.names.lookup x = some .local := by first | exact .inl rfl | exact .inr rfl | assumption) :
    PS X (.AugAssign (.Name x pos') op e pos) (tAug i te ti) := by
  intro pins s σ H D I h
  obtain ⟨v, e1, h⟩ := h
  obtain ⟨m, hn, hl⟩ := I.loc
  have vis : Vis X.env.scope x := by rcases hx with k | k; exact .inl k; exact .inr (.inl k)
  obtain ⟨u, r, l⟩ := hl i x v hi e1 vis
  refine wpAny_AugAssign_Name ?_
  have go : wpAny (model X.prog X.w) X.A (eval e X.env) (fun w s₂ => wpAny (model X.prog X.w) X.A (inplaceOp op u w) (fun r s₃ => wpAny (model X.prog X.w) X.A (storeName X.env x r) (fun _ => SP X pins D .next) X.xe s₃) X.xe s₂) X.xe s := by
    refine thn (he pins s σ H _ I h) fun w s1 ⟨y, H1, I1, r1, q1⟩ => ?_
    refine thn (ho pins s1 σ H1 v y u w _ I1 r r1 q1) fun z s2 ⟨zv, H2, I2, r2, q2⟩ => ?_
    exact store_ok I2 hN hi hx r2 (fun s3 I3 => ⟨_, H2, I3, q2⟩) hf
  rcases l with ⟨hk, hm⟩ | ⟨hk, c, hc, hcell⟩
  · exact wpAny_loadName_local I.ok.kind hk hn hm go
  · rcases hk with hk | hk
    · exact wpAny_loadName_cell I.ok.kind hk hc hcell go
    · rcases hx with k | k
      · have : X.env.scope.names.lookup x = some .free := hk
        rw [k] at this; cases this
      · have : X.env.scope.names.lookup x = some .free := hk
        rw [k] at this; cases this
/-- o[i] op= e -/
def tAugS (to ti te : TE) (tget : V → V → Hp → VK → Prop) (tip : TIp) (tset : TSet) : TS := fun D σ H => to σ H fun o H1 => ti σ H1 fun i H2 => tget o i H2 fun x H3 => te σ H3 fun y H4 => tip x y H4 fun z H5 => tset o i z H5 fun H6 => D.nx σ H6
/-- o[i], by values -/
def PGet (X : Cx) (t : V → V → Hp → VK → Prop) : Prop :=
  ∀ (pins : List (Addr × Obj)) (s : Shared) (σ : St) (H : Hp) (o i : V) (ov iv : Value) (Q : VK), Inv X pins σ H s → RelV o ov → RelV i iv → t o i H Q →
    wpAny (model X.prog X.w) X.A (getItem ov iv) (EP X pins σ Q) X.xe s
/-- ints -/
def ipI (f : Int → Int → Int) : TIp := fun x y H Q => ∃ i j, x = .int i ∧ y = .int j ∧ Q (.int (f i j)) H
theorem ip_add : PIp X .Add (ipI fun i j => i + j) := by
  intro pins s σ H x y v u Q I r1 r2 h
  obtain ⟨i, j, e1, e2, q⟩ := h
  subst e1; subst e2
  obtain ⟨t, rfl⟩ := r1
  obtain ⟨t', rfl⟩ := r2
  exact iadd_int ⟨.int _, H, I.tok _, ⟨_, rfl⟩, q⟩
end

/-! ### while -/
section
variable {X : Cx} {pos : Pos}
/-- the invariant W with its measure -/
def tWhile (c : TT) (tb : TS) : TS := fun D σ H => ∃ W : Nat → St → Hp → Prop, (∃ m, W m σ H) ∧ ∀ m σ H, W m σ H →
  c σ H fun b H1 => if b = true then ∃ N : St → Hp → Prop, (∀ σ' H', N σ' H' → ∃ m', m' < m ∧ W m' σ' H') ∧ tb { D with nx := N, ct := N, bk := D.nx } σ H1 else D.nx σ H1
theorem ps_while {c : Expr} {body : List Stmt} {tc : TT} {tb : TS} (hp : PassesOwn (model X.prog X.w) X.A X.env X.xe) (hc : PT X c tc) (hb : PSs X body tb) : PS X (.While c body [] pos) (tWhile tc tb) := by
  intro pins s σ H D I h
  obtain ⟨W, ⟨m0, w0⟩, turn⟩ := h
  refine wpAny_While (codeAny_whileLoop (fun n s' => ∃ σ' H', Inv X pins σ' H' s' ∧ W n σ' H') ?_ m0 ⟨σ, H, I, w0⟩)
  rintro n s1 ⟨σ1, H1, I1, w1⟩
  refine wpAny_passesOwn hp (thn (hc pins s1 σ1 H1 _ I1 (turn n σ1 H1 w1)) fun b s2 ⟨H2, I2, q2⟩ => ?_)
  cases b with
  | true =>
    obtain ⟨N, hN, q2⟩ := q2
    rw [if_pos rfl]
    refine wpAny_passesOwn hp (thn (hb pins s2 σ1 H2 _ I2 q2) fun f s3 q3 => ?_)
    cases f with
    | next =>
      obtain ⟨σ3, H3, I3, n3⟩ := q3
      obtain ⟨m', hm, w3⟩ := hN σ3 H3 n3
      exact ⟨m', hm, σ3, H3, I3, w3⟩
    | cont =>
      obtain ⟨σ3, H3, I3, n3⟩ := q3
      obtain ⟨m', hm, w3⟩ := hN σ3 H3 n3
      exact ⟨m', hm, σ3, H3, I3, w3⟩
    | brk => exact q3
    | ret v => exact q3
  | false =>
    rw [if_neg Bool.false_ne_true]
    exact wpAny_execs_nil ⟨σ1, H2, I2, q2⟩
end

/-! ### what a loop or a comprehension walks -/
/-- at turn i: it yields x (the heap may grow), or it stops -/
structure It where
  go : Nat → Hp → Prop
  yld : Nat → Hp → V → Hp → Prop
  stop : Nat → Hp → Prop
/-- the iterator's own objects may turn: they are not the frame's, not pinned, younger than the entry (or a comprehension's own) -/
def FpOk (X : Cx) (pins : List (Addr × Obj)) (H : Hp) (b : Addr) : Prop :=
  H b = none ∧ b ≠ X.env.locals ∧ b ∉ X.fs ∧ (b ∈ X.ex ∨ X.s₀.heap.objs.size ≤ b) ∧ (∀ x c, X.env.cells.lookup x = some c → c ≠ b) ∧ ∀ p ∈ X.pn ++ pins, p.1 ≠ b
theorem Inv.fpOk {X : Cx} {pins : List (Addr × Obj)} {σ : St} {H H' : Hp} {s : Shared} {b : Addr} (I : Inv X pins σ H s) (hb : s.heap.objs.size ≤ b) (hn : H' b = none) : FpOk X pins H' b := by
  refine ⟨hn, Nat.ne_of_gt (Nat.lt_of_lt_of_le I.lt hb), I.nofs hb, .inr (Nat.le_trans I.sz hb), fun x c e z => ?_, fun p hp z => ?_⟩
  · obtain ⟨v, q⟩ := I.cell x c e
    exact absurd (Nat.lt_of_lt_of_le q.lt (by rw [z]; exact hb)) (Nat.lt_irrefl _)
  · exact absurd (Nat.lt_of_lt_of_le (Heap.lt_size (I.pin p hp).1) (by rw [z]; exact hb)) (Nat.lt_irrefl _)
structure Turn (P : Program) (w : World) (K : PySem.W.Frag) (tg : Expr) (J : It) (fp : List Addr) (it : Addr) (tn : Nat → Heap → Prop) : Prop where
  mem : it ∈ fp
  obj : ∀ i h, tn i h → ∀ b ∈ fp, ∃ o, h.get? b = some o ∧ ∀ v, o.data ≠ .cell v
  keep : ∀ i h h', tn i h → (∀ b ∈ fp, ∀ o, h.get? b = some o → h'.get? b = some o) → tn i h'
  item : ∀ (X : Cx), X.prog = P → X.w = w → X.K = K → X.calm = true → ∀ (i : Nat) (pins : List (Addr × Obj)) (s : Shared) (σ : St) (H : Hp) (E : Value → Shared → Prop), Inv X pins σ H s → (∀ b ∈ fp, FpOk X pins H b) → tn i s.heap → J.go i H →
    wpAny (model P w) X.A (pyNext (.ref it)) (fun r s1 => ∃ u, r = some u ∧
      wpAny (model P w) X.A (letOwnedTupleGo tg (.ref it) u) (fun _ s2 => ∃ x H', Inv X pins σ H' s2 ∧ RelV x u ∧ J.yld i H x H' ∧ tn (i + 1) s2.heap ∧ ∀ b ∈ fp, H' b = none) E s1) E s
  done : ∀ (X : Cx), X.prog = P → X.w = w → X.K = K → X.calm = true → ∀ (i : Nat) (pins : List (Addr × Obj)) (s : Shared) (σ : St) (H : Hp) (E : Value → Shared → Prop), Inv X pins σ H s → (∀ b ∈ fp, FpOk X pins H b) → tn i s.heap → J.stop i H →
    wpAny (model P w) X.A (pyNext (.ref it)) (fun r s1 => r = none ∧ Inv X pins σ H s1) E s
  self : ∀ (A : Around) (i : Nat) (s : Shared) (Q : Value → Shared → Prop) (E : Value → Shared → Prop), tn i s.heap → Q (.ref it) s → wpAny (model P w) A (pyIter (.ref it)) Q E s
abbrev TI := St → Hp → (It → Hp → Prop) → Prop
/-- an iterator has come -/
def PIE (X : Cx) (pins : List (Addr × Obj)) (σ : St) (tg : Expr) (R : It → Hp → Prop) (itv : Value) (s2 : Shared) : Prop :=
  ∃ (it : Addr) (fp : List Addr) (tn : Nat → Heap → Prop) (J : It) (H' : Hp), itv = .ref it ∧ Inv X pins σ H' s2 ∧ Turn X.prog X.w X.K tg J fp it tn ∧ tn 0 s2.heap ∧ (∀ b ∈ fp, FpOk X pins H' b) ∧ R J H'
def PI (X : Cx) (tg iter : Expr) (wi : TI) : Prop :=
  ∀ (pins : List (Addr × Obj)) (s : Shared) (σ : St) (H : Hp) (R : It → Hp → Prop), Inv X pins σ H s → wi σ H R →
    wpAny (model X.prog X.w) X.A (eval iter X.env) (fun v s1 => wpAny (model X.prog X.w) X.A (pyIter v) (PIE X pins σ tg R) X.xe s1) X.xe s

/-- the step ahead of the store is nothing for an iterator that keeps no tuple -/
theorem go_of {M : Model} {A : Around} {E : Value → Shared → Prop} {s : Shared} {tg : Expr} {it : Addr} {u : Value} {o : Obj} {n : String} {vs : Array Value} {Q : Unit → Shared → Prop} (ho : s.heap.get? it = some o) (hc : o.cls = .type n) (hd : o.data = .fields vs)
    (hn : ["enumerate", "zip", "dict_itemiterator", "dict_reverseitemiterator", "odict_iterator", "itertools.zip_longest", "itertools.pairwise"].contains n = false) (hQ : Q () s) : wpAny M A (letOwnedTupleGo tg (.ref it) u) Q E s := by
  unfold letOwnedTupleGo
  cases tg <;> first
    | exact wpAny_pure hQ
    | (cases u <;> first
        | exact wpAny_pure hQ
        | (refine wpAny_bind (wpAny_load ho ?_)
           rw [hc, hd]
           show wpAny M A (if (["enumerate", "zip", "dict_itemiterator", "dict_reverseitemiterator", "odict_iterator", "itertools.zip_longest", "itertools.pairwise"].contains n && vs[0]? == some (rawInt _)) = true then _ else _) Q E s
           rw [if_neg (by intro h; rw [hn, Bool.false_and] at h; cases h)]
           exact wpAny_pure hQ))

/-- the list at a, as it stands at each turn (a loop may append to it) -/
def Itl (K : PySem.W.Frag) (a : Addr) : It :=
  ⟨fun i H => ∃ xs x, SqL K H a xs ∧ xs[i]? = some x, fun i H x H' => H' = H ∧ ∀ xs, SqL K H a xs → xs[i]? = some x, fun i H => ∃ xs, SqL K H a xs ∧ xs.length ≤ i⟩
def Itt (K : PySem.W.Frag) (a : Addr) : It :=
  ⟨fun i H => ∃ xs x, SqT K H a xs ∧ xs[i]? = some x, fun i H x H' => H' = H ∧ ∀ xs, SqT K H a xs → xs[i]? = some x, fun i H => ∃ xs, SqT K H a xs ∧ xs.length ≤ i⟩
/-- lo, lo + 1, .. (n of them) -/
def Itr (lo : Int) (n : Nat) : It := ⟨fun i _ => i < n, fun i H x H' => H' = H ∧ x = .int (lo + i), fun i _ => n ≤ i⟩
theorem turn_list {P : Program} {w : World} {K : PySem.W.Frag} {tg : Expr} (a it : Addr) : Turn P w K tg (Itl K a) [it] it (fun i h => h.IsListIter it a i) where
  mem := by simp
  obj := fun i h st b hb => by
    have e : b = it := by simpa using hb
    subst e
    obtain ⟨o, e, c, d⟩ := st
    exact ⟨o, e, fun v z => by rw [d] at z; cases z⟩
  keep := fun i h h' st k => st.at fun o e => k it (by simp) o e
  item := by
    intro X hP hw hK hc i pins s σ H E I hf st hg
    subst hP hw hK
    obtain ⟨xs, x, hq, hx⟩ := hg
    obtain ⟨its, rv, p, hz⟩ := I.list hq
    obtain ⟨u, hu, ru⟩ := rv.get hx
    obtain ⟨f0, f1, f2, f3, f4, f5⟩ := hf it (by simp)
    refine wpAny_pyNext_list_item st p.isList (x := u) (by simpa using hu) fun h' st' sb => ?_
    have I1 : Inv X pins σ H { s with heap := h' } := I.turned (t' := s.toks) (fun b o hb e => (sb.2 b hb).trans e) f0 f1 f3 f4 f5
    obtain ⟨o, e, c, d⟩ := id st'
    exact ⟨u, rfl, go_of (s := { s with heap := h' }) e c d (by decide) ⟨x, H, I1, ru, ⟨rfl, fun ys hy => by rw [I.list_inj hy hq]; exact hx⟩, st', fun b hb => (hf b hb).1⟩⟩
  done := by
    intro X hP hw hK hc i pins s σ H E I hf st hg
    subst hP hw hK
    obtain ⟨xs, hq, hx⟩ := hg
    obtain ⟨its, rv, p, hz⟩ := I.list hq
    obtain ⟨f0, f1, f2, f3, f4, f5⟩ := hf it (by simp)
    have hl := rv.length
    exact wpAny_pyNext_list_end (I.ok.hd hc) st p.isList (by simp; omega) fun h' eb => ⟨rfl, I.turned (t' := s.toks) (fun b o hb e => eb b o hb e) f0 f1 f3 f4 f5⟩
  self := fun _ _ _ _ _ st h => wpAny_pyIter_listiter st h
theorem turn_tuple {P : Program} {w : World} {K : PySem.W.Frag} {tg : Expr} (a it : Addr) : Turn P w K tg (Itt K a) [it] it (fun i h => h.IsTupleIter it a i) where
  mem := by simp
  obj := fun i h st b hb => by
    have e : b = it := by simpa using hb
    subst e
    obtain ⟨o, e, c, d⟩ := st
    exact ⟨o, e, fun v z => by rw [d] at z; cases z⟩
  keep := fun i h h' st k => st.at fun o e => k it (by simp) o e
  item := by
    intro X hP hw hK hc i pins s σ H E I hf st hg
    subst hP hw hK
    obtain ⟨xs, x, hq, hx⟩ := hg
    obtain ⟨its, rv, p, hz⟩ := I.tuple hq
    obtain ⟨u, hu, ru⟩ := rv.get hx
    obtain ⟨f0, f1, f2, f3, f4, f5⟩ := hf it (by simp)
    refine wpAny_pyNext_tuple_item st (show s.heap.IsTuple a its.toArray from p) (x := u) (by simpa using hu) fun h' st' sb => ?_
    have I1 : Inv X pins σ H { s with heap := h' } := I.turned (t' := s.toks) (fun b o hb e => (sb.2 b hb).trans e) f0 f1 f3 f4 f5
    obtain ⟨o, e, c, d⟩ := id st'
    exact ⟨u, rfl, go_of (s := { s with heap := h' }) e c d (by decide) ⟨x, H, I1, ru, ⟨rfl, fun ys hy => by rw [I.tuple_inj hy hq]; exact hx⟩, st', fun b hb => (hf b hb).1⟩⟩
  done := by
    intro X hP hw hK hc i pins s σ H E I hf st hg
    subst hP hw hK
    obtain ⟨xs, hq, hx⟩ := hg
    obtain ⟨its, rv, p, hz⟩ := I.tuple hq
    obtain ⟨f0, f1, f2, f3, f4, f5⟩ := hf it (by simp)
    have hl := rv.length
    exact wpAny_pyNext_tuple_end (I.ok.hd hc) st (show s.heap.IsTuple a its.toArray from p) (by simp; omega) fun h' eb => ⟨rfl, I.turned (t' := s.toks) (fun b o hb e => eb b o hb e) f0 f1 f3 f4 f5⟩
  self := fun _ _ _ _ _ st h => wpAny_pyIter_tupleiter st h
theorem turn_range {P : Program} {w : World} {K : PySem.W.Frag} {tg : Expr} (it : Addr) (lo : Int) (n : Nat) : Turn P w K tg (Itr lo n) [it] it (fun i h => IsRangeIter h it (lo + (i : Nat) * 1) ((n : Int) - (i : Nat)) 1) where
  mem := by simp
  obj := fun i h st b hb => by
    have e : b = it := by simpa using hb
    subst e
    exact ⟨_, st, fun v z => by
      have z' : Data.fields _ = Data.cell v := z
      cases z'⟩
  keep := fun i h h' st k => k it (by simp) _ st
  item := by
    intro X hP hw hK hc i pins s σ H E I hf st hg
    subst hP hw hK
    obtain ⟨f0, f1, f2, f3, f4, f5⟩ := hf it (by simp)
    have W := Walks.range (prog := X.prog) (w := X.w) (I.ok.hd hc) it lo 1 n
    refine W.item i s _ _ hg st fun v h' tk hv st' kk => ?_
    obtain ⟨t, rfl⟩ := hv
    have I1 : Inv X pins σ H { s with heap := h', toks := tk } := I.turned (fun b o hb e => kk b o (by simpa using hb) e) f0 f1 f3 f4 f5
    refine ⟨_, rfl, go_of (s := { s with heap := h', toks := tk }) (n := "range_iterator") st' rfl rfl (by decide) ⟨.int (lo + i), H, I1, ⟨t, ?_⟩, ⟨rfl, rfl⟩, st', fun b hb => (hf b hb).1⟩⟩
    rw [Int.mul_one]
  done := by
    intro X hP hw hK hc i pins s σ H E I hf st hg
    subst hP hw hK
    obtain ⟨f0, f1, f2, f3, f4, f5⟩ := hf it (by simp)
    exact wpAny_pyNext_range_end (I.ok.hd hc) st (by have : n ≤ i := hg; omega) fun h' eb => ⟨rfl, I.turned (t' := s.toks) (fun b o hb e => eb b o hb e) f0 f1 f3 f4 f5⟩
  self := fun _ _ _ _ _ st h => wpAny_pyIter_rangeiter st h
end L2

namespace L2
open PySem PySem.Spec PyProof.Rows
section
variable {X : Cx} {tg : Expr}
def iList (K : PySem.W.Frag) (tl : TE) : TI := fun σ H R => tl σ H fun x H1 => ∃ a, x = .ref a ∧ (∃ xs, SqL K H1 a xs) ∧ R (Itl K a) H1
def iTup (K : PySem.W.Frag) (tl : TE) : TI := fun σ H R => tl σ H fun x H1 => ∃ a, x = .ref a ∧ (∃ xs, SqT K H1 a xs) ∧ R (Itt K a) H1
theorem pi_list {l : Expr} {tl : TE} (hl : PE X l tl) : PI X tg l (iList X.K tl) := by
  intro pins s σ H R I h
  refine thn (hl pins s σ H _ I h) fun v s1 ⟨x, H1, I1, r1, q1⟩ => ?_
  obtain ⟨a, e, ⟨xs, hq⟩, q⟩ := q1
  subst e
  cases r1
  obtain ⟨its, rv, p, hz⟩ := I1.list hq
  refine wpAny_pyIter_list p.isList ?_
  refine ⟨s1.heap.objs.size, [s1.heap.objs.size], _, _, H1, rfl, I1.kept (t' := s1.toks) fun b o e => Heap.get?_push_of_some _ e, turn_list a _, ⟨_, Heap.get?_push_size _ rfl, rfl, rfl⟩, fun b hb => ?_, q⟩
  have e : b = s1.heap.objs.size := by simpa using hb
  subst e
  exact I1.fpOk (Nat.le_refl _) (I1.hok.fresh (Nat.le_refl _))
theorem pi_tup {l : Expr} {tl : TE} (hl : PE X l tl) : PI X tg l (iTup X.K tl) := by
  intro pins s σ H R I h
  refine thn (hl pins s σ H _ I h) fun v s1 ⟨x, H1, I1, r1, q1⟩ => ?_
  obtain ⟨a, e, ⟨xs, hq⟩, q⟩ := q1
  subst e
  cases r1
  obtain ⟨its, rv, p, hz⟩ := I1.tuple hq
  refine wpAny_pyIter_tuple (show s1.heap.IsTuple a its.toArray from p) ?_
  refine ⟨s1.heap.objs.size, [s1.heap.objs.size], _, _, H1, rfl, I1.kept (t' := s1.toks) fun b o e => Heap.get?_push_of_some _ e, turn_tuple a _, ⟨_, Heap.get?_push_size _ rfl, rfl, rfl⟩, fun b hb => ?_, q⟩
  have e : b = s1.heap.objs.size := by simpa using hb
  subst e
  exact I1.fpOk (Nat.le_refl _) (I1.hok.fresh (Nat.le_refl _))
/-- a range object just made, walked -/
theorem range_it {pins : List (Addr × Obj)} {σ : St} {H : Hp} {s : Shared} {R : It → Hp → Prop} {E : Value → Shared → Prop} {lo hi : Int} {t u v : Tok} {tk : Nat} (I : Inv X pins σ H s) (h1 : -(2 ^ 62) ≤ lo) (h2 : lo < 2 ^ 62) (h3 : -(2 ^ 62) ≤ hi) (h4 : hi < 2 ^ 62)
    (q : R (Itr lo (hi - lo).toNat) H) : wpAny (model X.prog X.w) X.A (pyIter (.ref s.heap.objs.size)) (PIE X pins σ tg R) E { s with heap := s.heap.push { cls := .type "range", data := .fields #[.int lo t, .int hi u, .int 1 v] }, toks := tk } := by
  refine wpAny_pyIter_range (IsRange.new ..) (small_one h1 h2 h3 h4) ?_
  have I1 : Inv X pins σ H { s with heap := s.heap.push { cls := .type "range", data := .fields #[.int lo t, .int hi u, .int 1 v] }, toks := tk } := I.kept fun b o e => Heap.get?_push_of_some _ e
  refine ⟨(s.heap.push { cls := .type "range", data := .fields #[.int lo t, .int hi u, .int 1 v] }).objs.size, [(s.heap.push { cls := .type "range", data := .fields #[.int lo t, .int hi u, .int 1 v] }).objs.size], _, _, H, rfl,
    I1.kept (t' := tk) fun b o e => Heap.get?_push_of_some _ e, turn_range _ lo (hi - lo).toNat, ?_, fun b hb => ?_, q⟩
  · have e1 : lo + ((0 : Nat) : Int) * 1 = lo := by simp
    have e2 : (((hi - lo).toNat : Nat) : Int) - ((0 : Nat) : Int) = Builtin.Range.rangeSize lo hi 1 := by rw [rangeSize_one]; split <;> omega
    show IsRangeIter _ _ (lo + ((0 : Nat) : Int) * 1) ((((hi - lo).toNat : Nat) : Int) - ((0 : Nat) : Int)) 1
    rw [e1, e2]
    exact Heap.get?_push_size _ rfl
  · have e : b = (s.heap.push { cls := .type "range", data := .fields #[.int lo t, .int hi u, .int 1 v] }).objs.size := by simpa using hb
    subst e
    exact I1.fpOk (Nat.le_refl _) (I1.hok.fresh (Nat.le_refl _))
def iRng1 (ta : TA) : TI := fun σ H R => ta σ H fun vs H1 => ∃ j : Int, vs = [.int j] ∧ -(2 ^ 62) ≤ j ∧ j < 2 ^ 62 ∧ R (Itr 0 j.toNat) H1
def iRng2 (ta : TA) : TI := fun σ H R => ta σ H fun vs H1 => ∃ i j : Int, vs = [.int i, .int j] ∧ (-(2 ^ 62) ≤ i ∧ i < 2 ^ 62 ∧ -(2 ^ 62) ≤ j ∧ j < 2 ^ 62) ∧ R (Itr i (j - i).toNat) H1
theorem pi_range1 {a : Expr} {ta : TA} {p pos : Pos} (hg : Gl X "range") (hm : X.mg "range" = none) (ha : PA X [a] ta) (hs : starEach [a] X.env = [(false, eval a X.env)] := by rfl) : PI X tg (.Call (.Name "range" p) [a] [] pos) (iRng1 ta) := by
  intro pins s σ H R I h
  refine Call_ (ld_blt I hg hm boot_range (PyProof.Rows.callWith_type1 (thn (ha pos pins s σ H _ I h) fun us s1 ⟨vs, H1, I1, r1, q1⟩ => ?_) hs rfl))
  obtain ⟨j, e, q1, q2, q⟩ := q1
  subst e
  cases r1 with
  | cons r rr =>
    cases rr
    obtain ⟨t, rfl⟩ := r
    exact call_range_1 (range_it I1 (by omega) (by omega) q1 q2 (by simpa using q))
theorem pi_range2 {a b : Expr} {ta : TA} {p pos : Pos} (hg : Gl X "range") (hm : X.mg "range" = none) (ha : PA X [a, b] ta) (hs : starEach [a, b] X.env = [(false, eval a X.env), (false, eval b X.env)] := by rfl) (hs2 : starEach [b] X.env = [(false, eval b X.env)] := by rfl) :
    PI X tg (.Call (.Name "range" p) [a, b] [] pos) (iRng2 ta) := by
  intro pins s σ H R I h
  refine Call_ (ld_blt I hg hm boot_range (PyProof.Rows.callWith_type1 (thn (ha pos pins s σ H _ I h) fun us s1 ⟨vs, H1, I1, r1, q1⟩ => ?_) (by rw [hs, hs2]) (by rw [hs2]; rfl)))
  obtain ⟨i, j, e, ⟨q1, q2, q3, q4⟩, q⟩ := q1
  subst e
  cases r1 with
  | cons r rr =>
    cases rr with
    | cons r' rr =>
      cases rr
      obtain ⟨t, rfl⟩ := r
      obtain ⟨t', rfl⟩ := r'
      exact call_range_2 (range_it I1 q1 q2 q3 q4 q)

/-! ### for -/
/-- W: the invariant by the turn and a measure; N: what the body is to reach -/
def tFor (wi : TI) (g : TG) (tb : TS) : TS := fun D σ H => wi σ H fun J H1 => ∃ W : Nat → Nat → St → Hp → Prop, (∃ m, W 0 m σ H1) ∧ ∀ i m σ H, W i m σ H →
  (J.stop i H ∧ D.nx σ H) ∨ (J.go i H ∧ ∃ N : St → Hp → Prop, (∀ σ' H', N σ' H' → ∃ m', m' < m ∧ W (i + 1) m' σ' H') ∧ ∀ x H', J.yld i H x H' → g x σ H' fun σ2 H2 => tb { D with nx := N, ct := N, bk := D.nx } σ2 H2)
/-- the records at fp as they stand -/
def pinsAt (fp : List Addr) (h : Heap) : List (Addr × Obj) := fp.filterMap fun b => (h.get? b).map fun o => (b, o)
theorem mem_pinsAt {fp : List Addr} {h : Heap} {b : Addr} {o : Obj} (hb : b ∈ fp) (e : h.get? b = some o) : (b, o) ∈ pinsAt fp h := List.mem_filterMap.mpr ⟨b, hb, by rw [e]; rfl⟩
theorem of_pinsAt {fp : List Addr} {h : Heap} {p : Addr × Obj} (hp : p ∈ pinsAt fp h) : p.1 ∈ fp ∧ h.get? p.1 = some p.2 := by
  obtain ⟨b, hb, e⟩ := List.mem_filterMap.mp hp
  cases q : h.get? b with
  | none => rw [q] at e; cases e
  | some o =>
    rw [q] at e
    have e' : (b, o) = p := Option.some.inj e
    subst e'
    exact ⟨hb, q⟩
theorem Inv.pinned {pins : List (Addr × Obj)} {σ : St} {H : Hp} {s : Shared} {fp : List Addr} (I : Inv X pins σ H s) (hf : ∀ b ∈ fp, FpOk X pins H b) (ho : ∀ b ∈ fp, ∃ o, s.heap.get? b = some o ∧ ∀ v, o.data ≠ .cell v) : Inv X (pins ++ pinsAt fp s.heap) σ H s :=
  I.pins_of fun p hp => (List.mem_append.mp hp).elim (fun z => I.pin p (List.mem_append_right _ z)) fun z => by
    obtain ⟨hb, e⟩ := of_pinsAt z
    obtain ⟨f0, f1, f2, _⟩ := hf p.1 hb
    obtain ⟨o, e', d⟩ := ho p.1 hb
    rw [e] at e'; cases e'
    exact ⟨e, f0, f1, f2, d⟩
theorem Inv.unpinned {pins pl : List (Addr × Obj)} {σ : St} {H : Hp} {s : Shared} (I : Inv X (pins ++ pl) σ H s) : Inv X pins σ H s := I.pins_of fun p hp => I.pin p (List.mem_append_right _ (List.mem_append_left _ hp))
theorem ps_for {iter : Expr} {body : List Stmt} {wi : TI} {g : TG} {tb : TS} {pos : Pos} (hp : PassesOwn (model X.prog X.w) X.A X.env X.xe) (hc : X.calm = true) (hi : PI X tg iter wi) (hg : PG X tg g) (hb : PSs X body tb)
    (hs : ∀ x, foldedSetIterable iter X.env x = pure x := by intro _; rfl) : PS X (.For tg iter body [] pos) (tFor wi g tb) := by
  intro pins s σ H D I h
  refine wpAny_For (thn (hi pins s σ H _ I h) fun v s1 h1 => thn h1 fun itv s2 h2 => ?_) hs
  obtain ⟨it, fp, tn, J, H2, e, I2, T, st2, f2, W, ⟨m0, w0⟩, turn⟩ := h2
  subst e
  -- what stays true of the iterator's objects through the loop
  have stat : ∀ {H' : Hp}, (∀ b ∈ fp, H' b = none) → ∀ b ∈ fp, FpOk X pins H' b := fun hn b hb => ⟨hn b hb, (f2 b hb).2⟩
  refine codeAny_forLoop_any (fun n s' => ∃ i σ' H', Inv X pins σ' H' s' ∧ tn i s'.heap ∧ (∀ b ∈ fp, H' b = none) ∧ W i n σ' H') ?_ m0 ⟨0, σ, H2, I2, st2, fun b hb => (f2 b hb).1, w0⟩
  rintro n s3 ⟨i, σ3, H3, I3, st3, fr3, w3⟩
  rcases turn i n σ3 H3 w3 with ⟨stop, qn⟩ | ⟨go, N, hN, step⟩
  · refine wpAny_passesOwn hp (thn (T.done X rfl rfl rfl hc i pins s3 σ3 H3 X.xe I3 (stat fr3) st3 stop) fun r s4 ⟨hr, I4⟩ => ?_)
    subst hr
    exact wpAny_execs_nil ⟨σ3, H3, I4, qn⟩
  · refine wpAny_passesOwn hp (thn (T.item X rfl rfl rfl hc i pins s3 σ3 H3 X.xe I3 (stat fr3) st3 go) fun r s4 ⟨u, hr, h4⟩ => ?_)
    subst hr
    refine wpAny_passesOwn hp (thn h4 fun _ s5 ⟨x, H5, I5, r5, y5, st5, fr5⟩ => ?_)
    have I5' := I5.pinned (stat fr5) (T.obj _ _ st5)
    refine wpAny_passesOwn hp (thn (hg _ s5 σ3 H5 x u _ I5' r5 (step x H5 y5)) fun _ s6 ⟨σ6, H6, I6, q6⟩ => ?_)
    refine wpAny_passesOwn hp (thn (hb _ s6 σ6 H6 _ I6 q6) fun f s7 q7 => ?_)
    have again : ∀ {σ7 : St} {H7 : Hp}, Inv X (pins ++ pinsAt fp s5.heap) σ7 H7 s7 → N σ7 H7 → ∃ m, m < n ∧ ∃ i σ' H', Inv X pins σ' H' s7 ∧ tn i s7.heap ∧ (∀ b ∈ fp, H' b = none) ∧ W i m σ' H' := fun {σ7 H7} I7 n7 => by
      obtain ⟨m', hm, w7⟩ := hN σ7 H7 n7
      refine ⟨m', hm, i + 1, σ7, H7, I7.unpinned, T.keep _ _ _ st5 fun b hb o e => (I7.pin (b, o) (List.mem_append_right _ (List.mem_append_right _ (mem_pinsAt hb e)))).1, fun b hb => ?_, w7⟩
      obtain ⟨o, e, d⟩ := T.obj _ _ st5 b hb
      exact (I7.pin (b, o) (List.mem_append_right _ (List.mem_append_right _ (mem_pinsAt hb e)))).2.1
    cases f with
    | next => obtain ⟨σ7, H7, I7, n7⟩ := q7; exact again I7 n7
    | cont => obtain ⟨σ7, H7, I7, n7⟩ := q7; exact again I7 n7
    | brk => obtain ⟨σ7, H7, I7, q7⟩ := q7; exact ⟨σ7, H7, I7.unpinned, q7⟩
    | ret v => obtain ⟨x7, σ7, H7, I7, r7, q7⟩ := q7; exact ⟨x7, σ7, H7, I7.unpinned, r7, q7⟩
end

/-! ### the forms one uses -/
/-- over a list that the body leaves as it is -/
theorem for_list {K : PySem.W.Frag} {a : Addr} {xs : List V} {g : TG} {tb : TS} {D : Ends} {σ : St} {H : Hp} (Pv : Nat → St → Hp → Prop) (h0 : Pv 0 σ H) (hl : ∀ i σ H, i ≤ xs.length → Pv i σ H → SqL K H a xs)
    (hs : ∀ i x σ H, xs[i]? = some x → Pv i σ H → g x σ H fun σ2 H2 => tb { D with nx := Pv (i + 1), ct := Pv (i + 1), bk := D.nx } σ2 H2) (hd : ∀ σ H, Pv xs.length σ H → D.nx σ H) :
    ∃ W : Nat → Nat → St → Hp → Prop, (∃ m, W 0 m σ H) ∧ ∀ i m σ H, W i m σ H →
      ((Itl K a).stop i H ∧ D.nx σ H) ∨ ((Itl K a).go i H ∧ ∃ N : St → Hp → Prop, (∀ σ' H', N σ' H' → ∃ m', m' < m ∧ W (i + 1) m' σ' H') ∧ ∀ x H', (Itl K a).yld i H x H' → g x σ H' fun σ2 H2 => tb { D with nx := N, ct := N, bk := D.nx } σ2 H2) := by
  refine ⟨fun i m σ H => m = xs.length - i ∧ i ≤ xs.length ∧ Pv i σ H, ⟨xs.length, by simp, Nat.zero_le _, h0⟩, ?_⟩
  rintro i m σ H ⟨rfl, hi, p⟩
  have q := hl i σ H hi p
  by_cases hlt : i < xs.length
  · refine .inr ⟨⟨xs, xs[i], q, by simp [hlt]⟩, Pv (i + 1), fun σ' H' p' => ⟨xs.length - (i + 1), by omega, rfl, hlt, p'⟩, fun x H' y => ?_⟩
    obtain ⟨e, y⟩ := y
    subst e
    exact hs i x σ _ (y xs q) p
  · have e : i = xs.length := by omega
    subst e
    exact .inl ⟨⟨xs, q, Nat.le_refl _⟩, hd σ H p⟩
theorem for_tup {K : PySem.W.Frag} {a : Addr} {xs : List V} {g : TG} {tb : TS} {D : Ends} {σ : St} {H : Hp} (Pv : Nat → St → Hp → Prop) (h0 : Pv 0 σ H) (hl : ∀ i σ H, i ≤ xs.length → Pv i σ H → SqT K H a xs)
    (hs : ∀ i x σ H, xs[i]? = some x → Pv i σ H → g x σ H fun σ2 H2 => tb { D with nx := Pv (i + 1), ct := Pv (i + 1), bk := D.nx } σ2 H2) (hd : ∀ σ H, Pv xs.length σ H → D.nx σ H) :
    ∃ W : Nat → Nat → St → Hp → Prop, (∃ m, W 0 m σ H) ∧ ∀ i m σ H, W i m σ H →
      ((Itt K a).stop i H ∧ D.nx σ H) ∨ ((Itt K a).go i H ∧ ∃ N : St → Hp → Prop, (∀ σ' H', N σ' H' → ∃ m', m' < m ∧ W (i + 1) m' σ' H') ∧ ∀ x H', (Itt K a).yld i H x H' → g x σ H' fun σ2 H2 => tb { D with nx := N, ct := N, bk := D.nx } σ2 H2) := by
  refine ⟨fun i m σ H => m = xs.length - i ∧ i ≤ xs.length ∧ Pv i σ H, ⟨xs.length, by simp, Nat.zero_le _, h0⟩, ?_⟩
  rintro i m σ H ⟨rfl, hi, p⟩
  have q := hl i σ H hi p
  by_cases hlt : i < xs.length
  · refine .inr ⟨⟨xs, xs[i], q, by simp [hlt]⟩, Pv (i + 1), fun σ' H' p' => ⟨xs.length - (i + 1), by omega, rfl, hlt, p'⟩, fun x H' y => ?_⟩
    obtain ⟨e, y⟩ := y
    subst e
    exact hs i x σ _ (y xs q) p
  · have e : i = xs.length := by omega
    subst e
    exact .inl ⟨⟨xs, q, Nat.le_refl _⟩, hd σ H p⟩
theorem for_range {lo : Int} {n : Nat} {g : TG} {tb : TS} {D : Ends} {σ : St} {H : Hp} (Pv : Nat → St → Hp → Prop) (h0 : Pv 0 σ H)
    (hs : ∀ i σ H, i < n → Pv i σ H → g (.int (lo + i)) σ H fun σ2 H2 => tb { D with nx := Pv (i + 1), ct := Pv (i + 1), bk := D.nx } σ2 H2) (hd : ∀ σ H, Pv n σ H → D.nx σ H) :
    ∃ W : Nat → Nat → St → Hp → Prop, (∃ m, W 0 m σ H) ∧ ∀ i m σ H, W i m σ H →
      ((Itr lo n).stop i H ∧ D.nx σ H) ∨ ((Itr lo n).go i H ∧ ∃ N : St → Hp → Prop, (∀ σ' H', N σ' H' → ∃ m', m' < m ∧ W (i + 1) m' σ' H') ∧ ∀ x H', (Itr lo n).yld i H x H' → g x σ H' fun σ2 H2 => tb { D with nx := N, ct := N, bk := D.nx } σ2 H2) := by
  refine ⟨fun i m σ H => m = n - i ∧ i ≤ n ∧ Pv i σ H, ⟨n, by simp, Nat.zero_le _, h0⟩, ?_⟩
  rintro i m σ H ⟨rfl, hi, p⟩
  by_cases hlt : i < n
  · refine .inr ⟨hlt, Pv (i + 1), fun σ' H' p' => ⟨n - (i + 1), by omega, rfl, hlt, p'⟩, fun x H' y => ?_⟩
    obtain ⟨e, y⟩ := y
    subst e y
    exact hs i σ _ hlt p
  · have e : i = n := by omega
    subst e
    exact .inl ⟨Nat.le_refl _, hd σ H p⟩
/-- while, by a word and a measure of the state -/
theorem while_by {c : TT} {tb : TS} {D : Ends} {σ : St} {H : Hp} (Pv : St → Hp → Prop) (μ : St → Hp → Nat) (h0 : Pv σ H)
    (hs : ∀ σ H, Pv σ H → c σ H fun b H1 => if b = true then tb { D with nx := fun σ' H' => Pv σ' H' ∧ μ σ' H' < μ σ H, ct := fun σ' H' => Pv σ' H' ∧ μ σ' H' < μ σ H, bk := D.nx } σ H1 else D.nx σ H1)
    (mono : ∀ σ H Q Q', (∀ b H1, Q b H1 → Q' b H1) → c σ H Q → c σ H Q') : tWhile c tb D σ H := by
  refine ⟨fun m σ H => m = μ σ H ∧ Pv σ H, ⟨_, rfl, h0⟩, ?_⟩
  rintro m σ H ⟨rfl, p⟩
  refine mono σ H _ _ (fun b H1 q => ?_) (hs σ H p)
  cases b with
  | true => exact ⟨_, fun σ' H' ⟨p', l⟩ => ⟨_, l, rfl, p'⟩, q⟩
  | false => exact q
end L2

namespace L2
open PySem PySem.Spec PyProof.Rows

abbrev R2 := V → V → Hp → VK → Prop
/-- a two-place operation on values: f is binaryOp op, inplaceOp op or compareOp op -/
def OpR (X : Cx) (f : Value → Value → Sem Value) (r : R2) : Prop :=
  ∀ (pins : List (Addr × Obj)) (s : Shared) (σ : St) (H : Hp) (x y : V) (v u : Value) (Q : VK), Inv X pins σ H s → RelV x v → RelV y u → r x y H Q →
    wpAny (model X.prog X.w) X.A (f v u) (EP X pins σ Q) X.xe s
/-- a one-place operation -/
def UnR (X : Cx) (f : Value → Sem Value) (r : V → Hp → VK → Prop) : Prop :=
  ∀ (pins : List (Addr × Obj)) (s : Shared) (σ : St) (H : Hp) (x : V) (v : Value) (Q : VK), Inv X pins σ H s → RelV x v → r x H Q →
    wpAny (model X.prog X.w) X.A (f v) (EP X pins σ Q) X.xe s
/-- a call of a value that is known (a builtin, a type) with values -/
def CallR (X : Cx) (f : Value) (r : List V → Hp → VK → Prop) : Prop :=
  ∀ (pins : List (Addr × Obj)) (s : Shared) (σ : St) (H : Hp) (xs : List V) (us : List Value) (Q : VK), Inv X pins σ H s → Vals xs us → r xs H Q →
    wpAny (model X.prog X.w) X.A (call f us) (EP X pins σ Q) X.xe s
/-- a value's truth -/
def TruR (X : Cx) (r : V → Hp → (Bool → Hp → Prop) → Prop) : Prop :=
  ∀ (pins : List (Addr × Obj)) (s : Shared) (σ : St) (H : Hp) (x : V) (v : Value) (Q : Bool → Hp → Prop), Inv X pins σ H s → RelV x v → r x H Q →
    wpAny (model X.prog X.w) X.A (truthy v) (TP X pins σ Q) X.xe s

def tOp (r : R2) (ta tb : TE) : TE := fun σ H Q => ta σ H fun x H1 => tb σ H1 fun y H2 => r x y H2 Q
def tUn (r : V → Hp → VK → Prop) (ta : TE) : TE := fun σ H Q => ta σ H fun x H1 => r x H1 Q
/-- ints in, under C, and a value out -/
def rI (C : Int → Int → Prop) (g : Int → Int → V) : R2 := fun x y H Q => ∃ i j, x = .int i ∧ y = .int j ∧ C i j ∧ Q (g i j) H
def rI0 (g : Int → Int → V) : R2 := fun x y H Q => ∃ i j, x = .int i ∧ y = .int j ∧ Q (g i j) H
def rU (g : Int → V) : V → Hp → VK → Prop := fun x H Q => ∃ i, x = .int i ∧ Q (g i) H

section
variable {X : Cx} {a b c : Expr} {ta tb tc : TE} {pos : Pos}

theorem binT (ha : PE X a ta) (hb : PE X b tb) {pins : List (Addr × Obj)} {s : Shared} {σ : St} {H : Hp} {R : V → V → Hp → Prop} (I : Inv X pins σ H s)
    (h : ta σ H fun x H1 => tb σ H1 fun y H2 => R x y H2) {Q : Value → Shared → Prop} {f : Value → Value → Sem Value}
    (hf : ∀ v u s2 x y H2, Inv X pins σ H2 s2 → RelV x v → RelV y u → R x y H2 → wpAny (model X.prog X.w) X.A (f v u) Q X.xe s2) :
    wpAny (model X.prog X.w) X.A (eval a X.env) (fun v s₁ => wpAny (model X.prog X.w) X.A (eval b X.env) (fun u s₂ => wpAny (model X.prog X.w) X.A (f v u) Q X.xe s₂) X.xe s₁) X.xe s := by
  refine thn (ha pins s σ H _ I h) fun v s1 ⟨x, H1, I1, r1, q1⟩ => ?_
  refine thn (hb pins s1 σ H1 _ I1 q1) fun u s2 ⟨y, H2, I2, r2, q2⟩ => ?_
  exact hf v u s2 x y H2 I2 r1 r2 q2

theorem pe_op {op : Operator} {r : R2} (ho : OpR X (binaryOp op) r) (ha : PE X a ta) (hb : PE X b tb) : PE X (.BinOp a op b pos) (tOp r ta tb) := by
  intro pins s σ H Q I h
  exact wpAny_BinOp (binT ha hb I h fun v u s2 x y H2 I2 rx ry q => ho pins s2 σ H2 x y v u Q I2 rx ry q)
theorem pe_un {op : UnaryOp} {r : V → Hp → VK → Prop} (ho : UnR X (unaryOp op) r) (ha : PE X a ta) : PE X (.UnaryOp op a pos) (tUn r ta) := by
  intro pins s σ H Q I h
  exact UnaryOp_ (thn (ha pins s σ H _ I h) fun v s1 ⟨x, H1, I1, r1, q1⟩ => ho pins s1 σ H1 x v Q I1 r1 q1)
/-! ### ints -/
theorem opI {f : Value → Value → Sem Value} {C : Int → Int → Prop} {g : Int → Int → Int}
    (rule : ∀ (i j : Int) (t u : Tok) (s : Shared) (Q : Value → Shared → Prop) (E : Value → Shared → Prop), C i j → Q (.int (g i j) s.toks) { s with toks := s.toks + 1 } → wpAny (model X.prog X.w) X.A (f (.int i t) (.int j u)) Q E s) :
    OpR X f (rI C fun i j => .int (g i j)) := by
  intro pins s σ H x y v u Q I rx ry h
  obtain ⟨i, j, rfl, rfl, hc, q⟩ := h
  obtain ⟨t, rfl⟩ := rx
  obtain ⟨t', rfl⟩ := ry
  exact rule i j t t' s _ _ hc ⟨.int (g i j), H, I.tok _, ⟨_, rfl⟩, q⟩
theorem opI0 {f : Value → Value → Sem Value} {g : Int → Int → Int}
    (rule : ∀ (i j : Int) (t u : Tok) (s : Shared) (Q : Value → Shared → Prop) (E : Value → Shared → Prop), Q (.int (g i j) s.toks) { s with toks := s.toks + 1 } → wpAny (model X.prog X.w) X.A (f (.int i t) (.int j u)) Q E s) :
    OpR X f (rI0 fun i j => .int (g i j)) := by
  intro pins s σ H x y v u Q I rx ry h
  obtain ⟨i, j, rfl, rfl, q⟩ := h
  obtain ⟨t, rfl⟩ := rx
  obtain ⟨t', rfl⟩ := ry
  exact rule i j t t' s _ _ ⟨.int (g i j), H, I.tok _, ⟨_, rfl⟩, q⟩
theorem opB0 {f : Value → Value → Sem Value} {g : Int → Int → Bool}
    (rule : ∀ (i j : Int) (t u : Tok) (s : Shared) (Q : Value → Shared → Prop) (E : Value → Shared → Prop), Q (.bool (g i j)) s → wpAny (model X.prog X.w) X.A (f (.int i t) (.int j u)) Q E s) :
    OpR X f (rI0 fun i j => .bl (g i j)) := by
  intro pins s σ H x y v u Q I rx ry h
  obtain ⟨i, j, rfl, rfl, q⟩ := h
  obtain ⟨t, rfl⟩ := rx
  obtain ⟨t', rfl⟩ := ry
  exact rule i j t t' s _ _ ⟨.bl (g i j), H, I, rfl, q⟩

def CDiv (i j : Int) : Prop := 0 < j ∧ j < 1073741824
def CDivN (i j : Int) : Prop := j ≠ 0 ∧ j.natAbs < 1073741824
def CPow (i j : Int) : Prop := 0 ≤ j ∧ j ≤ 1000000 ∧ i.natAbs < 2 ^ 64
def CMul (i j : Int) : Prop := (-(2 ^ 64) < i ∧ i < 2 ^ 64) ∨ (-(2 ^ 64) < j ∧ j < 2 ^ 64)
theorem CMul.ok {i j : Int} (h : CMul i j) : IntMulOk i j := by
  rcases h with ⟨h1, h2⟩ | ⟨h1, h2⟩
  · exact .of_left (intBits_le_64 h1 h2)
  · exact .of_right (intBits_le_64 h1 h2)
theorem op_add : OpR X (binaryOp .Add) (rI0 fun i j => .int (i + j)) := opI0 fun _ _ _ _ _ _ _ q => add_int q
theorem op_sub : OpR X (binaryOp .Sub) (rI0 fun i j => .int (i - j)) := opI0 fun _ _ _ _ _ _ _ q => sub_int q
theorem op_mul : OpR X (binaryOp .Mult) (rI CMul fun i j => .int (i * j)) := opI fun _ _ _ _ _ _ _ hc q => mul_int q hc.ok
/-- // by a positive divisor -/
theorem op_fdiv : OpR X (binaryOp .FloorDiv) (rI CDiv fun i j => .int (i / j)) := opI fun i j _ _ _ _ _ hc q => by
  have h1 : (0 : Int) < j := hc.1
  have h2 : j < 1073741824 := hc.2
  exact floordiv_int (by omega) (by rw [Int.fdiv_eq_ediv_of_nonneg i (by omega)]; exact q) (.inl (PyProof.noPylong_small (by omega)))
/-- % by a positive divisor of any size -/
theorem op_mod : OpR X (binaryOp .Mod) (rI (fun _ j => 0 < j) fun i j => .int (i % j)) := opI fun i j _ _ _ _ _ hc q => by
  have h1 : (0 : Int) < j := hc
  exact mod_int' (by omega) (by rw [Int.fmod_eq_emod_of_nonneg i (by omega)]; exact q)
theorem op_modN : OpR X (binaryOp .Mod) (rI (fun _ j => j ≠ 0) fun i j => .int (i.fmod j)) := opI fun _ _ _ _ _ _ _ hc q => mod_int' hc q
theorem op_pow : OpR X (binaryOp .Pow) (rI CPow fun i j => .int (i ^ j.toNat)) := opI fun _ _ _ _ _ _ _ hc q => pow_int_small hc.1 hc.2.1 hc.2.2 q
theorem unI {f : Value → Sem Value} {g : Int → Int}
    (rule : ∀ (i : Int) (t : Tok) (s : Shared) (Q : Value → Shared → Prop) (E : Value → Shared → Prop), Q (.int (g i) s.toks) { s with toks := s.toks + 1 } → wpAny (model X.prog X.w) X.A (f (.int i t)) Q E s) :
    UnR X f (rU fun i => .int (g i)) := by
  intro pins s σ H x v Q I rx h
  obtain ⟨i, rfl, q⟩ := h
  obtain ⟨t, rfl⟩ := rx
  exact rule i t s _ _ ⟨.int (g i), H, I.tok _, ⟨_, rfl⟩, q⟩
theorem un_neg : UnR X (unaryOp .USub) (rU fun i => .int (-i)) := unI fun _ _ _ _ _ q => neg_int q
/-! ### bools among ints: n += (a < b) -/
end

/-! ### comparisons -/
/-- the scalars that == tells apart as data does -/
def scal : V → V → Bool
  | .non, .non => true | .non, .int _ => true | .int _, .non => true | .non, .bl _ => true | .bl _, .non => true | .non, .str _ => true | .str _, .non => true
  | .int _, .int _ => true | .bl _, .bl _ => true | .str _, .str _ => true | .byt _, .byt _ => true
  | .int _, .str _ => true | .str _, .int _ => true | .bl _, .str _ => true | .str _, .bl _ => true
  | _, _ => false
def rEq : R2 := fun x y H Q => scal x y = true ∧ Q (.bl (decide (x = y))) H
def rNe : R2 := fun x y H Q => scal x y = true ∧ Q (.bl (!decide (x = y))) H

theorem dec_int {i j : Int} : decide (V.int i = V.int j) = (i == j) := by
  rw [Bool.eq_iff_iff]
  simp
theorem dec_bl {i j : Bool} : decide (V.bl i = V.bl j) = (i == j) := by
  rw [Bool.eq_iff_iff]
  simp
theorem dec_str {i j : Str} : decide (V.str i = V.str j) = (i == j) := by
  rw [Bool.eq_iff_iff]
  simp
theorem dec_byt {i j : Array UInt8} : decide (V.byt i = V.byt j) = (i.toList == j.toList) := by
  rw [Bool.eq_iff_iff]
  cases i
  cases j
  simp

section
variable {X : Cx} {a b c : Expr} {ta tb tc : TE} {pos : Pos}
theorem fin_bl {pins : List (Addr × Obj)} {σ : St} {H : Hp} {s : Shared} {Q : VK} {k k' : Bool} (I : Inv X pins σ H s) (q : Q (.bl k) H) (e : k = k') : EP X pins σ Q (.bool k') s := by
  subst e
  exact ⟨.bl k, H, I, rfl, q⟩
theorem op_eq : OpR X (compareOp .Eq) rEq := by
  intro pins s σ H x y v u Q I rx ry h
  obtain ⟨hs, q⟩ := h
  cases x with
  | non =>
    cases rx
    cases y with
    | non => cases ry; exact PySem.EqNone.eq_none_none (fin_bl I q (by simp))
    | bl j => cases ry; exact PySem.EqNone.eq_none_bool (fin_bl I q (by simp))
    | int j => obtain ⟨t', rfl⟩ := ry; exact PySem.EqNone.eq_none_int (fin_bl I q (by simp))
    | str j => obtain ⟨t', rfl⟩ := ry; exact PySem.EqNone.eq_none_str (fin_bl I q (by simp))
    | _ => exact absurd (show false = true from hs) Bool.false_ne_true
  | bl i =>
    cases rx
    cases y with
    | non => cases ry; exact PySem.EqNone.eq_bool_none (fin_bl I q (by simp))
    | bl j => cases ry; exact eq_bool (fin_bl I q dec_bl)
    | str j => obtain ⟨t', rfl⟩ := ry; exact PySem.EqMixed.eq_bool_str (fin_bl I q (by simp))
    | _ => exact absurd (show false = true from hs) Bool.false_ne_true
  | int i =>
    obtain ⟨t, rfl⟩ := rx
    cases y with
    | non => cases ry; exact PySem.EqNone.eq_int_none (fin_bl I q (by simp))
    | int j => obtain ⟨t', rfl⟩ := ry; exact eq_int (fin_bl I q dec_int)
    | str j => obtain ⟨t', rfl⟩ := ry; exact PySem.EqMixed.eq_int_str (fin_bl I q (by simp))
    | _ => exact absurd (show false = true from hs) Bool.false_ne_true
  | str i =>
    obtain ⟨t, rfl⟩ := rx
    cases y with
    | non => cases ry; exact PySem.EqNone.eq_str_none (fin_bl I q (by simp))
    | bl j => cases ry; exact PySem.EqMixed.eq_str_bool (fin_bl I q (by simp))
    | int j => obtain ⟨t', rfl⟩ := ry; exact PySem.EqMixed.eq_str_int (fin_bl I q (by simp))
    | str j => obtain ⟨t', rfl⟩ := ry; exact eq_str (fin_bl I q dec_str)
    | _ => exact absurd (show false = true from hs) Bool.false_ne_true
  | byt i =>
    obtain ⟨t, rfl⟩ := rx
    cases y with
    | byt j => obtain ⟨t', rfl⟩ := ry; exact PySem.W.eq_bytes (fin_bl I q dec_byt)
    | _ => exact absurd (show false = true from hs) Bool.false_ne_true
  | _ => cases y <;> exact absurd (show false = true from hs) Bool.false_ne_true
theorem op_ne : OpR X (compareOp .NotEq) rNe := by
  intro pins s σ H x y v u Q I rx ry h
  obtain ⟨hs, q⟩ := h
  cases x with
  | non =>
    cases rx
    cases y with
    | non => cases ry; exact PySem.EqNone.ne_none_none (fin_bl I q (by simp))
    | bl j => cases ry; exact PySem.EqNone.ne_none_bool (fin_bl I q (by simp))
    | int j => obtain ⟨t', rfl⟩ := ry; exact PySem.EqNone.ne_none_int (fin_bl I q (by simp))
    | str j => obtain ⟨t', rfl⟩ := ry; exact PySem.EqNone.ne_none_str (fin_bl I q (by simp))
    | _ => exact absurd (show false = true from hs) Bool.false_ne_true
  | bl i =>
    cases rx
    cases y with
    | non => cases ry; exact PySem.EqNone.ne_bool_none (fin_bl I q (by simp))
    | bl j => cases ry; exact ne_bool (fin_bl I q (congrArg not dec_bl))
    | str j => obtain ⟨t', rfl⟩ := ry; exact PySem.EqMixed.ne_bool_str (fin_bl I q (by simp))
    | _ => exact absurd (show false = true from hs) Bool.false_ne_true
  | int i =>
    obtain ⟨t, rfl⟩ := rx
    cases y with
    | non => cases ry; exact PySem.EqNone.ne_int_none (fin_bl I q (by simp))
    | int j => obtain ⟨t', rfl⟩ := ry; exact ne_int (fin_bl I q (congrArg not dec_int))
    | str j => obtain ⟨t', rfl⟩ := ry; exact PySem.EqMixed.ne_int_str (fin_bl I q (by simp))
    | _ => exact absurd (show false = true from hs) Bool.false_ne_true
  | str i =>
    obtain ⟨t, rfl⟩ := rx
    cases y with
    | non => cases ry; exact PySem.EqNone.ne_str_none (fin_bl I q (by simp))
    | bl j => cases ry; exact PySem.EqMixed.ne_str_bool (fin_bl I q (by simp))
    | int j => obtain ⟨t', rfl⟩ := ry; exact PySem.EqMixed.ne_str_int (fin_bl I q (by simp))
    | str j => obtain ⟨t', rfl⟩ := ry; exact ne_str (fin_bl I q (congrArg not dec_str))
    | _ => exact absurd (show false = true from hs) Bool.false_ne_true
  | byt i =>
    obtain ⟨t, rfl⟩ := rx
    cases y with
    | byt j => obtain ⟨t', rfl⟩ := ry; exact PySem.W.ne_bytes (fin_bl I q (congrArg not dec_byt))
    | _ => exact absurd (show false = true from hs) Bool.false_ne_true
  | _ => cases y <;> exact absurd (show false = true from hs) Bool.false_ne_true

theorem op_lt : OpR X (compareOp .Lt) (rI0 fun i j => .bl (decide (i < j))) := opB0 fun _ _ _ _ _ _ _ q => lt_int q
theorem op_gt : OpR X (compareOp .Gt) (rI0 fun i j => .bl (decide (j < i))) := opB0 fun _ _ _ _ _ _ _ q => gt_int q
theorem op_ge : OpR X (compareOp .GtE) (rI0 fun i j => .bl (decide (j ≤ i))) := opB0 fun _ _ _ _ _ _ _ q => ge_int q
/-- is, is not of two objects that are tracked lists or instances -/
def isObj : HO → Bool
  | .lst _ => true
  | .ins _ _ _ => true
  | _ => false
theorem nomark (b : Expr) {op : CmpOp} (h : op ≠ .In := by decide) (h2 : op ≠ .NotIn := by decide) : behindInMarks op b = false := by
  have e1 : (op == CmpOp.In) = false := by cases op <;> first | rfl | exact absurd rfl h
  have e2 : (op == CmpOp.NotIn) = false := by cases op <;> first | rfl | exact absurd rfl h2
  cases b <;> simp [behindInMarks, e1, e2]
/-- a comparison as a value; hm: nomark b, or (for in, not in) by with_unfolding_all rfl -/
theorem pe_cmpR {op : CmpOp} {r : R2} (ho : OpR X (compareOp op) r) (ha : PE X a ta) (hb : PE X b tb) (hm : behindInMarks op b = false) : PE X (.Compare a [op] [b] pos) (tOp r ta tb) := by
  intro pins s σ H Q I h
  exact wpAny_Compare1 (binT ha hb I h fun v u s2 x y H2 I2 rx ry q => ho pins s2 σ H2 x y v u Q I2 rx ry q) hm
/-- a reading of a value as a test -/
def tTest (t : TE) : TT := fun σ H Q => t σ H fun x H' => ∃ k, x = .bl k ∧ Q k H'
theorem pt_cmpR {op : CmpOp} {r : R2} (ho : OpR X (compareOp op) r) (ha : PE X a ta) (hb : PE X b tb) (hm : behindInMarks op b = false) : PT X (.Compare a [op] [b] pos) (tTest (tOp r ta tb)) := by
  intro pins s σ H Q I h
  refine wpAny_isTrue_Compare1 (thn (ha pins s σ H _ I h) fun v s1 ⟨x, H1, I1, r1, q1⟩ => thn (hb pins s1 σ H1 _ I1 q1) fun u s2 ⟨y, H2, I2, r2, q2⟩ =>
    thn (ho pins s2 σ H2 x y v u _ I2 r1 r2 q2) fun c s3 ⟨z, H3, I3, r3, k, e, q3⟩ => ?_) hm
  subst e
  cases r3
  exact wpAny_truthy_bool ⟨H3, I3, q3⟩
/-- a op1 b op2 c -/
def tChain (r r' : R2) (ta tb tc : TE) : TE := fun σ H Q => ta σ H fun x H1 => tb σ H1 fun y H2 => r x y H2 fun z H3 => ∃ k, z = .bl k ∧
  (if k = true then tc σ H3 fun w' H4 => r' y w' H4 Q else Q (.bl false) H3)
/-! ### truth -/
/-- a value's truth by the abstract heap -/
def TruV (K : PySem.W.Frag) (x : V) (H : Hp) (k : Bool) : Prop :=
  match x with
  | .non => k = false
  | .bl b => k = b
  | .int i => k = (i != 0)
  | .str y => y.length ≤ sizeLine ∧ k = ((y.length : Int) != 0)
  | .byt y => y.size ≤ sizeLine ∧ k = ((y.size : Int) != 0)
  | .ref p => (∃ xs, SqL K H p xs ∧ k = !xs.isEmpty) ∨ (∃ xs, SqT K H p xs ∧ k = !xs.isEmpty) ∨ ∃ kvs, H p = some (.dK kvs) ∧ k = !kvs.isEmpty
  | _ => False
theorem line63 : (sizeLine : Nat) < 2 ^ 63 := by rw [sizeLine_eq]; decide
/-! ### strs and bytes -/
def PlainIxT (b : Expr) : Prop := ∀ o i, subscripted b false o i = operate [o, i] (getItem o i)
/-! ### scalar builtins, by CallR -/
theorem vals1 {x : V} {us : List Value} (r : Vals [x] us) : ∃ u, us = [u] ∧ RelV x u := by
  cases r with
  | cons r1 r2 => cases r2; exact ⟨_, rfl, r1⟩
theorem vals2 {x y : V} {us : List Value} (r : Vals [x, y] us) : ∃ u w', us = [u, w'] ∧ RelV x u ∧ RelV y w' := by
  cases r with
  | cons r1 r2 =>
    cases r2 with
    | cons r3 r4 => cases r4; exact ⟨_, _, rfl, r1, r3⟩
theorem call_abs : CallR X (.builtin "abs") (fun xs H Q => ∃ i, xs = [.int i] ∧ Q (.int (if i < 0 then -i else i)) H) := by
  intro pins s σ H xs us Q I r h
  obtain ⟨i, rfl, q⟩ := h
  obtain ⟨u, rfl, t, rfl⟩ := vals1 r
  exact call_abs_int fun u tk => ⟨.int (if i < 0 then -i else i), H, I.tok _, ⟨_, rfl⟩, q⟩
theorem call_int1 : CallR X (.type "int") (fun xs H Q => (∃ i, xs = [.int i] ∧ Q (.int i) H) ∨ ∃ k, xs = [.bl k] ∧ Q (.int (if k then 1 else 0)) H) := by
  intro pins s σ H xs us Q I r h
  rcases h with ⟨i, rfl, q⟩ | ⟨k, rfl, q⟩
  · obtain ⟨u, rfl, t, rfl⟩ := vals1 r
    exact call_int_int ⟨.int i, H, I, ⟨_, rfl⟩, q⟩
  · obtain ⟨u, rfl, r1⟩ := vals1 r
    cases r1
    exact call_int_bool ⟨.int (if k then 1 else 0), H, I.tok _, ⟨_, rfl⟩, q⟩
/-- len of a str, a bytes, a list, a tuple -/
def LenV (K : PySem.W.Frag) (x : V) (H : Hp) (n : Nat) : Prop :=
  match x with
  | .str y => y.length ≤ sizeLine ∧ n = y.length
  | .byt y => y.size ≤ sizeLine ∧ n = y.size
  | .ref p => (∃ xs, SqL K H p xs ∧ n = xs.length) ∨ ∃ xs, SqT K H p xs ∧ n = xs.length
  | _ => False
end
end L2

namespace L2
open PySem PySem.Spec PyProof.Rows

/-! ### an instance, its attributes a map -/
structure ObjM (h : Heap) (x dx C : Addr) (mA : Str → Option Value) : Prop where
  obj : h.get? x = some (PySem.W.instObj C dx)
  ns : h.Ns1 dx mA
  ne : dx ≠ x

theorem lookIn_ns {h : Heap} {dx : Addr} {mA : Str → Option Value} (n : h.Ns1 dx mA) : ∃ od, h.get? dx = some od ∧ ∀ name, PySem.W.lookIn name od = some (mA name) := by
  obtain ⟨o, es, ep, ho, hd, hk, _, hm⟩ := n
  refine ⟨o, ho, fun name => ?_⟩
  have e := hm name
  unfold nsFind findBy at e
  rw [← Array.find?_toList] at e
  unfold PySem.W.lookIn
  rw [hd]
  dsimp only
  split
  · rename_i y q
    rw [q] at e
    exact congrArg some e
  · rename_i q
    rw [q] at e
    have a : es.toList.any (·.refKey) = false := by
      rw [List.any_eq_false]
      intro y hy
      obtain ⟨z, t, hkey⟩ := hk y (Array.mem_toList_iff.mp hy)
      simp [DictEntry.refKey, hkey]
    have a' : ¬ es.toList.any (·.refKey) = true := by rw [a]; exact Bool.false_ne_true
    rw [if_neg a']
    exact congrArg some e

theorem ObjM.look {h : Heap} {x dx C : Addr} {mA : Str → Option Value} (I : ObjM h x dx C mA) : ∃ od, PySem.W.InstAt h x (PySem.W.instObj C dx) C (some od) ∧ ∀ name, PySem.W.lookIn name od = some (mA name) :=
  let ⟨od, ho, hl⟩ := lookIn_ns I.ns
  ⟨od, ⟨I.obj, rfl, rfl, ho⟩, hl⟩

section
variable {prog : Program} {w : World} {A : Around} {E : Value → Shared → Prop} {s : Shared} {K : PySem.W.Frag} {x dx C f : Addr} {mA : Str → Option Value} {name : Str} {v : Value}

theorem get_map {expr : Bool} {Q : Value → Shared → Prop} (X : K.In s.heap) (I : ObjM s.heap x dx C mA) (hg : PySem.W.plainGet K C name = true) (hh : PySem.W.hasDictIn K C = true)
    (ha : PySem.W.findIn K (.ref C) name = some none) (hv : mA name = some v) (hv' : PySem.W.handedIn v = true) (h : Q v { s with toks := s.toks + 1 }) :
    wpAny (model prog w) A (getAttr (.ref x) name expr) Q E s := by
  obtain ⟨od, J, hl⟩ := I.look
  exact PySem.W.get_value X J (PySem.W.plainGet_of hg).1 (PySem.W.findObj_own hh ha rfl (by rw [hl, hv])) hv' h

theorem get_meth {pl : Sem Bool} {Q : Value × List Value → Shared → Prop} (X : K.In s.heap) (I : ObjM s.heap x dx C mA) (hg : PySem.W.plainGet K C name = true)
    (hf : PySem.W.findIn K (.ref C) name = some (some (.ref f))) (ht : PySem.W.isFn K (.ref f) = true) (hv : mA name = none) (h : Q (.ref f, [.ref x]) s) :
    wpAny (model prog w) A (getMethod (.ref x) name pl) Q E s := by
  obtain ⟨od, J, hl⟩ := I.look
  exact PySem.W.method_fn X J (PySem.W.plainGet_of hg).1 (PySem.W.plainGet_of hg).2 hf (beq_iff_eq.mp ht) (by show (PySem.W.lookIn name od).map (·.isSome) = some false; rw [hl, hv]; rfl) h

theorem set_map {ns : List Str} {Q : Unit → Shared → Prop} (X : K.In s.heap) (I : ObjM s.heap x dx C mA)
    (hs : PySem.W.findIn K (.ref C) "__setattr__" = some (some (.builtin "object.__setattr__"))) (hp : PySem.W.plainOver K C = true) (ht : PySem.W.takerIn K C name = some none) (hh : PySem.W.hasDictIn K C = true)
    (hw : PySem.Within mA ns) (hsz : ns.length ≤ sizeLine)
    (h : ∀ h', ObjM h' x dx C (fun y => if y = name then some v else mA y) → Heap.SameBut dx s.heap h' → Q () { s with heap := h', toks := s.toks + 2 }) :
    wpAny (model prog w) A (setAttr (.ref x) name v) Q E s := by
  obtain ⟨od, J, hl⟩ := I.look
  refine PySem.W.set_plain X J hs (PySem.W.osa_open (s := { s with toks := s.toks + 1 }) (r := none) X J hp ht fun b => ?_)
  obtain ⟨cd, hc, hd'⟩ := PySem.W.any_some hh
  have hx : s.heap.get? x = some ⟨.ref C, some dx, .plain, #[]⟩ := I.obj
  refine wpAny_bind (wpAny_pure (wpAny_bind (wpAny_bind (wpAny_loadPart hx (wpAny_bind (PySem.W.Looks.here (s := { s with toks := s.toks + 1 }) (PySem.W.looks_clsIn X hc) ?_))))))
  rw [hd']
  refine wpAny_pure (a := some dx) (wpAny_bind (wpAny_pure (wpAny_bind ?_)))
  refine wpAny_nsSet1 (s := { s with toks := s.toks + 1 }) I.ns fun h' hn2 hs2 => ?_
  obtain ⟨oD, esD, epD, hoD, hdD, hcD⟩ := hn2.count (PySem.Within.cons name v hw)
  refine wpAny_bind (wpAny_lookBehind hoD (by rw [hdD]; exact pastItsLine_dict (Nat.le_trans hcD (by rw [List.length_cons]; omega))) ?_)
  exact wpAny_pure (h _ ⟨(hs2.2 _ (Ne.symm I.ne)).trans I.obj, hn2, I.ne⟩ hs2)

/-- C(..): the dict at the heap's end, the instance behind it; then its __init__ -/
theorem make_map {R : Result → Shared → Prop} {vs : List Value} {kw : List (Str × Value)} (X : K.In s.heap) (hm : PySem.W.makesIn K C = true)
    (hi : PySem.W.findIn K (.ref C) "__init__" = some (some (.ref f))) (hf : PySem.W.typeIn K (.ref f) = some (.type "function"))
    (h : codeAny (model prog w) (A.under (.builtin "type.__call__" ⟨.ref C :: vs, kw⟩)) (.call (.ref f) ⟨.ref (s.heap.objs.size + 1) :: vs, kw⟩) (PySem.W.InitBack (s.heap.objs.size + 1) R)
      { s with heap := (s.heap.push PySem.W.emptyDict).push (PySem.W.instObj C s.heap.objs.size) }) :
    codeAny (model prog w) A (.call (.ref C) ⟨vs, kw⟩) R s := by
  obtain ⟨hh, g, d, t, os⟩ := s
  exact PySem.W.make_core (PySem.W.makes_of X hm) (PySem.W.looks_findIn X hi) (fun self => PySem.W.bind_fn X self hf) (.inl rfl) h
end

/-! ### the attributes as a list of pairs -/
def putF (f : Str) (v : V) : List (Str × V) → List (Str × V)
  | [] => [(f, v)]
  | (g, x) :: r => if g = f then (g, v) :: r else (g, x) :: putF f v r
theorem lookup_putF (f g : Str) (v : V) : ∀ fs : List (Str × V), (putF f v fs).lookup g = if g = f then some v else fs.lookup g
  | [] => by
    show List.lookup g [(f, v)] = _
    by_cases h : g = f
    · have hb : (g == f) = true := beq_iff_eq.mpr h
      simp only [List.lookup, hb, if_pos h]
    · have hb : (g == f) = false := beq_eq_false_iff_ne.mpr h
      simp only [List.lookup, hb, if_neg h]
  | (k, x) :: r => by
    have ih := lookup_putF f g v r
    rw [show putF f v ((k, x) :: r) = (if k = f then (k, v) :: r else (k, x) :: putF f v r) from rfl]
    by_cases hk : k = f
    · rw [if_pos hk]
      by_cases h : g = k
      · have hb : (g == k) = true := beq_iff_eq.mpr h
        simp only [List.lookup, hb, if_pos (h.trans hk)]
      · have hb : (g == k) = false := beq_eq_false_iff_ne.mpr h
        simp only [List.lookup, hb, if_neg (fun e : g = f => h (e.trans hk.symm))]
    · rw [if_neg hk]
      by_cases h : g = k
      · have hb : (g == k) = true := beq_iff_eq.mpr h
        simp only [List.lookup, hb, if_neg (fun e : g = f => hk (h.symm.trans e))]
      · have hb : (g == k) = false := beq_eq_false_iff_ne.mpr h
        simp only [List.lookup, hb]
        exact ih
theorem keys_putF (f : Str) (v : V) : ∀ fs : List (Str × V), f ∈ (putF f v fs).map (·.1) ∧ ∀ g, g ∈ fs.map (·.1) → g ∈ (putF f v fs).map (·.1)
  | [] => ⟨by simp [putF], fun g h => by simp at h⟩
  | (k, x) :: r => by
    obtain ⟨i1, i2⟩ := keys_putF f v r
    rw [show putF f v ((k, x) :: r) = (if k = f then (k, v) :: r else (k, x) :: putF f v r) from rfl]
    by_cases hk : k = f
    · rw [if_pos hk]
      subst hk
      exact ⟨by simp, fun g h => by simpa using h⟩
    · rw [if_neg hk]
      refine ⟨?_, fun g h => ?_⟩
      · rw [List.map_cons]
        exact List.mem_cons_of_mem _ i1
      · rw [List.map_cons] at h ⊢
        rcases List.mem_cons.mp h with e | e
        · exact List.mem_cons.mpr (.inl e)
        · exact List.mem_cons_of_mem _ (i2 g e)
theorem length_putF (f : Str) (v : V) : ∀ fs : List (Str × V), (putF f v fs).length ≤ fs.length + 1
  | [] => by simp [putF]
  | (k, x) :: r => by
    have ih := length_putF f v r
    rw [show putF f v ((k, x) :: r) = (if k = f then (k, v) :: r else (k, x) :: putF f v r) from rfl]
    by_cases hk : k = f
    · rw [if_pos hk, List.length_cons, List.length_cons]; omega
    · rw [if_neg hk, List.length_cons, List.length_cons]; omega

theorem RelO.some_of {v : V} {o : Option Value} (r : RelO (some v) o) : ∃ u, o = some u ∧ RelV v u := by
  cases o with
  | none => exact (show False from r).elim
  | some u => exact ⟨u, rfl, r⟩
theorem RelO.none_of {o : Option Value} (r : RelO none o) : o = none := by
  cases o with
  | none => rfl
  | some u => exact (show False from r).elim
theorem handed_of {v : V} {u : Value} (r : RelV v u) : PySem.W.handedIn u = true := by
  cases v with
  | non => cases (show u = Value.none from r); rfl
  | bl b => cases (show u = Value.bool b from r); rfl
  | int i => obtain ⟨t, e⟩ := (show ∃ t, u = Value.int i t from r); cases e; rfl
  | str x => obtain ⟨t, e⟩ := (show ∃ t, u = Value.str x t from r); cases e; rfl
  | byt b => obtain ⟨t, e⟩ := (show ∃ t, u = Value.bytes b t from r); cases e; rfl
  | flt b => obtain ⟨t, e⟩ := (show ∃ t, u = Value.float b t from r); cases e; rfl
  | ref a => cases (show u = Value.ref a from r); rfl
  | ty n => cases (show u = Value.type n from r); rfl

section
variable {P : Program} {w : World} {H H' : Hp} {h h' : Heap} {a C dx : Addr} {fs fs' : List (Str × V)}
theorem ins_get (hok : HOk P w H h) (e : H a = some (.ins C dx fs)) : ∃ mA, ObjM h a dx C mA ∧ (∀ f, RelO (fs.lookup f) (mA f)) ∧ PySem.Within mA (fs.map (·.1)) ∧ fs.length ≤ 1000 ∧ H dx = some (.own a) := by
  obtain ⟨d, z, ne, ob, mA, n, r, q⟩ := (show ObjOk P w H h a (.ins C dx fs) from hok a _ e)
  exact ⟨mA, ⟨ob, n, ne⟩, r, q, z, d⟩
end

/-! ### what of the text a class must have -/
structure Cls (K : PySem.W.Frag) (C : Addr) : Prop where
  pg : PySem.W.plainGet K C Str.empty = true
  hd : PySem.W.hasDictIn K C = true
  po : PySem.W.plainOver K C = true
  sa : PySem.W.findIn K (.ref C) "__setattr__" = some (some (.builtin "object.__setattr__"))
theorem Cls.get {K : PySem.W.Frag} {C : Addr} (c : Cls K C) (f : Str) : PySem.W.plainGet K C f = true := c.pg
/-- no class of it has the name -/
def NoAttr (K : PySem.W.Frag) (C : Addr) (f : Str) : Prop := PySem.W.findIn K (.ref C) f = some none
theorem NoAttr.taker {K : PySem.W.Frag} {C : Addr} {f : Str} (n : NoAttr K C f) : PySem.W.takerIn K C f = some none := by
  unfold PySem.W.takerIn
  rw [show PySem.W.findIn K (.ref C) f = some none from n]
  rfl
/-- a constant of the class -/
structure Con (K : PySem.W.Frag) (C : Addr) (f : Str) (v : V) (u : Value) : Prop where
  at_ : PySem.W.findIn K (.ref C) f = some (some u)
  rel : RelV v u
  get : PySem.W.specialIn K u "__get__" = some none
  cp : PySem.W.copiedNames.contains f = false
/-- a method: a plain def of the class or of one above it -/
structure Meth (K : PySem.W.Frag) (C : Addr) (m : Str) (f : Addr) : Prop where
  at_ : PySem.W.findIn K (.ref C) m = some (some (.ref f))
  fn : PySem.W.isFn K (.ref f) = true
  kp : PySem.W.keepIn K (.ref f) = true

section
variable {X : Cx} {pins : List (Addr × Obj)} {σ : St} {H : Hp} {s : Shared} {a C dx : Addr} {fs : List (Str × V)} {f : Str} {v : V} {A : Around} {E : Value → Shared → Prop}

theorem getattr_ok {b : Bool} {Q : Value → Shared → Prop} (I : Inv X pins σ H s) (e : H a = some (.ins C dx fs)) (c : Cls X.K C) (n : NoAttr X.K C f) (l : fs.lookup f = some v)
    (h : ∀ u s', Inv X pins σ H s' → RelV v u → Q u s') : wpAny (model X.prog X.w) A (getAttr (.ref a) f b) Q E s := by
  obtain ⟨mA, O, r, _, _, _⟩ := ins_get I.hok e
  obtain ⟨u, hu, ru⟩ := RelO.some_of (v := v) (o := mA f) (by rw [← l]; exact r f)
  exact get_map I.kIn O (c.get f) c.hd n hu (handed_of ru) (h u _ (I.tok _) ru)

theorem getmeth_ok {m : Str} {g : Addr} {pl : Sem Bool} {Q : Value × List Value → Shared → Prop} (I : Inv X pins σ H s) (e : H a = some (.ins C dx fs)) (c : Cls X.K C) (k : Meth X.K C m g) (l : fs.lookup m = none)
    (h : Q (.ref g, [.ref a]) s) : wpAny (model X.prog X.w) A (getMethod (.ref a) m pl) Q E s := by
  obtain ⟨mA, O, r, _, _, _⟩ := ins_get I.hok e
  have hn : mA m = none := RelO.none_of (by rw [← l]; exact r m)
  exact get_meth I.kIn O (c.get m) k.at_ k.fn hn h

theorem setattr_ok {y : V} {u : Value} {Q : Unit → Shared → Prop} (I : Inv X pins σ H s) (e : H a = some (.ins C dx fs)) (c : Cls X.K C) (n : NoAttr X.K C f) (hl : fs.length < 1000) (ry : RelV y u)
    (h : ∀ s', Inv X pins σ (upd H a (.ins C dx (putF f y fs))) s' → Q () s') : wpAny (model X.prog X.w) A (setAttr (.ref a) f u) Q E s := by
  obtain ⟨mA, O, r, wi, _, ho⟩ := ins_get I.hok e
  have hz : (fs.map (·.1)).length ≤ sizeLine := by rw [List.length_map, sizeLine_eq]; omega
  refine set_map I.kIn O c.sa c.po n.taker c.hd wi hz fun h' O' sb => h _ ?_
  have hd : ∃ o, h'.get? dx = some o := let ⟨o, _, _, e', _⟩ := O'.ns; ⟨o, e'⟩
  refine I.write (x := a) (e := dx) (by rw [e]; exact True.intro) (.inr ho) (fun b q hb z => (sb.2 b hb).trans z) hd ?_
  refine ⟨by rw [upd_ne O.ne]; exact ho, ?_, O.ne, O'.obj, _, O'.ns, fun g => ?_, fun g hg => ?_⟩
  · have := length_putF f y fs; omega
  · show RelO ((putF f y fs).lookup g) (if g = f then some u else mA g)
    rw [lookup_putF]
    by_cases q : g = f
    · rw [if_pos q, if_pos q]; exact ry
    · rw [if_neg q, if_neg q]; exact r g
  · by_cases q : g = f
    · rw [q]; exact (keys_putF f y fs).1
    · refine (keys_putF f y fs).2 g (wi g fun z => hg ?_)
      show (if g = f then some u else mA g) = none
      rw [if_neg q]; exact z

/-- a new instance, tracked, without attributes -/
theorem Inv.made (I : Inv X pins σ H s) : Inv X pins σ (upd (upd H s.heap.objs.size (.own (s.heap.objs.size + 1))) (s.heap.objs.size + 1) (.ins C s.heap.objs.size []))
    { s with heap := (s.heap.push PySem.W.emptyDict).push (PySem.W.instObj C s.heap.objs.size) } := by
  have e1 : (s.heap.push PySem.W.emptyDict).get? s.heap.objs.size = some PySem.W.emptyDict := Heap.get?_push_size s.heap rfl
  have e2 : ((s.heap.push PySem.W.emptyDict).push (PySem.W.instObj C s.heap.objs.size)).get? (s.heap.objs.size + 1) = some (PySem.W.instObj C s.heap.objs.size) := by
    have := Heap.get?_push_size (s.heap.push PySem.W.emptyDict) (o := PySem.W.instObj C s.heap.objs.size) rfl
    rwa [Heap.size_push] at this
  have e3 : (s.heap.push PySem.W.emptyDict).Ns s.heap.objs.size (fun _ => none) := ⟨PySem.W.emptyDict, #[], _, e1, rfl, (fun e he => absurd he (by simp)), fun _ => rfl⟩
  have I1 := I.laid (a := s.heap.objs.size) (o := .own (s.heap.objs.size + 1)) (h' := s.heap.push PySem.W.emptyDict) (t' := s.toks) (fun b u q => Heap.get?_push_of_some _ q) (Nat.le_refl _) ⟨_, e1⟩
  refine I1.laid (a := s.heap.objs.size + 1) (o := .ins C s.heap.objs.size []) (t' := s.toks) (fun b u q => Heap.get?_push_of_some _ q) (Nat.le_of_eq (Heap.size_push _ _)) ?_
  have ne : s.heap.objs.size ≠ s.heap.objs.size + 1 := Nat.ne_of_lt (Nat.lt_succ_self _)
  refine ⟨by rw [upd_ne ne, upd_same], Nat.zero_le _, ne, e2, fun _ => none, (Heap.Ns1.of_empty e3).at fun o q => Heap.get?_push_of_some _ q, fun _ => True.intro, fun y hy => absurd rfl hy⟩

/-- e.f where nothing but the object is asked: through attributeBase (super) and the last hold -/
theorem attr_of {prog : Program} {w : World} {env : Env} {e : Expr} {f : Str} {pos : Pos} {s : Shared} {Q : Value → Shared → Prop} (hb : attributeBase e f env (eval e env) = eval e env)
    (h : wpAny (model prog w) A (eval e env) (fun o s₁ => wpAny (model prog w) A (getAttr o f true) Q E s₁) E s) : wpAny (model prog w) A (eval (.Attribute e f pos) env) Q E s :=
  Attribute_any_ h (by rw [arm_eval_Attribute, hb])
end

/-! ### readings and rules -/
/-- e.f, an attribute of the instance -/
def tFld (K : PySem.W.Frag) (ta : TE) (f : Str) : TE := fun σ H Q => ta σ H fun x H1 => ∃ a C dx fs v, x = .ref a ∧ H1 a = some (.ins C dx fs) ∧ Cls K C ∧ NoAttr K C f ∧ fs.lookup f = some v ∧ Q v H1
/-- e.f, a constant of the class -/
def tCon (K : PySem.W.Frag) (ta : TE) (f : Str) : TE := fun σ H Q => ta σ H fun x H1 => ∃ a C dx fs v u, x = .ref a ∧ H1 a = some (.ins C dx fs) ∧ Cls K C ∧ Con K C f v u ∧ fs.lookup f = none ∧ Q v H1
/-- e.f = value -/
def sFld (K : PySem.W.Frag) (ta tv : TE) (f : Str) : TS := fun D σ H => tv σ H fun y H1 => ta σ H1 fun x H2 => ∃ a C dx fs, x = .ref a ∧ H2 a = some (.ins C dx fs) ∧ Cls K C ∧ NoAttr K C f ∧ fs.length < 1000 ∧
  D.nx σ (upd H2 a (.ins C dx (putF f y fs)))
/-- an augmented operator on two values -/
def InOp (X : Cx) (op : Operator) (rd : V → V → Hp → VK → Prop) : Prop :=
  ∀ (pins : List (Addr × Obj)) (s : Shared) (σ : St) (H : Hp) (x y : V) (u v : Value) (Q : VK), Inv X pins σ H s → RelV x u → RelV y v → rd x y H Q → wpAny (model X.prog X.w) X.A (inplaceOp op u v) (EP X pins σ Q) X.xe s
/-- e.f op= value -/
def sFldAug (K : PySem.W.Frag) (ta tv : TE) (rd : V → V → Hp → VK → Prop) (f : Str) : TS := fun D σ H => ta σ H fun x H1 => ∃ a C dx fs v, x = .ref a ∧ H1 a = some (.ins C dx fs) ∧ Cls K C ∧ NoAttr K C f ∧ fs.lookup f = some v ∧
  tv σ H1 fun y H2 => rd v y H2 fun z H3 => ∃ dx' fs', H3 a = some (.ins C dx' fs') ∧ fs'.length < 1000 ∧ D.nx σ (upd H3 a (.ins C dx' (putF f z fs')))

section
variable {X : Cx} {o e value : Expr} {f : Str} {pos pos' tpos : Pos} {ta tv : TE}
theorem pe_fld (he : PE X e ta) (hb : attributeBase e f X.env (eval e X.env) = eval e X.env) : PE X (.Attribute e f pos) (tFld X.K ta f) := by
  intro pins s σ H Q I h
  refine attr_of hb (thn (he pins s σ H _ I h) fun u s1 ⟨x, H1, I1, rx, a, C, dx, fs, v, ex, ea, c, n, l, q⟩ => ?_)
  subst ex
  obtain rfl : u = Value.ref a := rx
  exact getattr_ok I1 ea c n l fun u' s2 I2 ru => ⟨v, H1, I2, ru, q⟩
theorem ps_fld (ha : PE X o ta) (hv : PE X value tv) (hs : swapsWith value (some (.Attribute o f pos')) pos.line X.env = pure false) : PS X (.Assign [.Attribute o f pos'] value pos) (sFld X.K ta tv f) := by
  intro pins s σ H D I h
  refine plainObj_wpAny_Assign_Attribute (thn (hv pins s σ H _ I h) fun u s1 ⟨y, H1, I1, ry, q⟩ => thn (ha pins s1 σ H1 _ I1 q) fun ov s2 ⟨x, H2, I2, rx, a, C, dx, fs, ex, ea, c, n, l, q2⟩ => ?_) hs
  subst ex
  obtain rfl : ov = Value.ref a := rx
  exact setattr_ok I2 ea c n l ry fun s3 I3 => ⟨σ, _, I3, q2⟩
def rAdd : V → V → Hp → VK → Prop := fun x y H Q => ∃ i j, x = .int i ∧ y = .int j ∧ Q (.int (i + j)) H
def rSub : V → V → Hp → VK → Prop := fun x y H Q => ∃ i j, x = .int i ∧ y = .int j ∧ Q (.int (i - j)) H
end

/-! ### isinstance -/
section
variable {X : Cx} {pins : List (Addr × Obj)} {σ : St} {H : Hp} {s : Shared} {A : Around} {E : Value → Shared → Prop} {Q : Value → Shared → Prop} {c : Value} {b : Bool}
/-- the type of a value, as the fragment's deciders take it; for an instance its class -/
inductive TyOf (K : PySem.W.Frag) (H : Hp) : V → Value → Prop where
  | non : TyOf K H .non (.type "NoneType")
  | bl (x : Bool) : TyOf K H (.bl x) (.type "bool")
  | int (i : Int) : TyOf K H (.int i) (.type "int")
  | str (x : Str) : TyOf K H (.str x) (.type "str")
  | flt (x : UInt64) : TyOf K H (.flt x) (.type "float")
  | lst {a : Addr} {xs : List V} (e : H a = some (.lst xs)) : TyOf K H (.ref a) (.type "list")
  | frz {a : Addr} {o : Obj} {xs : List V} (e : H a = some (.frz o (.lst xs))) : TyOf K H (.ref a) (.type "list")
  | tup {a : Addr} {xs : List V} (e : H a = some (.tup xs)) : TyOf K H (.ref a) (.type "tuple")
  | dK {a : Addr} {kvs : List (Key × V)} (e : H a = some (.dK kvs)) : TyOf K H (.ref a) (.type "dict")
  | dT {a : Addr} {kvs : List (List Key × V)} (e : H a = some (.dT kvs)) : TyOf K H (.ref a) (.type "dict")
  | ins {a C dx : Addr} {fs : List (Str × V)} (e : H a = some (.ins C dx fs)) (cl : Cls K C) (ha : PySem.W.findIn K (.ref C) "__class__" = some (some (.builtin "object.__class__")))
      (hn : PySem.W.specialIn K (.builtin "object.__class__") "__get__" = some (some (.builtin "getset_descriptor.__get__"))) (htk : PySem.W.takesIn K (.builtin "object.__class__") = some true)
      (hm : PySem.W.mroIn K C (.type "object") = some true) : TyOf K H (.ref a) (.ref C)
/-- isinstance(x, c) for one class c, a built-in or an own one: kitOne's answer -/
theorem isinst_ok {x : V} {u t : Value} (I : Inv X pins σ H s) (rx : RelV x u) (ty : TyOf X.K H x t) (e : PySem.W.kitOne X.K t c = some b) (h : ∀ tk, Q (.bool b) { s with toks := tk }) :
    wpAny (model X.prog X.w) A (call (.builtin "isinstance") [u, c]) Q E s := by
  cases ty with
  | non => cases (show u = Value.none from rx); exact PySem.W.kia_one PySem.W.kitx_none I.kIn True.intro e (fun z => nomatch z) h
  | bl y => cases (show u = Value.bool y from rx); exact PySem.W.kia_one PySem.W.kitx_bool I.kIn True.intro e (fun z => nomatch z) h
  | int i => obtain ⟨t, q⟩ := (show ∃ t, u = Value.int i t from rx); cases q; exact PySem.W.kia_one PySem.W.kitx_int I.kIn True.intro e (fun z => nomatch z) h
  | str y => obtain ⟨t, q⟩ := (show ∃ t, u = Value.str y t from rx); cases q; exact PySem.W.kia_one PySem.W.kitx_str I.kIn True.intro e (fun z => nomatch z) h
  | flt y => obtain ⟨t, q⟩ := (show ∃ t, u = Value.float y t from rx); cases q; exact PySem.W.kia_one PySem.W.kitx_float I.kIn True.intro e (fun z => nomatch z) h
  | @lst a xs ea =>
    cases (show u = Value.ref a from rx)
    obtain ⟨_, _, n, _, h1⟩ := (show ObjOk X.prog X.w H s.heap a (.lst xs) from I.hok a _ ea)
    exact PySem.W.kia_one PySem.W.kitx_list I.kIn ⟨_, h1, rfl⟩ e (fun z => nomatch z) h
  | @frz a ob xs ea =>
    cases (show u = Value.ref a from rx)
    obtain ⟨_, _, _, n, _, h1⟩ := (show ObjOk X.prog X.w H s.heap a (.frz ob (.lst xs)) from I.hok a _ ea)
    exact PySem.W.kia_one PySem.W.kitx_list I.kIn ⟨_, h1, rfl⟩ e (fun z => nomatch z) h
  | @tup a xs ea =>
    cases (show u = Value.ref a from rx)
    obtain ⟨_, _, _, p⟩ := (show ObjOk X.prog X.w H s.heap a (.tup xs) from I.hok a _ ea)
    obtain ⟨o, h1, h2, _⟩ := p
    exact PySem.W.kia_one PySem.W.kitx_tuple I.kIn ⟨o, h1, h2⟩ e (fun z => nomatch z) h
  | @dK a kvs ea =>
    cases (show u = Value.ref a from rx)
    obtain ⟨_, _, vs, _, p⟩ := (show ObjOk X.prog X.w H s.heap a (.dK kvs) from I.hok a _ ea)
    obtain ⟨o, es, ep, h1, h2, _⟩ := p
    exact PySem.W.kia_one PySem.W.kitx_dict I.kIn ⟨o, h1, h2.1⟩ e (fun z => nomatch z) h
  | @dT a kvs ea =>
    cases (show u = Value.ref a from rx)
    obtain ⟨_, _, xs, _, o, es, ep, h1, h2, _⟩ := (show ObjOk X.prog X.w H s.heap a (.dT kvs) from I.hok a _ ea)
    exact PySem.W.kia_one PySem.W.kitx_dict I.kIn ⟨o, h1, h2.1⟩ e (fun z => nomatch z) h
  | @ins a C dx fs ea cl ha hn htk hm =>
    cases (show u = Value.ref a from rx)
    obtain ⟨mA, O, _⟩ := ins_get I.hok ea
    obtain ⟨od, J, _⟩ := O.look
    exact PySem.W.kia_one (PySem.W.kitx_own (cl.get _) cl.hd ha hn htk hm) I.kIn J e (fun z => nomatch z) h
end
end L2

namespace L2
open PySem PySem.Spec PyProof.Rows

/-! ### room -/
structure Room (k : Nat) (A : Around) : Prop where
  hd : A.handled = none
  dp : A.depth + 3 * k + 5 < recursionLimit
  un : A.units + 16 * k + 200 < cLine
theorem Room.mono {j k : Nat} {A : Around} (r : Room k A) (h : j ≤ k) : Room j A := ⟨r.hd, by have := r.dp; omega, by have := r.un; omega⟩
theorem Room.deeper {k : Nat} {A : Around} (r : Room (k + 1) A) (env : Env) : Room k (A.deeper env) :=
  ⟨r.hd, by have := r.dp; show A.depth + 1 + 3 * k + 5 < _; omega, by have := r.un; show A.units + 3 + 16 * k + 200 < _; omega⟩
theorem make_depth {A : Around} {C : Addr} {us : List Value} {kw : List (Str × Value)} : (A.under (.builtin "type.__call__" ⟨.ref C :: us, kw⟩)).depth = A.depth + 1 := by
  first | rfl | simp [Around.under, Code.weight, Code.isCreation, Code.isGuard, Code.isCaller, Code.frames, Code.isFrame, guardIds]
theorem make_units {A : Around} {C : Addr} {us : List Value} {kw : List (Str × Value)} : (A.under (.builtin "type.__call__" ⟨.ref C :: us, kw⟩)).units = A.units + 1 := by
  first | rfl | simp [Around.under, Code.cUnits, Code.frames, Code.isFrame]
theorem Room.make {k : Nat} {A : Around} (r : Room (k + 1) A) (C : Addr) (us : List Value) (kw : List (Str × Value)) : Room k (A.under (.builtin "type.__call__" ⟨.ref C :: us, kw⟩)) :=
  ⟨r.hd, by have := r.dp; rw [make_depth]; omega, by have := r.un; rw [make_units]; omega⟩
theorem Room.depth {k : Nat} {A : Around} (r : Room k A) : A.depth < recursionLimit := by have := r.dp; omega
theorem Room.units {k : Nat} {A : Around} (r : Room k A) : A.units + 64 < cLine := by have := r.un; omega
/-! ### argument lists and displays -/
def tNil : TA := fun _ H Q => Q [] H
def tCons (ta : TE) (tr : TA) : TA := fun σ H Q => ta σ H fun x H1 => tr σ H1 fun xs H2 => Q (x :: xs) H2
section
variable {X : Cx} {e : Expr} {es : List Expr} {te : TE} {t : TA} {pos : Pos}
theorem pa_nil : PA X [] tNil := fun _ _ _ _ H Q I h => Calls.spliced_nil ⟨[], H, I, .nil, h⟩
theorem pa_cons (ha : PE X e te) (hr : PA X es t) (hs : starEach (e :: es) X.env = (false, eval e X.env) :: starEach es X.env := by rfl) : PA X (e :: es) (tCons te t) := by
  intro pos pins s σ H Q I h
  rw [hs]
  show wpAny _ _ (spliced ((false, eval e X.env) :: backTo pos (starEach es X.env))) _ _ s
  refine Calls.spliced_cons (thn (ha pins s σ H _ I h) fun u s1 ⟨x, H1, I1, r1, q1⟩ => ?_)
  exact thn (hr pos pins s1 σ H1 _ I1 q1) fun us s2 ⟨xs, H2, I2, r2, q2⟩ => ⟨x :: xs, H2, I2, .cons r1 r2, q2⟩

/-- a tuple, a list of written items -/
def tTup (t : TA) : TE := fun σ H Q => t σ H fun xs H1 => xs.length ≤ sizeLine ∧ ∀ p, H1 p = none → Q (.ref p) (upd H1 p (.tup xs))
def tLst (t : TA) : TE := fun σ H Q => t σ H fun xs H1 => xs.length ≤ sizeLine ∧ ∀ p, H1 p = none → Q (.ref p) (upd H1 p (.lst xs))
theorem pe_tup {x1} (h : PA X es t) : PE X (.Tuple es x1 pos) (tTup t) := by
  intro pins s σ H Q I hq
  refine wpAny_Tuple_spliced (thn (h pos pins s σ H _ I hq) fun us s1 ⟨xs, H1, I1, r, z, q⟩ => ⟨by rw [← r.length]; exact z, ?_⟩)
  have hf : H1 s1.heap.objs.size = none := I1.hok.fresh (Nat.le_refl _)
  refine ⟨.ref s1.heap.objs.size, upd H1 s1.heap.objs.size (.tup xs), I1.laid (t' := s1.toks) (fun b u e => Heap.get?_push_of_some _ e) (Nat.le_refl _) ?_, rfl, q _ hf⟩
  exact ⟨z, us, r, ⟨_, Heap.get?_push_size _ rfl, rfl, _, rfl⟩⟩
theorem pe_lst (h : PA X es t) : PE X (.List es pos) (tLst t) := by
  intro pins s σ H Q I hq
  refine wpAny_List_spliced (thn (h pos pins s σ H _ I hq) fun us s1 ⟨xs, H1, I1, r, z, q⟩ => ⟨by rw [← r.length]; exact z, ?_⟩)
  have hf : H1 s1.heap.objs.size = none := I1.hok.fresh (Nat.le_refl _)
  refine ⟨.ref s1.heap.objs.size, upd H1 s1.heap.objs.size (.lst xs), I1.laid (t' := s1.toks) (fun b u e => Heap.get?_push_of_some _ e) (Nat.le_refl _) ?_, rfl, q _ hf⟩
  exact ⟨z, us, 0, r, Heap.get?_push_size _ rfl⟩
end

/-! ### what a def promises -/
/-- a def's promise: the bound arguments in the parameters' order, the heap, the wanted end, the wanted exception -/
abbrev Sp := List V → Hp → VK → XK → Prop
/-- how an exception lies behind a call (file 08 gives it): the callers' frames, abstract heap and state ahead of the call, the wish, the exception, the state -/
abbrev CXT := List Env → Hp → Shared → XK → Value → Shared → Prop

/-- the state at a call -/
structure Env0 (P : Program) (w : World) (K : PySem.W.Frag) (mg : Str → Option Value) (base : Heap) (A : Around) (outer : List Env) (s : Shared) (H : Hp) : Prop where
  frames : A.frames = some outer
  mod : Mod K mg base
  bs : ∀ b o, base.get? b = some o → s.heap.get? b = some o ∧ H b = none
  bsz : base.objs.size ≤ s.heap.objs.size
  funs : s.heap.FunFrames base outer
  frf : ∀ b ∈ frs outer, H b = none
  hok : HOk P w H s.heap
  bare : AllBare s.gens
/-- a call's end -/
def CE (outer : List Env) (P : Program) (w : World) (H : Hp) (s : Shared) (Q : VK) (u : Value) (s' : Shared) : Prop :=
  ∃ v H', s'.os = s.os ∧ AllBare s'.gens ∧ Un (frs outer) [] H H' s.heap s'.heap ∧ HOk P w H' s'.heap ∧ RelV v u ∧ Q v H'
def CR (CX : CXT) (outer : List Env) (P : Program) (w : World) (H : Hp) (s : Shared) (Q : VK) (E : XK) (r : Result) (s' : Shared) : Prop :=
  match r with
  | .ok (.ret u) => CE outer P w H s Q u s'
  | .ok _ => False
  | .error e => CX outer H s E e s'
structure FnOk (P : Program) (w : World) (K : PySem.W.Frag) (mg : Str → Option Value) (base : Heap) (CX : CXT) (k : Nat) (f : Addr) (fd : FuncData) (ps : List Str) (sp : Sp) : Prop where
  len : ∀ vs H Q E, sp vs H Q E → vs.length = ps.length
  run : ∀ (A : Around) (outer : List Env) (s : Shared) (H : Hp) (args : Args) (us : List Value) (vs : List V) (Q : VK) (E : XK), Room k A → Env0 P w K mg base A outer s H → BindsTo s fd args (ps.zip us) → Vals vs us → sp vs H Q E →
    codeAny (model P w) A (.call (.ref f) args) (CR CX outer P w H s Q E) s
theorem Env0.make {P : Program} {w : World} {K : PySem.W.Frag} {mg : Str → Option Value} {base : Heap} {A : Around} {outer : List Env} {s : Shared} {H : Hp} (e : Env0 P w K mg base A outer s H) (C : Addr) (us : List Value) (kw : List (Str × Value)) :
    Env0 P w K mg base (A.under (.builtin "type.__call__" ⟨.ref C :: us, kw⟩)) outer s H := ⟨by first | exact e.frames | (simpa [Around.under, Code.envs, Code.isFrame, pushEnvs] using e.frames), e.mod, e.bs, e.bsz, e.funs, e.frf, e.hok, e.bare⟩
section
variable {X : Cx} {pins : List (Addr × Obj)} {σ : St} {H : Hp} {s s' : Shared}
/-- from a body: what a callee wants -/
theorem Inv.env0 (I : Inv X pins σ H s) : Env0 X.prog X.w X.K X.mg X.base X.A X.stack s H :=
  ⟨I.ok.frames, I.ok.mod, I.bs, Nat.le_trans I.ok.bsz I.sz, I.stack, I.stkFree, I.hok, I.bare⟩
/-- behind a call -/
theorem Inv.after {Q : VK} {u : Value} (I : Inv X pins σ H s) (h : CE X.stack X.prog X.w H s Q u s') : EP X pins σ Q u s' := by
  obtain ⟨v, H', os, bare, un, hok, r, q⟩ := h
  obtain ⟨hh, g, d, t, os'⟩ := s'
  obtain rfl : os' = s.os := os
  exact ⟨v, H', I.call (h' := hh) (g' := g) (d' := d) (t' := t) (ch := []) un hok bare (fun b z => absurd z (by simp)), r, q⟩
end

/-! ### calls -/
/-- f(..): the written arguments, then the defaults dvs; E: what is wanted of an exception -/
def tCall (sp : Sp) (dvs : List V) (E : XK) (t : TA) : TE := fun σ H Q => t σ H fun vs H1 => sp (vs ++ dvs) H1 Q E
/-- o.m(..) of an instance of the class at C -/
def tMeth (C : Addr) (m : Str) (sp : Sp) (dvs : List V) (E : XK) (ta : TE) (t : TA) : TE := fun σ H Q => ta σ H fun x H1 => ∃ a dx fs, x = .ref a ∧ H1 a = some (.ins C dx fs) ∧ fs.lookup m = none ∧
  t σ H1 fun vs H2 => sp (x :: (vs ++ dvs)) H2 Q E
/-- C(..): a new instance and its dict, then __init__ -/
def tMake (C : Addr) (sp : Sp) (dvs : List V) (E : XK) (t : TA) : TE := fun σ H Q => t σ H fun vs H1 => ∀ x dx, H1 x = none → H1 dx = none → dx ≠ x →
  sp (.ref x :: (vs ++ dvs)) (upd (upd H1 dx (.own x)) x (.ins C dx [])) (fun v H2 => v = .non ∧ Q (.ref x) H2) E

/-- how the parameters are bound: us the positional arguments, kw the keywords' values by name, ds the defaults that fill up -/
def Binds (K : PySem.W.Frag) (fd : FuncData) (ps : List Str) (ds : List Value) : Prop :=
  ∀ (s : Shared) (us : List Value), K.In s.heap → (us ++ ds).length = ps.length → BindsTo s fd ⟨us, []⟩ (ps.zip (us ++ ds))
/-- every parameter is given -/
theorem Binds.all {K : PySem.W.Frag} {fd : FuncData} {ps : List Str} (h : ∀ us : List Value, us.length = ps.length → bindArgs fd ⟨us, []⟩ = pure (ps.zip us)) : Binds K fd ps [] := fun s us _ hl => by
  rw [List.append_nil] at hl ⊢
  exact .of_eq (h us hl)

/-- an exception of a callee reaches what this body wants of exceptions -/
def Passes (CX : CXT) (X : Cx) (E : XK) : Prop := ∀ (pins : List (Addr × Obj)) (σ : St) (H : Hp) (s : Shared) (e : Value) (s' : Shared), Inv X pins σ H s → CX X.stack H s E e s' → X.xe e s'

section
variable {X : Cx} {CX : CXT} {k : Nat} {f C : Addr} {fd : FuncData} {ps : List Str} {sp : Sp} {dvs : List V} {ds : List Value} {E : XK} {x m : Str} {p pos apos : Pos} {e o : Expr} {es : List Expr} {ta : TE} {t : TA}

/-- the callee runs -/
theorem run_fn {pins : List (Addr × Obj)} {σ : St} {H : Hp} {s : Shared} {Q : VK} {us : List Value} {vs : List V} (F : FnOk X.prog X.w X.K X.mg X.base CX k f fd ps sp) (hr : Room k X.A) (hb : Binds X.K fd ps ds) (hd : Vals dvs ds) (hx : Passes CX X E)
    (I : Inv X pins σ H s) (r : Vals vs us) (h : sp (vs ++ dvs) H Q E) : wpAny (model X.prog X.w) X.A (call (.ref f) us) (EP X pins σ Q) X.xe s := by
  have r2 : Vals (vs ++ dvs) (us ++ ds) := r.append hd
  have hl : (us ++ ds).length = ps.length := by rw [← r2.length]; exact F.len _ _ _ _ h
  refine wpAny_call (codeAny_mono (F.run X.A X.stack s H ⟨us, []⟩ (us ++ ds) (vs ++ dvs) Q E hr I.env0 (hb s us I.kIn hl) r2 h) fun r s' hq => ?_)
  cases r with
  | error e => exact hx pins σ H s e s' I hq
  | ok fl =>
    cases fl with
    | ret u => exact I.after hq
    | next => exact False.elim hq
    | brk => exact False.elim hq
    | cont => exact False.elim hq

theorem pe_call (F : FnOk X.prog X.w X.K X.mg X.base CX k f fd ps sp) (hr : Room k X.A) (hg : Gl X x) (hm : X.mg x = some (.ref f)) (hk : PySem.W.keepIn X.K (.ref f) = true) (hb : Binds X.K fd ps ds) (hd : Vals dvs ds) (hx : Passes CX X E)
    (ha : PA X (e :: es) t) (hdb : (x == ("__debug__" : Str)) = false := by decide) (he : starEach (e :: es) X.env = (false, eval e X.env) :: starEach es X.env := by rfl) (hpl : (backTo pos (starEach es X.env)).any (·.1) = false := by rfl) :
    PE X (.Call (.Name x p) (e :: es) [] pos) (tCall sp dvs E t) := by
  intro pins s σ H Q I h
  refine wpAny_Call_Name_kw (ld_glob I hg hm ?_ hdb)
  refine PySem.W.callWith_K (h₀ := X.base) I.ok.mod.kin hk (thn (ha pos pins s σ H _ I h) fun us s1 ⟨vs, H1, I1, r, q⟩ => ⟨I1.kIn, ?_⟩) he hpl
  exact run_fn F hr hb hd hx I1 r q
/-- o.m(e, ..) -/
theorem pe_meth {pl : Sem Bool} (he : PE X o ta) (c : Cls X.K C) (hm : Meth X.K C m f) (F : FnOk X.prog X.w X.K X.mg X.base CX k f fd ps sp) (hr : Room k X.A) (hb : Binds X.K fd ps ds) (hd : Vals dvs ds) (hx : Passes CX X E) (ha : PA X (e :: es) t)
    (hst : starEach (e :: es) X.env = (false, eval e X.env) :: starEach es X.env := by rfl) (hpl : (backTo pos (starEach es X.env)).any (·.1) = false := by rfl)
    (ht : eval (.Call (.Attribute o m apos) (e :: es) [] pos) X.env = (do
      let ov ← eval o X.env
      standAt apos.atName
      let (f, first) ← holding [ov] (getMethod ov m pl)
      callWith pos f first (backTo pos (starEach (e :: es) X.env)) (backToKw pos (keywordEach [] X.env))) := by rfl) :
    PE X (.Call (.Attribute o m apos) (e :: es) [] pos) (tMeth C m sp dvs E ta t) := by
  intro pins s σ H Q I h
  refine PySem.W.methodCall_KW (pl := pl) (thn (he pins s σ H _ I h) fun u s1 ⟨x, H1, I1, rx, a, dx, fs, ex, ea, l, q⟩ => ?_) ht
  subst ex
  obtain rfl : u = Value.ref a := rx
  refine getmeth_ok I1 ea c hm l ?_
  refine PySem.W.callWith_K (first := [.ref a]) (h₀ := X.base) I.ok.mod.kin hm.kp (thn (ha pos pins s1 σ H1 _ I1 q) fun us s2 ⟨vs, H2, I2, r, q2⟩ => ⟨I2.kIn, ?_⟩) hst hpl
  exact run_fn (us := .ref a :: us) (vs := .ref a :: vs) F hr hb hd hx I2 (.cons rfl r) q2
/-- o.m() -/
theorem pe_meth0 {pl : Sem Bool} (he : PE X o ta) (c : Cls X.K C) (hm : Meth X.K C m f) (F : FnOk X.prog X.w X.K X.mg X.base CX k f fd ps sp) (hr : Room k X.A) (hb : Binds X.K fd ps ds) (hd : Vals dvs ds) (hx : Passes CX X E)
    (ht : eval (.Call (.Attribute o m apos) [] [] pos) X.env = (do
      let ov ← eval o X.env
      standAt apos.atName
      let (f, first) ← holding [ov] (getMethod ov m pl)
      callWith pos f first (backTo pos (starEach [] X.env)) (backToKw pos (keywordEach [] X.env))) := by rfl) :
    PE X (.Call (.Attribute o m apos) [] [] pos) (tMeth C m sp dvs E ta tNil) := by
  intro pins s σ H Q I h
  refine PySem.W.methodCall_KW (pl := pl) (thn (he pins s σ H _ I h) fun u s1 ⟨x, H1, I1, rx, a, dx, fs, ex, ea, l, q⟩ => ?_) ht
  subst ex
  obtain rfl : u = Value.ref a := rx
  refine getmeth_ok I1 ea c hm l ?_
  exact PySem.W.callWith_K0 (first := [.ref a]) I1.kIn hm.kp (run_fn (us := [.ref a]) (vs := [.ref a]) F hr hb hd hx I1 (.cons rfl .nil) q)

/-- what a class must have to be made -/
structure Mk (K : PySem.W.Frag) (C f : Addr) : Prop where
  makes : PySem.W.makesIn K C = true
  init : PySem.W.findIn K (.ref C) "__init__" = some (some (.ref f))
  fn : PySem.W.isFn K (.ref f) = true
  kp : PySem.W.keepIn K (.ref C) = true

theorem run_make {pins : List (Addr × Obj)} {σ : St} {H : Hp} {s : Shared} {Q : VK} {us : List Value} {vs : List V} (M : Mk X.K C f) (F : FnOk X.prog X.w X.K X.mg X.base CX k f fd ps sp) (hr : Room (k + 1) X.A) (hb : Binds X.K fd ps ds) (hd : Vals dvs ds)
    (hx : Passes CX X E) (I : Inv X pins σ H s) (r : Vals vs us)
    (h : ∀ x dx, H x = none → H dx = none → dx ≠ x → sp (.ref x :: (vs ++ dvs)) (upd (upd H dx (.own x)) x (.ins C dx [])) (fun v H2 => v = .non ∧ Q (.ref x) H2) E) :
    wpAny (model X.prog X.w) X.A (call (.ref C) us) (EP X pins σ Q) X.xe s := by
  have hq := h (s.heap.objs.size + 1) s.heap.objs.size (I.hok.fresh (Nat.le_succ _)) (I.hok.fresh (Nat.le_refl _)) (Nat.ne_of_lt (Nat.lt_succ_self _))
  have I2 := Inv.made (C := C) I
  have r2 : Vals (V.ref (s.heap.objs.size + 1) :: (vs ++ dvs)) (Value.ref (s.heap.objs.size + 1) :: (us ++ ds)) := .cons rfl (r.append hd)
  have hl : (Value.ref (s.heap.objs.size + 1) :: us ++ ds).length = ps.length := by
    have e := r2.length
    rw [F.len _ _ _ _ hq] at e
    exact e.symm
  refine wpAny_call (make_map (f := f) I.kIn M.makes M.init (beq_iff_eq.mp M.fn) (codeAny_mono (F.run _ X.stack _ _ ⟨Value.ref (s.heap.objs.size + 1) :: us, []⟩ (Value.ref (s.heap.objs.size + 1) :: (us ++ ds)) _ _ E (hr.make C us [])
    (I2.env0.make C us []) (hb _ (Value.ref (s.heap.objs.size + 1) :: us) I2.kIn hl) r2 hq) fun r s' hq' => ?_))
  cases r with
  | error e => exact hx pins σ _ _ e s' I2 hq'
  | ok fl =>
    cases fl with
    | ret u =>
      obtain ⟨v, H', I3, rv, ev, q3⟩ := I2.after hq'
      subst ev
      exact ⟨rv, ⟨V.ref (s.heap.objs.size + 1), H', I3, rfl, q3⟩⟩
    | next => exact False.elim hq'
    | brk => exact False.elim hq'
    | cont => exact False.elim hq'
theorem pe_make (M : Mk X.K C f) (F : FnOk X.prog X.w X.K X.mg X.base CX k f fd ps sp) (hr : Room (k + 1) X.A) (hg : Gl X x) (hm : X.mg x = some (.ref C)) (hb : Binds X.K fd ps ds) (hd : Vals dvs ds) (hx : Passes CX X E)
    (ha : PA X (e :: es) t) (hdb : (x == ("__debug__" : Str)) = false := by decide) (he : starEach (e :: es) X.env = (false, eval e X.env) :: starEach es X.env := by rfl) (hpl : (backTo pos (starEach es X.env)).any (·.1) = false := by rfl) :
    PE X (.Call (.Name x p) (e :: es) [] pos) (tMake C sp dvs E t) := by
  intro pins s σ H Q I h
  refine wpAny_Call_Name_kw (ld_glob I hg hm ?_ hdb)
  refine PySem.W.callWith_K (h₀ := X.base) I.ok.mod.kin M.kp (thn (ha pos pins s σ H _ I h) fun us s1 ⟨vs, H1, I1, r, q⟩ => ⟨I1.kIn, ?_⟩) he hpl
  exact run_make M F hr hb hd hx I1 r q
end

/-! ### keywords -/
/-- the values of the keywords, from the left -/
def PK (X : Cx) (kws : List Keyword) (t : TA) : Prop :=
  ∀ (pos : Pos) (pins : List (Addr × Obj)) (s : Shared) (σ : St) (H : Hp) (Q : List V → Hp → Prop), Inv X pins σ H s → t σ H Q → wpAny (model X.prog X.w) X.A (evalAll ((backToKw pos (keywordEach kws X.env)).map (·.2))) (AP X pins σ Q) X.xe s
section
variable {X : Cx} {CX : CXT} {k : Nat} {f C : Addr} {fd : FuncData} {ps ks : List Str} {sp : Sp} {E : XK} {x m : Str} {p pos apos kpos : Pos} {e o : Expr} {es : List Expr} {kws : List Keyword} {te ta : TE} {t tk : TA} {nm : Option Str}
/-- how a call with keywords binds: g puts the positional values us and the keywords' values ws (names ks) in the parameters' order, defaults among them -/
structure KBinds (K : PySem.W.Frag) (fd : FuncData) (ps ks : List Str) (g : List Value → List Value → List Value) (gV : List V → List V → List V) : Prop where
  to : ∀ (s : Shared) (us ws : List Value), K.In s.heap → (g us ws).length = ps.length → BindsTo s fd ⟨us, ks.zip ws⟩ (ps.zip (g us ws))
  rel : ∀ {vs : List V} {us : List Value} {zs : List V} {ws : List Value}, Vals vs us → Vals zs ws → Vals (gV vs zs) (g us ws)
def tCallK (sp : Sp) (gV : List V → List V → List V) (E : XK) (t tk : TA) : TE := fun σ H Q => t σ H fun vs H1 => tk σ H1 fun zs H2 => sp (gV vs zs) H2 Q E
variable {g : List Value → List Value → List Value} {gV : List V → List V → List V}
end

/-! ### a def's body keeps its promise -/
/-- names: the parameters first -/
structure FnScope (N P : List Str) (sc : Scope) : Prop where
  kind : sc.kind = .function
  co : sc.isCoroutine = false
  gen : sc.isGenerator = false
  nd : N.Nodup
  pre : N.take P.length = P
  par : ∀ x ∈ P, sc.names.lookup x = some .local ∨ sc.names.lookup x = some .cell
  nofree : ∀ y ∈ sc.names, y.2 ≠ .free

theorem bindL_out {kindOf : Str → Option NameKind} {x : Str} : ∀ {binds : List (Str × Value)} {m : Str → Option Value}, (∀ v, (x, v) ∉ binds) → bindL kindOf binds m x = m x
  | [], _, _ => rfl
  | (n, v) :: r, m, h => by
    unfold bindL
    rw [bindL_out fun w hw => h w (List.mem_cons_of_mem _ hw)]
    split
    · have : x ≠ n := by rintro rfl; exact h v List.mem_cons_self
      simp [this]
    · rfl
theorem bindC_out {kindOf : Str → Option NameKind} {x : Str} : ∀ {binds : List (Str × Value)} {m : Str → Option Value}, (∀ v, (x, v) ∉ binds) → bindC kindOf binds m x = m x
  | [], _, _ => rfl
  | (n, v) :: r, m, h => by
    unfold bindC
    rw [bindC_out fun w hw => h w (List.mem_cons_of_mem _ hw)]
    split
    · rfl
    · have : x ≠ n := by rintro rfl; exact h v List.mem_cons_self
      simp [this]
theorem bindL_get {kindOf : Str → Option NameKind} {x : Str} {v : Value} : ∀ {P : List Str} {vs : List Value} {i : Nat} {m : Str → Option Value}, P.Nodup → P[i]? = some x → vs[i]? = some v → kindOf x = some .local →
    bindL kindOf (P.zip vs) m x = some v
  | [], _, _, _, _, h, _, _ => by simp at h
  | _ :: _, [], _, _, _, _, h, _ => by simp at h
  | p :: P, w :: vs, 0, m, nd, h1, h2, hk => by
    simp at h1 h2; subst h1; subst h2
    show bindL kindOf ((p, w) :: P.zip vs) m p = _
    unfold bindL
    rw [bindL_out fun v hv => (List.nodup_cons.mp nd).1 (List.of_mem_zip hv).1, if_pos hk]
    simp
  | p :: P, w :: vs, i + 1, m, nd, h1, h2, hk => by
    show bindL kindOf ((p, w) :: P.zip vs) m x = _
    unfold bindL
    exact bindL_get (i := i) (List.nodup_cons.mp nd).2 (by simpa using h1) (by simpa using h2) hk
theorem bindC_get {kindOf : Str → Option NameKind} {x : Str} {v : Value} : ∀ {P : List Str} {vs : List Value} {i : Nat} {m : Str → Option Value}, P.Nodup → P[i]? = some x → vs[i]? = some v → kindOf x ≠ some .local →
    bindC kindOf (P.zip vs) m x = some v
  | [], _, _, _, _, h, _, _ => by simp at h
  | _ :: _, [], _, _, _, _, h, _ => by simp at h
  | p :: P, w :: vs, 0, m, nd, h1, h2, hk => by
    simp at h1 h2; subst h1; subst h2
    show bindC kindOf ((p, w) :: P.zip vs) m p = _
    unfold bindC
    rw [bindC_out fun v hv => (List.nodup_cons.mp nd).1 (List.of_mem_zip hv).1, if_neg hk]
    simp
  | p :: P, w :: vs, i + 1, m, nd, h1, h2, hk => by
    show bindC kindOf ((p, w) :: P.zip vs) m x = _
    unfold bindC
    exact bindC_get (i := i) (List.nodup_cons.mp nd).2 (by simpa using h1) (by simpa using h2) hk

/-- the names' values at the entry -/
def start (N : List Str) (vs : List V) : St := vs.map some ++ List.replicate (N.length - vs.length) none

/-- the context of a def's body, at its entry; an exception leaves the frame, then lies as CX says -/
def cxOf (CX : CXT) (P : Program) (w : World) (K : PySem.W.Frag) (mg : Str → Option Value) (base : Heap) (N : List Str) (qual : Str) (scope : Scope) (f : Addr) (cd : Value) (A : Around) (outer : List Env) (s : Shared) (H : Hp) (E : XK) : Cx where
  prog := P
  w := w
  K := K
  mg := mg
  base := base
  A := A.deeper (envOfC qual scope s.heap.objs.size f cd)
  N := N
  s₀ := s
  H₀ := H
  env := envOfC qual scope s.heap.objs.size f cd
  outer := outer
  stack := envOfC qual scope s.heap.objs.size f cd :: outer
  ex := []
  calm := true
  fn := fun _ => true
  pn := []
  xe := fun e s' => wpAny (model P w) (A.deeper (envOfC qual scope s.heap.objs.size f cd)) (leaving (envOfC qual scope s.heap.objs.size f cd) e) (fun _ s'' => CX outer H s E e s'') (fun e' s'' => CX outer H s E e' s'') s'

theorem cell_has {sc : Scope} {n : Nat} {x : Str} (h : sc.names.lookup x = some .cell) : ∃ c, (cellsFrom n sc.names []).lookup x = some c := by
  have q := PySem.W.cellsFrom_some sc.names n [] (.inl h)
  exact Option.isSome_iff_exists.mp q

theorem inv_start {CX : CXT} {P : Program} {w : World} {K : PySem.W.Frag} {mg : Str → Option Value} {base : Heap} {N ps : List Str} {qual : Str} {scope : Scope} {f : Addr} {cd : Value} {A : Around} {outer : List Env} {s s1 : Shared} {H : Hp} {E : XK} {us : List Value} {vs : List V}
    (S : FnScope N ps scope) (hd : A.handled = none) (e0 : Env0 P w K mg base A outer s H) (hl : vs.length = ps.length) (r : Vals vs us)
    (x : InCallC s s.heap.objs.size (bindL (envOfC qual scope s.heap.objs.size f cd).kindOf (ps.zip us) fun _ => none) (cellsFrom (s.heap.objs.size + 1) scope.names []) (bindC (envOfC qual scope s.heap.objs.size f cd).kindOf (ps.zip us) fun _ => none) s1) :
    Inv (cxOf CX P w K mg base N qual scope f cd A outer s H E) [] (start N vs) H s1 := by
  have hpl : ps.length ≤ N.length := by have := congrArg List.length S.pre; rw [List.length_take] at this; omega
  obtain ⟨h1, tk, rfl, hk⟩ := x.done
  have noA : ∀ b : Addr, b ∉ (cxOf CX P w K mg base N qual scope f cd A outer s H E).ex := fun b z => absurd (show b ∈ ([] : List Addr) from z) (by simp)
  refine ⟨⟨e0.mod, S.kind, rfl, rfl, Nat.le_refl _, fun y z c h1 h2 => ?_, fun y hy => ?_, fun y c _ h => ?_, fun _ => hd, Around.frames_deeper e0.frames, .inr ⟨rfl, rfl⟩, fun b z => absurd z (noA b), e0.bs, e0.bsz, fun b _ _ => noA b, fun b z => absurd z (noA b), e0.funs, e0.frf⟩,
    rfl, e0.bare, Un.kept hk, ⟨_, x.toInCall.ns, fun i y v h1 h2 h3 => ?_⟩, fun y c h => ⟨_, x.cell y c h⟩, e0.hok.fresh (Nat.le_refl _), fun y c h => ?_, fun p hp => absurd (show p ∈ ([] : List (Addr × Obj)) from hp) (by simp), e0.hok.kept hk, ?_⟩
  · exact name_of_addr x.apart (PySem.mem_of_lookup h1) (PySem.mem_of_lookup h2)
  · have hy : scope.names.lookup y = some .cell ∨ scope.names.lookup y = some .free := hy
    rcases hy with hy | hy
    · exact cell_has hy
    · exact absurd rfl (S.nofree _ (PySem.mem_of_lookup hy))
  · exact Nat.le_of_lt (x.above y c (PySem.mem_of_lookup h))
  · have hi : i < vs.length := by
      unfold start at h2
      by_cases hi : i < vs.length
      · exact hi
      · rw [List.getElem?_append_right (by simpa using hi)] at h2
        rw [List.getElem?_replicate] at h2
        split at h2 <;> cases h2
    have ha : vs[i]? = some v := by
      unfold start at h2
      rw [List.getElem?_append_left (by simpa using hi), List.getElem?_map] at h2
      cases e : vs[i]? with
      | none => rw [e] at h2; cases h2
      | some a => rw [e] at h2; cases h2; rfl
    obtain ⟨u, hu, rv⟩ := r.get ha
    have hp : ps[i]? = some y := by
      rw [← S.pre, List.getElem?_take_of_lt (by omega)]; exact h1
    have ndP : ps.Nodup := by rw [← S.pre]; exact S.nd.sublist (List.take_sublist _ _)
    refine ⟨u, rv, ?_⟩
    rcases S.par y (List.mem_of_getElem? hp) with k | k
    · exact .inl ⟨k, bindL_get ndP hp hu k⟩
    · obtain ⟨c, e⟩ := cell_has (n := s.heap.objs.size + 1) k
      refine .inr ⟨.inl k, c, e, ?_⟩
      have q := x.cell y c e
      rw [bindC_get ndP hp hu (by show scope.names.lookup y ≠ _; rw [k]; decide)] at q
      exact q
  · exact e0.hok.fresh (Nat.le_of_lt (x.above y c (PySem.mem_of_lookup h)))
  · unfold start
    show _ = N.length
    rw [List.length_append, List.length_map, List.length_replicate]
    omega

/-- THE RULE: a def (or a method) of the text, by its body. The body's reading t is chosen for each entry; it is run at the parameters' values -/
theorem fn_of {CX : CXT} {P : Program} {w : World} {K : PySem.W.Frag} {mg : Str → Option Value} {base : Heap} {k : Nat} {f : Addr} {name qual : Str} {params : Arguments} {body : List Stmt} {scope : Scope} {dV kV doc pm cdv ct oc : Value} {an od : Option Addr}
    {osl : Array (Option Value)} {N ps : List Str} {sp : Sp} (lk : K.lookup f = some ⟨oc, od, .func (PySem.W.fnOf name qual params body scope dV kV doc pm an cdv ct), osl⟩) (hcd : PySem.W.codeIn K cdv qual = true) (S : FnScope N ps scope)
    (len : ∀ vs H Q E, sp vs H Q E → vs.length = ps.length)
    (hbody : ∀ (A : Around) (outer : List Env) (s : Shared) (H : Hp) (vs : List V) (Q : VK) (E : XK), Room k (A.deeper (envOfC qual scope s.heap.objs.size f cdv)) → sp vs H Q E →
      ∃ t, PSs (cxOf CX P w K mg base N qual scope f cdv A outer s H E) body t ∧ t { nx := fun _ H' => Q .non H', rt := Q } (start N vs) H) :
    FnOk P w K mg base CX (k + 1) f (PySem.W.fnOf name qual params body scope dV kV doc pm an cdv ct) ps sp := by
  refine ⟨len, fun A outer s H args us vs Q E hr e0 hb r hsp => ?_⟩
  have hl := len _ _ _ _ hsp
  have KX : K.In s.heap := e0.mod.kin.keeps fun b o e => (e0.bs b o e).1
  have lim : s.heap.NoLimit := e0.mod.nolimit.keeps fun b o e => (e0.bs b o e).1
  have hkind : ∀ y ∈ ps.zip us, scope.names.lookup y.1 = some .local ∨ (scope.names.lookup y.1 = some .cell ∧ ((cellsFrom (s.heap.objs.size + 1) scope.names []).lookup y.1).isSome = true) := fun ⟨n, v⟩ hy => by
    rcases S.par n (List.of_mem_zip hy).1 with q | q
    · exact .inl q
    · exact .inr ⟨q, PySem.W.cellsFrom_some _ _ _ (.inl q)⟩
  refine codeAny_call_function hr.depth (KX _ _ lk) rfl S.co S.gen rfl (PySem.W.codeRec_of KX hcd) (hb _ _ _ _ ?_)
  refine wpAny_newFunctionEnv_cells S.kind hkind fun env he s1 x => ?_
  subst he
  refine ⟨lim.keeps x.toInCall.keep, codeAny_func ?_⟩
  obtain ⟨t, ht, hq⟩ := hbody A outer s H vs Q E (hr.deeper _) hsp
  have I : Inv (cxOf CX P w K mg base N qual scope f cdv A outer s H E) [] (start N vs) H s1 := inv_start S hr.hd e0 hl r x
  refine wpAny_mono (ht [] s1 (start N vs) H _ I hq) (fun fl s' hs => ?_) fun e s' hs => hs
  have fin : ∀ {σ' : St} {H' : Hp} {v : V} {u : Value}, Inv (cxOf CX P w K mg base N qual scope f cdv A outer s H E) [] σ' H' s' → RelV v u → Q v H' → CE outer P w H s Q u s' :=
    fun {σ' H' v u} J rv q => ⟨v, H', J.os, J.bare, J.base, J.hok, rv, q⟩
  cases fl with
  | ret u =>
    obtain ⟨v, σ', H', J, rv, q⟩ := hs
    exact fin J rv q
  | next =>
    obtain ⟨σ', H', J, q⟩ := hs
    exact fin (v := V.non) (u := Value.none) J rfl q
  | brk =>
    obtain ⟨_, _, _, q⟩ := hs
    exact False.elim q
  | cont =>
    obtain ⟨_, _, _, q⟩ := hs
    exact False.elim q
end L2

namespace L2
open PySem PySem.Spec PyProof.Rows
section
variable {X : Cx} {x : Str} {p pos : Pos} {e : Expr} {es : List Expr} {t : TA} {id T : String} {r : List V → Hp → VK → Prop}

def tCB (r : List V → Hp → VK → Prop) (t : TA) : TE := fun σ H Q => t σ H fun vs H1 => r vs H1 Q
/-- f(e, ..), f a built-in function -/
theorem pe_callB (hc : CallR X (.builtin id) r) (hg : Gl X x) (hm : X.mg x = none) (hv : bootBuiltins x = some (.builtin id)) (ha : PA X (e :: es) t) (hn : x ≠ "__name__" := by decide) (hdb : (x == ("__debug__" : Str)) = false := by decide)
    (he : starEach (e :: es) X.env = (false, eval e X.env) :: starEach es X.env := by rfl) (hpl : (backTo pos (starEach es X.env)).any (·.1) = false := by rfl) : PE X (.Call (.Name x p) (e :: es) [] pos) (tCB r t) := by
  intro pins s σ H Q I h
  refine wpAny_Call_Name_kw (ld_blt I hg hm hv ?_ hn hdb)
  exact PyProof.Rows.callWith_builtin1 (thn (ha pos pins s σ H _ I h) fun us s1 ⟨vs, H1, I1, r1, q1⟩ => hc pins s1 σ H1 vs us Q I1 r1 q1) he hpl
/-- T(e, ..), T a built-in type -/
theorem pe_callTy (hc : CallR X (.type T) r) (hg : Gl X x) (hm : X.mg x = none) (hv : bootBuiltins x = some (.type T)) (ha : PA X (e :: es) t) (hn : x ≠ "__name__" := by decide) (hdb : (x == ("__debug__" : Str)) = false := by decide)
    (he : starEach (e :: es) X.env = (false, eval e X.env) :: starEach es X.env := by rfl) (hpl : (backTo pos (starEach es X.env)).any (·.1) = false := by rfl) : PE X (.Call (.Name x p) (e :: es) [] pos) (tCB r t) := by
  intro pins s σ H Q I h
  refine wpAny_Call_Name_kw (ld_blt I hg hm hv ?_ hn hdb)
  exact PyProof.Rows.callWith_type1 (thn (ha pos pins s σ H _ I h) fun us s1 ⟨vs, H1, I1, r1, q1⟩ => hc pins s1 σ H1 vs us Q I1 r1 q1) he hpl
end
end L2

namespace HT
open PySem PyProof.Rows

/-- t < u of tuples of ints -/
def lexLt : List Int → List Int → Bool
  | [], [] => false
  | [], _ :: _ => true
  | _ :: _, [] => false
  | x :: xs, y :: ys => if x = y then lexLt xs ys else decide (x < y)
section
open PySem.SeqAt
open PySem.AutoSeq1 (wpAny_loadPart')
open PySem.MeetsSeq PySem.MeetsSeq2 PySem.MeetsSeq3

end

section
variable {prog : Program} {w : World} {A : Around} {E : Value → Shared → Prop} {s : Shared}

/-- t + u, t not empty -/
theorem cat_tup {t b : Addr} {vs ws : List Value} {Q : Value → Shared → Prop} (ht : IsTup s.heap t vs.toArray) (hb : IsTup s.heap b ws.toArray) (hv : vs ≠ [])
    (h1 : ws = [] → Q (.ref t) s) (h2 : ws ≠ [] → Q (.ref s.heap.objs.size) { s with heap := s.heap.push { cls := .type "tuple", data := .seq (vs ++ ws).toArray } })
    (hsz : vs.length + ws.length ≤ sizeLine) : wpAny (model prog w) A (binaryOp .Add (.ref t) (.ref b)) Q E s := by
  obtain ⟨⟨cls, dd, data, sl⟩, ho, hc, n, hd⟩ := id ht
  obtain ⟨⟨cls2, dd2, data2, sl2⟩, ho2, hc2, n2, hd2⟩ := id hb
  simp only at hc hd hc2 hd2
  subst hc hd hc2 hd2
  have e : vs.toArray ++ ws.toArray = (vs ++ ws).toArray := by simp
  by_cases hw : ws = []
  · exact concat_meets ⟨_, ho, rfl⟩ ⟨_, ho2, rfl⟩ noFill_tuple_add seq_tuple_add PySem.F.slot_tuple_add PySem.F.entry_tuple_add (PySem.F.args_tuple_add_2 _ _)
      (tuple_addW1 t b vs.toArray ws.toArray n n2 dd dd2 sl sl2 (by simpa using hv) (by simp [hw])) ⟨ho, ho2, h1 hw⟩
  · refine concat_meets ⟨_, ho, rfl⟩ ⟨_, ho2, rfl⟩ noFill_tuple_add seq_tuple_add PySem.F.slot_tuple_add PySem.F.entry_tuple_add (PySem.F.args_tuple_add_2 _ _)
      (tuple_addW2 t b vs.toArray ws.toArray n n2 dd dd2 sl sl2 (by simpa using hv) (by simpa using hw) (by rw [List.size_toArray, List.size_toArray]; exact hsz)) ⟨ho, ho2, ?_⟩
    rw [e]
    exact h2 hw

/-! ### t[a:b], not the whole -/
/-- a slice's bound as a place among n (d where it is left out) -/
def sIx (n d : Nat) : Option Int → Nat
  | none => d
  | some v => if v < 0 then (v + (n : Int)).toNat else min v.toNat n
theorem sIx_le (n d : Nat) (hd : d ≤ n) (o : Option Int) : sIx n d o ≤ n := by
  cases o with
  | none => exact hd
  | some v =>
    show (if v < 0 then (v + (n : Int)).toNat else min v.toNat n) ≤ n
    by_cases hv : v < 0
    · rw [if_pos hv]; omega
    · rw [if_neg hv]; exact Nat.min_le_right _ _
theorem clip_eq (v : Int) (n d : Nat) : (if v < 0 then max (v + (n : Int)) 0 else min v (n : Int)) = ((sIx n d (some v) : Nat) : Int) := by
  show (if v < 0 then max (v + (n : Int)) 0 else min v (n : Int)) = (((if v < 0 then (v + (n : Int)).toNat else min v.toNat n) : Nat) : Int)
  by_cases hv : v < 0
  · simp only [if_pos hv]; omega
  · simp only [if_neg hv]; omega
theorem adjust_gen (lo hi : Option Int) (n : Nat) : Builtin.Slice.sliceAdjust lo hi 1 (n : Int) = (((sIx n 0 lo : Nat) : Int), ((sIx n n hi : Nat) : Int)) := by
  have h1 : ¬ ((1 : Int) < 0) := by omega
  unfold Builtin.Slice.sliceAdjust
  simp only [h1, if_false]
  refine Prod.ext ?_ ?_
  · cases lo with
    | none => rfl
    | some v => exact clip_eq v n 0
  · cases hi with
    | none => rfl
    | some v => exact clip_eq v n n
theorem places_gen (i j : Nat) : Builtin.Slice.slicePlaces (i : Int) (j : Int) 1 = j - i := by
  unfold Builtin.Slice.slicePlaces
  have h1 : (1 : Int) > 0 := by omega
  simp only [h1, if_true, Int.ediv_one]
  split <;> omega
theorem slicePart_ {v : Value} {o : Option Int} {Q : Option Int → Shared → Prop} (p : IsPart v o) (h : Q o s) : wpAny (model prog w) A (Builtin.Slice.slicePartIndex v) Q E s := by
  cases p with
  | none => exact slicePart_none h
  | int i t => exact slicePart_int h
theorem sliceApplied_gen {sl : Addr} {vl vu : Value} {lo hi : Option Int} {n : Nat} {Q : Int × Int × Nat → Shared → Prop} (hs : s.heap.IsSliceOf sl vl vu .none) (pl : IsPart vl lo) (pu : IsPart vu hi)
    (h : Q (((sIx n 0 lo : Nat) : Int), 1, sIx n n hi - sIx n 0 lo) s) : wpAny (model prog w) A (Builtin.Slice.sliceApplied (.ref sl) (pure (n : Int))) Q E s := by
  obtain ⟨os, hos, hcs, hds⟩ := id hs
  unfold Builtin.Slice.sliceApplied Builtin.Slice.sliceFields
  refine wpAny_bind (wpAny_bind (wpAny_field hos hds (x := vl) rfl (wpAny_bind (wpAny_field hos hds (x := vu) rfl (wpAny_bind (wpAny_field hos hds (x := .none) rfl (wpAny_pure ?_)))))))
  refine wpAny_bind (slicePart_none ?_)
  show wpAny _ _ (if ((1 : Int) == 0) = true then _ else _) _ _ s
  rw [if_neg (by decide)]
  refine wpAny_bind (slicePart_ pl (wpAny_bind (slicePart_ pu (wpAny_bind (wpAny_pure ?_)))))
  show wpAny _ _ (match Builtin.Slice.sliceAdjust lo hi 1 (n : Int) with | (lo, hi) => pure (lo, (1 : Int), Builtin.Slice.slicePlaces lo hi 1)) _ _ s
  rw [adjust_gen lo hi n]
  show wpAny _ _ (pure (((sIx n 0 lo : Nat) : Int), (1 : Int), Builtin.Slice.slicePlaces ((sIx n 0 lo : Nat) : Int) ((sIx n n hi : Nat) : Int) 1)) _ _ s
  rw [places_gen]
  exact wpAny_pure h
theorem pick_gen (xs : Array Value) (i k : Nat) : ((List.range k).filterMap fun (m : Nat) => xs[((i : Int) + (m : Int) * 1).toNat]?).toArray = ((xs.toList.drop i).take k).toArray := by
  have e : (fun (m : Nat) => xs[((i : Int) + (m : Int) * 1).toNat]?) = fun m => xs[i + m]? := by
    funext m
    have : ((i : Int) + (m : Int) * 1).toNat = i + m := by omega
    rw [this]
  rw [e]
  have := pick_run xs i k
  rw [List.filterMap_map] at this
  have e2 : ((fun x => xs[x]?) ∘ fun x => i + x) = fun m => xs[i + m]? := rfl
  rw [e2] at this
  rw [this]

theorem getItem_tuple_cut {t sl : Addr} {items : Array Value} {vl vu : Value} {lo hi : Option Int} {Q : Value → Shared → Prop} (ht : IsTup s.heap t items) (hs : s.heap.IsSliceOf sl vl vu .none) (pl : IsPart vl lo) (pu : IsPart vu hi)
    (hw : ¬ (sIx items.size 0 lo = 0 ∧ sIx items.size items.size hi = items.size))
    (h : Q (.ref s.heap.objs.size) { s with heap := s.heap.push { cls := .type "tuple", data := .seq ((items.toList.drop (sIx items.size 0 lo)).take (sIx items.size items.size hi - sIx items.size 0 lo)).toArray } })
    (hsz : items.size ≤ sizeLine) : wpAny (model prog w) A (getItem (.ref t) (.ref sl)) Q E s := by
  have htake : sizeOk (.seq ((items.toList.drop (sIx items.size 0 lo)).take (sIx items.size items.size hi - sIx items.size 0 lo)).toArray) := by
    show ((items.toList.drop (sIx items.size 0 lo)).take (sIx items.size items.size hi - sIx items.size 0 lo)).toArray.size ≤ sizeLine
    rw [List.size_toArray, List.length_take, List.length_drop, Array.length_toList]
    omega
  have hj : sIx items.size items.size hi ≤ items.size := sIx_le _ _ (Nat.le_refl _) hi
  obtain ⟨os, hos, hcs, hds⟩ := id hs
  have hTs : s.TypeIs (.ref sl) "slice" := ⟨os, hos, hcs⟩
  unfold getItem
  try with_reducible refine wpAny_holding ?_
  first | refine wpAny_bind (wpAny_pure ?_) | skip
  refine wpAny_bind (wpAny_sequenceKey ht.typeIs (by decide) ?_)
  refine wpAny_bind (wpAny_callSpecial?_slot (name := Str.ofString "__getitem__") ht.typeIs PyProof.Rows.slot_tuple_getitem
    (wpAny_call_entry PyProof.Rows.slot_tuple_getitem ht.typeIs entry_tuple_getitem ?_ (args_tuple_getitem _ _)))
  show wpAny _ _ (Builtin.Tuple.tupleItemsOf (.ref t) >>= _) _ _ s
  refine wpAny_bind (tupleItemsOf_ ht ?_)
  refine wpAny_bind (wpAny_typeOf hTs ?_)
  rw [if_pos (by decide)]
  refine wpAny_bind (sliceApplied_gen hs pl pu ?_)
  have hno : ¬ ((((sIx items.size 0 lo : Nat) : Int) == 0 && (1 : Int) == 1 && (sIx items.size items.size hi - sIx items.size 0 lo) == items.size) = true) := by
    intro q
    rw [Bool.and_eq_true, Bool.and_eq_true] at q
    have q1 : ((sIx items.size 0 lo : Nat) : Int) = 0 := eq_of_beq q.1.1
    have q2 : sIx items.size items.size hi - sIx items.size 0 lo = items.size := eq_of_beq q.2
    exact hw ⟨by omega, by omega⟩
  show wpAny _ _ (if (((sIx items.size 0 lo : Nat) : Int) == 0 && (1 : Int) == 1 && (sIx items.size items.size hi - sIx items.size 0 lo) == items.size) = true then _ else _) _ _ s
  rw [if_neg hno, pick_gen]
  first
    | exact wpAny_bind (m := Builtin.Tuple.tupleExact _) (wpAny_newObj_type (wpAny_pure ⟨_, rfl, wpAny_pure h⟩) htake)
    | exact wpAny_bind (m := Builtin.Tuple.tupleExact _) (wpAny_newObj_type (wpAny_bind (wpAny_pure (wpAny_pure ⟨_, rfl, wpAny_pure h⟩))) htake)
    | exact wpAny_bind (wpAny_bind (m := Builtin.Tuple.tupleExact _) (wpAny_newObj_type (wpAny_pure (wpAny_pure ⟨_, rfl, wpAny_pure h⟩)) htake))
    | exact wpAny_bind (wpAny_bind (m := Builtin.Tuple.tupleExact _) (wpAny_newObj_type (wpAny_pure ⟨_, rfl, wpAny_pure h⟩) htake))
end
end HT

namespace L2
open PySem PySem.Spec PyProof.Rows

/-! ### the parts of a slice -/
abbrev TO := St → Hp → (Option Int → Hp → Prop) → Prop
/-- a slice's part (left out, or an int) -/
def PO (X : Cx) (e : Option Expr) (t : TO) : Prop :=
  ∀ (pins : List (Addr × Obj)) (s : Shared) (σ : St) (H : Hp) (Q : Option Int → Hp → Prop), Inv X pins σ H s → t σ H Q →
    wpAny (model X.prog X.w) X.A (evalPart e X.env) (fun u s' => ∃ o H', Inv X pins σ H' s' ∧ IsPart u o ∧ Q o H') X.xe s
def tNoPart : TO := fun _ H Q => Q none H
def tPart (t : TE) : TO := fun σ H Q => t σ H fun x H1 => ∃ i, x = .int i ∧ Q (some i) H1

section
variable {X : Cx} {e : Expr} {te : TE} {lo hi : Option Expr} {tl th : TO} {pos p2 : Pos}

theorem po_none : PO X none tNoPart := by
  intro pins s σ H Q I h
  rw [evalPart_none]
  exact wpAny_pure ⟨none, H, I, .none, h⟩
theorem po_some (h : PE X e te) : PO X (some e) (tPart te) := by
  intro pins s σ H Q I hw
  rw [evalPart_some]
  refine thn (h pins s σ H _ I hw) fun u s1 ⟨x, H1, I1, r1, q1⟩ => ?_
  obtain ⟨i, rfl, q⟩ := q1
  obtain ⟨t, rfl⟩ := r1
  exact ⟨some i, H1, I1, .int i t, q⟩

/-- what a slice of a value is, by values: the slice object stands at sl -/
def SlR (X : Cx) (r : V → Option Int → Option Int → Hp → VK → Prop) : Prop :=
  ∀ (pins : List (Addr × Obj)) (s : Shared) (σ : St) (H : Hp) (x : V) (v vl vu : Value) (lo hi : Option Int) (sl : Addr) (Q : VK), Inv X pins σ H s → RelV x v → s.heap.IsSliceOf sl vl vu .none → IsPart vl lo → IsPart vu hi → r x lo hi H Q →
    ∃ T id, typeLookup (.type T) "__getitem__" = pure (some (.builtin id)) ∧ s.TypeIs v T ∧ wpAny (model X.prog X.w) X.A (getItem v (.ref sl)) (EP X pins σ Q) X.xe s
def tSl (r : V → Option Int → Option Int → Hp → VK → Prop) (te : TE) (tl th : TO) : TE := fun σ H Q => te σ H fun x H1 => tl σ H1 fun l H2 => th σ H2 fun u H3 => r x l u H3 Q
/-- a[lo:hi], any a -/
theorem pe_slice {r : V → Option Int → Option Int → Hp → VK → Prop} (hr : SlR X r) (he : PE X e te) (hl : PO X lo tl) (hu : PO X hi th) : PE X (.Subscript e (.Slice lo hi none p2) pos) (tSl r te tl th) := by
  intro pins s σ H Q I h
  refine Subscript_ (thn (he pins s σ H _ I h) fun v s1 ⟨x, H1, I1, r1, q1⟩ => ?_)
  refine wpAny_Slice (thn (hl pins s1 σ H1 _ I1 q1) fun vl s2 ⟨l, H2, I2, pl, q2⟩ => thn (hu pins s2 σ H2 _ I2 q2) fun vu s3 ⟨u, H3, I3, pu, q3⟩ => ?_)
  rw [evalPart_none]
  refine wpAny_pure ?_
  have I4 : Inv X pins σ H3 { s3 with heap := s3.heap.push { cls := .type "slice", data := .fields #[vl, vu, .none] } } := I3.kept (t' := s3.toks) fun b ob q => Heap.get?_push_of_some _ q
  obtain ⟨T, id, hT, ht, hg⟩ := hr pins { s3 with heap := s3.heap.push { cls := .type "slice", data := .fields #[vl, vu, .none] } } σ H3 x v vl vu l u s3.heap.objs.size Q I4 r1 (Heap.IsSliceOf.new ..) pl pu q3
  show wpAny (model X.prog X.w) X.A (subscriptTail e (.Slice lo hi none p2) v (.ref s3.heap.objs.size)) (EP X pins σ Q) X.xe { s3 with heap := s3.heap.push { cls := .type "slice", data := .fields #[vl, vu, .none] } }
  exact tail_any (ops := [.ref s3.heap.objs.size, v]) ht hT hg (by with_unfolding_all rfl)

/-- the items of xs[lo:hi] -/
def cutV (xs : List V) (lo hi : Option Int) : List V := (xs.drop (HT.sIx xs.length 0 lo)).take (HT.sIx xs.length xs.length hi - HT.sIx xs.length 0 lo)
theorem cutV_length (xs : List V) (lo hi : Option Int) : (cutV xs lo hi).length ≤ xs.length := by
  unfold cutV
  rw [List.length_take, List.length_drop]
  omega
/-- t[lo:hi], not the whole of it (the whole would be t itself) -/
def rSlT (K : PySem.W.Frag) : V → Option Int → Option Int → Hp → VK → Prop := fun x lo hi H Q => ∃ a xs, x = .ref a ∧ SqT K H a xs ∧
  ¬ (HT.sIx xs.length 0 lo = 0 ∧ HT.sIx xs.length xs.length hi = xs.length) ∧ ∀ p, H p = none → Q (.ref p) (upd H p (.tup (cutV xs lo hi)))
theorem sl_tup : SlR X (rSlT X.K) := by
  intro pins s σ H x v vl vu lo hi sl Q I rx hs pl pu h
  obtain ⟨a, xs, rfl, hx, hw, q⟩ := h
  cases rx
  obtain ⟨its, r, ht, hz⟩ := I.tuple hx
  have hlen : its.toArray.size = xs.length := by rw [List.size_toArray]; exact r.length.symm
  refine ⟨"tuple", _, PyProof.Rows.slot_tuple_getitem.lookup, ht.typeIs, ?_⟩
  refine HT.getItem_tuple_cut ht hs pl pu (by rw [hlen]; exact hw) ?_ (by rw [hlen]; exact hz)
  rw [hlen]
  refine ⟨.ref s.heap.objs.size, _, I.laid (t' := s.toks) (o := .tup (cutV xs lo hi)) (fun b ob q => Heap.get?_push_of_some _ q) (Nat.le_refl _) ?_, rfl, q _ (I.hok.fresh (Nat.le_refl _))⟩
  exact ⟨Nat.le_trans (cutV_length xs lo hi) hz, _, (r.drop (HT.sIx xs.length 0 lo)).take (HT.sIx xs.length xs.length hi - HT.sIx xs.length 0 lo), IsTup.new _ _⟩

/-! ### t < u, t + u -/
def rLtT (K : PySem.W.Frag) : R2 := fun x y H Q => ∃ a b ns ms, x = .ref a ∧ y = .ref b ∧ SqT K H a (ns.map V.int) ∧ SqT K H b (ms.map V.int) ∧ Q (.bl (HT.lexLt ns ms)) H
/-- t + u, t not empty: u empty gives t itself -/
def rCatT (K : PySem.W.Frag) : R2 := fun x y H Q => ∃ a b xs ys, x = .ref a ∧ y = .ref b ∧ SqT K H a xs ∧ SqT K H b ys ∧ xs ≠ [] ∧ xs.length + ys.length ≤ sizeLine ∧
  (ys = [] → Q (.ref a) H) ∧ (ys ≠ [] → ∀ p, H p = none → Q (.ref p) (upd H p (.tup (xs ++ ys))))
theorem Vals.nil_iff {xs : List V} {us : List Value} (r : Vals xs us) : us = [] ↔ xs = [] := by
  cases r with
  | nil => simp
  | cons _ _ => simp
theorem op_catT : OpR X (binaryOp .Add) (rCatT X.K) := by
  intro pins s σ H x y v u Q I rx ry h
  obtain ⟨a, b, xs, ys, rfl, rfl, ha, hb, hx, hz, q1, q2⟩ := h
  cases rx
  cases ry
  obtain ⟨its, r1, p1, _⟩ := I.tuple ha
  obtain ⟨its2, r2, p2, _⟩ := I.tuple hb
  refine HT.cat_tup p1 p2 (fun z => hx (r1.nil_iff.mp z)) (fun z => ⟨.ref a, H, I, rfl, q1 (r2.nil_iff.mp z)⟩) (fun z => ?_) (by rw [← r1.length, ← r2.length]; exact hz)
  refine ⟨.ref s.heap.objs.size, _, I.laid (t' := s.toks) (o := .tup (xs ++ ys)) (fun b ob q => Heap.get?_push_of_some _ q) (Nat.le_refl _) ?_, rfl, q2 (fun w => z (r2.nil_iff.mpr w)) _ (I.hok.fresh (Nat.le_refl _))⟩
  exact ⟨by rw [List.length_append]; exact hz, _, r1.append r2, IsTup.new _ _⟩
end
end L2

namespace L2
open PySem PySem.Spec PyProof.Rows

/-! ### places -/
/-- the place that an index of any sign means -/
def ixN (n : Nat) (i : Int) : Option Nat := if 0 ≤ i then (if i < n then some i.toNat else none) else if -(n : Int) ≤ i then some (i + n).toNat else none
def atI {α : Type} (xs : List α) (i : Int) : Option α := (ixN xs.length i).bind fun j => xs[j]?
theorem ixN_seq {n : Nat} {i : Int} {j : Nat} (h : ixN n i = some j) : seqIndex? i n = some j ∧ j < n ∧ -(n : Int) ≤ i ∧ i < n := by
  unfold ixN at h
  by_cases h0 : 0 ≤ i
  · rw [if_pos h0] at h
    by_cases h1 : i < n
    · rw [if_pos h1] at h
      have e : i.toNat = j := Option.some.inj h
      exact ⟨by rw [seqIndex_of h0 h1, e], by omega, by omega, h1⟩
    · rw [if_neg h1] at h; cases h
  · rw [if_neg h0] at h
    by_cases h1 : -(n : Int) ≤ i
    · rw [if_pos h1] at h
      have e : (i + n).toNat = j := Option.some.inj h
      exact ⟨by rw [seqIndex_neg (by omega) h1, e], by omega, h1, by omega⟩
    · rw [if_neg h1] at h; cases h
theorem atI_get {α : Type} {xs : List α} {i : Int} {v : α} (h : atI xs i = some v) : ∃ j, seqIndex? i xs.length = some j ∧ xs[j]? = some v ∧ j < xs.length ∧ -(xs.length : Int) ≤ i ∧ i < xs.length := by
  unfold atI at h
  cases e : ixN xs.length i with
  | none => rw [e] at h; cases h
  | some j =>
    rw [e] at h
    obtain ⟨h1, h2, h3, h4⟩ := ixN_seq e
    exact ⟨j, h1, h, h2, h3, h4⟩
theorem atI_nat {α : Type} {xs : List α} {j : Nat} {v : α} (h : xs[j]? = some v) : atI xs (j : Int) = some v := by
  have hj : j < xs.length := (List.getElem?_eq_some_iff.mp h).1
  have e : ixN xs.length (j : Int) = some j := by
    unfold ixN
    rw [if_pos (by omega), if_pos (by omega)]; simp
  unfold atI; rw [e]; exact h
/-! ### what may be subscripted -/
/-- what stands as an index of a plain subscript -/
def PlainIx (b : Expr) : Prop := ∀ o i, subscripted b false o i = operate [o, i] (getItem o i)
/-- a subscript by values -/
def IxR (X : Cx) (r : R2) : Prop :=
  ∀ (value slice : Expr) (pins : List (Addr × Obj)) (s : Shared) (σ : St) (H : Hp) (x y : V) (v u : Value) (Q : VK), Inv X pins σ H s → RelV x v → RelV y u → r x y H Q →
    subscripted slice false v u = operate [v, u] (getItem v u) → wpAny (model X.prog X.w) X.A (subscriptTail value slice v u) (EP X pins σ Q) X.xe s
/-- a call of a builtin's method by values: the receiver, the arguments -/
def MtR (X : Cx) (id : String) (r : V → List V → Hp → VK → Prop) : Prop :=
  ∀ (pins : List (Addr × Obj)) (s : Shared) (σ : St) (H : Hp) (x : V) (xs : List V) (v : Value) (us : List Value) (Q : VK), Inv X pins σ H s → RelV x v → Vals xs us → r x xs H Q →
    wpAny (model X.prog X.w) X.A (call (.builtin id) (v :: us)) (EP X pins σ Q) X.xe s
section
variable {X : Cx} {a b : Expr} {ta tb : TE} {pos : Pos}
/-- a[b] -/
theorem pe_ix {r : R2} (hr : IxR X r) (ha : PE X a ta) (hb : PE X b tb) (hs : PlainIx b) : PE X (.Subscript a b pos) (tOp r ta tb) := by
  intro pins s σ H Q I h
  exact Subscript_ (binT ha hb I h fun v u s2 x y H2 I2 rx ry q => hr a b pins s2 σ H2 x y v u Q I2 rx ry q (hs _ _))

def rIxL (K : PySem.W.Frag) : R2 := fun x y H Q => ∃ p xs i v, x = .ref p ∧ y = .int i ∧ SqL K H p xs ∧ atI xs i = some v ∧ Q v H
def rIxT (K : PySem.W.Frag) : R2 := fun x y H Q => ∃ p xs i v, x = .ref p ∧ y = .int i ∧ SqT K H p xs ∧ atI xs i = some v ∧ Q v H
def rIxS : R2 := fun x y H Q => ∃ z i c, x = .str z ∧ y = .int i ∧ z.length ≤ sizeLine ∧ atI z.cps.toList i = some c ∧ Q (.str ⟨#[c]⟩) H
theorem ix_list : IxR X (rIxL X.K) := by
  intro value slice pins s σ H x y v u Q I rx ry h hs
  obtain ⟨p, xs, i, z, rfl, rfl, hq, he, q⟩ := h
  cases rx
  obtain ⟨t, rfl⟩ := ry
  obtain ⟨its, r, pl, hz⟩ := I.list hq
  obtain ⟨j, h1, h2, h3, h4, h5⟩ := atI_get he
  obtain ⟨w, ew, rw'⟩ := r.get h2
  have hl := r.length
  have hn := line63
  have fin : EP X pins σ Q w s := ⟨z, H, I, rw', q⟩
  by_cases h0 : 0 ≤ i
  · have hj : i.toNat = j := by
      rw [seqIndex_of h0 h5] at h1
      exact Option.some.inj h1
    exact item_listR pl.isList h0 (by omega) (by rw [hj]; simpa using ew) fin hs
  · have hj : (i + (its.toArray.size : Int)).toNat = j := by
      rw [seqIndex_neg (by omega) h4] at h1
      rw [List.size_toArray, ← hl]
      exact Option.some.inj h1
    exact subscriptTail_builtinR (x := w) pl.isList.typeIs slot_list_getitem.lookup
      (wpAny_getItem_list_neg (Q := fun r s' => r = w ∧ EP X pins σ Q r s') pl.isList (by omega) (by rw [List.size_toArray] <;> omega) (by omega) (by rw [hj]; simpa using ew) ⟨rfl, fin⟩) hs
theorem ix_tup : IxR X (rIxT X.K) := by
  intro value slice pins s σ H x y v u Q I rx ry h hs
  obtain ⟨p, xs, i, z, rfl, rfl, hq, he, q⟩ := h
  cases rx
  obtain ⟨t, rfl⟩ := ry
  obtain ⟨its, r, pl, hz⟩ := I.tuple hq
  obtain ⟨j, h1, h2, h3, h4, h5⟩ := atI_get he
  obtain ⟨w, ew, rw'⟩ := r.get h2
  have hl := r.length
  have hn := line63
  have fin : EP X pins σ Q w s := ⟨z, H, I, rw', q⟩
  exact subscriptTail_builtinR (x := w) pl.typeIs slot_tuple_getitem.lookup
    (getItem_tuple (j := j) (Q := fun r s' => r = w ∧ EP X pins σ Q r s') pl (by omega) (by omega) (by rw [List.size_toArray, ← hl]; exact h1) (by simpa using ew) ⟨rfl, fin⟩) hs
/-- list, tuple or str -/
def rIx (K : PySem.W.Frag) : R2 := fun x y H Q => rIxL K x y H Q ∨ rIxT K x y H Q ∨ rIxS x y H Q
/-! ### xs[i] = v, any sign -/
/-- the list's object behind a store -/
theorem mapSeq_set (its : List Value) (n j : Nat) (u : Value) : Obj.mapSeq (·.setIfInBounds j u) { cls := .type "list", data := .seq its.toArray n } = { cls := .type "list", data := .seq (its.set j u).toArray n } := by
  simp [Obj.mapSeq]
theorem Inv.lst {pins : List (Addr × Obj)} {σ : St} {H : Hp} {s : Shared} {p : Addr} {xs : List V} (I : Inv X pins σ H s) (h : H p = some (.lst xs)) :
    ∃ (its : List Value) (n : Nat), Vals xs its ∧ s.heap.get? p = some { cls := .type "list", data := .seq its.toArray n } ∧ xs.length ≤ sizeLine := by
  obtain ⟨z, its, n, r, e⟩ := I.hok p _ h
  exact ⟨its, n, r, e, z⟩
/-- the list at p is written by an update of its object -/
theorem Inv.lstUpd {pins : List (Addr × Obj)} {σ : St} {H : Hp} {s : Shared} {p : Addr} {xs ys : List V} {its its' : List Value} {n n' : Nat} {f : Obj → Obj} (I : Inv X pins σ H s) (h : H p = some (.lst xs))
    (ho : s.heap.get? p = some { cls := .type "list", data := .seq its.toArray n }) (hf : f { cls := .type "list", data := .seq its.toArray n } = { cls := .type "list", data := .seq its'.toArray n' }) (r : Vals ys its') (hz : ys.length ≤ sizeLine) (t : Nat) :
    Inv X pins σ (upd H p (.lst ys)) { s with heap := s.heap.update p f, toks := t } := by
  have e : (s.heap.update p f).get? p = some { cls := .type "list", data := .seq its'.toArray n' } := by
    rw [Heap.get?_update_self f ho (by rw [hf] <;> rfl), hf]
  refine I.write (x := p) (e := p) (by rw [h]; trivial) (.inl rfl) (fun b u hb q => (Heap.get?_update_other _ _ (Ne.symm hb)).trans q) ⟨_, e⟩ ?_
  exact ⟨hz, its', n', r, e⟩
def rSetL : V → V → V → Hp → (Hp → Prop) → Prop := fun o i v H Q => ∃ p xs k j, o = .ref p ∧ i = .int k ∧ H p = some (.lst xs) ∧ ixN xs.length k = some j ∧ Q (upd H p (.lst (xs.set j v)))
theorem set_list : PSet X rSetL := by
  intro pins s σ H o i v ov iv u Q I ro ri rv h
  obtain ⟨p, xs, k, j, rfl, rfl, hp, hj, q⟩ := h
  cases ro
  obtain ⟨t, rfl⟩ := ri
  obtain ⟨its, n, r, ho, hz⟩ := I.lst hp
  obtain ⟨h1, h2, h3, h4⟩ := ixN_seq hj
  have hl := r.length
  have hn := line63
  have I' : Inv X pins σ (upd H p (.lst (xs.set j v))) { s with heap := s.heap.update p (Obj.mapSeq (·.setIfInBounds j u)) } :=
    I.lstUpd hp ho (mapSeq_set its n j u) (r.set rv j) (by rw [List.length_set]; exact hz) s.toks
  by_cases h0 : 0 ≤ k
  · have hk : k.toNat = j := by
      rw [seqIndex_of h0 h4] at h1
      exact Option.some.inj h1
    exact PySem.W.ki_setAt ho h0 (by omega) (by rw [List.size_toArray, ← hl]; exact h4) (by rw [hk]; exact ⟨_, I', q⟩)
  · have hk : (k + (its.toArray.size : Int)).toNat = j := by
      rw [seqIndex_neg (by omega) h3] at h1
      rw [List.size_toArray, ← hl]
      exact Option.some.inj h1
    exact PySem.W.ki_setBack ho (by omega) (by rw [List.size_toArray, ← hl]; exact h3) (by omega) (by rw [hk]; exact ⟨_, I', q⟩)

/-! ### slices -/
theorem slice_bounds (lo hi : Option Int) (n : Nat) : (sliceBounds lo hi none n).1 = ((HT.sIx n 0 lo : Nat) : Int) ∧ (sliceBounds lo hi none n).2.1 = ((HT.sIx n n hi : Nat) : Int) ∧ (sliceBounds lo hi none n).2.2 = 1 := by
  refine ⟨?_, ?_, rfl⟩
  · cases lo with
    | none => simp [sliceBounds, HT.sIx]
    | some i =>
      simp only [sliceBounds, HT.sIx, Option.getD_none, show (1 : Int) > 0 by decide, if_true]
      by_cases h : i < 0
      · simp only [h, if_true] <;> omega
      · simp only [h, if_false] <;> omega
  · cases hi with
    | none => simp [sliceBounds, HT.sIx]
    | some i =>
      simp only [sliceBounds, HT.sIx, Option.getD_none, show (1 : Int) > 0 by decide, if_true]
      by_cases h : i < 0
      · simp only [h, if_true] <;> omega
      · simp only [h, if_false] <;> omega
theorem slicePick_cut (its : List Value) (lo hi : Option Int) : slicePick its.toArray lo hi none = ((its.drop (HT.sIx its.length 0 lo)).take (HT.sIx its.length its.length hi - HT.sIx its.length 0 lo)).toArray := by
  obtain ⟨h1, h2, h3⟩ := slice_bounds lo hi its.toArray.size
  unfold slicePick
  rw [h1, h2, h3]
  simp only [sliceRange_one, pick_run, List.size_toArray] <;> rfl
/-- xs[lo:hi] of a list: a new list -/
def rSlL (K : PySem.W.Frag) : V → Option Int → Option Int → Hp → VK → Prop := fun x lo hi H Q => ∃ a xs, x = .ref a ∧ SqL K H a xs ∧ ∀ p, H p = none → Q (.ref p) (upd H p (.lst (cutV xs lo hi)))
theorem sl_list : SlR X (rSlL X.K) := by
  intro pins s σ H x v vl vu lo hi sl Q I rx hs pl pu h
  obtain ⟨a, xs, rfl, hx, q⟩ := h
  cases rx
  obtain ⟨its, r, ht, hz⟩ := I.list hx
  have hlen := r.length
  refine ⟨"list", _, slot_list_getitem.lookup, ht.isList.typeIs, ?_⟩
  refine wpAny_getItem_list_slice ht.isList hs pl pu .none (by simp) ?_ (by rw [List.size_toArray] <;> omega)
  rw [slicePick_cut, ← hlen]
  refine ⟨.ref s.heap.objs.size, _, I.laid (t' := s.toks) (o := .lst (cutV xs lo hi)) (fun b ob q => Heap.get?_push_of_some _ q) (Nat.le_refl _) ?_, rfl, q _ (I.hok.fresh (Nat.le_refl _))⟩
  exact ⟨Nat.le_trans (cutV_length xs lo hi) hz, _, 0, (r.drop (HT.sIx xs.length 0 lo)).take (HT.sIx xs.length xs.length hi - HT.sIx xs.length 0 lo), Heap.get?_push_size _ rfl⟩

/-! ### in, not in: flat items -/
def flatV : V → Bool
  | .non => true
  | .bl _ => true
  | .int _ => true
  | .str _ => true
  | _ => false
/-- == of flat values -/
def eqV : V → V → Bool
  | .non, .non => true
  | .bl a, .bl b => a == b
  | .bl a, .int b => (if a then 1 else 0) == b
  | .int a, .bl b => a == (if b then 1 else 0)
  | .int a, .int b => a == b
  | .str a, .str b => a == b
  | _, _ => false
/-- the items' answers, read off the values (a value's own answer does not lean on its token) -/
def eqU (x : V) (u : Value) : Bool := match u with
  | .none => eqV .non x
  | .bool b => eqV (.bl b) x
  | .int i _ => eqV (.int i) x
  | .str z _ => eqV (.str z) x
  | _ => false
def inV (x : V) (xs : List V) : Bool := xs.any fun y => eqV y x
/-- x in a list or tuple of flat items -/
def rIn (K : PySem.W.Frag) (neg : Bool) : R2 := fun x y H Q => ∃ p xs, y = .ref p ∧ (SqL K H p xs ∨ SqT K H p xs) ∧ flatV x = true ∧ xs.all flatV = true ∧ Q (.bl (if neg then !inV x xs else inV x xs)) H
/-! ### len, list(x), tuple(x) of any list or tuple that is read -/
theorem call_len_seq : CallR X (.builtin "len") (fun xs H Q => ∃ p ys, xs = [.ref p] ∧ (SqL X.K H p ys ∨ SqT X.K H p ys) ∧ Q (.int ys.length) H) := by
  intro pins s σ H xs us Q I r h
  obtain ⟨p, ys, rfl, hq, q⟩ := h
  obtain ⟨u, rfl, rx⟩ := vals1 r
  cases rx
  have hn := line63
  rcases hq with hq | hq
  · obtain ⟨its, r', pl, hz⟩ := I.list hq
    have hlen := r'.length
    exact Calls.call_len_list pl.isList (by simp only [List.size_toArray] <;> omega) ⟨.int ys.length, H, I.tok _, ⟨s.toks + 1, by rw [List.size_toArray, hlen]⟩, q⟩
  · obtain ⟨its, r', pl, hz⟩ := I.tuple hq
    have hlen := r'.length
    exact len_tuple pl (by simp only [List.size_toArray] <;> omega) ⟨.int ys.length, H, I.tok _, ⟨s.toks + 1, by rw [List.size_toArray, hlen]⟩, q⟩
theorem call_list_of : CallR X (.type "list") (fun xs H Q => ∃ p ys, xs = [.ref p] ∧ (SqL X.K H p ys ∨ SqT X.K H p ys) ∧ ∀ l, H l = none → Q (.ref l) (upd H l (.lst ys))) := by
  intro pins s σ H xs us Q I r h
  obtain ⟨p, ys, rfl, hq, q⟩ := h
  obtain ⟨u, rfl, rx⟩ := vals1 r
  cases rx
  have fin : ∀ (its : List Value), Vals ys its → ys.length ≤ sizeLine → ∀ (h' : Heap) (c' : Nat), (∀ b o', s.heap.get? b = some o' → h'.get? b = some o') →
      h'.get? s.heap.objs.size = some { cls := .type "list", dict := none, data := .seq its.toArray c', slots := #[] } → EP X pins σ Q (.ref s.heap.objs.size) { s with heap := h' } := fun its r' hz h' c' kp e =>
    ⟨.ref s.heap.objs.size, _, I.laid (t' := s.toks) kp (Nat.le_refl _) (show ObjOk X.prog X.w _ h' _ (.lst ys) from ⟨hz, its, c', r', e⟩), rfl, q _ (I.hok.fresh (Nat.le_refl _))⟩
  rcases hq with hq | hq
  · obtain ⟨its, r', pl, hz⟩ := I.list hq
    have hlen := r'.length
    obtain ⟨o, ho, hc, n, hd⟩ := pl.isList
    exact call_list_seq p (.inl rfl) ho hc hd (fun h' c' kp e => fin its r' hz h' c' kp e) (by simp only [List.size_toArray] <;> omega)
  · obtain ⟨its, r', pl, hz⟩ := I.tuple hq
    have hlen := r'.length
    obtain ⟨o, ho, hc, n, hd⟩ := pl
    exact call_list_seq p (.inr rfl) ho hc hd (fun h' c' kp e => fin its r' hz h' c' kp e) (by simp only [List.size_toArray] <;> omega)
/-! ### the call of a builtin's method: o.m(..) -/
/-- the value is of that builtin type -/
def tyV (K : PySem.W.Frag) (T : String) (x : V) (H : Hp) : Prop := match x with
  | .str _ => T = "str"
  | .int _ => T = "int"
  | .ref p => (T = "list" ∧ ∃ xs, SqL K H p xs) ∨ (T = "tuple" ∧ ∃ o, K.lookup p = some o ∧ o.cls = .type "tuple" ∧ o.dict = none) ∨
      (T = "dict" ∧ ((∃ kvs, H p = some (.dK kvs)) ∨ ∃ kvs, H p = some (.dT kvs))) ∨ (T = "set" ∧ ∃ S n, H p = some (.set S n))
  | _ => False
theorem tyV_is {pins : List (Addr × Obj)} {σ : St} {H : Hp} {s : Shared} {T : String} {x : V} {v : Value} (I : Inv X pins σ H s) (r : RelV x v) (ty : tyV X.K T x H) :
    s.TypeIs v T ∧ ∀ a, v = .ref a → ∃ ob, s.heap.get? a = some ob ∧ ob.dict = none := by
  cases x with
  | str z =>
    obtain ⟨t, rfl⟩ := r
    cases (show T = "str" from ty)
    exact ⟨typeIs_str s z t, fun _ e => nomatch e⟩
  | int i =>
    obtain ⟨t, rfl⟩ := r
    cases (show T = "int" from ty)
    exact ⟨typeIs_int s i t, fun _ e => nomatch e⟩
  | ref p =>
    cases r
    rcases ty with ⟨rfl, xs, hq⟩ | ⟨rfl, o, hk, hc, hd⟩ | ⟨rfl, hk⟩ | ⟨rfl, S, n, hk⟩
    · obtain ⟨its, _, pl, _⟩ := I.list hq
      refine ⟨pl.isList.typeIs, fun a e => ?_⟩
      cases e
      obtain ⟨o, n, e, c, hd, _⟩ := pl
      exact ⟨o, e, hd⟩
    · refine ⟨⟨o, I.kIn p o hk, hc⟩, fun a e => ?_⟩
      cases e
      exact ⟨o, I.kIn _ o hk, hd⟩
    · have z : ∃ o, s.heap.get? p = some o ∧ o.ExactDict := by
        rcases hk with ⟨kvs, hk⟩ | ⟨kvs, hk⟩
        · obtain ⟨_, _, _, _, o, _, _, e, ex, _⟩ := I.hok p _ hk
          exact ⟨o, e, ex⟩
        · obtain ⟨_, _, _, _, o, _, _, e, ex, _⟩ := I.hok p _ hk
          exact ⟨o, e, ex⟩
      obtain ⟨o, e, ex⟩ := z
      refine ⟨⟨o, e, ex.1⟩, fun a e2 => ?_⟩
      cases e2
      exact ⟨o, e, ex.2.1⟩
    · obtain ⟨o, _, _, _, e, ex, _⟩ := I.hok p _ hk
      refine ⟨⟨o, e, ex.1⟩, fun a e2 => ?_⟩
      cases e2
      exact ⟨o, e, ex.2.1⟩
  | _ => exact False.elim ty
def tBM0 (K : PySem.W.Frag) (T : String) (r : V → List V → Hp → VK → Prop) (to : TE) : TE := fun σ H Q => to σ H fun x H1 => tyV K T x H1 ∧ r x [] H1 Q
def tBM (K : PySem.W.Frag) (T : String) (r : V → List V → Hp → VK → Prop) (to : TE) (t : TA) : TE := fun σ H Q => to σ H fun x H1 => tyV K T x H1 ∧ t σ H1 fun xs H2 => r x xs H2 Q
variable {o e : Expr} {es : List Expr} {to : TE} {t : TA} {name : Str} {apos cpos : Pos} {T id : String} {r : V → List V → Hp → VK → Prop}
theorem pe_bm (pa : PlainAttrs T) (slot : Slot T name id) (hty : typeOf (.builtin id) = pure (.type "method_descriptor")) (hm : MtR X id r) (ho : PE X o to) (ha : PA X (e :: es) t)
    (hbase : attributeBase o name X.env (eval o X.env) = eval o X.env := by rfl)
    (hfew : ((backTo cpos (starEach (e :: es) X.env)).all (fun x => !x.1) && (backToKw cpos (keywordEach [] X.env)).all (fun x => x.1.isSome)
      && decide ((e :: es).length + ([] : List Keyword).length + (if ([] : List Keyword).isEmpty then 0 else 1) < 30)) = true := by rfl)
    (hline : (apos.endLine == cpos.line) = true := by rfl) (hs : starEach (e :: es) X.env = (false, eval e X.env) :: starEach es X.env := by rfl) (hplain : (backTo cpos (starEach es X.env)).any (·.1) = false := by rfl) :
    PE X (.Call (.Attribute o name apos) (e :: es) [] cpos) (tBM X.K T r to t) := by
  intro pins s σ H Q I h
  refine wpAny_Call_method_late hbase hfew hline rfl (thn (ho pins s σ H _ I h) fun v s1 ⟨x, H1, I1, r1, ty, q1⟩ => ?_)
  obtain ⟨h1, h2⟩ := tyV_is I1 r1 ty
  refine ⟨T, id, pa, slot, hty, h1, h2, ?_⟩
  have hA := ha cpos pins s1 σ H1 _ I1 q1
  rw [hs] at hA ⊢
  refine Calls.callWith_builtin (by show (false || (backTo cpos (starEach es X.env)).any (·.1)) = false; rw [hplain] <;> rfl) (Calls.evalArgs_plain ?_)
  exact thn hA fun us s2 ⟨vs, H2, I2, r2, q2⟩ => hm pins s2 σ H2 x vs v us Q I2 r1 r2 q2
/- xs.append(e), list.index on a module's tuple .. are MtR facts of 06m -/
end
end L2

namespace L2
open PySem PySem.Spec PyProof.Rows

def MtM (X : Cx) (id : String) (r : V → List V → Hp → VK → Prop) : Prop :=
  ∀ (pins : List (Addr × Obj)) (s : Shared) (σ : St) (H : Hp) (x : V) (xs : List V) (v : Value) (us : List Value) (Q : VK), Inv X pins σ H s → RelV x v → Vals xs us → r x xs H Q →
    wpAny (model X.prog X.w) X.A (call (.builtin id) (v :: us)) (EP X pins σ Q) X.xe s

/-! ### lists of values -/
theorem Vals.one : ∀ {x : V} {us : List Value}, Vals [x] us → ∃ u, us = [u] ∧ RelV x u
  | _, _, .cons r .nil => ⟨_, rfl, r⟩
theorem Vals.rep {xs : List V} {us : List Value} (h : Vals xs us) : ∀ k : Nat, Vals (List.replicate k xs).flatten (List.replicate k us).flatten
  | 0 => .nil
  | k + 1 => by
    rw [List.replicate_succ, List.replicate_succ, List.flatten_cons, List.flatten_cons]
    exact Vals.append h (Vals.rep h k)
theorem foldl_rep (its : List Value) : ∀ (k : Nat) (acc : List Value),
    List.foldl (fun x1 x2 => x1 ++ x2) acc.toArray (List.replicate k its.toArray) = (acc ++ (List.replicate k its).flatten).toArray
  | 0, acc => by simp
  | k + 1, acc => by
    have e : acc.toArray ++ its.toArray = (acc ++ its).toArray := by simp
    have e2 : (acc ++ its) ++ (List.replicate k its).flatten = acc ++ (List.replicate (k + 1) its).flatten := by
      rw [List.replicate_succ, List.flatten_cons, List.append_assoc]
    rw [← e2, ← foldl_rep its k (acc ++ its), ← e, List.replicate_succ, List.foldl_cons]

section
variable {X : Cx} {pins : List (Addr × Obj)} {σ : St} {H : Hp} {s : Shared} {l b : Addr} {xs ys zs : List V}

/-! ### the two steps: a tracked list is rewritten, a new list is laid -/
theorem Inv.lset {its its' : List Value} {n : Nat} {f : Array Value → Array Value} {t' : Nat} (I : Inv X pins σ H s) (hH : H l = some (.lst xs))
    (e : s.heap.get? l = some { cls := .type "list", data := .seq its.toArray n }) (hf : f its.toArray = its'.toArray) (hv : Vals ys its') (hz : ys.length ≤ sizeLine) :
    Inv X pins σ (upd H l (.lst ys)) { s with heap := s.heap.update l (Obj.mapSeq f), toks := t' } := by
  have q := PySem.IsL.update e f
  rw [hf] at q
  refine I.write (x := l) (e := l) (by rw [hH]; exact trivial) (.inl rfl) (fun b' u hb hu => (Heap.get?_update_other s.heap (Obj.mapSeq f) (Ne.symm hb)).trans hu) ⟨_, q⟩ ?_
  exact ⟨hz, its', _, hv, q⟩
theorem Inv.lnew {its : List Value} {t' : Nat} (I : Inv X pins σ H s) (hv : Vals ys its) (hz : ys.length ≤ sizeLine) :
    Inv X pins σ (upd H s.heap.objs.size (.lst ys)) { s with heap := s.heap.push { cls := .type "list", data := .seq its.toArray }, toks := t' } :=
  I.laid (fun _ _ q => Heap.get?_push_of_some _ q) (Nat.le_refl _) ⟨hz, its, 0, hv, Heap.get?_push_size _ rfl⟩
theorem Inv.fresh (I : Inv X pins σ H s) : H s.heap.objs.size = none := I.hok.fresh (Nat.le_refl _)
theorem Inv.lstM (I : Inv X pins σ H s) (hH : H l = some (.lst xs)) : xs.length ≤ sizeLine ∧ ∃ (its : List Value) (n : Nat), Vals xs its ∧ xs.length = its.length ∧ s.heap.get? l = some { cls := .type "list", data := .seq its.toArray n } := by
  obtain ⟨z, its, n, r, e⟩ := I.hok l _ hH
  exact ⟨z, its, n, r, r.length, e⟩

theorem notLongL {n : Nat} (h : n ≤ sizeLine) : Builtin.List.listTooLong n = false := by
  unfold Builtin.List.listTooLong
  exact decide_eq_false (by omega)
end

section
variable {X : Cx}

/-! ### methods -/
def rAppend : V → List V → Hp → VK → Prop := fun x vs H Q => ∃ l xs y, x = .ref l ∧ vs = [y] ∧ H l = some (.lst xs) ∧ xs.length < sizeLine ∧ Q .non (upd H l (.lst (xs ++ [y])))
theorem mt_append : MtM X "list.append" rAppend := by
  intro pins s σ H x vs v us Q I rx rv h
  obtain ⟨l, xs, y, rfl, rfl, hH, hz, q⟩ := h
  cases rx
  obtain ⟨u, rfl, ru⟩ := rv.one
  obtain ⟨z, its, n, r, hl, e⟩ := I.lstM hH
  refine call_meets F.slot_list_append ⟨_, e, rfl⟩ F.entry_list_append (F.args_list_append_2 _ _) (PySem.list_append l its.toArray n u (by rw [List.size_toArray]; omega)) ⟨e, ?_⟩
  refine ⟨.non, _, I.lset (its' := its ++ [u]) hH e (by simp) (r.append (.cons ru .nil)) ?_, rfl, q⟩
  rw [List.length_append, List.length_singleton]
  omega

def rExtend : V → List V → Hp → VK → Prop := fun x vs H Q => ∃ l b xs zs, x = .ref l ∧ vs = [.ref b] ∧ H l = some (.lst xs) ∧ H b = some (.lst zs) ∧ xs.length + zs.length ≤ sizeLine ∧ Q .non (upd H l (.lst (xs ++ zs)))
def rPop : V → List V → Hp → VK → Prop := fun x vs H Q => ∃ l xs y, x = .ref l ∧ vs = [] ∧ H l = some (.lst xs) ∧ xs[xs.length - 1]? = some y ∧ Q y (upd H l (.lst xs.dropLast))
def rPopAt : V → List V → Hp → VK → Prop := fun x vs H Q => ∃ l xs i k y, x = .ref l ∧ vs = [.int i] ∧ H l = some (.lst xs) ∧ -(2 ^ 63) ≤ i ∧ i < 2 ^ 63 ∧ seqIndex? i xs.length = some k ∧ xs[k]? = some y ∧ Q y (upd H l (.lst (xs.eraseIdx k)))
def rReverse : V → List V → Hp → VK → Prop := fun x vs H Q => ∃ l xs, x = .ref l ∧ vs = [] ∧ H l = some (.lst xs) ∧ Q .non (upd H l (.lst xs.reverse))
def rClear : V → List V → Hp → VK → Prop := fun x vs H Q => ∃ l xs, x = .ref l ∧ vs = [] ∧ H l = some (.lst xs) ∧ Q .non (upd H l (.lst []))
/-! ### list + list, list += list, list * int -/
def rCat : R2 := fun x y H Q => ∃ l b xs zs, x = .ref l ∧ y = .ref b ∧ H l = some (.lst xs) ∧ H b = some (.lst zs) ∧ xs.length + zs.length ≤ sizeLine ∧ ∀ p, H p = none → Q (.ref p) (upd H p (.lst (xs ++ zs)))
theorem op_cat : OpR X (binaryOp .Add) rCat := by
  intro pins s σ H x y v u Q I rx ry h
  obtain ⟨l, b, xs, zs, rfl, rfl, hH, hB, hz, q⟩ := h
  cases rx
  cases ry
  obtain ⟨z, its, n, r, hl, e⟩ := I.lstM hH
  obtain ⟨z2, its2, n2, r2, hl2, e2⟩ := I.lstM hB
  refine PySem.P.add_list e e2 ?_ (by rw [List.size_toArray, List.size_toArray]; omega)
  have ea : its.toArray ++ its2.toArray = (its ++ its2).toArray := by simp
  rw [ea]
  exact ⟨.ref _, _, I.lnew (t' := s.toks) (r.append r2) (by rw [List.length_append]; omega), rfl, q _ I.fresh⟩
/-- a list times an int (a negative one is nothing) -/
def rRep : R2 := fun x y H Q => ∃ l k xs, x = .ref l ∧ y = .int k ∧ H l = some (.lst xs) ∧ -(2 ^ 63) ≤ k ∧ k < 2 ^ 63 ∧ xs.length * k.toNat ≤ sizeLine ∧
  ∀ p, H p = none → Q (.ref p) (upd H p (.lst (List.replicate k.toNat xs).flatten))
theorem len_rep {α : Type} (xs : List α) (k : Nat) : (List.replicate k xs).flatten.length = k * xs.length := by
  induction k with
  | zero => simp
  | succ k ih => rw [List.replicate_succ, List.flatten_cons, List.length_append, ih, Nat.succ_mul, Nat.add_comm]
theorem op_rep : OpR X (binaryOp .Mult) rRep := by
  intro pins s σ H x y v u Q I rx ry h
  obtain ⟨l, k, xs, rfl, rfl, hH, h1, h2, hz, q⟩ := h
  cases rx
  obtain ⟨t, rfl⟩ := ry
  obtain ⟨z, its, n, r, hl, e⟩ := I.lstM hH
  have hlen : its.toArray.size * k.toNat ≤ sizeLine := by rw [List.size_toArray, ← hl]; exact hz
  have hcap : ¬ its.toArray.size * k.toNat > (2 ^ 63 - 1) / 8 := by
    have : (sizeLine : Nat) ≤ (2 ^ 63 - 1) / 8 := by decide
    omega
  have hfit : ¬ (!Builtin.List.listFitsIndex k) = true := by
    rw [fitsIndex_both h1 h2]
    exact Bool.false_ne_true
  have hlong : ¬ Builtin.List.listTooLong (its.toArray.size * k.toNat) = true := by
    rw [notLongL hlen]
    exact Bool.false_ne_true
  have hnew : List.foldl (fun x1 x2 => x1 ++ x2) #[] (List.replicate (if its.toArray.isEmpty = true then 0 else k.toNat) its.toArray) = (List.replicate k.toNat its).flatten.toArray := by
    have f0 : ∀ m : Nat, List.foldl (fun x1 x2 => x1 ++ x2) #[] (List.replicate m its.toArray) = (List.replicate m its).flatten.toArray := fun m => by
      have := foldl_rep its m []
      rw [List.nil_append] at this
      exact this
    rw [f0]
    cases its with
    | nil => simp
    | cons a r' => rw [if_neg (by simp)]
  refine wpAny_binaryOp_repeat_ref (T := "list") (U := "int") (by decide) ⟨_, e, rfl⟩ (fun s' => typeIs_int s' k t) noFill_list_mul F.fills_int_mul F.slot_int_rmul repeat_list F.slot_int_index.lookup
    (call_meets F.slot_int_rmul (typeIs_int s k t) F.entry_int_rmul (F.args_int_rmul_2 _ _) (int___rmul___int_list k t l its.toArray n)
      ⟨e, rfl, ⟨_, e, rfl⟩, call_meets F.slot_list_mul ⟨_, e, rfl⟩ F.entry_list_mul (F.args_list_mul_2 _ _) (AutoListH.list___mul___list_int_3 l its.toArray n k t hfit hcap hlong) ⟨e, ?_⟩⟩)
  rw [hnew]
  exact ⟨.ref _, _, I.lnew (t' := s.toks) (r.rep k.toNat) (by rw [len_rep, Nat.mul_comm]; exact hz), rfl, q _ I.fresh⟩

/-! ### del xs[i] -/
end

/-! ### xs[a:b] = ys -/
section
variable {prog : Program} {w : World} {A : Around} {E : Value → Shared → Prop} {s : Shared}
set_option maxRecDepth 100000 in
end

section
variable {X : Cx}
end
end L2

namespace Att
open PySem PySem.W PySem.Calls PyProof.Rows

/-! ### the script -/
theorem ints_of_wellAll {P : Params} {h : Heap} : ∀ (ns : List Int) (vs : List Value), WellAll P h vs (ns.map WData.int) → IntsAre vs ns := by
  intro ns
  induction ns with
  | nil =>
    intro vs w
    rw [List.map_nil] at w
    cases w
    exact .nil
  | cons n ns ih =>
    intro vs w
    rw [List.map_cons] at w
    cases w with
    | cons a b =>
      cases a
      exact .cons _ _ (ih _ b)

theorem script_of {l : OpenLaw} {n : Nat} (hn : l.most = some n) {P : Params} {h : Heap} {args : List WData} {vals : List Value}
    (hpre : l.row.toRowW.claim.pre args = true) (hwl : WellAll P h vals args) :
    ∃ a vs ns, vals = [Value.ref a] ∧ args = [WData.list (ns.map WData.int)] ∧ h.get? a = some { cls := .type "list", data := .seq vs.toArray } ∧ IntsAre vs ns ∧ ns.length ≤ n := by
  have hsh : WShape.hasAll [] args [.list .int] = true := (pre_splitW hpre).1
  have hc : l.pre.holds [] { args := args } = true := (pre_splitW hpre).2
  obtain ⟨d, r, rfl, h1, h2⟩ := hasAllW_cons hsh
  obtain rfl := hasAllW_nil h2
  obtain ⟨xs, rfl, h3⟩ := hasW_list h1
  obtain ⟨ns, rfl⟩ := items_int h3
  have hlen : ns.length ≤ n := by
    unfold OpenLaw.pre at hc
    have h4 : (WTm.not (.lt (.lit (.int (n : Int))) (.len (.arg 0)))).holds [] { args := [.list (ns.map .int)] } = true := by
      have h4 := (holds_andW hc).1
      rw [hn] at h4
      exact h4
    have h5 := condW_of h4 (w_not (w_lt w_lit (w_len_list (w_arg rfl))))
    rw [List.length_map] at h5
    refine Nat.le_of_not_lt fun q => ?_
    have q' : (n : Int) < ((ns.length : Nat) : Int) := by omega
    first
      | (rw [decide_eq_true q'] at h5; exact absurd h5 (by decide))
      | (simp at h5; omega)
  cases hwl with
  | cons w1 w2 =>
    cases w2
    cases w1 with
    | list ho hall => exact ⟨_, _, ns, rfl, rfl, ho, ints_of_wellAll ns _ hall, hlen⟩

theorem post_true (l : OpenLaw) (args : List WData) : l.row.toRowW.claim.post args (.bool true) args = true :=
  postW_of (r := l.row.toRowW) (X := (true == true))
    (show WShape.has [] (.bool true) .bool = true by first | rfl | decide | simp [WShape.has, WShape.arms, WShape.armsAll])
    (show (WTm.eq .res (.lit (.bool true))).value [] { args := args, res := some (.bool true), after := args } = some (.bool (true == true)) from w_eq_bool (w_res rfl) w_lit) rfl

/-! ### the attachment: holds_open's last premise (the goal 'hc' behind k_head) from a wpAny of the law's body -/
/-- the same from a codeAny of the CALL (for a layer whose function contracts speak of calls) -/
theorem attach_call {l : OpenLaw} {n : Nat} {q : Program} {loose : List Str} {XP : (Str → Option Value) → Heap → Prop} {YP : World → Heap → Prop} {d : DefRec}
    (hn : l.most = some n) (hdf : d.params.defaults = [])
    (call : ∀ (w : World) (s₀ s₁ : Shared) (mg mb : Str → Option Value) (fa : Addr) (o : Obj) (pm cd doc : Value) (a : Addr) (vs : List Value) (ns : List Int),
      Ground q loose [] XP w s₀ mg mb s₁.heap → YP w s₁.heap →
      s₁.heap.get? fa = some o → o.data = .func (docDef d.name d.params d.body d.scope pm cd doc) → s₁.heap.CodeRec cd d.name → mg d.name = some (.ref fa) →
      s₁.heap.get? a = some { cls := .type "list", data := .seq vs.toArray } → IntsAre vs ns → ns.length ≤ n → s₁.gens = #[] →
      codeAny (model l.prog w) callerA (.call (.ref fa) ⟨[.ref a], []⟩) (fun r s' => r = .ok (.ret (.bool true)) ∧ OldK s₁.heap s'.heap ∧ s'.os = s₁.os ∧ AllBare s'.gens) s₁) :
    WalkO q loose XP YP l.row.toRowW d [] (fun f vs => PySem.call f vs) := by
  intro w s₀ s₁ mg mb G Y fa o pm cd doc dV kV ho hd hcd hD hmg hg args vals as hpre hlay hrd hwl hlo
  obtain rfl : dV = .none := Dflts.none hD hdf
  obtain rfl : kV = .none := Dflts.noKw hD
  obtain ⟨a, vs, ns, rfl, rfl, hobj, hints, hlen⟩ := script_of hn hpre hwl
  refine enter_call (codeAny_mono (call w s₀ s₁ mg mb fa o pm cd doc a vs ns G Y ho (fd_plain hd) hcd hmg hobj hints hlen hg) fun r s' hq => ?_)
  obtain ⟨rfl, h2, h3, h4⟩ := hq
  exact ⟨.inl ⟨.bool true, .bool true, [], rfl, fun _ => rfl, .bool true, post_true l _, fun _ => ⟨List.Pairwise.nil, fun _ hm => (nomatch hm)⟩⟩, h2, h3, h4⟩

/-! ### rules over ANY heap (no ledger) from facts about the written part K: the library's own take a ledger (News) for what they write -/
section
variable {prog : Program} {w : World} {A : Around} {E : Value → Shared → Prop} {s : Shared} {K : Frag}

/-! the whole heap as the ledger: makes every rule that writes through a ledger a rule over any heap -/
def noObjs (h : Heap) : Heap := { h with objs := #[] }
def ledger (h : Heap) (L d : Addr) : List (Addr × Obj) := (List.range h.objs.size).filterMap fun a => if a = L ∨ a = d then none else (h.get? a).map fun o => (a, o)
end
end Att

namespace L2
open PySem PySem.Spec PyProof.Rows

theorem vals_ints : ∀ {vs : List Value} {ns : List Int}, IntsAre vs ns → Vals (ns.map V.int) vs
  | _, _, .nil => .nil
  | _, _, .cons n t h => .cons ⟨t, rfl⟩ (vals_ints h)

/-- nothing is tracked but the script, known to the object (or it is an object of the module) -/
def Only (H : Hp) : Prop := ∀ b, H b = none ∨ ∃ o xs, H b = some (.frz o (.lst xs))

/-- THE HEAD: the law's promise, at the heap behind the top. F, the promise of the law's def, may use that base is part of the heap (so K.In base, base.Ns mainGlobals mg stand in Mod) -/
theorem law_call {P : Program} {w : World} {K : PySem.W.Frag} {mg mb : Str → Option Value} {CX : CXT} {k : Nat} {fa a : Addr} {fd : FuncData} {x : Str} {sp : Sp} {s₁ : Shared} {vs : List Value} {ns : List Int}
    (KX : K.In s₁.heap) (hns : s₁.heap.Ns mainGlobals mg) (hb : s₁.heap.Ns builtinsNs mb) (hbb : ∀ x : Str, x ≠ "__name__" → mb x = bootBuiltins x) (hlim : s₁.heap.NoLimit) (hg : s₁.gens = #[])
    (ha : s₁.heap.get? a = some { cls := .type "list", data := .seq vs.toArray }) (hi : IntsAre vs ns) (hl : ns.length ≤ sizeLine) (hr : Room k callerA)
    (F : ∀ base : Heap, K.In base → base.Ns mainGlobals mg → FnOk P w K mg base CX k fa fd [x] sp) (hbind : ∀ (s : Shared) (u : Value), BindsTo s fd ⟨[u], []⟩ [(x, u)])
    (hsp : ∀ H : Hp, Only H → SqL K H a (ns.map V.int) → sp [.ref a] H (fun v _ => v = .bl true) fun _ _ _ => False)
    (hCX : ∀ H e s', CX [] H s₁ (fun _ _ _ => False) e s' → False) :
    codeAny (model P w) callerA (.call (.ref fa) ⟨[.ref a], []⟩) (fun r s' => r = .ok (.ret (.bool true)) ∧ OldK s₁.heap s'.heap ∧ s'.os = s₁.os ∧ AllBare s'.gens) s₁ := by
  have rv := vals_ints hi
  have lenV := hi.length
  -- from an abstract heap in which nothing but the script may be tracked
  have core : ∀ H : Hp, Only H → SqL K H a (ns.map V.int) → HOk P w H s₁.heap → (∀ b, H b ≠ none → b = a) → (H a ≠ none → K.lookup a = none) →
      codeAny (model P w) callerA (.call (.ref fa) ⟨[.ref a], []⟩) (fun r s' => r = .ok (.ret (.bool true)) ∧ OldK s₁.heap s'.heap ∧ s'.os = s₁.os ∧ AllBare s'.gens) s₁ := by
    intro H hO hS hok hA hK
    have base_of : ∀ {b : Addr} {o : Obj}, s₁.heap.get? b = some o → H b = none → (hidT s₁.heap H).get? b = some o := fun e n => hidT_get e n
    have noA : ∀ {b : Addr} {o : Obj} {es : Array DictEntry} {ep : Nat}, s₁.heap.get? b = some o → o.data = .dict es ep → H b = none := fun {b o es ep} e d => by
      cases q : H b with
      | none => rfl
      | some u =>
        have e' : b = a := hA b (by rw [q]; simp)
        subst e'
        rw [ha] at e; cases e
        have d' : Data.seq vs.toArray _ = Data.dict es ep := d
        cases d'
    have nsK : ∀ {b : Addr} {m : Str → Option Value}, s₁.heap.Ns b m → (hidT s₁.heap H).Ns b m := fun {b m} ⟨o, es, ep, e, d, r⟩ => ⟨o, es, ep, base_of e (noA e d), d, r⟩
    have hKb : K.In (hidT s₁.heap H) := fun b o e => base_of (KX b o e) (by
      cases q : H b with
      | none => rfl
      | some u =>
        have e' : b = a := hA b (by rw [q]; simp)
        subst e'
        rw [hK (by rw [q]; simp)] at e; cases e)
    have hM : Mod K mg (hidT s₁.heap H) := ⟨hKb, nsK hns, ⟨mb, nsK hb, hbb⟩, let ⟨mc, h1, h2⟩ := hlim; ⟨mc, nsK h1, h2⟩⟩
    have e0 : Env0 P w K mg (hidT s₁.heap H) callerA [] s₁ H := ⟨rfl, hM, fun b o e => of_hidT e, Nat.le_of_eq (hidT_size _ _), trivial, fun b hb => absurd (show b ∈ ([] : List Addr) from hb) (by simp), hok, .of_eq hg⟩
    refine codeAny_mono ((F _ hKb (nsK hns)).run callerA [] s₁ H ⟨[.ref a], []⟩ [.ref a] [.ref a] _ _ hr e0 (hbind s₁ (.ref a)) (.cons rfl .nil) (hsp H hO hS)) fun r s' h => ?_
    cases r with
    | error e => exact (hCX H e s' h).elim
    | ok fl =>
      cases fl with
      | next => exact False.elim h
      | brk => exact False.elim h
      | cont => exact False.elim h
      | ret u =>
        obtain ⟨v, H', os, bare, un, hok', r', q⟩ := h
        have q' : v = .bl true := q
        subst q'
        obtain rfl : u = Value.bool true := r'
        refine ⟨rfl, OldK.of_keep fun b o e => ?_, os, bare⟩
        cases q : H b with
        | none => exact un.keep b o e q (by intro z; exact absurd (show b ∈ ([] : List Addr) from z) (by simp)) (by simp)
        | some u =>
          rcases hO b with z | ⟨ob, xs, z⟩
          · rw [q] at z; cases z
          · have z2 := un.frzs b ob _ z
            obtain ⟨e1, _⟩ := hok b _ z
            obtain ⟨e2, _⟩ := hok' b _ z2
            rw [e] at e1; cases e1
            exact e2
  cases hk : K.lookup a with
  | some o =>
    -- the script is one of the module's own objects
    have e := KX a o hk
    rw [ha] at e
    cases e
    refine core (fun _ => none) (fun _ => .inl rfl) (.inr ⟨_, vs.toArray, _, hk, rfl, rfl, rfl, by rw [List.size_toArray, lenV]; exact hl, by simpa using rv⟩) (fun b u z => by have z' : (none : Option HO) = some u := z; cases z') (fun b z => absurd rfl z) fun z => absurd rfl z
  | none =>
    refine core (fun b => if b = a then some (.frz { cls := .type "list", data := .seq vs.toArray } (.lst (ns.map V.int))) else none) (fun b => ?_) (.inl (.inr ⟨{ cls := .type "list", data := .seq vs.toArray }, if_pos rfl⟩)) (fun b u z => ?_) (fun b z => ?_) fun _ => hk
    · by_cases hb : b = a
      · exact .inr ⟨_, _, if_pos hb⟩
      · exact .inl (if_neg hb)
    · by_cases hb : b = a
      · have z' := (if_pos hb).symm.trans z
        cases z'
        subst hb
        exact ⟨ha, by rw [List.length_map]; exact hl, vs, _, rv, ha⟩
      · have z' := (if_neg hb).symm.trans z
        cases z'
    · by_cases hb : b = a
      · exact hb
      · exact absurd (if_neg hb) z
end L2

namespace L2
open PySem PySem.Spec PyProof.Rows

abbrev KOf {K : PySem.W.Frag} {h : Heap} (_ : K.In h) : PySem.W.Frag := K

/-- the goal that k_head leaves (case hc), from the law's promise. F gives the function object fd (K's own) once, then the promise over every base -/
theorem walk_of {l : PySem.W.OpenLaw} {n k : Nat} {q : Program} {loose : List Str} {XP : (Str → Option Value) → Heap → Prop} {YP : World → Heap → Prop} {d : DefRec} {K : Params → PySem.W.Frag} {CX : World → CXT} {sp : World → Sp} {x : Str}
    (hn : l.most = some n) (hn2 : n ≤ sizeLine) (hdf : d.params.defaults = []) (hr : Room k callerA)
    (hY : ∀ (w : World) (h : Heap), YP w h → (K w.params).In h)
    (F : ∀ (w : World) (mg : Str → Option Value) (fa : Addr) (h : Heap), (K w.params).In h → h.Ns mainGlobals mg → mg d.name = some (.ref fa) →
      ∃ fd : FuncData, (∀ (s : Shared) (u : Value), BindsTo s fd ⟨[u], []⟩ [(x, u)]) ∧
        ∀ base : Heap, (K w.params).In base → base.Ns mainGlobals mg → FnOk l.prog w (K w.params) mg base (CX w) k fa fd [x] (sp w))
    (hsp : ∀ (w : World) (H : Hp) (a : Addr) (ns : List Int), ns.length ≤ n → Only H → SqL (K w.params) H a (ns.map V.int) → sp w [.ref a] H (fun v _ => v = .bl true) fun _ _ _ => False)
    (hCX : ∀ (w : World) (H : Hp) (s : Shared) (e : Value) (s' : Shared), CX w [] H s (fun _ _ _ => False) e s' → False) :
    PySem.W.WalkO q loose XP YP l.row.toRowW d [] (fun f vs => PySem.call f vs) := by
  refine Att.attach_call hn hdf fun w s₀ s₁ mg mb fa o pm cd doc a vs ns G Y ho hd hcd hmg hobj hints hlen hg => ?_
  have KX := hY w _ Y
  obtain ⟨fd, hb, hF⟩ := F w mg fa _ KX G.T.g hmg
  exact law_call KX G.T.g G.T.b G.T.builtins G.T.nolimit hg hobj hints (Nat.le_trans hlen hn2) hr hF hb (fun H hO hS => hsp w H a ns hlen hO hS) fun H e s' => hCX w H s₁ e s'
end L2

/- THE LAST THEOREM (shape; LID, My.* are yours):
   My.Adr: a structure of the addresses that your layer names (classes, functions); My.Txt K t: a structure (Prop) of the equations over K;
   My.txt_mk : {K} {implicit addresses ..} (e1 : nsIn K mainGlobals "law" = some (some (.ref f))) (e2 : K.lookup f = some ⟨oc, od, .func (fnOf "law" "law" params body scope dV kV doc pm an cdv ct), sl⟩) (e3 : codeIn K cdv "law" = true) .. : ∃ t, My.Txt K t

set_option maxRecDepth 100000 in
set_option maxHeartbeats 0 in
theorem PySem.Challenge.cw_LID_holds : PySem.Challenge.rw_LID.Holds := by
  w_on; o_law; k_head; (case hw => w_witness2)
  k_fill
  refine L2.walk_of (l := PySem.Challenge.rw_LID) (n := 63) (k := 40) (x := "script") (CX := fun w => ..) (sp := fun _ => My.sp_law) rfl (by decide) rfl ⟨rfl, by decide, by decide⟩ (fun w h Y => PySem.W.kIn_of Y) ?F ?S ?C
  case F =>
    intro w mg fa h KX G hmg
    have T : ∃ t, My.Txt (L2.KOf KX) t := by
      dsimp only [L2.KOf]                          -- K must stand as «<heap const> w.params» for k_is
      refine' My.txt_mk ?e1 ?e2 ?e3 ..
      (case e1 => PySem.W.k_is)                    -- in the order: a name -> its address -> its object -> its parts
      (case e2 => PySem.W.k_is)
      ..
    obtain ⟨t, T⟩ := T
    have e0 := hmg.symm.trans (PySem.W.mg_of KX G T.law)
    cases e0                                       -- fa is the law's own address
    exact ⟨_, fun s u => .of_eq rfl, fun base kb nb => My.law_fn T kb nb⟩     -- if «.of_eq rfl» comes too early: refine' ⟨_, ?b, fun base kb nb => My.law_fn T kb nb⟩; exact fun s u => .of_eq rfl
  case S => exact fun w H a ns hl hO hS => ..
  case C => exact ..
(the tactic k_is has no namespace: write k_is) -/

/-! SHORT WORDS over the layer: a def of the text, its body, what a loop and a test want. -/
namespace L2
open PySem PySem.Spec PyProof.Rows

/-! ### the text by places -/
/-- the j-th statement of a class's body -/
def inClass (s : Stmt) (j : Nat) : Stmt := match s with
  | .ClassDef _ _ _ body _ _ _ _ _ _ _ => body.getD j (.Pass ⟨0, 0, 0, 0⟩)
  | _ => .Pass ⟨0, 0, 0, 0⟩
def defArgs (s : Stmt) : Arguments := match s with
  | .FunctionDef _ a _ _ _ _ _ _ _ _ => a
  | _ => { posonlyargs := [], args := [], vararg := none, kwonlyargs := [], kw_defaults := [], kwarg := none, defaults := [] }
def defBody (s : Stmt) : List Stmt := match s with
  | .FunctionDef _ _ b _ _ _ _ _ _ _ => b
  | _ => []
def defScope (s : Stmt) : Scope := match s with
  | .FunctionDef _ _ _ _ _ _ sc _ _ _ => sc
  | _ => { kind := .function, names := [], isGenerator := false, isCoroutine := false }

/-! ### no exception leaves a def -/
abbrev CX0 : CXT := fun _ _ _ _ _ _ => False
abbrev E0 : XK := fun _ _ _ => False
theorem pass0 {X : Cx} : Passes CX0 X E0 := fun _ _ _ _ _ _ _ h => h.elim

/-! ### a def (or method) of the text as it stands behind the top -/
structure Fun (K : PySem.W.Frag) (x qual : Str) (st : Stmt) (f : Addr) (fd : FuncData) : Prop where
  ex : ∃ (oc : Value) (od : Option Addr) (kV doc pm : Value) (an : Option Addr) (cdv ct : Value) (osl : Array (Option Value)),
    fd = PySem.W.fnOf x qual (defArgs st) (defBody st) (defScope st) .none kV doc pm an cdv ct ∧ K.lookup f = some ⟨oc, od, .func fd, osl⟩ ∧ PySem.W.codeIn K cdv qual = true
  kp : PySem.W.keepIn K (.ref f) = true
section
variable {P : Program} {w : World} {K : PySem.W.Frag} {mg : Str → Option Value} {base : Heap}
end
theorem hu_of {A : Around} {k : Nat} (hr : Room k A) : A.units + 1 < cLine := Nat.lt_of_le_of_lt (Nat.add_le_add_left (by decide : 1 ≤ 64) _) hr.units
theorem small1000 {n : Nat} (h : n ≤ 1000) : n < sizeLine := Nat.lt_of_le_of_lt h (by decide)

/-! ### expressions in short: the name that stands in the i-th slot -/
section
variable {X : Cx}
theorem pv (i : Nat) {x : Str} {pos : Pos} (hN : X.N[i]? = some x := by rfl) (hv : Vis X.env.scope x := by first | exact Or.inl rfl | exact Or.inr (Or.inl rfl) | exact Or.inr (Or.inr rfl)) (hd : (x == ("__debug__" : Str)) = false := by decide)
    (hcd : (x == ("__classdict__" : Str)) = false := by decide) : PE X (.Name x pos) (tVar i) := pe_var hN hv hd hcd
end

/-! ### tests -/
theorem iteF {A B : Prop} (h : B) : if false = true then A else B := by
  rw [if_neg Bool.false_ne_true]
  exact h
theorem iteT {A B : Prop} (h : A) : if true = true then A else B := by
  rw [if_pos rfl]
  exact h
theorem ite2 {c A B : Prop} [Decidable c] (h1 : c → A) (h2 : ¬ c → B) : if c then A else B := by
  by_cases h : c
  · rw [if_pos h]
    exact h1 h
  · rw [if_neg h]
    exact h2 h
/-! ### heaps -/
/-- all that was tracked is as it was -/
def Same (H H' : Hp) : Prop := ∀ b o, H b = some o → H' b = some o
theorem Same.refl (H : Hp) : Same H H := fun _ _ h => h
theorem Same.trans {H H1 H2 : Hp} (a : Same H H1) (b : Same H1 H2) : Same H H2 := fun c o h => b c o (a c o h)
theorem Same.free {H H' : Hp} (e : Same H H') {l : Addr} (h : H' l = Option.none) : H l = Option.none := by
  cases q : H l with
  | none => rfl
  | some o =>
    rw [e l o q] at h
    cases h
theorem Same.seq {K : PySem.W.Frag} {H H' : Hp} {a : Addr} {xs : List V} (e : Same H H') (h : SqL K H a xs) : SqL K H' a xs := by
  rcases h with (h | ⟨o, h⟩) | h
  · exact .inl (.inl (e _ _ h))
  · exact .inl (.inr ⟨o, e _ _ h⟩)
  · exact .inr h

end L2

set_option Elab.async false
set_option linter.all false
set_option maxRecDepth 100000
set_option maxHeartbeats 1000000
namespace L2
open PySem PySem.Spec PyProof.Rows
section
variable {X : Cx}

/-! isinstance of one class -/
/-! numbers of many bits -/
def Bt (n : Nat) (i : Int) : Prop := i.natAbs < 2 ^ n
theorem intBits_of {n : Nat} {i : Int} (h : Bt n i) : Builtin.Int.intBits i ≤ n := by
  unfold Builtin.Int.intBits
  split
  · exact Nat.zero_le _
  · rename_i h0
    have hp : i.natAbs ≠ 0 := by
      intro z
      apply h0
      simp at z ⊢
      exact z
    have : i.natAbs.log2 < n := (Nat.log2_lt hp).mpr h
    omega
def CBig (i j : Int) : Prop := ∃ n m, Bt n i ∧ Bt m j ∧ n ≤ 1048576 ∧ m ≤ 1048576
theorem CBig.ok {i j : Int} (h : CBig i j) : IntMulOk i j := by
  obtain ⟨n, m, h1, h2, h3, h4⟩ := h
  have e : (2 : Nat) ^ 20 = 1048576 := by decide
  exact IntMulOk.of_bits (by have := intBits_of h1; omega) (by have := intBits_of h2; omega)
theorem op_mulB : OpR X (binaryOp .Mult) (rI CBig fun i j => .int (i * j)) := opI fun _ _ _ _ _ _ _ hc q => mul_int q hc.ok
def CDivB (i j : Int) : Prop := j ≠ 0 ∧ ∃ n, Bt n j ∧ n ≤ 9000
theorem CDivB.ok {i j : Int} (h : CDivB i j) : Builtin.divisionGoesByPylong i j = false := by
  obtain ⟨h0, n, h1, h2⟩ := h
  refine PyProof.noPylong_of_log2 ?_
  have hp : j.natAbs ≠ 0 := by omega
  have : j.natAbs.log2 < n := (Nat.log2_lt hp).mpr h1
  omega
theorem op_fdivB : OpR X (binaryOp .FloorDiv) (rI CDivB fun i j => .int (i.fdiv j)) := opI fun _ _ _ _ _ _ _ hc q => floordiv_int hc.1 q (.inl hc.ok)

/-! plain data, deep -/
mutual
inductive DatV (K : PySem.W.Frag) (H : Hp) : V → PyData → Prop where
  | non : DatV K H .non .none
  | bl (b : Bool) : DatV K H (.bl b) (.bool b)
  | int (i : Int) : DatV K H (.int i) (.int i)
  | str (x : Str) : DatV K H (.str x) (.str x)
  | lst {a : Addr} {xs : List V} {ds : List PyData} (h : SqL K H a xs) (q : DatVs K H xs ds) : DatV K H (.ref a) (.list ds)
  | tup {a : Addr} {xs : List V} {ds : List PyData} (h : SqT K H a xs) (q : DatVs K H xs ds) : DatV K H (.ref a) (.tuple ds)
inductive DatVs (K : PySem.W.Frag) (H : Hp) : List V → List PyData → Prop where
  | nil : DatVs K H [] []
  | cons {x : V} {d : PyData} {xs : List V} {ds : List PyData} (p : DatV K H x d) (q : DatVs K H xs ds) : DatVs K H (x :: xs) (d :: ds)
end
theorem datV_reads {pins : List (Addr × Obj)} {s : Shared} {σ : St} {H : Hp} (I : Inv X pins σ H s) : ∀ {x : V} {d : PyData}, DatV X.K H x d → ∀ {u : Value}, RelV x u → ∃ as, Reads s.heap u d as := by
  intro x d h
  induction h using DatV.rec (motive_2 := fun xs ds _ => ∀ {us : List Value}, Vals xs us → ∃ as, ReadsAll s.heap us ds as) with
  | non => intro u r; cases (show u = Value.none from r); exact ⟨_, .none⟩
  | bl b => intro u r; cases (show u = Value.bool b from r); exact ⟨_, .bool b⟩
  | int i => intro u r; obtain ⟨t, rfl⟩ := (show ∃ t, u = Value.int i t from r); exact ⟨_, .int i t⟩
  | str y => intro u r; obtain ⟨t, rfl⟩ := (show ∃ t, u = Value.str y t from r); exact ⟨_, .str y t⟩
  | lst h q ih =>
    intro u r
    cases (show u = Value.ref _ from r)
    obtain ⟨its, rv, pl, _⟩ := I.list h
    obtain ⟨as, ra⟩ := ih rv
    obtain ⟨o, h1, h2, n, h3⟩ := pl.isList
    exact ⟨_, .list h1 h2 h3 (by simpa using ra)⟩
  | tup h q ih =>
    intro u r
    cases (show u = Value.ref _ from r)
    obtain ⟨its, rv, pl, _⟩ := I.tuple h
    obtain ⟨as, ra⟩ := ih rv
    obtain ⟨o, h1, h2, n, h3⟩ := pl
    exact ⟨_, .tuple h1 h2 h3 (by simpa using ra)⟩
  | nil => rename_i us r; cases r; exact ⟨_, .nil⟩
  | cons p q ih1 ih2 =>
    rename_i us r
    cases r with
    | cons r1 r2 =>
      obtain ⟨as, h1⟩ := ih1 r1
      obtain ⟨bs, h2⟩ := ih2 r2
      exact ⟨_, .cons h1 h2⟩
def rDat (K : PySem.W.Frag) (neg : Bool) : R2 := fun x y H Q => ∃ d e, DatV K H x d ∧ DatV K H y e ∧ d.canLay0 = true ∧ e.canLay0 = true ∧ min d.depth e.depth ≤ 16 ∧ Q (.bl (if neg then !PyData.eqv d e else PyData.eqv d e)) H
theorem op_eqD (hu : X.A.units + 64 < cLine) : OpR X (compareOp .Eq) (rDat X.K false) := by
  intro pins s σ H x y v u Q I rx ry h
  obtain ⟨d, e, h1, h2, c1, c2, hm, q⟩ := h
  obtain ⟨as, r1⟩ := datV_reads I h1 rx
  obtain ⟨bs, r2⟩ := datV_reads I h2 ry
  exact PySem.SeqAt.compareEq_reads r1 r2 c1 c2 (by omega) ⟨.bl (PyData.eqv d e), H, I, rfl, q⟩
end
end L2

set_option Elab.async false
set_option linter.all false
set_option maxRecDepth 100000
set_option maxHeartbeats 2000000
namespace L2
open PySem PySem.Spec PyProof.Rows

/-! ### list comprehensions -/
section
variable {prog : Program} {w : World} {A : Around} {R : Result → Shared → Prop} {s : Shared}
abbrev tests (ifs : List Expr) (env : Env) : Sem Bool := forIn ifs true fun c r => if r = true then do let ok ← isTrue c env (eval c env); pure (ForInStep.yield ok) else pure (ForInStep.yield r)
theorem comp_loop {elt target iter : Expr} {ifs : List Expr} {scope : Scope} {pos : Pos} {it acc : Value} {env : Env} (I : Nat → Shared → Prop)
    (turn : ∀ n s, I n s → wpAny (model prog w) A (pyNext it) (fun r s₁ => match r with
      | none => R (.ok .next) s₁
      | some v => wpAny (model prog w) A (letOwnedTupleGo target it v) (fun _ s₀ => wpAny (model prog w) A (assign target env v) (fun _ s₂ =>
          wpAny (model prog w) A (tests ifs env) (fun ok s₃ =>
            if ok = true then wpAny (model prog w) A (eval elt env) (fun x s₄ =>
              wpAny (model prog w) A (call (.builtin "list.append") [acc, x]) (fun _ s₅ => ∃ m, m < n ∧ I m s₅) (fun _ _ => False) s₄) (fun _ _ => False) s₃
            else ∃ m, m < n ∧ I m s₃) (fun _ _ => False) s₂) (fun _ _ => False) s₀) (fun _ _ => False) s₁) (fun _ _ => False) s)
    (n : Nat) (h : I n s) :
    codeAny (model prog w) A (.compLoop (.ListComp elt [⟨target, iter, ifs, 0⟩] scope pos) 0 it acc env) R s := by
  refine codeAny_loop rfl I (fun n s hI => ?_) n h
  show wpAny _ A ((compTurn (.ListComp elt [⟨target, iter, ifs, 0⟩] scope pos) 0 it acc env).onRaise (fun x => do noteFrame x env; theTreesLotGoes x)) _ _ s
  refine wpAny_noted ?_
  rw [compTurn_list]
  refine wpAny_bind (wpAny_standAt (wpAny_bind (wpAny_mono (turn n s hI) (fun r s₁ h₁ => ?_) fun _ _ z => z.elim)))
  cases r with
  | none => exact wpAny_pure h₁
  | some v =>
    refine wpAny_bind (wpAny_mono h₁ (fun _ s₀ h₀ => ?_) fun _ _ z => z.elim)
    refine wpAny_bind (wpAny_mono h₀ (fun _ s₂ h₂ => wpAny_bind (wpAny_mono h₂ (fun ok s₃ h₃ => ?_) fun _ _ z => z.elim)) fun _ _ z => z.elim)
    cases ok with
    | false => exact wpAny_pure ⟨rfl, h₃⟩
    | true =>
      rw [if_pos rfl] at h₃
      show wpAny _ _ ((do let _ ← call (.builtin "list.append") [acc, ← eval elt env]) >>= fun _ => again (.compLoop (.ListComp elt [⟨target, iter, ifs, 0⟩] scope pos) 0 it acc env)) _ _ _
      exact wpAny_bind (wpAny_bind (wpAny_mono h₃ (fun x s₄ h₄ => wpAny_bind (wpAny_mono h₄ (fun _ s₅ h₅ => wpAny_pure (wpAny_pure ⟨rfl, h₅⟩)) fun _ _ z => z.elim)) fun _ _ z => z.elim))
end

/-- a comprehension's names: its own first (nl of them), then those of the def around it that it reads, at the slots fr there -/
structure CompOk (X : Cx) (scope : Scope) (cl : List (Str × Addr)) (Nc : List Str) (nl : Nat) (fr : List Nat) : Prop where
  clos : closureFor scope X.env = pure cl
  kind : scope.kind = .function
  names : ∀ y ∈ scope.names, y.2 = .local → scope.names.lookup y.1 = some .local
  cell : ∀ y ∈ scope.names, y.2 ≠ .cell
  sub : ∀ x c, cl.lookup x = some c → X.env.cells.lookup x = some c
  has : ∀ x, (relabel scope X.env).names.lookup x = some .cell ∨ (relabel scope X.env).names.lookup x = some .free → ∃ c, cl.lookup x = some c
  len : Nc.length = nl + fr.length
  tail : ∀ i n, Nc[nl + i]? = some n → ∃ j, fr[i]? = some j ∧ X.N[j]? = some n ∧ X.env.kindOf n = some .cell ∧ cl.lookup n = X.env.cells.lookup n ∧ ((relabel scope X.env).names.lookup n = some .cell ∨ (relabel scope X.env).names.lookup n = some .free)
abbrev compCx (X : Cx) (scope : Scope) (cl : List (Str × Addr)) (Nc : List Str) (C : Addr) (s3 : Shared) (H3 : Hp) (fp : List Addr) (pins : List (Addr × Obj)) : Cx :=
  { X with N := Nc, s₀ := s3, H₀ := H3, env := compEnvC scope cl C X.env, outer := X.stack, ex := fp, fn := fun _ => false, pn := X.pn ++ pins, xe := fun _ _ => False }
def σC (nl : Nat) (fr : List Nat) (σ : St) : St := List.replicate nl none ++ fr.map fun j => (σ[j]?).join
abbrev PIf (X : Cx) (ifs : List Expr) (t : TT) : Prop :=
  ∀ (pins : List (Addr × Obj)) (s : Shared) (σ : St) (H : Hp) (Q : Bool → Hp → Prop), Inv X pins σ H s → t σ H Q → wpAny (model X.prog X.w) X.A (tests ifs X.env) (TP X pins σ Q) X.xe s
theorem pif_nil {X : Cx} : PIf X [] (fun _ H Q => Q true H) := fun _ _ _ H _ I h => wpAny_pure ⟨H, I, h⟩
theorem pif_one {X : Cx} {c : Expr} {t : TT} (h : PT X c t) : PIf X [c] t := fun pins s σ H Q I q => wpAny_tests_one (h pins s σ H Q I q)

section
variable {X : Cx} {scope : Scope} {cl : List (Str × Addr)} {Nc : List Str} {nl : Nat} {fr : List Nat} {pins : List (Addr × Obj)} {σ : St} {H3 : Hp} {s3 : Shared} {fp : List Addr} {h4 : Heap} {tk : Nat}
theorem comp_start (ck : CompOk X scope cl Nc nl fr) (I : Inv X pins σ H3 s3) (hf : ∀ b ∈ fp, FpOk X pins H3 b) (hfs : ∀ b ∈ fp, b < s3.heap.objs.size)
    (hns : h4.Ns s3.heap.objs.size fun _ => none) (hk : ∀ b o, s3.heap.get? b = some o → h4.get? b = some o) :
    Inv (compCx X scope cl Nc s3.heap.objs.size s3 H3 fp pins) [] (σC nl fr σ) H3 { s3 with heap := h4, toks := tk } := by
  have stk : ∀ b ∈ frs X.stack, b ∈ X.env.locals :: X.fs := I.stkSub
  have nfs : ∀ b, b ≠ X.env.locals → b ∉ X.fs → b ∉ frs X.stack := fun b h1 h2 z => (List.mem_cons.mp (stk b z)).elim h1 h2
  have ltc : ∀ x c, cl.lookup x = some c → c < s3.heap.objs.size := fun x c e => by
    obtain ⟨v, z⟩ := I.cell x c (ck.sub x c e)
    exact z.lt
  refine ⟨⟨I.ok.mod, ck.kind, I.ok.glob, I.ok.blt, Nat.le_refl _, fun x y c h1 h2 => I.ok.inj x y c (ck.sub x c h1) (ck.sub y c h2), fun x hx => ck.has x hx, fun x c hz => Bool.noConfusion hz, I.ok.hd, I.ok.frames, .inl rfl, fun b hb => ?_, I.bs, Nat.le_trans I.ok.bsz I.sz, fun b o e hb => ?_, fun b hb => ?_, I.stack, I.stkFree⟩,
    rfl, I.bare, Un.kept hk, ⟨_, hns, fun i x v h1 h2 h3 => ?_⟩, fun x c e => ?_, I.hok.fresh (Nat.le_refl _), fun x c e => I.freeC x c (ck.sub x c e), fun p hp => ?_, I.hok.kept hk, ?_⟩
  · obtain ⟨f0, f1, f2, f3, f4, f5⟩ := hf b hb
    exact ⟨Nat.ne_of_lt (hfs b hb), fun x c e => f4 x c (ck.sub x c e)⟩
  · obtain ⟨f0, f1, f2, f3, f4, f5⟩ := hf b hb
    rcases f3 with z | z
    · exact I.ok.noex b o e z
    · exact absurd (Nat.lt_of_lt_of_le (Heap.lt_size e) (Nat.le_trans I.ok.bsz z)) (Nat.lt_irrefl _)
  · obtain ⟨f0, f1, f2, f3, f4, f5⟩ := hf b hb
    exact nfs b f1 f2
  · -- a name's value
    unfold σC at h2
    by_cases hi : i < nl
    · rw [List.getElem?_append_left (by simpa using hi), List.getElem?_replicate] at h2
      split at h2 <;> cases h2
    · have hi' : nl ≤ i := by omega
      rw [List.getElem?_append_right (by simpa using hi'), List.length_replicate, List.getElem?_map] at h2
      obtain ⟨k, rfl⟩ : ∃ k, i = nl + k := ⟨i - nl, by omega⟩
      obtain ⟨j, e1, e2, e3, e4, e5⟩ := ck.tail k x h1
      rw [Nat.add_sub_cancel_left, e1] at h2
      have h2' : (σ[j]?).join = some v := by simpa using h2
      have h2'' : σ[j]? = some (some v) := by
        cases q : σ[j]? with
        | none => rw [q] at h2'; cases h2'
        | some z => rw [q] at h2'; exact congrArg some h2'
      obtain ⟨m, hn, hl⟩ := I.loc
      obtain ⟨u, r, l⟩ := hl j x v e2 h2'' (.inr (.inl e3))
      refine ⟨u, r, ?_⟩
      rcases l with ⟨k1, _⟩ | ⟨k1, c, ec, z⟩
      · rw [e3] at k1; cases k1
      · obtain ⟨o, ho, hd⟩ := z
        exact .inr ⟨e5, c, by show cl.lookup x = some c; rw [e4]; exact ec, o, hk _ _ ho, hd⟩
  · obtain ⟨v, o, ho, hd⟩ := I.cell x c (ck.sub x c e)
    exact ⟨v, o, hk _ _ ho, hd⟩
  · have hp' : p ∈ X.pn ++ pins := by simpa using hp
    obtain ⟨e, n, ne, nf, d⟩ := I.pin p hp'
    exact ⟨hk _ _ e, n, Nat.ne_of_lt (Heap.lt_size e), nfs _ ne nf, d⟩
  · unfold σC
    show _ = Nc.length
    rw [List.length_append, List.length_replicate, List.length_map, ck.len]
/-- behind the block -/
theorem comp_end {pins' : List (Addr × Obj)} {σ' : St} {H' : Hp} {s' : Shared} (I : Inv X pins σ H3 s3) (hf : ∀ b ∈ fp, FpOk X pins H3 b)
    (J : Inv (compCx X scope cl Nc s3.heap.objs.size s3 H3 fp pins) pins' σ' H' s') : Inv X pins σ H' s' ∧ FpOk X pins H' s3.heap.objs.size := by
  refine ⟨I.call' (ch := fp) J.os J.base J.hok J.bare fun b hb => ?_, I.fpOk (Nat.le_refl _) J.free⟩
  obtain ⟨f0, f1, f2, f3, f4, f5⟩ := hf b hb
  exact ⟨f3, f1, f4, f5⟩
theorem Inv.off {b : Addr} {H : Hp} {s : Shared} {h' : Heap} (I : Inv X pins σ H s) (f : FpOk X pins H b) (hs : Heap.SameBut b s.heap h') : Inv X pins σ H { s with heap := h' } := by
  obtain ⟨f0, f1, f2, f3, f4, f5⟩ := f
  exact I.turned (t' := s.toks) (it := b) (fun c o hb e => (hs.2 c hb).trans e) f0 f1 f3 f4 f5
end

/-- what a comprehension's walk asks, by the iterator -/
def CompW (J : It) (nl : Nat) (fr : List Nat) (g : TG) (tt : TT) (te : TE) (σ : St) (D : Addr) (H1 : Hp) (Q : VK) : Prop :=
  ∃ W : Nat → Nat → List V → Hp → Prop, (∃ m, W 0 m [] (upd H1 D (.lst []))) ∧ ∀ i m ys H2, W i m ys H2 → H2 D = some (.lst ys) ∧
    ((J.stop i H2 ∧ Q (.ref D) H2) ∨ (J.go i H2 ∧ ∀ x H3, J.yld i H2 x H3 → g x (σC nl fr σ) H3 fun σ2 H4 => σ2.length = (σC nl fr σ).length ∧ (∀ (i : Nat) v, (σC nl fr σ)[i]? = some (some v) → σ2[i]? = some (some v)) ∧
      tt σ2 H4 fun b H5 => if b = true then te σ2 H5 fun y H6 => H6 D = some (.lst ys) ∧ ys.length < sizeLine ∧ ∃ m', m' < m ∧ W (i + 1) m' (ys ++ [y]) (upd H6 D (.lst (ys ++ [y])))
        else ∃ m', m' < m ∧ W (i + 1) m' ys H5))
/-- [elt for tg in iter if ..] -/
def tComp (wi : TI) (nl : Nat) (fr : List Nat) (g : TG) (tt : TT) (te : TE) : TE := fun σ H Q => wi σ H fun J H1 => ∀ D, H1 D = none → CompW J nl fr g tt te σ D H1 Q
section
variable {X : Cx} {scope : Scope} {cl : List (Str × Addr)} {Nc : List Str} {nl : Nat} {fr : List Nat} {elt tg iter : Expr} {ifs : List Expr} {pos : Pos} {wi : TI} {g : TG} {tt : TT} {te : TE}
theorem comp_run (hc : X.calm = true) (ck : CompOk X scope cl Nc nl fr) (hi : PI X tg iter wi)
    (hg : ∀ C s3 H3 fp pins, PG (compCx X scope cl Nc C s3 H3 fp pins) tg g) (ht : ∀ C s3 H3 fp pins, PIf (compCx X scope cl Nc C s3 H3 fp pins) ifs tt) (he : ∀ C s3 H3 fp pins, PE (compCx X scope cl Nc C s3 H3 fp pins) elt te)
    {pins : List (Addr × Obj)} {s : Shared} {σ : St} {H : Hp} {Q : VK} (I : Inv X pins σ H s) (h : tComp wi nl fr g tt te σ H Q) {RR : Value → Addr → Result → Shared → Prop}
    (fin : ∀ D C s', (∃ H', (∃ m, s'.heap.Ns C m) ∧ Inv X pins σ H' s' ∧ FpOk X pins H' C ∧ Q (.ref D) H') → RR (.ref D) C (.ok .next) s') :
    wpAny (model X.prog X.w) X.A (eval iter X.env) (fun x s₁ => wpAny (model X.prog X.w) X.A (pyIter x) (fun it s₂ => wpAny (model X.prog X.w) X.A (newList []) (fun acc s₃ =>
      wpAny (model X.prog X.w) X.A (newFunctionEnv scope X.env.globals cl [] X.env.qual none .none (some X.env)) (fun cenv s₄ =>
        codeAny (model X.prog X.w) X.A (.compStart (.ListComp elt [⟨tg, iter, ifs, 0⟩] scope pos) 0 it acc { cenv with scope := relabel scope X.env }) (RR acc cenv.locals) s₄) X.xe s₃) X.xe s₂) X.xe s₁) X.xe s := by
  refine thn (hi pins s σ H _ I h) fun v s1 h1 => thn h1 fun itv s2 h2 => ?_
  obtain ⟨it, fp, tn, J, H2, e, I2, T, st2, f2, hD⟩ := h2
  subst e
  have hn2 : H2 s2.heap.objs.size = none := I2.hok.fresh (Nat.le_refl _)
  obtain ⟨W, ⟨m0, w0⟩, turn⟩ := hD s2.heap.objs.size hn2
  refine wpAny_newObj_type (wpAny_newFunctionEnv ck.cell (by intro y hy; simp at hy) (fun h4 hns hsb => ?_) ck.kind)
  dsimp only at hns hsb ⊢
  have I3 : Inv X pins σ (upd H2 s2.heap.objs.size (.lst [])) { s2 with heap := s2.heap.push { cls := .type "list", dict := none, data := .seq ([] : List Value).toArray } } :=
    I2.laid (t' := s2.toks) (fun b u e => Heap.get?_push_of_some _ e) (Nat.le_refl _) ⟨Nat.zero_le _, [], 0, .nil, Heap.get?_push_size _ rfl⟩
  have hfs : ∀ b ∈ fp, b < s2.heap.objs.size := fun b hb => by
    obtain ⟨o, e, _⟩ := T.obj 0 _ st2 b hb
    exact Heap.lt_size e
  have f3 : ∀ b ∈ fp, FpOk X pins (upd H2 s2.heap.objs.size (.lst [])) b := fun b hb => ⟨by rw [upd_ne (Nat.ne_of_lt (hfs b hb))]; exact (f2 b hb).1, (f2 b hb).2⟩
  generalize hH3 : upd H2 s2.heap.objs.size (.lst []) = H3 at *
  generalize hs3 : ({ s2 with heap := s2.heap.push { cls := .type "list", dict := none, data := .seq ([] : List Value).toArray } } : Shared) = s3 at *
  have z3 : s3.heap = s2.heap.push { cls := .type "list", dict := none, data := .seq ([] : List Value).toArray } := by rw [← hs3]
  have hsz3 : s3.heap.objs.size = s2.heap.objs.size + 1 := by rw [z3, Heap.size_push]
  rw [← z3] at hns hsb ⊢
  have hk4 : ∀ b o, s3.heap.get? b = some o → h4.get? b = some o := fun b o e => hsb.extBut b o (Nat.ne_of_lt (Heap.lt_size e)) (Heap.get?_push_of_some _ e)
  have hfs3 : ∀ b ∈ fp, b < s3.heap.objs.size := fun b hb => Nat.lt_of_lt_of_le (hfs b hb) (by rw [hsz3]; exact Nat.le_succ _)
  have hns' : h4.Ns s3.heap.objs.size fun _ => none := by simpa using hns
  have K0 := fun tk => comp_start (tk := tk) ck I3 f3 hfs3 hns' hk4
  have stat : ∀ {H' : Hp}, (∀ b ∈ fp, H' b = none) → ∀ b ∈ fp, FpOk (compCx X scope cl Nc s3.heap.objs.size s3 H3 fp pins) [] H' b := fun {H'} hn b hb => by
    obtain ⟨f0, g1, g2, g3, g4, g5⟩ := f3 b hb
    refine ⟨hn b hb, Nat.ne_of_lt (hfs3 b hb), fun z => ?_, .inl hb, fun x c e => g4 x c (ck.sub x c e), fun p hp => g5 p (by simpa using hp)⟩
    exact (List.mem_cons.mp (I3.stkSub b z)).elim g1 g2
  have st4 : tn 0 h4 := T.keep 0 _ _ st2 fun b hb o e => hk4 b o (by rw [z3]; exact Heap.get?_push_of_some _ e)
  have loop : ∀ tk, codeAny (model X.prog X.w) X.A (.compLoop (.ListComp elt [⟨tg, iter, ifs, 0⟩] scope pos) 0 (.ref it) (.ref s2.heap.objs.size) (compEnvC scope cl s3.heap.objs.size X.env)) (RR (.ref s2.heap.objs.size) s3.heap.objs.size) { s3 with heap := h4, toks := tk } := by
    intro tk
    refine comp_loop (fun n s' => ∃ i ys H', Inv (compCx X scope cl Nc s3.heap.objs.size s3 H3 fp pins) [] (σC nl fr σ) H' s' ∧ tn i s'.heap ∧ (∀ b ∈ fp, H' b = none) ∧ W i n ys H') ?_ m0 ⟨0, [], H3, K0 tk, st4, fun b hb => (f3 b hb).1, w0⟩
    rintro n s5 ⟨i, ys, H5, I5, st5, fr5, w5⟩
    obtain ⟨hl5, q5⟩ := turn i n ys H5 w5
    rcases q5 with ⟨stop, qn⟩ | ⟨go, step⟩
    · refine wpAny_mono (T.done (compCx X scope cl Nc s3.heap.objs.size s3 H3 fp pins) rfl rfl rfl hc i [] s5 (σC nl fr σ) H5 (fun _ _ => False) I5 (stat fr5) st5 stop) (fun r s6 h6 => ?_) fun _ _ z => z
      obtain ⟨hr, I6⟩ := h6
      subst hr
      obtain ⟨z1, z2⟩ := comp_end I3 f3 I6
      refine fin _ _ _ ⟨H5, ?_, z1, z2, qn⟩
      obtain ⟨m, hm, _⟩ := I6.loc
      exact ⟨m, hm⟩
    · refine wpAny_mono (T.item (compCx X scope cl Nc s3.heap.objs.size s3 H3 fp pins) rfl rfl rfl hc i [] s5 (σC nl fr σ) H5 (fun _ _ => False) I5 (stat fr5) st5 go) (fun r s6 h6 => ?_) fun _ _ z => z
      obtain ⟨u, hr, h6⟩ := h6
      subst hr
      refine wpAny_mono h6 (fun _ s7 h7 => ?_) fun _ _ z => z
      obtain ⟨x, H7, I7, r7, y7, st7, fr7⟩ := h7
      have I7' := I7.pinned (stat fr7) (T.obj _ _ st7)
      refine wpAny_mono (hg s3.heap.objs.size s3 H3 fp pins _ s7 _ H7 x u _ I7' r7 (step x H7 y7)) (fun _ s8 h8 => ?_) fun _ _ z => z
      obtain ⟨σ8, H8, I8, l8, k8, q8⟩ := h8
      refine wpAny_mono (ht s3.heap.objs.size s3 H3 fp pins _ s8 σ8 H8 _ I8 q8) (fun b s9 h9 => ?_) fun _ _ z => z
      obtain ⟨H9, I9, q9⟩ := h9
      have again : ∀ {ys' : List V} {H' : Hp} {s' : Shared} {m' : Nat}, Inv (compCx X scope cl Nc s3.heap.objs.size s3 H3 fp pins) ([] ++ pinsAt fp s7.heap) σ8 H' s' → m' < n → W (i + 1) m' ys' H' →
          ∃ m, m < n ∧ ∃ i ys H', Inv (compCx X scope cl Nc s3.heap.objs.size s3 H3 fp pins) [] (σC nl fr σ) H' s' ∧ tn i s'.heap ∧ (∀ b ∈ fp, H' b = none) ∧ W i m ys H' := fun {ys' H' s' m'} I' hm w' => by
        refine ⟨m', hm, i + 1, ys', H', I'.unpinned.weak l8.symm k8, T.keep _ _ _ st7 fun b hb o e => (I'.pin (b, o) (List.mem_append_right _ (List.mem_append_right _ (mem_pinsAt hb e)))).1, fun b hb => ?_, w'⟩
        obtain ⟨o, e, d⟩ := T.obj _ _ st7 b hb
        exact (I'.pin (b, o) (List.mem_append_right _ (List.mem_append_right _ (mem_pinsAt hb e)))).2.1
      cases b with
      | false =>
        rw [if_neg Bool.false_ne_true] at q9 ⊢
        obtain ⟨m', hm, w9⟩ := q9
        exact again I9 hm w9
      | true =>
        rw [if_pos rfl] at q9 ⊢
        refine wpAny_mono (he s3.heap.objs.size s3 H3 fp pins _ s9 σ8 H9 _ I9 q9) (fun yv s10 h10 => ?_) fun _ _ z => z
        obtain ⟨y, H10, I10, r10, hl10, hz10, m', hm, w10⟩ := h10
        refine wpAny_mono (mt_append (X := compCx X scope cl Nc s3.heap.objs.size s3 H3 fp pins) _ s10 σ8 H10 (.ref s2.heap.objs.size) [y] _ [yv] (fun v H' => H' = upd H10 s2.heap.objs.size (.lst (ys ++ [y]))) I10 rfl (.cons r10 .nil) ⟨_, ys, y, rfl, rfl, hl10, hz10, rfl⟩) (fun _ s11 h11 => ?_) fun _ _ z => z
        obtain ⟨_, H11, I11, _, e11⟩ := h11
        subst e11
        exact again I11 hm w10
  have L := loop (s2.toks + ([] : List (Str × Value)).length)
  rw [show s3.gens = s2.gens by rw [← hs3], show s3.drawn = s2.drawn by rw [← hs3], show s3.os = s2.os by rw [← hs3]] at L
  exact codeAny_compStart_list L (T.self _ 0 _ _ _ st4 L)
theorem pe_comp (hc : X.calm = true) (ck : CompOk X scope cl Nc nl fr) (hi : PI X tg iter wi)
    (hg : ∀ C s3 H3 fp pins, PG (compCx X scope cl Nc C s3 H3 fp pins) tg g) (ht : ∀ C s3 H3 fp pins, PIf (compCx X scope cl Nc C s3 H3 fp pins) ifs tt) (he : ∀ C s3 H3 fp pins, PE (compCx X scope cl Nc C s3 H3 fp pins) elt te)
    (hs : ∀ x, foldedSetIterable iter X.env x = pure x := by intro _; rfl) : PE X (.ListComp elt [⟨tg, iter, ifs, 0⟩] scope pos) (tComp wi nl fr g tt te) := by
  intro pins s σ H Q I h
  rw [eval_ListComp]
  refine wpAny_comprehension_free (use := none) rfl hs ck.clos ck.kind ck.names (comp_run (RR := fun acc C => compPost (model X.prog X.w) X.A X.xe none (EP X pins σ Q) acc C) hc ck hi hg ht he I h fun D C s' hh => ?_)
  obtain ⟨H', ⟨m, hm⟩, hI, hF, q⟩ := hh
  exact ⟨m, hm, fun h' hs' => ⟨.ref D, H', hI.off hF hs', rfl, q⟩⟩
/-- y = [..] (the store comes ahead of the block's end) -/
theorem ps_setC {i : Nat} {y : Str} {py spos : Pos} (hN : X.N.Nodup) (hiy : X.N[i]? = some y) (hy : X.env.scope.names.lookup y = some .local) (hc : X.calm = true) (ck : CompOk X scope cl Nc nl fr) (hi : PI X tg iter wi)
    (hg : ∀ C s3 H3 fp pins, PG (compCx X scope cl Nc C s3 H3 fp pins) tg g) (ht : ∀ C s3 H3 fp pins, PIf (compCx X scope cl Nc C s3 H3 fp pins) ifs tt) (he : ∀ C s3 H3 fp pins, PE (compCx X scope cl Nc C s3 H3 fp pins) elt te)
    (hsw : swapsWith (.ListComp elt [⟨tg, iter, ifs, 0⟩] scope pos) (some (.Name y py)) spos.line X.env = pure true)
    (hs : ∀ x, foldedSetIterable iter X.env x = pure x := by intro _; rfl) : PS X (.Assign [.Name y py] (.ListComp elt [⟨tg, iter, ifs, 0⟩] scope pos) spos) (tAsg (tComp wi nl fr g tt te) (gName i)) := by
  intro pins s σ H D I h
  rw [exec_Assign_Name_used _ _ _ _ hsw]
  refine wpAny_bind (wpAny_standAt (wpAny_bind ?_))
  show wpAny _ X.A (do let _ ← comprehension (.ListComp elt [⟨tg, iter, ifs, 0⟩] scope pos) scope X.env _ (newList []) false (eval iter X.env) (some (assign (.Name y py) X.env))) _ _ s
  refine wpAny_bind (wpAny_mono (wpAny_comprehension_free (use := some (assign (.Name y py) X.env)) (Q := fun _ s' => SP X pins D .next s') rfl hs ck.clos ck.kind ck.names
    (comp_run (RR := fun acc C => compPost (model X.prog X.w) X.A X.xe (some (assign (.Name y py) X.env)) (fun _ s' => SP X pins D .next s') acc C) hc ck hi hg ht he I h fun Dd C s' hh => ?_)) (fun _ s' hq => wpAny_pure (wpAny_pure hq)) fun _ _ e => e)
  obtain ⟨H', ⟨m, hm⟩, hI, hF, q⟩ := hh
  show wpAny _ X.A (assign (.Name y py) X.env (.ref Dd)) _ _ _
  refine wpAny_assign_Name (store_ok2 hI hN hiy (.inl hy) (v := .ref Dd) rfl (fun s2 I2 hsb => ?_) (.inr hy))
  obtain ⟨a, sb, ha⟩ := hsb
  have hCa : C ≠ a := by
    rcases ha with z | z
    · rw [z]; exact hF.2.1
    · exact Ne.symm (hF.2.2.2.2.1 y a z)
  refine ⟨m, hm.sameBut sb hCa, fun h' hs' => ⟨_, H', I2.off hF hs', q⟩⟩
end
end L2

set_option maxHeartbeats 1000000
namespace Mq
abbrev Q2 := Int × Int
def gc (a b : Int) : Int := (Int.gcd a b : Nat)
theorem gc_step (a b : Int) : gc b (Int.fmod a b) = gc a b := by
  unfold gc
  rw [Int.fmod_def, Int.gcd_comm a b, Int.sub_eq_add_neg, ← Int.mul_neg, Int.gcd_add_mul_left_right]
theorem fmod_less {a b : Int} (h : b ≠ 0) : (Int.fmod a b).natAbs < b.natAbs := by
  rcases (by omega : 0 < b ∨ b < 0) with h1 | h1
  · have := Int.fmod_nonneg_of_pos a h1
    have := Int.fmod_lt_of_pos a h1
    omega
  · have h2 : 0 < -b := by omega
    have e : Int.fmod a b = - Int.fmod (-a) (-b) := by
      rw [Int.neg_fmod_neg]; omega
    have := Int.fmod_nonneg_of_pos (-a) h2
    have := Int.fmod_lt_of_pos (-a) h2
    omega
theorem gc_zero (a : Int) : gc a 0 = if a < 0 then -a else a := by
  unfold gc
  rw [Int.gcd_zero]
  split <;> omega
theorem gc_abs (a b : Int) : gc (if a < 0 then -a else a) (if b < 0 then -b else b) = gc a b := by
  unfold gc
  split <;> split <;> simp
theorem gc_pos {a b : Int} (h : b ≠ 0) : 0 < gc a b := by
  have := Int.gcd_pos_of_ne_zero_right a h
  unfold gc; omega
structure Low (p : Q2) : Prop where
  pos : 1 ≤ p.2
  one : gc p.1 p.2 = 1
/-- the divisor by which both are divided -/
def dvr (t b : Int) : Int := if b < 0 then -gc t b else gc t b
def red (t b : Int) : Q2 := (Int.fdiv t (dvr t b), Int.fdiv b (dvr t b))
theorem dvr_ne {t b : Int} (h : b ≠ 0) : dvr t b ≠ 0 := by
  have := gc_pos (a := t) h
  unfold dvr; split <;> omega
theorem fdiv_exact {a g k : Int} (hg : g ≠ 0) (h : a = g * k) : Int.fdiv a g = k := by
  rw [h, Int.mul_fdiv_cancel_left _ hg]
theorem dvr_dvd (t b : Int) : dvr t b ∣ t ∧ dvr t b ∣ b := by
  have h1 : gc t b ∣ t := Int.gcd_dvd_left t b
  have h2 : gc t b ∣ b := Int.gcd_dvd_right t b
  unfold dvr; split
  · exact ⟨Int.neg_dvd.mpr h1, Int.neg_dvd.mpr h2⟩
  · exact ⟨h1, h2⟩
theorem red_parts {t b : Int} (h : b ≠ 0) : t = dvr t b * (red t b).1 ∧ b = dvr t b * (red t b).2 := by
  obtain ⟨⟨x, hx⟩, ⟨y, hy⟩⟩ := dvr_dvd t b
  have hg := dvr_ne (t := t) h
  have e1 : (red t b).1 = x := fdiv_exact hg hx
  have e2 : (red t b).2 = y := fdiv_exact hg hy
  rw [e1, e2]; exact ⟨hx, hy⟩
theorem red_low {t b : Int} (h : b ≠ 0) : Low (red t b) := by
  obtain ⟨h1, h2⟩ := red_parts (t := t) h
  have hg := dvr_ne (t := t) h
  have hp := gc_pos (a := t) h
  have nd : (dvr t b).natAbs = (gc t b).natAbs := by unfold dvr; split <;> simp
  have e : Int.gcd t b = (dvr t b).natAbs * Int.gcd (red t b).1 (red t b).2 := by
    rw [← Int.gcd_mul_left, ← h1, ← h2]
  have e2 : (gc t b).natAbs = Int.gcd t b := by unfold gc; simp
  rw [nd, e2] at e
  have hp' : 0 < Int.gcd t b := by unfold gc at hp; omega
  have one : Int.gcd (red t b).1 (red t b).2 = 1 := by
    have : Int.gcd t b * Int.gcd (red t b).1 (red t b).2 = Int.gcd t b * 1 := by omega
    exact Nat.eq_of_mul_eq_mul_left hp' this
  refine ⟨?_, by unfold gc; rw [one]; rfl⟩
  have sgn : 0 < (red t b).2 := by
    by_cases hb : b < 0
    · have hd : dvr t b < 0 := by unfold dvr; rw [if_pos hb]; omega
      have hq : ¬ (red t b).2 ≤ 0 := fun q => by
        have := Int.mul_nonneg_of_nonpos_of_nonpos (Int.le_of_lt hd) q
        omega
      omega
    · have hd : 0 < dvr t b := by unfold dvr; rw [if_neg hb]; omega
      have hq : ¬ (red t b).2 ≤ 0 := fun q => by
        have := Int.mul_nonpos_of_nonneg_of_nonpos (Int.le_of_lt hd) q
        omega
      omega
  omega
theorem red_cross {t b : Int} (h : b ≠ 0) : (red t b).1 * b = t * (red t b).2 := by
  obtain ⟨h1, h2⟩ := red_parts (t := t) h
  generalize (red t b).1 = x at *
  generalize (red t b).2 = y at *
  generalize dvr t b = g at *
  subst h1 h2; grind
theorem natAbs_fdiv_le {a g k : Int} (hg : g ≠ 0) (h : a = g * k) : k.natAbs ≤ a.natAbs := by
  rw [h, Int.natAbs_mul]
  exact Nat.le_mul_of_pos_left _ (by omega)
theorem red_le {t b : Int} (h : b ≠ 0) : (red t b).1.natAbs ≤ t.natAbs ∧ (red t b).2.natAbs ≤ b.natAbs := by
  obtain ⟨h1, h2⟩ := red_parts (t := t) h
  exact ⟨natAbs_fdiv_le (dvr_ne h) h1, natAbs_fdiv_le (dvr_ne h) h2⟩
theorem dvr_le {t b : Int} (h : b ≠ 0) : (dvr t b).natAbs ≤ b.natAbs := by
  have e : (dvr t b).natAbs = Int.gcd t b := by unfold dvr gc; split <;> simp
  rw [e]; exact Int.gcd_le_natAbs_right t h
theorem low_same {p q : Q2} (hp : Low p) (hq : Low q) (h : p.1 * q.2 = q.1 * p.2) : p = q := by
  have gp : Int.gcd p.2 p.1 = 1 := by have := hp.one; rw [Int.gcd_comm]; unfold gc at this; omega
  have gq : Int.gcd q.2 q.1 = 1 := by have := hq.one; rw [Int.gcd_comm]; unfold gc at this; omega
  have d1 : p.2 ∣ q.2 := by
    have : p.2 ∣ p.1 * q.2 := ⟨q.1, by rw [h, Int.mul_comm]⟩
    have := Int.dvd_gcd_mul_iff_dvd_mul.mpr this
    rw [gp] at this
    simpa using this
  have d2 : q.2 ∣ p.2 := by
    have : q.2 ∣ q.1 * p.2 := ⟨p.1, by rw [← h, Int.mul_comm]⟩
    have := Int.dvd_gcd_mul_iff_dvd_mul.mpr this
    rw [gq] at this
    simpa using this
  have l1 := Int.le_of_dvd (by have := hq.pos; omega) d1
  have l2 := Int.le_of_dvd (by have := hp.pos; omega) d2
  have e2 : p.2 = q.2 := by omega
  have e1 : p.1 = q.1 := by
    rw [e2] at h
    exact Int.eq_of_mul_eq_mul_right (by have := hq.pos; omega) h
  exact Prod.ext e1 e2
/-! sums -/
def plus (p q : Q2) : Q2 := red (p.1 * q.2 + q.1 * p.2) (p.2 * q.2)
def minus (p q : Q2) : Q2 := red (p.1 * q.2 - q.1 * p.2) (p.2 * q.2)
def times (p q : Q2) : Q2 := red (p.1 * q.1) (p.2 * q.2)
def over (p q : Q2) : Q2 := red (p.1 * q.2) (p.2 * q.1)
def tot (l : List Q2) : Q2 := l.foldl plus (0, 1)
theorem mul_ne {a b : Int} (ha : 1 ≤ a) (hb : 1 ≤ b) : a * b ≠ 0 := by
  have := Int.mul_pos (show 0 < a by omega) (show 0 < b by omega)
  omega
theorem plus_low {p q : Q2} (hp : 1 ≤ p.2) (hq : 1 ≤ q.2) : Low (plus p q) := red_low (mul_ne hp hq)
/-- numbers of so many bits -/
def B (n : Nat) (i : Int) : Prop := i.natAbs < 2 ^ n
structure Bd (n : Nat) (p : Q2) : Prop where
  a : B n p.1
  b : B n p.2
theorem B.mono {n m : Nat} {i : Int} (h : B n i) (l : n ≤ m) : B m i := Nat.lt_of_lt_of_le h (Nat.pow_le_pow_right (by decide) l)
theorem B.mul {n m : Nat} {i j : Int} (h : B n i) (q : B m j) : B (n + m) (i * j) := by
  unfold B at *
  rw [Int.natAbs_mul, Nat.pow_add]
  exact Nat.mul_lt_mul'' h q
theorem B.add {n : Nat} {i j : Int} (h : B n i) (q : B n j) : B (n + 1) (i + j) := by
  unfold B at *
  have := Int.natAbs_add_le i j
  rw [Nat.pow_succ]; omega
theorem B.neg {n : Nat} {i : Int} (h : B n i) : B n (-i) := by unfold B at *; omega
theorem B.sub {n : Nat} {i j : Int} (h : B n i) (q : B n j) : B (n + 1) (i - j) := by
  rw [Int.sub_eq_add_neg]; exact h.add q.neg
theorem B.le {n : Nat} {i j : Int} (h : B n i) (l : j.natAbs ≤ i.natAbs) : B n j := Nat.lt_of_le_of_lt l h
theorem Bd.mono {n m : Nat} {p : Q2} (h : Bd n p) (l : n ≤ m) : Bd m p := ⟨h.a.mono l, h.b.mono l⟩
theorem plus_bd {n m : Nat} {p q : Q2} (h : Bd n p) (g : Bd m q) (hp : 1 ≤ p.2) (hq : 1 ≤ q.2) : Bd (n + m + 1) (plus p q) := by
  have k := red_le (t := p.1 * q.2 + q.1 * p.2) (mul_ne hp hq)
  have a2 : B (n + m) (q.1 * p.2) := by rw [Nat.add_comm]; exact g.a.mul h.b
  exact ⟨((h.a.mul g.b).add a2).le k.1, ((h.b.mul g.b).mono (Nat.le_succ _)).le k.2⟩
/-- over one bottom -/
def D : List Q2 → Int
  | [] => 1
  | f :: r => f.2 * D r
def N : List Q2 → Int
  | [] => 0
  | f :: r => f.1 * D r + f.2 * N r
def Pos (l : List Q2) : Prop := ∀ f ∈ l, 1 ≤ f.2
end Mq

set_option Elab.async false
set_option linter.all false
set_option maxRecDepth 100000
set_option maxHeartbeats 1000000
namespace L2
open PySem PySem.Spec PyProof.Rows
section
variable {X : Cx} {e st : Expr} {te ts : TE} {p2 pos : Pos}
/-! a list turned about -/
def tRev (K : PySem.W.Frag) (te ts : TE) : TE := fun σ H Q => te σ H fun x H1 => ts σ H1 fun y H2 => ∃ a xs, x = .ref a ∧ y = .int (-1) ∧ SqL K H2 a xs ∧ ∀ p, H2 p = none → Q (.ref p) (upd H2 p (.lst xs.reverse))
end

/-! a def with defaults, in any world of exceptions -/
structure FunD (K : PySem.W.Frag) (x qual : Str) (st : Stmt) (dV : Value) (f : Addr) (fd : FuncData) : Prop where
  ex : ∃ (oc : Value) (od : Option Addr) (kV doc pm : Value) (an : Option Addr) (cdv ct : Value) (osl : Array (Option Value)),
    fd = PySem.W.fnOf x qual (defArgs st) (defBody st) (defScope st) dV kV doc pm an cdv ct ∧ K.lookup f = some ⟨oc, od, .func fd, osl⟩ ∧ PySem.W.codeIn K cdv qual = true
  kp : PySem.W.keepIn K (.ref f) = true
section
variable {P : Program} {w : World} {K : PySem.W.Frag} {mg : Str → Option Value} {base : Heap} {CX : CXT}
theorem FunD.okX {x qual : Str} {st : Stmt} {dV : Value} {f : Addr} {fd : FuncData} {N ps : List Str} {k : Nat} {sp : Sp} (F : FunD K x qual st dV f fd) (S : FnScope N ps (defScope st)) (len : ∀ vs H Q E, sp vs H Q E → vs.length = ps.length)
    (hbody : ∀ (cdv : Value) (A : Around) (outer : List Env) (s : Shared) (H : Hp) (vs : List V) (Q : VK) (E : XK), Room k (A.deeper (envOfC qual (defScope st) s.heap.objs.size f cdv)) → sp vs H Q E →
      ∃ t, PSs (cxOf CX P w K mg base N qual (defScope st) f cdv A outer s H E) (defBody st) t ∧ t { nx := fun _ H' => Q .non H', rt := Q } (start N vs) H) : FnOk P w K mg base CX (k + 1) f fd ps sp := by
  obtain ⟨oc, od, kV, doc, pm, an, cdv, ct, osl, rfl, lk, hcd⟩ := F.ex
  exact fn_of lk hcd S len fun A outer s H vs Q E hr hsp => hbody cdv A outer s H vs Q E hr hsp
theorem FunD.ok {x qual : Str} {st : Stmt} {dV : Value} {f : Addr} {fd : FuncData} {N ps : List Str} {k : Nat} {sp : Sp} (F : FunD K x qual st dV f fd) (S : FnScope N ps (defScope st)) (len : ∀ vs H Q E, sp vs H Q E → vs.length = ps.length)
    (hbody : ∀ (cdv : Value) (A : Around) (outer : List Env) (s : Shared) (H : Hp) (vs : List V) (Q : VK) (E : XK), Room k (A.deeper (envOfC qual (defScope st) s.heap.objs.size f cdv)) → sp vs H Q E →
      ∃ t, PSs (cxOf CX P w K mg base N qual (defScope st) f cdv A outer s H E).nox (defBody st) t ∧ t { nx := fun _ H' => Q .non H', rt := Q } (start N vs) H) : FnOk P w K mg base CX (k + 1) f fd ps sp :=
  F.okX S len fun cdv A outer s H vs Q E hr hsp => by
    obtain ⟨t, h, q⟩ := hbody cdv A outer s H vs Q E hr hsp
    exact ⟨t, h.nox, q⟩
theorem FunD.binds {x qual : Str} {st : Stmt} {dV : Value} {f : Addr} {fd : FuncData} {ps : List Str} (F : FunD K x qual st dV f fd)
    (h : ∀ (kV doc pm : Value) (an : Option Addr) (cdv ct : Value) (us : List Value), us.length = ps.length → bindArgs (PySem.W.fnOf x qual (defArgs st) (defBody st) (defScope st) dV kV doc pm an cdv ct) ⟨us, []⟩ = pure (ps.zip us)) : Binds K fd ps [] := by
  obtain ⟨oc, od, kV, doc, pm, an, cdv, ct, osl, rfl, lk, hcd⟩ := F.ex
  exact .all (h kV doc pm an cdv ct)
theorem fund_mk {x qual : Str} {st : Stmt} {dV : Value} {f : Addr} {oc : Value} {od an : Option Addr} {osl : Array (Option Value)} {kV doc pm cdv ct : Value} (l : K.lookup f = some ⟨oc, od, .func (PySem.W.fnOf x qual (defArgs st) (defBody st) (defScope st) dV kV doc pm an cdv ct), osl⟩)
    (c : PySem.W.codeIn K cdv qual = true) (k : PySem.W.keepIn K (.ref f) = true) : FunD K x qual st dV f (PySem.W.fnOf x qual (defArgs st) (defBody st) (defScope st) dV kV doc pm an cdv ct) := ⟨⟨oc, od, kV, doc, pm, an, cdv, ct, osl, rfl, l, c⟩, k⟩
end

/-! fractions as tuples -/
abbrev fT (p : Mq.Q2) : HO := .tup [.int p.1, .int p.2]
def Fq (K : PySem.W.Frag) (H : Hp) (a : Addr) (p : Mq.Q2) : Prop := SqT K H a [.int p.1, .int p.2]
theorem Same.seqT {K : PySem.W.Frag} {H H' : Hp} {a : Addr} {xs : List V} (e : Same H H') (h : SqT K H a xs) : SqT K H' a xs := by
  rcases h with (h | ⟨o, h⟩) | h
  · exact .inl (.inl (e _ _ h))
  · exact .inl (.inr ⟨o, e _ _ h⟩)
  · exact .inr h
theorem same_new {H : Hp} {p : Addr} (h : H p = none) (o : HO) : Same H (upd H p o) := fun b u q => by rw [upd_ne (ne_of_none q h)]; exact q
theorem Same.fq {K : PySem.W.Frag} {H H' : Hp} {a : Addr} {p : Mq.Q2} (e : Same H H') (h : Fq K H a p) : Fq K H' a p := e.seqT h
theorem Fq.of {K : PySem.W.Frag} {H : Hp} {a : Addr} {p : Mq.Q2} (h : H a = some (fT p)) : Fq K H a p := SqT.of h
theorem rd_ix0 {K : PySem.W.Frag} {σ : St} {H : Hp} {i : Nat} {a : Addr} {p : Mq.Q2} {Q : VK} (hv : σ[i]? = some (some (.ref a))) (h : Fq K H a p) (q : Q (.int p.1) H) : tOp (rIxT K) (tVar i) (tC (.int 0)) σ H Q :=
  ⟨_, hv, a, _, _, _, rfl, rfl, h, rfl, q⟩
theorem rd_ix1 {K : PySem.W.Frag} {σ : St} {H : Hp} {i : Nat} {a : Addr} {p : Mq.Q2} {Q : VK} (hv : σ[i]? = some (some (.ref a))) (h : Fq K H a p) (q : Q (.int p.2) H) : tOp (rIxT K) (tVar i) (tC (.int 1)) σ H Q :=
  ⟨_, hv, a, _, _, _, rfl, rfl, h, rfl, q⟩
theorem rd_mulB {H : Hp} {n m : Nat} {i j : Int} {Q : VK} (h1 : Mq.B n i) (h2 : Mq.B m j) (h3 : n ≤ 1048576) (h4 : m ≤ 1048576) (q : Q (.int (i * j)) H) : rI CBig (fun i j => .int (i * j)) (.int i) (.int j) H Q :=
  ⟨_, _, rfl, rfl, ⟨n, m, h1, h2, h3, h4⟩, q⟩
theorem rd_fdivB {H : Hp} {n : Nat} {i j : Int} {Q : VK} (h1 : j ≠ 0) (h2 : Mq.B n j) (h3 : n ≤ 9000) (q : Q (.int (i.fdiv j)) H) : rI CDivB (fun i j => .int (i.fdiv j)) (.int i) (.int j) H Q :=
  ⟨_, _, rfl, rfl, ⟨h1, n, h2, h3⟩, q⟩
/-- what the program's text leaves to the built-ins -/
structure Bl (mg : Str → Option Value) : Prop where
  isi : mg "isinstance" = none
  int : mg "int" = none
  bool : mg "bool" = none
  abs : mg "abs" = none
end L2

set_option Elab.async false
set_option linter.all false
namespace L2
open PySem PySem.Spec PyProof.Rows
/-! the promises of the first modules' defs -/
def NotWhole (t : Value) : Prop := t = .type "bool" ∨ t = .type "str" ∨ t = .type "NoneType" ∨ t = .type "tuple" ∨ t = .type "list"
def spWhole (K : PySem.W.Frag) : Sp := fun vs H Q _ => ∃ x, vs = [x] ∧ ((∃ i, x = .int i ∧ Q (.bl true) H) ∨ (∃ t, TyOf K H x t ∧ NotWhole t ∧ Q (.bl false) H))
def spGc : Sp := fun vs H Q _ => ∃ a b : Int, vs = [.int a, .int b] ∧ Q (.int (Mq.gc a b)) H
def NewF (H : Hp) (Q : VK) (p : Mq.Q2) : Prop := ∀ a H', Same H H' → H' a = some (fT p) → Q (.ref a) H'
def spFrac : Sp := fun vs H Q _ => ∃ (t b : Int) (n : Nat), vs = [.int t, .int b] ∧ b ≠ 0 ∧ Mq.B n b ∧ n ≤ 9000 ∧ NewF H Q (Mq.red t b)
def spTwo (K : PySem.W.Frag) (f : Mq.Q2 → Mq.Q2 → Mq.Q2) : Sp := fun vs H Q _ => ∃ (a b : Addr) (p q : Mq.Q2) (n m : Nat), vs = [.ref a, .ref b] ∧ Fq K H a p ∧ Fq K H b q ∧ 1 ≤ p.2 ∧ 1 ≤ q.2 ∧ Mq.Bd n p ∧ Mq.Bd m q ∧ n + m + 1 ≤ 9000 ∧ NewF H Q (f p q)
/-- addresses of fractions -/
inductive Fqs (K : PySem.W.Frag) (H : Hp) : List V → List Mq.Q2 → Prop where
  | nil : Fqs K H [] []
  | cons {a : Addr} {p : Mq.Q2} {xs : List V} {ps : List Mq.Q2} (h : Fq K H a p) (q : Fqs K H xs ps) : Fqs K H (.ref a :: xs) (p :: ps)
theorem Fqs.same {K : PySem.W.Frag} {H H' : Hp} (e : Same H H') : ∀ {xs : List V} {ps : List Mq.Q2}, Fqs K H xs ps → Fqs K H' xs ps
  | _, _, .nil => .nil
  | _, _, .cons h q => .cons (e.fq h) (Fqs.same e q)
theorem Fqs.length {K : PySem.W.Frag} {H : Hp} : ∀ {xs : List V} {ps : List Mq.Q2}, Fqs K H xs ps → xs.length = ps.length
  | _, _, .nil => rfl
  | _, _, .cons _ q => by simp [Fqs.length q]
theorem Fqs.get {K : PySem.W.Frag} {H : Hp} : ∀ {xs : List V} {ps : List Mq.Q2} {i : Nat} {x : V}, Fqs K H xs ps → xs[i]? = some x → ∃ a p, x = .ref a ∧ ps[i]? = some p ∧ Fq K H a p
  | _, _, _, _, .nil, h => by simp at h
  | _, _, 0, _, .cons h _, e => by simp at e; exact ⟨_, _, e.symm, rfl, h⟩
  | _, _, i + 1, _, .cons _ q, e => by simpa using Fqs.get q (by simpa using e)
def spTot (K : PySem.W.Frag) : Sp := fun vs H Q _ => ∃ (a : Addr) (xs : List V) (ps : List Mq.Q2) (n : Nat), vs = [.ref a] ∧ SqL K H a xs ∧ Fqs K H xs ps ∧ Mq.Pos ps ∧ (∀ p ∈ ps, Mq.Bd n p) ∧ n + 1 + (1 + (n + 1) * ps.length) ≤ 9000 ∧ NewF H Q (Mq.tot ps)
end L2

set_option Elab.async false
set_option linter.all false
set_option maxHeartbeats 1000000
namespace L2
open PySem PySem.Spec PyProof.Rows
theorem Fq.upd {K : PySem.W.Frag} {H : Hp} {a l : Addr} {p : Mq.Q2} {xs : List V} {o : HO} (h : Fq K H a p) (hl : H l = some (.lst xs)) : Fq K (L2.upd H l o) a p := by
  rcases h with (h | ⟨u, h⟩) | h
  · exact .inl (.inl (by rw [upd_ne (ne_of h hl (fun z => by cases z))]; exact h))
  · exact .inl (.inr ⟨u, by rw [upd_ne (ne_of h hl (fun z => by cases z))]; exact h⟩)
  · exact .inr h
theorem Fqs.upd {K : PySem.W.Frag} {H : Hp} {l : Addr} {ys : List V} {o : HO} (hl : H l = some (.lst ys)) : ∀ {xs : List V} {ps : List Mq.Q2}, Fqs K H xs ps → Fqs K (L2.upd H l o) xs ps
  | _, _, .nil => .nil
  | _, _, .cons h q => .cons (h.upd hl) (Fqs.upd hl q)
/-- an object that was not there ahead is changed -/
theorem Same.change {H H' : Hp} {l : Addr} {o : HO} (s : Same H H') (h : H l = none) : Same H (L2.upd H' l o) := fun b u q => by
  rw [upd_ne (ne_of_none q h)]; exact s b u q
/-- fractions as data -/
def qd (p : Mq.Q2) : PyData := .tuple [.int p.1, .int p.2]
theorem Fq.dat {K : PySem.W.Frag} {H : Hp} {a : Addr} {p : Mq.Q2} (h : Fq K H a p) : DatV K H (.ref a) (qd p) := .tup h (.cons (.int _) (.cons (.int _) .nil))
theorem qd_lay (p : Mq.Q2) : (qd p).canLay0 = true := rfl
theorem qd_depth (p : Mq.Q2) : (qd p).depth ≤ 1 := by simp [qd, PyData.depth, PyData.depthAll]
/-- == and != of two fractions -/
theorem qd_eqv (p q : Mq.Q2) : PyData.eqv (qd p) (qd q) = decide (p = q) := by
  unfold qd
  simp only [PyData.eqv, PyData.eqvAll]
  by_cases h : p = q
  · subst h; simp
  · rw [decide_eq_false h]
    by_cases h1 : p.1 = q.1
    · have h2 : p.2 ≠ q.2 := fun z => h (Prod.ext h1 z)
      simp [h2]
    · simp [h1]
theorem rd_eqF {K : PySem.W.Frag} {H : Hp} {a b : Addr} {p q : Mq.Q2} {neg : Bool} {Q : VK} (h1 : Fq K H a p) (h2 : Fq K H b q) (z : Q (.bl (if neg then !decide (p = q) else decide (p = q))) H) : rDat K neg (.ref a) (.ref b) H Q := by
  refine ⟨_, _, h1.dat, h2.dat, qd_lay p, qd_lay q, ?_, ?_⟩
  · have := qd_depth p; omega
  · rw [qd_eqv]; exact z
end L2

set_option Elab.async false
set_option linter.all false
set_option maxRecDepth 100000
set_option maxHeartbeats 2000000
namespace L2
open PySem PySem.Spec PyProof.Rows
/-- one turn -/
abbrev CompT (nl : Nat) (fr : List Nat) (g : TG) (tt : TT) (te : TE) (σ : St) (D : Addr) (Pv : Nat → List V → Hp → Prop) (i : Nat) (ys : List V) (x : V) (H : Hp) : Prop :=
  g x (σC nl fr σ) H fun σ2 H4 => σ2.length = (σC nl fr σ).length ∧ (∀ (i : Nat) v, (σC nl fr σ)[i]? = some (some v) → σ2[i]? = some (some v)) ∧
    tt σ2 H4 fun b H5 => if b = true then te σ2 H5 fun y H6 => H6 D = some (.lst ys) ∧ ys.length < sizeLine ∧ Pv (i + 1) (ys ++ [y]) (upd H6 D (.lst (ys ++ [y]))) else Pv (i + 1) ys H5
/-- the names' readings are monotone in what is wanted -/
structure Mono (g : TG) (tt : TT) (te : TE) : Prop where
  g : ∀ x σ H Q Q', (∀ σ' H', Q σ' H' → Q' σ' H') → g x σ H Q → g x σ H Q'
  t : ∀ σ H Q Q', (∀ b H', Q b H' → Q' b H') → tt σ H Q → tt σ H Q'
  e : ∀ σ H Q Q', (∀ v H', Q v H' → Q' v H') → te σ H Q → te σ H Q'
section
variable {nl : Nat} {fr : List Nat} {g : TG} {tt : TT} {te : TE} {σ : St} {D : Addr} {H1 : Hp} {Q : VK}
theorem comp_range {lo : Int} {n : Nat} (Pv : Nat → List V → Hp → Prop) (h0 : Pv 0 [] (upd H1 D (.lst []))) (hl : ∀ i ys H, Pv i ys H → H D = some (.lst ys))
    (hs : ∀ i ys H, i < n → Pv i ys H → ∀ (C : Nat → List V → Hp → Prop), (∀ ys H, Pv (i + 1) ys H → C (i + 1) ys H) → CompT nl fr g tt te σ D C i ys (.int (lo + i)) H) (hd : ∀ ys H, Pv n ys H → Q (.ref D) H) :
    CompW (Itr lo n) nl fr g tt te σ D H1 Q := by
  refine ⟨fun i m ys H => m = n - i ∧ i ≤ n ∧ Pv i ys H, ⟨n, by simp, Nat.zero_le _, h0⟩, ?_⟩
  rintro i m ys H ⟨rfl, hi, p⟩
  refine ⟨hl i ys H p, ?_⟩
  by_cases hlt : i < n
  · refine .inr ⟨hlt, fun x H' y => ?_⟩
    obtain ⟨e, y⟩ := y
    subst e y
    exact hs i ys _ hlt p (fun j zs Hz => ∃ m', m' < n - i ∧ m' = n - j ∧ j ≤ n ∧ Pv j zs Hz) fun zs Hz z => ⟨n - (i + 1), by omega, rfl, hlt, z⟩
  · have e : i = n := by omega
    subst e
    exact .inl ⟨Nat.le_refl _, hd ys H p⟩
theorem comp_list {K : PySem.W.Frag} {a : Addr} {xs : List V} (Pv : Nat → List V → Hp → Prop) (h0 : Pv 0 [] (upd H1 D (.lst []))) (hl : ∀ i ys H, Pv i ys H → H D = some (.lst ys)) (hx : ∀ i ys H, i ≤ xs.length → Pv i ys H → SqL K H a xs)
    (hs : ∀ i ys x H, xs[i]? = some x → Pv i ys H → ∀ (C : Nat → List V → Hp → Prop), (∀ ys H, Pv (i + 1) ys H → C (i + 1) ys H) → CompT nl fr g tt te σ D C i ys x H) (hd : ∀ ys H, Pv xs.length ys H → Q (.ref D) H) :
    CompW (Itl K a) nl fr g tt te σ D H1 Q := by
  refine ⟨fun i m ys H => m = xs.length - i ∧ i ≤ xs.length ∧ Pv i ys H, ⟨xs.length, by simp, Nat.zero_le _, h0⟩, ?_⟩
  rintro i m ys H ⟨rfl, hi, p⟩
  refine ⟨hl i ys H p, ?_⟩
  have q := hx i ys H hi p
  by_cases hlt : i < xs.length
  · refine .inr ⟨⟨xs, xs[i], q, by simp [hlt]⟩, fun x H' y => ?_⟩
    obtain ⟨e, y⟩ := y
    subst e
    exact hs i ys x _ (y xs q) p (fun j zs Hz => ∃ m', m' < xs.length - i ∧ m' = xs.length - j ∧ j ≤ xs.length ∧ Pv j zs Hz) fun zs Hz z => ⟨xs.length - (i + 1), by omega, rfl, hlt, z⟩
  · have e : i = xs.length := by omega
    subst e
    exact .inl ⟨⟨xs, q, Nat.le_refl _⟩, hd ys H p⟩
end
/-- a block with one name of its own: the others are as they were -/
theorem keep1 {fr : List Nat} {σ : St} {x : V} : ((σC 1 fr σ).set 0 (some x)).length = (σC 1 fr σ).length ∧ ∀ (i : Nat) v, (σC 1 fr σ)[i]? = some (some v) → ((σC 1 fr σ).set 0 (some x))[i]? = some (some v) := by
  refine ⟨by simp, fun i v h => ?_⟩
  match i with
  | 0 => unfold σC at h; simp at h
  | k + 1 => rw [List.getElem?_set_ne (by omega)]; exact h
/-- a check of what a block's scope has -/
theorem has_of {names : List (Str × NameKind)} {cl : List (Str × Addr)} (h : names.all (fun y => !(y.2 == .cell || y.2 == .free) || (cl.lookup y.1).isSome) = true) (x : Str) (hx : names.lookup x = some .cell ∨ names.lookup x = some .free) : ∃ c, cl.lookup x = some c := by
  have key : ∀ k, (k = NameKind.cell ∨ k = NameKind.free) → names.lookup x = some k → ∃ c, cl.lookup x = some c := fun k hk e => by
    have m := List.all_eq_true.mp h _ (PySem.mem_of_lookup e)
    have : (k == NameKind.cell || k == NameKind.free) = true := by rcases hk with rfl | rfl <;> rfl
    simp only [this, Bool.not_true, Bool.false_or] at m
    exact Option.isSome_iff_exists.mp m
  rcases hx with e | e
  · exact key _ (.inl rfl) e
  · exact key _ (.inr rfl) e
end L2

set_option Elab.async false
set_option linter.all false
set_option maxRecDepth 100000
set_option maxHeartbeats 2000000
namespace L2
open PySem PySem.Spec PyProof.Rows
/-! ### for a, b in zip(xs, ys) -/
section
variable {X : Cx} {pins : List (Addr × Obj)} {σ : St} {H : Hp} {s : Shared} {h' : Heap}
theorem Inv.turnedL {t' : Nat} {fp : List Addr} (I : Inv X pins σ H s) (k : ∀ b o, b ∉ fp → s.heap.get? b = some o → h'.get? b = some o) (hf : ∀ b ∈ fp, FpOk X pins H b) : Inv X pins σ H { s with heap := h', toks := t' } := by
  have nit : ∀ b u, H b = some u → b ∉ fp := fun b u e z => by rw [(hf b z).1] at e; cases e
  have nL : X.env.locals ∉ fp := fun z => (hf _ z).2.1 rfl
  refine I.step (g' := s.gens) (d' := s.drawn) (ch := fp) (fun b hb => ?_) (fun b o _ _ hc e _ => k b o hc e) (fun b o _ _ hc e _ => ⟨o.slots, k b o hc e⟩) (fun _ _ _ _ n => n)
    (fun b o hc e => ⟨o, k b o hc e⟩) (fun _ _ e => e) (fun _ _ _ e => e) (fun b ps e => ⟨#[], by rw [e]; simp⟩) (fun m hm => ?_) (fun b u e => ?_) I.bare
  · obtain ⟨f0, f1, f2, f3, f4, f5⟩ := hf b hb
    exact ⟨f3, f1, f4, f5⟩
  · obtain ⟨o, es, ep, ho, r⟩ := hm
    exact ⟨o, es, ep, k _ o nL ho, r⟩
  · refine (I.hok b u e).stay (fun c v hc q => k c v ?_ q) (fun _ q => q) fun _ _ q => q
    rcases hc with z | z
    · rw [z]; exact nit b u e
    · exact nit c _ z
end
/-- the pairs of two lists, each a new tuple -/
def Itz (K : PySem.W.Frag) (a b : Addr) : It :=
  ⟨fun i H => ∃ xs ys x y, SqL K H a xs ∧ SqL K H b ys ∧ xs[i]? = some x ∧ ys[i]? = some y,
   fun i H v H' => ∃ T x y, v = .ref T ∧ H T = none ∧ H' = upd H T (.tup [x, y]) ∧ ∀ xs ys, SqL K H a xs → SqL K H b ys → xs[i]? = some x ∧ ys[i]? = some y,
   fun i H => ∃ xs ys, SqL K H a xs ∧ SqL K H b ys ∧ (xs.length ≤ i ∨ ys.length ≤ i)⟩
def ZipTn (z TI TO i1 i2 l1 l2 : Addr) (i : Nat) (h : Heap) : Prop :=
  ZipApart z TI TO i1 i2 l1 l2 ∧ IsZip h z TI TO .none ∧ IsPair h TI (.ref i1) (.ref i2) ∧ (∃ a b, IsPair h TO a b) ∧ h.IsListIter i1 l1 i ∧ h.IsListIter i2 l2 i
theorem turn_zip {P : Program} {w : World} {K : PySem.W.Frag} {elts : List Expr} {kk : Nat} {tpos : Pos} (z TI TO i1 i2 l1 l2 : Addr) :
    Turn P w K (.Tuple elts kk tpos) (Itz K l1 l2) [z, TI, TO, i1, i2] z (ZipTn z TI TO i1 i2 l1 l2) where
  mem := by simp
  obj := fun i h st b hb => by
    obtain ⟨ap, hz, hi, ⟨a, c, ho⟩, ⟨o1, e1, c1, d1⟩, ⟨o2, e2, c2, d2⟩⟩ := st
    simp only [List.mem_cons, List.not_mem_nil, or_false] at hb
    rcases hb with rfl | rfl | rfl | rfl | rfl
    · exact ⟨_, hz, fun v q => by cases q⟩
    · exact ⟨_, hi, fun v q => by cases q⟩
    · exact ⟨_, ho, fun v q => by cases q⟩
    · exact ⟨o1, e1, fun v q => by rw [d1] at q; cases q⟩
    · exact ⟨o2, e2, fun v q => by rw [d2] at q; cases q⟩
  keep := fun i h h' st k => by
    obtain ⟨ap, hz, hi, ⟨a, c, ho⟩, ⟨o1, e1, c1, d1⟩, ⟨o2, e2, c2, d2⟩⟩ := st
    exact ⟨ap, k _ (by simp) _ hz, k _ (by simp) _ hi, ⟨a, c, k _ (by simp) _ ho⟩, ⟨o1, k _ (by simp) _ e1, c1, d1⟩, ⟨o2, k _ (by simp) _ e2, c2, d2⟩⟩
  item := by
    intro X hP hw hK hc i pins s σ H E I hf st hg
    subst hP hw hK
    obtain ⟨ap, hz, hi, ⟨a, c, ho⟩, t1, t2⟩ := st
    obtain ⟨xs, ys, x, y, hx, hy, ex, ey⟩ := hg
    obtain ⟨its1, rv1, p1, z1⟩ := I.list hx
    obtain ⟨its2, rv2, p2, z2⟩ := I.list hy
    obtain ⟨u1, hu1, ru1⟩ := rv1.get ex
    obtain ⟨u2, hu2, ru2⟩ := rv2.get ey
    refine wpAny_pyNext_zip_item ap hz hi ho t1 t2 p1.isList p2.isList (x := u1) (y := u2) (by simpa using hu1) (by simpa using hu2) fun h' g1 g2 g3 g4 g5 g6 kk' => ?_
    have hn : H s.heap.objs.size = none := I.hok.fresh (Nat.le_refl _)
    have lt : ∀ b ∈ [z, TI, TO, i1, i2], b < s.heap.objs.size := fun b hb => by
      simp only [List.mem_cons, List.not_mem_nil, or_false] at hb
      obtain ⟨o1, e1, _⟩ := t1
      obtain ⟨o2, e2, _⟩ := t2
      rcases hb with rfl | rfl | rfl | rfl | rfl
      · exact Heap.lt_size hz
      · exact Heap.lt_size hi
      · exact Heap.lt_size ho
      · exact Heap.lt_size e1
      · exact Heap.lt_size e2
    have I1 : Inv X pins σ (upd H s.heap.objs.size (.tup [x, y])) { s with heap := s.heap.push { cls := .type "tuple", data := .seq #[u1, u2] } } :=
      I.laid (t' := s.toks) (fun b o e => Heap.get?_push_of_some _ e) (Nat.le_refl _) (show ObjOk X.prog X.w _ _ _ (.tup [x, y]) from ⟨by show 2 ≤ sizeLine; decide, [u1, u2], .cons ru1 (.cons ru2 .nil), IsTup.new _ _⟩)
    have hf1 : ∀ b ∈ [z, TI, TO, i1, i2], FpOk X pins (upd H s.heap.objs.size (.tup [x, y])) b := fun b hb => ⟨by rw [upd_ne (Nat.ne_of_lt (lt b hb))]; exact (hf b hb).1, (hf b hb).2⟩
    have k1 : ∀ b o, b ∉ [z, TI, TO, i1, i2] → (s.heap.push { cls := .type "tuple", data := .seq #[u1, u2] }).get? b = some o → h'.get? b = some o := fun b o nb e => by
      simp only [List.mem_cons, List.not_mem_nil, or_false, not_or] at nb
      by_cases hb : b = s.heap.objs.size
      · subst hb
        rw [Heap.get?_push_size _ rfl] at e
        cases e
        exact g5
      · have e0 : s.heap.get? b = some o := by rw [Heap.get?_push_ne _ _ _ hb] at e; exact e
        exact kk' b o nb.1 nb.2.2.1 nb.2.2.2.1 nb.2.2.2.2 e0
    have I2 : Inv X pins σ (upd H s.heap.objs.size (.tup [x, y])) { s with heap := h', toks := s.toks } := I1.turnedL (t' := s.toks) k1 hf1
    refine ⟨_, rfl, wpAny_letOwnedTupleGo_zip (s := { s with heap := h' }) g1 fun h2 q1 q2 => ?_⟩
    have kz : ∀ b o, b ≠ z → h'.get? b = some o → h2.get? b = some o := fun b o nb e => (q2.2 b nb).trans e
    have I3 : Inv X pins σ (upd H s.heap.objs.size (.tup [x, y])) { s with heap := h2, toks := s.toks } := Inv.turnedL (s := { s with heap := h', toks := s.toks }) (t' := s.toks) (fp := [z]) I2 (fun b o nb e => kz b o (by simpa using nb) e) fun b hb => hf1 b (by simp at hb; simp [hb])
    have hTI : h'.get? TI = some { cls := .type "tuple", data := .seq #[.ref i1, .ref i2] } := kk' TI _ ap.TIz ap.TITO ap.TIi1 ap.TIi2 hi
    obtain ⟨o3, e3, c3, d3⟩ := g3
    obtain ⟨o4, e4, c4, d4⟩ := g4
    refine ⟨.ref s.heap.objs.size, _, I3, rfl, ⟨_, x, y, rfl, hn, rfl, fun xs' ys' h1 h2 => ?_⟩, ⟨ap, q1, kz _ _ ap.TIz hTI, ⟨_, _, kz _ _ ap.TOz g2⟩, ⟨o3, kz _ _ ap.i1z e3, c3, d3⟩, ⟨o4, kz _ _ ap.i2z e4, c4, d4⟩⟩, fun b hb => (hf1 b hb).1⟩
    rw [I.list_inj h1 hx, I.list_inj h2 hy]
    exact ⟨ex, ey⟩
  done := by
    intro X hP hw hK hc i pins s σ H E I hf st hg
    subst hP hw hK
    obtain ⟨ap, hz, hi, ⟨a, c, ho⟩, t1, t2⟩ := st
    obtain ⟨xs, ys, hx, hy, hor⟩ := hg
    obtain ⟨its1, rv1, p1, z1⟩ := I.list hx
    obtain ⟨its2, rv2, p2, z2⟩ := I.list hy
    have l1' := rv1.length
    have l2' := rv2.length
    refine wpAny_pyNext_zip_end (I.ok.hd hc) ap hz hi ho t1 t2 p1.isList p2.isList (by rcases hor with h | h; left; simp; omega; right; simp; omega) fun h' kk' => ⟨rfl, ?_⟩
    refine I.turnedL (t' := s.toks) (fun b o nb e => ?_) hf
    simp only [List.mem_cons, List.not_mem_nil, or_false, not_or] at nb
    exact kk' b o nb.1 nb.2.2.1 nb.2.2.2.1 nb.2.2.2.2 e
  self := fun A i s Q E st h => by
    obtain ⟨ap, hz, hi, ⟨a, c, ho⟩, t1, t2⟩ := st
    exact wpAny_pyIter_zip hz h
section
variable {X : Cx}
def iZip (K : PySem.W.Frag) (ta : TA) : TI := fun σ H R => ta σ H fun vs H1 => ∃ a b, vs = [.ref a, .ref b] ∧ (∃ xs, SqL K H1 a xs) ∧ (∃ ys, SqL K H1 b ys) ∧ R (Itz K a b) H1
theorem pi_zip {e1 e2 : Expr} {ta : TA} {p pos : Pos} {elts : List Expr} {kk : Nat} {tpos : Pos} (hg : Gl X "zip") (hm : X.mg "zip" = none) (hv : bootBuiltins "zip" = some (.type "zip")) (ha : PA X [e1, e2] ta)
    (hs : starEach [e1, e2] X.env = (false, eval e1 X.env) :: starEach [e2] X.env := by rfl) (hpl : (backTo pos (starEach [e2] X.env)).any (·.1) = false := by rfl) : PI X (.Tuple elts kk tpos) (.Call (.Name "zip" p) [e1, e2] [] pos) (iZip X.K ta) := by
  intro pins s σ H R I h
  refine Call_ (ld_blt I hg hm hv (PyProof.Rows.callWith_type1 (thn (ha pos pins s σ H _ I h) fun us s1 ⟨vs, H1, I1, r1, q1⟩ => ?_) hs hpl))
  obtain ⟨a, b, rfl, ⟨xs, hx⟩, ⟨ys, hy⟩, q⟩ := q1
  obtain ⟨u, w', rfl, ra, rb⟩ := vals2 r1
  cases (show u = Value.ref a from ra)
  cases (show w' = Value.ref b from rb)
  obtain ⟨its1, rv1, p1, z1⟩ := I1.list hx
  obtain ⟨its2, rv2, p2, z2⟩ := I1.list hy
  have la : a < s1.heap.objs.size := by obtain ⟨o, e, _⟩ := p1.isList; exact Heap.lt_size e
  have lb : b < s1.heap.objs.size := by obtain ⟨o, e, _⟩ := p2.isList; exact Heap.lt_size e
  refine call_zip_2 p1.isList p2.isList fun h' g1 g2 g3 g4 g5 g6 kk' => ?_
  refine wpAny_pyIter_zip g1 ?_
  have ne : ∀ i j : Nat, i ≠ j → s1.heap.objs.size + i ≠ s1.heap.objs.size + j := fun i j n e => n (Nat.add_left_cancel e)
  have nl : ∀ (c : Addr) (i : Nat), c < s1.heap.objs.size → c ≠ s1.heap.objs.size + i := fun c i l e => absurd (Nat.lt_of_lt_of_le l (Nat.le_add_right _ i)) (by rw [← e]; exact Nat.lt_irrefl _)
  have n0 : ∀ j : Nat, j ≠ 0 → s1.heap.objs.size + j ≠ s1.heap.objs.size := fun j n e => n (Nat.add_left_cancel (e.trans (Nat.add_zero _).symm))
  refine ⟨s1.heap.objs.size + 4, [s1.heap.objs.size + 4, s1.heap.objs.size + 2, s1.heap.objs.size + 3, s1.heap.objs.size, s1.heap.objs.size + 1], _, Itz X.K a b, H1, rfl, I1.kept (t' := s1.toks) kk', turn_zip _ _ _ _ _ a b, ⟨?_, g1, g2, ⟨_, _, g3⟩, g4, g5⟩, fun c hc => ?_, q⟩
  · exact ⟨ne 2 4 (by decide), ne 3 4 (by decide), (n0 4 (by decide)).symm, ne 1 4 (by decide), ne 2 3 (by decide), n0 2 (by decide), ne 2 1 (by decide), n0 3 (by decide), ne 3 1 (by decide), (n0 1 (by decide)).symm,
      nl a 4 la, nl a 3 la, Nat.ne_of_lt la, nl a 1 la, nl b 4 lb, nl b 3 lb, Nat.ne_of_lt lb, nl b 1 lb⟩
  · have hle : s1.heap.objs.size ≤ c := by
      simp only [List.mem_cons, List.not_mem_nil, or_false] at hc
      rcases hc with rfl | rfl | rfl | rfl | rfl <;> first | exact Nat.le_add_right _ _ | exact Nat.le_refl _
    exact I1.fpOk hle (I1.hok.fresh hle)
theorem comp_zip {K : PySem.W.Frag} {a b : Addr} {xs ys : List V} {nl : Nat} {fr : List Nat} {g : TG} {tt : TT} {te : TE} {σ : St} {D : Addr} {H1 : Hp} {Q : VK} (Pv : Nat → List V → Hp → Prop) (h0 : Pv 0 [] (upd H1 D (.lst []))) (hl : ∀ i zs H, Pv i zs H → H D = some (.lst zs)) (hx : ∀ i zs H, i ≤ min xs.length ys.length → Pv i zs H → SqL K H a xs ∧ SqL K H b ys)
    (hs : ∀ i zs x y H T, xs[i]? = some x → ys[i]? = some y → Pv i zs H → H T = none → ∀ (C : Nat → List V → Hp → Prop), (∀ zs H, Pv (i + 1) zs H → C (i + 1) zs H) → CompT nl fr g tt te σ D C i zs (.ref T) (upd H T (.tup [x, y]))) (hd : ∀ zs H, Pv (min xs.length ys.length) zs H → Q (.ref D) H) :
    CompW (Itz K a b) nl fr g tt te σ D H1 Q := by
  refine ⟨fun i m zs H => m = min xs.length ys.length - i ∧ i ≤ min xs.length ys.length ∧ Pv i zs H, ⟨_, rfl, Nat.zero_le _, h0⟩, ?_⟩
  rintro i m zs H ⟨rfl, hi, p⟩
  refine ⟨hl i zs H p, ?_⟩
  obtain ⟨qx, qy⟩ := hx i zs H hi p
  by_cases hlt : i < min xs.length ys.length
  · have hx' : i < xs.length := by omega
    have hy' : i < ys.length := by omega
    refine .inr ⟨⟨xs, ys, xs[i], ys[i], qx, qy, by simp [hx'], by simp [hy']⟩, fun v H' z => ?_⟩
    obtain ⟨T, x, y, rfl, hT, rfl, hh⟩ := z
    obtain ⟨ex, ey⟩ := hh xs ys qx qy
    exact hs i zs x y H T ex ey p hT (fun j zs Hz => ∃ m', m' < min xs.length ys.length - i ∧ m' = min xs.length ys.length - j ∧ j ≤ min xs.length ys.length ∧ Pv j zs Hz) fun zs Hz z => ⟨min xs.length ys.length - (i + 1), by omega, rfl, hlt, z⟩
  · have e : i = min xs.length ys.length := by omega
    subst e
    exact .inl ⟨⟨xs, ys, qx, qy, by omega⟩, hd zs H p⟩
end
end L2

set_option Elab.async false
set_option linter.all false
set_option maxRecDepth 100000
set_option maxHeartbeats 2000000
namespace L2
open PySem PySem.Spec PyProof.Rows
section
variable {X : Cx}
/-- xs.insert(k, y), 0 ≤ k ≤ len -/
def rInsert : V → List V → Hp → VK → Prop := fun x vs H Q => ∃ (l : Addr) (xs : List V) (k : Nat) (i : Int) (y : V), x = .ref l ∧ vs = [.int i, y] ∧ i = (k : Int) ∧ k ≤ xs.length ∧ H l = some (.lst xs) ∧ xs.length < sizeLine ∧ Q .non (upd H l (.lst (xs.take k ++ y :: xs.drop k)))
end
end L2

set_option Elab.async false
set_option linter.all false
set_option maxRecDepth 100000
set_option maxHeartbeats 1000000
namespace L2
open PySem PySem.Spec PyProof.Rows

/-! ### an exception in flight: new since h0, untracked; its entry (if it has one) too -/
def Tb (h0 : Heap) (H : Hp) (h : Heap) (a : Addr) (v : Value) : Prop :=
  v = .none ∨ ∃ T oT ts, v = .ref T ∧ T ≠ a ∧ h0.get? T = none ∧ H T = none ∧ h.get? T = some oT ∧ oT.data = .fields ts ∧ ts[3]? = some .none
structure Fl (h0 : Heap) (H : Hp) (h : Heap) (a : Addr) (C : Value) (d : Option Addr) : Prop where
  new : h0.get? a = none
  free : H a = none
  at_ : ∃ oe vs v, h.get? a = some oe ∧ oe.cls = C ∧ oe.dict = d ∧ oe.data = .fields vs ∧ vs[1]? = some v ∧ Tb h0 H h a v
section
variable {M : Model} {A : Around} {E : Value → Shared → Prop} {s : Shared}
end

/-! ### the invariant where records that are new turn -/
section
variable {X : Cx} {pins : List (Addr × Obj)} {σ : List (Option V)} {H H' : Hp} {s : Shared} {h' : Heap}
/-- a def's own frame (no comprehension's block) -/
structure Frm (X : Cx) : Prop where
  ex : X.ex = []
  st : X.stack = X.env :: X.outer
  fr : X.env.frame = some X.env.locals
/-- the state where an exception has come up in this frame -/
def Lies (X : Cx) (pins : List (Addr × Obj)) (σ : List (Option V)) (H : Hp) (s : Shared) (a : Addr) (C : Value) (d : Option Addr) : Prop :=
  Inv X pins σ H s ∧ ∃ h0 : Heap, (∀ p ∈ X.pn ++ pins, h0.get? p.1 ≠ none) ∧ (∀ b o, X.s₀.heap.get? b = some o → ∃ o', h0.get? b = some o') ∧ (∀ b o, h0.get? b = some o → ∃ o', s.heap.get? b = some o') ∧ Fl h0 H s.heap a C d
end

/-! ### how an exception lies behind a call -/
def CX1 (P : Program) (w : World) : CXT := fun outer H s E e s' => ∃ a C d H', e = .ref a ∧ s'.os = s.os ∧ AllBare s'.gens ∧ Un (frs outer) [] H H' s.heap s'.heap ∧ HOk P w H' s'.heap ∧ Fl s.heap H' s'.heap a C d ∧ E C d H'
/-- what is wanted of exceptions, by the abstract heap -/
def XeOk (X : Cx) (E : XK) : Prop := ∀ (pins : List (Addr × Obj)) (σ : St) (H : Hp) (s : Shared) (a : Addr) (C : Value) (d : Option Addr), Lies X pins σ H s a C d → E C d H → X.xe (.ref a) s
section
variable {X : Cx} {pins : List (Addr × Obj)} {σ : List (Option V)} {H : Hp} {s s' : Shared} {E : XK} {e : Value}
end
end L2

set_option Elab.async false
set_option linter.all false
set_option maxRecDepth 100000
set_option maxHeartbeats 1000000
namespace L2
open PySem PySem.Spec PyProof.Rows

/-! ### raise -/
abbrev bmVE : List Value := [.type "ValueError", .type "Exception", .type "BaseException", .type "object"]
/-- an own class under ValueError, without __init__ -/
def ExcC (K : PySem.W.Frag) (C : Addr) : Prop := PySem.W.excIn K C bmVE "ValueError.__new__" = true
section
variable {X : Cx} {pins : List (Addr × Obj)} {σ : List (Option V)} {H : Hp} {s : Shared}
/-- raise C(e, ..) -/
def tRaise (C : Addr) (E : XK) (ta : TA) : TS := fun _ σ H => ta σ H fun vs H1 => vs.length ≤ sizeLine ∧ E (.ref C) none H1
end

/-! ### what may raise -/
abbrev TEX := St → Hp → VK → XK → Prop
abbrev TSX := Ends → (St → XK) → St → Hp → Prop
def XP (X : Cx) (pins : List (Addr × Obj)) (E : St → XK) (e : Value) (s' : Shared) : Prop := ∃ a C d σ' H', e = .ref a ∧ Lies X pins σ' H' s' a C d ∧ E σ' C d H'
def PX (X : Cx) (e : Expr) (t : TEX) : Prop :=
  ∀ (pins : List (Addr × Obj)) (s : Shared) (σ : St) (H : Hp) (Q : VK) (E : XK), Inv X pins σ H s → t σ H Q E → wpAny (model X.prog X.w) X.A (eval e X.env) (EP X pins σ Q) (XP X pins fun σ' C d H' => σ' = σ ∧ E C d H') s
def PSX (X : Cx) (st : Stmt) (t : TSX) : Prop :=
  ∀ (pins : List (Addr × Obj)) (s : Shared) (σ : St) (H : Hp) (D : Ends) (E : St → XK), Inv X pins σ H s → t D E σ H → wpAny (model X.prog X.w) X.A (exec st X.env) (SP X pins D) (XP X pins E) s
def PSXs (X : Cx) (st : List Stmt) (t : TSX) : Prop :=
  ∀ (pins : List (Addr × Obj)) (s : Shared) (σ : St) (H : Hp) (D : Ends) (E : St → XK), Inv X pins σ H s → t D E σ H → wpAny (model X.prog X.w) X.A (execs st X.env) (SP X pins D) (XP X pins E) s
section
variable {X : Cx} {k : Nat} {f C : Addr} {fd : FuncData} {ps : List Str} {sp : Sp} {dvs : List V} {ds : List Value} {x m : Str} {p pos apos : Pos} {e o : Expr} {es : List Expr} {ta : TE} {t : TA}
def xCall (sp : Sp) (dvs : List V) (t : TA) : TEX := fun σ H Q E => t σ H fun vs H1 => sp (vs ++ dvs) H1 Q E
/-- o.m(e, ..) that may raise -/
def xMeth (C : Addr) (m : Str) (sp : Sp) (dvs : List V) (ta : TE) (t : TA) : TEX := fun σ H Q E => ta σ H fun x H1 => ∃ a dx fs, x = .ref a ∧ H1 a = some (.ins C dx fs) ∧ fs.lookup m = none ∧ t σ H1 fun vs H2 => sp (x :: (vs ++ dvs)) H2 Q E
def xExpr (te : TEX) : TSX := fun D E σ H => te σ H (fun _ H1 => D.nx σ H1) (E σ)
def xSet (i : Nat) (te : TEX) : TSX := fun D E σ H => te σ H (fun v H1 => D.nx (σ.set i (some v)) H1) (E σ)
def xRet (te : TEX) : TSX := fun D E σ H => te σ H D.rt (E σ)
def xOf (t : TS) : TSX := fun D _ σ H => t D σ H
def xSeq (t u : TSX) : TSX := fun D E σ H => t { D with nx := u D E } E σ H
def xIf (c : TT) (t u : TSX) : TSX := fun D E σ H => c σ H fun b H1 => if b = true then t D E σ H1 else u D E σ H1
end

/-! ### the suite of an except clause -/
abbrev Cx.sup (X : Cx) (a : Addr) : Cx := { X with A := X.A.mark (some (.ref a)), calm := false, xe := fun _ _ => False }
section
variable {X : Cx} {pins : List (Addr × Obj)} {σ : List (Option V)} {H : Hp} {s : Shared} {a : Addr}
/-- an exception that was caught, as a thing -/
def excO (a : Addr) (C : Value) (d : Option Addr) : HO := .ext fun h => ∃ o vs, h.get? a = some o ∧ o.cls = C ∧ o.dict = d ∧ o.data = .fields vs
end

/-! ### try .. except -/
abbrev TH := Addr → Value → Option Addr → Ends → St → Hp → Prop
def PH (X : Cx) (hs : List ExceptHandler) (t : TH) : Prop :=
  ∀ (pins : List (Addr × Obj)) (s : Shared) (σ : St) (H : Hp) (D : Ends) (a : Addr) (C : Value) (d : Option Addr), Lies X pins σ H s a C d → t a C d D σ H → wpAny (model X.prog X.w) X.A (handleBy (.ref a) X.env hs) (SP X pins D) X.xe s
section
variable {X : Cx} {pos np : Pos} {T : Str} {tc : Value} {b₀ : Stmt} {suite : List Stmt} {rest : List ExceptHandler} {ts : TS} {tr : TH}
def hNever : TH := fun _ _ _ _ _ _ => False
/-- the class that an except clause names -/
def NameC (X : Cx) (T : Str) (c : Value) : Prop := X.mg T = some c ∨ (X.mg T = none ∧ bootBuiltins T = some c ∧ T ≠ "__name__")
def hTest (K : PySem.W.Frag) (tc : Value) (ts : TS) (tr : TH) : TH := fun a C d D σ H => ∃ b, PySem.W.exmOne K C tc = some b ∧ if b = true then ts D σ H else tr a C d D σ H
/-- except T as n: .. -/
def hTestAs (K : PySem.W.Frag) (tc : Value) (j : Nat) (ts : TS) (tr : TH) : TH := fun a C d D σ H => ∃ b, PySem.W.exmOne K C tc = some b ∧
  if b = true then ts { nx := fun σ' H' => D.nx (σ'.set j none) H', rt := D.rt, bk := fun σ' H' => D.bk (σ'.set j none) H', ct := fun σ' H' => D.ct (σ'.set j none) H' } (σ.set j (some (.ref a))) (upd H a (excO a C d)) else tr a C d D σ H
def tTry (tb : TSX) (to : TS) (th : TH) : TS := fun D σ H => tb { D with nx := to D } (fun σ' C d H' => ∀ a, H' a = none → th a C d D σ' H') σ H
end

/-! ### isinstance of an exception -/
structure ExcK (K : PySem.W.Frag) (C : Addr) : Prop where
  ga : PySem.W.findIn K (.ref C) "__getattribute__" = some (some (.builtin "BaseException.__getattribute__"))
  gn : PySem.W.findIn K (.ref C) "__getattr__" = some none
  bx : PySem.W.mroIn K C (.type "BaseException") = some true
  ob : PySem.W.mroIn K C (.type "object") = some true
  ca : PySem.W.findIn K (.ref C) "__class__" = some (some (.builtin "object.__class__"))
  hn : PySem.W.specialIn K (.builtin "object.__class__") "__get__" = some (some (.builtin "getset_descriptor.__get__"))
  tk : PySem.W.takesIn K (.builtin "object.__class__") = some true
  cl : (PySem.W.clsIn K C).isSome = true
end L2

set_option Elab.async false
set_option linter.all false
set_option maxHeartbeats 1000000
namespace L2
open PySem PySem.Spec PyProof.Rows
section
variable {X : Cx}
/-! is, of truths -/
end
end L2

set_option Elab.async false
set_option linter.all false
set_option maxRecDepth 100000
set_option maxHeartbeats 1000000
namespace L2
open PySem PySem.Spec PyProof.Rows

/-! ### an attribute of an exception of an own class -/
section
variable {prog : Program} {w : World} {A : Around} {E : Value → Shared → Prop} {s : Shared} {K : PySem.W.Frag} {x D : Addr} {ox : Obj} {odo : Option Obj} {name : Str}
end
/-! ### isinstance -/
section
variable {X : Cx}
end
end L2

set_option maxHeartbeats 1000000
namespace Mq
theorem minus_low {p q : Q2} (hp : 1 ≤ p.2) (hq : 1 ≤ q.2) : Low (minus p q) := red_low (mul_ne hp hq)
theorem over_ne {p q : Q2} (hp : 1 ≤ p.2) (hq : q.1 ≠ 0) : p.2 * q.1 ≠ 0 := Int.mul_ne_zero (by omega) hq
theorem over_low {p q : Q2} (hp : 1 ≤ p.2) (hq : q.1 ≠ 0) : Low (over p q) := red_low (over_ne hp hq)
theorem minus_bd {n m : Nat} {p q : Q2} (h : Bd n p) (g : Bd m q) (hp : 1 ≤ p.2) (hq : 1 ≤ q.2) : Bd (n + m + 1) (minus p q) := by
  have k := red_le (t := p.1 * q.2 - q.1 * p.2) (mul_ne hp hq)
  have a2 : B (n + m) (q.1 * p.2) := by rw [Nat.add_comm]; exact g.a.mul h.b
  exact ⟨((h.a.mul g.b).sub a2).le k.1, ((h.b.mul g.b).mono (Nat.le_succ _)).le k.2⟩
theorem over_bd {n m : Nat} {p q : Q2} (h : Bd n p) (g : Bd m q) (hp : 1 ≤ p.2) (hq : q.1 ≠ 0) : Bd (n + m) (over p q) := by
  have k := red_le (t := p.1 * q.2) (over_ne hp hq)
  exact ⟨(h.a.mul g.b).le k.1, (h.b.mul g.a).le k.2⟩
end Mq

set_option Elab.async false
set_option linter.all false
set_option maxHeartbeats 1000000
namespace L2
open PySem PySem.Spec PyProof.Rows
/-- no whole number -/
def NW (K : PySem.W.Frag) (H : Hp) (x : V) : Prop := ∃ t, TyOf K H x t ∧ NotWhole t
/-- what fraction refuses -/
def BadF (K : PySem.W.Frag) (H : Hp) (x y : V) : Prop := NW K H x ∨ (∃ t, x = .int t) ∧ (NW K H y ∨ y = .int 0)
def spFracX (K : PySem.W.Frag) (CN : Addr) : Sp := fun vs H Q E => ∃ x y, vs = [x, y] ∧
  ((∃ (t b : Int) (n : Nat), x = .int t ∧ y = .int b ∧ b ≠ 0 ∧ Mq.B n b ∧ n ≤ 9000 ∧ NewF H Q (Mq.red t b)) ∨ (BadF K H x y ∧ E (.ref CN) none H))
def spOver (K : PySem.W.Frag) (CN : Addr) : Sp := fun vs H Q E => ∃ (a b : Addr) (p q : Mq.Q2) (n m : Nat), vs = [.ref a, .ref b] ∧ Fq K H a p ∧ Fq K H b q ∧ 1 ≤ p.2 ∧ 1 ≤ q.2 ∧ Mq.Bd n p ∧ Mq.Bd m q ∧ n + m + 1 ≤ 9000 ∧
  ((q.1 ≠ 0 ∧ NewF H Q (Mq.over p q)) ∨ (q.1 = 0 ∧ E (.ref CN) none H))
def spUnder (K : PySem.W.Frag) : Sp := fun vs H Q _ => ∃ (a b : Addr) (p q : Mq.Q2) (n m : Nat), vs = [.ref a, .ref b] ∧ Fq K H a p ∧ Fq K H b q ∧ Mq.Bd n p ∧ Mq.Bd m q ∧ n + m + 1 ≤ 9000 ∧ Q (.bl (decide (p.1 * q.2 < q.1 * p.2))) H
/-- _law_pick -/
def pickN (ns : List Int) (k : Nat) : Int := ns.getD k 0
def spPick (K : PySem.W.Frag) : Sp := fun vs H Q _ => ∃ (a : Addr) (ns : List Int) (j : Int) (k : Nat), vs = [.ref a, .int j] ∧ j = (k : Int) ∧ SqL K H a (ns.map V.int) ∧ ns.length ≤ 63 ∧ ∀ H', Same H H' → Q (.int (pickN ns k)) H'
end L2

set_option Elab.async false
set_option linter.all false
set_option maxRecDepth 100000
set_option maxHeartbeats 2000000
namespace L2
open PySem PySem.Spec PyProof.Rows
/-! ### isinstance of what is read: tracked, frozen, or an object of the module -/
inductive TyQ (K : PySem.W.Frag) (H : Hp) : V → Value → Prop where
  | of {x : V} {t : Value} (h : TyOf K H x t) : TyQ K H x t
  | tup {a : Addr} {xs : List V} (h : SqT K H a xs) : TyQ K H (.ref a) (.type "tuple")
  | lst {a : Addr} {xs : List V} (h : SqL K H a xs) : TyQ K H (.ref a) (.type "list")
section
variable {X : Cx} {pins : List (Addr × Obj)} {σ : St} {H : Hp} {s : Shared} {A : Around} {E : Value → Shared → Prop} {Q : Value → Shared → Prop} {c : Value} {b : Bool}
theorem isinst_okQ {x : V} {u t : Value} (I : Inv X pins σ H s) (rx : RelV x u) (ty : TyQ X.K H x t) (e : PySem.W.kitOne X.K t c = some b) (h : ∀ tk, Q (.bool b) { s with toks := tk }) :
    wpAny (model X.prog X.w) A (call (.builtin "isinstance") [u, c]) Q E s := by
  cases ty with
  | of ty => exact isinst_ok I rx ty e h
  | @tup a xs ht =>
    cases (show u = Value.ref a from rx)
    obtain ⟨its, _, p, _⟩ := I.tuple ht
    obtain ⟨o, h1, h2, _⟩ := p
    exact PySem.W.kia_one PySem.W.kitx_tuple I.kIn ⟨o, h1, h2⟩ e (fun z => nomatch z) h
  | @lst a xs ht =>
    cases (show u = Value.ref a from rx)
    obtain ⟨its, _, p, _⟩ := I.list ht
    obtain ⟨o, h1, h2, _⟩ := p.isList
    exact PySem.W.kia_one PySem.W.kitx_list I.kIn ⟨_, h1, h2⟩ e (fun z => nomatch z) h
end
section
variable {X : Cx}
theorem call_isiQ : CallR X (.builtin "isinstance") (fun xs H Q => ∃ x n t b, xs = [x, .ty n] ∧ TyQ X.K H x t ∧ PySem.W.kitOne X.K t (.type n) = some b ∧ Q (.bl b) H) := by
  intro pins s σ H vs us Q I rv h
  obtain ⟨x, n, t, b, rfl, ty, e, q⟩ := h
  obtain ⟨u, u2, rfl, r1, r2⟩ := vals2 rv
  cases (show u2 = Value.type n from r2)
  exact isinst_okQ I r1 ty e fun tk => ⟨.bl b, H, I.tok tk, rfl, q⟩
/-- isinstance(name in slot i, T) -/
theorem pe_isiQ {i : Nat} {x T : Str} {T' : String} {p1 p2 p3 pos : Pos} (hN : X.N[i]? = some x) (hv : Vis X.env.scope x) (b : X.mg "isinstance" = none) (b2 : X.mg T = none) (g1 : Gl X "isinstance") (g2 : Gl X T) (hT : bootBuiltins T = some (.type T'))
    (hd : (x == ("__debug__" : Str)) = false := by decide) (hcd : (x == ("__classdict__" : Str)) = false := by decide) (hTn : T ≠ "__name__" := by decide) (hTd : (T == ("__debug__" : Str)) = false := by decide)
    (he : starEach [.Name x p2, .Name T p3] X.env = (false, eval (.Name x p2) X.env) :: starEach [.Name T p3] X.env := by rfl)
    (he2 : starEach [.Name T p3] X.env = (false, eval (.Name T p3) X.env) :: starEach [] X.env := by rfl) (hpl : (backTo pos (starEach [.Name T p3] X.env)).any (·.1) = false := by rfl) :
    PE X (.Call (.Name "isinstance" p1) [.Name x p2, .Name T p3] [] pos) (fun σ H Q => ∃ v t b, σ[i]? = some (some v) ∧ TyQ X.K H v t ∧ PySem.W.kitOne X.K t (.type T') = some b ∧ Q (.bl b) H) := by
  have h := pe_callB (X := X) (pos := pos) (p := p1) call_isiQ g1 b PyProof.Rows.boot_isinstance (pa_cons (pe_var (i := i) (pos := p2) hN hv hd hcd) (pa_cons (pe_bltn (v := .ty T') (pos := p3) g2 b2 hT rfl hTn hTd) pa_nil he2) he) (by decide) (by decide) he hpl
  intro pins s σ H Q I q
  obtain ⟨v, t, bb, h1, h2, h3, h4⟩ := q
  exact h pins s σ H Q I ⟨v, h1, v, T', t, bb, rfl, h2, h3, h4⟩
end
/-! ### lists that stay while another one changes -/
theorem SqT.upd {K : PySem.W.Frag} {H : Hp} {a l : Addr} {xs ys : List V} {o : HO} (h : SqT K H a xs) (hl : H l = some (.lst ys)) : SqT K (L2.upd H l o) a xs := by
  rcases h with (h | ⟨u, h⟩) | h
  · exact .inl (.inl (by rw [upd_ne (ne_of h hl (fun z => by cases z))]; exact h))
  · exact .inl (.inr ⟨u, by rw [upd_ne (ne_of h hl (fun z => by cases z))]; exact h⟩)
  · exact .inr h
/-! ### ints as data -/
theorem ints_dat {K : PySem.W.Frag} {H : Hp} : ∀ ns : List Int, DatVs K H (ns.map V.int) (ns.map PyData.int)
  | [] => .nil
  | n :: r => .cons (.int n) (ints_dat r)
theorem ints_lay : ∀ ns : List Int, PyData.canLayAll0 (ns.map PyData.int) = true
  | [] => rfl
  | n :: r => by
    show ((PyData.int n).canLay0 && PyData.canLayAll0 (r.map PyData.int)) = true
    rw [ints_lay r]; rfl
theorem cut_ints (ns : List Int) (lo hi : Option Int) : ∃ ms : List Int, cutV (ns.map V.int) lo hi = ms.map V.int ∧ ms.length ≤ ns.length := by
  refine ⟨(ns.drop (HT.sIx (ns.map V.int).length 0 lo)).take (HT.sIx (ns.map V.int).length (ns.map V.int).length hi - HT.sIx (ns.map V.int).length 0 lo), ?_, ?_⟩
  · unfold cutV; rw [List.map_take, List.map_drop]
  · rw [List.length_take, List.length_drop]; omega
/-- == of a list of ints and [] -/
theorem rd_eqNil {K : PySem.W.Frag} {H : Hp} {a b : Addr} {ns : List Int} {neg : Bool} {Q : VK} (h1 : SqL K H a (ns.map V.int)) (h2 : SqL K H b []) (z : Q (.bl (if neg then !ns.isEmpty else ns.isEmpty)) H) : rDat K neg (.ref a) (.ref b) H Q := by
  refine ⟨_, _, .lst h1 (ints_dat ns), .lst h2 .nil, ints_lay ns, rfl, ?_, ?_⟩
  · have : (PyData.list []).depth ≤ 1 := by decide
    omega
  · cases ns <;> exact z
/-- a block with two names of its own -/
theorem keep2 {fr : List Nat} {σ : St} {x y : V} : (((σC 2 fr σ).set 0 (some x)).set 1 (some y)).length = (σC 2 fr σ).length ∧ ∀ (i : Nat) v, (σC 2 fr σ)[i]? = some (some v) → (((σC 2 fr σ).set 0 (some x)).set 1 (some y))[i]? = some (some v) := by
  refine ⟨by simp, fun i v h => ?_⟩
  match i with
  | 0 => unfold σC at h; simp at h
  | 1 => unfold σC at h; simp at h
  | k + 2 => rw [List.getElem?_set_ne (by omega), List.getElem?_set_ne (by omega)]; exact h
theorem Fqs.set {K : PySem.W.Frag} {H : Hp} {a : Addr} {p : Mq.Q2} (h : Fq K H a p) : ∀ {xs : List V} {ps : List Mq.Q2} (i : Nat), Fqs K H xs ps → Fqs K H (xs.set i (.ref a)) (ps.set i p)
  | _, _, _, .nil => .nil
  | _, _, 0, .cons _ q => .cons h q
  | _, _, i + 1, .cons g q => .cons g (Fqs.set h i q)
theorem Fqs.at {K : PySem.W.Frag} {H : Hp} : ∀ {xs : List V} {ps : List Mq.Q2} {i : Nat} {p : Mq.Q2}, Fqs K H xs ps → ps[i]? = some p → ∃ a, xs[i]? = some (.ref a) ∧ Fq K H a p
  | _, _, _, _, .nil, h => by simp at h
  | _, _, 0, _, .cons h _, e => by simp at e; subst e; exact ⟨_, rfl, h⟩
  | _, _, i + 1, _, .cons _ q, e => by simpa using Fqs.at q (by simpa using e)
theorem B_of {n : Nat} {i : Int} (lo : -(2 ^ n : Int) < i) (hi : i < 2 ^ n) : Mq.B n i := by
  unfold Mq.B
  have e : ((2 ^ n : Nat) : Int) = 2 ^ n := by simp
  omega
/-- a long list of written numbers -/
theorem pa_ints (X : Cx) : ∀ l : List (Int × _ × Pos), PA X (l.map fun q => Expr.Constant (.int q.1) q.2.1 q.2.2) (fun _ H Q => Q (l.map fun q => V.int q.1) H)
  | [] => pa_nil
  | q :: l => pa_cons (te := tC (.int q.1)) pe_int (pa_ints X l) rfl
theorem ixN_nat {n k : Nat} (h : k < n) : ixN n (k : Int) = some k := by
  unfold ixN
  rw [if_pos (by omega), if_pos (by omega)]
  simp
end L2

set_option Elab.async false
set_option linter.all false
set_option maxRecDepth 100000
set_option maxHeartbeats 2000000
namespace L2
open PySem PySem.Spec PyProof.Rows
/-! ### texts -/
section
variable {X : Cx} {tg : Expr}
/-- str of an int of any size that the limit lets through -/
def rStrI : List V → Hp → VK → Prop := fun xs H Q => ∃ i n, xs = [.int i] ∧ Bt n i ∧ n ≤ 12900 ∧ Q (.str (Str.ofString (toString i))) H
def CPowB (i j : Int) : Prop := 0 ≤ j ∧ ∃ n, Bt n i ∧ n * j.toNat ≤ 2 ^ 27
/-- int(text) -/
def rIntT : List V → Hp → VK → Prop := fun xs H Q => ∃ x n, xs = [.str x] ∧ intText? x = some n ∧ x.length ≤ 640 ∧ Q (.int n) H
/-- x.partition(y) -/
def rPart : V → List V → Hp → VK → Prop := fun x vs H Q => ∃ a b, x = .str a ∧ vs = [.str b] ∧ b.length ≠ 0 ∧ a.length ≤ sizeLine ∧
  ∀ p, H p = none → Q (.ref p) (upd H p (.tup [.str (Txt.partition a b).1, .str (Txt.partition a b).2.1, .str (Txt.partition a b).2.2]))
/-- x[lo:hi] of a text -/
def rSlS : V → Option Int → Option Int → Hp → VK → Prop := fun x lo hi H Q => ∃ a, x = .str a ∧ a.length ≤ sizeLine ∧ Q (.str (Txt.slice a lo hi)) H
/-- the signs of a text -/
def Its (x : Str) : It := ⟨fun i _ => i < x.cps.size, fun i H v H' => H' = H ∧ ∃ c, x.cps[i]? = some c ∧ v = .str ⟨#[c]⟩, fun i _ => x.cps.size ≤ i⟩
def iStr (tl : TE) : TI := fun σ H R => tl σ H fun x H1 => ∃ a, x = .str a ∧ R (Its a) H1
/-- all(list of truths) -/
def rAll (K : PySem.W.Frag) : List V → Hp → VK → Prop := fun xs H Q => ∃ (p : Addr) (bs : List Bool), xs = [.ref p] ∧ SqL K H p (bs.map V.bl) ∧ Q (.bl (bs.all id)) H
theorem call_all (hc : X.calm = true) : CallR X (.builtin "all") (rAll X.K) := by
  intro pins s σ H xs us Q I r h
  obtain ⟨p, bs, rfl, hq, q⟩ := h
  obtain ⟨u, rfl, rx⟩ := vals1 r
  cases rx
  obtain ⟨its, rv, pl, hz⟩ := I.list hq
  have hlen : its.toArray.size = bs.length := by rw [List.size_toArray, ← rv.length, List.length_map]
  have hne : p ≠ s.heap.objs.size := by
    obtain ⟨o, e, _⟩ := pl.isList
    exact Nat.ne_of_lt (Heap.lt_size e)
  refine call_all_walk (wpAny_pyIter_list pl.isList ?_)
  refine ⟨s.heap.objs.size, _, _, _, _, _, fun i => bs.getD i false, rfl, Walks.list (by exact I.ok.hd hc) s.heap.objs.size p hne its.toArray, ⟨⟨_, Heap.get?_push_size _ rfl, rfl, rfl⟩, ?_⟩, ?_, ?_⟩
  · obtain ⟨o, e, c⟩ := pl.isList
    exact ⟨o, Heap.get?_push_of_some _ e, c⟩
  · intro i v s' Q' E' hv q'
    have hv' : its[i]? = some v := by simpa using hv
    have hi : i < its.length := (List.getElem?_eq_some_iff.mp hv').1
    have hb : (bs.map V.bl)[i]? = some (.bl (bs.getD i false)) := by
      rw [List.getElem?_map, List.getElem?_eq_getElem (by rw [← hlen]; simpa using hi)]
      simp [List.getD, List.getElem?_eq_getElem (show i < bs.length by rw [← hlen]; simpa using hi)]
    obtain ⟨u, hu, ru⟩ := rv.get hb
    have e : u = v := by rw [hv'] at hu; cases hu; rfl
    subst e
    cases ru
    exact wpAny_truthy_bool q'
  · intro h' tk kk
    have e : (List.range its.toArray.size).all (fun i => bs.getD i false) = bs.all id := by
      rw [hlen, Bool.eq_iff_iff, List.all_eq_true, List.all_eq_true]
      constructor
      · intro z b hb
        obtain ⟨i, hi, rfl⟩ := List.getElem_of_mem hb
        have := z i (List.mem_range.mpr hi)
        simpa [List.getD, List.getElem?_eq_getElem hi] using this
      · intro z i hi
        have hi' := List.mem_range.mp hi
        have := z bs[i] (List.getElem_mem hi')
        simpa [List.getD, List.getElem?_eq_getElem hi'] using this
    rw [e]
    refine ⟨.bl _, H, I.kept (t' := tk) fun b o hb => ?_, rfl, q⟩
    have hb2 : b ≠ s.heap.objs.size := Nat.ne_of_lt (Heap.lt_size hb)
    exact kk b o (by simpa using hb2) (Heap.get?_push_of_some _ hb)
end
end L2

set_option Elab.async false
set_option linter.all false
set_option maxRecDepth 100000
set_option maxHeartbeats 2000000
namespace L2
open PySem PySem.Spec PyProof.Rows
section
variable {X : Cx}
end
/-! ### methods by the object's class -/
def tMethD {ι : Type} (C : ι → Addr) (m : Str) (sp : ι → Sp) (dvs : List V) (E : XK) (ta : TE) (t : TA) : TE := fun σ H Q => ta σ H fun x H1 => ∃ i a dx fs, x = .ref a ∧ H1 a = some (.ins (C i) dx fs) ∧ fs.lookup m = none ∧
  t σ H1 fun vs H2 => sp i (x :: (vs ++ dvs)) H2 Q E
section
variable {X : Cx} {ι : Type} {C f : ι → Addr} {fd : ι → FuncData} {sp : ι → Sp} {m : Str} {CX : CXT} {k : Nat} {ps : List Str} {ds : List Value} {dvs : List V} {E : XK} {o e : Expr} {es : List Expr} {ta : TE} {t : TA} {apos pos : Pos}
theorem pe_methD0 {pl : Sem Bool} (he : PE X o ta) (c : ∀ i, Cls X.K (C i)) (hm : ∀ i, Meth X.K (C i) m (f i)) (F : ∀ i, FnOk X.prog X.w X.K X.mg X.base CX k (f i) (fd i) ps (sp i)) (hr : Room k X.A) (hb : ∀ i, Binds X.K (fd i) ps ds) (hd : Vals dvs ds) (hx : Passes CX X E)
    (ht : eval (.Call (.Attribute o m apos) [] [] pos) X.env = (do
      let ov ← eval o X.env
      standAt apos.atName
      let (f, first) ← holding [ov] (getMethod ov m pl)
      callWith pos f first (backTo pos (starEach [] X.env)) (backToKw pos (keywordEach [] X.env))) := by rfl) :
    PE X (.Call (.Attribute o m apos) [] [] pos) (tMethD C m sp dvs E ta tNil) := by
  intro pins s σ H Q I h
  refine PySem.W.methodCall_KW (pl := pl) (thn (he pins s σ H _ I h) fun u s1 ⟨x, H1, I1, rx, i, a, dx, fs, ex, ea, l, q⟩ => ?_) ht
  subst ex
  obtain rfl : u = Value.ref a := rx
  refine getmeth_ok I1 ea (c i) (hm i) l ?_
  exact PySem.W.callWith_K0 (first := [.ref a]) I1.kIn (hm i).kp (run_fn (us := [.ref a]) (vs := [.ref a]) (F i) hr (hb i) hd hx I1 (.cons rfl .nil) q)
end
/-! ### rows -/
inductive Kd where
  | pc | pu | ho
  deriving DecidableEq
def Kd.wd : Kd → Str
  | .pc => "piece"
  | .pu => "push"
  | .ho => "hold"
def Kd.cn : Kd → Str
  | .pc => "Piece"
  | .pu => "Push"
  | .ho => "Hold"
theorem Kd.wd_inj {k j : Kd} (h : k.wd = j.wd) : k = j := by
  cases k <;> cases j <;> first | rfl | exact absurd h (by decide +kernel)
theorem fsg : ¬ (("start" : Str) = "goal") := by decide +kernel
theorem fsz : ¬ (("start" : Str) = "size") := by decide +kernel
theorem fgz : ¬ (("goal" : Str) = "size") := by decide +kernel
/-- a row's fields -/
def rflds (s g z : V) : List (Str × V) := putF "size" z (putF "goal" g (putF "start" s []))
theorem rflds_start (s g z : V) : (rflds s g z).lookup ("start" : Str) = some s := by
  unfold rflds
  rw [lookup_putF, if_neg fsz, lookup_putF, if_neg fsg, lookup_putF, if_pos rfl]
theorem rflds_goal (s g z : V) : (rflds s g z).lookup ("goal" : Str) = some g := by
  unfold rflds
  rw [lookup_putF, if_neg fgz, lookup_putF, if_pos rfl]
theorem rflds_size (s g z : V) : (rflds s g z).lookup ("size" : Str) = some z := by
  unfold rflds
  rw [lookup_putF, if_pos rfl]
theorem rflds_no (s g z : V) {m : Str} (h1 : ¬ m = "start") (h2 : ¬ m = "goal") (h3 : ¬ m = "size") : (rflds s g z).lookup m = none := by
  unfold rflds
  rw [lookup_putF, if_neg h3, lookup_putF, if_neg h2, lookup_putF, if_neg h1]
  rfl
/-- a row stands at x -/
def Rw (CK : Kd → Addr) (H : Hp) (x : Addr) (k : Kd) (s g z : V) : Prop := ∃ dx, H x = some (.ins (CK k) dx (rflds s g z))
theorem Rw.same {CK : Kd → Addr} {H H' : Hp} {x : Addr} {k : Kd} {s g z : V} (e : Same H H') (h : Rw CK H x k s g z) : Rw CK H' x k s g z := let ⟨dx, q⟩ := h; ⟨dx, e _ _ q⟩
theorem Rw.upd {CK : Kd → Addr} {H : Hp} {x l : Addr} {k : Kd} {s g z : V} {ys : List V} {o : HO} (h : Rw CK H x k s g z) (hl : H l = some (.lst ys)) : Rw CK (L2.upd H l o) x k s g z := let ⟨dx, q⟩ := h; ⟨dx, by rw [upd_ne (ne_of q hl (fun z => by cases z))]; exact q⟩
/-- what the text says of the rows' classes -/
structure RT (K : PySem.W.Frag) (mg : Str → Option Value) (CR : Addr) (CK : Kd → Addr) : Prop where
  cl : ∀ k, Cls K (CK k)
  nS : ∀ k, NoAttr K (CK k) "start"
  nG : ∀ k, NoAttr K (CK k) "goal"
  nZ : ∀ k, NoAttr K (CK k) "size"
  t1 : ∀ k, PySem.W.findIn K (.ref (CK k)) "__class__" = some (some (.builtin "object.__class__"))
  t2 : PySem.W.specialIn K (.builtin "object.__class__") "__get__" = some (some (.builtin "getset_descriptor.__get__"))
  t3 : PySem.W.takesIn K (.builtin "object.__class__") = some true
  t4 : ∀ k, PySem.W.mroIn K (CK k) (.type "object") = some true
  isR : ∀ k, PySem.W.kitOne K (.ref (CK k)) (.ref CR) = some true
  isK : ∀ k j, PySem.W.kitOne K (.ref (CK k)) (.ref (CK j)) = some (decide (k = j))
  mR : mg "Row" = some (.ref CR)
  mK : ∀ k, mg (Kd.cn k) = some (.ref (CK k))
section
variable {K : PySem.W.Frag} {mg : Str → Option Value} {CR : Addr} {CK : Kd → Addr} {H : Hp} {x : Addr} {k : Kd} {s g z : V}
/-- a new row and its dict -/
theorem Rw.new {C x dx : Addr} {fs : List (Str × V)} (h1 : H x = none) (h2 : H dx = none) (ne : dx ≠ x) : Same H (L2.upd (L2.upd H dx (.own x)) x (.ins C dx fs)) := fun b o e => by
  rw [upd_ne (ne_of_none e h1), upd_ne (ne_of_none e h2)]; exact e
end
/-- __init__ of a row -/
def spRInit (CK : Kd → Addr) : Sp := fun vs H Q _ => ∃ (x dx : Addr) (k : Kd) (s g z : V), vs = [.ref x, s, g, z] ∧ H x = some (.ins (CK k) dx []) ∧ Q .non (upd H x (.ins (CK k) dx (rflds s g z)))
def spWord (k : Kd) : Sp := fun vs H Q _ => ∃ x, vs = [x] ∧ Q (.str k.wd) H
def spJoins (k : Kd) : Sp := fun vs H Q _ => ∃ x, vs = [x] ∧ Q (.bl (decide (k ≠ .pu))) H
def spRTold (CK : Kd → Addr) : Sp := fun vs H Q _ => ∃ (x : Addr) (k : Kd) (s g z : V), vs = [.ref x] ∧ Rw CK H x k s g z ∧ ∀ t, H t = none → Q (.ref t) (upd H t (.tup [.str k.wd, s, g, z]))
/-- no word of a row -/
def NoWd (K : PySem.W.Frag) (H : Hp) (v : V) : Prop := (∃ y : Str, v = .str y ∧ ∀ k : Kd, y ≠ k.wd) ∨ ∃ t, TyQ K H v t ∧ PySem.W.kitOne K t (.type "str") = some false
/-- a new row -/
def NewR (CK : Kd → Addr) (H : Hp) (Q : VK) (k : Kd) (s g z : V) : Prop := ∀ x H', Same H H' → H x = none → Rw CK H' x k s g z → Q (.ref x) H'
def spRowOf (K : PySem.W.Frag) (CK : Kd → Addr) (CN : Addr) : Sp := fun vs H Q E => ∃ (t : Addr) (v s g z : V), vs = [.ref t] ∧ SqT K H t [v, s, g, z] ∧ ((∃ k : Kd, v = .str k.wd ∧ NewR CK H Q k s g z) ∨ (NoWd K H v ∧ E (.ref CN) none H))
end L2
namespace L2
open PySem PySem.Spec PyProof.Rows
/-- a row's tuple as data -/
def rd4 (w : Str) (i j : Int) (p : Mq.Q2) : PyData := .tuple [.str w, .int i, .int j, qd p]
theorem ifT {c : Bool} {A B : Prop} (h : c = true) (x : A) : if c = true then A else B := by rw [if_pos h]; exact x
theorem ifF {c : Bool} {A B : Prop} (h : c = false) (x : B) : if c = true then A else B := by rw [if_neg (by rw [h]; decide)]; exact x
theorem dec_wd (k j : Kd) : decide (V.str k.wd = V.str j.wd) = decide (k = j) := by
  by_cases h : k = j
  · subst h; simp
  · rw [decide_eq_false h]
    exact decide_eq_false fun z => h (Kd.wd_inj (V.str.inj z))
end L2
namespace L2
open PySem PySem.Spec PyProof.Rows
end L2
namespace L2
theorem all3 {p : Kd → Prop} (a : p .pc) (b : p .pu) (c : p .ho) : ∀ k, p k := fun k => by cases k <;> assumption
theorem kit_self (K : PySem.W.Frag) (t : PySem.Value) : PySem.W.kitOne K t t = some true := by unfold PySem.W.kitOne; rw [if_pos (beq_self_eq_true _)]
def kd3 {α : Type} (a b c : α) : Kd → α
  | .pc => a
  | .pu => b
  | .ho => c
end L2

set_option maxHeartbeats 1000000
namespace Mq
/-! streams led round -/
def neg (p : Q2) : Q2 := (-p.1, p.2)
/-- way 1 or -1 -/
def Way (w : Int) : Prop := w = 1 ∨ w = -1
def addAt (ps : List Q2) (k : Nat) (a : Q2) : List Q2 := ps.set k (plus (ps.getD k (0, 1)) a)
def AllLow (ps : List Q2) : Prop := ∀ p ∈ ps, Low p
def ledS (am : Q2) (ps : List Q2) (r : Q2) : List Q2 := addAt ps r.1.toNat (times (r.2, 1) am)
def led (ps rg : List Q2) (am : Q2) : List Q2 := rg.foldl (ledS am) ps
def RingOk (n : Nat) (rg : List Q2) : Prop := ∀ r ∈ rg, 0 ≤ r.1 ∧ r.1 < n ∧ Way r.2
end Mq

set_option Elab.async false
set_option linter.all false
set_option maxRecDepth 100000
namespace L2
open PySem PySem.Spec PyProof.Rows

/-! ### lists of pairs as tables -/
section
variable {κ : Type} [DecidableEq κ]
def valV (kvs : List (κ × V)) (k : κ) : Option V := (kvs.find? fun kv => decide (kv.1 = k)).map (·.2)
/-- in its place, or at the end -/
def putK (kvs : List (κ × V)) (k : κ) (v : V) : List (κ × V) :=
  if (kvs.any fun kv => decide (kv.1 = k)) = true then kvs.map (fun kv => if kv.1 = k then (kv.1, v) else kv) else kvs ++ [(k, v)]
def dropK (kvs : List (κ × V)) (k : κ) : List (κ × V) := kvs.filter fun kv => decide (kv.1 ≠ k)

theorem valV_pos {p : κ × V} {r : List (κ × V)} {k : κ} (e : p.1 = k) : valV (p :: r) k = some p.2 := by simp [valV, List.find?_cons, e]
theorem valV_neg {p : κ × V} {r : List (κ × V)} {k : κ} (e : ¬ p.1 = k) : valV (p :: r) k = valV r k := by simp [valV, List.find?_cons, e]
theorem length_putK (kvs : List (κ × V)) (k : κ) (v : V) : (putK kvs k v).length ≤ kvs.length + 1 := by
  unfold putK
  split
  · rw [List.length_map]; omega
  · rw [List.length_append, List.length_cons, List.length_nil]; omega
/-- raw tables of the same keys -/
theorem KV.val {kvs : List (κ × V)} {vs : List (κ × Value)} (r : KV kvs vs) (k : κ) : RelO (valV kvs k) (valueAt vs k) := by
  unfold KV at r
  induction r with
  | nil => exact True.intro
  | @cons p q ps qs h t ih =>
    obtain ⟨h1, h2⟩ := h
    by_cases e : p.1 = k
    · have e' : q.1 = k := h1.symm.trans e
      have b : valueAt (q :: qs) k = some q.2 := by simp [valueAt, List.find?_cons, e']
      rw [valV_pos e, b]; exact h2
    · have e' : ¬ q.1 = k := fun z => e (h1.trans z)
      have b : valueAt (q :: qs) k = valueAt qs k := by simp [valueAt, List.find?_cons, e']
      rw [valV_neg e, b]; exact ih
theorem KV.any {kvs : List (κ × V)} {vs : List (κ × Value)} (r : KV kvs vs) (k : κ) : (kvs.any fun kv => decide (kv.1 = k)) = vs.any fun kv => decide (kv.1 = k) := by
  unfold KV at r
  induction r with
  | nil => rfl
  | cons h t ih => rw [List.any_cons, List.any_cons, ih, h.1]
theorem KV.repl {kvs : List (κ × V)} {vs : List (κ × Value)} (r : KV kvs vs) (k : κ) {y : V} {u : Value} (ry : RelV y u) :
    KV (kvs.map fun kv => if kv.1 = k then (kv.1, y) else kv) (vs.map fun kv => if kv.1 = k then (kv.1, u) else kv) := by
  unfold KV at r ⊢
  induction r with
  | nil => exact .nil
  | @cons p q ps qs h t ih =>
    rw [List.map_cons, List.map_cons]
    refine .cons ?_ ih
    obtain ⟨h1, h2⟩ := h
    by_cases e : p.1 = k
    · rw [if_pos e, if_pos (h1.symm.trans e)]; exact ⟨h1, ry⟩
    · rw [if_neg e, if_neg (fun z => e (h1.trans z))]; exact ⟨h1, h2⟩
theorem KV.put {kvs : List (κ × V)} {vs : List (κ × Value)} (r : KV kvs vs) (k : κ) {y : V} {u : Value} (ry : RelV y u) : KV (putK kvs k y) (stored vs k u) := by
  unfold putK stored
  rw [r.any k]
  by_cases e : (vs.any fun kv => decide (kv.1 = k)) = true
  · rw [if_pos e, if_pos e]; exact r.repl k ry
  · rw [if_neg e, if_neg e]; exact Paired.snoc r ⟨rfl, ry⟩
end


/-! ### a tracked dict, its keys ints and texts or tuples of these -/
theorem kV_is {P : Program} {w : World} {k : Key} {u : Value} (r : RelV (kV k) u) : (mixKind P w).is k u = true := by
  cases k with
  | inl i => obtain ⟨t, e⟩ := (show ∃ t, u = Value.int i t from r); subst e; exact mixKind_int P w i t
  | inr x => obtain ⟨t, e⟩ := (show ∃ t, u = Value.str x t from r); subst e; exact mixKind_str P w x t
theorem items_are {P : Program} {w : World} : ∀ {ks : List Key} {us : List Value}, Vals (ks.map kV) us → ItemsAre (mixKind P w) ks us
  | [], _, r => by rw [List.map_nil] at r; cases r; exact .nil
  | k :: ks, _, r => by
    rw [List.map_cons] at r
    cases r with
    | cons h t => exact .cons (kV_is h) (items_are t)

/-- raw entries of a dict with tuple keys -/
abbrev KT (H : Hp) : List (List Key × V) → List (List Key × Addr × Value) → Prop := Paired fun p q => p.1 = q.1 ∧ H q.2.1 = some (.tup (p.1.map kV)) ∧ RelV p.2 q.2.2
theorem KT.val {H : Hp} {kvs : List (List Key × V)} {xs : List (List Key × Addr × Value)} (r : KT H kvs xs) (k : List Key) : RelO (valV kvs k) ((atKey xs k).map (·.2)) := by
  induction r with
  | nil => exact True.intro
  | @cons p q ps qs h t ih =>
    obtain ⟨h1, _, h2⟩ := h
    by_cases e : p.1 = k
    · have e' : q.1 = k := h1.symm.trans e
      have b : atKey (q :: qs) k = some q.2 := by simp [atKey, List.find?_cons, e']
      rw [valV_pos e, b]; exact h2
    · have e' : ¬ q.1 = k := fun z => e (h1.trans z)
      have b : atKey (q :: qs) k = atKey qs k := by simp [atKey, List.find?_cons, e']
      rw [valV_neg e, b]; exact ih
section
variable {P : Program} {w : World} {H : Hp} {h : Heap} {a : Addr}
theorem rd_of {u : HO} (ok : HOk P w H h) (e : Rd H a u) : ObjOk P w H h a u := e.ok ok
theorem dk_rd {kvs : List (Key × V)} (ok : HOk P w H h) (e : Rd H a (.dK kvs)) : kvs.length ≤ sizeLine ∧ (a == sysModules) = false ∧ ∃ vs, KV kvs vs ∧ h.DictOf (mixKind P w) a vs :=
  show ObjOk P w H h a (.dK kvs) from rd_of ok e
theorem dk_of {kvs : List (Key × V)} (ok : HOk P w H h) (e : H a = some (.dK kvs)) : kvs.length ≤ sizeLine ∧ (a == sysModules) = false ∧ ∃ vs, KV kvs vs ∧ h.DictOf (mixKind P w) a vs := dk_rd ok (.inl e)
/-- a tracked tuple of ints and texts is a key -/
theorem key_of {ks : List Key} (ok : HOk P w H h) (e : H a = some (.tup (ks.map kV))) : (tupleKind (mixKind P w)).is h ks a := by
  obtain ⟨_, its, r, o, h1, h2, n, h3⟩ := (show ObjOk P w H h a (.tup (ks.map kV)) from ok a _ e)
  exact ⟨o, its.toArray, n, h1, h2, h3, by simpa using items_are r⟩
theorem dt_rd {kvs : List (List Key × V)} (ok : HOk P w H h) (e : Rd H a (.dT kvs)) : kvs.length ≤ sizeLine ∧ (a == sysModules) = false ∧
    ∃ xs, KT H kvs xs ∧ h.DictOfH (tupleKind (mixKind P w)) a xs := by
  obtain ⟨z, y, xs, r, o, es, ep, h1, h2, h3, h4, h5⟩ := (show ObjOk P w H h a (.dT kvs) from rd_of ok e)
  refine ⟨z, y, xs, r, o, es, ep, h1, h2, h3, h4, fun x hx => ?_, h5⟩
  have all : ∀ {l : List (List Key × V)} {m : List (List Key × Addr × Value)}, KT H l m → ∀ x ∈ m, (tupleKind (mixKind P w)).is h x.1 x.2.1 := by
    intro l m q
    induction q with
    | nil => intro x hx; exact nomatch hx
    | @cons p q ps qs hq t ih =>
      intro x hx
      rcases List.mem_cons.mp hx with e | hx
      · subst e
        exact key_of ok (by rw [← hq.1]; exact hq.2.1)
      · exact ih x hx
  exact all r x hx
end

/-- what the dict at a holds at the key y -/
def DGet (H : Hp) (a : Addr) (y : V) (r : Option V) : Prop :=
  (∃ kvs k, Rd H a (.dK kvs) ∧ y = kV k ∧ r = valV kvs k) ∨ ∃ kvs k b, Rd H a (.dT kvs) ∧ y = .ref b ∧ H b = some (.tup (k.map kV)) ∧ r = valV kvs k
/-- the heap behind a[y] = v -/
def DPut (H : Hp) (a : Addr) (y v : V) (H' : Hp) : Prop :=
  (∃ kvs k, H a = some (.dK kvs) ∧ y = kV k ∧ kvs.length < sizeLine ∧ H' = upd H a (.dK (putK kvs k v))) ∨
  ∃ kvs k b, H a = some (.dT kvs) ∧ y = .ref b ∧ H b = some (.tup (k.map kV)) ∧ kvs.length < sizeLine ∧ H' = upd H a (.dT (putK kvs k v))
theorem DGet.k {H : Hp} {a : Addr} {kvs : List (Key × V)} {k : Key} (e : H a = some (.dK kvs)) : DGet H a (kV k) (valV kvs k) := .inl ⟨kvs, k, .inl e, rfl, rfl⟩
section
variable {X : Cx} {pins : List (Addr × Obj)} {σ : St} {H : Hp} {s : Shared} {a : Addr} {y v : V} {u r : Value} {o : Option V} {A : Around} {E : Value → Shared → Prop}

theorem Inv.big (I : Inv X pins σ H s) : sysModules < s.heap.objs.size := by
  have h : mainGlobals < s.heap.objs.size := (I.mod.glob.keeps I.bk).lt
  exact Nat.lt_trans (by decide) h

/-- d[y], there -/
theorem d_getItem {Q : Value → Shared → Prop} (hu : A.units + 1 < cLine) (I : Inv X pins σ H s) (g : DGet H a y (some v)) (ry : RelV y u) (h : ∀ w' s', Inv X pins σ H s' → RelV v w' → Q w' s') :
    wpAny (model X.prog X.w) A (getItem (.ref a) u) Q E s := by
  rcases g with ⟨kvs, k, e, ey, l⟩ | ⟨kvs, k, b, e, ey, eb, l⟩
  · subst ey
    obtain ⟨z, hd, vs, rel, dd⟩ := dk_rd I.hok e
    obtain ⟨w', hw, rw'⟩ := RelO.some_of (v := v) (o := valueAt vs k) (by rw [l]; exact rel.val k)
    exact wpAny_getItem_of (kV_is ry) dd.mapOf hw (h w' _ (I.tok _) rw')
  · subst ey
    cases (show u = Value.ref b from ry)
    obtain ⟨z, hd, xs, rel, dd⟩ := dt_rd I.hok e
    obtain ⟨w', hw, rw'⟩ := RelO.some_of (v := v) (o := (atKey xs k).map (·.2)) (by rw [l]; exact rel.val k)
    obtain ⟨p, hp, hp2⟩ := Option.map_eq_some_iff.mp hw
    refine wpAny_getItem_heap (tupleKind_room_in1 hu) (key_of I.hok eb) dd hp ?_
    rw [hp2]
    exact h w' _ (I.tok _) rw'
/-- a dict's object is replaced -/
theorem d_write {h' : Heap} {t' : Nat} {ob : HO} (I : Inv X pins σ H s) (mu : Mut (H a)) (hs : Heap.SameBut a s.heap h') (he : ∃ q, h'.get? a = some q) (new : ObjOk X.prog X.w (upd H a ob) h' a ob) :
    Inv X pins σ (upd H a ob) { s with heap := h', toks := t' } :=
  I.write (x := a) (e := a) mu (.inl rfl) (fun b q hb z => (hs.2 b hb).trans z) he new
theorem dk_new {P : Program} {w : World} {H' : Hp} {h' : Heap} {kvs : List (Key × V)} {vs : List (Key × Value)} (z : kvs.length ≤ sizeLine) (hd : (a == sysModules) = false) (rel : KV kvs vs) (dd : h'.DictOf (mixKind P w) a vs) :
    ObjOk P w H' h' a (.dK kvs) := ⟨z, hd, vs, rel, dd⟩
end

section
variable {X : Cx} {pins : List (Addr × Obj)} {σ : St} {H : Hp} {s : Shared} {a : Addr} {kvs : List (Key × V)} {k : Key} {u : Value} {A : Around} {E : Value → Shared → Prop}
end


/-! ### readings and rules -/
/-- the element of a subscription, not a slice -/
def NoSl (i : Expr) : Prop := ∀ ov iv, subscripted i false ov iv = operate [ov, iv] (getItem ov iv)
theorem subD_of {prog : Program} {w : World} {A : Around} {E : Value → Shared → Prop} {s : Shared} {env : Env} {value slice : Expr} {pos : Pos} {T id : String} {Q : Value → Shared → Prop}
    (hl : typeLookup (.type T) "__getitem__" = pure (some (.builtin id))) (hs : NoSl slice)
    (h : wpAny (model prog w) A (eval value env) (fun o s₁ => wpAny (model prog w) A (eval slice env) (fun i s₂ => s₂.TypeIs o T ∧ wpAny (model prog w) A (getItem o i) Q E s₂) E s₁) E s) :
    wpAny (model prog w) A (eval (.Subscript value slice pos) env) Q E s := by
  refine Subscript_ (wpAny_mono h (fun o s₁ h₁ => wpAny_mono h₁ (fun i s₂ h₂ => ?_) fun _ _ x => x) fun _ _ x => x)
  obtain ⟨hT, h₂⟩ := h₂
  unfold subscriptTail
  refine wpAny_bind ?_
  rw [getitemInPython_of_ne hT.not_modules]
  refine wpAny_bind (wpAny_specialOf hT hl ?_)
  have fin : wpAny (model prog w) A (subscripted slice false o i) (fun r s₃ => wpAny (model prog w) A (letTemporaryGo value o r >>= fun _ => pure r) Q E s₃) E s₂ := by
    rw [hs o i]
    exact wpAny_operating (wpAny_mono h₂ (fun r s₃ h₃ => wpAny_bind (wpAny_letTemporaryGo (wpAny_pure h₃))) fun _ _ x => x)
  first
    | exact wpAny_pure (wpAny_bind fin)
    | exact wpAny_bind (wpAny_pure (wpAny_bind fin))
    | exact wpAny_bind fin

theorem dict_typeIs {X : Cx} {pins : List (Addr × Obj)} {σ : St} {H : Hp} {s : Shared} {a : Addr} {y : V} {o : Option V} (I : Inv X pins σ H s) (g : DGet H a y o) : s.TypeIs (.ref a) "dict" := by
  rcases g with ⟨kvs, k, e, _, _⟩ | ⟨kvs, k, b, e, _, _, _⟩
  · obtain ⟨_, _, vs, _, dd⟩ := dk_rd I.hok e
    exact dd.typeIs
  · obtain ⟨_, _, xs, _, dd⟩ := dt_rd I.hok e
    exact dd.typeIs
/-- d[y] -/
def tDGet (td ty : TE) : TE := fun σ H Q => td σ H fun x H1 => ty σ H1 fun y H2 => ∃ a v, x = .ref a ∧ DGet H2 a y (some v) ∧ Q v H2
/-- y in d, y not in d -/
def tDIn (ty td : TE) : TE := fun σ H Q => ty σ H fun y H1 => td σ H1 fun x H2 => ∃ a o, x = .ref a ∧ DGet H2 a y o ∧ Q (.bl o.isSome) H2
def tDNotIn (ty td : TE) : TE := fun σ H Q => ty σ H fun y H1 => td σ H1 fun x H2 => ∃ a o, x = .ref a ∧ DGet H2 a y o ∧ Q (.bl (!o.isSome)) H2
/-- d[y] = v -/
def sDPut (td ty tv : TE) : TS := fun D σ H => tv σ H fun v H1 => td σ H1 fun x H2 => ty σ H2 fun y H3 => ∃ a H4, x = .ref a ∧ DPut H3 a y v H4 ∧ D.nx σ H4
/-- d[y] op= v -/
def sDAug (td ty tv : TE) (rd : V → V → Hp → VK → Prop) : TS := fun D σ H => td σ H fun x H1 => ty σ H1 fun y H2 => ∃ a v, x = .ref a ∧ DGet H2 a y (some v) ∧
  tv σ H2 fun y2 H3 => rd v y2 H3 fun z H4 => ∃ H5, DPut H4 a y z H5 ∧ D.nx σ H5
/-- del d[y] -/
def sDDel (td ty : TE) : TS := fun D σ H => td σ H fun x H1 => ty σ H1 fun y H2 => ∃ a kvs k, x = .ref a ∧ H2 a = some (.dK kvs) ∧ y = kV k ∧ (valV kvs k).isSome = true ∧ D.nx σ (upd H2 a (.dK (dropK kvs k)))

section
variable {X : Cx} {o i e value : Expr} {pos pos' tpos : Pos} {td ty tv : TE}
theorem pe_dget (hu : X.A.units + 1 < cLine) (ho : PE X o td) (hi : PE X i ty) (hs : NoSl i) : PE X (.Subscript o i pos) (tDGet td ty) := by
  intro pins s σ H Q I h
  refine subD_of PySem.F.slot_dict_getitem.lookup hs (thn (ho pins s σ H _ I h) fun u s1 ⟨x, H1, I1, rx, q1⟩ => thn (hi pins s1 σ H1 _ I1 q1) fun iv s2 ⟨y, H2, I2, ry, a, v, ex, g, q2⟩ => ?_)
  subst ex
  obtain rfl : u = Value.ref a := rx
  exact ⟨dict_typeIs I2 g, d_getItem hu I2 g ry fun w' s3 I3 rw' => ⟨v, H2, I3, rw', q2⟩⟩
end


/-! ### displays -/
theorem dk_empty {P : Program} {w : World} {H : Hp} (h : Heap) (hb : sysModules < h.objs.size) : ObjOk P w H (h.push { cls := .type "dict", data := .dict #[] }) h.objs.size (.dK []) :=
  ⟨Nat.zero_le _, beq_eq_false_iff_ne.mpr (Ne.symm (Nat.ne_of_lt hb)), [], .nil, Heap.DictOf.new h⟩
/-- {}, to be a dict of the kind that is wanted -/
def tDNewK : TE := fun _ H Q => ∀ p, H p = none → Q (.ref p) (upd H p (.dK []))
def tDNewT : TE := fun _ H Q => ∀ p, H p = none → Q (.ref p) (upd H p (.dT []))
section
variable {X : Cx} {pos : Pos}
end

/-- the pairs of a display, from the left -/
def tPairs : List (TE × TE) → St → Hp → (List (V × V) → Hp → Prop) → Prop
  | [], _, H, Q => Q [] H
  | (tk, tv) :: r, σ, H, Q => tk σ H fun x H1 => tv σ H1 fun y H2 => tPairs r σ H2 fun ps H3 => Q ((x, y) :: ps) H3
abbrev VV : List (V × V) → List (Value × Value) → Prop := Paired fun p q => RelV p.1 q.1 ∧ RelV p.2 q.2
def PPs (X : Cx) (pos : Pos) (keys : List (Option Expr)) (values : List Expr) (trs : List (TE × TE)) : Prop :=
  ∀ (pins : List (Addr × Obj)) (s : Shared) (σ : St) (H : Hp) (Q : List (V × V) → Hp → Prop), Inv X pins σ H s → tPairs trs σ H Q →
    wpAny (model X.prog X.w) X.A (evalPairs (pairTrees keys values X.env pos)) (fun vs s' => ∃ ps H', Inv X pins σ H' s' ∧ VV ps vs ∧ Q ps H') X.xe s
theorem pps_nil {X : Cx} {pos : Pos} : PPs X pos [] [] [] := fun pins s σ H Q I h => pairTrees_nil_walk ⟨[], H, I, .nil, h⟩
theorem pps_cons {X : Cx} {pos : Pos} {k v : Expr} {ks : List (Option Expr)} {vs : List Expr} {tk tv : TE} {trs : List (TE × TE)} (hk : PE X k tk) (hv : PE X v tv) (hr : PPs X pos ks vs trs) :
    PPs X pos (some k :: ks) (v :: vs) ((tk, tv) :: trs) := fun pins s σ H Q I h =>
  pairTrees_cons_walk (thn (hk pins s σ H _ I h) fun u s1 ⟨x, H1, I1, rx, q1⟩ => thn (hv pins s1 σ H1 _ I1 q1) fun w2 s2 ⟨y, H2, I2, ry, q2⟩ =>
    thn (hr pins s2 σ H2 _ I2 q2) fun ws s3 ⟨ps, H3, I3, rel, q3⟩ => ⟨(x, y) :: ps, H3, I3, .cons ⟨rx, ry⟩ rel, q3⟩)

def mergeK (kvs more : List (Key × V)) : List (Key × V) := more.foldl (fun acc kv => putK acc kv.1 kv.2) kvs
theorem KV.merge : ∀ {more : List (Key × V)} {rs : List (Key × Value)} {kvs : List (Key × V)} {vs : List (Key × Value)}, KV more rs → KV kvs vs → KV (mergeK kvs more) (merged vs rs) := by
  intro more rs kvs vs r
  unfold KV at r
  induction r generalizing kvs vs with
  | nil => intro q; exact q
  | @cons p q ps qs h t ih =>
    intro r0
    have e : KV (putK kvs p.1 p.2) (stored vs q.1 q.2) := by
      have := r0.put p.1 h.2
      rw [← h.1]; exact this
    exact ih e
theorem length_mergeK : ∀ (more kvs : List (Key × V)), (mergeK kvs more).length ≤ kvs.length + more.length
  | [], kvs => by show kvs.length ≤ kvs.length + 0; omega
  | p :: r, kvs => by
    have h1 := length_mergeK r (putK kvs p.1 p.2)
    have h2 := length_putK kvs p.1 p.2
    show (mergeK (putK kvs p.1 p.2) r).length ≤ _
    rw [List.length_cons]; omega
theorem carries_of {P : Program} {w : World} : ∀ {kvs : List (Key × V)} {ws : List (Value × Value)}, VV (kvs.map fun kv => (kV kv.1, kv.2)) ws → ∃ rs, Carries (mixKind P w) ws rs ∧ KV kvs rs
  | [], _, r => by rw [List.map_nil] at r; cases r; exact ⟨[], True.intro, .nil⟩
  | p :: kvs, _, r => by
    rw [List.map_cons] at r
    cases r with
    | @cons a b as bs h t =>
      obtain ⟨rs, c, q⟩ := carries_of (P := P) (w := w) t
      obtain ⟨b1, b2⟩ := b
      exact ⟨(p.1, b2) :: rs, ⟨kV_is h.1, rfl, c⟩, .cons ⟨rfl, h.2⟩ q⟩
/-- {k: v, ..} with keys ints and texts; the new dict stands empty while the pairs are made -/
def tDisp (trs : List (TE × TE)) : TE := fun σ H Q => ∀ p, H p = none → tPairs trs σ (upd H p (.dK [])) fun ps H2 => H2 p = some (.dK []) ∧ ∃ kvs : List (Key × V), ps = kvs.map (fun kv => (kV kv.1, kv.2)) ∧ kvs.length ≤ 15 ∧ Q (.ref p) (upd H2 p (.dK (mergeK [] kvs)))
theorem pe_disp {X : Cx} {pos : Pos} {keys : List (Option Expr)} {values : List Expr} {trs : List (TE × TE)} (h : PPs X pos keys values trs) (hall : keys.all (·.isSome) = true) (hl : keys.length = values.length) (h0 : keys ≠ [])
    (h15 : keys.length ≤ 15) : PE X (.Dict keys values pos) (tDisp trs) := by
  intro pins s σ H Q I q
  have hn := I.hok.fresh (Nat.le_refl s.heap.objs.size)
  have I1 := I.laid (a := s.heap.objs.size) (o := .dK []) (h' := s.heap.push { cls := .type "dict", data := .dict #[] }) (t' := s.toks) (fun _ _ q => Heap.get?_push_of_some _ q) (Nat.le_refl _) (dk_empty s.heap I.big)
  refine wpAny_Dict_walk (knd := mixKind X.prog X.w) hall hl h0 h15 (thn (h pins _ σ _ _ I1 (q _ hn)) fun ws s2 ⟨ps, H2, I2, rel, e, kvs, ep, lk, q2⟩ => ?_)
  subst ep
  obtain ⟨rs, c, rk⟩ := carries_of (P := X.prog) (w := X.w) rel
  obtain ⟨z, hd, vs0, r0, dd⟩ := dk_of I2.hok e
  cases r0
  refine ⟨rs, c, dd, fun h' dd' hs => ⟨.ref s.heap.objs.size, _, ?_, rfl, q2⟩⟩
  have hz : (mergeK [] kvs).length ≤ sizeLine := by
    have h1 := length_mergeK kvs []
    rw [List.length_nil] at h1
    rw [sizeLine_eq]; omega
  have he : ∃ q, h'.get? s.heap.objs.size = some q := let ⟨q, _, _, hq, _⟩ := dd'; ⟨q, hq⟩
  exact d_write I2 (by rw [e]; exact True.intro) hs he (dk_new hz hd (rk.merge .nil) dd')


/-! ### methods -/
/-- a method call o.m(e) of a built-in, with one argument: what must be seen of the text -/
structure M1 (X : Cx) (o : Expr) (m : Str) (apos : Pos) (e : Expr) (cpos : Pos) : Prop where
  base : attributeBase o m X.env (eval o X.env) = eval o X.env
  few : ((backTo cpos (starEach [e] X.env)).all (fun x => !x.1) && (backToKw cpos (keywordEach [] X.env)).all (fun x => x.1.isSome)
    && decide (([e] : List Expr).length + ([] : List Keyword).length + (if ([] : List Keyword).isEmpty then 0 else 1) < 30)) = true
  line : (apos.endLine == cpos.line) = true
  trees : backTo cpos (starEach [e] X.env) = [(false, eval e X.env)]
structure M2 (X : Cx) (o : Expr) (m : Str) (apos : Pos) (e f : Expr) (cpos : Pos) : Prop where
  base : attributeBase o m X.env (eval o X.env) = eval o X.env
  few : ((backTo cpos (starEach [e, f] X.env)).all (fun x => !x.1) && (backToKw cpos (keywordEach [] X.env)).all (fun x => x.1.isSome)
    && decide (([e, f] : List Expr).length + ([] : List Keyword).length + (if ([] : List Keyword).isEmpty then 0 else 1) < 30)) = true
  line : (apos.endLine == cpos.line) = true
  trees : backTo cpos (starEach [e, f] X.env) = [(false, eval e X.env), (false, eval f X.env)]

/-- a is a dict, whatever its keys -/
def IsD (H : Hp) (a : Addr) : Prop := (∃ kvs, Rd H a (.dK kvs)) ∨ ∃ kvs, Rd H a (.dT kvs)
section
variable {X : Cx} {pins : List (Addr × Obj)} {σ : St} {H : Hp} {s : Shared} {a : Addr} {y d : V} {u r : Value} {o : Option V} {A : Around} {E : Value → Shared → Prop}
end

def tDGet1 (td ty : TE) : TE := fun σ H Q => td σ H fun x H1 => ∃ a, x = .ref a ∧ IsD H1 a ∧ ty σ H1 fun y H2 => ∃ o, DGet H2 a y o ∧ Q (o.getD .non) H2
def tDGet2 (td ty tx : TE) : TE := fun σ H Q => td σ H fun x H1 => ∃ a, x = .ref a ∧ IsD H1 a ∧ ty σ H1 fun y H2 => tx σ H2 fun z H3 => ∃ o, DGet H3 a y o ∧ Q (o.getD z) H3
/-- d.pop(k): there; d.pop(k, x): there or not -/
def tDPop1 (td ty : TE) : TE := fun σ H Q => td σ H fun x H1 => ∃ a, x = .ref a ∧ IsD H1 a ∧ ty σ H1 fun y H2 => ∃ kvs k v, H2 a = some (.dK kvs) ∧ y = kV k ∧ valV kvs k = some v ∧ Q v (upd H2 a (.dK (dropK kvs k)))
def tDPop2 (td ty tx : TE) : TE := fun σ H Q => td σ H fun x H1 => ∃ a, x = .ref a ∧ IsD H1 a ∧ ty σ H1 fun y H2 => tx σ H2 fun z H3 => ∃ kvs k, H3 a = some (.dK kvs) ∧ y = kV k ∧
  (∀ v, valV kvs k = some v → Q v (upd H3 a (.dK (dropK kvs k)))) ∧ (valV kvs k = none → Q z H3)
section
variable {X : Cx} {o e f : Expr} {apos cpos : Pos} {td ty tx : TE}
end

/-! ### dict(d): a copy -/
section
variable {X : Cx} {pins : List (Addr × Obj)} {σ : St} {H : Hp} {s : Shared} {a : Addr} {kvs : List (Key × V)} {A : Around} {E : Value → Shared → Prop}
end


section
variable {X : Cx} {pins : List (Addr × Obj)} {σ : St} {H : Hp} {s : Shared} {a : Addr} {y : V} {u : Value} {A : Around} {E : Value → Shared → Prop}
end
end L2

namespace L2
open PySem PySem.Spec PyProof.Rows
section
variable {X : Cx}
end
/-! ### a dict's pairs: keys that differ -/
section
variable {κ : Type} [DecidableEq κ]
end
end L2

set_option Elab.async false
set_option linter.all false
set_option maxRecDepth 100000
set_option maxHeartbeats 2000000
namespace Mq
end Mq
namespace L2
open PySem PySem.Spec PyProof.Rows
def trn : Kd → Mq.Q2 → Mq.Q2
  | .pc, p => p
  | _, p => Mq.neg p
def strm : Kd → Mq.Q2 → Mq.Q2 → Mq.Q2 → Mq.Q2
  | .pc, u, _, p => Mq.over u p
  | .pu, _, _, p => p
  | .ho, _, v, _ => v
def spTurn (K : PySem.W.Frag) (CK : Kd → Addr) (k : Kd) : Sp := fun vs H Q _ => ∃ (x z : Addr) (s g : V) (p : Mq.Q2) (n : Nat), vs = [.ref x] ∧ Rw CK H x k s g (.ref z) ∧ Fq K H z p ∧ Mq.Low p ∧ Mq.Bd n p ∧ n + 10 ≤ 9000 ∧
  ∀ x' z' H', Same H H' → H x' = none → Rw CK H' x' k g s (.ref z') → Fq K H' z' (trn k p) → Q (.ref x') H'
def spStream (K : PySem.W.Frag) (CK : Kd → Addr) (k : Kd) : Sp := fun vs H Q _ => ∃ (x z a h : Addr) (s g : V) (p u v : Mq.Q2) (n m : Nat), vs = [.ref x, .ref a, .ref h] ∧ Rw CK H x k s g (.ref z) ∧ Fq K H z p ∧ Fq K H a u ∧ Fq K H h v ∧ 1 ≤ p.2 ∧ 1 ≤ u.2 ∧ Mq.Bd n p ∧ Mq.Bd m u ∧ n + m + 1 ≤ 9000 ∧ (k = .pc → p.1 ≠ 0) ∧
  ∀ r H', Same H H' → Fq K H' r (strm k u v p) → Q (.ref r) H'
def spAtL (K : PySem.W.Frag) (CK : Kd → Addr) : Sp := fun vs H Q _ => ∃ (x l : Addr) (k : Kd) (i j : Int) (z v w : V) (xs : List V), vs = [.ref x, .ref l] ∧ Rw CK H x k (.int i) (.int j) z ∧ SqL K H l xs ∧ atI xs i = some v ∧ atI xs j = some w ∧ NewR CK H Q k v w z
def spAtD (K : PySem.W.Frag) (CK : Kd → Addr) : Sp := fun vs H Q _ => ∃ (x l : Addr) (k : Kd) (i j : Int) (z v w : V) (kvs : List (Key × V)), vs = [.ref x, .ref l] ∧ Rw CK H x k (.int i) (.int j) z ∧ H l = some (.dK kvs) ∧ valV kvs (Sum.inl i : Key) = some v ∧ valV kvs (Sum.inl j : Key) = some w ∧ NewR CK H Q k v w z
/-- a module's own tuple of two numbers -/
theorem Fq.mod {K : PySem.W.Frag} {a : Addr} {d : Option Addr} {n : Nat} {sl : Array (Option Value)} {i j : Int} {t u : Tok} (l : K.lookup a = some ⟨.type "tuple", d, .seq #[.int i t, .int j u] n, sl⟩) (H : Hp) : Fq K H a (i, j) :=
  .inr ⟨_, _, _, l, rfl, rfl, (by show 2 ≤ sizeLine; decide), .cons ⟨_, rfl⟩ (.cons ⟨_, rfl⟩ .nil)⟩
end L2

set_option Elab.async false
set_option linter.all false
set_option maxRecDepth 100000
set_option maxHeartbeats 2000000
namespace L2
open PySem PySem.Spec PyProof.Rows
/-! ### nets -/
abbrev RD := Kd × Int × Int × Mq.Q2
/-- tuples of rows -/
inductive Rts (K : PySem.W.Frag) (H : Hp) : List V → List RD → Prop where
  | nil : Rts K H [] []
  | cons {t z : Addr} {k : Kd} {i j : Int} {p : Mq.Q2} {xs : List V} {ds : List RD} (h : SqT K H t [.str k.wd, .int i, .int j, .ref z]) (f : Fq K H z p) (q : Rts K H xs ds) : Rts K H (.ref t :: xs) ((k, i, j, p) :: ds)
section
variable {K : PySem.W.Frag} {H H' : Hp}
theorem Rts.same (e : Same H H') : ∀ {xs : List V} {ds : List RD}, Rts K H xs ds → Rts K H' xs ds
  | _, _, .nil => .nil
  | _, _, .cons h f q => .cons (e.seqT h) (e.fq f) (Rts.same e q)
theorem Rts.length : ∀ {xs : List V} {ds : List RD}, Rts K H xs ds → xs.length = ds.length
  | _, _, .nil => rfl
  | _, _, .cons _ _ q => by simp [Rts.length q]
theorem Rts.app : ∀ {xs ys : List V} {ds es : List RD}, Rts K H xs ds → Rts K H ys es → Rts K H (xs ++ ys) (ds ++ es)
  | _, _, _, _, .nil, r => r
  | _, _, _, _, .cons h f q, r => .cons h f (Rts.app q r)
theorem Rts.at : ∀ {xs : List V} {ds : List RD} {q : Nat} {d : RD}, Rts K H xs ds → ds[q]? = some d → ∃ t z, xs[q]? = some (.ref t) ∧ SqT K H t [.str d.1.wd, .int d.2.1, .int d.2.2.1, .ref z] ∧ Fq K H z d.2.2.2
  | _, _, _, _, .nil, h => by simp at h
  | _, _, 0, _, .cons h f _, e => by simp at e; subst e; exact ⟨_, _, rfl, h, f⟩
  | _, _, i + 1, _, .cons _ _ q, e => by simpa using Rts.at q (by simpa using e)
theorem Rts.set {t z : Addr} {k : Kd} {i j : Int} {p : Mq.Q2} (h : SqT K H t [.str k.wd, .int i, .int j, .ref z]) (f : Fq K H z p) : ∀ {xs : List V} {ds : List RD} (q : Nat), Rts K H xs ds → Rts K H (xs.set q (.ref t)) (ds.set q (k, i, j, p))
  | _, _, _, .nil => .nil
  | _, _, 0, .cons _ _ q => .cons h f q
  | _, _, n + 1, .cons a b q => .cons a b (Rts.set h f n q)
theorem Rts.upd {l : Addr} {ys : List V} {o : HO} (hl : H l = some (.lst ys)) : ∀ {xs : List V} {ds : List RD}, Rts K H xs ds → Rts K (L2.upd H l o) xs ds
  | _, _, .nil => .nil
  | _, _, .cons h f q => .cons (h.upd hl) (f.upd hl) (Rts.upd hl q)
def rdd (d : RD) : PyData := rd4 d.1.wd d.2.1 d.2.2.1 d.2.2.2
end
/-- all but the object at l is as it was -/
def SameX (l : Addr) (H H' : Hp) : Prop := ∀ b o, H b = some o → b ≠ l → H' b = some o
theorem Same.x {l : Addr} {H H' : Hp} (s : Same H H') : SameX l H H' := fun b o h _ => s b o h
theorem SameX.write {l : Addr} {H H1 : Hp} {o : HO} (a : SameX l H H1) : SameX l H (upd H1 l o) := fun c u h n => by rw [upd_ne n]; exact a c u h n
section
variable {K : PySem.W.Frag} {H H' : Hp} {l : Addr}
theorem SameX.seqT {a : Addr} {xs ys : List V} (hl : H l = some (.lst ys)) (e : SameX l H H') (h : SqT K H a xs) : SqT K H' a xs := by
  rcases h with (h | ⟨u, h⟩) | h
  · exact .inl (.inl (e _ _ h (ne_of h hl (fun z => by cases z))))
  · exact .inl (.inr ⟨u, e _ _ h (ne_of h hl (fun z => by cases z))⟩)
  · exact .inr h
theorem SameX.rts {ys : List V} (hl : H l = some (.lst ys)) (e : SameX l H H') : ∀ {xs : List V} {ds : List RD}, Rts K H xs ds → Rts K H' xs ds
  | _, _, .nil => .nil
  | _, _, .cons h f q => .cons (e.seqT hl h) (e.seqT hl f) (SameX.rts hl e q)
end
theorem fpk : ¬ (("point_count" : Str) = "kept") := by decide +kernel
/-- a net's fields -/
def nflds (m : Int) (l : Addr) : List (Str × V) := putF "kept" (.ref l) (putF "point_count" (.int m) [])
theorem nflds_pc (m : Int) (l : Addr) : (nflds m l).lookup ("point_count" : Str) = some (.int m) := by
  unfold nflds
  rw [lookup_putF, if_neg fpk, lookup_putF, if_pos rfl]
theorem nflds_kept (m : Int) (l : Addr) : (nflds m l).lookup ("kept" : Str) = some (.ref l) := by
  unfold nflds
  rw [lookup_putF, if_pos rfl]
theorem nflds_no (m : Int) (l : Addr) {x : Str} (h1 : ¬ x = "point_count") (h2 : ¬ x = "kept") : (nflds m l).lookup x = none := by
  unfold nflds
  rw [lookup_putF, if_neg h2, lookup_putF, if_neg h1]
  rfl
/-- a good row for m points -/
def RdOk (m : Int) (d : RD) : Prop := 0 ≤ d.2.1 ∧ d.2.1 < m ∧ 0 ≤ d.2.2.1 ∧ d.2.2.1 < m ∧ Mq.Low d.2.2.2 ∧ (d.1 = .pc → 0 < d.2.2.2.1) ∧ Mq.Bd 100 d.2.2.2
/-- a net stands at n, its rows in the list at l -/
structure NetAt (CN : Addr) (K : PySem.W.Frag) (H : Hp) (n l : Addr) (m : Int) (ds : List RD) : Prop where
  ob : ∃ dx, H n = some (.ins CN dx (nflds m l))
  ls : ∃ ts, H l = some (.lst ts) ∧ Rts K H ts ds
theorem NetAt.same {CN : Addr} {K : PySem.W.Frag} {H H' : Hp} {n l : Addr} {m : Int} {ds : List RD} (e : Same H H') (h : NetAt CN K H n l m ds) : NetAt CN K H' n l m ds :=
  let ⟨⟨dx, a⟩, ts, b, c⟩ := h; ⟨⟨dx, e _ _ a⟩, ts, e _ _ b, c.same e⟩
theorem NetAt.x {CN : Addr} {K : PySem.W.Frag} {H H' : Hp} {n l q : Addr} {m : Int} {ds : List RD} {ys : List V} (hq : H q = some (.lst ys)) (e : SameX q H H') (ne : l ≠ q) (h : NetAt CN K H n l m ds) : NetAt CN K H' n l m ds :=
  let ⟨⟨dx, a⟩, ts, b, c⟩ := h; ⟨⟨dx, e _ _ a (ne_of a hq (fun z => by cases z))⟩, ts, e _ _ b ne, e.rts hq c⟩
/-- what the text says of the class Net -/
structure NT (K : PySem.W.Frag) (mg : Str → Option Value) (CN : Addr) : Prop where
  cl : Cls K CN
  nP : NoAttr K CN "point_count"
  nK : NoAttr K CN "kept"
  t1 : PySem.W.findIn K (.ref CN) "__class__" = some (some (.builtin "object.__class__"))
  t2 : PySem.W.specialIn K (.builtin "object.__class__") "__get__" = some (some (.builtin "getset_descriptor.__get__"))
  t3 : PySem.W.takesIn K (.builtin "object.__class__") = some true
  t4 : PySem.W.mroIn K CN (.type "object") = some true
  mN : mg "Net" = some (.ref CN)
/-! promises, the good ways -/
def spRowOfG (K : PySem.W.Frag) (CK : Kd → Addr) : Sp := fun vs H Q _ => ∃ (t : Addr) (v s g z : V), vs = [.ref t] ∧ SqT K H t [v, s, g, z] ∧ ∃ k : Kd, v = .str k.wd ∧ NewR CK H Q k s g z
def spIsF (K : PySem.W.Frag) : Sp := fun vs H Q _ => ∃ (a : Addr) (p : Mq.Q2), vs = [.ref a] ∧ Fq K H a p ∧ Mq.Low p ∧ Q (.bl true) H
def spPS (K : PySem.W.Frag) : Sp := fun vs H Q _ => ∃ (a : Addr) (p : Mq.Q2) (n : Nat), vs = [.ref a] ∧ Fq K H a p ∧ Mq.Low p ∧ 0 < p.1 ∧ Mq.Bd n p ∧ n ≤ 8000 ∧ Q (.bl true) H
def spNB : Sp := fun vs H Q _ => ∃ i b : Int, vs = [.int i, .int b] ∧ 0 ≤ i ∧ i < b ∧ Q (.bl true) H
def spRS (K : PySem.W.Frag) : Sp := fun vs H Q _ => ∃ (k : Kd) (z : Addr) (p : Mq.Q2), vs = [.str k.wd, .ref z] ∧ Fq K H z p ∧ Mq.Low p ∧ (k = .pc → 0 < p.1) ∧ Mq.Bd 100 p ∧ Q .non H
def spNInit (CN : Addr) : Sp := fun vs H Q _ => ∃ (n dx : Addr) (m : Int), vs = [.ref n, .int m] ∧ H n = some (.ins CN dx []) ∧ 1 ≤ m ∧ m ≤ 20 ∧ ∀ l H', H l = none → (∀ b o, H b = some o → b ≠ n → H' b = some o) → H' n = some (.ins CN dx (nflds m l)) → H' l = some (.lst []) → Q .non H'
def spMany (CN : Addr) (K : PySem.W.Frag) : Sp := fun vs H Q _ => ∃ (n l : Addr) (m : Int) (ds : List RD), vs = [.ref n] ∧ NetAt CN K H n l m ds ∧ Q (.int m) H
def spCount (CN : Addr) (K : PySem.W.Frag) : Sp := fun vs H Q _ => ∃ (n l : Addr) (m : Int) (ds : List RD), vs = [.ref n] ∧ NetAt CN K H n l m ds ∧ Q (.int ds.length) H
def spNTold (CN : Addr) (K : PySem.W.Frag) : Sp := fun vs H Q _ => ∃ (n l : Addr) (m : Int) (ds : List RD), vs = [.ref n] ∧ NetAt CN K H n l m ds ∧ ∀ a ts H', Same H H' → H a = none → H' a = some (.lst ts) → Rts K H' ts ds → Q (.ref a) H'
def spAdd (CN : Addr) (K : PySem.W.Frag) (CK : Kd → Addr) : Sp := fun vs H Q _ => ∃ (n l x z : Addr) (m : Int) (ds : List RD) (k : Kd) (i j : Int) (p : Mq.Q2), vs = [.ref n, .ref x] ∧ NetAt CN K H n l m ds ∧ Rw CK H x k (.int i) (.int j) (.ref z) ∧ Fq K H z p ∧ RdOk m (k, i, j, p) ∧ ds.length < 40 ∧
  ∀ H', SameX l H H' → NetAt CN K H' n l m (ds ++ [(k, i, j, p)]) → Q (.int ds.length) H'
def spChange (CN : Addr) (K : PySem.W.Frag) : Sp := fun vs H Q _ => ∃ (n l z : Addr) (m q : Int) (ds : List RD) (k : Kd) (i j : Int) (p0 p : Mq.Q2), vs = [.ref n, .int q, .ref z] ∧ NetAt CN K H n l m ds ∧ 0 ≤ q ∧ ds[q.toNat]? = some (k, i, j, p0) ∧ Fq K H z p ∧ Mq.Low p ∧ (k = .pc → 0 < p.1) ∧ Mq.Bd 100 p ∧
  ∀ H', SameX l H H' → NetAt CN K H' n l m (ds.set q.toNat (k, i, j, p)) → Q .non H'
def spCopy (CN : Addr) (K : PySem.W.Frag) : Sp := fun vs H Q _ => ∃ (n l : Addr) (m : Int) (ds : List RD), vs = [.ref n] ∧ NetAt CN K H n l m ds ∧ 1 ≤ m ∧ m ≤ 20 ∧ ∀ n' l' H', Same H H' → H n' = none → H l' = none → NetAt CN K H' n' l' m ds → Q (.ref n') H'
end L2

set_option Elab.async false
set_option linter.all false
set_option maxRecDepth 100000
set_option maxHeartbeats 2000000
namespace L2
open PySem PySem.Spec PyProof.Rows
/-! ### several nets beside one another, each with a list of its rows -/
def SameXX (l r : Addr) (H H' : Hp) : Prop := ∀ b o, H b = some o → b ≠ l → b ≠ r → H' b = some o
section
variable {K : PySem.W.Frag} {H H' : Hp} {l r : Addr} {as bs : List V}
end
structure NR where
  n : Addr
  l : Addr
  r : Addr
  m : Int
  ds : List RD
structure Grp (CN : Addr) (K : PySem.W.Frag) (H : Hp) (N R : Addr) (rs : List NR) : Prop where
  hN : H N = some (.lst (rs.map fun x => V.ref x.n))
  hR : H R = some (.lst (rs.map fun x => V.ref x.r))
  nr : N ≠ R
  net : ∀ (q : Nat) (x : NR), rs[q]? = some x → NetAt CN K H x.n x.l x.m x.ds
  row : ∀ (q : Nat) (x : NR), rs[q]? = some x → ∃ us, H x.r = some (.lst us) ∧ Rts K H us x.ds
  own : ∀ (q : Nat) (x : NR), rs[q]? = some x → x.l ≠ x.r ∧ x.l ≠ N ∧ x.l ≠ R ∧ x.r ≠ N ∧ x.r ≠ R
  two : ∀ (q w : Nat) (y x : NR), rs[q]? = some y → rs[w]? = some x → q ≠ w → y.l ≠ x.l ∧ y.l ≠ x.r ∧ y.r ≠ x.r
section
variable {CN : Addr} {K : PySem.W.Frag} {H H' : Hp} {N R : Addr} {rs : List NR}
end
/-! a text of statements parted: what lies behind the first k is kept closed -/
theorem cut2 {a1 a2 u : TS} {D : Ends} {σ : St} {H : Hp} (P : St → Hp → Prop) (h1 : ∀ X : St → Hp → Prop, (∀ σ' H', P σ' H' → X σ' H') → (tSeq a1 (a2)) { D with nx := X } σ H) (h2 : ∀ σ' H', P σ' H' → u D σ' H') : (tSeq a1 (tSeq a2 (u))) D σ H := h1 _ h2
theorem cut3 {a1 a2 a3 u : TS} {D : Ends} {σ : St} {H : Hp} (P : St → Hp → Prop) (h1 : ∀ X : St → Hp → Prop, (∀ σ' H', P σ' H' → X σ' H') → (tSeq a1 (tSeq a2 (a3))) { D with nx := X } σ H) (h2 : ∀ σ' H', P σ' H' → u D σ' H') : (tSeq a1 (tSeq a2 (tSeq a3 (u)))) D σ H := h1 _ h2
theorem cut4 {a1 a2 a3 a4 u : TS} {D : Ends} {σ : St} {H : Hp} (P : St → Hp → Prop) (h1 : ∀ X : St → Hp → Prop, (∀ σ' H', P σ' H' → X σ' H') → (tSeq a1 (tSeq a2 (tSeq a3 (a4)))) { D with nx := X } σ H) (h2 : ∀ σ' H', P σ' H' → u D σ' H') : (tSeq a1 (tSeq a2 (tSeq a3 (tSeq a4 (u))))) D σ H := h1 _ h2
end L2

set_option linter.all false
namespace Mq
/-! the worth of a pair, as a rational number -/
def val (p : Q2) : Rat := (p.1 : Rat) / (p.2 : Rat)
theorem cast_ne {b : Int} (h : b ≠ 0) : (b : Rat) ≠ 0 := fun e => h (Rat.intCast_inj.mp (by simpa using e))
theorem val_eq_div {p : Q2} {t b : Int} (hp : p.2 ≠ 0) (hb : b ≠ 0) (h : p.1 * b = t * p.2) : val p = (t : Rat) / (b : Rat) := by
  unfold val
  have h1 := cast_ne hp
  have h2 := cast_ne hb
  have h3 : (p.1 : Rat) * (b : Rat) = (t : Rat) * (p.2 : Rat) := by rw [← Rat.intCast_mul, ← Rat.intCast_mul, h]
  grind
theorem val_red {t b : Int} (hb : b ≠ 0) : val (red t b) = (t : Rat) / (b : Rat) := by
  have := (red_low (t := t) hb).pos
  exact val_eq_div (by omega) hb (red_cross hb)
theorem low_ext {p q : Q2} (hp : Low p) (hq : Low q) (h : val p = val q) : p = q := by
  refine low_same hp hq ?_
  have p1 := cast_ne (show p.2 ≠ 0 by have := hp.pos; omega)
  have q1 := cast_ne (show q.2 ≠ 0 by have := hq.pos; omega)
  unfold val at h
  have : (p.1 : Rat) * (q.2 : Rat) = (q.1 : Rat) * (p.2 : Rat) := by grind
  rw [← Rat.intCast_mul, ← Rat.intCast_mul] at this
  exact Rat.intCast_inj.mp this
theorem val_plus {p q : Q2} (hp : 1 ≤ p.2) (hq : 1 ≤ q.2) : val (plus p q) = val p + val q := by
  have p1 := cast_ne (show p.2 ≠ 0 by omega)
  have q1 := cast_ne (show q.2 ≠ 0 by omega)
  unfold plus
  rw [val_red (mul_ne hp hq), Rat.intCast_add, Rat.intCast_mul, Rat.intCast_mul, Rat.intCast_mul]
  unfold val
  grind
theorem val_minus {p q : Q2} (hp : 1 ≤ p.2) (hq : 1 ≤ q.2) : val (minus p q) = val p - val q := by
  have p1 := cast_ne (show p.2 ≠ 0 by omega)
  have q1 := cast_ne (show q.2 ≠ 0 by omega)
  unfold minus
  rw [val_red (mul_ne hp hq), Rat.intCast_sub, Rat.intCast_mul, Rat.intCast_mul, Rat.intCast_mul]
  unfold val
  grind
theorem val_over {p q : Q2} (hp : 1 ≤ p.2) (hq : 1 ≤ q.2) (h0 : q.1 ≠ 0) : val (over p q) = val p / val q := by
  have p1 := cast_ne (show p.2 ≠ 0 by omega)
  have q1 := cast_ne (show q.2 ≠ 0 by omega)
  have q2 := cast_ne h0
  unfold over
  rw [val_red (over_ne hp h0), Rat.intCast_mul, Rat.intCast_mul]
  unfold val
  grind
theorem val01 : val (0, 1) = 0 := by unfold val; simp; grind
theorem val11 : val (1, 1) = 1 := by unfold val; simp; grind
/-- positive fractions -/
structure Ps (p : Q2) : Prop where
  low : Low p
  pos : 0 < p.1
theorem Ps.b {p : Q2} (h : Ps p) : 1 ≤ p.2 := h.low.pos
theorem red_pos {t b : Int} (ht : 0 < t) (hb : 0 < b) : 0 < (red t b).1 := by
  have h1 := red_cross (t := t) (b := b) (by omega)
  have h2 := (red_low (t := t) (b := b) (by omega)).pos
  have h3 : 0 < t * (red t b).2 := Int.mul_pos ht (by omega)
  rw [← h1] at h3
  exact Int.pos_of_mul_pos_left h3 (by omega)
theorem red_ps {t b : Int} (ht : 0 < t) (hb : 0 < b) : Ps (red t b) := ⟨red_low (by omega), red_pos ht hb⟩
theorem plus_ps {p q : Q2} (hp : 1 ≤ p.2) (h0 : 0 ≤ p.1) (hq : Ps q) : Ps (plus p q) := by
  have b := hq.b
  refine red_ps ?_ (Int.mul_pos (by omega) (by omega))
  have h1 : 0 ≤ p.1 * q.2 := Int.mul_nonneg h0 (by omega)
  have h2 : 0 < q.1 * p.2 := Int.mul_pos hq.pos (by omega)
  omega
/-- the sum of numbers -/
def rsum : List Rat → Rat
  | [] => 0
  | x :: l => x + rsum l
/-- sums over the first numbers -/
def rs (n : Nat) (F : Nat → Rat) : Rat := match n with
  | 0 => 0
  | n + 1 => rs n F + F n
theorem rs_congr {n : Nat} {F G : Nat → Rat} (h : ∀ i, i < n → F i = G i) : rs n F = rs n G := by
  induction n with
  | zero => rfl
  | succ n ih => simp only [rs]; rw [ih (fun i hi => h i (by omega)), h n (by omega)]
theorem rs_add (n : Nat) (F G : Nat → Rat) : rs n (fun i => F i + G i) = rs n F + rs n G := by
  induction n with
  | zero => simp [rs]; grind
  | succ n ih => simp only [rs]; rw [ih]; grind
theorem rs_mul (n : Nat) (c : Rat) (F : Nat → Rat) : rs n (fun i => c * F i) = c * rs n F := by
  induction n with
  | zero => simp [rs]
  | succ n ih => simp only [rs]; rw [ih]; grind
theorem rs_neg (n : Nat) (F : Nat → Rat) : rs n (fun i => - F i) = - rs n F := by
  induction n with
  | zero => simp [rs]
  | succ n ih => simp only [rs]; rw [ih]; grind
theorem rs_zero (n : Nat) : rs n (fun _ => 0) = 0 := by
  induction n with
  | zero => rfl
  | succ n ih => simp only [rs]; rw [ih]; grind
end Mq

set_option linter.all false
namespace Mq
/-! stars and meshes -/
abbrev z0 : Q2 := (0, 1)
def inv (p : Q2) : Q2 := (p.2, p.1)
def most (ls : List Q2) : Q2 := tot (ls.map inv)
def drawn (ls hs : List Q2) : Q2 := tot (List.zipWith over hs ls)
def middle (ls hs : List Q2) : Q2 := over (drawn ls hs) (most ls)
def intoLegs (ls hs : List Q2) : List Q2 := List.zipWith (fun h l => over (minus h (middle ls hs)) l) hs ls
abbrev Row := Nat × Nat × Q2
def stepM (hs sent : List Q2) (r : Row) : List Q2 :=
  let f := over (minus (hs.getD r.1 z0) (hs.getD r.2.1 z0)) r.2.2
  let s1 := sent.set r.1 (tot [sent.getD r.1 z0, f])
  s1.set r.2.1 (minus (s1.getD r.2.1 z0) f)
def intoMesh (ms : List Row) (hs : List Q2) : List Q2 := ms.foldl (stepM hs) (List.replicate hs.length z0)
structure RowOk (n c : Nat) (r : Row) : Prop where
  i : r.1 < n
  j : r.2.1 < n
  ne : r.1 ≠ r.2.1
  ps : Ps r.2.2
  bd : Bd c r.2.2
def flow (hs : List Q2) (r : Row) : Q2 := over (minus (hs.getD r.1 z0) (hs.getD r.2.1 z0)) r.2.2
def sg (k : Nat) (r : Row) (x : Rat) : Rat := if k = r.1 then x else if k = r.2.1 then -x else 0
/-- the sums over pairs -/
def A (n : Nat) (c : Nat → Nat → Rat) : Rat := rs n fun i => rs (n - (i + 1)) fun t => c i (i + 1 + t)
/-- the mesh of a star -/
def shares (ls : List Q2) : Q2 := tot (ls.map (over (1, 1)))
def meshRow (ls : List Q2) (i t : Nat) : Row := (i, i + 1 + t, times (times (ls.getD i z0) (ls.getD (i + 1 + t) z0)) (shares ls))
def meshRows (ls : List Q2) (i : Nat) : List Row := (List.range (ls.length - (i + 1))).map (meshRow ls i)
def meshUpTo (ls : List Q2) (k : Nat) : List Row := (List.range k).flatMap (meshRows ls)
def meshOf (ls : List Q2) : List Row := meshUpTo ls ls.length
def AllPs (ls : List Q2) : Prop := ∀ p ∈ ls, Ps p
/-! the star of a mesh of three -/
def starOf (a b c : Q2) : List Q2 := [over (times c a) (tot [a, b, c]), over (times a b) (tot [a, b, c]), over (times b c) (tot [a, b, c])]
def tri (a b c : Q2) : List Row := [(0, 1, a), (1, 2, b), (2, 0, c)]
end Mq

set_option linter.all false
namespace Mq
/-! rows in whole numbers -/
def lcmS (L b : Int) : Int := Int.fdiv L (gc L b) * b
theorem lcmS_parts {L b : Int} (hL : 1 ≤ L) (hb : 1 ≤ b) : 1 ≤ lcmS L b ∧ (∃ j, lcmS L b = L * j) ∧ (∃ k, lcmS L b = k * b ∧ 1 ≤ k) ∧ lcmS L b ≤ L * b := by
  have gp : 0 < gc L b := gc_pos (by omega)
  have d1 : gc L b ∣ L := by unfold gc; exact Int.gcd_dvd_left ..
  have d2 : gc L b ∣ b := by unfold gc; exact Int.gcd_dvd_right ..
  obtain ⟨k, hk⟩ := d1
  obtain ⟨j, hj⟩ := d2
  have ek : Int.fdiv L (gc L b) = k := fdiv_exact (by omega) hk
  have k1 : 1 ≤ k := by
    have : 0 < gc L b * k := by omega
    have := Int.pos_of_mul_pos_right this (by omega)
    omega
  unfold lcmS
  rw [ek]
  refine ⟨?_, ⟨j, ?_⟩, ⟨k, rfl, k1⟩, ?_⟩
  · have : 0 < k * b := Int.mul_pos (by omega) (by omega)
    omega
  · generalize gc L b = g at *
    rw [hk, hj]; grind
  · have : k ≤ L := by
      rw [hk]
      have := Int.mul_le_mul_of_nonneg_right (show 1 ≤ gc L b by omega) (show 0 ≤ k by omega)
      omega
    exact Int.mul_le_mul_of_nonneg_right this (by omega)
def lcmB (ps : List Q2) : Int := ps.foldl (fun L p => lcmS L p.2) 1
theorem lcmB_snoc (ps : List Q2) (p : Q2) : lcmB (ps ++ [p]) = lcmS (lcmB ps) p.2 := by unfold lcmB; rw [List.foldl_append]; rfl
theorem lcmB_take {ps : List Q2} {i : Nat} {p : Q2} (h : ps[i]? = some p) : lcmB (ps.take (i + 1)) = lcmS (lcmB (ps.take i)) p.2 := by
  rw [List.take_add_one, h]; exact lcmB_snoc _ _
theorem lcmB_facts {ps : List Q2} (hp : Pos ps) {n : Nat} (hb : ∀ p ∈ ps, Bd n p) : ∀ i, i ≤ ps.length → 1 ≤ lcmB (ps.take i) ∧ B (1 + n * i) (lcmB (ps.take i)) ∧ ∀ p ∈ ps.take i, ∃ k, lcmB (ps.take i) = k * p.2
  | 0, _ => ⟨by show (1 : Int) ≤ 1; omega, show (1 : Nat) < 2 ^ (1 + n * 0) by simp, fun p h => by simp at h⟩
  | i + 1, hi => by
    obtain ⟨h1, h2, h3⟩ := lcmB_facts hp hb i (by omega)
    have e : ps[i]? = some ps[i] := List.getElem?_eq_getElem (by omega)
    have mem : ps[i] ∈ ps := List.getElem_mem _
    rw [lcmB_take e]
    obtain ⟨l1, ⟨j, l2⟩, ⟨k, l3, l4⟩, l5⟩ := lcmS_parts h1 (hp _ mem)
    refine ⟨l1, ?_, fun p hpp => ?_⟩
    · have := h2.mul (hb _ mem).b
      refine B.mono (n := 1 + n * i + n) (this.le ?_) (by rw [Nat.mul_succ]; omega)
      have h0 : 1 ≤ ps[i].2 := hp _ mem
      have : 0 ≤ lcmB (ps.take i) * ps[i].2 := Int.mul_nonneg (by omega) (by omega)
      omega
    · rw [List.take_add_one, e] at hpp
      rcases List.mem_append.mp hpp with z | z
      · obtain ⟨q, hq⟩ := h3 p z
        exact ⟨q * j, by rw [l2, hq]; grind⟩
      · have : p = ps[i] := by simpa using z
        rw [this]; exact ⟨k, l3⟩
theorem lcmB_ge {ps : List Q2} (hp : Pos ps) : 1 ≤ lcmB ps := by
  have : ∀ (l : List Q2) (L : Int), 1 ≤ L → Pos l → 1 ≤ l.foldl (fun L p => lcmS L p.2) L := fun l => by
    induction l with
    | nil => intro L h _; exact h
    | cons p l ih => intro L h q; exact ih _ (lcmS_parts h (q p (by simp))).1 fun x hx => q x (List.mem_cons_of_mem _ hx)
  exact this ps 1 (by omega) hp
def iwOf (L : Int) (p : Q2) : Int := p.1 * Int.fdiv L p.2
def iw (ps : List Q2) : List Int := ps.map (iwOf (lcmB ps))
theorem iw_val {L k : Int} {p : Q2} (h : 1 ≤ p.2) (e : L = k * p.2) : ((iwOf L p : Int) : Rat) = val p * (L : Rat) := by
  have e1 : Int.fdiv L p.2 = k := fdiv_exact (by omega) (by rw [e, Int.mul_comm])
  have n := cast_ne (show p.2 ≠ 0 by omega)
  unfold iwOf val
  rw [e1, e, Rat.intCast_mul, Rat.intCast_mul]
  grind
theorem lcmB_dvd {ps : List Q2} (hp : Pos ps) : ∀ p ∈ ps, ∃ k, lcmB ps = k * p.2 := fun p hpp => by
  have : ∀ (l : List Q2) (L : Int), 1 ≤ L → Pos l → (∃ j, l.foldl (fun L p => lcmS L p.2) L = L * j) ∧ ∀ p ∈ l, ∃ k, l.foldl (fun L p => lcmS L p.2) L = k * p.2 := fun l => by
    induction l with
    | nil => intro L h _; exact ⟨⟨1, by simp⟩, fun p h => by simp at h⟩
    | cons q l ih =>
      intro L h hq
      obtain ⟨l1, ⟨j, l2⟩, ⟨k, l3, l4⟩, l5⟩ := lcmS_parts h (hq q (by simp))
      obtain ⟨⟨j2, i1⟩, i2⟩ := ih (lcmS L q.2) l1 fun x hx => hq x (List.mem_cons_of_mem _ hx)
      refine ⟨⟨j * j2, by rw [List.foldl_cons, i1, l2]; grind⟩, fun p hp => ?_⟩
      rcases List.mem_cons.mp hp with rfl | hp
      · exact ⟨k * j2, by rw [List.foldl_cons, i1, l3]; grind⟩
      · exact i2 p hp
  exact (this ps 1 (by omega) hp).2 p hpp
/-! the sum of rows by multiples -/
def frs (ms : List Q2) (X : List (List Q2)) : List Q2 := List.zipWith (fun m row => red m.1 (m.2 * lcmB row)) ms X
def prodAt (ms : List Q2) (X : List (List Q2)) (j : Nat) : List Int := List.zipWith (fun t (R : List Int) => t * R.getD j 0) (iw (frs ms X)) (X.map iw)
def sumAt (ms : List Q2) (X : List (List Q2)) (j : Nat) : Q2 := tot (List.zipWith (fun m row => times m (row.getD j z0)) ms X)
def AllPos (X : List (List Q2)) : Prop := ∀ row ∈ X, Pos row
def isumR : List Int → Int
  | [] => 0
  | n :: l => n + isumR l
end Mq

set_option Elab.async false
set_option linter.all false
set_option maxRecDepth 100000
set_option maxHeartbeats 2000000
namespace L2
open PySem PySem.Spec PyProof.Rows
/-! ### a comprehension whose name is read by one within it: the name lies in a cell of the block's own -/
section
variable {M : Model} {A : Around} {E : Value → Shared → Prop} {s : Shared}
end
abbrev compEnv1 (scope : Scope) (cl : List (Str × Addr)) (x0 : Str) (C : Addr) (env : Env) : Env := { compEnvC scope cl C env with cells := (x0, C + 1) :: cl }
structure CompOk1 (X : Cx) (scope : Scope) (cl : List (Str × Addr)) (x0 : Str) (Nc : List Str) (nl : Nat) (fr : List Nat) : Prop where
  clos : closureFor scope X.env = pure cl
  kind : scope.kind = .function
  names : ∀ y ∈ scope.names, y.2 = .local → scope.names.lookup y.1 = some .local
  one : ∀ n, cellsFrom n scope.names cl = (x0, n) :: cl
  psh : ∀ h, pushCells h scope.names = h.push { cls := .type "cell", data := .cell none }
  nin : cl.lookup x0 = none
  sub : ∀ x c, cl.lookup x = some c → X.env.cells.lookup x = some c
  has : ∀ C x, (relabel scope X.env).names.lookup x = some .cell ∨ (relabel scope X.env).names.lookup x = some .free → ∃ c, ((x0, C) :: cl).lookup x = some c
  len : Nc.length = nl + fr.length
  tail : ∀ i n, Nc[nl + i]? = some n → ∃ j, fr[i]? = some j ∧ X.N[j]? = some n ∧ X.env.kindOf n = some .cell ∧ cl.lookup n = X.env.cells.lookup n ∧ ((relabel scope X.env).names.lookup n = some .cell ∨ (relabel scope X.env).names.lookup n = some .free)
abbrev compCx1 (X : Cx) (scope : Scope) (cl : List (Str × Addr)) (x0 : Str) (Nc : List Str) (C : Addr) (s3 : Shared) (H3 : Hp) (fp : List Addr) (pins : List (Addr × Obj)) : Cx :=
  { X with N := Nc, s₀ := s3, H₀ := H3, env := compEnv1 scope cl x0 C X.env, outer := X.stack, ex := fp, fn := fun x => x == x0, pn := X.pn ++ pins, xe := fun _ _ => False }
section
variable {X : Cx} {scope : Scope} {cl : List (Str × Addr)} {x0 : Str} {Nc : List Str} {nl : Nat} {fr : List Nat} {pins : List (Addr × Obj)} {σ : St} {H3 : Hp} {s3 : Shared} {fp : List Addr} {h4 : Heap} {tk : Nat}
end
section
variable {X : Cx} {scope : Scope} {cl : List (Str × Addr)} {x0 : Str} {Nc : List Str} {nl : Nat} {fr : List Nat} {elt tg iter : Expr} {ifs : List Expr} {pos : Pos} {wi : TI} {g : TG} {tt : TT} {te : TE}
end
end L2

set_option Elab.async false
set_option linter.all false
set_option maxRecDepth 100000
set_option maxHeartbeats 2000000
namespace L2
open PySem PySem.Spec PyProof.Rows
section
variable {X : Cx}
def isum : List Int → Int
  | [] => 0
  | n :: l => n + isum l
/-- sum(list of numbers) -/
def rSum (K : PySem.W.Frag) : List V → Hp → VK → Prop := fun xs H Q => ∃ (p : Addr) (ns : List Int), xs = [.ref p] ∧ SqL K H p (ns.map V.int) ∧ Q (.int (isum ns)) H
end
end L2
namespace L2
open PySem PySem.Spec PyProof.Rows
end L2
namespace L2
open PySem PySem.Spec PyProof.Rows
end L2
namespace L2
open PySem PySem.Spec PyProof.Rows
end L2

set_option Elab.async false
set_option linter.all false
set_option maxRecDepth 100000
set_option maxHeartbeats 2000000
namespace L2
open PySem PySem.Spec PyProof.Rows
/-! ### for i, x in enumerate(xs) -/
def Ite (K : PySem.W.Frag) (a : Addr) : It :=
  ⟨fun i H => ∃ xs x, SqL K H a xs ∧ xs[i]? = some x,
   fun i H v H' => ∃ T x, v = .ref T ∧ H T = none ∧ H' = upd H T (.tup [.int (i : Int), x]) ∧ ∀ xs, SqL K H a xs → xs[i]? = some x,
   fun i H => ∃ xs, SqL K H a xs ∧ xs.length ≤ i⟩
def EnumTn (e it l : Addr) (i : Nat) (h : Heap) : Prop := e ≠ it ∧ (∃ old, IsEnum h e it (i : Int) old) ∧ h.IsListIter it l i
theorem turn_enum {P : Program} {w : World} {K : PySem.W.Frag} {elts : List Expr} {kk : Nat} {tpos : Pos} (e it l : Addr) :
    Turn P w K (.Tuple elts kk tpos) (Ite K l) [e, it] e (EnumTn e it l) where
  mem := by simp
  obj := fun i h st b hb => by
    obtain ⟨ne, ⟨old, he⟩, ⟨o1, e1, c1, d1⟩⟩ := st
    simp only [List.mem_cons, List.not_mem_nil, or_false] at hb
    rcases hb with rfl | rfl
    · exact ⟨_, he, fun v q => by cases q⟩
    · exact ⟨o1, e1, fun v q => by rw [d1] at q; cases q⟩
  keep := fun i h h' st k => by
    obtain ⟨ne, ⟨old, he⟩, ⟨o1, e1, c1, d1⟩⟩ := st
    exact ⟨ne, ⟨old, k _ (by simp) _ he⟩, ⟨o1, k _ (by simp) _ e1, c1, d1⟩⟩
  item := by
    intro X hP hw hK hc i pins s σ H E I hf st hg
    subst hP hw hK
    obtain ⟨ne, ⟨old, he⟩, t1⟩ := st
    obtain ⟨xs, x, hx, ex⟩ := hg
    obtain ⟨its1, rv1, p1, z1⟩ := I.list hx
    obtain ⟨u1, hu1, ru1⟩ := rv1.get ex
    refine wpAny_pyNext_enum_item he t1 p1.isList (x := u1) (by simpa using hu1) ne fun h' g1 g2 g3 g4 kk' => ?_
    have hn : H s.heap.objs.size = none := I.hok.fresh (Nat.le_refl _)
    have lt : ∀ b ∈ [e, it], b < s.heap.objs.size := fun b hb => by
      simp only [List.mem_cons, List.not_mem_nil, or_false] at hb
      obtain ⟨o1, e1, _⟩ := t1
      rcases hb with rfl | rfl
      · exact Heap.lt_size he
      · exact Heap.lt_size e1
    have I1 : Inv X pins σ (upd H s.heap.objs.size (.tup [.int (i : Int), x])) { s with heap := s.heap.push { cls := .type "tuple", data := .seq #[.int i s.toks, u1] }, toks := s.toks + 1 } :=
      I.laid (t' := s.toks + 1) (fun b o e => Heap.get?_push_of_some _ e) (Nat.le_refl _) (show ObjOk X.prog X.w _ _ _ (.tup [.int (i : Int), x]) from ⟨by show 2 ≤ sizeLine; decide, [.int i s.toks, u1], .cons ⟨_, rfl⟩ (.cons ru1 .nil), IsTup.new _ _⟩)
    have hf1 : ∀ b ∈ [e, it], FpOk X pins (upd H s.heap.objs.size (.tup [.int (i : Int), x])) b := fun b hb => ⟨by rw [upd_ne (Nat.ne_of_lt (lt b hb))]; exact (hf b hb).1, (hf b hb).2⟩
    have k1 : ∀ b o, b ∉ [e, it] → (s.heap.push { cls := .type "tuple", data := .seq #[.int i s.toks, u1] }).get? b = some o → h'.get? b = some o := fun b o nb e => by
      simp only [List.mem_cons, List.not_mem_nil, or_false, not_or] at nb
      by_cases hb : b = s.heap.objs.size
      · subst hb
        rw [Heap.get?_push_size _ rfl] at e
        cases e
        exact g3
      · have e0 : s.heap.get? b = some o := by rw [Heap.get?_push_ne _ _ _ hb] at e; exact e
        exact kk' b o nb.1 nb.2 e0
    have I2 : Inv X pins σ (upd H s.heap.objs.size (.tup [.int (i : Int), x])) { s with heap := h', toks := s.toks + 1 } := Inv.turnedL (s := { s with heap := s.heap.push { cls := .type "tuple", data := .seq #[.int i s.toks, u1] }, toks := s.toks + 1 }) (t' := s.toks + 1) I1 k1 hf1
    refine ⟨_, rfl, wpAny_letOwnedTupleGo_enum (s := { s with heap := h', toks := s.toks + 1 }) g1 fun h2 q1 q2 => ?_⟩
    have kz : ∀ b o, b ≠ e → h'.get? b = some o → h2.get? b = some o := fun b o nb e => (q2.2 b nb).trans e
    have I3 : Inv X pins σ (upd H s.heap.objs.size (.tup [.int (i : Int), x])) { s with heap := h2, toks := s.toks + 1 } := Inv.turnedL (s := { s with heap := h', toks := s.toks + 1 }) (t' := s.toks + 1) (fp := [e]) I2 (fun b o nb e => kz b o (by simpa using nb) e) fun b hb => hf1 b (by simp at hb; simp [hb])
    obtain ⟨o3, e3, c3, d3⟩ := g2
    refine ⟨.ref s.heap.objs.size, _, I3, rfl, ⟨_, x, rfl, hn, rfl, fun xs' h1 => ?_⟩, ⟨ne, ⟨_, q1⟩, ⟨o3, kz _ _ ne.symm e3, c3, d3⟩⟩, fun b hb => (hf1 b hb).1⟩
    rw [I.list_inj h1 hx]
    exact ex
  done := by
    intro X hP hw hK hc i pins s σ H E I hf st hg
    subst hP hw hK
    obtain ⟨ne, ⟨old, he⟩, t1⟩ := st
    obtain ⟨xs, hx, hor⟩ := hg
    obtain ⟨its1, rv1, p1, z1⟩ := I.list hx
    have l1' := rv1.length
    refine wpAny_pyNext_enum_end (I.ok.hd hc) he t1 p1.isList (by simp; omega) fun h' kk' => ⟨rfl, ?_⟩
    refine I.turnedL (t' := s.toks) (fun b o nb e => ?_) hf
    simp only [List.mem_cons, List.not_mem_nil, or_false, not_or] at nb
    exact kk' b o nb.2 e
  self := fun A i s Q E st h => by
    obtain ⟨ne, ⟨old, he⟩, t1⟩ := st
    exact wpAny_pyIter_enum he h
section
variable {X : Cx}
def iEnum (K : PySem.W.Frag) (ta : TA) : TI := fun σ H R => ta σ H fun vs H1 => ∃ a, vs = [.ref a] ∧ (∃ xs, SqL K H1 a xs) ∧ R (Ite K a) H1
theorem pi_enum {e1 : Expr} {ta : TA} {p pos : Pos} {elts : List Expr} {kk : Nat} {tpos : Pos} (hg : Gl X "enumerate") (hm : X.mg "enumerate" = none) (hv : bootBuiltins "enumerate" = some (.type "enumerate")) (ha : PA X [e1] ta)
    (hs : starEach [e1] X.env = (false, eval e1 X.env) :: starEach [] X.env := by rfl) (hpl : (backTo pos (starEach [] X.env)).any (·.1) = false := by rfl) : PI X (.Tuple elts kk tpos) (.Call (.Name "enumerate" p) [e1] [] pos) (iEnum X.K ta) := by
  intro pins s σ H R I h
  refine Call_ (ld_blt I hg hm hv (PyProof.Rows.callWith_type1 (thn (ha pos pins s σ H _ I h) fun us s1 ⟨vs, H1, I1, r1, q1⟩ => ?_) hs hpl))
  obtain ⟨a, rfl, ⟨xs, hx⟩, q⟩ := q1
  obtain ⟨u, rfl, ra⟩ := vals1 r1
  cases (show u = Value.ref a from ra)
  obtain ⟨its1, rv1, p1, z1⟩ := I1.list hx
  have la : a < s1.heap.objs.size := by obtain ⟨o, e, _⟩ := p1.isList; exact Heap.lt_size e
  refine call_enumerate_list p1.isList fun h' g1 g2 g3 kk' => ?_
  refine wpAny_pyIter_enum g1 ?_
  refine ⟨s1.heap.objs.size + 1, [s1.heap.objs.size + 1, s1.heap.objs.size], _, Ite X.K a, H1, rfl, I1.kept (t' := s1.toks) kk', turn_enum _ _ a, ⟨?_, ⟨_, g1⟩, g2⟩, fun c hc => ?_, q⟩
  · exact Nat.succ_ne_self _
  · have hle : s1.heap.objs.size ≤ c := by
      simp only [List.mem_cons, List.not_mem_nil, or_false] at hc
      rcases hc with rfl | rfl <;> first | exact Nat.le_add_right _ _ | exact Nat.le_refl _
    exact I1.fpOk hle (I1.hok.fresh hle)
theorem for_enum {K : PySem.W.Frag} {a : Addr} {xs : List V} {g : TG} {tb : TS} {D : Ends} {σ : St} {H : Hp} (Pv : Nat → St → Hp → Prop) (h0 : Pv 0 σ H) (hl : ∀ i σ H, i ≤ xs.length → Pv i σ H → SqL K H a xs)
    (hs : ∀ i x σ H T, xs[i]? = some x → Pv i σ H → H T = none → g (.ref T) σ (upd H T (.tup [.int (i : Int), x])) fun σ2 H2 => tb { D with nx := Pv (i + 1), ct := Pv (i + 1), bk := D.nx } σ2 H2) (hd : ∀ σ H, Pv xs.length σ H → D.nx σ H) :
    ∃ W : Nat → Nat → St → Hp → Prop, (∃ m, W 0 m σ H) ∧ ∀ i m σ H, W i m σ H →
      ((Ite K a).stop i H ∧ D.nx σ H) ∨ ((Ite K a).go i H ∧ ∃ N : St → Hp → Prop, (∀ σ' H', N σ' H' → ∃ m', m' < m ∧ W (i + 1) m' σ' H') ∧ ∀ x H', (Ite K a).yld i H x H' → g x σ H' fun σ2 H2 => tb { D with nx := N, ct := N, bk := D.nx } σ2 H2) := by
  refine ⟨fun i m σ H => m = xs.length - i ∧ i ≤ xs.length ∧ Pv i σ H, ⟨_, rfl, Nat.zero_le _, h0⟩, ?_⟩
  rintro i m σ H ⟨rfl, hi, p⟩
  have qx := hl i σ H hi p
  by_cases hlt : i < xs.length
  · refine .inr ⟨⟨xs, xs[i], qx, by simp [hlt]⟩, Pv (i + 1), fun σ' H' p' => ⟨xs.length - (i + 1), by omega, rfl, hlt, p'⟩, fun v H' z => ?_⟩
    obtain ⟨T, x, rfl, hT, rfl, hh⟩ := z
    exact hs i x σ H T (hh xs qx) p hT
  · have e : i = xs.length := by omega
    subst e
    exact .inl ⟨⟨xs, qx, Nat.le_refl _⟩, hd σ H p⟩
theorem comp_enum {K : PySem.W.Frag} {a : Addr} {xs : List V} {nl : Nat} {fr : List Nat} {g : TG} {tt : TT} {te : TE} {σ : St} {D : Addr} {H1 : Hp} {Q : VK} (Pv : Nat → List V → Hp → Prop) (h0 : Pv 0 [] (upd H1 D (.lst []))) (hl : ∀ i zs H, Pv i zs H → H D = some (.lst zs)) (hx : ∀ i zs H, i ≤ xs.length → Pv i zs H → SqL K H a xs)
    (hs : ∀ i zs x H T, xs[i]? = some x → Pv i zs H → H T = none → ∀ (C : Nat → List V → Hp → Prop), (∀ zs H, Pv (i + 1) zs H → C (i + 1) zs H) → CompT nl fr g tt te σ D C i zs (.ref T) (upd H T (.tup [.int (i : Int), x]))) (hd : ∀ zs H, Pv xs.length zs H → Q (.ref D) H) :
    CompW (Ite K a) nl fr g tt te σ D H1 Q := by
  refine ⟨fun i m zs H => m = xs.length - i ∧ i ≤ xs.length ∧ Pv i zs H, ⟨_, rfl, Nat.zero_le _, h0⟩, ?_⟩
  rintro i m zs H ⟨rfl, hi, p⟩
  refine ⟨hl i zs H p, ?_⟩
  have qx := hx i zs H hi p
  by_cases hlt : i < xs.length
  · refine .inr ⟨⟨xs, xs[i], qx, by simp [hlt]⟩, fun v H' z => ?_⟩
    obtain ⟨T, x, rfl, hT, rfl, hh⟩ := z
    exact hs i zs x H T (hh xs qx) p hT (fun j zs Hz => ∃ m', m' < xs.length - i ∧ m' = xs.length - j ∧ j ≤ xs.length ∧ Pv j zs Hz) fun zs Hz z => ⟨xs.length - (i + 1), by omega, rfl, hlt, z⟩
  · have e : i = xs.length := by omega
    subst e
    exact .inl ⟨⟨xs, qx, Nat.le_refl _⟩, hd zs H p⟩
end
end L2

set_option Elab.async false
set_option linter.all false
namespace L2
open PySem PySem.Spec PyProof.Rows
/-- total, told by a module's own nought where there is nothing -/
def spTotF (K : PySem.W.Frag) : Sp := fun vs H Q _ => ∃ (a : Addr) (xs : List V) (ps : List Mq.Q2) (n : Nat), vs = [.ref a] ∧ SqL K H a xs ∧ Fqs K H xs ps ∧ Mq.Pos ps ∧ (∀ p ∈ ps, Mq.Bd n p) ∧ n + 1 + (1 + (n + 1) * ps.length) ≤ 9000 ∧ ∀ r H', Same H H' → Fq K H' r (Mq.tot ps) → Q (.ref r) H'
end L2

set_option Elab.async false
set_option linter.all false
set_option maxRecDepth 100000
set_option maxHeartbeats 4000000
namespace Shp
open PySem L2
theorem ix_tupK {X : Cx} {K : PySem.W.Frag} (h : X.K = K) : IxR X (rIxT K) := by subst h; exact ix_tup
theorem sub_nil {ec : List (Str × Addr)} : ∀ (x : Str) (c : Addr), ([] : List (Str × Addr)).lookup x = some c → ec.lookup x = some c := fun _ _ h => by cases h
theorem sub_cons {ec cl : List (Str × Addr)} {a : Str} {d : Addr} (h : ec.lookup a = some d) (r : ∀ x c, cl.lookup x = some c → ec.lookup x = some c) : ∀ x c, ((a, d) :: cl).lookup x = some c → ec.lookup x = some c := fun x c e => by
  rw [List.lookup_cons] at e
  cases q : x == a with
  | true => rw [q] at e; rw [eq_of_beq q, h]; exact e
  | false => rw [q] at e; exact r x c e
def spIsF (K : PySem.W.Frag) : Sp := fun vs H Q _ => ∃ (a : Addr) (p : Mq.Q2), vs = [.ref a] ∧ Fq K H a p ∧ Mq.Low p ∧ Q (.bl true) H
def spPS (K : PySem.W.Frag) : Sp := fun vs H Q _ => ∃ (a : Addr) (p : Mq.Q2) (n : Nat), vs = [.ref a] ∧ Fq K H a p ∧ Mq.Low p ∧ 0 < p.1 ∧ Mq.Bd n p ∧ n ≤ 8000 ∧ Q (.bl true) H
def spDiv (K : PySem.W.Frag) : Sp := fun vs H Q _ => ∃ (a b : Addr) (p q : Mq.Q2) (n m : Nat), vs = [.ref a, .ref b] ∧ Fq K H a p ∧ Fq K H b q ∧ 1 ≤ p.2 ∧ 1 ≤ q.2 ∧ 0 < q.1 ∧ Mq.Bd n p ∧ Mq.Bd m q ∧ n + m + 1 ≤ 9000 ∧ NewF H Q (Mq.over p q)
/-- a list of positive fractions -/
structure Lg (K : PySem.W.Frag) (H : Hp) (a : Addr) (xs : List V) (ps : List Mq.Q2) (n : Nat) : Prop where
  sq : SqL K H a xs
  fs : Fqs K H xs ps
  al : Mq.AllPs ps
  ne : ps ≠ []
  bd : ∀ p ∈ ps, Mq.Bd n p
  len : ps.length ≤ 100
def spRefuse (K : PySem.W.Frag) : Sp := fun vs H Q _ => ∃ (a : Addr) (xs : List V) (ps : List Mq.Q2) (n : Nat), vs = [.ref a] ∧ Lg K H a xs ps n ∧ n ≤ 8000 ∧ ∀ H', Same H H' → Q .non H'
def spShares (K : PySem.W.Frag) : Sp := fun vs H Q _ => ∃ (a : Addr) (xs : List V) (ps : List Mq.Q2) (n : Nat), vs = [.ref a] ∧ Lg K H a xs ps n ∧ 10 + n + (n + 2) * ps.length ≤ 8000 ∧ ∀ r H', Same H H' → Fq K H' r (Mq.shares ps) → Q (.ref r) H'
def spInRow (K : PySem.W.Frag) : Sp := fun vs H Q _ => ∃ (a : Addr) (xs : List V) (ps : List Mq.Q2) (n : Nat), vs = [.ref a] ∧ Lg K H a xs ps n ∧ 10 + n + (n + 2) * ps.length ≤ 8000 ∧ ∀ r H', Same H H' → Fq K H' r (Mq.tot ps) → Q (.ref r) H'
def spSide (K : PySem.W.Frag) : Sp := fun vs H Q _ => ∃ (a : Addr) (xs : List V) (ps : List Mq.Q2) (n : Nat), vs = [.ref a] ∧ Lg K H a xs ps n ∧ 10 + n + (n + 2) * ps.length ≤ 8000 ∧ NewF H Q (Mq.over (1, 1) (Mq.shares ps))
/-- the rows of a mesh -/
inductive Mss (K : PySem.W.Frag) (H : Hp) : List V → List Mq.Row → Prop where
  | nil : Mss K H [] []
  | cons {t z : Addr} {r : Mq.Row} {xs : List V} {ms : List Mq.Row} (h : SqT K H t [.int (r.1 : Int), .int (r.2.1 : Int), .ref z]) (f : Fq K H z r.2.2) (q : Mss K H xs ms) : Mss K H (.ref t :: xs) (r :: ms)
def spMeshOf (K : PySem.W.Frag) : Sp := fun vs H Q _ => ∃ (a : Addr) (xs : List V) (ps : List Mq.Q2) (n : Nat), vs = [.ref a] ∧ Lg K H a xs ps n ∧ ps.length ≤ 10 ∧ 10 + n + n + n + (n + 2) * ps.length ≤ 8000 ∧ ∀ l zs H', Same H H' → H l = none → H' l = some (.lst zs) → Mss K H' zs (Mq.meshOf ps) → Q (.ref l) H'
def spStarOf (K : PySem.W.Frag) : Sp := fun vs H Q _ => ∃ (a : Addr) (xs : List V) (p1 p2 p3 : Mq.Q2) (n : Nat), vs = [.ref a] ∧ Lg K H a xs [p1, p2, p3] n ∧ n ≤ 1000 ∧ ∀ l zs H', Same H H' → H l = none → H' l = some (.lst zs) → Fqs K H' zs (Mq.starOf p1 p2 p3) → Q (.ref l) H'
/-- lowest terms of a top and a bottom above nought -/
def spLowP : Sp := fun vs H Q _ => ∃ (t b : Int) (n : Nat), vs = [.int t, .int b] ∧ 0 < b ∧ Mq.B n b ∧ n ≤ 9000 ∧ NewF H Q (Mq.red t b)
theorem dvr_pos {t b : Int} (h : 0 < b) : Mq.dvr t b = Mq.gc t b := by unfold Mq.dvr; rw [if_neg (by omega)]
end Shp

set_option Elab.async false
set_option linter.all false
set_option maxRecDepth 100000
set_option maxHeartbeats 4000000
namespace Shp
open PySem L2
/-- a list of lists of fractions, none of them the list at D -/
inductive Fmx (K : PySem.W.Frag) (D : Addr) (H : Hp) : List V → List (List Mq.Q2) → Prop where
  | nil : Fmx K D H [] []
  | cons {u : Addr} {xs : List V} {ps : List Mq.Q2} {us : List V} {X : List (List Mq.Q2)} (ne : u ≠ D) (h : SqL K H u xs) (f : Fqs K H xs ps) (q : Fmx K D H us X) : Fmx K D H (.ref u :: us) (ps :: X)
theorem Fmx.length {K : PySem.W.Frag} {D : Addr} {H : Hp} : ∀ {xs : List V} {X : List (List Mq.Q2)}, Fmx K D H xs X → xs.length = X.length
  | _, _, .nil => rfl
  | _, _, .cons _ _ _ q => by rw [List.length_cons, List.length_cons, q.length]
theorem Fmx.get {K : PySem.W.Frag} {D : Addr} {H : Hp} : ∀ {xs : List V} {X : List (List Mq.Q2)} {i : Nat} {x : V}, Fmx K D H xs X → xs[i]? = some x → ∃ u ys ps, x = .ref u ∧ X[i]? = some ps ∧ SqL K H u ys ∧ Fqs K H ys ps
  | _, _, 0, _, .cons n h f q, e => by simp at e; exact ⟨_, _, _, e.symm, rfl, h, f⟩
  | _, _, i + 1, _, .cons n h f q, e => by simp at e; exact q.get e
/-- rows in whole numbers, each with its bottom -/
inductive Whs (K : PySem.W.Frag) (D : Addr) (H : Hp) : List V → List (List Int × Int) → Prop where
  | nil : Whs K D H [] []
  | cons {t l : Addr} {r : List Int × Int} {us : List V} {rs : List (List Int × Int)} (ne : l ≠ D) (h : SqT K H t [.ref l, .int r.2]) (f : SqL K H l (r.1.map V.int)) (q : Whs K D H us rs) : Whs K D H (.ref t :: us) (r :: rs)
def wh (row : List Mq.Q2) : List Int × Int := (Mq.iw row, Mq.lcmB row)
def spIW (K : PySem.W.Frag) : Sp := fun vs H Q _ => ∃ (a : Addr) (xs : List V) (ps : List Mq.Q2) (n : Nat), vs = [.ref a] ∧ SqL K H a xs ∧ Fqs K H xs ps ∧ Mq.Pos ps ∧ (∀ p ∈ ps, Mq.Bd n p) ∧ ps.length ≤ 100 ∧ 10 + n + n * ps.length ≤ 8000 ∧
  ∀ t l H', Same H H' → H l = none → SqT K H' t [.ref l, .int (Mq.lcmB ps)] → SqL K H' l ((Mq.iw ps).map V.int) → Q (.ref t) H'
def sumL (ms : List Mq.Q2) (X : List (List Mq.Q2)) (w : Nat) : List Mq.Q2 := (List.range w).map (Mq.sumAt ms X)
def spSummed (K : PySem.W.Frag) : Sp := fun vs H Q _ => ∃ (a g D : Addr) (xs us : List V) (ms : List Mq.Q2) (X : List (List Mq.Q2)) (w : Nat), vs = [.ref a, .ref g] ∧ SqL K H a xs ∧ Fqs K H xs ms ∧ SqL K H g us ∧ Fmx K D H us X ∧ Mq.AllLow ms ∧ Mq.AllPos X ∧ (∀ p ∈ ms, Mq.Bd 60 p) ∧ (∀ row ∈ X, (∀ p ∈ row, Mq.Bd 60 p) ∧ row.length = w) ∧ ms.length = X.length ∧ X.length ≤ 6 ∧ w ≤ 6 ∧ (X = [] → w = 0) ∧
  ∀ l zs H', Same H H' → H l = none → H' l = some (.lst zs) → Fqs K H' zs (sumL ms X w) → Q (.ref l) H'
end Shp

set_option linter.all false
namespace Mq
/-! determinants, by the last row -/
def skip (j k : Nat) : Nat := if k < j then k else k + 1
def sgn (n : Nat) : Rat := if n % 2 = 0 then 1 else -1
theorem sgn_succ (n : Nat) : sgn (n + 1) = - sgn n := by
  unfold sgn
  rcases Nat.mod_two_eq_zero_or_one n with h | h
  · rw [if_neg (by omega), if_pos h]
  · rw [if_pos (by omega), if_neg (by omega)]; grind
abbrev Mat := Nat → Nat → Rat
def det : Nat → Mat → Rat
  | 0, _ => 1
  | n + 1, M => rs (n + 1) fun j => sgn (n + j) * M n j * det n fun i k => M i (skip j k)
theorem det_succ (n : Nat) (M : Mat) : det (n + 1) M = rs (n + 1) fun j => sgn (n + j) * M n j * det n fun i k => M i (skip j k) := rfl
theorem skip_lt {j k n : Nat} (hk : k < n) : skip j k < n + 1 := by unfold skip; split <;> omega
theorem det_congr : ∀ {n : Nat} {M N : Mat}, (∀ i j, i < n → j < n → M i j = N i j) → det n M = det n N
  | 0, _, _, _ => rfl
  | n + 1, M, N, h => by
    rw [det_succ, det_succ]
    exact rs_congr fun j hj => by rw [h n j (by omega) hj, det_congr (N := fun i k => N i (skip j k)) fun i k hi hk => h i _ (by omega) (skip_lt hk)]
theorem skip_skip {j k l : Nat} (h : j ≤ k) : skip (k + 1) (skip j l) = skip j (skip k l) := by
  unfold skip
  by_cases h1 : l < j
  · rw [if_pos h1, if_pos (show l < k by omega), if_pos (show l < k + 1 by omega), if_pos h1]
  · rw [if_neg h1]
    by_cases h2 : l < k
    · rw [if_pos h2, if_pos (show l + 1 < k + 1 by omega), if_neg h1]
    · rw [if_neg h2, if_neg (show ¬ l + 1 < k + 1 by omega), if_neg (show ¬ l + 1 < j by omega)]
/-- sums over pairs, turned about -/
theorem rs_swap (n m : Nat) (F : Nat → Nat → Rat) : (rs n fun i => rs m fun j => F i j) = rs m fun j => rs n fun i => F i j := by
  induction n with
  | zero => simp only [rs]; rw [rs_zero]
  | succ n ih => simp only [rs]; rw [ih, ← rs_add]
theorem rs_shift (n : Nat) (F : Nat → Rat) : rs (n + 1) F = F 0 + rs n fun i => F (i + 1) := by
  induction n with
  | zero => simp only [rs]; grind
  | succ n ih => rw [show rs (n + 1 + 1) F = rs (n + 1) F + F (n + 1) from rfl, ih]; simp only [rs]; grind
theorem pairs_sum (N : Nat) (X : Nat → Nat → Rat) : (rs (N + 1) fun j => rs N fun k => X j k) = (rs N fun k => rs N fun j => if k ≤ j then X (j + 1) k else 0) + rs N fun j => rs N fun k => if j ≤ k then X j k else 0 := by
  have h1 : (rs (N + 1) fun j => rs N fun k => X j k) = (rs (N + 1) fun j => rs N fun k => if k < j then X j k else 0) + rs (N + 1) fun j => rs N fun k => if k < j then 0 else X j k := by
    rw [← rs_add]
    refine rs_congr fun j _ => ?_
    rw [← rs_add]
    exact rs_congr fun k _ => by split <;> grind
  have h2 : (rs (N + 1) fun j => rs N fun k => if k < j then X j k else 0) = rs N fun k => rs N fun j => if k ≤ j then X (j + 1) k else 0 := by
    rw [rs_swap]
    refine rs_congr fun k _ => ?_
    rw [rs_shift, if_neg (by omega)]
    have : (rs N fun i => if k < i + 1 then X (i + 1) k else 0) = rs N fun j => if k ≤ j then X (j + 1) k else 0 := rs_congr fun i _ => by
      by_cases c : k ≤ i
      · rw [if_pos (by omega), if_pos c]
      · rw [if_neg (by omega), if_neg c]
    rw [this]; grind
  have h3 : (rs (N + 1) fun j => rs N fun k => if k < j then 0 else X j k) = rs N fun j => rs N fun k => if j ≤ k then X j k else 0 := by
    show (rs N fun j => rs N fun k => if k < j then 0 else X j k) + (rs N fun k => if k < N then 0 else X N k) = _
    have : (rs N fun k => if k < N then 0 else X N k) = rs N fun _ => 0 := rs_congr fun k hk => by rw [if_pos hk]
    rw [this, rs_zero]
    have e2 : (rs N fun j => rs N fun k => if k < j then 0 else X j k) = rs N fun j => rs N fun k => if j ≤ k then X j k else 0 := rs_congr fun j _ => rs_congr fun k _ => by
      by_cases c : j ≤ k
      · rw [if_neg (by omega), if_pos c]
      · rw [if_pos (by omega), if_neg c]
    rw [e2]; grind
  rw [h1, h2, h3]
/-- a double sum that turns its sign -/
theorem pairs_anti (N : Nat) (X Y : Nat → Nat → Rat) (h : ∀ j k, j ≤ k → Y (k + 1) j = - X j k) (h' : ∀ j k, j ≤ k → X (k + 1) j = - Y j k) : (rs (N + 1) fun j => rs N fun k => Y j k) = - rs (N + 1) fun j => rs N fun k => X j k := by
  rw [pairs_sum, pairs_sum]
  have e1 : (rs N fun k => rs N fun j => if k ≤ j then Y (j + 1) k else 0) = - rs N fun j => rs N fun k => if j ≤ k then X j k else 0 := by
    rw [← rs_neg]
    refine rs_congr fun k _ => ?_
    rw [← rs_neg]
    exact rs_congr fun j _ => by
      by_cases c : k ≤ j
      · rw [if_pos c, if_pos c, h k j c]
      · rw [if_neg c, if_neg c]; grind
  have e2 : (rs N fun k => rs N fun j => if k ≤ j then X (j + 1) k else 0) = - rs N fun j => rs N fun k => if j ≤ k then Y j k else 0 := by
    rw [← rs_neg]
    refine rs_congr fun k _ => ?_
    rw [← rs_neg]
    exact rs_congr fun j _ => by
      by_cases c : k ≤ j
      · rw [if_pos c, if_pos c, h' k j c]
      · rw [if_neg c, if_neg c]; grind
  rw [e1, e2]; grind
def swapR (a : Nat) (M : Mat) : Mat := fun i => if i = a then M (a + 1) else if i = a + 1 then M a else M i
theorem det_two (n : Nat) (M : Mat) : det (n + 2) M = rs (n + 2) fun j => rs (n + 1) fun k => (sgn (n + 1 + j) * M (n + 1) j) * (sgn (n + k) * M n (skip j k) * det n fun i l => M i (skip j (skip k l))) := by
  rw [det_succ]
  exact rs_congr fun j _ => by rw [det_succ, ← rs_mul]
theorem sgn_add1 (a b : Nat) : sgn (a + 1 + b) = - sgn (a + b) := by rw [show a + 1 + b = a + b + 1 by omega, sgn_succ]
theorem swap_last (n : Nat) (M : Mat) : det (n + 2) (swapR n M) = - det (n + 2) M := by
  rw [det_two, det_two]
  refine pairs_anti (n + 1) _ _ (fun j k hjk => ?_) (fun j k hjk => ?_)
  · show (sgn (n + 1 + (k + 1)) * swapR n M (n + 1) (k + 1)) * (sgn (n + j) * swapR n M n (skip (k + 1) j) * det n fun i l => swapR n M i (skip (k + 1) (skip j l))) = - ((sgn (n + 1 + j) * M (n + 1) j) * (sgn (n + k) * M n (skip j k) * det n fun i l => M i (skip j (skip k l))))
    have a1 : swapR n M (n + 1) = M n := by unfold swapR; rw [if_neg (by omega), if_pos rfl]
    have a2 : swapR n M n = M (n + 1) := by unfold swapR; rw [if_pos rfl]
    have a3 : (det n fun i l => swapR n M i (skip (k + 1) (skip j l))) = det n fun i l => M i (skip j (skip k l)) := det_congr fun i l hi _ => by
      show swapR n M i (skip (k + 1) (skip j l)) = M i (skip j (skip k l))
      rw [skip_skip hjk]
      unfold swapR
      rw [if_neg (by omega), if_neg (by omega)]
    have a4 : skip (k + 1) j = j := by unfold skip; rw [if_pos (by omega)]
    have a5 : skip j k = k + 1 := by unfold skip; rw [if_neg (by omega)]
    rw [a1, a2, a3, a4, a5, sgn_add1, sgn_add1, show n + (k + 1) = n + k + 1 by omega, sgn_succ]
    generalize (det n fun i l => M i (skip j (skip k l))) = dd
    generalize sgn (n + k) = s1
    generalize sgn (n + j) = s2
    grind
  · show (sgn (n + 1 + (k + 1)) * M (n + 1) (k + 1)) * (sgn (n + j) * M n (skip (k + 1) j) * det n fun i l => M i (skip (k + 1) (skip j l))) = - ((sgn (n + 1 + j) * swapR n M (n + 1) j) * (sgn (n + k) * swapR n M n (skip j k) * det n fun i l => swapR n M i (skip j (skip k l))))
    have a1 : swapR n M (n + 1) = M n := by unfold swapR; rw [if_neg (by omega), if_pos rfl]
    have a2 : swapR n M n = M (n + 1) := by unfold swapR; rw [if_pos rfl]
    have a3 : (det n fun i l => M i (skip (k + 1) (skip j l))) = det n fun i l => swapR n M i (skip j (skip k l)) := det_congr fun i l hi _ => by
      show M i (skip (k + 1) (skip j l)) = swapR n M i (skip j (skip k l))
      rw [skip_skip hjk]
      unfold swapR
      rw [if_neg (by omega), if_neg (by omega)]
    have a4 : skip (k + 1) j = j := by unfold skip; rw [if_pos (by omega)]
    have a5 : skip j k = k + 1 := by unfold skip; rw [if_neg (by omega)]
    rw [a1, a2, a3, a4, a5, sgn_add1, sgn_add1, show n + (k + 1) = n + k + 1 by omega, sgn_succ]
    generalize (det n fun i l => swapR n M i (skip j (skip k l))) = dd
    generalize sgn (n + k) = s1
    generalize sgn (n + j) = s2
    grind
theorem swap_adj : ∀ (n a : Nat) (M : Mat), a + 1 < n → det n (swapR a M) = - det n M
  | 0, _, _, h => absurd h (by omega)
  | n + 1, a, M, h => by
    by_cases e : a + 1 = n
    · subst e; exact swap_last a M
    · rw [det_succ, det_succ, ← rs_neg]
      refine rs_congr fun j hj => ?_
      have e1 : swapR a M n j = M n j := by unfold swapR; rw [if_neg (by omega), if_neg (by omega)]
      have e2 : (det n fun i k => swapR a M i (skip j k)) = - det n fun i k => M i (skip j k) := by
        rw [← swap_adj n a (fun i k => M i (skip j k)) (by omega)]
        exact det_congr fun i k _ _ => by
          show swapR a M i (skip j k) = swapR a (fun i k => M i (skip j k)) i k
          unfold swapR
          split
          · rfl
          · split <;> rfl
      rw [e1, e2]; grind
/-- two rows alike, one of them the last -/
theorem det_alike : ∀ (t n : Nat) (M : Mat) (i : Nat), i + t + 1 = n → (∀ j, M i j = M n j) → det (n + 1) M = 0
  | 0, n, M, i, h, e => by
    have hn : n = i + 1 := by omega
    subst hn
    have s := swap_last i M
    have c : det (i + 2) (swapR i M) = det (i + 2) M := det_congr fun k j _ _ => by
      unfold swapR
      by_cases k1 : k = i
      · rw [if_pos k1, k1]; exact (e j).symm
      · rw [if_neg k1]
        by_cases k2 : k = i + 1
        · rw [if_pos k2, k2]; exact e j
        · rw [if_neg k2]
    rw [c] at s
    grind
  | t + 1, n, M, i, h, e => by
    have s := swap_adj (n + 1) i M (by omega)
    have z := det_alike t n (swapR i M) (i + 1) (by omega) fun j => by
      have a1 : swapR i M (i + 1) = M i := by unfold swapR; rw [if_neg (by omega), if_pos rfl]
      have a2 : swapR i M n = M n := by unfold swapR; rw [if_neg (by omega), if_neg (by omega)]
      rw [a1, a2]; exact e j
    rw [z] at s
    grind
/-- the last row as an argument of its own -/
def bord (n : Nat) (S : Mat) (x : Nat → Rat) : Mat := fun i => if i = n then x else S i
def F (n : Nat) (S : Mat) (c : Nat → Nat) (x : Nat → Rat) : Rat := det (n + 1) (bord n (fun i j => S i (c j)) fun j => x (c j))
theorem F_eq (n : Nat) (S : Mat) (c : Nat → Nat) (x : Nat → Rat) : F n S c x = rs (n + 1) fun j => sgn (n + j) * x (c j) * det n fun i k => S i (c (skip j k)) := by
  unfold F
  rw [det_succ]
  refine rs_congr fun j _ => ?_
  have e1 : bord n (fun i j => S i (c j)) (fun j => x (c j)) n j = x (c j) := by unfold bord; rw [if_pos rfl]
  rw [e1, det_congr fun i k hi _ => show bord n (fun i j => S i (c j)) (fun j => x (c j)) i (skip j k) = S i (c (skip j k)) by unfold bord; rw [if_neg (by omega)]]
theorem F_add (n : Nat) (S : Mat) (c : Nat → Nat) (x y : Nat → Rat) (l : Rat) : F n S c (fun j => x j + l * y j) = F n S c x + l * F n S c y := by
  rw [F_eq, F_eq, F_eq, ← rs_mul, ← rs_add]
  exact rs_congr fun j _ => by grind
theorem F_row (n : Nat) (S : Mat) (c : Nat → Nat) {i : Nat} (h : i < n) : F n S c (S i) = 0 := by
  unfold F
  refine det_alike (n - i - 1) n _ i (by omega) fun j => ?_
  unfold bord
  rw [if_neg (by omega), if_pos rfl]
theorem F_block (n : Nat) (S : Mat) (c : Nat → Nat) (x : Nat → Rat) (h : ∀ j, j < n → x (c j) = 0) : F n S c x = x (c n) * det n fun i j => S i (c j) := by
  rw [F_eq]
  show (rs n fun j => sgn (n + j) * x (c j) * det n fun i k => S i (c (skip j k))) + sgn (n + n) * x (c n) * (det n fun i k => S i (c (skip n k))) = _
  have z : (rs n fun j => sgn (n + j) * x (c j) * det n fun i k => S i (c (skip j k))) = rs n fun _ => 0 := rs_congr fun j hj => by rw [h j hj]; grind
  have s : sgn (n + n) = 1 := by unfold sgn; rw [if_pos (by omega)]
  have d : (det n fun i k => S i (c (skip n k))) = det n fun i j => S i (c j) := det_congr fun i k _ hk => by show S i (c (skip n k)) = _; unfold skip; rw [if_pos hk]
  rw [z, rs_zero, s, d]; grind
/-- whole entries, a whole determinant -/
theorem rs_whole {n : Nat} {F : Nat → Rat} (h : ∀ i, i < n → ∃ z : Int, F i = (z : Rat)) : ∃ z : Int, rs n F = (z : Rat) := by
  induction n with
  | zero => exact ⟨0, by simp [rs]⟩
  | succ n ih =>
    obtain ⟨a, ha⟩ := ih fun i hi => h i (by omega)
    obtain ⟨b, hb⟩ := h n (by omega)
    exact ⟨a + b, by simp only [rs]; rw [ha, hb, Rat.intCast_add]⟩
theorem sgn_whole (n : Nat) : ∃ z : Int, sgn n = (z : Rat) := by
  unfold sgn
  split
  · exact ⟨1, by simp⟩
  · exact ⟨-1, by rw [Rat.intCast_neg]; simp⟩
theorem mul_whole {a b : Rat} (h : ∃ z : Int, a = (z : Rat)) (k : ∃ z : Int, b = (z : Rat)) : ∃ z : Int, a * b = (z : Rat) := by
  obtain ⟨x, rfl⟩ := h
  obtain ⟨y, rfl⟩ := k
  exact ⟨x * y, by rw [Rat.intCast_mul]⟩
theorem det_whole : ∀ {n : Nat} {M : Mat}, (∀ i j, ∃ z : Int, M i j = (z : Rat)) → ∃ z : Int, det n M = (z : Rat)
  | 0, _, _ => ⟨1, by simp [det]⟩
  | n + 1, M, h => by
    rw [det_succ]
    exact rs_whole fun j _ => mul_whole (mul_whole (sgn_whole _) (h n j)) (det_whole fun i k => h i _)
theorem F_whole {n : Nat} {S : Mat} {c : Nat → Nat} {x : Nat → Rat} (h : ∀ i j, ∃ z : Int, S i j = (z : Rat)) (hx : ∀ j, ∃ z : Int, x j = (z : Rat)) : ∃ z : Int, F n S c x = (z : Rat) := by
  unfold F
  refine det_whole fun i j => ?_
  unfold bord
  split
  · exact hx _
  · exact h i _
end Mq

set_option linter.all false
namespace Mq
/-! elimination in whole numbers -/
def Lin (Φ : (Nat → Rat) → Rat) : Prop := ∀ x y l, Φ (fun j => x j + l * y j) = Φ x + l * Φ y
theorem Lin.zero {Φ : (Nat → Rat) → Rat} (h : Lin Φ) : Φ (fun _ => 0) = 0 := by
  have := h (fun _ => 0) (fun _ => 0) 1
  have e : (fun j : Nat => (fun _ => (0 : Rat)) j + 1 * (fun _ => (0 : Rat)) j) = fun _ => 0 := by funext j; show (0 : Rat) + 1 * 0 = 0; grind
  rw [e] at this
  grind
theorem Lin.mul {Φ : (Nat → Rat) → Rat} (h : Lin Φ) (l : Rat) (y : Nat → Rat) : Φ (fun j => l * y j) = l * Φ y := by
  have := h (fun _ => 0) y l
  have e : (fun j : Nat => (fun _ => (0 : Rat)) j + l * y j) = fun j => l * y j := by funext j; show (0 : Rat) + l * y j = _; grind
  rw [e, h.zero] at this
  grind
theorem Lin.sum {Φ : (Nat → Rat) → Rat} (h : Lin Φ) (a : Nat → Rat) (Y : Nat → Nat → Rat) : ∀ n, Φ (fun j => rs n fun k => a k * Y k j) = rs n fun k => a k * Φ (Y k)
  | 0 => h.zero
  | n + 1 => by
    have := h (fun j => rs n fun k => a k * Y k j) (Y n) (a n)
    simp only [rs]
    rw [this, Lin.sum h a Y n]
theorem F_lin (n : Nat) (S : Mat) (c : Nat → Nat) : Lin (F n S c) := fun x y l => F_add n S c x y l
def Wh (x : Rat) : Prop := ∃ z : Int, x = (z : Rat)
theorem Wh.mul {a b : Rat} (h : Wh a) (k : Wh b) : Wh (a * b) := mul_whole h k
theorem Wh.neg {a : Rat} (h : Wh a) : Wh (-a) := by obtain ⟨z, rfl⟩ := h; exact ⟨-z, by rw [Rat.intCast_neg]⟩
theorem Wh.sub {a b : Rat} (h : Wh a) (k : Wh b) : Wh (a - b) := by obtain ⟨x, rfl⟩ := h; obtain ⟨y, rfl⟩ := k; exact ⟨x - y, by rw [Rat.intCast_sub]⟩
theorem Wh.one : Wh 1 := ⟨1, by simp⟩
theorem Wh.nil : Wh 0 := ⟨0, by simp⟩
structure Bar (m : Nat) (A E : Mat) (r col : Nat) (d : Rat) (c : Nat → Nat) : Prop where
  dne : d ≠ 0
  rm : r ≤ m
  rc : r ≤ col
  clt : ∀ j, j < r → c j < col
  cinj : ∀ i j, i < r → j < r → c i = c j → i = j
  wA : ∀ i j, Wh (A i j)
  wE : ∀ i j, i < m → Wh (E i j)
  i2 : ∀ k j, k < r → j < r → E k (c j) = if j = k then d else 0
  i3 : ∀ i x, r ≤ i → i < m → x < col → E i x = 0
  i4 : ∀ i x, i < m → d * A i x = (rs r fun k => A i (c k) * E k x) + if i < r then 0 else E i x
  i5 : det r (fun i j => A i (c j)) = d
  i6 : ∀ Φ, Lin Φ → (∀ s, s < r → Φ (A s) = 0) → ∀ k, k < r → Φ (E k) = 0
  full : r = col → ∀ j, j < r → c j = j
theorem Bar.start {m : Nat} {A : Mat} (wA : ∀ i j, Wh (A i j)) : Bar m A A 0 0 1 id where
  dne := by grind
  rm := by omega
  rc := by omega
  clt := fun j h => absurd h (by omega)
  cinj := fun i j h => absurd h (by omega)
  wA := wA
  wE := fun i j _ => wA i j
  i2 := fun k j h => absurd h (by omega)
  i3 := fun i x _ _ h => absurd h (by omega)
  i4 := fun i x _ => by simp only [rs]; rw [if_neg (by omega)]; grind
  i5 := rfl
  i6 := fun Φ _ _ k h => absurd h (by omega)
  full := fun _ j h => absurd h (by omega)
section
variable {m : Nat} {A E : Mat} {r col : Nat} {d : Rat} {c : Nat → Nat}
theorem Bar.skip (h : Bar m A E r col d c) (hz : ∀ i, r ≤ i → i < m → E i col = 0) : Bar m A E r (col + 1) d c :=
  { h with
    rc := by have := h.rc; omega
    clt := fun j hj => by have := h.clt j hj; omega
    i3 := fun i x hi hm hx => by
      by_cases e : x = col
      · rw [e]; exact hz i hi hm
      · exact h.i3 i x hi hm (by omega)
    full := fun e => by have := h.rc; omega }
def sw (p r i : Nat) : Nat := if i = r then p else if i = p then r else i
theorem sw_lt {p r i : Nat} (hp : r ≤ p) (hi : i < r) : sw p r i = i := by unfold sw; rw [if_neg (by omega), if_neg (by omega)]
theorem sw_ge {p r i : Nat} (hp : r ≤ p) (hi : r ≤ i) : r ≤ sw p r i := by unfold sw; split; exact hp; split <;> omega
theorem sw_m {p r i m : Nat} (hp : p < m) (hr : r < m) (hi : i < m) : sw p r i < m := by unfold sw; split; exact hp; split <;> omega
theorem Bar.swap (h : Bar m A E r col d c) {p : Nat} (hp : r ≤ p) (hpm : p < m) : Bar m (fun i => A (sw p r i)) (fun i => E (sw p r i)) r col d c :=
  { h with
    wA := fun i j => h.wA _ j
    wE := fun i j hi => h.wE _ j (sw_m hpm (by omega) hi)
    i2 := fun k j hk hj => by
      show E (sw p r k) (c j) = _
      rw [sw_lt hp hk]; exact h.i2 k j hk hj
    i3 := fun i x hi hm hx => h.i3 _ x (sw_ge hp hi) (sw_m hpm (by omega) hm) hx
    i4 := fun i x hm => by
      have e : (rs r fun k => A (sw p r i) (c k) * E (sw p r k) x) = rs r fun k => A (sw p r i) (c k) * E k x := rs_congr fun k hk => by rw [sw_lt hp hk]
      show d * A (sw p r i) x = (rs r fun k => A (sw p r i) (c k) * E (sw p r k) x) + _
      rw [e, h.i4 _ x (sw_m hpm (by omega) hm)]
      congr 1
      by_cases hi : i < r
      · rw [sw_lt hp hi, if_pos hi]
      · have := sw_ge hp (show r ≤ i by omega)
        rw [if_neg (by omega), if_neg hi]
    i5 := by
      rw [← h.i5]
      exact det_congr fun i j hi _ => by show A (sw p r i) (c j) = _; rw [sw_lt hp hi]
    i6 := fun Φ hΦ hs k hk => by
      show Φ (E (sw p r k)) = 0
      rw [sw_lt hp hk]
      exact h.i6 Φ hΦ (fun s hs' => by have := hs s hs'; rwa [sw_lt hp hs'] at this) k hk }
def clr (E : Mat) (r col : Nat) (d : Rat) : Mat := fun k x => if k = r then E r x else (E r col * E k x - E k col * E r x) / d
def c1 (c : Nat → Nat) (r col : Nat) : Nat → Nat := fun j => if j = r then col else c j
theorem c1_lt (c : Nat → Nat) {r col j : Nat} (h : j < r) : c1 c r col j = c j := by unfold c1; rw [if_neg (by omega)]
theorem c1_at (c : Nat → Nat) (r col : Nat) : c1 c r col r = col := by unfold c1; rw [if_pos rfl]
theorem clr_at (E : Mat) (r col : Nat) (d : Rat) : clr E r col d r = E r := by funext x; unfold clr; rw [if_pos rfl]
theorem clr_ne (E : Mat) {r col k : Nat} {d : Rat} (h : k ≠ r) (x : Nat) : clr E r col d k x = (E r col * E k x - E k col * E r x) / d := by unfold clr; rw [if_neg h]
theorem Bar.j2 (h : Bar m A E r col d c) (hr : r < m) : ∀ k j, k < r + 1 → j < r + 1 → clr E r col d k (c1 c r col j) = if j = k then E r col else 0 := fun k j hk hj => by
  have hd := h.dne
  by_cases kr : k = r
  · subst kr
    rw [clr_at]
    by_cases jr : j = k
    · rw [if_pos jr, jr, c1_at]
    · rw [if_neg jr, c1_lt c (by omega)]
      exact h.i3 k _ (Nat.le_refl _) hr (h.clt j (by omega))
  · rw [clr_ne E kr]
    by_cases jr : j = r
    · subst jr
      rw [c1_at, if_neg (by omega)]
      grind
    · rw [c1_lt c (by omega), h.i2 k j (by omega) (by omega), h.i3 r (c j) (Nat.le_refl _) hr (h.clt j (by omega))]
      by_cases e : j = k
      · rw [if_pos e, if_pos e]; grind
      · rw [if_neg e, if_neg e]; grind
theorem Bar.j4 (h : Bar m A E r col d c) (hr : r < m) : ∀ i x, i < m → E r col * A i x = (rs (r + 1) fun k => A i (c1 c r col k) * clr E r col d k x) + if i < r + 1 then 0 else clr E r col d i x := fun i x hi => by
  have hd := h.dne
  have q := h.i4 i x hi
  have q2 := h.i4 i col hi
  show _ = (rs r fun k => A i (c1 c r col k) * clr E r col d k x) + A i (c1 c r col r) * clr E r col d r x + _
  rw [c1_at, clr_at]
  have e : (rs r fun k => A i (c1 c r col k) * clr E r col d k x) = (E r col / d) * (rs r fun k => A i (c k) * E k x) + (-(E r x / d)) * rs r fun k => A i (c k) * E k col := by
    rw [← rs_mul, ← rs_mul, ← rs_add]
    exact rs_congr fun k hk => by rw [c1_lt c hk, clr_ne E (by omega)]; grind
  rw [e]
  generalize (rs r fun k => A i (c k) * E k x) = s1 at q ⊢
  generalize (rs r fun k => A i (c k) * E k col) = s2 at q2 ⊢
  by_cases h1 : i < r
  · rw [if_pos h1] at q q2
    rw [if_pos (by omega)]
    have : s1 = d * A i x := by grind
    have : s2 = d * A i col := by grind
    subst s1 s2
    grind
  · rw [if_neg h1] at q q2
    have a1 : s1 = d * A i x - E i x := by grind
    have a2 : s2 = d * A i col - E i col := by grind
    subst a1 a2
    by_cases h2 : i = r
    · subst h2
      rw [if_pos (by omega)]
      grind
    · rw [if_neg (by omega), clr_ne E h2]
      grind
theorem Bar.j6 (h : Bar m A E r col d c) (hr : r < m) : ∀ Φ, Lin Φ → (∀ s, s < r + 1 → Φ (A s) = 0) → ∀ k, k < r + 1 → Φ (clr E r col d k) = 0 := fun Φ hΦ hs k hk => by
  have hd := h.dne
  have z := h.i6 Φ hΦ fun s hs' => hs s (by omega)
  have zr : Φ (E r) = 0 := by
    have e : E r = fun x => (fun x => d * A r x) x + (-1) * (fun x => rs r fun k => A r (c k) * E k x) x := by
      funext x
      have := h.i4 r x hr
      rw [if_neg (by omega)] at this
      show E r x = d * A r x + (-1) * (rs r fun k => A r (c k) * E k x)
      grind
    rw [e, hΦ, hΦ.mul, hΦ.sum, hs r (by omega)]
    have : (rs r fun k => A r (c k) * Φ (E k)) = rs r fun _ => 0 := rs_congr fun k hk => by rw [z k hk]; grind
    rw [this, rs_zero]; grind
  by_cases kr : k = r
  · rw [kr, clr_at]; exact zr
  · have e : clr E r col d k = fun x => (fun x => (E r col / d) * E k x) x + (-(E k col / d)) * E r x := by
      funext x
      rw [clr_ne E kr]
      show _ = (E r col / d) * E k x + (-(E k col / d)) * E r x
      grind
    rw [e, hΦ, hΦ.mul, z k (by omega), zr]; grind
theorem Bar.j5 (h : Bar m A E r col d c) (hr : r < m) : det (r + 1) (fun i j => A i (c1 c r col j)) = E r col := by
  have hd := h.dne
  have e1 : det (r + 1) (fun i j => A i (c1 c r col j)) = F r A (c1 c r col) (A r) := by
    unfold F
    exact det_congr fun i j hi _ => by
      unfold bord
      by_cases e : i = r
      · rw [if_pos e, e]
      · rw [if_neg e]
  have hΦ := F_lin r A (c1 c r col)
  have z := h.i6 _ hΦ fun s hs => F_row r A (c1 c r col) hs
  have eA : A r = fun x => (fun x => (1 / d) * E r x) x + (1 / d) * (fun x => rs r fun k => A r (c k) * E k x) x := by
    funext x
    have := h.i4 r x hr
    rw [if_neg (by omega)] at this
    show A r x = (1 / d) * E r x + (1 / d) * (rs r fun k => A r (c k) * E k x)
    grind
  have zs : (rs r fun k => A r (c k) * F r A (c1 c r col) (E k)) = 0 := by
    have : (rs r fun k => A r (c k) * F r A (c1 c r col) (E k)) = rs r fun _ => 0 := rs_congr fun k hk => by rw [z k hk]; grind
    rw [this, rs_zero]
  have fb := F_block r A (c1 c r col) (E r) fun j hj => by rw [c1_lt c hj]; exact h.i3 r _ (Nat.le_refl _) hr (h.clt j hj)
  have dd : (det r fun i j => A i (c1 c r col j)) = d := by rw [← h.i5]; exact det_congr fun i j _ hj => by show A i (c1 c r col j) = _; rw [c1_lt c hj]
  rw [c1_at, dd] at fb
  rw [e1, eA, hΦ, hΦ.mul, hΦ.sum, zs, fb]
  grind
theorem Bar.wV (h : Bar m A E r col d c) (hr : r < m) (he : E r col ≠ 0) : ∀ i x, i < m → Wh (clr E r col d i x) := by
  have j2 := h.j2 hr
  have j4 := h.j4 hr
  have j5 := h.j5 hr
  have j6 := h.j6 hr
  have cin : ∀ i j, i < r + 1 → j < r + 1 → c1 c r col i = c1 c r col j → i = j := fun i j hi hj e => by
    by_cases a : i = r
    · by_cases b : j = r
      · omega
      · rw [a, c1_at, c1_lt c (by omega)] at e
        have := h.clt j (by omega)
        omega
    · by_cases b : j = r
      · rw [b, c1_at, c1_lt c (by omega)] at e
        have := h.clt i (by omega)
        omega
      · rw [c1_lt c (by omega), c1_lt c (by omega)] at e
        exact h.cinj i j (by omega) (by omega) e
  have top : ∀ k x, k < r + 1 → Wh (clr E r col d k x) := fun k x hk => by
    by_cases hx : ∃ j, j < r + 1 ∧ x = c1 c r col j
    · obtain ⟨j, hj, rfl⟩ := hx
      rw [j2 k j hk hj]
      split
      · exact h.wE r col hr
      · exact Wh.nil
    · let c2 : Nat → Nat := fun j => if j = r + 1 then x else c1 c r col j
      let u : Nat → Rat := fun j => if j = c1 c r col k then 1 else 0
      have hΦ := F_lin (r + 1) A c2
      have z := j6 _ hΦ (fun s hs => F_row (r + 1) A c2 hs) k hk
      have eu : u = fun y => (fun y => u y + (-(1 / E r col)) * clr E r col d k y) y + (1 / E r col) * clr E r col d k y := by
        funext y
        show u y = u y + (-(1 / E r col)) * clr E r col d k y + (1 / E r col) * clr E r col d k y
        grind
      have fb := F_block (r + 1) A c2 (fun y => u y + (-(1 / E r col)) * clr E r col d k y) fun j hj => by
        have ec : c2 j = c1 c r col j := by show (if j = r + 1 then x else c1 c r col j) = _; rw [if_neg (by omega)]
        rw [ec]
        show u (c1 c r col j) + (-(1 / E r col)) * clr E r col d k (c1 c r col j) = 0
        rw [j2 k j hk hj]
        show (if c1 c r col j = c1 c r col k then (1 : Rat) else 0) + _ = 0
        by_cases e : j = k
        · rw [if_pos e, if_pos (by rw [e])]; grind
        · rw [if_neg e, if_neg (fun q => e (cin j k hj hk q))]; grind
      have dd : (det (r + 1) fun i j => A i (c2 j)) = E r col := by
        rw [← j5]
        exact det_congr fun i j _ hj => by show A i (if j = r + 1 then x else c1 c r col j) = _; rw [if_neg (by omega)]
      have ux : u x = 0 := by show (if x = c1 c r col k then (1 : Rat) else 0) = 0; rw [if_neg (fun q => hx ⟨k, hk, q⟩)]
      have cx : c2 (r + 1) = x := by show (if r + 1 = r + 1 then x else _) = x; rw [if_pos rfl]
      rw [dd, cx] at fb
      have val : F (r + 1) A c2 u = - clr E r col d k x := by
        rw [eu, hΦ, z, fb]
        show (u x + (-(1 / E r col)) * clr E r col d k x) * E r col + _ = _
        rw [ux]; grind
      have wh : Wh (F (r + 1) A c2 u) := F_whole h.wA fun j => by
        show Wh (if j = c1 c r col k then (1 : Rat) else 0)
        split
        · exact Wh.one
        · exact Wh.nil
      rw [val] at wh
      have := wh.neg
      rwa [show - - clr E r col d k x = clr E r col d k x by grind] at this
  intro i x hi
  by_cases h1 : i < r + 1
  · exact top i x h1
  · have q := j4 i x hi
    rw [if_neg h1] at q
    have e : clr E r col d i x = E r col * A i x - rs (r + 1) fun k => A i (c1 c r col k) * clr E r col d k x := by grind
    rw [e]
    exact Wh.sub (Wh.mul (h.wE r col hr) (h.wA i x)) (rs_whole fun k hk => Wh.mul (h.wA _ _) (top k x hk))
theorem Bar.clear (h : Bar m A E r col d c) (hr : r < m) (he : E r col ≠ 0) : Bar m A (clr E r col d) (r + 1) (col + 1) (E r col) (c1 c r col) where
  dne := he
  rm := hr
  rc := by have := h.rc; omega
  clt := fun j hj => by
    by_cases e : j = r
    · rw [e, c1_at]; omega
    · rw [c1_lt c (by omega)]
      have := h.clt j (by omega)
      omega
  cinj := fun i j hi hj e => by
    by_cases a : i = r
    · by_cases b : j = r
      · omega
      · rw [a, c1_at, c1_lt c (by omega)] at e
        have := h.clt j (by omega)
        omega
    · by_cases b : j = r
      · rw [b, c1_at, c1_lt c (by omega)] at e
        have := h.clt i (by omega)
        omega
      · rw [c1_lt c (by omega), c1_lt c (by omega)] at e
        exact h.cinj i j (by omega) (by omega) e
  wA := h.wA
  wE := fun i j hi => h.wV hr he i j hi
  i2 := h.j2 hr
  i3 := fun i x hi hm hx => by
    rw [clr_ne E (by omega)]
    by_cases e : x = col
    · rw [e]; grind
    · rw [h.i3 i x (by omega) hm (by omega), h.i3 r x (Nat.le_refl _) hr (by omega)]; grind
  i4 := h.j4 hr
  i5 := h.j5 hr
  i6 := h.j6 hr
  full := fun e j hj => by
    by_cases a : j = r
    · rw [a, c1_at]; omega
    · rw [c1_lt c (by omega)]
      exact h.full (by omega) j (by omega)
end
end Mq

set_option linter.all false
namespace Mq
/-! elimination over lists of whole numbers -/
def ent (R : List (List Int)) (i x : Nat) : Int := (R.getD i []).getD x 0
def at2 (R : List (List Int)) : Mat := fun i x => ((ent R i x : Int) : Rat)
theorem Bar.congr {m : Nat} {A E E' : Mat} {r col : Nat} {d : Rat} {c : Nat → Nat} (h : Bar m A E r col d c) (e : ∀ i, i < m → E i = E' i) : Bar m A E' r col d c :=
  { h with
    wE := fun i j hi => by rw [← e i hi]; exact h.wE i j hi
    i2 := fun k j hk hj => by rw [← e k (by have := h.rm; omega)]; exact h.i2 k j hk hj
    i3 := fun i x hi hm hx => by rw [← e i hm]; exact h.i3 i x hi hm hx
    i4 := fun i x hm => by
      rw [h.i4 i x hm]
      congr 1
      · exact rs_congr fun k hk => by rw [e k (by have := h.rm; omega)]
      · rw [e i hm]
    i6 := fun Φ hΦ hs k hk => by rw [← e k (by have := h.rm; omega)]; exact h.i6 Φ hΦ hs k hk }
/-- two rows exchanged -/
theorem det_sw (n : Nat) : ∀ (t p r : Nat) (A : Mat), p = r + t + 1 → p < n → det n (fun i => A (sw p r i)) = - det n A
  | 0, p, r, A, h, hp => by
    subst h
    rw [← swap_adj n r A (by omega)]
    exact det_congr fun i j _ _ => by
      show A (sw (r + 0 + 1) r i) j = swapR r A i j
      unfold sw swapR
      by_cases h1 : i = r
      · rw [if_pos h1, if_pos h1]
      · rw [if_neg h1, if_neg h1]
        by_cases h2 : i = r + 1
        · rw [if_pos (by omega), if_pos h2]
        · rw [if_neg (by omega), if_neg h2]
  | t + 1, p, r, A, h, hp => by
    have ih := det_sw n t (r + t + 1) r (swapR (r + t + 1) A) rfl (by omega)
    have s1 := swap_adj n (r + t + 1) A (by omega)
    have s2 := swap_adj n (r + t + 1) (fun i => swapR (r + t + 1) A (sw (r + t + 1) r i)) (by omega)
    have e : det n (fun i => A (sw p r i)) = det n (swapR (r + t + 1) (fun i => swapR (r + t + 1) A (sw (r + t + 1) r i))) := det_congr fun i j _ _ => by
      subst h
      show A (sw (r + (t + 1) + 1) r i) j = swapR (r + t + 1) (fun i => swapR (r + t + 1) A (sw (r + t + 1) r i)) i j
      by_cases h1 : i = r
      · have a1 : sw (r + (t + 1) + 1) r i = r + t + 1 + 1 := by unfold sw; rw [if_pos h1]; omega
        have a2 : sw (r + t + 1) r i = r + t + 1 := by unfold sw; rw [if_pos h1]
        rw [a1]
        unfold swapR
        rw [if_neg (by omega), if_neg (by omega)]
        dsimp only
        rw [a2, if_pos rfl]
      · by_cases h2 : i = r + t + 1 + 1
        · have a1 : sw (r + (t + 1) + 1) r i = r := by unfold sw; rw [if_neg h1, if_pos (by omega)]
          have a2 : sw (r + t + 1) r (r + t + 1) = r := by unfold sw; rw [if_neg (by omega), if_pos rfl]
          rw [a1]
          unfold swapR
          rw [if_neg (by omega), if_pos h2]
          dsimp only
          rw [a2, if_neg (by omega), if_neg (by omega)]
        · have a1 : sw (r + (t + 1) + 1) r i = i := by unfold sw; rw [if_neg h1, if_neg (by omega)]
          rw [a1]
          by_cases h3 : i = r + t + 1
          · have a2 : sw (r + t + 1) r (r + t + 1 + 1) = r + t + 1 + 1 := by unfold sw; rw [if_neg (by omega), if_neg (by omega)]
            unfold swapR
            rw [if_pos h3]
            dsimp only
            rw [a2, if_neg (by omega), if_pos rfl, h3]
          · have a2 : sw (r + t + 1) r i = i := by unfold sw; rw [if_neg h1, if_neg h3]
            unfold swapR
            rw [if_neg h3, if_neg h2]
            dsimp only
            rw [a2, if_neg h3, if_neg h2]
    rw [e, s2, ih, s1]; grind
def swRows (R : List (List Int)) (p r : Nat) : List (List Int) := (R.set p (R.getD r [])).set r (R.getD p [])
theorem sw_len (R : List (List Int)) (p r : Nat) : (swRows R p r).length = R.length := by unfold swRows; simp
theorem ent_sw {R : List (List Int)} {p r : Nat} (hp : p < R.length) (hr : r < R.length) (i : Nat) : (swRows R p r).getD i [] = R.getD (sw p r i) [] := by
  unfold swRows sw
  rw [List.getD_eq_getElem?_getD]
  by_cases h1 : i = r
  · rw [if_pos h1, h1, List.getElem?_set_self (by simpa using hr)]; rfl
  · rw [if_neg h1, List.getElem?_set_ne (Ne.symm h1)]
    by_cases h2 : i = p
    · rw [if_pos h2, h2, List.getElem?_set_self hp]; rfl
    · rw [if_neg h2, List.getElem?_set_ne (Ne.symm h2), List.getD_eq_getElem?_getD]
def clrRow (upper row : List Int) (col : Nat) (dv : Int) : List Int := List.zipWith (fun here above => Int.fdiv (upper.getD col 0 * here - row.getD col 0 * above) dv) row upper
def clrRows (R : List (List Int)) (r col : Nat) (dv : Int) : List (List Int) := R.mapIdx fun i row => if i = r then row else clrRow (R.getD r []) row col dv
theorem clr_len (R : List (List Int)) (r col : Nat) (dv : Int) : (clrRows R r col dv).length = R.length := by unfold clrRows; simp
theorem clr_get {R : List (List Int)} {i : Nat} (hi : i < R.length) (r col : Nat) (dv : Int) : (clrRows R r col dv).getD i [] = if i = r then R.getD i [] else clrRow (R.getD r []) (R.getD i []) col dv := by
  unfold clrRows
  rw [List.getD_eq_getElem?_getD, List.getElem?_mapIdx, List.getElem?_eq_getElem hi]
  have : R.getD i [] = R[i] := by rw [List.getD_eq_getElem?_getD, List.getElem?_eq_getElem hi]; rfl
  rw [this]
  rfl
structure SI (m w : Nat) (A0 : Mat) (R : List (List Int)) (r col : Nat) (d sg : Int) : Prop where
  len : R.length = m
  wid : ∀ i, i < m → (R.getD i []).length = w
  bar : ∃ A c, Bar m A (at2 R) r col (d : Rat) c ∧ det m A = (sg : Rat) * det m A0
  one : sg = 1 ∨ sg = -1
theorem SI.start {m w : Nat} {R : List (List Int)} (h : R.length = m) (hw : ∀ i, i < m → (R.getD i []).length = w) : SI m w (at2 R) R 0 0 1 1 :=
  ⟨h, hw, ⟨at2 R, id, by
    have := Bar.start (m := m) (A := at2 R) fun i j => ⟨_, rfl⟩
    simpa using this, by simp⟩, .inl rfl⟩
theorem SI.skip {m w : Nat} {A0 : Mat} {R : List (List Int)} {r col : Nat} {d sg : Int} (h : SI m w A0 R r col d sg) (hz : ∀ i, r ≤ i → i < m → ent R i col = 0) : SI m w A0 R r (col + 1) d sg := by
  obtain ⟨A, c, B, e⟩ := h.bar
  exact ⟨h.len, h.wid, ⟨A, c, B.skip fun i h1 h2 => by unfold at2; rw [hz i h1 h2]; simp, e⟩, h.one⟩
theorem SI.swap {m w : Nat} {A0 : Mat} {R : List (List Int)} {r col : Nat} {d sg : Int} (h : SI m w A0 R r col d sg) {p : Nat} (hp : r < p) (hm : p < m) : SI m w A0 (swRows R p r) r col d (-sg) := by
  obtain ⟨A, c, B, e⟩ := h.bar
  have hl := h.len
  have gd := fun i => ent_sw (R := R) (p := p) (r := r) (by omega) (by omega) i
  refine ⟨(sw_len R p r).trans hl, fun i hi => ?_, ⟨_, c, (B.swap (by omega) hm).congr fun i hi => ?_, ?_⟩, ?_⟩
  · rw [gd i]; exact h.wid _ (sw_m hm (by omega) hi)
  · funext x
    show (((R.getD (sw p r i) []).getD x 0 : Int) : Rat) = ((((swRows R p r).getD i []).getD x 0 : Int) : Rat)
    rw [gd i]
  · rw [det_sw m (p - r - 1) p r A (by omega) hm, e, Rat.intCast_neg]; grind
  · rcases h.one with z | z
    · right; omega
    · left; omega
theorem get_some {l : List Int} {x : Nat} (h : x < l.length) : l[x]? = some (l.getD x 0) := by rw [List.getD_eq_getElem?_getD, List.getElem?_eq_getElem h]; rfl
theorem get_none {l : List Int} {x : Nat} (h : l.length ≤ x) : l.getD x 0 = 0 := by rw [List.getD_eq_getElem?_getD, List.getElem?_eq_none h]; rfl
/-- what a cleared row holds -/
theorem clr_ent {m w : Nat} {A A0 : Mat} {R : List (List Int)} {r col : Nat} {d sg : Int} (h : SI m w A0 R r col d sg) {c : Nat → Nat} (B : Bar m A (at2 R) r col (d : Rat) c) (hr : r < m) (hc : col < w) (he : ent R r col ≠ 0) {i : Nat} (hi : i < m) (hir : i ≠ r) (x : Nat) :
    ∃ z : Int, (clrRow (R.getD r []) (R.getD i []) col d).getD x 0 = z ∧ (z : Rat) = clr (at2 R) r col (d : Rat) i x ∧ (x < w → ent R r col * ent R i x - ent R i col * ent R r x = d * z) := by
  have dn : d ≠ 0 := fun z => B.dne (by rw [z]; simp)
  have dq := B.dne
  have heq : at2 R r col ≠ 0 := fun z => he (Rat.intCast_inj.mp (by unfold at2 at z; simpa using z))
  have wi := h.wid i hi
  have wr := h.wid r hr
  by_cases hx : x < w
  · obtain ⟨z, hz⟩ := B.wV hr heq i x hi
    have e1 : ent R r col * ent R i x - ent R i col * ent R r x = d * z := by
      rw [clr_ne _ hir] at hz
      have : ((ent R r col * ent R i x - ent R i col * ent R r x : Int) : Rat) = ((d * z : Int) : Rat) := by
        rw [Rat.intCast_sub, Rat.intCast_mul, Rat.intCast_mul, Rat.intCast_mul, ← hz]
        show at2 R r col * at2 R i x - at2 R i col * at2 R r x = _
        grind
      exact Rat.intCast_inj.mp this
    refine ⟨z, ?_, hz.symm, fun _ => e1⟩
    unfold clrRow
    have g1 : (R.getD i [])[x]? = some ((R.getD i []).getD x 0) := get_some (by omega)
    have g2 : (R.getD r [])[x]? = some ((R.getD r []).getD x 0) := get_some (by omega)
    rw [List.getD_eq_getElem?_getD (l := List.zipWith _ _ _), List.getElem?_zipWith, g1, g2]
    exact fdiv_exact dn e1
  · refine ⟨0, ?_, ?_, fun h => absurd h hx⟩
    · unfold clrRow
      exact get_none (by rw [List.length_zipWith, wi, wr]; omega)
    · rw [clr_ne _ hir]
      have a1 : at2 R i x = 0 := by unfold at2 ent; rw [get_none (by omega)]; simp
      have a2 : at2 R r x = 0 := by unfold at2 ent; rw [get_none (by omega)]; simp
      rw [a1, a2]; simp; grind
theorem SI.clear {m w : Nat} {A0 : Mat} {R : List (List Int)} {r col : Nat} {d sg : Int} (h : SI m w A0 R r col d sg) (hr : r < m) (hc : col < w) (he : ent R r col ≠ 0) : SI m w A0 (clrRows R r col d) (r + 1) (col + 1) (ent R r col) sg := by
  obtain ⟨A, c, B, e⟩ := h.bar
  have hl := h.len
  have heq : at2 R r col ≠ 0 := fun z => he (Rat.intCast_inj.mp (by unfold at2 at z; simpa using z))
  refine ⟨(clr_len R r col d).trans hl, fun i hi => ?_, ⟨A, _, (B.clear hr heq).congr fun i hi => ?_, e⟩, h.one⟩
  · rw [clr_get (by omega)]
    split
    · exact h.wid i hi
    · unfold clrRow
      rw [List.length_zipWith, h.wid i hi, h.wid r hr, Nat.min_self]
  · funext x
    show clr (at2 R) r col (d : Rat) i x = ((((clrRows R r col d).getD i []).getD x 0 : Int) : Rat)
    rw [clr_get (by omega)]
    by_cases hir : i = r
    · rw [if_pos hir, hir, clr_at]; rfl
    · rw [if_neg hir]
      obtain ⟨z, h1, h2, _⟩ := clr_ent h B hr hc he hi hir x
      rw [h1, h2]
/-- bounds -/
def BdR (n : Nat) (R : List (List Int)) : Prop := ∀ i x, B n (ent R i x)
/-- at the end -/
theorem SI.whole {m w : Nat} {A0 : Mat} {R : List (List Int)} {d sg : Int} (h : SI m w A0 R m m d sg) : det m A0 = (sg : Rat) * (d : Rat) := by
  obtain ⟨A, c, B, e⟩ := h.bar
  have f := B.full rfl
  have i5 := B.i5
  have : det m (fun i j => A i (c j)) = det m A := det_congr fun i j _ hj => by show A i (c j) = A i j; rw [f j hj]
  rw [this, e] at i5
  rcases h.one with z | z
  · rw [z] at i5 ⊢; simp at i5 ⊢; exact i5
  · rw [z, Rat.intCast_neg] at i5 ⊢; simp at i5 ⊢; grind
theorem SI.lame {m w : Nat} {A0 : Mat} {R : List (List Int)} {r : Nat} {d sg : Int} (h : SI m w A0 R r m d sg) (hr : r < m) : det m A0 = 0 := by
  obtain ⟨A, c, B, e⟩ := h.bar
  obtain ⟨n, rfl⟩ : ∃ n, m = n + 1 := ⟨m - 1, by omega⟩
  have dq := B.dne
  have e1 : det (n + 1) A = F n A id (A n) := by
    unfold F
    exact det_congr fun i j hi _ => by
      unfold bord
      by_cases z : i = n
      · rw [if_pos z, z]; rfl
      · rw [if_neg z]; rfl
  have hΦ := F_lin n A id
  have z := B.i6 _ hΦ fun s hs => F_row n A id (by omega)
  have eA : A n = fun x => (fun x => (1 / (d : Rat)) * at2 R n x) x + (1 / (d : Rat)) * (fun x => rs r fun k => A n (c k) * at2 R k x) x := by
    funext x
    have := B.i4 n x (by omega)
    rw [if_neg (by omega)] at this
    show A n x = (1 / (d : Rat)) * at2 R n x + (1 / (d : Rat)) * (rs r fun k => A n (c k) * at2 R k x)
    grind
  have zs : (rs r fun k => A n (c k) * F n A id (at2 R k)) = 0 := by
    have : (rs r fun k => A n (c k) * F n A id (at2 R k)) = rs r fun _ => 0 := rs_congr fun k hk => by rw [z k hk]; grind
    rw [this, rs_zero]
  have zn : F n A id (at2 R n) = 0 := by
    rw [F_eq]
    have : (rs (n + 1) fun j => sgn (n + j) * at2 R n (id j) * det n fun i k => A i (id (Mq.skip j k))) = rs (n + 1) fun _ => 0 := rs_congr fun j hj => by
      rw [show at2 R n (id j) = 0 from B.i3 n j (by omega) (by omega) hj]; grind
    rw [this, rs_zero]
  have : det (n + 1) A = 0 := by
    rw [e1, eA, hΦ, hΦ.mul, hΦ.sum, zs, zn]; grind
  rw [this] at e
  rcases h.one with q | q
  · rw [q] at e; simp at e; exact e.symm
  · rw [q, Rat.intCast_neg] at e; simp at e; grind
/-- rows times numbers -/
def prod : Nat → (Nat → Rat) → Rat
  | 0, _ => 1
  | n + 1, b => prod n b * b n
theorem det_scale : ∀ (n : Nat) (b : Nat → Rat) (Q : Mat), det n (fun i j => b i * Q i j) = prod n b * det n Q
  | 0, _, _ => by simp [det, prod]
  | n + 1, b, Q => by
    rw [det_succ, det_succ, ← rs_mul]
    refine rs_congr fun j _ => ?_
    have := det_scale n b (fun i k => Q i (Mq.skip j k))
    show sgn (n + j) * (b n * Q n j) * det n (fun i k => b i * Q i (Mq.skip j k)) = prod n b * b n * _
    rw [this]; grind
end Mq

set_option Elab.async false
set_option linter.all false
set_option maxRecDepth 100000
set_option maxHeartbeats 4000000
namespace Shp
open PySem L2
/-- a list of lists of whole numbers, none of them the list at D -/
inductive Imx (D : Addr) (H : Hp) : List V → List (List Int) → Prop where
  | nil : Imx D H [] []
  | cons {u : Addr} {r : List Int} {us : List V} {R : List (List Int)} (ne : u ≠ D) (h : H u = some (.lst (r.map V.int))) (q : Imx D H us R) : Imx D H (.ref u :: us) (r :: R)
theorem Imx.same {D : Addr} {H H' : Hp} (e : Same H H') : ∀ {xs : List V} {R : List (List Int)}, Imx D H xs R → Imx D H' xs R
  | _, _, .nil => .nil
  | _, _, .cons n h q => .cons n (e _ _ h) (q.same e)
theorem Imx.upd {D : Addr} {H : Hp} {o : HO} : ∀ {xs : List V} {R : List (List Int)}, Imx D H xs R → Imx D (L2.upd H D o) xs R
  | _, _, .nil => .nil
  | _, _, .cons n h q => .cons n (by rw [upd_ne n]; exact h) q.upd
theorem Imx.length {D : Addr} {H : Hp} : ∀ {xs : List V} {R : List (List Int)}, Imx D H xs R → xs.length = R.length
  | _, _, .nil => rfl
  | _, _, .cons _ _ q => by rw [List.length_cons, List.length_cons, q.length]
theorem Imx.get {D : Addr} {H : Hp} : ∀ {xs : List V} {R : List (List Int)} {i : Nat} {x : V}, Imx D H xs R → xs[i]? = some x → ∃ u r, x = .ref u ∧ R[i]? = some r ∧ u ≠ D ∧ H u = some (.lst (r.map V.int))
  | _, _, 0, _, .cons n h q, e => by simp at e; exact ⟨_, _, e.symm, rfl, n, h⟩
  | _, _, i + 1, _, .cons n h q, e => by simp at e; exact q.get e
theorem Imx.at {D : Addr} {H : Hp} {xs : List V} {R : List (List Int)} (h : Imx D H xs R) {i : Nat} (hi : i < R.length) : ∃ u, xs[i]? = some (.ref u) ∧ u ≠ D ∧ H u = some (.lst ((R.getD i []).map V.int)) := by
  have hx : i < xs.length := by rw [h.length]; exact hi
  obtain ⟨u, r, e1, e2, e3, e4⟩ := h.get (List.getElem?_eq_getElem hx)
  refine ⟨u, by rw [List.getElem?_eq_getElem hx, e1], e3, ?_⟩
  rw [List.getD_eq_getElem?_getD, e2]; exact e4
theorem Imx.app {D : Addr} {H : Hp} : ∀ {xs ys : List V} {R S : List (List Int)}, Imx D H xs R → Imx D H ys S → Imx D H (xs ++ ys) (R ++ S)
  | _, _, _, _, .nil, k => k
  | _, _, _, _, .cons n h q, k => .cons n h (q.app k)
theorem Imx.set {D : Addr} {H : Hp} {u : Addr} {r : List Int} (hn : u ≠ D) (hu : H u = some (.lst (r.map V.int))) : ∀ {xs : List V} {R : List (List Int)} (i : Nat), Imx D H xs R → Imx D H (xs.set i (.ref u)) (R.set i r)
  | _, _, _, .nil => by simp; exact .nil
  | _, _, 0, .cons n h q => .cons hn hu q
  | _, _, i + 1, .cons n h q => .cons n h (q.set hn hu i)
theorem Imx.other {D D' : Addr} {H : Hp} (hD : H D' = none) : ∀ {xs : List V} {R : List (List Int)}, Imx D H xs R → Imx D' H xs R
  | _, _, .nil => .nil
  | _, _, .cons n h q => .cons (fun z => by rw [z, hD] at h; cases h) h (q.other hD)
/-- rows in whole numbers, each with its bottom; the rows lists that can be told apart from new ones -/
inductive Wmx (K : PySem.W.Frag) (D : Addr) (H : Hp) : List V → List (List Int × Int) → Prop where
  | nil : Wmx K D H [] []
  | cons {t l : Addr} {r : List Int × Int} {us : List V} {rs : List (List Int × Int)} (ne : l ≠ D) (h : SqT K H t [.ref l, .int r.2]) (f : H l = some (.lst (r.1.map V.int))) (q : Wmx K D H us rs) : Wmx K D H (.ref t :: us) (r :: rs)
theorem Wmx.same {K : PySem.W.Frag} {D : Addr} {H H' : Hp} (e : Same H H') : ∀ {xs : List V} {rs : List (List Int × Int)}, Wmx K D H xs rs → Wmx K D H' xs rs
  | _, _, .nil => .nil
  | _, _, .cons n h f q => .cons n (e.seqT h) (e _ _ f) (q.same e)
theorem Wmx.upd {K : PySem.W.Frag} {D : Addr} {H : Hp} {ys : List V} {o : HO} (hl : H D = some (.lst ys)) : ∀ {xs : List V} {rs : List (List Int × Int)}, Wmx K D H xs rs → Wmx K D (L2.upd H D o) xs rs
  | _, _, .nil => .nil
  | _, _, .cons n h f q => .cons n (h.upd hl) (by rw [upd_ne n]; exact f) (q.upd hl)
theorem Wmx.length {K : PySem.W.Frag} {D : Addr} {H : Hp} : ∀ {xs : List V} {rs : List (List Int × Int)}, Wmx K D H xs rs → xs.length = rs.length
  | _, _, .nil => rfl
  | _, _, .cons _ _ _ q => by rw [List.length_cons, List.length_cons, q.length]
theorem Wmx.get {K : PySem.W.Frag} {D : Addr} {H : Hp} : ∀ {xs : List V} {rs : List (List Int × Int)} {i : Nat} {x : V}, Wmx K D H xs rs → xs[i]? = some x → ∃ t l r, x = .ref t ∧ rs[i]? = some r ∧ SqT K H t [.ref l, .int r.2] ∧ H l = some (.lst (r.1.map V.int))
  | _, _, 0, _, .cons n h f q, e => by simp at e; exact ⟨_, _, _, e.symm, rfl, h, f⟩
  | _, _, i + 1, _, .cons n h f q, e => by simp at e; exact q.get e
theorem Wmx.app {K : PySem.W.Frag} {D : Addr} {H : Hp} : ∀ {xs ys : List V} {rs ss : List (List Int × Int)}, Wmx K D H xs rs → Wmx K D H ys ss → Wmx K D H (xs ++ ys) (rs ++ ss)
  | _, _, _, _, .nil, k => k
  | _, _, _, _, .cons n h f q, k => .cons n h f (q.app k)
/-- what is read of a list by a place that is a count -/
theorem map_get {l : List Int} {i : Nat} (h : i < l.length) : (l.map V.int)[i]? = some (.int (l.getD i 0)) := by
  rw [List.getElem?_map, Mq.get_some h]; rfl
/-! the promises -/
def spIWd (K : PySem.W.Frag) : Sp := fun vs H Q _ => ∃ (a : Addr) (xs : List V) (ps : List Mq.Q2) (n : Nat), vs = [.ref a] ∧ SqL K H a xs ∧ Fqs K H xs ps ∧ Mq.Pos ps ∧ (∀ p ∈ ps, Mq.Bd n p) ∧ ps.length ≤ 100 ∧ 10 + n + n * ps.length ≤ 8000 ∧
  ∀ t l H', Same H H' → H l = none → SqT K H' t [.ref l, .int (Mq.lcmB ps)] → H' l = some (.lst ((Mq.iw ps).map V.int)) → Q (.ref t) H'
def spPiv (K : PySem.W.Frag) : Sp := fun vs H Q _ => ∃ (l D : Addr) (zs : List V) (R : List (List Int)) (r c m w : Nat), vs = [.ref l, .int (r : Int), .int (c : Int)] ∧ SqL K H l zs ∧ Imx D H zs R ∧ R.length = m ∧ (∀ i, i < m → (R.getD i []).length = w) ∧ c < w ∧ r ≤ m ∧ m ≤ 100 ∧
  (∀ p, r ≤ p → p < m → Mq.ent R p c ≠ 0 → Q (.int (p : Int)) H) ∧ ((∀ i, r ≤ i → i < m → Mq.ent R i c = 0) → Q .non H)
def spCleared (K : PySem.W.Frag) : Sp := fun vs H Q _ => ∃ (u v : Addr) (row upper : List Int) (c n : Nat) (dv : Int), vs = [.ref u, .ref v, .int (c : Int), .int dv] ∧ SqL K H u (row.map V.int) ∧ SqL K H v (upper.map V.int) ∧ row.length = upper.length ∧ row.length ≤ 100 ∧ c < row.length ∧ dv ≠ 0 ∧
  (∀ i, Mq.B n (row.getD i 0)) ∧ (∀ i, Mq.B n (upper.getD i 0)) ∧ Mq.B n dv ∧ n ≤ 9000 ∧
  ∀ l H', Same H H' → H l = none → H' l = some (.lst ((Mq.clrRow upper row c dv).map V.int)) → Q (.ref l) H'
def spClrRows (K : PySem.W.Frag) : Sp := fun vs H Q _ => ∃ (l D : Addr) (zs : List V) (R : List (List Int)) (r c m w n : Nat) (dv : Int), vs = [.ref l, .int (r : Int), .int (c : Int), .int dv] ∧ SqL K H l zs ∧ Imx D H zs R ∧ R.length = m ∧ (∀ i, i < m → (R.getD i []).length = w) ∧ c < w ∧ w ≤ 100 ∧ r < m ∧ m ≤ 100 ∧ dv ≠ 0 ∧ Mq.BdR n R ∧ Mq.B n dv ∧ n ≤ 9000 ∧
  ∀ l' zs' H', Same H H' → H l' = none → H' l' = some (.lst zs') → Imx l' H' zs' (Mq.clrRows R r c dv) → Q (.ref l') H'
/-- how many bits the numbers have behind k steps -/
def bitsAt (n : Nat) : Nat → Nat
  | 0 => n
  | k + 1 => bitsAt n k + bitsAt n k + 1
def elimD (l : Addr) (rank : Nat) (pivot sign : Int) : HO := .dK (mergeK [] [(.inr "rows", .ref l), (.inr "rank", .int (rank : Int)), (.inr "pivot", .int pivot), (.inr "sign", .int sign)])
def spElim (K : PySem.W.Frag) : Sp := fun vs H Q _ => ∃ (l D : Addr) (zs : List V) (R : List (List Int)) (m w n : Nat), vs = [.ref l, .int (m : Int)] ∧ SqL K H l zs ∧ Imx D H zs R ∧ R.length = m ∧ (∀ i, i < m → (R.getD i []).length = w) ∧ m ≤ w ∧ w ≤ 100 ∧ Mq.BdR n R ∧ 1 ≤ n ∧ bitsAt n m ≤ 9000 ∧
  ∀ d l' zs' R' rank pivot sign H', Same H H' → H d = none → H l' = none → H' d = some (elimD l' rank pivot sign) → H' l' = some (.lst zs') → Imx l' H' zs' R' → Mq.SI m w (Mq.at2 R) R' rank m pivot sign → Mq.BdR (bitsAt n m) R' → Mq.B (bitsAt n m) pivot → Q (.ref d) H'
/-- the weight of a matrix -/
def wgt (X : List (List Mq.Q2)) : Rat := Mq.det X.length fun i j => Mq.val ((X.getD i []).getD j Mq.z0)
def spWeight (K : PySem.W.Frag) : Sp := fun vs H Q _ => ∃ (g D : Addr) (us : List V) (X : List (List Mq.Q2)), vs = [.ref g] ∧ SqL K H g us ∧ Fmx K D H us X ∧ Mq.AllPos X ∧ (∀ row ∈ X, (∀ p ∈ row, Mq.Bd 60 p) ∧ row.length = X.length) ∧ X.length ≤ 4 ∧
  ∀ a p H', Same H H' → Fq K H' a p → Mq.Low p → Mq.Bd 9001 p → Mq.val p = wgt X → Q (.ref a) H'
theorem elim_get {H : Hp} {d l : Addr} {rank : Nat} {pivot sign : Int} (h : H d = some (elimD l rank pivot sign)) : DGet H d (.str "rows") (some (.ref l)) ∧ DGet H d (.str "rank") (some (.int (rank : Int))) ∧ DGet H d (.str "pivot") (some (.int pivot)) ∧ DGet H d (.str "sign") (some (.int sign)) := by
  refine ⟨?_, ?_, ?_, ?_⟩
  · exact DGet.k (k := (Sum.inr "rows" : Key)) h
  · exact DGet.k (k := (Sum.inr "rank" : Key)) h
  · exact DGet.k (k := (Sum.inr "pivot" : Key)) h
  · exact DGet.k (k := (Sum.inr "sign" : Key)) h
/-- the bottoms' product -/
def botP (X : List (List Mq.Q2)) : Int := X.foldl (fun b row => b * Mq.lcmB row) 1
theorem botP_take {X : List (List Mq.Q2)} {i : Nat} {row : List Mq.Q2} (h : X[i]? = some row) : botP (X.take (i + 1)) = botP (X.take i) * Mq.lcmB row := by
  unfold botP; rw [List.take_add_one, h, List.foldl_append]; rfl
theorem botP_prod (X : List (List Mq.Q2)) : ∀ i, i ≤ X.length → ((botP (X.take i) : Int) : Rat) = Mq.prod i fun k => ((Mq.lcmB (X.getD k []) : Int) : Rat)
  | 0, _ => by simp [botP, Mq.prod]
  | i + 1, h => by
    have e : X[i]? = some (X.getD i []) := by rw [List.getD_eq_getElem?_getD, List.getElem?_eq_getElem (by omega)]; rfl
    rw [botP_take e, Rat.intCast_mul, botP_prod X i (by omega)]; rfl
theorem botP_ge {X : List (List Mq.Q2)} (hX : Mq.AllPos X) : ∀ i, i ≤ X.length → 1 ≤ botP (X.take i)
  | 0, _ => by show (1 : Int) ≤ 1; omega
  | i + 1, h => by
    have e : X[i]? = some (X.getD i []) := by rw [List.getD_eq_getElem?_getD, List.getElem?_eq_getElem (by omega)]; rfl
    rw [botP_take e]
    have h1 := botP_ge hX i (by omega)
    have h2 := Mq.lcmB_ge (hX _ (List.mem_of_getElem? e))
    have := Int.mul_pos (show 0 < botP (X.take i) by omega) (show 0 < Mq.lcmB (X.getD i []) by omega)
    omega
theorem iw_get {row : List Mq.Q2} (hp : Mq.Pos row) {j : Nat} (hj : j < row.length) : (((Mq.iw row).getD j 0 : Int) : Rat) = ((Mq.lcmB row : Int) : Rat) * Mq.val (row.getD j Mq.z0) := by
  have ej : row[j]? = some (row.getD j Mq.z0) := by rw [List.getD_eq_getElem?_getD, List.getElem?_eq_getElem hj]; rfl
  have mem : row.getD j Mq.z0 ∈ row := List.mem_of_getElem? ej
  obtain ⟨k, hk⟩ := Mq.lcmB_dvd hp _ mem
  have e2 : (Mq.iw row).getD j 0 = Mq.iwOf (Mq.lcmB row) (row.getD j Mq.z0) := by
    unfold Mq.iw
    rw [List.getD_eq_getElem?_getD, List.getElem?_map, ej]; rfl
  rw [e2, Mq.iw_val (hp _ mem) hk]; grind
theorem map_iw {X : List (List Mq.Q2)} {i : Nat} (h : i < X.length) : (X.map Mq.iw).getD i [] = Mq.iw (X.getD i []) := by
  rw [List.getD_eq_getElem?_getD, List.getElem?_map, List.getD_eq_getElem?_getD, List.getElem?_eq_getElem h]; rfl
theorem wgt_whole {X : List (List Mq.Q2)} (hX : Mq.AllPos X) (hw : ∀ row ∈ X, row.length = X.length) : Mq.det X.length (Mq.at2 (X.map Mq.iw)) = ((botP X : Int) : Rat) * wgt X := by
  unfold wgt
  have hb := botP_prod X X.length (Nat.le_refl _)
  rw [List.take_length] at hb
  rw [hb, ← Mq.det_scale]
  refine Mq.det_congr fun i j hi hj => ?_
  have e : X[i]? = some (X.getD i []) := by rw [List.getD_eq_getElem?_getD, List.getElem?_eq_getElem hi]; rfl
  have mem := List.mem_of_getElem? e
  show ((((X.map Mq.iw).getD i []).getD j 0 : Int) : Rat) = _
  rw [map_iw hi]
  exact iw_get (hX _ mem) (by rw [hw _ mem]; exact hj)
theorem iw_len (row : List Mq.Q2) : (Mq.iw row).length = row.length := by unfold Mq.iw; simp
/-- what is told of a whole one, and of a lame one -/
theorem wgt_full {X : List (List Mq.Q2)} {R : List (List Int)} {w : Nat} {d sg : Int} (hX : Mq.AllPos X) (hw : ∀ row ∈ X, row.length = X.length) (h : Mq.SI X.length w (Mq.at2 (X.map Mq.iw)) R X.length X.length d sg) : Mq.val (Mq.red (sg * d) (botP X)) = wgt X := by
  have b1 := botP_ge hX X.length (Nat.le_refl _)
  rw [List.take_length] at b1
  have bn := Mq.cast_ne (show botP X ≠ 0 by omega)
  have e := h.whole
  rw [wgt_whole hX hw] at e
  rw [Mq.val_red (by omega), Rat.intCast_mul, ← e]
  grind
theorem wgt_lame {X : List (List Mq.Q2)} {R : List (List Int)} {w r : Nat} {d sg : Int} (hX : Mq.AllPos X) (hw : ∀ row ∈ X, row.length = X.length) (h : Mq.SI X.length w (Mq.at2 (X.map Mq.iw)) R r X.length d sg) (hr : r < X.length) : wgt X = 0 := by
  have b1 := botP_ge hX X.length (Nat.le_refl _)
  rw [List.take_length] at b1
  have bn := Mq.cast_ne (show botP X ≠ 0 by omega)
  have e := h.lame hr
  rw [wgt_whole hX hw] at e
  grind
end Shp
namespace L2
open PySem
end L2

set_option linter.all false
set_option maxHeartbeats 1000000
namespace Mq
/-! the multiples beside the rows -/
structure LI (m : Nat) (Aq : Mat) (R : List (List Int)) : Prop where
  lin : ∀ i x, i < m → x < m → at2 R i x = rs m fun k => at2 R i (m + k) * Aq k x
  ind : ∀ lam : Nat → Rat, (∀ j, j < m → (rs m fun i => lam i * at2 R i (m + j)) = 0) → ∀ i, i < m → lam i = 0
theorem at2_sw {R : List (List Int)} {p r : Nat} (hp : p < R.length) (hr : r < R.length) (i x : Nat) : at2 (swRows R p r) i x = at2 R (sw p r i) x := by
  show ((((swRows R p r).getD i []).getD x 0 : Int) : Rat) = _
  rw [ent_sw hp hr]; rfl
/-- a cleared row, as it stands -/
theorem at2_clr {m w : Nat} {A0 : Mat} {R : List (List Int)} {r col : Nat} {d sg : Int} (h : SI m w A0 R r col d sg) (hr : r < m) (hc : col < w) (he : ent R r col ≠ 0) {i : Nat} (hi : i < m) (x : Nat) :
    at2 (clrRows R r col d) i x = if i = r then at2 R i x else (at2 R r col * at2 R i x - at2 R i col * at2 R r x) / (d : Rat) := by
  obtain ⟨A, c, B, e⟩ := h.bar
  have hl := h.len
  show ((((clrRows R r col d).getD i []).getD x 0 : Int) : Rat) = _
  rw [clr_get (by omega)]
  by_cases hir : i = r
  · rw [if_pos hir, if_pos hir]; rfl
  · rw [if_neg hir, if_neg hir]
    obtain ⟨z, h1, h2, _⟩ := clr_ent h B hr hc he hi hir x
    rw [h1, h2, clr_ne _ hir]
end Mq

set_option Elab.async false
set_option linter.all false
set_option maxRecDepth 100000
set_option maxHeartbeats 2000000
namespace PySem
open Sem (wp)
section
variable {prog : Program} {w : World} {A : Around} {E : Value → Shared → Prop} {h : Heap} {g : Array GenState} {d : Drawn} {t : Nat} {os : OsState}
variable {nm q : Str} {C N f : Addr} {bs bm bmB : List Value} {hdct : Bool} {sn : List Str} {sub : List Value} {ab : Bool} {col : Option Bool} {dd : Option Addr} {k0 k1 k2 k3 k5 : Option Value} {B Bn newId nid initId inN : String} {bmN : List Value}
/-- a new exception of an own class, ahead of its __init__ -/
abbrev newExcHeap (h : Heap) (C : Addr) (rest : List Value) : Heap := (h.push { cls := .type "tuple", data := .seq rest.toArray }).push { cls := .ref C, data := .fields #[.ref h.objs.size, .none, .none, .none, .bool false, .none] }
end
section
variable {M : Model} {A : Around} {E : Value → Shared → Prop} {env : Env}
variable {nm q : Str} {C N : Addr} {bs bm : List Value} {hdct : Bool} {sn : List Str} {sub : List Value} {ab : Bool} {col : Option Bool} {dd : Option Addr} {k0 k1 k2 k3 k5 : Option Value} {newId : String}
end
section
variable {prog : Program} {w : World} {A : Around} {E : Value → Shared → Prop} {s : Shared} {env : Env}
variable {nm q : Str} {C N f : Addr} {bs bm bmB : List Value} {hdct : Bool} {sn : List Str} {sub : List Value} {ab : Bool} {col : Option Bool} {dd : Option Addr} {k0 k1 k2 k3 k5 : Option Value} {B Bn newId nid initId inN : String} {bmN : List Value}
end
end PySem

set_option Elab.async false
set_option linter.all false
set_option maxRecDepth 100000
set_option maxHeartbeats 2000000
namespace L2
open PySem PySem.Spec PyProof.Rows
/-! ### an own error with its own __init__ -/
/-- an exception that is being made: no traceback, no cause -/
def newX (a : Addr) (C : Value) (d : Option Addr) : HO := .ext fun h => ∃ t, h.get? a = some { cls := C, dict := d, data := .fields #[.ref t, .none, .none, .none, .bool false, .none] }
/-- tracked no more -/
def dropH (H : Hp) (x : Addr) : Hp := fun b => if b = x then none else H b
section
variable {X : Cx} {pins : List (Addr × Obj)} {σ : List (Option V)} {H : Hp} {s : Shared}
end
structure ExcI (K : PySem.W.Frag) (C C0 f : Addr) : Prop where
  cls : ∃ (nm q : Str) (N : Addr) (bs : List Value) (sn : List Str) (sub : List Value) (ab : Bool) (col : Option Bool) (dd : Option Addr) (k0 k1 k2 k3 k5 : Option Value), K.lookup C = some (excClassObj nm q C N bs (.ref C0 :: bmVE) true sn sub ab col dd k0 k1 k2 k3 k5 "ValueError.__new__")
  base : ∃ (nm q : Str) (N : Addr) (bs : List Value) (hdct : Bool) (sn : List Str) (sub : List Value) (ab : Bool) (col : Option Bool) (dd : Option Addr) (k0 k1 k2 k3 k5 : Option Value), K.lookup C0 = some (excClassObj nm q C0 N bs bmVE hdct sn sub ab col dd k0 k1 k2 k3 k5 "ValueError.__new__")
  exc : ExcC K C0
  ini : PySem.W.findIn K (.ref C) "__init__" = some (some (.ref f))
  fn : PySem.W.typeIn K (.ref f) = some (.type "function")
section
variable {X : Cx} {pins : List (Addr × Obj)} {σ : List (Option V)} {H : Hp} {s : Shared} {k : Nat} {f C C0 : Addr} {fd : FuncData} {ps : List Str} {sp : Sp}
/-- raise C(e, ..), C with its own __init__ -/
def tRaiseI (C : Addr) (sp : Sp) (E : XK) (ta : TA) : TS := fun _ σ H => ta σ H fun vs H1 => vs.length ≤ sizeLine ∧ ∀ x, H1 x = none → sp (.ref x :: vs) (upd H1 x (newX x (.ref C) none)) (fun v H2 => v = .non ∧ ∃ dx, H2 x = some (newX x (.ref C) dx) ∧ E (.ref C) dx (dropH H2 x)) E0
end
end L2

set_option Elab.async false
set_option linter.all false
set_option maxRecDepth 100000
set_option maxHeartbeats 2000000
namespace L2
open PySem PySem.Spec PyProof.Rows
/-! ### ValueError.__init__(self, e) -/
section
variable {X : Cx} {C C0 f : Addr}
/-- C0.__init__(self, e), C0 an own class under ValueError without __init__ -/
structure ClsI (K : PySem.W.Frag) (C0 : Addr) : Prop where
  sp : PySem.W.specialIn K (.ref C0) "__getattribute__" = some (some (.builtin "type.__getattribute__"))
  rd : PySem.W.readsIn K C0 (.type "type") = true
  fi : PySem.W.findCls K (.ref C0) (.type "type") "__init__" = some (.val (.builtin "ValueError.__init__"))
def tExcInit (K : PySem.W.Frag) (ta : TA) : TE := fun σ H Q => ta σ H fun vs H1 => ∃ a C C0 f d v, vs = [.ref a, v] ∧ H1 a = some (newX a (.ref C) d) ∧ ExcI K C C0 f ∧ Q .non H1
end
/-! ### self.f = e, of an exception without a dict -/
section
variable {prog : Program} {w : World} {A : Around} {E : Value → Shared → Prop} {s : Shared} {K : PySem.W.Frag} {x C C0 f : Addr} {name : Str} {v : Value} {vs : Array Value}
end
section
variable {X : Cx} {o value : Expr} {nm : Str} {pos pos' : Pos} {ta tv : TE}
/-- what of an own error's class is wanted besides -/
structure ExcF (K : PySem.W.Frag) (C : Addr) (nm : Str) : Prop where
  sa : PySem.W.findIn K (.ref C) "__setattr__" = some (some (.builtin "object.__setattr__"))
  no : PySem.W.findIn K (.ref C) nm = some none
def sFldX (K : PySem.W.Frag) (ta tv : TE) (nm : Str) : TS := fun D σ H => tv σ H fun y H1 => ta σ H1 fun x H2 => ∃ a C C0 f, x = .ref a ∧ H2 a = some (newX a (.ref C) none) ∧ ExcI K C C0 f ∧ ExcF K C nm ∧
  ∀ dx, H2 dx = none → D.nx σ (upd (upd H2 dx (.xd [(nm, y)])) a (newX a (.ref C) (some dx)))
end
/-! ### e.f, of an exception that was caught -/
section
variable {X : Cx} {o : Expr} {nm : Str} {pos : Pos} {ta : TE}
def tFldX (K : PySem.W.Frag) (ta : TE) (nm : Str) : TE := fun σ H Q => ta σ H fun x H1 => ∃ a C dx fs v, x = .ref a ∧ H1 a = some (excO a (.ref C) (some dx)) ∧ H1 dx = some (.xd fs) ∧ ExcK K C ∧ PySem.W.hasDictIn K C = true ∧ PySem.W.findIn K (.ref C) nm = some none ∧ fs.lookup nm = some v ∧ Q v H1
end
end L2

set_option Elab.async false
set_option linter.all false
set_option maxRecDepth 100000
set_option maxHeartbeats 4000000
namespace Shp
open PySem L2
/-- a list of lists of fractions that are new since H0, none of them the list at D -/
inductive Fmd (K : PySem.W.Frag) (H0 : Hp) (D : Addr) (H : Hp) : List V → List (List Mq.Q2) → Prop where
  | nil : Fmd K H0 D H [] []
  | cons {u : Addr} {xs : List V} {ps : List Mq.Q2} {us : List V} {X : List (List Mq.Q2)} (n0 : H0 u = none) (ne : u ≠ D) (h : H u = some (.lst xs)) (f : Fqs K H xs ps) (q : Fmd K H0 D H us X) : Fmd K H0 D H (.ref u :: us) (ps :: X)
/-! the rows beside the unit -/
def matX (X : List (List Mq.Q2)) : Mq.Mat := fun i j => Mq.val ((X.getD i []).getD j Mq.z0)
def unitRow (m i : Nat) (row : List Mq.Q2) : List Int := Mq.iw row ++ (List.range m).map fun c => if c = i then Mq.lcmB row else 0
def unitR (X : List (List Mq.Q2)) : List (List Int) := X.mapIdx fun i row => unitRow X.length i row
/-! the promises -/
structure Stp (m w : Nat) (A0 : Mq.Mat) (Pr : List (List Int) → Prop) : Prop where
  sw : ∀ R r col d sg p, Mq.SI m w A0 R r col d sg → r < p → p < m → Pr R → Pr (Mq.swRows R p r)
  cl : ∀ R r col d sg, Mq.SI m w A0 R r col d sg → r < m → col < w → Mq.ent R r col ≠ 0 → Pr R → Pr (Mq.clrRows R r col d)
def spElimP (K : PySem.W.Frag) : Sp := fun vs H Q _ => ∃ (l D : Addr) (zs : List V) (R : List (List Int)) (m w n : Nat) (Pr : List (List Int) → Prop), vs = [.ref l, .int (m : Int)] ∧ SqL K H l zs ∧ Imx D H zs R ∧ R.length = m ∧ (∀ i, i < m → (R.getD i []).length = w) ∧ m ≤ w ∧ w ≤ 100 ∧ Mq.BdR n R ∧ 1 ≤ n ∧ bitsAt n m ≤ 9000 ∧ Pr R ∧ Stp m w (Mq.at2 R) Pr ∧
  ∀ d l' zs' R' rank pivot sign H', Same H H' → H d = none → H l' = none → H' d = some (elimD l' rank pivot sign) → H' l' = some (.lst zs') → Imx l' H' zs' R' → Mq.SI m w (Mq.at2 R) R' rank m pivot sign → Mq.BdR (bitsAt n m) R' → Mq.B (bitsAt n m) pivot → Pr R' → Q (.ref d) H'
abbrev MxOk (X : List (List Mq.Q2)) : Prop := Mq.AllPos X ∧ (∀ row ∈ X, (∀ p ∈ row, Mq.Bd 64 p) ∧ row.length = X.length) ∧ X.length ≤ 4
def spUnit (K : PySem.W.Frag) : Sp := fun vs H Q _ => ∃ (g D : Addr) (us : List V) (X : List (List Mq.Q2)), vs = [.ref g] ∧ SqL K H g us ∧ Fmx K D H us X ∧ MxOk X ∧
  ∀ l zs H', Same H H' → H l = none → H' l = some (.lst zs) → Imx l H' zs (unitR X) → Q (.ref l) H'
def spOver (K : PySem.W.Frag) : Sp := fun vs H Q _ => ∃ (l : Addr) (ts : List Int) (pv : Int) (n : Nat), vs = [.ref l, .int pv] ∧ SqL K H l (ts.map V.int) ∧ ts.length ≤ 100 ∧ pv ≠ 0 ∧ Mq.B n pv ∧ n ≤ 9000 ∧
  ∀ l' zs H', Same H H' → H l' = none → H' l' = some (.lst zs) → Fqs K H' zs (ts.map fun t => Mq.red t pv) → Q (.ref l') H'
structure Null (X : List (List Mq.Q2)) (ps : List Mq.Q2) : Prop where
  len : ps.length = X.length
  low : Mq.AllLow ps
  bd : ∀ p ∈ ps, Mq.Bd 9000 p
  some_ : ∃ p ∈ ps, p.1 ≠ 0
  sum : ∀ x, x < X.length → (Mq.rs X.length fun j => Mq.val (ps.getD j Mq.z0) * matX X j x) = 0
structure Inve (X Y : List (List Mq.Q2)) : Prop where
  len : Y.length = X.length
  rows : ∀ row ∈ Y, Mq.AllLow row ∧ (∀ p ∈ row, Mq.Bd 9000 p) ∧ row.length = X.length
  sum : ∀ k x, k < X.length → x < X.length → (Mq.rs X.length fun j => Mq.val ((Y.getD k []).getD j Mq.z0) * matX X j x) = if x = k then 1 else 0
def spLameM (K : PySem.W.Frag) : Sp := fun vs H Q _ => ∃ (g D : Addr) (us : List V) (X : List (List Mq.Q2)), vs = [.ref g] ∧ SqL K H g us ∧ Fmx K D H us X ∧ MxOk X ∧ wgt X = 0 ∧ 1 ≤ X.length ∧
  ∀ l zs ps H', Same H H' → H l = none → H' l = some (.lst zs) → Fqs K H' zs ps → Null X ps → Q (.ref l) H'
/-- the error's own __init__ -/
def spLInit (K : PySem.W.Frag) (C : Addr) : Sp := fun vs H Q _ => ∃ (x l : Addr) (xs : List V), vs = [.ref x, .ref l] ∧ H x = some (newX x (.ref C) none) ∧ SqL K H l xs ∧ xs.length ≤ 1000 ∧
  ∀ dx l2 H', H dx = none → H l2 = none → dx ≠ x → l2 ≠ x → (∀ b o, H b = some o → b ≠ x → H' b = some o) → H' x = some (newX x (.ref C) (some dx)) → H' dx = some (.xd [("multiples", .ref l2)]) → H' l2 = some (.lst xs) → Q .non H'
def spMult (K : PySem.W.Frag) (C : Addr) : Sp := fun vs H Q E => ∃ (g D : Addr) (us : List V) (X : List (List Mq.Q2)), vs = [.ref g] ∧ SqL K H g us ∧ Fmx K D H us X ∧ MxOk X ∧
  (∀ l zs Y H', Same H H' → wgt X ≠ 0 → H l = none → H' l = some (.lst zs) → Fmd K H l H' zs Y → Inve X Y → Q (.ref l) H') ∧
  ∀ dx l zs ps H', Same H H' → wgt X = 0 → H' dx = some (.xd [("multiples", .ref l)]) → H l = none → H' l = some (.lst zs) → Fqs K H' zs ps → Null X ps → E (.ref C) (some dx) H'
end Shp
namespace L2
open PySem
end L2

set_option linter.all false
set_option maxHeartbeats 2000000
namespace Mq
/-! all ways, and the weight -/
def wsM : Nat → Mat → List Nat → Rat
  | 0, _, _ => 1
  | n + 1, A, cs => rs cs.length fun k => sgn k * A 0 (cs.getD k 0) * wsM n (fun i => A (i + 1)) (cs.eraseIdx k)
theorem s1 : sgn 1 = -1 := by unfold sgn; rfl
theorem s2 : sgn 2 = 1 := by unfold sgn; rw [if_pos (by decide)]
theorem s3 : sgn 3 = -1 := by unfold sgn; rfl
theorem s4 : sgn 4 = 1 := by unfold sgn; rw [if_pos (by decide)]
theorem s5 : sgn 5 = -1 := by unfold sgn; rfl
theorem s6 : sgn 6 = 1 := by unfold sgn; rw [if_pos (by decide)]
theorem det1 (A : Mat) : det 1 A = A 0 0 := by simp [det, rs, sgn] <;> grind
theorem det2 (A : Mat) : det 2 A = A 0 0 * A 1 1 - A 0 1 * A 1 0 := by
  rw [det_succ]; simp only [rs, det1, skip, s1, s2]
  simp [s1, s2, s3, s4, s5, s6] <;> grind
theorem det3 (A : Mat) : det 3 A = A 2 0 * (A 0 1 * A 1 2 - A 0 2 * A 1 1) - A 2 1 * (A 0 0 * A 1 2 - A 0 2 * A 1 0) + A 2 2 * (A 0 0 * A 1 1 - A 0 1 * A 1 0) := by
  rw [det_succ]; simp only [rs, det2, skip, s2, s3, s4]
  simp [s1, s2, s3, s4, s5, s6] <;> grind
def d3 (a b c d e f g h i : Rat) : Rat := g * (b * f - c * e) - h * (a * f - c * d) + i * (a * e - b * d)
theorem det3' (A : Mat) : det 3 A = d3 (A 0 0) (A 0 1) (A 0 2) (A 1 0) (A 1 1) (A 1 2) (A 2 0) (A 2 1) (A 2 2) := det3 A
theorem det4 (A : Mat) : det 4 A = - (A 3 0 * d3 (A 0 1) (A 0 2) (A 0 3) (A 1 1) (A 1 2) (A 1 3) (A 2 1) (A 2 2) (A 2 3)) + A 3 1 * d3 (A 0 0) (A 0 2) (A 0 3) (A 1 0) (A 1 2) (A 1 3) (A 2 0) (A 2 2) (A 2 3) - A 3 2 * d3 (A 0 0) (A 0 1) (A 0 3) (A 1 0) (A 1 1) (A 1 3) (A 2 0) (A 2 1) (A 2 3) + A 3 3 * d3 (A 0 0) (A 0 1) (A 0 2) (A 1 0) (A 1 1) (A 1 2) (A 2 0) (A 2 1) (A 2 2) := by
  rw [det_succ]; simp only [rs, det3', skip, s3, s4, s5, s6]
  simp [s1, s2, s3, s4, s5, s6] <;> grind
end Mq

set_option Elab.async false
set_option linter.all false
set_option maxRecDepth 100000
set_option maxHeartbeats 4000000
namespace L2
open PySem
end L2
namespace Mq
/-- the products, as they are -/
def pp (m x : Q2) : Q2 := (m.1 * x.1, m.2 * x.2)
end Mq
namespace Shp
open PySem L2
def col (X : List (List Mq.Q2)) (j : Nat) : List Mq.Q2 := X.map fun row => row.getD j Mq.z0
def spMeetsG (K : PySem.W.Frag) : Sp := fun vs H Q _ => ∃ (a o d : Addr) (xs ys : List V) (ms ps : List Mq.Q2) (q : Mq.Q2) (n n' : Nat), vs = [.ref a, .ref o, .ref d] ∧ SqL K H a xs ∧ Fqs K H xs ms ∧ SqL K H o ys ∧ Fqs K H ys ps ∧ Fq K H d q ∧ (∀ p ∈ ms, Mq.Bd n p) ∧ (∀ p ∈ ps, Mq.Bd n' p) ∧ Mq.Bd 9000 q ∧ ms.length ≤ 10 ∧ n ≤ 10000 ∧ n' ≤ 10000 ∧ ps.length = ms.length ∧ Mq.N (List.zipWith Mq.pp ms ps) * q.2 = q.1 * Mq.D (List.zipWith Mq.pp ms ps) ∧ ∀ H', Same H H' → Q (.bl true) H'
def spSumIs (K : PySem.W.Frag) : Sp := fun vs H Q _ => ∃ (a g d D : Addr) (xs us ds : List V) (ms qs : List Mq.Q2) (X : List (List Mq.Q2)), vs = [.ref a, .ref g, .ref d] ∧ SqL K H a xs ∧ Fqs K H xs ms ∧ SqL K H g us ∧ Fmx K D H us X ∧ SqL K H d ds ∧ Fqs K H ds qs ∧ MxOk X ∧ ms.length = X.length ∧ qs.length = X.length ∧ Mq.Pos ms ∧ (∀ p ∈ ms, Mq.Bd 9000 p) ∧ Mq.AllLow qs ∧ (∀ p ∈ qs, Mq.Bd 9000 p) ∧
  (∀ x, x < X.length → (Mq.rs X.length fun j => Mq.val (ms.getD j Mq.z0) * matX X j x) = Mq.val (qs.getD x Mq.z0)) ∧ ∀ H', Same H H' → Q (.bl true) H'
def spAsked (K : PySem.W.Frag) : Sp := fun vs H Q _ => ∃ (g D : Addr) (us : List V) (X : List (List Mq.Q2)), vs = [.ref g] ∧ SqL K H g us ∧ Fmx K D H us X ∧ MxOk X ∧
  (∀ t l zs Y H', Same H H' → SqT K H' t [.ref l, .non] → wgt X ≠ 0 → H l = none → H' l = some (.lst zs) → Fmd K H l H' zs Y → Inve X Y → Q (.ref t) H') ∧
  ∀ t l zs ps H', Same H H' → SqT K H' t [.non, .ref l] → wgt X = 0 → H l = none → H' l = some (.lst zs) → Fqs K H' zs ps → Null X ps → Q (.ref t) H'
def spDue (K : PySem.W.Frag) : Sp := fun vs H Q _ => ∃ (t g D : Addr) (us : List V) (X : List (List Mq.Q2)), vs = [.ref t, .ref g] ∧ SqL K H g us ∧ Fmx K D H us X ∧ MxOk X ∧
  ((∃ (l D' : Addr) (zs : List V) (Y : List (List Mq.Q2)), SqT K H t [.ref l, .non] ∧ SqL K H l zs ∧ Fmx K D' H zs Y ∧ Inve X Y) ∨ (∃ (l : Addr) (zs : List V) (ps : List Mq.Q2), SqT K H t [.non, .ref l] ∧ SqL K H l zs ∧ Fqs K H zs ps ∧ Null X ps)) ∧ ∀ H', Same H H' → Q (.bl true) H'
end Shp

set_option linter.all false
set_option maxHeartbeats 1000000
namespace Mq
/-! what every row kept the first rows kept -/
def KI (m : Nat) (A0 : Mat) (R : List (List Int)) : Prop := ∀ Φ, Lin Φ → (∀ k, k < m → Φ (at2 R k) = 0) → ∀ i, i < m → Φ (A0 i) = 0
end Mq

set_option Elab.async false
set_option linter.all false
set_option maxRecDepth 100000
set_option maxHeartbeats 4000000
namespace Shp
open PySem L2
/-! solved -/
def rsdX (X : List (List Mq.Q2)) (qs : List Mq.Q2) : List (List Mq.Q2) := List.zipWith (fun row q => row ++ [q]) X qs
def rsdR (X : List (List Mq.Q2)) (qs : List Mq.Q2) : List (List Int) := (rsdX X qs).map Mq.iw
section
variable {X : List (List Mq.Q2)} {qs : List Mq.Q2}
end
structure Slv (X : List (List Mq.Q2)) (qs ps : List Mq.Q2) : Prop where
  len : ps.length = X.length
  low : Mq.AllLow ps
  bd : ∀ p ∈ ps, Mq.Bd 9000 p
  sum : ∀ i, i < X.length → (Mq.rs X.length fun j => matX X i j * Mq.val (ps.getD j Mq.z0)) = Mq.val (qs.getD i Mq.z0)
/-- a right side beside the rows -/
abbrev RtOk (X : List (List Mq.Q2)) (qs : List Mq.Q2) : Prop := qs.length = X.length ∧ Mq.AllLow qs ∧ ∀ p ∈ qs, Mq.Bd 64 p
def spSolved (K : PySem.W.Frag) (C : Addr) : Sp := fun vs H Q E => ∃ (g b D : Addr) (H0 : Hp) (us bs : List V) (X : List (List Mq.Q2)) (qs : List Mq.Q2), vs = [.ref g, .ref b] ∧ SqL K H g us ∧ Fmd K H0 D H us X ∧ SqL K H b bs ∧ Fqs K H bs qs ∧ RtOk X qs ∧ MxOk X ∧
  (∀ l zs ps H', Same H H' → wgt X ≠ 0 → H l = none → H' l = some (.lst zs) → Fqs K H' zs ps → Slv X qs ps → Q (.ref l) H') ∧
  ∀ dx l zs ps H', Same H H' → wgt X = 0 → H' dx = some (.xd [("multiples", .ref l)]) → H l = none → H' l = some (.lst zs) → Fqs K H' zs ps → Null X ps → E (.ref C) (some dx) H'
end Shp

set_option linter.all false
set_option maxHeartbeats 1000000
namespace Mq
/-! how large the numbers of an elimination are: determinants of parts -/
def Wb (n : Nat) (x : Rat) : Prop := ∃ z : Int, x = (z : Rat) ∧ B n z
theorem Wb.mono {n m : Nat} {x : Rat} (h : Wb n x) (l : n ≤ m) : Wb m x := by obtain ⟨z, e, b⟩ := h; exact ⟨z, e, b.mono l⟩
theorem Wb.mul {n m : Nat} {x y : Rat} (h : Wb n x) (k : Wb m y) : Wb (n + m) (x * y) := by
  obtain ⟨a, rfl, b⟩ := h
  obtain ⟨c, rfl, d⟩ := k
  exact ⟨a * c, by rw [Rat.intCast_mul], b.mul d⟩
theorem Wb.sub {n : Nat} {x y : Rat} (h : Wb n x) (k : Wb n y) : Wb (n + 1) (x - y) := by
  obtain ⟨a, rfl, b⟩ := h
  obtain ⟨c, rfl, d⟩ := k
  exact ⟨a - c, by rw [Rat.intCast_sub], b.sub d⟩
theorem Wb.neg {n : Nat} {x : Rat} (h : Wb n x) : Wb n (-x) := by
  obtain ⟨a, rfl, b⟩ := h
  exact ⟨-a, by rw [Rat.intCast_neg], b.neg⟩
theorem Wb.zero (n : Nat) : Wb n 0 := ⟨0, by simp, Nat.two_pow_pos _⟩
theorem Wb.one : Wb 1 1 := ⟨1, by simp, show (1 : Nat) < 2 ^ 1 by decide⟩
theorem Wb.sgn {n : Nat} {x : Rat} (h : Wb n x) (k : Nat) : Wb n (Mq.sgn k * x) := by
  unfold Mq.sgn
  split
  · rw [show (1 : Rat) * x = x by grind]; exact h
  · rw [show (-1 : Rat) * x = -x by grind]; exact h.neg
theorem wb_rs {n : Nat} {f : Nat → Rat} : ∀ K, (∀ k, k < K → Wb n (f k)) → ∃ z : Int, rs K f = (z : Rat) ∧ z.natAbs + K ≤ K * 2 ^ n
  | 0, _ => ⟨0, by simp only [rs]; simp, by simp⟩
  | K + 1, h => by
    obtain ⟨z, e, b⟩ := wb_rs K fun k hk => h k (by omega)
    obtain ⟨y, e2, b2⟩ := h K (by omega)
    refine ⟨z + y, by simp only [rs]; rw [e, e2, Rat.intCast_add], ?_⟩
    have : y.natAbs < 2 ^ n := b2
    rw [Nat.succ_mul]
    omega
theorem Wb.rs {n K : Nat} {f : Nat → Rat} (hK : K ≤ 16) (h : ∀ k, k < K → Wb n (f k)) : Wb (n + 4) (Mq.rs K f) := by
  obtain ⟨z, e, b⟩ := wb_rs K h
  refine ⟨z, e, ?_⟩
  have p : 2 ^ (n + 4) = 16 * 2 ^ n := by rw [Nat.pow_add]; omega
  have q : K * 2 ^ n ≤ 16 * 2 ^ n := Nat.mul_le_mul_right _ hK
  have r : 0 < 2 ^ n := Nat.two_pow_pos n
  show z.natAbs < 2 ^ (n + 4)
  by_cases k0 : K = 0
  · subst k0; omega
  · omega
theorem det_wb {n : Nat} : ∀ (r : Nat) (M : Mat), r ≤ 16 → (∀ i j, i < r → Wb n (M i j)) → Wb ((n + 4) * r + 1) (det r M)
  | 0, _, _, _ => Wb.one
  | r + 1, M, hr, h => by
    rw [det_succ]
    have := Wb.rs (n := n + ((n + 4) * r + 1)) (K := r + 1) (f := fun j => sgn (r + j) * M r j * det r fun i k => M i (skip j k)) hr fun j _ => ((h r j (by omega)).sgn _).mul (det_wb r _ (by omega) fun i k hi => h i _ (by omega))
    exact this.mono (by rw [Nat.mul_succ]; omega)
section
variable {m : Nat} {A E : Mat} {r col : Nat} {d : Rat} {c : Nat → Nat} {n : Nat}
theorem Bar.wd (h : Bar m A E r col d c) (hA : ∀ i x, i < m → Wb n (A i x)) (hm : m ≤ 15) : Wb ((n + 4) * r + 1) d := by
  have rm := h.rm
  rw [← h.i5]
  exact det_wb r _ (by omega) fun i j hi => hA i _ (by omega)
theorem Bar.wtop (h : Bar m A E r col d c) (hA : ∀ i x, i < m → Wb n (A i x)) (hm : m ≤ 15) {k : Nat} (hk : k < r) (x : Nat) : Wb ((n + 4) * r + 6) (E k x) := by
  have rm := h.rm
  have hd := h.dne
  by_cases hx : ∃ j, j < r ∧ x = c j
  · obtain ⟨j, hj, rfl⟩ := hx
    rw [h.i2 k j hk hj]
    split
    · exact (h.wd hA hm).mono (by omega)
    · exact Wb.zero _
  · let c2 : Nat → Nat := fun j => if j = r then x else c j
    let u : Nat → Rat := fun j => if j = c k then 1 else 0
    have hΦ := F_lin r A c2
    have z := h.i6 _ hΦ (fun s hs => F_row r A c2 hs) k hk
    have eu : u = fun y => (fun y => u y + (-(1 / d)) * E k y) y + (1 / d) * E k y := by
      funext y
      show u y = u y + (-(1 / d)) * E k y + (1 / d) * E k y
      grind
    have fb := F_block r A c2 (fun y => u y + (-(1 / d)) * E k y) fun j hj => by
      have ec : c2 j = c j := by show (if j = r then x else c j) = _; rw [if_neg (by omega)]
      rw [ec]
      show u (c j) + (-(1 / d)) * E k (c j) = 0
      rw [h.i2 k j hk hj]
      show (if c j = c k then (1 : Rat) else 0) + _ = 0
      by_cases e : j = k
      · rw [if_pos e, if_pos (by rw [e])]; grind
      · rw [if_neg e, if_neg (fun q => e (h.cinj j k hj hk q))]; grind
    have dd : (det r fun i j => A i (c2 j)) = d := by
      rw [← h.i5]
      exact det_congr fun i j _ hj => by show A i (if j = r then x else c j) = _; rw [if_neg (by omega)]
    have ux : u x = 0 := by show (if x = c k then (1 : Rat) else 0) = 0; rw [if_neg (fun q => hx ⟨k, hk, q⟩)]
    have cx : c2 r = x := by show (if r = r then x else _) = x; rw [if_pos rfl]
    rw [dd, cx] at fb
    have val : F r A c2 u = - E k x := by
      rw [eu, hΦ, z, fb]
      show (u x + (-(1 / d)) * E k x) * d + _ = _
      rw [ux]; grind
    have wh : Wb ((n + 4) * r + 6) (F r A c2 u) := by
      rw [F_eq]
      have := Wb.rs (n := 1 + ((n + 4) * r + 1)) (K := r + 1) (f := fun j => Mq.sgn (r + j) * u (c2 j) * det r fun i k => A i (c2 (Mq.skip j k))) (by omega) fun j _ => by
        refine Wb.mul (Wb.sgn ?_ _) (det_wb r _ (by omega) fun i k hi => hA i _ (by omega))
        show Wb 1 (if c2 j = c k then (1 : Rat) else 0)
        split
        · exact Wb.one
        · exact Wb.zero _
      exact this.mono (by omega)
    rw [val] at wh
    have := wh.neg
    rwa [show - - E k x = E k x by grind] at this
theorem Bar.wall (h : Bar m A E r col d c) (hA : ∀ i x, i < m → Wb n (A i x)) (hm : m ≤ 15) {i : Nat} (hi : i < m) (x : Nat) : Wb ((n + 4) * (m + 1) + 7) (E i x) := by
  have rm := h.rm
  have mono := Nat.mul_le_mul_left (n + 4) rm
  have e1 : (n + 4) * (m + 1) = (n + 4) * m + (n + 4) := Nat.mul_succ ..
  by_cases h1 : i < r
  · exact (h.wtop hA hm h1 x).mono (by omega)
  · have q := h.i4 i x hi
    rw [if_neg h1] at q
    have e : E i x = d * A i x - rs r fun k => A i (c k) * E k x := by grind
    rw [e]
    have b1 : Wb (n + ((n + 4) * r + 6) + 4) (d * A i x) := ((h.wd hA hm).mul (hA i x hi)).mono (by omega)
    have b2 : Wb (n + ((n + 4) * r + 6) + 4) (rs r fun k => A i (c k) * E k x) := Wb.rs (by omega) fun k hk => (hA i _ hi).mul (h.wtop hA hm hk x)
    exact (b1.sub b2).mono (by omega)
end
/-- an elimination whose first numbers were small -/
def SB (n m : Nat) (R : List (List Int)) (r col : Nat) (d : Int) : Prop := ∃ A c, Bar m A (at2 R) r col (d : Rat) c ∧ ∀ i x, i < m → Wb n (A i x)
theorem SB.start {n m : Nat} {R : List (List Int)} (hb : BdR n R) : SB n m R 0 0 1 :=
  ⟨at2 R, id, by
    have := Bar.start (m := m) (A := at2 R) fun i j => ⟨_, rfl⟩
    simpa using this, fun i x _ => ⟨ent R i x, rfl, hb i x⟩⟩
theorem SB.skip {n m : Nat} {R : List (List Int)} {r col : Nat} {d : Int} (h : SB n m R r col d) (hz : ∀ i, r ≤ i → i < m → ent R i col = 0) : SB n m R r (col + 1) d := by
  obtain ⟨A, c, B, q⟩ := h
  exact ⟨A, c, B.skip fun i h1 h2 => by unfold at2; rw [hz i h1 h2]; simp, q⟩
theorem SB.swap {n m w : Nat} {A0 : Mat} {R : List (List Int)} {r col : Nat} {d sg : Int} (h : SB n m R r col d) (s : SI m w A0 R r col d sg) {p : Nat} (hp : r < p) (hm : p < m) : SB n m (swRows R p r) r col d := by
  obtain ⟨A, c, B, q⟩ := h
  have hl := s.len
  refine ⟨_, c, (B.swap (by omega) hm).congr fun i hi => ?_, fun i x hi => q _ x (sw_m hm (by omega) hi)⟩
  funext x
  rw [at2_sw (by omega) (by omega)]
theorem SB.clear {n m w : Nat} {A0 : Mat} {R : List (List Int)} {r col : Nat} {d sg : Int} (h : SB n m R r col d) (s : SI m w A0 R r col d sg) (hr : r < m) (hc : col < w) (he : ent R r col ≠ 0) : SB n m (clrRows R r col d) (r + 1) (col + 1) (ent R r col) := by
  obtain ⟨A, c, B, q⟩ := h
  have heq : at2 R r col ≠ 0 := fun z => he (Rat.intCast_inj.mp (by unfold at2 at z; simpa using z))
  refine ⟨A, _, (B.clear hr heq).congr fun i hi => ?_, q⟩
  funext x
  rw [at2_clr s hr hc he hi x]
  unfold clr
  by_cases e : i = r
  · rw [if_pos e, if_pos e, e]
  · rw [if_neg e, if_neg e]
theorem SB.bd {n m w : Nat} {A0 : Mat} {R : List (List Int)} {r col : Nat} {d sg : Int} (h : SB n m R r col d) (s : SI m w A0 R r col d sg) (hm : m ≤ 15) : BdR ((n + 4) * (m + 1) + 7) R ∧ B ((n + 4) * (m + 1) + 7) d := by
  obtain ⟨A, c, B, q⟩ := h
  refine ⟨fun i x => ?_, ?_⟩
  · by_cases hi : i < m
    · obtain ⟨z, e, b⟩ := B.wall q hm hi x
      have : ent R i x = z := Rat.intCast_inj.mp e
      rw [this]; exact b
    · unfold ent
      rw [List.getD_eq_getElem?_getD (l := R), List.getElem?_eq_none (by rw [s.len]; omega)]
      exact Nat.two_pow_pos _
  · obtain ⟨z, e, b⟩ := B.wd q hm
    have : d = z := Rat.intCast_inj.mp e
    have mono := Nat.mul_le_mul_left (n + 4) B.rm
    rw [this]; exact b.mono (by rw [Nat.mul_succ]; omega)
end Mq

set_option Elab.async false
set_option linter.all false
set_option maxRecDepth 100000
set_option maxHeartbeats 4000000
namespace Shp
open PySem L2
/-! the same for more rows -/
abbrev bq (n m : Nat) : Nat := (n + 4) * (m + 1) + 7
theorem bq_mono (n : Nat) {i j : Nat} (h : i ≤ j) : bq n i ≤ bq n j := by
  exact Nat.add_le_add_right (Nat.mul_le_mul_left (n + 4) (show i + 1 ≤ j + 1 by omega)) 7
def spElimQ (K : PySem.W.Frag) : Sp := fun vs H Q _ => ∃ (l D : Addr) (zs : List V) (R : List (List Int)) (m w n : Nat) (Pr : List (List Int) → Prop), vs = [.ref l, .int (m : Int)] ∧ SqL K H l zs ∧ Imx D H zs R ∧ R.length = m ∧ (∀ i, i < m → (R.getD i []).length = w) ∧ m ≤ w ∧ w ≤ 100 ∧ Mq.BdR n R ∧ 1 ≤ n ∧ bq n m ≤ 9000 ∧ m ≤ 15 ∧ Pr R ∧ Stp m w (Mq.at2 R) Pr ∧
  ∀ d l' zs' R' rank pivot sign H', Same H H' → H d = none → H l' = none → H' d = some (elimD l' rank pivot sign) → H' l' = some (.lst zs') → Imx l' H' zs' R' → Mq.SI m w (Mq.at2 R) R' rank m pivot sign → Mq.BdR (bq n m) R' → Mq.B (bq n m) pivot → Pr R' → Q (.ref d) H'
abbrev MxQ (X : List (List Mq.Q2)) : Prop := Mq.AllPos X ∧ (∀ row ∈ X, (∀ p ∈ row, Mq.Bd 32 p) ∧ row.length = X.length) ∧ X.length ≤ 11
abbrev RtQ (X : List (List Mq.Q2)) (qs : List Mq.Q2) : Prop := qs.length = X.length ∧ Mq.AllLow qs ∧ ∀ p ∈ qs, Mq.Bd 32 p
def spUnitQ (K : PySem.W.Frag) : Sp := fun vs H Q _ => ∃ (g D : Addr) (us : List V) (X : List (List Mq.Q2)), vs = [.ref g] ∧ SqL K H g us ∧ Fmx K D H us X ∧ MxQ X ∧
  ∀ l zs H', Same H H' → H l = none → H' l = some (.lst zs) → Imx l H' zs (unitR X) → Q (.ref l) H'
def spLameMQ (K : PySem.W.Frag) : Sp := fun vs H Q _ => ∃ (g D : Addr) (us : List V) (X : List (List Mq.Q2)), vs = [.ref g] ∧ SqL K H g us ∧ Fmx K D H us X ∧ MxQ X ∧ wgt X = 0 ∧ 1 ≤ X.length ∧
  ∀ l zs ps H', Same H H' → H l = none → H' l = some (.lst zs) → Fqs K H' zs ps → Null X ps → Q (.ref l) H'
def spMultQ (K : PySem.W.Frag) (C : Addr) : Sp := fun vs H Q E => ∃ (g D : Addr) (us : List V) (X : List (List Mq.Q2)), vs = [.ref g] ∧ SqL K H g us ∧ Fmx K D H us X ∧ MxQ X ∧
  (∀ l zs Y H', Same H H' → wgt X ≠ 0 → H l = none → H' l = some (.lst zs) → Fmd K H l H' zs Y → Inve X Y → Q (.ref l) H') ∧
  ∀ dx l zs ps H', Same H H' → wgt X = 0 → H' dx = some (.xd [("multiples", .ref l)]) → H l = none → H' l = some (.lst zs) → Fqs K H' zs ps → Null X ps → E (.ref C) (some dx) H'
def spSolvedQ (K : PySem.W.Frag) (C : Addr) : Sp := fun vs H Q E => ∃ (g b D : Addr) (H0 : Hp) (us bs : List V) (X : List (List Mq.Q2)) (qs : List Mq.Q2), vs = [.ref g, .ref b] ∧ SqL K H g us ∧ Fmd K H0 D H us X ∧ SqL K H b bs ∧ Fqs K H bs qs ∧ RtQ X qs ∧ MxQ X ∧
  (∀ l zs ps H', Same H H' → wgt X ≠ 0 → H l = none → H' l = some (.lst zs) → Fqs K H' zs ps → Slv X qs ps → Q (.ref l) H') ∧
  ∀ dx l zs ps H', Same H H' → wgt X = 0 → H' dx = some (.xd [("multiples", .ref l)]) → H l = none → H' l = some (.lst zs) → Fqs K H' zs ps → Null X ps → E (.ref C) (some dx) H'
def spWeightQ (K : PySem.W.Frag) : Sp := fun vs H Q _ => ∃ (g D : Addr) (us : List V) (X : List (List Mq.Q2)), vs = [.ref g] ∧ SqL K H g us ∧ Fmx K D H us X ∧ MxQ X ∧
  ∀ a p H', Same H H' → Fq K H' a p → Mq.Low p → Mq.Bd 9001 p → Mq.val p = wgt X → Q (.ref a) H'
end Shp

set_option Elab.async false
set_option linter.all false
set_option maxRecDepth 100000
set_option maxHeartbeats 4000000
namespace L2
open PySem PyProof.Rows
end L2

set_option Elab.async false
set_option linter.all false
set_option maxRecDepth 100000
set_option maxHeartbeats 2000000
namespace L2
open PySem PySem.Spec PyProof.Rows
/-! ### C(e, ..) that may raise -/
section
variable {X : Cx} {k : Nat} {f C : Addr} {fd : FuncData} {ps : List Str} {sp : Sp} {dvs : List V} {ds : List Value} {x : Str} {p pos : Pos} {e : Expr} {es : List Expr} {t : TA}
def xMake (C : Addr) (sp : Sp) (dvs : List V) (t : TA) : TEX := fun σ H Q E => t σ H fun vs H1 => ∀ x dx, H1 x = none → H1 dx = none → dx ≠ x →
  sp (.ref x :: (vs ++ dvs)) (upd (upd H1 dx (.own x)) x (.ins C dx [])) (fun v H2 => v = .non ∧ Q (.ref x) H2) E
end
/-- a weaker promise -/
theorem FnOk.weak {P : Program} {w : World} {K : PySem.W.Frag} {mg : Str → Option Value} {base : Heap} {CX : CXT} {k : Nat} {f : Addr} {fd : FuncData} {ps : List Str} {sp sp' : Sp} (F : FnOk P w K mg base CX k f fd ps sp) (h : ∀ vs H Q E, sp' vs H Q E → sp vs H Q E) : FnOk P w K mg base CX k f fd ps sp' :=
  ⟨fun vs H Q E q => F.len vs H Q E (h _ _ _ _ q), fun A outer s H args us vs Q E hr he hb hv hs => F.run A outer s H args us vs Q E hr he hb hv (h _ _ _ _ hs)⟩
/-! ### nets, with their refusals -/
abbrev PtOk (m i j : Int) : Prop := 0 ≤ i ∧ i < m ∧ 0 ≤ j ∧ j < m
/-- no number of points -/
def BadM (K : PySem.W.Frag) (H : Hp) (v : V) : Prop := (∃ m : Int, v = .int m ∧ (m < 1 ∨ 20 < m)) ∨ ∃ t, TyOf K H v t ∧ NotWhole t
def spIsF2 (K : PySem.W.Frag) : Sp := fun vs H Q _ => ∃ (a : Addr) (p : Mq.Q2), vs = [.ref a] ∧ Fq K H a p ∧ ((Mq.Low p ∧ Q (.bl true) H) ∨ (1 ≤ p.2 ∧ Mq.gc p.1 p.2 ≠ 1 ∧ Q (.bl false) H))
def spNBB : Sp := fun vs H Q _ => ∃ i b : Int, vs = [.int i, .int b] ∧ Q (.bl (decide (0 ≤ i ∧ i < b))) H
def spRSX (K : PySem.W.Frag) (CZ : Addr) : Sp := fun vs H Q E => ∃ (k : Kd) (z : Addr) (p : Mq.Q2), vs = [.str k.wd, .ref z] ∧ Fq K H z p ∧ ((Mq.Low p ∧ (k = .pc → 0 < p.1) ∧ Mq.Bd 100 p ∧ Q .non H) ∨ (1 ≤ p.2 ∧ Mq.gc p.1 p.2 ≠ 1 ∧ E (.ref CZ) none H))
def spRPX (K : PySem.W.Frag) (CP : Addr) : Sp := fun vs H Q E => ∃ (l : Addr) (i j m : Int), vs = [.ref l, .int m] ∧ SqL K H l [.int i, .int j] ∧ ((PtOk m i j ∧ ∀ H', Same H H' → Q .non H') ∨ (¬ PtOk m i j ∧ ∀ H', Same H H' → E (.ref CP) none H'))
def spNInitX (CN : Addr) (K : PySem.W.Frag) (CP : Addr) : Sp := fun vs H Q E => ∃ (n dx : Addr) (v : V), vs = [.ref n, v] ∧ H n = some (.ins CN dx []) ∧ ((∃ m : Int, v = .int m ∧ 1 ≤ m ∧ m ≤ 20 ∧ ∀ l H', H l = none → (∀ b o, H b = some o → b ≠ n → H' b = some o) → H' n = some (.ins CN dx (nflds m l)) → H' l = some (.lst []) → Q .non H') ∨ (BadM K H v ∧ E (.ref CP) none H))
def spAddX (CN : Addr) (K : PySem.W.Frag) (CK : Kd → Addr) (CP CZ CT : Addr) : Sp := fun vs H Q E => ∃ (n l x z : Addr) (m : Int) (ds : List RD) (k : Kd) (i j : Int) (p : Mq.Q2), vs = [.ref n, .ref x] ∧ NetAt CN K H n l m ds ∧ Rw CK H x k (.int i) (.int j) (.ref z) ∧ Fq K H z p ∧
  ((RdOk m (k, i, j, p) ∧ ds.length < 40 ∧ ∀ H', SameX l H H' → NetAt CN K H' n l m (ds ++ [(k, i, j, p)]) → Q (.int ds.length) H') ∨
   (¬ PtOk m i j ∧ ∀ H', Same H H' → E (.ref CP) none H') ∨
   (PtOk m i j ∧ 1 ≤ p.2 ∧ Mq.gc p.1 p.2 ≠ 1 ∧ ∀ H', Same H H' → E (.ref CZ) none H') ∨
   (RdOk m (k, i, j, p) ∧ 40 ≤ ds.length ∧ ∀ H', Same H H' → E (.ref CT) none H'))
end L2

set_option Elab.async false
set_option linter.all false
set_option maxRecDepth 100000
set_option maxHeartbeats 2000000
namespace L2
open PySem PySem.Spec PyProof.Rows
/-! ### nets, whatever they are handed -/
/-- a number below m, or none -/
inductive Pn (K : PySem.W.Frag) (H : Hp) (m : Int) : V → Option Int → Prop where
  | ok {i : Int} (h0 : 0 ≤ i) (h1 : i < m) : Pn K H m (.int i) (some i)
  | no {i : Int} (h : ¬ (0 ≤ i ∧ i < m)) : Pn K H m (.int i) none
  | ty {v : V} {t : Value} (h : TyOf K H v t) (n : NotWhole t) : Pn K H m v none
/-- a fraction, or none -/
inductive Zv (K : PySem.W.Frag) (H : Hp) : V → Option Mq.Q2 → Prop where
  | fr {u : Addr} {p : Mq.Q2} (h : Fq K H u p) (l : Mq.Low p) : Zv K H (.ref u) (some p)
  | ty {v : V} {t : Value} (h : TyQ K H v t) (n : PySem.W.kitOne K t (.type "tuple") = some false) : Zv K H v none
  | len {u : Addr} {x y z : V} (h : SqT K H u [x, y, z]) : Zv K H (.ref u) none
  | n0 {u : Addr} {x y : V} {t : Value} (h : SqT K H u [x, y]) (ty : TyOf K H x t) (n : NotWhole t) : Zv K H (.ref u) none
  | n1 {u : Addr} {i : Int} {y : V} {t : Value} (h : SqT K H u [.int i, y]) (ty : TyOf K H y t) (n : NotWhole t) : Zv K H (.ref u) none
  | fb {u : Addr} {p : Mq.Q2} (h : Fq K H u p) (c : p.2 < 1 ∨ (1 ≤ p.2 ∧ Mq.gc p.1 p.2 ≠ 1)) : Zv K H (.ref u) none
/-- is it a size for a row of this kind? -/
def okz (k : Kd) (o : Option Mq.Q2) : Bool := match o with
  | none => false
  | some p => match k with
    | .pc => decide (0 < p.1)
    | _ => true
abbrev Bz (o : Option Mq.Q2) : Prop := ∀ p, o = some p → Mq.Bd 100 p
def spNBV (K : PySem.W.Frag) : Sp := fun vs H Q _ => ∃ (v : V) (b : Int) (o : Option Int), vs = [v, .int b] ∧ Pn K H b v o ∧ Q (.bl o.isSome) H
def spRPV (K : PySem.W.Frag) (CP : Addr) : Sp := fun vs H Q E => ∃ (l : Addr) (s g : V) (m : Int) (o1 o2 : Option Int), vs = [.ref l, .int m] ∧ SqL K H l [s, g] ∧ Pn K H m s o1 ∧ Pn K H m g o2 ∧ ((o1.isSome && o2.isSome) = true → ∀ H', Same H H' → Q .non H') ∧ ((o1.isSome && o2.isSome) = false → ∀ H', Same H H' → E (.ref CP) none H')
def spRNV (K : PySem.W.Frag) (CR : Addr) : Sp := fun vs H Q E => ∃ (v : V) (c : Int) (o : Option Int), vs = [v, .int c] ∧ Pn K H c v o ∧ (o.isSome = true → Q .non H) ∧ (o.isSome = false → E (.ref CR) none H)
def spIsFV (K : PySem.W.Frag) : Sp := fun vs H Q _ => ∃ (v : V) (o : Option Mq.Q2), vs = [v] ∧ Zv K H v o ∧ Q (.bl o.isSome) H
def spPSV (K : PySem.W.Frag) : Sp := fun vs H Q _ => ∃ (v : V) (o : Option Mq.Q2), vs = [v] ∧ Zv K H v o ∧ Bz o ∧ Q (.bl (okz .pc o)) H
def spRSV (K : PySem.W.Frag) (CZ : Addr) : Sp := fun vs H Q E => ∃ (k : Kd) (v : V) (o : Option Mq.Q2), vs = [.str k.wd, v] ∧ Zv K H v o ∧ Bz o ∧ (okz k o = true → Q .non H) ∧ (okz k o = false → E (.ref CZ) none H)
def spAddV (CN : Addr) (K : PySem.W.Frag) (CK : Kd → Addr) (CP CZ : Addr) : Sp := fun vs H Q E => ∃ (n l x : Addr) (m : Int) (ds : List RD) (k : Kd) (s g z : V) (o1 o2 : Option Int) (oz : Option Mq.Q2), vs = [.ref n, .ref x] ∧ NetAt CN K H n l m ds ∧ Rw CK H x k s g z ∧ Pn K H m s o1 ∧ Pn K H m g o2 ∧ Zv K H z oz ∧ Bz oz ∧ ds.length < 40 ∧
  ((o1.isSome && o2.isSome) = false → ∀ H', Same H H' → E (.ref CP) none H') ∧
  ((o1.isSome && o2.isSome) = true → okz k oz = false → ∀ H', Same H H' → E (.ref CZ) none H') ∧
  ∀ i j p, o1 = some i → o2 = some j → oz = some p → okz k oz = true → ∀ H', SameX l H H' → NetAt CN K H' n l m (ds ++ [(k, i, j, p)]) → Q (.int ds.length) H'
def spChangeV (CN : Addr) (K : PySem.W.Frag) (CR CZ : Addr) : Sp := fun vs H Q E => ∃ (n l : Addr) (m : Int) (ds : List RD) (v z : V) (o : Option Int) (oz : Option Mq.Q2), vs = [.ref n, v, z] ∧ NetAt CN K H n l m ds ∧ Pn K H ds.length v o ∧ Zv K H z oz ∧ Bz oz ∧
  (o = none → E (.ref CR) none H) ∧
  ∀ q d, o = some q → ds[q.toNat]? = some d → (okz d.1 oz = false → E (.ref CZ) none H) ∧
    ∀ p, oz = some p → okz d.1 oz = true → ∀ H', SameX l H H' → NetAt CN K H' n l m (ds.set q.toNat (d.1, d.2.1, d.2.2.1, p)) → Q .non H'
/-- row objects with their data -/
inductive Robs (CK : Kd → Addr) (K : PySem.W.Frag) (H : Hp) : List V → List RD → Prop where
  | nil : Robs CK K H [] []
  | cons {x z : Addr} {k : Kd} {i j : Int} {p : Mq.Q2} {xs : List V} {ds : List RD} (h : Rw CK H x k (.int i) (.int j) (.ref z)) (f : Fq K H z p) (q : Robs CK K H xs ds) : Robs CK K H (.ref x :: xs) ((k, i, j, p) :: ds)
section
variable {CK : Kd → Addr} {K : PySem.W.Frag} {H H' : Hp}
theorem Robs.same (e : Same H H') : ∀ {xs : List V} {ds : List RD}, Robs CK K H xs ds → Robs CK K H' xs ds
  | _, _, .nil => .nil
  | _, _, .cons h f q => .cons (h.same e) (e.fq f) (Robs.same e q)
theorem Robs.length : ∀ {xs : List V} {ds : List RD}, Robs CK K H xs ds → xs.length = ds.length
  | _, _, .nil => rfl
  | _, _, .cons _ _ q => by simp [Robs.length q]
theorem Robs.app : ∀ {xs ys : List V} {ds es : List RD}, Robs CK K H xs ds → Robs CK K H ys es → Robs CK K H (xs ++ ys) (ds ++ es)
  | _, _, _, _, .nil, r => r
  | _, _, _, _, .cons h f q, r => .cons h f (Robs.app q r)
theorem Robs.at : ∀ {xs : List V} {ds : List RD} {q : Nat} {d : RD}, Robs CK K H xs ds → ds[q]? = some d → ∃ x z, xs[q]? = some (.ref x) ∧ Rw CK H x d.1 (.int d.2.1) (.int d.2.2.1) (.ref z) ∧ Fq K H z d.2.2.2
  | _, _, _, _, .nil, h => by simp at h
  | _, _, 0, _, .cons h f _, e => by simp at e; subst e; exact ⟨_, _, rfl, h, f⟩
  | _, _, i + 1, _, .cons _ _ q, e => by simpa using Robs.at q (by simpa using e)
theorem Robs.upd {l : Addr} {ys : List V} {o : HO} (hl : H l = some (.lst ys)) : ∀ {xs : List V} {ds : List RD}, Robs CK K H xs ds → Robs CK K (L2.upd H l o) xs ds
  | _, _, .nil => .nil
  | _, _, .cons (h := h) f q => by
    obtain ⟨dx, e⟩ := h
    exact .cons ⟨dx, by rw [upd_ne (ne_of e hl (fun z => by cases z))]; exact e⟩ (f.upd hl) (Robs.upd hl q)
end
def spRows (CN : Addr) (K : PySem.W.Frag) (CK : Kd → Addr) : Sp := fun vs H Q _ => ∃ (n l : Addr) (m : Int) (ds : List RD), vs = [.ref n] ∧ NetAt CN K H n l m ds ∧ ds.length ≤ 100 ∧ ∀ a xs H', Same H H' → H a = none → H' a = some (.lst xs) → Robs CK K H' xs ds → Q (.ref a) H'
end L2

set_option Elab.async false
set_option linter.all false
set_option maxHeartbeats 1000000
namespace Mq
/-- fractions of so many bits, each with its own; the sum of the bits, and one for each -/
inductive Wt : List Q2 → Nat → Prop where
  | nil : Wt [] 0
  | cons {p : Q2} {ps : List Q2} {n w : Nat} (h : Bd n p) (q : Wt ps w) : Wt (p :: ps) (n + 1 + w)
end Mq
namespace L2
open PySem PySem.Spec PyProof.Rows
abbrev RE := RD × Mq.Q2
def flF (hp : List Mq.Q2) (d : RD) : Mq.Q2 := Mq.minus (hp.getD d.2.1.toNat (0, 1)) (hp.getD d.2.2.1.toNat (0, 1))
def gW (e : RE) : Mq.Q2 := Mq.times e.1.2.2.2 (Mq.times e.2 e.2)
def gH (e : RE) : Mq.Q2 := Mq.times e.1.2.2.2 e.2
def gS (hp : List Mq.Q2) (d : RD) : Mq.Q2 := Mq.over (Mq.times (flF hp d) (flF hp d)) d.2.2.2
def gP (hp : List Mq.Q2) (d : RD) : Mq.Q2 := Mq.times d.2.2.2 (flF hp d)
def offF (hp : List Mq.Q2) (e : RE) : Mq.Q2 := Mq.minus e.2 (Mq.over (flF hp e.1) e.1.2.2.2)
def gG (hp : List Mq.Q2) (e : RE) : Mq.Q2 := Mq.times e.1.2.2.2 (Mq.times (offF hp e) (offF hp e))
def selE (k : Kd) (l : List RE) : List RE := l.filter fun e => decide (e.1.1 = k)
def selD (k : Kd) (l : List RD) : List RD := l.filter fun d => decide (d.1 = k)
def wasteF (l : List RE) : Mq.Q2 := Mq.tot ((selE .pc l).map gW)
def heldF (l : List RE) : Mq.Q2 := Mq.tot ((selE .ho l).map gH)
def priceF (l : List RE) : Mq.Q2 := Mq.plus (wasteF l) (Mq.times (2, 1) (heldF l))
def gapF (hp : List Mq.Q2) (l : List RE) : Mq.Q2 := Mq.tot ((selE .pc l).map (gG hp))
def pushF (hp : List Mq.Q2) (ds : List RD) : Mq.Q2 := Mq.minus (0, 1) (Mq.tot ((selD .pu ds).map (gP hp)))
def strainF (hp : List Mq.Q2) (ds : List RD) : Mq.Q2 := Mq.minus (Mq.tot ((selD .pc ds).map (gS hp))) (Mq.times (2, 1) (pushF hp ds))
theorem selD_snoc (k : Kd) (l : List RD) (e : RD) : selD k (l ++ [e]) = if e.1 = k then selD k l ++ [e] else selD k l := by
  unfold selD
  rw [List.filter_append]
  by_cases h : e.1 = k
  · rw [if_pos h]; simp [h]
  · rw [if_neg h]; simp [h]
/-- tuples of a row and a number -/
inductive Rss (CK : Kd → Addr) (K : PySem.W.Frag) (H : Hp) : List V → List RE → Prop where
  | nil : Rss CK K H [] []
  | cons {t x z s : Addr} {k : Kd} {i j : Int} {p q : Mq.Q2} {xs : List V} {es : List RE} (ht : SqT K H t [.ref x, .ref s]) (h : Rw CK H x k (.int i) (.int j) (.ref z)) (f : Fq K H z p) (fs : Fq K H s q) (r : Rss CK K H xs es) : Rss CK K H (.ref t :: xs) (((k, i, j, p), q) :: es)
section
variable {CK : Kd → Addr} {K : PySem.W.Frag} {H H' : Hp}
end
structure StA (K : PySem.W.Frag) (H : Hp) (b : Addr) (ys : List V) (ss : List Mq.Q2) (n : Nat) : Prop where
  s : SqL K H b ys
  f : Fqs K H ys ss
  l : ss.length = n
  b : ∀ s ∈ ss, Mq.Low s ∧ Mq.Bd 100 s
def spTotW (K : PySem.W.Frag) : Sp := fun vs H Q _ => ∃ (a : Addr) (xs : List V) (ps : List Mq.Q2) (w : Nat), vs = [.ref a] ∧ SqL K H a xs ∧ Fqs K H xs ps ∧ Mq.Pos ps ∧ Mq.Wt ps w ∧ w + 1 ≤ 9000 ∧ ∀ r H', Same H H' → Fq K H' r (Mq.tot ps) → Q (.ref r) H'
def spTwice (K : PySem.W.Frag) : Sp := fun vs H Q _ => ∃ (a : Addr) (p : Mq.Q2) (n : Nat), vs = [.ref a] ∧ Fq K H a p ∧ 1 ≤ p.2 ∧ Mq.Bd n p ∧ n + 10 ≤ 9000 ∧ NewF H Q (Mq.times (2, 1) p)
def spDiv1 (K : PySem.W.Frag) : Sp := fun vs H Q _ => ∃ (a b : Addr) (p q : Mq.Q2) (n m : Nat), vs = [.ref a, .ref b] ∧ Fq K H a p ∧ Fq K H b q ∧ 1 ≤ p.2 ∧ 1 ≤ q.2 ∧ 0 < q.1 ∧ Mq.Bd n p ∧ Mq.Bd m q ∧ n + m + 1 ≤ 9000 ∧ NewF H Q (Mq.over p q)
def spFallW (K : PySem.W.Frag) (CK : Kd → Addr) : Sp := fun vs H Q _ => ∃ (x a : Addr) (d : RD) (z : V) (xs : List V) (hp : List Mq.Q2) (n : Nat), vs = [.ref x, .ref a] ∧ Rw CK H x d.1 (.int d.2.1) (.int d.2.2.1) z ∧ StA K H a xs hp n ∧ PtOk (n : Int) d.2.1 d.2.2.1 ∧ NewF H Q (flF hp d)
def spRowsOfW (CN : Addr) (K : PySem.W.Frag) (CK : Kd → Addr) : Sp := fun vs H Q _ => ∃ (n l : Addr) (m : Int) (ds : List RD) (k : Kd), vs = [.ref n, .str k.wd] ∧ NetAt CN K H n l m ds ∧ ds.length ≤ 100 ∧ ∀ a xs H', Same H H' → H' a = some (.lst xs) → Robs CK K H' xs (selD k ds) → Q (.ref a) H'
def spWithS (CN : Addr) (K : PySem.W.Frag) (CK : Kd → Addr) : Sp := fun vs H Q _ => ∃ (n l b : Addr) (m : Int) (ds : List RD) (k : Kd) (ys : List V) (ss : List Mq.Q2), vs = [.ref n, .str k.wd, .ref b] ∧ NetAt CN K H n l m ds ∧ ds.length ≤ 100 ∧ StA K H b ys ss ds.length ∧ ∀ a zs H', Same H H' → H' a = some (.lst zs) → Rss CK K H' zs (selE k (ds.zip ss)) → Q (.ref a) H'
def spSumS (CN : Addr) (K : PySem.W.Frag) (k : Kd) (g : RE → Mq.Q2) : Sp := fun vs H Q _ => ∃ (n l b : Addr) (m : Nat) (ds : List RD) (ys : List V) (ss : List Mq.Q2) (w : Nat), vs = [.ref n, .ref b] ∧ NetAt CN K H n l (m : Int) ds ∧ ds.length ≤ 100 ∧ (∀ d ∈ ds, RdOk (m : Int) d) ∧ StA K H b ys ss ds.length ∧ Mq.Wt ((selE k (ds.zip ss)).map g) w ∧ w ≤ 8990 ∧ ∀ r H', Same H H' → Fq K H' r (Mq.tot ((selE k (ds.zip ss)).map g)) → Q (.ref r) H'
def spPriceW (CN : Addr) (K : PySem.W.Frag) : Sp := fun vs H Q _ => ∃ (n l b : Addr) (m : Nat) (ds : List RD) (ys : List V) (ss : List Mq.Q2) (w1 w2 : Nat), vs = [.ref n, .ref b] ∧ NetAt CN K H n l (m : Int) ds ∧ ds.length ≤ 100 ∧ (∀ d ∈ ds, RdOk (m : Int) d) ∧ StA K H b ys ss ds.length ∧ Mq.Wt ((selE .pc (ds.zip ss)).map gW) w1 ∧ Mq.Wt ((selE .ho (ds.zip ss)).map gH) w2 ∧ w1 + w2 ≤ 8900 ∧ NewF H Q (priceF (ds.zip ss))
def spPushT (CN : Addr) (K : PySem.W.Frag) : Sp := fun vs H Q _ => ∃ (n l a : Addr) (m : Nat) (ds : List RD) (xs : List V) (hp : List Mq.Q2) (w : Nat), vs = [.ref n, .ref a] ∧ NetAt CN K H n l (m : Int) ds ∧ ds.length ≤ 100 ∧ (∀ d ∈ ds, RdOk (m : Int) d) ∧ StA K H a xs hp m ∧ Mq.Wt ((selD .pu ds).map (gP hp)) w ∧ w ≤ 8900 ∧ NewF H Q (pushF hp ds)
def spStrain (CN : Addr) (K : PySem.W.Frag) : Sp := fun vs H Q _ => ∃ (n l a : Addr) (m : Nat) (ds : List RD) (xs : List V) (hp : List Mq.Q2) (w1 w2 : Nat), vs = [.ref n, .ref a] ∧ NetAt CN K H n l (m : Int) ds ∧ ds.length ≤ 100 ∧ (∀ d ∈ ds, RdOk (m : Int) d) ∧ StA K H a xs hp m ∧ Mq.Wt ((selD .pc ds).map (gS hp)) w1 ∧ Mq.Wt ((selD .pu ds).map (gP hp)) w2 ∧ w1 + w2 ≤ 8900 ∧ NewF H Q (strainF hp ds)
def spGapW (CN : Addr) (K : PySem.W.Frag) : Sp := fun vs H Q _ => ∃ (n l b a : Addr) (m : Nat) (ds : List RD) (ys xs : List V) (ss hp : List Mq.Q2) (w : Nat), vs = [.ref n, .ref b, .ref a] ∧ NetAt CN K H n l (m : Int) ds ∧ ds.length ≤ 100 ∧ (∀ d ∈ ds, RdOk (m : Int) d) ∧ StA K H b ys ss ds.length ∧ StA K H a xs hp m ∧ Mq.Wt ((selE .pc (ds.zip ss)).map (gG hp)) w ∧ w ≤ 8990 ∧ ∀ r H', Same H H' → Fq K H' r (gapF hp (ds.zip ss)) → Q (.ref r) H'
section
variable {m n : Nat} {hp : List Mq.Q2} {d : RD} {e : RE}
theorem getQ2 {ps : List Mq.Q2} {j : Nat} (h : j < ps.length) : ps[j]? = some (ps.getD j (0, 1)) := by rw [List.getD_eq_getElem?_getD, List.getElem?_eq_getElem h]; rfl
end
end L2

set_option Elab.async false
set_option linter.all false
set_option maxHeartbeats 1000000
namespace L2
open PySem PySem.Spec PyProof.Rows
/-! matrices of lists that are changed in place -/
def rzl (ps : List Mq.Q2) (j : Nat) (a : Mq.Q2) : List Mq.Q2 := ps.set j (Mq.plus (ps.getD j (0, 1)) a)
def mget (M : List (List Mq.Q2)) (i j : Nat) : Mq.Q2 := (M.getD i []).getD j (0, 1)
def rz (M : List (List Mq.Q2)) (i j : Nat) (a : Mq.Q2) : List (List Mq.Q2) := M.set i (rzl (M.getD i []) j a)
structure MxB (M : List (List Mq.Q2)) (h w n : Nat) : Prop where
  h : M.length = h
  w : ∀ ps ∈ M, ps.length = w
  l : ∀ ps ∈ M, ∀ p ∈ ps, Mq.Low p ∧ Mq.Bd n p
theorem MxB.mono {M : List (List Mq.Q2)} {h w n n' : Nat} (b : MxB M h w n) (le : n ≤ n') : MxB M h w n' := ⟨b.h, b.w, fun ps hp p hp' => ⟨(b.l ps hp p hp').1, (b.l ps hp p hp').2.mono le⟩⟩
theorem MxB.row {M : List (List Mq.Q2)} {h w n i : Nat} (b : MxB M h w n) (hi : i < h) : M[i]? = some (M.getD i []) ∧ M.getD i [] ∈ M ∧ (M.getD i []).length = w := by
  have hi' : i < M.length := by rw [b.h]; exact hi
  have e : M.getD i [] = M[i] := by rw [List.getD_eq_getElem?_getD, List.getElem?_eq_getElem hi']; rfl
  rw [e]
  exact ⟨List.getElem?_eq_getElem hi', List.getElem_mem hi', b.w _ (List.getElem_mem hi')⟩
theorem MxB.at {M : List (List Mq.Q2)} {h w n i j : Nat} (b : MxB M h w n) (hi : i < h) (hj : j < w) : (M.getD i [])[j]? = some (mget M i j) ∧ Mq.Low (mget M i j) ∧ Mq.Bd n (mget M i j) := by
  obtain ⟨e, m, l⟩ := b.row hi
  have hj' : j < (M.getD i []).length := by rw [l]; exact hj
  have := getQ2 hj'
  exact ⟨this, b.l _ m _ (List.mem_of_getElem? this)⟩
theorem MxB.rz {M : List (List Mq.Q2)} {h w n k i j : Nat} {a : Mq.Q2} (b : MxB M h w n) (hi : i < h) (hj : j < w) (la : Mq.Low a) (ba : Mq.Bd k a) : MxB (L2.rz M i j a) h w (n + k + 1) := by
  obtain ⟨e, m, l⟩ := b.row hi
  obtain ⟨e2, l2, b2⟩ := b.at hi hj
  refine ⟨by unfold L2.rz; rw [List.length_set]; exact b.h, fun ps hp => ?_, fun ps hp p hp' => ?_⟩
  · rcases List.mem_or_eq_of_mem_set hp with z | z
    · exact b.w ps z
    · rw [z]; unfold rzl; rw [List.length_set]; exact l
  · rcases List.mem_or_eq_of_mem_set hp with z | z
    · have := b.l ps z p hp'
      exact ⟨this.1, this.2.mono (by omega)⟩
    · rw [z] at hp'
      unfold rzl at hp'
      rcases List.mem_or_eq_of_mem_set hp' with y | y
      · have := b.l _ m p y
        exact ⟨this.1, this.2.mono (by omega)⟩
      · rw [y]
        exact ⟨Mq.plus_low l2.pos la.pos, Mq.plus_bd b2 ba l2.pos la.pos⟩
theorem rz_val {M : List (List Mq.Q2)} {h w n i j : Nat} {a : Mq.Q2} (b : MxB M h w n) (hi : i < h) (hj : j < w) (la : Mq.Low a) (x y : Nat) : Mq.val (mget (L2.rz M i j a) x y) = Mq.val (mget M x y) + if i = x ∧ j = y then Mq.val a else 0 := by
  obtain ⟨e, m, l⟩ := b.row hi
  obtain ⟨e2, l2, b2⟩ := b.at hi hj
  have hl : i < M.length := by rw [b.h]; exact hi
  unfold mget L2.rz
  by_cases c : i = x
  · subst c
    have e3 : (M.set i (rzl (M.getD i []) j a)).getD i [] = rzl (M.getD i []) j a := by rw [List.getD_eq_getElem?_getD, List.getElem?_set, if_pos rfl, if_pos hl]; rfl
    rw [e3]
    unfold rzl
    by_cases d : j = y
    · subst d
      have e4 : ((M.getD i []).set j (Mq.plus ((M.getD i []).getD j (0, 1)) a)).getD j (0, 1) = Mq.plus ((M.getD i []).getD j (0, 1)) a := by rw [List.getD_eq_getElem?_getD, List.getElem?_set, if_pos rfl, if_pos (by rw [l]; exact hj)]; rfl
      rw [e4, if_pos ⟨rfl, rfl⟩]
      exact Mq.val_plus l2.pos la.pos
    · have e4 : ((M.getD i []).set j (Mq.plus ((M.getD i []).getD j (0, 1)) a)).getD y (0, 1) = (M.getD i []).getD y (0, 1) := by rw [List.getD_eq_getElem?_getD, List.getElem?_set, if_neg d, ← List.getD_eq_getElem?_getD]
      rw [e4, if_neg (fun z => d z.2), Rat.add_zero]
  · have e3 : (M.set i (rzl (M.getD i []) j a)).getD x [] = M.getD x [] := by rw [List.getD_eq_getElem?_getD, List.getElem?_set, if_neg c, ← List.getD_eq_getElem?_getD]
    rw [e3, if_neg (fun z => c z.1), Rat.add_zero]
/-- the same for one list -/
structure LnB (R : List Mq.Q2) (w n : Nat) : Prop where
  w : R.length = w
  l : ∀ p ∈ R, Mq.Low p ∧ Mq.Bd n p
theorem LnB.mono {R : List Mq.Q2} {w n n' : Nat} (b : LnB R w n) (le : n ≤ n') : LnB R w n' := ⟨b.w, fun p hp => ⟨(b.l p hp).1, (b.l p hp).2.mono le⟩⟩
theorem LnB.at {R : List Mq.Q2} {w n j : Nat} (b : LnB R w n) (hj : j < w) : R[j]? = some (R.getD j (0, 1)) ∧ Mq.Low (R.getD j (0, 1)) ∧ Mq.Bd n (R.getD j (0, 1)) := by
  have hj' : j < R.length := by rw [b.w]; exact hj
  have := getQ2 hj'
  exact ⟨this, b.l _ (List.mem_of_getElem? this)⟩
theorem LnB.set {R : List Mq.Q2} {w n j : Nat} {q : Mq.Q2} (b : LnB R w n) (lq : Mq.Low q) (bq : Mq.Bd n q) : LnB (R.set j q) w n := ⟨by rw [List.length_set]; exact b.w, fun p hp => by
  rcases List.mem_or_eq_of_mem_set hp with z | z
  · exact b.l p z
  · rw [z]; exact ⟨lq, bq⟩⟩
theorem LnB.rz {R : List Mq.Q2} {w n k j : Nat} {a : Mq.Q2} (b : LnB R w n) (hj : j < w) (la : Mq.Low a) (ba : Mq.Bd k a) : LnB (rzl R j a) w (n + k + 1) := by
  obtain ⟨_, l2, b2⟩ := b.at hj
  exact (b.mono (by omega)).set (Mq.plus_low l2.pos la.pos) (Mq.plus_bd b2 ba l2.pos la.pos)
theorem getD_setQ {R : List Mq.Q2} {j y : Nat} {q : Mq.Q2} (hj : j < R.length) : (R.set j q).getD y (0, 1) = if j = y then q else R.getD y (0, 1) := by
  rw [List.getD_eq_getElem?_getD, List.getElem?_set]
  by_cases e : j = y
  · rw [if_pos e, if_pos e, if_pos (by omega)]; rfl
  · rw [if_neg e, if_neg e, ← List.getD_eq_getElem?_getD]
theorem rzl_val {R : List Mq.Q2} {w n j : Nat} {a : Mq.Q2} (b : LnB R w n) (hj : j < w) (la : Mq.Low a) (y : Nat) : Mq.val ((rzl R j a).getD y (0, 1)) = Mq.val (R.getD y (0, 1)) + if j = y then Mq.val a else 0 := by
  obtain ⟨_, l2, b2⟩ := b.at hj
  unfold rzl
  rw [getD_setQ (by rw [b.w]; exact hj)]
  by_cases d : j = y
  · subst d
    rw [if_pos rfl, if_pos rfl]
    exact Mq.val_plus l2.pos la.pos
  · rw [if_neg d, if_neg d, Rat.add_zero]
/-! on the heap -/
def SX (as : List Addr) (H H' : Hp) : Prop := ∀ b o, H b = some o → b ∉ as → H' b = some o
theorem Same.sx {as : List Addr} {H H' : Hp} (s : Same H H') : SX as H H' := fun b o e _ => s b o e
theorem SX.trans {as : List Addr} {H H1 H2 : Hp} (a : SX as H H1) (b : SX as H1 H2) : SX as H H2 := fun c o h n => b c o (a c o h n) n
theorem SX.write {as : List Addr} {H H1 : Hp} {l : Addr} {o : HO} (a : SX as H H1) (hl : l ∈ as) : SX as H (upd H1 l o) := fun c u h n => by rw [upd_ne (fun z => n (by rw [z]; exact hl))]; exact a c u h n
theorem SX.mono {as bs : List Addr} {H H' : Hp} (a : SX as H H') (h : ∀ x ∈ as, x ∈ bs) : SX bs H H' := fun c o e n => a c o e fun z => n (h c z)
theorem SX.same {as : List Addr} {H0 H H' : Hp} (s : Same H0 H) (a : SX as H H') (h : ∀ x ∈ as, H0 x = none) : Same H0 H' := fun c o e => a c o (s c o e) fun z => by rw [h c z] at e; cases e
def Lsts (as : List Addr) (H : Hp) : Prop := ∀ a ∈ as, ∃ xs, H a = some (.lst xs)
theorem SX.seqT {K : PySem.W.Frag} {as : List Addr} {H H' : Hp} (hl : Lsts as H) (e : SX as H H') {a : Addr} {xs : List V} (h : SqT K H a xs) : SqT K H' a xs := by
  have nx : ∀ {o : HO}, H a = some o → (∀ ys, o ≠ .lst ys) → a ∉ as := fun ho n z => by
    obtain ⟨ys, hy⟩ := hl a z
    rw [hy] at ho
    exact n ys (Option.some.inj ho).symm
  rcases h with (h | ⟨u, h⟩) | h
  · exact .inl (.inl (e _ _ h (nx h fun ys z => by cases z)))
  · exact .inl (.inr ⟨u, e _ _ h (nx h fun ys z => by cases z)⟩)
  · exact .inr h
theorem SX.rw {CK : Kd → Addr} {as : List Addr} {H H' : Hp} (hl : Lsts as H) (e : SX as H H') {x : Addr} {k : Kd} {s g z : V} (h : Rw CK H x k s g z) : Rw CK H' x k s g z := by
  obtain ⟨dx, q⟩ := h
  refine ⟨dx, e _ _ q fun y => ?_⟩
  obtain ⟨ys, hy⟩ := hl x y
  rw [hy] at q; cases q
theorem SX.fqs {K : PySem.W.Frag} {as : List Addr} {H H' : Hp} (hl : Lsts as H) (e : SX as H H') : ∀ {xs : List V} {ps : List Mq.Q2}, Fqs K H xs ps → Fqs K H' xs ps
  | _, _, .nil => .nil
  | _, _, .cons f q => .cons (e.seqT hl f) (SX.fqs hl e q)
structure Mx (K : PySem.W.Frag) (H : Hp) (D : Addr) (as : List Addr) (M : List (List Mq.Q2)) : Prop where
  d : H D = some (.lst (as.map V.ref))
  n : as.Nodup
  nd : D ∉ as
  la : as.length = M.length
  r : ∀ (i : Nat) (a : Addr) (ps : List Mq.Q2), as[i]? = some a → M[i]? = some ps → ∃ xs, H a = some (.lst xs) ∧ Fqs K H xs ps
theorem Mx.lsts {K : PySem.W.Frag} {H : Hp} {D : Addr} {as : List Addr} {M : List (List Mq.Q2)} (m : Mx K H D as M) : Lsts as H := fun a ha => by
  obtain ⟨i, hi⟩ := List.getElem?_of_mem ha
  have il := (List.getElem?_eq_some_iff.mp hi).1
  have il' : i < M.length := by rw [← m.la]; exact il
  obtain ⟨xs, h, _⟩ := m.r i a M[i] hi (List.getElem?_eq_getElem il')
  exact ⟨xs, h⟩
theorem Mx.same {K : PySem.W.Frag} {H H' : Hp} {D : Addr} {as : List Addr} {M : List (List Mq.Q2)} (s : Same H H') (m : Mx K H D as M) : Mx K H' D as M := ⟨s _ _ m.d, m.n, m.nd, m.la, fun i a ps h1 h2 => by
  obtain ⟨xs, h, f⟩ := m.r i a ps h1 h2
  exact ⟨xs, s _ _ h, f.same s⟩⟩
theorem Mx.other {K : PySem.W.Frag} {H : Hp} {D l : Addr} {as : List Addr} {M : List (List Mq.Q2)} {ys : List V} {o : HO} (m : Mx K H D as M) (hl : H l = some (.lst ys)) (n1 : l ≠ D) (n2 : l ∉ as) : Mx K (upd H l o) D as M := ⟨by rw [upd_ne (Ne.symm n1)]; exact m.d, m.n, m.nd, m.la, fun i a ps h1 h2 => by
  obtain ⟨xs, h, f⟩ := m.r i a ps h1 h2
  exact ⟨xs, by rw [upd_ne (fun z => n2 (by rw [← z]; exact List.mem_of_getElem? h1))]; exact h, f.upd hl⟩⟩
/-- one number of it is changed -/
theorem Mx.set {K : PySem.W.Frag} {H H1 : Hp} {D a v : Addr} {as : List Addr} {M : List (List Mq.Q2)} {i j : Nat} {ps : List Mq.Q2} {xs : List V} {q : Mq.Q2} (m : Mx K H D as M) (ha : as[i]? = some a) (hp : M[i]? = some ps) (hx : H a = some (.lst xs)) (hF : Fqs K H xs ps) (s : Same H H1) (fv : Fq K H1 v q) : Mx K (upd H1 a (.lst (xs.set j (.ref v)))) D as (M.set i (ps.set j q)) ∧ SX as H (upd H1 a (.lst (xs.set j (.ref v)))) := by
  have ma := List.mem_of_getElem? ha
  have hx1 := s _ _ hx
  have il := (List.getElem?_eq_some_iff.mp ha).1
  refine ⟨⟨?_, m.n, m.nd, by rw [List.length_set]; exact m.la, fun k b qs h1 h2 => ?_⟩, s.sx.write ma⟩
  · rw [upd_ne (fun z => m.nd (by rw [z]; exact ma))]; exact s _ _ m.d
  · rw [List.getElem?_set] at h2
    by_cases c : i = k
    · subst c
      rw [ha] at h1
      have h1 : a = b := Option.some.inj h1
      subst h1
      rw [if_pos rfl] at h2
      split at h2
      · have h2 : ps.set j q = qs := Option.some.inj h2
        rw [← h2]
        exact ⟨_, upd_same, (Fqs.set fv j (hF.same s)).upd hx1⟩
      · cases h2
    · rw [if_neg c] at h2
      obtain ⟨ys, hy, fy⟩ := m.r k b qs h1 h2
      have nb : b ≠ a := fun z => by
        subst z
        have kl := (List.getElem?_eq_some_iff.mp h1).1
        have e1 : as[i]'il = b := (List.getElem?_eq_some_iff.mp ha).2
        have e2 : as[k]'kl = b := (List.getElem?_eq_some_iff.mp h1).2
        exact c ((List.getElem_inj m.n).mp (e1.trans e2.symm))
      exact ⟨ys, by rw [upd_ne nb]; exact s _ _ hy, (fy.same s).upd hx1⟩
/-! the equations -/
def hcol (k : Kd) : Nat := if k = .ho then 1 else 0
def en (M : List (List Mq.Q2)) (d : RD) (c : Nat) (a : Mq.Q2) : List (List Mq.Q2) := rz (rz M d.2.1.toNat c a) d.2.2.1.toNat c (Mq.minus (0, 1) a)
def dl (s g x : Nat) : Rat := (if s = x then 1 else 0) - (if g = x then 1 else 0)
/-- what a row brings to the matrix, h being the next hold's column -/
def cM (d : RD) (h x y : Nat) : Rat := match d.1 with
  | .pc => dl d.2.1.toNat d.2.2.1.toNat x * dl d.2.1.toNat d.2.2.1.toNat y * (1 / Mq.val d.2.2.2)
  | .pu => 0
  | .ho => dl d.2.1.toNat d.2.2.1.toNat x * (if h = y then 1 else 0) + (if h = x then 1 else 0) * dl d.2.1.toNat d.2.2.1.toNat y
def cR (d : RD) (h x : Nat) : Rat := match d.1 with
  | .pc => 0
  | .pu => - dl d.2.1.toNat d.2.2.1.toNat x * Mq.val d.2.2.2
  | .ho => if h = x then Mq.val d.2.2.2 else 0
def eqM : Nat → List RD → Nat → Nat → Rat
  | _, [], _, _ => 0
  | h, d :: ds, x, y => cM d h x y + eqM (h + hcol d.1) ds x y
def eqR : Nat → List RD → Nat → Rat
  | _, [], _ => 0
  | h, d :: ds, x => cR d h x + eqR (h + hcol d.1) ds x
def hds' (ds : List RD) : Nat := (selD .ho ds).length
theorem hds_snoc (ds : List RD) (d : RD) : hds' (ds ++ [d]) = hds' ds + hcol d.1 := by
  unfold hds' hcol
  rw [selD_snoc]
  split
  · rw [List.length_append]; rfl
  · rfl
theorem hds_cons (d : RD) (ds : List RD) : hds' (d :: ds) = hcol d.1 + hds' ds := by
  unfold hds' hcol selD
  by_cases h : d.1 = .ho
  · rw [List.filter_cons_of_pos (by exact decide_eq_true h), if_pos h, List.length_cons]; omega
  · rw [List.filter_cons_of_neg (by simp [h]), if_neg h]; omega
theorem eqM_snoc (d : RD) (x y : Nat) : ∀ (ds : List RD) (h : Nat), eqM h (ds ++ [d]) x y = eqM h ds x y + cM d (h + hds' ds) x y
  | [], h => by show cM d h x y + 0 = 0 + cM d (h + 0) x y; rw [Nat.add_zero]; grind
  | e :: ds, h => by
    show cM e h x y + eqM (h + hcol e.1) (ds ++ [d]) x y = cM e h x y + eqM (h + hcol e.1) ds x y + _
    rw [eqM_snoc d x y ds, hds_cons, Nat.add_assoc]; grind
theorem eqR_snoc (d : RD) (x : Nat) : ∀ (ds : List RD) (h : Nat), eqR h (ds ++ [d]) x = eqR h ds x + cR d (h + hds' ds) x
  | [], h => by show cR d h x + 0 = 0 + cR d (h + 0) x; rw [Nat.add_zero]; grind
  | e :: ds, h => by
    show cR e h x + eqR (h + hcol e.1) (ds ++ [d]) x = cR e h x + eqR (h + hcol e.1) ds x + _
    rw [eqR_snoc d x ds, hds_cons, Nat.add_assoc]; grind
theorem one_low : Mq.Low (1, 1) := ⟨by decide, by decide⟩
theorem neg_ok {a : Mq.Q2} {k : Nat} (la : Mq.Low a) (ba : Mq.Bd k a) : Mq.Low (Mq.minus (0, 1) a) ∧ Mq.Bd (k + 2) (Mq.minus (0, 1) a) ∧ Mq.val (Mq.minus (0, 1) a) = - Mq.val a := by
  have h01 : 1 ≤ ((0, 1) : Mq.Q2).2 := by decide
  have b01 : Mq.Bd 1 (0, 1) := ⟨show (0 : Nat) < 2 ^ 1 by decide, show (1 : Nat) < 2 ^ 1 by decide⟩
  refine ⟨Mq.minus_low h01 la.pos, (Mq.minus_bd b01 ba h01 la.pos).mono (by omega), ?_⟩
  rw [Mq.val_minus h01 la.pos, Mq.val01]; grind
theorem en_ok {M : List (List Mq.Q2)} {h w n k c : Nat} {d : RD} {a : Mq.Q2} (b : MxB M h w n) (pt : PtOk (h : Int) d.2.1 d.2.2.1) (hc : c < w) (la : Mq.Low a) (ba : Mq.Bd k a) : MxB (en M d c a) h w (n + 2 * k + 4) ∧ ∀ x y, Mq.val (mget (en M d c a) x y) = Mq.val (mget M x y) + dl d.2.1.toNat d.2.2.1.toNat x * (if c = y then 1 else 0) * Mq.val a := by
  obtain ⟨i0, i1, j0, j1⟩ := pt
  obtain ⟨ln, bn, vn⟩ := neg_ok la ba
  have b1 := b.rz (i := d.2.1.toNat) (by omega) hc la ba
  have b2 := b1.rz (i := d.2.2.1.toNat) (by omega) hc ln bn
  refine ⟨b2.mono (by omega), fun x y => ?_⟩
  unfold en
  rw [rz_val b1 (by omega) hc ln, rz_val b (by omega) hc la, vn]
  unfold dl
  by_cases c1 : d.2.1.toNat = x <;> by_cases c2 : d.2.2.1.toNat = x <;> by_cases c3 : c = y <;> simp only [c1, c2, c3, true_and, and_true, false_and, and_false, and_self, if_true, if_false] <;> grind
def hM (M : List (List Mq.Q2)) (d : RD) (c : Nat) : List (List Mq.Q2) := rz (rz (en M d c (1, 1)) c d.2.1.toNat (1, 1)) c d.2.2.1.toNat (Mq.minus (0, 1) (1, 1))
def pM (M : List (List Mq.Q2)) (d : RD) : List (List Mq.Q2) := en (en M d d.2.1.toNat (Mq.over (1, 1) d.2.2.2)) d d.2.2.1.toNat (Mq.minus (0, 1) (Mq.over (1, 1) d.2.2.2))
def pR (rs : List Mq.Q2) (d : RD) : List Mq.Q2 := rzl (rzl rs d.2.1.toNat (Mq.minus (0, 1) d.2.2.2)) d.2.2.1.toNat d.2.2.2
theorem one_bd : Mq.Bd 1 (1, 1) := ⟨show (1 : Nat) < 2 ^ 1 by decide, show (1 : Nat) < 2 ^ 1 by decide⟩
theorem h11 : 1 ≤ ((1, 1) : Mq.Q2).2 := by decide
theorem share_ok {p : Mq.Q2} {k : Nat} (l : Mq.Low p) (h0 : 0 < p.1) (b : Mq.Bd k p) : Mq.Low (Mq.over (1, 1) p) ∧ Mq.Bd (k + 1) (Mq.over (1, 1) p) ∧ Mq.val (Mq.over (1, 1) p) = 1 / Mq.val p := by
  refine ⟨Mq.over_low h11 (by omega), (Mq.over_bd one_bd b h11 (by omega)).mono (by omega), ?_⟩
  rw [Mq.val_over h11 l.pos (by omega), Mq.val11]
theorem pM_ok {M : List (List Mq.Q2)} {w n k m h : Nat} {d : RD} (b : MxB M w w n) (pt : PtOk (m : Int) d.2.1 d.2.2.1) (hm : m ≤ w) (hk : d.1 = .pc) (l : Mq.Low d.2.2.2) (h0 : 0 < d.2.2.2.1) (bk : Mq.Bd k d.2.2.2) : MxB (pM M d) w w (n + 4 * k + 20) ∧ ∀ x y, Mq.val (mget (pM M d) x y) = Mq.val (mget M x y) + cM d h x y := by
  obtain ⟨i0, i1, j0, j1⟩ := pt
  obtain ⟨ls, bs, vs⟩ := share_ok l h0 bk
  obtain ⟨ln, bn, vn⟩ := neg_ok ls bs
  have pt' : PtOk (w : Int) d.2.1 d.2.2.1 := ⟨i0, by omega, j0, by omega⟩
  obtain ⟨b1, v1⟩ := en_ok b pt' (c := d.2.1.toNat) (by omega) ls bs
  obtain ⟨b2, v2⟩ := en_ok b1 pt' (c := d.2.2.1.toNat) (by omega) ln bn
  refine ⟨b2.mono (by omega), fun x y => ?_⟩
  unfold pM
  rw [v2, v1, vn, vs]
  unfold cM
  rw [hk]
  show _ = _ + dl d.2.1.toNat d.2.2.1.toNat x * dl d.2.1.toNat d.2.2.1.toNat y * (1 / Mq.val d.2.2.2)
  generalize 1 / Mq.val d.2.2.2 = v
  generalize dl d.2.1.toNat d.2.2.1.toNat x = u
  unfold dl
  by_cases c1 : d.2.1.toNat = y <;> by_cases c2 : d.2.2.1.toNat = y <;> simp only [c1, c2, if_true, if_false] <;> grind
theorem hM_ok {M : List (List Mq.Q2)} {w n m c : Nat} {d : RD} (b : MxB M w w n) (pt : PtOk (m : Int) d.2.1 d.2.2.1) (hm : m ≤ w) (hc : c < w) (hk : d.1 = .ho) : MxB (hM M d c) w w (n + 20) ∧ ∀ x y, Mq.val (mget (hM M d c) x y) = Mq.val (mget M x y) + cM d c x y := by
  obtain ⟨i0, i1, j0, j1⟩ := pt
  have pt' : PtOk (w : Int) d.2.1 d.2.2.1 := ⟨i0, by omega, j0, by omega⟩
  obtain ⟨ln, bn, vn⟩ := neg_ok one_low one_bd
  obtain ⟨b1, v1⟩ := en_ok b pt' hc one_low one_bd
  have b2 := b1.rz (i := c) (j := d.2.1.toNat) hc (by omega) one_low one_bd
  have b3 := b2.rz (i := c) (j := d.2.2.1.toNat) hc (by omega) ln bn
  refine ⟨b3.mono (by omega), fun x y => ?_⟩
  unfold hM
  rw [rz_val b2 hc (by omega) ln, rz_val b1 hc (by omega) one_low, v1, vn, Mq.val11]
  unfold cM
  rw [hk]
  show _ = _ + (dl d.2.1.toNat d.2.2.1.toNat x * (if c = y then 1 else 0) + (if c = x then 1 else 0) * dl d.2.1.toNat d.2.2.1.toNat y)
  generalize dl d.2.1.toNat d.2.2.1.toNat x = u
  unfold dl
  by_cases c1 : d.2.1.toNat = y <;> by_cases c2 : d.2.2.1.toNat = y <;> by_cases c3 : c = x <;> by_cases c4 : c = y <;> simp only [c1, c2, c3, c4, true_and, and_true, false_and, and_false, and_self, if_true, if_false] <;> grind
theorem pR_ok {rs : List Mq.Q2} {w n k m h : Nat} {d : RD} (b : LnB rs w n) (pt : PtOk (m : Int) d.2.1 d.2.2.1) (hm : m ≤ w) (hk : d.1 = .pu) (l : Mq.Low d.2.2.2) (bk : Mq.Bd k d.2.2.2) : LnB (pR rs d) w (n + 4 * k + 20) ∧ ∀ x, Mq.val ((pR rs d).getD x (0, 1)) = Mq.val (rs.getD x (0, 1)) + cR d h x := by
  obtain ⟨i0, i1, j0, j1⟩ := pt
  obtain ⟨ln, bn, vn⟩ := neg_ok l bk
  have b1 := b.rz (j := d.2.1.toNat) (by omega) ln bn
  have b2 := b1.rz (j := d.2.2.1.toNat) (by omega) l bk
  refine ⟨b2.mono (by omega), fun x => ?_⟩
  unfold pR
  rw [rzl_val b1 (by omega) l, rzl_val b (by omega) ln, vn]
  unfold cR
  rw [hk]
  show _ = _ + - dl d.2.1.toNat d.2.2.1.toNat x * Mq.val d.2.2.2
  unfold dl
  by_cases c1 : d.2.1.toNat = x <;> by_cases c2 : d.2.2.1.toNat = x <;> simp only [c1, c2, if_true, if_false] <;> grind
theorem eqR_fresh {m : Nat} : ∀ (ds : List RD) (h x : Nat), (∀ d ∈ ds, PtOk (m : Int) d.2.1 d.2.2.1) → m ≤ h → h + hds' ds ≤ x → eqR h ds x = 0
  | [], _, _, _, _, _ => rfl
  | d :: ds, h, x, pt, hm, hx => by
    rw [hds_cons] at hx
    have ih := eqR_fresh ds (h + hcol d.1) x (fun e he => pt e (List.mem_cons_of_mem _ he)) (by omega) (by omega)
    obtain ⟨i0, i1, j0, j1⟩ := pt d (by simp)
    show cR d h x + eqR (h + hcol d.1) ds x = 0
    rw [ih]
    have z : dl d.2.1.toNat d.2.2.1.toNat x = 0 := by unfold dl; rw [if_neg (by omega), if_neg (by omega)]; grind
    unfold cR
    cases hk : d.1 with
    | pc => show (0 : Rat) + 0 = 0; grind
    | pu => show - dl d.2.1.toNat d.2.2.1.toNat x * Mq.val d.2.2.2 + 0 = 0; rw [z]; grind
    | ho =>
      have : hcol d.1 = 1 := by unfold hcol; rw [if_pos hk]
      show (if h = x then Mq.val d.2.2.2 else 0) + 0 = 0
      rw [if_neg (by omega)]; grind
theorem hR_ok {rs : List Mq.Q2} {w n k m c : Nat} {d : RD} (b : LnB rs w n) (hc : c < w) (hk : d.1 = .ho) (l : Mq.Low d.2.2.2) (bk : Mq.Bd k d.2.2.2) (h0 : Mq.val (rs.getD c (0, 1)) = 0) : LnB (rs.set c d.2.2.2) w (n + k) ∧ ∀ x, Mq.val ((rs.set c d.2.2.2).getD x (0, 1)) = Mq.val (rs.getD x (0, 1)) + cR d c x := by
  refine ⟨(b.mono (by omega)).set l (bk.mono (by omega)), fun x => ?_⟩
  rw [getD_setQ (by rw [b.w]; exact hc)]
  unfold cR
  rw [hk]
  show _ = _ + if c = x then Mq.val d.2.2.2 else 0
  by_cases e : c = x
  · subst e; rw [if_pos rfl, if_pos rfl, h0]; grind
  · rw [if_neg e, if_neg e]; grind
def spRaise (K : PySem.W.Frag) : Sp := fun vs H Q _ => ∃ (l z : Addr) (j : Nat) (xs : List V) (ps : List Mq.Q2) (a : Mq.Q2) (n m : Nat), vs = [.ref l, .int (j : Int), .ref z] ∧ H l = some (.lst xs) ∧ Fqs K H xs ps ∧ j < ps.length ∧ 1 ≤ (ps.getD j (0, 1)).2 ∧ Mq.Bd n (ps.getD j (0, 1)) ∧ Fq K H z a ∧ 1 ≤ a.2 ∧ Mq.Bd m a ∧ n + m + 1 ≤ 9000 ∧ ∀ v H1, Same H H1 → Fq K H1 v (Mq.plus (ps.getD j (0, 1)) a) → Q .non (upd H1 l (.lst (xs.set j (.ref v))))
def spEnter (K : PySem.W.Frag) (CK : Kd → Addr) : Sp := fun vs H Q _ => ∃ (D x z : Addr) (zz : V) (as : List Addr) (M : List (List Mq.Q2)) (d : RD) (w n k c : Nat) (a : Mq.Q2), vs = [.ref D, .ref x, .int (c : Int), .ref z] ∧ Mx K H D as M ∧ MxB M w w n ∧ Rw CK H x d.1 (.int d.2.1) (.int d.2.2.1) zz ∧ PtOk (w : Int) d.2.1 d.2.2.1 ∧ c < w ∧ Fq K H z a ∧ Mq.Low a ∧ Mq.Bd k a ∧ n + 2 * k + 4 ≤ 9000 ∧ ∀ H', SX as H H' → Mx K H' D as (en M d c a) → Q .non H'
def spEnterP (K : PySem.W.Frag) (CK : Kd → Addr) : Sp := fun vs H Q _ => ∃ (D x zz : Addr) (as : List Addr) (M : List (List Mq.Q2)) (d : RD) (w n k : Nat), vs = [.ref D, .ref x] ∧ Mx K H D as M ∧ MxB M w w n ∧ Rw CK H x d.1 (.int d.2.1) (.int d.2.2.1) (.ref zz) ∧ Fq K H zz d.2.2.2 ∧ PtOk (w : Int) d.2.1 d.2.2.1 ∧ Mq.Low d.2.2.2 ∧ 0 < d.2.2.2.1 ∧ Mq.Bd k d.2.2.2 ∧ n + 4 * k + 20 ≤ 9000 ∧ ∀ H', SX as H H' → Mx K H' D as (pM M d) → Q .non H'
def spEnterU (K : PySem.W.Frag) (CK : Kd → Addr) : Sp := fun vs H Q _ => ∃ (R x zz : Addr) (ys : List V) (rs : List Mq.Q2) (d : RD) (w n k : Nat), vs = [.ref R, .ref x] ∧ H R = some (.lst ys) ∧ Fqs K H ys rs ∧ LnB rs w n ∧ Rw CK H x d.1 (.int d.2.1) (.int d.2.2.1) (.ref zz) ∧ Fq K H zz d.2.2.2 ∧ PtOk (w : Int) d.2.1 d.2.2.1 ∧ Mq.Low d.2.2.2 ∧ Mq.Bd k d.2.2.2 ∧ n + 4 * k + 20 ≤ 9000 ∧ ∀ ys' H', SX [R] H H' → H' R = some (.lst ys') → Fqs K H' ys' (pR rs d) → Q .non H'
def spEnterH (K : PySem.W.Frag) (CK : Kd → Addr) : Sp := fun vs H Q _ => ∃ (D R x zz : Addr) (as : List Addr) (M : List (List Mq.Q2)) (ys : List V) (rs : List Mq.Q2) (d : RD) (w n c : Nat), vs = [.ref D, .ref R, .ref x, .int (c : Int)] ∧ Mx K H D as M ∧ MxB M w w n ∧ H R = some (.lst ys) ∧ Fqs K H ys rs ∧ rs.length = w ∧ R ≠ D ∧ R ∉ as ∧ Rw CK H x d.1 (.int d.2.1) (.int d.2.2.1) (.ref zz) ∧ Fq K H zz d.2.2.2 ∧ PtOk (w : Int) d.2.1 d.2.2.1 ∧ c < w ∧ n + 20 ≤ 9000 ∧ ∀ ys' H', SX (R :: as) H H' → Mx K H' D as (hM M d c) → H' R = some (.lst ys') → Fqs K H' ys' (rs.set c d.2.2.2) → Q .non H'
/-- what is told: lists that are new -/
structure Fms (K : PySem.W.Frag) (H0 H : Hp) (us : List V) (X : List (List Mq.Q2)) : Prop where
  l : us.length = X.length
  r : ∀ (i : Nat) (x : V) (ps : List Mq.Q2), us[i]? = some x → X[i]? = some ps → ∃ (a : Addr) (xs : List V), x = .ref a ∧ H0 a = none ∧ H a = some (.lst xs) ∧ Fqs K H xs ps
structure EqOk (m : Nat) (ds : List RD) (N : Nat) (X : List (List Mq.Q2)) (Y : List Mq.Q2) : Prop where
  x : MxB X (m - 1 + hds' ds) (m - 1 + hds' ds) N
  y : LnB Y (m - 1 + hds' ds) N
  vx : ∀ i j, Mq.val (mget X i j) = eqM m ds (i + 1) (j + 1)
  vy : ∀ i, Mq.val (Y.getD i (0, 1)) = eqR m ds (i + 1)
def spEqs (CN : Addr) (K : PySem.W.Frag) : Sp := fun vs H Q _ => ∃ (n l : Addr) (m k : Nat) (ds : List RD), vs = [.ref n] ∧ NetAt CN K H n l (m : Int) ds ∧ (∀ d ∈ ds, RdOk (m : Int) d ∧ Mq.Bd k d.2.2.2) ∧ 1 ≤ m ∧ m ≤ 20 ∧ ds.length ≤ 40 ∧ (4 * k + 20) * ds.length + 4 * k + 30 ≤ 8900 ∧
  ∀ t p r us ys X Y H', Same H H' → H' t = some (.tup [.ref p, .ref r]) → H p = none → H r = none → H' p = some (.lst us) → H' r = some (.lst ys) → Fms K H H' us X → Fqs K H' ys Y → (∀ x ∈ us, x ≠ .ref p ∧ x ≠ .ref r) → EqOk m ds ((4 * k + 20) * ds.length + 1) X Y → Q (.ref t) H'
end L2

set_option Elab.async false
set_option linter.all false
set_option maxRecDepth 100000
set_option maxHeartbeats 4000000
set_option exponentiation.threshold 700
namespace Mq
theorem lcmS_dvd {L b T : Int} (hL : 1 ≤ L) (hb : 1 ≤ b) (h1 : L ∣ T) (h2 : b ∣ T) : lcmS L b ∣ T := by
  have gp : 0 < gc L b := gc_pos (by omega)
  have d1 : gc L b ∣ L := by unfold gc; exact Int.gcd_dvd_left ..
  obtain ⟨k, hk⟩ := d1
  have ek : Int.fdiv L (gc L b) = k := fdiv_exact (by omega) hk
  have e1 : lcmS L b * gc L b = L * b := by
    unfold lcmS
    rw [ek]
    generalize gc L b = g at *
    rw [hk]; grind
  have e2 : ((Int.lcm L b : Nat) : Int) * gc L b = L * b := by
    have h := Int.gcd_mul_lcm L b
    have h3 : ((L.natAbs * b.natAbs : Nat) : Int) = L * b := by
      rw [Int.natCast_mul, Int.natAbs_of_nonneg (by omega), Int.natAbs_of_nonneg (by omega)]
    unfold gc
    rw [← h3, ← h, Int.natCast_mul, Int.mul_comm]
  have e3 : lcmS L b = ((Int.lcm L b : Nat) : Int) := Int.eq_of_mul_eq_mul_right (by omega) (e1.trans e2.symm)
  rw [e3]
  exact Int.ofNat_dvd_left.mpr (by rw [Int.lcm]; exact Nat.lcm_dvd (Int.natAbs_dvd_natAbs.mpr h1) (Int.natAbs_dvd_natAbs.mpr h2))
theorem lcmB_into {T : Int} : ∀ {ps : List Q2}, Pos ps → (∀ p ∈ ps, p.2 ∣ T) → lcmB ps ∣ T := fun {ps} hp hd => by
  have : ∀ (l : List Q2) (L : Int), 1 ≤ L → L ∣ T → Pos l → (∀ p ∈ l, p.2 ∣ T) → l.foldl (fun L p => lcmS L p.2) L ∣ T := fun l => by
    induction l with
    | nil => intro L _ h _ _; exact h
    | cons p l ih => intro L h h' q d; exact ih _ (lcmS_parts h (q p (by simp))).1 (lcmS_dvd h (q p (by simp)) h' (d p (by simp))) (fun x hx => q x (List.mem_cons_of_mem _ hx)) fun x hx => d x (List.mem_cons_of_mem _ hx)
  exact this ps 1 (by omega) (Int.one_dvd _) hp hd
/-- a fraction whose worth is z by T -/
theorem den_of {p : Q2} {T z : Int} (l : Low p) (hT : 0 < T) (h : val p * (T : Rat) = (z : Rat)) : p.2 ∣ T ∧ p.1 * T = z * p.2 := by
  have n2 := cast_ne (show p.2 ≠ 0 by have := l.pos; omega)
  have e : p.1 * T = z * p.2 := by
    have h' : (p.1 : Rat) * (T : Rat) = (z : Rat) * (p.2 : Rat) := by
      unfold val at h
      rw [← h]; grind
    rw [← Rat.intCast_mul, ← Rat.intCast_mul] at h'
    exact Rat.intCast_inj.mp h'
  refine ⟨?_, e⟩
  have c : Int.gcd p.2 p.1 = 1 := by
    have := l.one
    unfold gc at this
    rw [Int.gcd_comm]; omega
  have d : p.2 ∣ p.1 * T := ⟨z, by rw [e, Int.mul_comm]⟩
  rw [← Int.natAbs_dvd_natAbs] at d ⊢
  rw [Int.natAbs_mul] at d
  exact Nat.Coprime.dvd_of_dvd_mul_left (show Nat.Coprime p.2.natAbs p.1.natAbs from c) d
end Mq
namespace L2
open PySem PySem.Spec PyProof.Rows Shp
/-! trees: the weight of the equations' matrix by one piece -/
def cP (d : RD) (x y : Nat) : Rat := if d.1 = .pc then dl d.2.1.toNat d.2.2.1.toNat x * dl d.2.1.toNat d.2.2.1.toNat y * (1 / Mq.val d.2.2.2) else 0
def lap : List RD → Nat → Nat → Rat
  | [], _, _ => 0
  | d :: ds, x, y => cP d x y + lap ds x y
theorem lap_app (x y : Nat) : ∀ (as bs : List RD), lap (as ++ bs) x y = lap as x y + lap bs x y
  | [], bs => by show lap bs x y = 0 + lap bs x y; grind
  | a :: as, bs => by show cP a x y + lap (as ++ bs) x y = cP a x y + lap as x y + lap bs x y; rw [lap_app x y as bs]; grind
theorem eqM_lap (x y : Nat) : ∀ {ds : List RD} (h : Nat), (∀ d ∈ ds, d.1 ≠ .ho) → eqM h ds x y = lap ds x y
  | [], _, _ => rfl
  | d :: ds, h, nh => by
    show cM d h x y + eqM (h + hcol d.1) ds x y = cP d x y + lap ds x y
    rw [eqM_lap x y _ fun e he => nh e (List.mem_cons_of_mem _ he)]
    have := nh d (by simp)
    unfold cM cP
    cases hk : d.1 with
    | pc => rw [if_pos rfl]
    | pu => rw [if_neg (show ¬ Kd.pu = Kd.pc by decide)]
    | ho => exact absurd hk this
def tsum (m : Nat) (ds : List RD) : Rat := Mq.det (m - 1) fun i j => lap ds (i + 1) (j + 1)
def PcB (d : RD) : Prop := Mq.Low d.2.2.2 ∧ (d.1 = .pc → 0 < d.2.2.2.1 ∧ d.2.2.2.1 < 2 ^ 31 ∧ d.2.2.2.2 ≤ 6)
def tops : List RD → Int
  | [] => 1
  | d :: ds => (if d.1 = .pc then d.2.2.2.1 else 1) * tops ds
theorem top_ok {d : RD} (h : PcB d) : 0 < (if d.1 = .pc then d.2.2.2.1 else 1) ∧ (if d.1 = .pc then d.2.2.2.1 else 1) < 2 ^ 31 := by
  by_cases hk : d.1 = .pc
  · rw [if_pos hk]; exact ⟨(h.2 hk).1, (h.2 hk).2.1⟩
  · rw [if_neg hk]; exact ⟨by decide, by decide⟩
theorem tops_ok : ∀ {ds : List RD}, (∀ d ∈ ds, PcB d) → 0 < tops ds ∧ Mq.B (1 + 31 * ds.length) (tops ds)
  | [], _ => ⟨by decide, show (1 : Nat) < 2 ^ (1 + 31 * 0) by decide⟩
  | d :: ds, h => by
    obtain ⟨a, b⟩ := tops_ok fun e he => h e (List.mem_cons_of_mem _ he)
    obtain ⟨c, e⟩ := top_ok (h d (by simp))
    refine ⟨Int.mul_pos c a, ?_⟩
    have : Mq.B 31 (if d.1 = .pc then d.2.2.2.1 else 1) := by unfold Mq.B; omega
    exact (this.mul b).mono (by rw [List.length_cons]; omega)
theorem dl_cases (s g x : Nat) : dl s g x = 0 ∨ dl s g x = 1 ∨ dl s g x = -1 := by
  unfold dl
  by_cases h : s = x <;> by_cases k : g = x <;> simp only [h, k, if_true, if_false] <;> grind
theorem dl2 (s g x y : Nat) : ∃ c : Int, dl s g x * dl s g y = (c : Rat) ∧ c.natAbs ≤ 1 := by
  rcases dl_cases s g x with h | h | h <;> rcases dl_cases s g y with k | k | k <;> rw [h, k]
  · exact ⟨0, by grind, by decide⟩
  · exact ⟨0, by grind, by decide⟩
  · exact ⟨0, by grind, by decide⟩
  · exact ⟨0, by grind, by decide⟩
  · exact ⟨1, by grind, by decide⟩
  · exact ⟨-1, by grind, by decide⟩
  · exact ⟨0, by grind, by decide⟩
  · exact ⟨-1, by grind, by decide⟩
  · exact ⟨1, by grind, by decide⟩
theorem cP_den {d : RD} (h : PcB d) (x y : Nat) : ∃ z : Int, cP d x y * (((if d.1 = .pc then d.2.2.2.1 else 1 : Int)) : Rat) = (z : Rat) ∧ z.natAbs ≤ 6 := by
  unfold cP
  by_cases hk : d.1 = .pc
  · rw [if_pos hk, if_pos hk]
    obtain ⟨c, e, hc⟩ := dl2 d.2.1.toNat d.2.2.1.toNat x y
    obtain ⟨l, h2⟩ := h
    obtain ⟨p0, _, p6⟩ := h2 hk
    refine ⟨c * d.2.2.2.2, ?_, ?_⟩
    · rw [e, Rat.intCast_mul]
      have n1 := Mq.cast_ne (show d.2.2.2.1 ≠ 0 by omega)
      have n2 := Mq.cast_ne (show d.2.2.2.2 ≠ 0 by have := l.pos; omega)
      unfold Mq.val
      grind
    · rw [Int.natAbs_mul]
      have := l.pos
      calc c.natAbs * d.2.2.2.2.natAbs ≤ 1 * d.2.2.2.2.natAbs := Nat.mul_le_mul_right _ hc
        _ ≤ 6 := by omega
  · rw [if_neg hk, if_neg hk]
    exact ⟨0, by grind, by decide⟩
theorem lap_den (x y : Nat) : ∀ {ds : List RD}, (∀ d ∈ ds, PcB d) → ∃ z : Int, lap ds x y * (tops ds : Rat) = (z : Rat) ∧ z.natAbs ≤ 6 * ds.length * (tops ds).natAbs
  | [], _ => ⟨0, by show (0 : Rat) * _ = _; grind, by simp⟩
  | d :: ds, h => by
    obtain ⟨z, e, hz⟩ := lap_den x y fun e he => h e (List.mem_cons_of_mem _ he)
    obtain ⟨w, f, hw⟩ := cP_den (h d (by simp)) x y
    obtain ⟨t0, t1⟩ := top_ok (h d (by simp))
    have T0 := (tops_ok fun e he => h e (List.mem_cons_of_mem _ he)).1
    show ∃ z' : Int, (cP d x y + lap ds x y) * (((if d.1 = .pc then d.2.2.2.1 else 1) * tops ds : Int) : Rat) = (z' : Rat) ∧ z'.natAbs ≤ 6 * (ds.length + 1) * ((if d.1 = .pc then d.2.2.2.1 else 1) * tops ds).natAbs
    generalize (if d.1 = .pc then d.2.2.2.1 else 1 : Int) = t at *
    generalize tops ds = T at *
    refine ⟨w * T + t * z, ?_, ?_⟩
    · rw [Rat.intCast_mul, Rat.intCast_add, Rat.intCast_mul, Rat.intCast_mul, ← e, ← f]; grind
    · rw [Int.natAbs_mul]
      have a1 : (w * T + t * z).natAbs ≤ w.natAbs * T.natAbs + t.natAbs * z.natAbs := by
        have := Int.natAbs_add_le (w * T) (t * z)
        rwa [Int.natAbs_mul, Int.natAbs_mul] at this
      have a2 : w.natAbs * T.natAbs ≤ 6 * T.natAbs := Nat.mul_le_mul_right _ hw
      have a3 : t.natAbs * z.natAbs ≤ t.natAbs * (6 * ds.length * T.natAbs) := Nat.mul_le_mul_left _ hz
      have a4 : T.natAbs ≤ t.natAbs * T.natAbs := Nat.le_mul_of_pos_left _ (by omega)
      have a5 : 6 * (ds.length + 1) * (t.natAbs * T.natAbs) = 6 * (t.natAbs * T.natAbs) + t.natAbs * (6 * ds.length * T.natAbs) := by grind
      omega
/-- each number of the matrix, by the pieces' tops -/
theorem ent_ok {ds : List RD} {p : Mq.Q2} {x y : Nat} (h : ∀ d ∈ ds, PcB d) (h20 : ds.length ≤ 20) (l : Mq.Low p) (e : Mq.val p = lap ds x y) : p.2 ∣ tops ds ∧ Mq.Bd 640 p ∧ p.1.natAbs ≤ 120 * p.2.natAbs := by
  obtain ⟨T0, TB⟩ := tops_ok h
  obtain ⟨z, ez, hz⟩ := lap_den x y h
  rw [← e] at ez
  obtain ⟨d, f⟩ := Mq.den_of l T0 ez
  have le : p.2 ≤ tops ds := Int.le_of_dvd T0 d
  have p1 := l.pos
  have TB' : Mq.B 630 (tops ds) := TB.mono (by omega)
  have b2 : Mq.B 630 p.2 := TB'.le (by omega)
  have b1 : p.1.natAbs ≤ 120 * p.2.natAbs := by
    have hh : p.1.natAbs * (tops ds).natAbs ≤ (120 * p.2.natAbs) * (tops ds).natAbs := by
      have e1 : p.1.natAbs * (tops ds).natAbs = z.natAbs * p.2.natAbs := by rw [← Int.natAbs_mul, f, Int.natAbs_mul]
      have e2 : z.natAbs * p.2.natAbs ≤ 6 * ds.length * (tops ds).natAbs * p.2.natAbs := Nat.mul_le_mul_right _ hz
      have e3 : 6 * ds.length * ((tops ds).natAbs * p.2.natAbs) ≤ 120 * ((tops ds).natAbs * p.2.natAbs) := Nat.mul_le_mul_right _ (by omega)
      have e4 : (120 * p.2.natAbs) * (tops ds).natAbs = 120 * ((tops ds).natAbs * p.2.natAbs) := by grind
      have e5 : 6 * ds.length * (tops ds).natAbs * p.2.natAbs = 6 * ds.length * ((tops ds).natAbs * p.2.natAbs) := by grind
      omega
    exact Nat.le_of_mul_le_mul_right hh (by omega)
  refine ⟨d, ⟨?_, b2.mono (by omega)⟩, b1⟩
  unfold Mq.B at b2 ⊢
  have : (2 : Nat) ^ 640 = 1024 * 2 ^ 630 := by rw [show 640 = 10 + 630 by rfl, Nat.pow_add]
  omega
/-- what weight is asked of -/
structure Wx (X : List (List Mq.Q2)) : Prop where
  p : Mq.AllPos X
  b : ∀ row ∈ X, (∀ p ∈ row, Mq.Bd 640 p) ∧ row.length = X.length
  n : X.length ≤ 4
  l : ∀ row ∈ X, Mq.B 640 (Mq.lcmB row)
  w : Mq.BdR 640 (X.map Mq.iw)
def spWeightT (K : PySem.W.Frag) : Sp := fun vs H Q _ => ∃ (g D : Addr) (us : List V) (X : List (List Mq.Q2)), vs = [.ref g] ∧ SqL K H g us ∧ Fmx K D H us X ∧ Wx X ∧
  ∀ a p H', Same H H' → Fq K H' a p → Mq.Low p → Mq.Bd 3400 p → Mq.val p = wgt X → Q (.ref a) H'
theorem wx_of {ds : List RD} {m : Nat} {X : List (List Mq.Q2)} {N : Nat} (h : ∀ d ∈ ds, PcB d) (h20 : ds.length ≤ 20) (hm : m ≤ 5) (b : MxB X (m - 1) (m - 1) N) (v : ∀ i j, Mq.val (mget X i j) = lap ds (i + 1) (j + 1)) : Wx X ∧ wgt X = tsum m ds := by
  have lX := b.h
  obtain ⟨T0, TB⟩ := tops_ok h
  have TB' : Mq.B 630 (tops ds) := TB.mono (by omega)
  have ent : ∀ row ∈ X, ∀ p ∈ row, p.2 ∣ tops ds ∧ Mq.Bd 640 p ∧ p.1.natAbs ≤ 120 * p.2.natAbs := fun row hr p hp => by
    obtain ⟨i, hi⟩ := List.getElem?_of_mem hr
    obtain ⟨j, hj⟩ := List.getElem?_of_mem hp
    have e : mget X i j = p := by
      unfold mget
      rw [List.getD_eq_getElem?_getD, List.getD_eq_getElem?_getD, hi]
      show (row[j]?).getD (0, 1) = p
      rw [hj]; rfl
    exact ent_ok h h20 (b.l row hr p hp).1 (by rw [← e]; exact v i j)
  have pos : Mq.AllPos X := fun row hr p hp => (b.l row hr p hp).1.pos
  have lc : ∀ row ∈ X, Mq.lcmB row ≤ tops ds := fun row hr => Int.le_of_dvd T0 (Mq.lcmB_into (pos row hr) fun p hp => (ent row hr p hp).1)
  have lg : ∀ row ∈ X, 1 ≤ Mq.lcmB row := fun row hr => Mq.lcmB_ge (pos row hr)
  refine ⟨⟨pos, fun row hr => ⟨fun p hp => (ent row hr p hp).2.1, by rw [b.w row hr, lX]⟩, by omega, fun row hr => ?_, fun i x => ?_⟩, ?_⟩
  · have h1 := lc row hr
    have h2 := lg row hr
    exact (TB'.le (by omega)).mono (by omega)
  · unfold Mq.ent
    by_cases hi : i < X.length
    · rw [map_iw hi]
      have e : X[i]? = some (X.getD i []) := by rw [List.getD_eq_getElem?_getD, List.getElem?_eq_getElem hi]; rfl
      have mem := List.mem_of_getElem? e
      generalize X.getD i [] = row at mem
      unfold Mq.iw
      rw [List.getD_eq_getElem?_getD, List.getElem?_map]
      cases hx : row[x]? with
      | none => exact Nat.two_pow_pos _
      | some p =>
        show Mq.B 640 (Mq.iwOf (Mq.lcmB row) p)
        have mp := List.mem_of_getElem? hx
        obtain ⟨k, hk⟩ := Mq.lcmB_dvd (pos row mem) p mp
        have p1 := pos row mem p mp
        have ek : Int.fdiv (Mq.lcmB row) p.2 = k := Mq.fdiv_exact (by omega) (by rw [hk, Int.mul_comm])
        have h1 := lc row mem
        have h2 := lg row mem
        have h3 := (ent row mem p mp).2.2
        unfold Mq.iwOf
        rw [ek]
        have h4 : (p.1 * k).natAbs ≤ 120 * (Mq.lcmB row).natAbs := by
          rw [Int.natAbs_mul, hk, Int.natAbs_mul]
          calc p.1.natAbs * k.natAbs ≤ 120 * p.2.natAbs * k.natAbs := Nat.mul_le_mul_right _ h3
            _ = 120 * (k.natAbs * p.2.natAbs) := by grind
        unfold Mq.B at TB' ⊢
        have : (2 : Nat) ^ 640 = 1024 * 2 ^ 630 := by rw [show 640 = 10 + 630 by rfl, Nat.pow_add]
        omega
    · rw [List.getD_eq_getElem?_getD (l := X.map Mq.iw), List.getElem?_eq_none (by simp; omega)]
      exact Nat.two_pow_pos _
  · unfold wgt tsum
    rw [lX]
    exact Mq.det_congr fun i j _ _ => by rw [← v i j]; rfl
/-! one piece taken away, its points made one -/
def up (hi x : Nat) : Nat := if x < hi then x else x + 1
def cut (lo hi : Nat) (L : Nat → Nat → Rat) (x y : Nat) : Rat := L (up hi x) (up hi y) + (if x = lo then L hi (up hi y) else 0) + (if y = lo then L (up hi x) hi else 0) + if x = lo ∧ y = lo then L hi hi else 0
theorem dc2 (L : Nat → Nat → Rat) (s : Rat) : Mq.det 1 (fun i j => L (i + 1) (j + 1) + s * (dl 0 1 (i + 1) * dl 0 1 (j + 1))) = Mq.det 1 (fun i j => L (i + 1) (j + 1)) + s * Mq.det 0 fun i j => cut 0 1 L (i + 1) (j + 1) := by
  rw [Mq.det1, Mq.det1]
  simp [dl, Mq.det]; grind
theorem dc3 {lo hi : Nat} (h : lo < hi) (hm : hi < 3) (L : Nat → Nat → Rat) (s : Rat) : Mq.det 2 (fun i j => L (i + 1) (j + 1) + s * (dl lo hi (i + 1) * dl lo hi (j + 1))) = Mq.det 2 (fun i j => L (i + 1) (j + 1)) + s * Mq.det 1 fun i j => cut lo hi L (i + 1) (j + 1) := by
  rw [Mq.det2, Mq.det2, Mq.det1]
  have : (lo = 0 ∧ hi = 1) ∨ (lo = 0 ∧ hi = 2) ∨ (lo = 1 ∧ hi = 2) := by omega
  rcases this with ⟨rfl, rfl⟩ | ⟨rfl, rfl⟩ | ⟨rfl, rfl⟩ <;> simp [dl, cut, up] <;> grind
theorem dc4 {lo hi : Nat} (h : lo < hi) (hm : hi < 4) (L : Nat → Nat → Rat) (s : Rat) : Mq.det 3 (fun i j => L (i + 1) (j + 1) + s * (dl lo hi (i + 1) * dl lo hi (j + 1))) = Mq.det 3 (fun i j => L (i + 1) (j + 1)) + s * Mq.det 2 fun i j => cut lo hi L (i + 1) (j + 1) := by
  rw [Mq.det3, Mq.det3, Mq.det2]
  have : (lo = 0 ∧ hi = 1) ∨ (lo = 0 ∧ hi = 2) ∨ (lo = 1 ∧ hi = 2) ∨ (lo = 0 ∧ hi = 3) ∨ (lo = 1 ∧ hi = 3) ∨ (lo = 2 ∧ hi = 3) := by omega
  rcases this with ⟨rfl, rfl⟩ | ⟨rfl, rfl⟩ | ⟨rfl, rfl⟩ | ⟨rfl, rfl⟩ | ⟨rfl, rfl⟩ | ⟨rfl, rfl⟩ <;> simp [dl, cut, up] <;> grind
theorem dc5 {lo hi : Nat} (h : lo < hi) (hm : hi < 5) (L : Nat → Nat → Rat) (s : Rat) : Mq.det 4 (fun i j => L (i + 1) (j + 1) + s * (dl lo hi (i + 1) * dl lo hi (j + 1))) = Mq.det 4 (fun i j => L (i + 1) (j + 1)) + s * Mq.det 3 fun i j => cut lo hi L (i + 1) (j + 1) := by
  rw [Mq.det4, Mq.det4, Mq.det3]
  unfold Mq.d3
  have : (lo = 0 ∧ hi = 1) ∨ (lo = 0 ∧ hi = 2) ∨ (lo = 1 ∧ hi = 2) ∨ (lo = 0 ∧ hi = 3) ∨ (lo = 1 ∧ hi = 3) ∨ (lo = 2 ∧ hi = 3) ∨ (lo = 0 ∧ hi = 4) ∨ (lo = 1 ∧ hi = 4) ∨ (lo = 2 ∧ hi = 4) ∨ (lo = 3 ∧ hi = 4) := by omega
  rcases this with ⟨rfl, rfl⟩ | ⟨rfl, rfl⟩ | ⟨rfl, rfl⟩ | ⟨rfl, rfl⟩ | ⟨rfl, rfl⟩ | ⟨rfl, rfl⟩ | ⟨rfl, rfl⟩ | ⟨rfl, rfl⟩ | ⟨rfl, rfl⟩ | ⟨rfl, rfl⟩ <;> simp [dl, cut, up] <;> grind
theorem dc {m lo hi : Nat} (h5 : m ≤ 5) (h : lo < hi) (hm : hi < m) (L : Nat → Nat → Rat) (s : Rat) : Mq.det (m - 1) (fun i j => L (i + 1) (j + 1) + s * (dl lo hi (i + 1) * dl lo hi (j + 1))) = Mq.det (m - 1) (fun i j => L (i + 1) (j + 1)) + s * Mq.det (m - 1 - 1) fun i j => cut lo hi L (i + 1) (j + 1) := by
  have : m = 2 ∨ m = 3 ∨ m = 4 ∨ m = 5 := by omega
  rcases this with rfl | rfl | rfl | rfl
  · have h1 : hi = 1 := by omega
    have h0 : lo = 0 := by omega
    subst h1; subst h0
    exact dc2 L s
  · exact dc3 h hm L s
  · exact dc4 h hm L s
  · exact dc5 h hm L s
def cal (lo hi x : Int) : Int := if x = hi then lo else if hi < x then x - 1 else x
def one (lo hi : Int) (d : RD) : RD := (d.1, cal lo hi d.2.1, cal lo hi d.2.2.1, d.2.2.2)
theorem cal_in {lo hi x m : Int} (l0 : 0 ≤ lo) (h : lo < hi) (hm : hi < m) (x0 : 0 ≤ x) (x1 : x < m) : 0 ≤ cal lo hi x ∧ cal lo hi x < m - 1 := by
  unfold cal
  split
  · omega
  · split <;> omega
theorem cal_hit {lo hi s : Int} {x : Nat} (l0 : 0 ≤ lo) (h : lo < hi) (s0 : 0 ≤ s) : ((if (cal lo hi s).toNat = x then 1 else 0 : Rat)) = (if s.toNat = up hi.toNat x then 1 else 0) + if x = lo.toNat then (if s.toNat = hi.toNat then 1 else 0) else 0 := by
  unfold cal up
  by_cases c1 : s = hi
  · rw [if_pos c1]
    by_cases c2 : x = lo.toNat
    · rw [if_pos c2.symm, if_pos c2, if_neg (by split <;> omega), if_pos (by omega)]; grind
    · rw [if_neg (Ne.symm c2), if_neg c2, if_neg (by split <;> omega)]; grind
  · rw [if_neg c1]
    have z : (if x = lo.toNat then (if s.toNat = hi.toNat then 1 else 0) else 0 : Rat) = 0 := by
      rw [if_neg (show ¬ s.toNat = hi.toNat by omega)]; split <;> rfl
    rw [z]
    by_cases c2 : hi < s
    · rw [if_pos c2]
      by_cases c3 : (s - 1).toNat = x
      · rw [if_pos c3, if_pos (by split <;> omega)]; grind
      · rw [if_neg c3, if_neg (by split <;> omega)]; grind
    · rw [if_neg c2]
      by_cases c3 : s.toNat = x
      · rw [if_pos c3, if_pos (by split <;> omega)]; grind
      · rw [if_neg c3, if_neg (by split <;> omega)]; grind
theorem dl_one {lo hi s g : Int} (l0 : 0 ≤ lo) (h : lo < hi) (s0 : 0 ≤ s) (g0 : 0 ≤ g) (x : Nat) : dl (cal lo hi s).toNat (cal lo hi g).toNat x = dl s.toNat g.toNat (up hi.toNat x) + if x = lo.toNat then dl s.toNat g.toNat hi.toNat else 0 := by
  unfold dl
  rw [cal_hit l0 h s0, cal_hit l0 h g0]
  by_cases c : x = lo.toNat
  · rw [if_pos c, if_pos c, if_pos c]; grind
  · rw [if_neg c, if_neg c, if_neg c]; grind
theorem cP_one {lo hi : Int} {d : RD} (l0 : 0 ≤ lo) (h : lo < hi) (s0 : 0 ≤ d.2.1) (g0 : 0 ≤ d.2.2.1) (x y : Nat) : cP (one lo hi d) x y = cut lo.toNat hi.toNat (cP d) x y := by
  unfold cut cP one
  by_cases hk : d.1 = .pc
  · simp only [hk, if_true]
    rw [dl_one l0 h s0 g0, dl_one l0 h s0 g0]
    by_cases c1 : x = lo.toNat <;> by_cases c2 : y = lo.toNat <;> simp only [c1, c2, if_true, if_false, and_self, and_true, true_and, and_false, false_and] <;> grind
  · simp only [hk, if_false]
    simp; grind
theorem lap_one {lo hi : Int} (l0 : 0 ≤ lo) (h : lo < hi) (x y : Nat) : ∀ {ds : List RD}, (∀ d ∈ ds, 0 ≤ d.2.1 ∧ 0 ≤ d.2.2.1) → lap (ds.map (one lo hi)) x y = cut lo.toNat hi.toNat (lap ds) x y
  | [], _ => by unfold cut lap; simp [lap]; grind
  | d :: ds, hd => by
    show cP (one lo hi d) x y + lap (ds.map (one lo hi)) x y = _
    rw [lap_one l0 h x y fun e he => hd e (List.mem_cons_of_mem _ he), cP_one l0 h (hd d (by simp)).1 (hd d (by simp)).2]
    unfold cut
    show _ = cP d _ _ + lap ds _ _ + (if x = lo.toNat then cP d _ _ + lap ds _ _ else 0) + (if y = lo.toNat then cP d _ _ + lap ds _ _ else 0) + if x = lo.toNat ∧ y = lo.toNat then cP d _ _ + lap ds _ _ else 0
    by_cases c1 : x = lo.toNat <;> by_cases c2 : y = lo.toNat <;> simp only [c1, c2, if_true, if_false, and_self, and_true, true_and, and_false, false_and] <;> grind
theorem dl_swap (s g x : Nat) : dl s g x = - dl g s x := by unfold dl; grind
/-- the sum over trees by one piece -/
theorem tsum_one {m w : Nat} {ds : List RD} {i j : Int} {p : Mq.Q2} (h5 : m ≤ 5) (hw : ds[w]? = some (.pc, i, j, p)) (ne : i ≠ j) (hd : ∀ d ∈ ds, PtOk (m : Int) d.2.1 d.2.2.1) :
    tsum m ds = tsum m (ds.take w ++ ds.drop (w + 1)) + tsum (m - 1) ((ds.take w ++ ds.drop (w + 1)).map (one (min i j) (max i j))) / Mq.val p := by
  have hl := (List.getElem?_eq_some_iff.mp hw).1
  have es : ds = ds.take w ++ ((.pc, i, j, p) :: ds.drop (w + 1)) := by
    have e : ds[w] = (.pc, i, j, p) := (List.getElem?_eq_some_iff.mp hw).2
    rw [← e, ← List.drop_eq_getElem_cons hl, List.take_append_drop]
  obtain ⟨i0, i1, j0, j1⟩ : PtOk (m : Int) i j := hd _ (List.mem_of_getElem? hw)
  have hlt : min i j < max i j := by omega
  have l0 : 0 ≤ min i j := by omega
  have hm : (max i j).toNat < m := by omega
  have nn : ∀ d ∈ ds.take w ++ ds.drop (w + 1), 0 ≤ d.2.1 ∧ 0 ≤ d.2.2.1 := fun d h => by
    have : d ∈ ds := by
      rcases List.mem_append.mp h with z | z
      · exact List.mem_of_mem_take z
      · exact List.mem_of_mem_drop z
    exact ⟨(hd d this).1, (hd d this).2.2.1⟩
  have e1 : ∀ x y, lap ds x y = lap (ds.take w ++ ds.drop (w + 1)) x y + (1 / Mq.val p) * (dl (min i j).toNat (max i j).toNat x * dl (min i j).toNat (max i j).toNat y) := fun x y => by
    conv => lhs; rw [es]
    rw [lap_app, lap_app]
    show _ + ((if Kd.pc = Kd.pc then dl i.toNat j.toNat x * dl i.toNat j.toNat y * (1 / Mq.val p) else 0) + _) = _
    rw [if_pos rfl]
    by_cases c : i ≤ j
    · rw [show min i j = i by omega, show max i j = j by omega]; grind
    · rw [show min i j = j by omega, show max i j = i by omega, dl_swap i.toNat j.toNat x, dl_swap i.toNat j.toNat y]; grind
  unfold tsum
  rw [show (fun a b => lap ds (a + 1) (b + 1)) = fun a b => lap (ds.take w ++ ds.drop (w + 1)) (a + 1) (b + 1) + (1 / Mq.val p) * (dl (min i j).toNat (max i j).toNat (a + 1) * dl (min i j).toNat (max i j).toNat (b + 1)) from funext fun a => funext fun b => e1 _ _]
  rw [dc h5 (show (min i j).toNat < (max i j).toNat by omega) hm (lap (ds.take w ++ ds.drop (w + 1))) (1 / Mq.val p)]
  rw [show (fun a b => lap ((ds.take w ++ ds.drop (w + 1)).map (one (min i j) (max i j))) (a + 1) (b + 1)) = fun a b => cut (min i j).toNat (max i j).toNat (lap (ds.take w ++ ds.drop (w + 1))) (a + 1) (b + 1) from funext fun a => funext fun b => lap_one l0 hlt _ _ nn]
  generalize Mq.det (m - 1 - 1) _ = u
  grind
theorem lap_none (x y : Nat) : ∀ {ds : List RD}, (∀ d ∈ ds, d.1 = .pc → d.2.1 = d.2.2.1) → lap ds x y = 0
  | [], _ => rfl
  | d :: ds, h => by
    show cP d x y + lap ds x y = 0
    rw [lap_none x y fun e he => h e (List.mem_cons_of_mem _ he)]
    unfold cP
    by_cases hk : d.1 = .pc
    · rw [if_pos hk, h d (by simp) hk]
      have : dl d.2.2.1.toNat d.2.2.1.toNat x = 0 := by unfold dl; grind
      rw [this]; grind
    · rw [if_neg hk]; grind
theorem tsum_none {m : Nat} {ds : List RD} (h1 : 1 ≤ m) (h5 : m ≤ 5) (h : ∀ d ∈ ds, d.1 = .pc → d.2.1 = d.2.2.1) : tsum m ds = if m = 1 then 1 else 0 := by
  unfold tsum
  rw [show (fun a b => lap ds (a + 1) (b + 1)) = fun _ _ => 0 from funext fun a => funext fun b => lap_none _ _ h]
  have : m = 1 ∨ m = 2 ∨ m = 3 ∨ m = 4 ∨ m = 5 := by omega
  rcases this with rfl | rfl | rfl | rfl | rfl
  · rw [if_pos rfl]; rfl
  · rw [if_neg (by decide), Mq.det1]
  · rw [if_neg (by decide), Mq.det2]; grind
  · rw [if_neg (by decide), Mq.det3]; grind
  · rw [if_neg (by decide), Mq.det4]; unfold Mq.d3; grind
/-- the same pieces, whatever the pushes -/
def SameP (as bs : List RD) : Prop := as.length = bs.length ∧ ∀ (i : Nat) (a b : RD), as[i]? = some a → bs[i]? = some b → a.1 = b.1 ∧ (a.1 = .pc → a = b)
theorem lap_same (x y : Nat) : ∀ {as bs : List RD}, SameP as bs → lap as x y = lap bs x y
  | [], [], _ => rfl
  | [], _ :: _, h => by have := h.1; simp at this
  | _ :: _, [], h => by have := h.1; simp at this
  | a :: as, b :: bs, h => by
    show cP a x y + lap as x y = cP b x y + lap bs x y
    have ih := lap_same x y (as := as) (bs := bs) ⟨by have := h.1; simpa using this, fun i c d e f => h.2 (i + 1) c d (by simpa using e) (by simpa using f)⟩
    obtain ⟨k, e⟩ := h.2 0 a b rfl rfl
    rw [ih]
    by_cases hk : a.1 = .pc
    · rw [e hk]
    · unfold cP
      rw [if_neg hk, if_neg (by rw [← k]; exact hk)]
theorem tsum_same {m : Nat} {as bs : List RD} (h : SameP as bs) : tsum m as = tsum m bs := by
  unfold tsum
  rw [show (fun a b => lap as (a + 1) (b + 1)) = fun a b => lap bs (a + 1) (b + 1) from funext fun a => funext fun b => lap_same _ _ h]
end L2

set_option Elab.async false
set_option linter.all false
set_option maxRecDepth 100000
set_option maxHeartbeats 4000000
namespace K65
open PySem L2
def top (i : Nat) : Stmt := PySem.Challenge.pw_ohmyard_k65_tree_sum_by_one_piece.main.body.getD i (.Pass ⟨0, 0, 0, 0⟩)
section
variable {P : Program} {w : World} {K : PySem.W.Frag} {mg : Str → Option Value} {base : Heap} {f g1 g2 g3 g4 g5 g6 g7 g8 : Addr} {fd gd1 gd2 gd3 gd4 gd5 gd6 gd7 gd8 : FuncData} {CX : CXT}
abbrev sWhole : Stmt := top 13
theorem scWhole : FnScope ["thing"] ["thing"] (defScope sWhole) := ⟨rfl, rfl, rfl, by decide +kernel, rfl, by decide +kernel, by decide +kernel⟩
theorem ok_whole {dV : Value} (F : FunD K "is_whole" "is_whole" sWhole dV f fd) (b : Bl mg) : FnOk P w K mg base CX 1 f fd ["thing"] (spWhole K) := by
  refine F.ok scWhole (fun vs H Q E h => ?_) (fun cdv A outer s H vs Q E hr h => ?_)
  · obtain ⟨x, rfl, _⟩ := h
    rfl
  obtain ⟨x, rfl, h⟩ := h
  refine ⟨_, pss_one (ps_ret (pe_and (pe_isiQ (i := 0) rfl (Or.inl rfl) b.isi b.int rfl rfl PyProof.Rows.boot_int) (pe_one (pe_not (pe_isiQ (i := 0) rfl (Or.inl rfl) b.isi b.bool rfl rfl PyProof.Rows.boot_bool))))), ?_⟩
  rcases h with ⟨i, rfl, q⟩ | ⟨t, ty, nw, q⟩
  · exact ⟨_, _, _, rfl, .of (.int i), rfl, _, rfl, iteT ⟨_, _, false, rfl, .of (.int i), (by with_unfolding_all rfl), _, rfl, q⟩⟩
  · rcases nw with rfl | rfl | rfl | rfl | rfl
    · exact ⟨_, _, true, rfl, .of ty, (by with_unfolding_all rfl), _, rfl, iteT ⟨_, _, _, rfl, .of ty, rfl, _, rfl, q⟩⟩
    all_goals exact ⟨_, _, false, rfl, .of ty, (by with_unfolding_all rfl), _, rfl, iteF q⟩
abbrev sGc : Stmt := top 15
theorem scGc : FnScope ["one", "other", "rest"] ["one", "other"] (defScope sGc) := ⟨rfl, rfl, rfl, by decide +kernel, rfl, by decide +kernel, by decide +kernel⟩
theorem ok_gc {dV : Value} (F : FunD K "greatest_common" "greatest_common" sGc dV f fd) (b : Bl mg) : FnOk P w K mg base CX 1 f fd ["one", "other"] spGc := by
  refine F.ok scGc (fun vs H Q E h => ?_) (fun cdv A outer s H vs Q E hr h => ?_)
  · obtain ⟨x, y, rfl, _⟩ := h
    rfl
  obtain ⟨x, y, rfl, q⟩ := h
  refine ⟨_, pss_cons (ps_while PassesOwn.never (pt_cmpR op_ne (pv 1) pe_int (nomark _)) (pss_cons (ps_set (i := 2) scGc.nd rfl (Or.inl rfl) (pe_op op_modN (pv 0) (pv 1)))
    (pss_cons (ps_set (i := 0) scGc.nd rfl (Or.inl rfl) (pv 1)) (pss_one (ps_set (i := 1) scGc.nd rfl (Or.inl rfl) (pv 2))))))
    (pss_one (ps_ret (pe_callB call_abs rfl b.abs PyProof.Rows.boot_abs (pa_cons (pv 0) pa_nil)))), ?_⟩
  refine while_by (fun σ H' => H' = H ∧ ∃ u v z, σ = [some (.int u), some (.int v), z] ∧ Mq.gc u v = Mq.gc x y) (fun σ _ => match σ with | [_, some (.int v), _] => v.natAbs | _ => 0) ⟨rfl, x, y, none, rfl, rfl⟩ ?_ ?_
  · rintro σ H' ⟨rfl, u, v, z, rfl, e⟩
    refine ⟨_, rfl, rfl, _, rfl, ?_⟩
    refine ite2 (fun c => ?_) (fun c => ?_)
    · have hv : v ≠ 0 := by intro q; subst q; simp at c
      refine ⟨_, rfl, _, rfl, _, _, rfl, rfl, hv, _, rfl, _, rfl, ⟨rfl, v, Int.fmod u v, _, rfl, (Mq.gc_step u v).trans e⟩, Mq.fmod_less hv⟩
    · have hv : v = 0 := by
        simp at c
        exact c
      subst hv
      refine ⟨_, rfl, _, rfl, ?_⟩
      rw [← Mq.gc_zero, e]
      exact q
  · rintro σ H Q Q' m ⟨v, h1, h2, k, h3, h4⟩
    exact ⟨v, h1, h2, k, h3, m _ _ h4⟩
abbrev sUnder : Stmt := top 20
theorem scUnder : FnScope ["one", "other"] ["one", "other"] (defScope sUnder) := ⟨rfl, rfl, rfl, by decide +kernel, rfl, by decide +kernel, by decide +kernel⟩
theorem ok_under {dV : Value} (F : FunD K "under" "under" sUnder dV f fd) : FnOk P w K mg base CX 1 f fd ["one", "other"] (spUnder K) := by
  refine F.ok scUnder (fun vs H Q E h => ?_) (fun cdv A outer s H vs Q E hr h => ?_)
  · obtain ⟨a, b, p, q, n, m, rfl, _⟩ := h
    rfl
  obtain ⟨a, b, p, q, n, m, rfl, ha, hb, bp, bq, hn, z⟩ := h
  refine ⟨_, pss_one (ps_ret (pe_cmpR op_lt (pe_op op_mulB (pe_ix ix_tup (pv 0) pe_int (fun _ _ => rfl)) (pe_ix ix_tup (pv 1) pe_int (fun _ _ => rfl))) (pe_op op_mulB (pe_ix ix_tup (pv 1) pe_int (fun _ _ => rfl)) (pe_ix ix_tup (pv 0) pe_int (fun _ _ => rfl))) (nomark _))), ?_⟩
  exact rd_ix0 rfl ha (rd_ix1 rfl hb (rd_mulB bp.a bq.b (by omega) (by omega) (rd_ix0 rfl hb (rd_ix1 rfl ha (rd_mulB bq.a bp.b (by omega) (by omega) ⟨_, _, rfl, rfl, z⟩)))))
abbrev sFrac : Stmt := top 16
theorem scFrac : FnScope ["top", "bottom", "shared"] ["top", "bottom"] (defScope sFrac) := ⟨rfl, rfl, rfl, by decide +kernel, rfl, by decide +kernel, by decide +kernel⟩
theorem ok_frac {dV : Value} (F : FunD K "fraction" "fraction" sFrac dV f fd)
    (G1 : FnOk P w K mg base CX0 1 g1 gd1 ["thing"] (spWhole K)) (b1 : Binds K gd1 ["thing"] []) (k1 : PySem.W.keepIn K (.ref g1) = true) (m1 : mg "is_whole" = some (.ref g1))
    (G2 : FnOk P w K mg base CX0 1 g2 gd2 ["one", "other"] spGc) (b2 : Binds K gd2 ["one", "other"] []) (k2 : PySem.W.keepIn K (.ref g2) = true) (m2 : mg "greatest_common" = some (.ref g2)) :
    FnOk P w K mg base CX 2 f fd ["top", "bottom"] spFrac := by
  refine F.ok scFrac (fun vs H Q E h => ?_) (fun cdv A outer s H vs Q E hr h => ?_)
  · obtain ⟨t, b, n, rfl, _⟩ := h
    rfl
  obtain ⟨t, b, n, rfl, hb, hB, hn, q⟩ := h
  refine ⟨_, pss_cons (ps_if (PW.pt (pw_or (pt_not (pt_val (pe_call G1 hr rfl m1 k1 b1 .nil pass0 (pa_cons (pv 0) pa_nil)))) (pw_or (pt_not (pt_val (pe_call G1 hr rfl m1 k1 b1 .nil pass0 (pa_cons (pv 1) pa_nil)))) (pw_or1 (pt_cmpR op_eq (pv 1) pe_int (nomark _)))))) pss_never pss_nil)
    (pss_cons (ps_set (i := 2) scFrac.nd rfl (Or.inl rfl) (pe_call G2 hr rfl m2 k2 b2 .nil pass0 (pa_cons (pv 0) (pa_cons (pv 1) pa_nil))))
    (pss_cons (ps_if (pt_cmpR op_lt (pv 1) pe_int (nomark _)) (pss_one (ps_set (i := 2) scFrac.nd rfl (Or.inl rfl) (pe_un un_neg (pv 2)))) pss_nil)
    (pss_one (ps_ret (pe_tup (pa_cons (pe_op op_fdivB (pv 0) (pv 2)) (pa_cons (pe_op op_fdivB (pv 1) (pv 2)) pa_nil))))))), ?_⟩
  have hd := Mq.dvr_ne (t := t) hb
  have hdB : Mq.B n (Mq.dvr t b) := hB.le (Mq.dvr_le hb)
  have c0 : decide (V.int b = V.int 0) = false := decide_eq_false (fun z => hb (by cases z; rfl))
  refine ⟨_, rfl, _, rfl, .inl ⟨t, rfl, _, rfl, iteF ⟨_, rfl, _, rfl, .inl ⟨b, rfl, _, rfl, iteF ⟨_, rfl, rfl, _, rfl, ?_⟩⟩⟩⟩⟩
  rw [c0]
  refine iteF ⟨_, rfl, _, rfl, t, b, rfl, ?_⟩
  refine ⟨_, rfl, _, _, rfl, rfl, _, rfl, ?_⟩
  refine ite2 (fun c => ?_) (fun c => ?_)
  · have hlt : b < 0 := of_decide_eq_true c
    have e : Mq.dvr t b = -Mq.gc t b := by unfold Mq.dvr; rw [if_pos hlt]
    rw [e] at hd hdB
    have q' : NewF H Q (t.fdiv (-Mq.gc t b), b.fdiv (-Mq.gc t b)) := by
      have z := q
      unfold Mq.red at z
      rw [e] at z
      exact z
    refine ⟨_, rfl, _, rfl, ?_⟩
    refine ⟨_, rfl, _, rfl, ?_⟩
    refine rd_fdivB hd hdB hn ⟨_, rfl, _, rfl, rd_fdivB hd hdB hn ⟨by show 2 ≤ sizeLine; decide, fun p hp => ?_⟩⟩
    exact q' p _ (same_new hp _) upd_same
  · have hlt : ¬ b < 0 := fun z => c (decide_eq_true z)
    have e : Mq.dvr t b = Mq.gc t b := by unfold Mq.dvr; rw [if_neg hlt]
    rw [e] at hd hdB
    have q' : NewF H Q (t.fdiv (Mq.gc t b), b.fdiv (Mq.gc t b)) := by
      have z := q
      unfold Mq.red at z
      rw [e] at z
      exact z
    refine ⟨_, rfl, _, rfl, ?_⟩
    refine rd_fdivB hd hdB hn ⟨_, rfl, _, rfl, rd_fdivB hd hdB hn ⟨by show 2 ≤ sizeLine; decide, fun p hp => ?_⟩⟩
    exact q' p _ (same_new hp _) upd_same
abbrev sMinus : Stmt := top 18
theorem scMinus : FnScope ["one", "other"] ["one", "other"] (defScope sMinus) := ⟨rfl, rfl, rfl, by decide +kernel, rfl, by decide +kernel, by decide +kernel⟩
theorem ok_minus {dV : Value} (F : FunD K "minus" "minus" sMinus dV f fd)
    (G1 : FnOk P w K mg base CX0 2 g1 gd1 ["top", "bottom"] spFrac) (b1 : Binds K gd1 ["top", "bottom"] []) (k1 : PySem.W.keepIn K (.ref g1) = true) (m1 : mg "fraction" = some (.ref g1)) :
    FnOk P w K mg base CX 3 f fd ["one", "other"] (spTwo K Mq.minus) := by
  refine F.ok scMinus (fun vs H Q E h => ?_) (fun cdv A outer s H vs Q E hr h => ?_)
  · obtain ⟨a, b, p, q, n, m, rfl, _⟩ := h
    rfl
  obtain ⟨a, b, p, q, n, m, rfl, ha, hb, lp, lq, bp, bq, hn, z⟩ := h
  refine ⟨_, pss_one (ps_ret (pe_call G1 hr rfl m1 k1 b1 .nil pass0 (pa_cons
    (pe_op op_sub (pe_op op_mulB (pe_ix ix_tup (pv 0) pe_int (fun _ _ => rfl)) (pe_ix ix_tup (pv 1) pe_int (fun _ _ => rfl))) (pe_op op_mulB (pe_ix ix_tup (pv 1) pe_int (fun _ _ => rfl)) (pe_ix ix_tup (pv 0) pe_int (fun _ _ => rfl))))
    (pa_cons (pe_op op_mulB (pe_ix ix_tup (pv 0) pe_int (fun _ _ => rfl)) (pe_ix ix_tup (pv 1) pe_int (fun _ _ => rfl))) pa_nil)))), ?_⟩
  refine rd_ix0 rfl ha (rd_ix1 rfl hb (rd_mulB bp.a bq.b (by omega) (by omega) (rd_ix0 rfl hb (rd_ix1 rfl ha (rd_mulB bq.a bp.b (by omega) (by omega) ⟨_, _, rfl, rfl, ?_⟩)))))
  refine rd_ix1 rfl ha (rd_ix1 rfl hb (rd_mulB bp.b bq.b (by omega) (by omega) ⟨_, _, n + m, rfl, Mq.mul_ne lp lq, bp.b.mul bq.b, by omega, z⟩))
abbrev sPlus : Stmt := top 17
theorem scPlus : FnScope ["one", "other"] ["one", "other"] (defScope sPlus) := ⟨rfl, rfl, rfl, by decide +kernel, rfl, by decide +kernel, by decide +kernel⟩
theorem ok_plus {dV : Value} (F : FunD K "plus" "plus" sPlus dV f fd)
    (G1 : FnOk P w K mg base CX0 2 g1 gd1 ["top", "bottom"] spFrac) (b1 : Binds K gd1 ["top", "bottom"] []) (k1 : PySem.W.keepIn K (.ref g1) = true) (m1 : mg "fraction" = some (.ref g1)) :
    FnOk P w K mg base CX 3 f fd ["one", "other"] (spTwo K Mq.plus) := by
  refine F.ok scPlus (fun vs H Q E h => ?_) (fun cdv A outer s H vs Q E hr h => ?_)
  · obtain ⟨a, b, p, q, n, m, rfl, _⟩ := h
    rfl
  obtain ⟨a, b, p, q, n, m, rfl, ha, hb, lp, lq, bp, bq, hn, z⟩ := h
  refine ⟨_, pss_one (ps_ret (pe_call G1 hr rfl m1 k1 b1 .nil pass0 (pa_cons
    (pe_op op_add (pe_op op_mulB (pe_ix ix_tup (pv 0) pe_int (fun _ _ => rfl)) (pe_ix ix_tup (pv 1) pe_int (fun _ _ => rfl))) (pe_op op_mulB (pe_ix ix_tup (pv 1) pe_int (fun _ _ => rfl)) (pe_ix ix_tup (pv 0) pe_int (fun _ _ => rfl))))
    (pa_cons (pe_op op_mulB (pe_ix ix_tup (pv 0) pe_int (fun _ _ => rfl)) (pe_ix ix_tup (pv 1) pe_int (fun _ _ => rfl))) pa_nil)))), ?_⟩
  refine rd_ix0 rfl ha (rd_ix1 rfl hb (rd_mulB bp.a bq.b (by omega) (by omega) (rd_ix0 rfl hb (rd_ix1 rfl ha (rd_mulB bq.a bp.b (by omega) (by omega) ⟨_, _, rfl, rfl, ?_⟩)))))
  refine rd_ix1 rfl ha (rd_ix1 rfl hb (rd_mulB bp.b bq.b (by omega) (by omega) ⟨_, _, n + m, rfl, Mq.mul_ne lp lq, bp.b.mul bq.b, by omega, z⟩))
variable {CR : Addr} {CK : Kd → Addr} {fW fJ fT fS : Kd → Addr} {fdW fdJ fdT fdS : Kd → FuncData}
abbrev sRInit : Stmt := inClass (top 22) 0
theorem scRInit : FnScope ["self", "start", "goal", "size"] ["self", "start", "goal", "size"] (defScope sRInit) := ⟨rfl, rfl, rfl, by decide +kernel, rfl, by decide +kernel, by decide +kernel⟩
theorem ok_rinit {dV : Value} (F : FunD K "__init__" "Row.__init__" sRInit dV f fd) (T : RT K mg CR CK) : FnOk P w K mg base CX 1 f fd ["self", "start", "goal", "size"] (spRInit CK) := by
  refine F.ok scRInit (fun vs H Q E h => ?_) (fun cdv A outer s H vs Q E hr h => ?_)
  · obtain ⟨x, dx, k, s, g, z, rfl, _⟩ := h
    rfl
  obtain ⟨x, dx, k, s, g, z, rfl, hx, q⟩ := h
  refine ⟨_, (pss_cons (ps_fld (pv 0) (pv 1) rfl) (pss_cons (ps_fld (pv 0) (pv 2) rfl) (pss_one (ps_fld (pv 0) (pv 3) rfl)))), ?_⟩
  have l1 := length_putF ("start" : Str) s []
  have l2 := length_putF ("goal" : Str) g (putF "start" s [])
  simp only [List.length_nil] at l1
  refine ⟨_, rfl, _, rfl, x, CK k, dx, [], rfl, hx, T.cl k, T.nS k, (by show 0 < 1000; decide), ?_⟩
  refine ⟨_, rfl, _, rfl, x, CK k, dx, _, rfl, upd_same, T.cl k, T.nG k, by omega, ?_⟩
  refine ⟨_, rfl, _, rfl, x, CK k, dx, _, rfl, upd_same, T.cl k, T.nZ k, by omega, ?_⟩
  rw [upd_upd, upd_upd]
  exact q
abbrev sWord_pc : Stmt := inClass (top 23) 0
theorem scWord_pc : FnScope ["self"] ["self"] (defScope sWord_pc) := ⟨rfl, rfl, rfl, by decide +kernel, rfl, by decide +kernel, by decide +kernel⟩
theorem ok_word_pc {dV : Value} (F : FunD K "word" "Piece.word" sWord_pc dV f fd) : FnOk P w K mg base CX 1 f fd ["self"] (spWord .pc) := by
  refine F.ok scWord_pc (fun vs H Q E h => ?_) (fun cdv A outer s H vs Q E hr h => ?_)
  · obtain ⟨x, rfl, _⟩ := h
    rfl
  obtain ⟨x, rfl, q⟩ := h
  exact ⟨_, (pss_one (ps_ret pe_str)), q⟩
abbrev sWord_pu : Stmt := inClass (top 24) 0
theorem scWord_pu : FnScope ["self"] ["self"] (defScope sWord_pu) := ⟨rfl, rfl, rfl, by decide +kernel, rfl, by decide +kernel, by decide +kernel⟩
theorem ok_word_pu {dV : Value} (F : FunD K "word" "Push.word" sWord_pu dV f fd) : FnOk P w K mg base CX 1 f fd ["self"] (spWord .pu) := by
  refine F.ok scWord_pu (fun vs H Q E h => ?_) (fun cdv A outer s H vs Q E hr h => ?_)
  · obtain ⟨x, rfl, _⟩ := h
    rfl
  obtain ⟨x, rfl, q⟩ := h
  exact ⟨_, (pss_one (ps_ret pe_str)), q⟩
abbrev sWord_ho : Stmt := inClass (top 25) 0
theorem scWord_ho : FnScope ["self"] ["self"] (defScope sWord_ho) := ⟨rfl, rfl, rfl, by decide +kernel, rfl, by decide +kernel, by decide +kernel⟩
theorem ok_word_ho {dV : Value} (F : FunD K "word" "Hold.word" sWord_ho dV f fd) : FnOk P w K mg base CX 1 f fd ["self"] (spWord .ho) := by
  refine F.ok scWord_ho (fun vs H Q E h => ?_) (fun cdv A outer s H vs Q E hr h => ?_)
  · obtain ⟨x, rfl, _⟩ := h
    rfl
  obtain ⟨x, rfl, q⟩ := h
  exact ⟨_, (pss_one (ps_ret pe_str)), q⟩
abbrev sRTold : Stmt := inClass (top 22) 1
theorem scRTold : FnScope ["self"] ["self"] (defScope sRTold) := ⟨rfl, rfl, rfl, by decide +kernel, rfl, by decide +kernel, by decide +kernel⟩
theorem ok_rtold {dV : Value} (F : FunD K "told" "Row.told" sRTold dV f fd) (T : RT K mg CR CK)
    (GW : ∀ k, FnOk P w K mg base CX0 1 (fW k) (fdW k) ["self"] (spWord k)) (bW : ∀ k, Binds K (fdW k) ["self"] []) (mW : ∀ k, Meth K (CK k) "word" (fW k)) : FnOk P w K mg base CX 2 f fd ["self"] (spRTold CK) := by
  refine F.ok scRTold (fun vs H Q E h => ?_) (fun cdv A outer s H vs Q E hr h => ?_)
  · obtain ⟨x, k, s, g, z, rfl, _⟩ := h
    rfl
  obtain ⟨x, k, s, g, z, rfl, ⟨dx, hx⟩, q⟩ := h
  refine ⟨_, (pss_one (ps_ret (pe_tup (pa_cons (pe_methD0 (pv 0) T.cl mW GW hr bW .nil pass0) (pa_cons (pe_fld (pv 0) rfl) (pa_cons (pe_fld (pv 0) rfl) (pa_cons (pe_fld (pv 0) rfl) pa_nil))))))), ?_⟩
  refine ⟨_, rfl, k, x, dx, _, rfl, hx, (rflds_no _ _ _ (by decide +kernel) (by decide +kernel) (by decide +kernel)), _, rfl, ?_⟩
  refine ⟨_, rfl, x, CK k, dx, _, _, rfl, hx, T.cl k, T.nS k, rflds_start _ _ _, ?_⟩
  refine ⟨_, rfl, x, CK k, dx, _, _, rfl, hx, T.cl k, T.nG k, rflds_goal _ _ _, ?_⟩
  refine ⟨_, rfl, x, CK k, dx, _, _, rfl, hx, T.cl k, T.nZ k, rflds_size _ _ _, ?_⟩
  exact ⟨by show 4 ≤ sizeLine; decide, q⟩
abbrev sRowOf : Stmt := top 26
theorem scRowOf : FnScope ["told", "word"] ["told"] (defScope sRowOf) := ⟨rfl, rfl, rfl, by decide +kernel, rfl, by decide +kernel, by decide +kernel⟩
theorem ok_rowof {dV : Value} {gI : Addr} {gdI : FuncData} (F : FunD K "row_of" "row_of" sRowOf dV f fd) (T : RT K mg CR CK) (b : Bl mg) (ms : mg "str" = none)
    (GI : FnOk P w K mg base CX0 1 gI gdI ["self", "start", "goal", "size"] (spRInit CK)) (bI : Binds K gdI ["self", "start", "goal", "size"] []) (MK : ∀ k, Mk K (CK k) gI) : FnOk P w K mg base CX 3 f fd ["told"] (spRowOfG K CK) := by
  refine F.ok scRowOf (fun vs H Q E h => ?_) (fun cdv A outer s H vs Q E hr h => ?_)
  · obtain ⟨t, v, s, g, z, rfl, _⟩ := h
    rfl
  obtain ⟨t, v, s, g, z, rfl, hT, k, rfl, q⟩ := h
  refine ⟨_, (pss_cons (ps_set (i := 1) scRowOf.nd rfl (Or.inl rfl) (pe_ix ix_tup (pv 0) pe_int (fun _ _ => rfl)))
    (pss_cons (ps_if (PW.pt (pw_and (pt_val (pe_isiQ (i := 1) rfl (Or.inl rfl) b.isi ms rfl rfl PyProof.Rows.boot_str)) (pw_and1 (pt_cmpR op_eq (pv 1) pe_str (nomark _))))) (pss_one (ps_ret (pe_make (MK .pc) GI hr rfl (T.mK .pc) bI .nil pass0 (pa_cons (pe_ix ix_tup (pv 0) pe_int (fun _ _ => rfl)) (pa_cons (pe_ix ix_tup (pv 0) pe_int (fun _ _ => rfl)) (pa_cons (pe_ix ix_tup (pv 0) pe_int (fun _ _ => rfl)) pa_nil)))))) pss_nil)
    (pss_cons (ps_if (PW.pt (pw_and (pt_val (pe_isiQ (i := 1) rfl (Or.inl rfl) b.isi ms rfl rfl PyProof.Rows.boot_str)) (pw_and1 (pt_cmpR op_eq (pv 1) pe_str (nomark _))))) (pss_one (ps_ret (pe_make (MK .pu) GI hr rfl (T.mK .pu) bI .nil pass0 (pa_cons (pe_ix ix_tup (pv 0) pe_int (fun _ _ => rfl)) (pa_cons (pe_ix ix_tup (pv 0) pe_int (fun _ _ => rfl)) (pa_cons (pe_ix ix_tup (pv 0) pe_int (fun _ _ => rfl)) pa_nil)))))) pss_nil)
    (pss_cons (ps_if (PW.pt (pw_and (pt_val (pe_isiQ (i := 1) rfl (Or.inl rfl) b.isi ms rfl rfl PyProof.Rows.boot_str)) (pw_and1 (pt_cmpR op_eq (pv 1) pe_str (nomark _))))) (pss_one (ps_ret (pe_make (MK .ho) GI hr rfl (T.mK .ho) bI .nil pass0 (pa_cons (pe_ix ix_tup (pv 0) pe_int (fun _ _ => rfl)) (pa_cons (pe_ix ix_tup (pv 0) pe_int (fun _ _ => rfl)) (pa_cons (pe_ix ix_tup (pv 0) pe_int (fun _ _ => rfl)) pa_nil)))))) pss_nil)
    (pss_one ps_never))))), ?_⟩
  cases k
  · refine cut2 (fun _ _ => False) (fun X _ => ?_) (fun _ _ h => h.elim)
    refine ⟨_, rfl, t, _, 0, _, rfl, rfl, hT, rfl, ?_⟩
    exact ⟨_, _, true, rfl, .of (.str _), rfl, _, rfl, iteT ⟨_, rfl, rfl, _, rfl, ifT (dec_wd .pc .pc) ⟨_, rfl, t, _, 1, s, rfl, rfl, hT, rfl, _, rfl, t, _, 2, g, rfl, rfl, hT, rfl, _, rfl, t, _, 3, z, rfl, rfl, hT, rfl, fun x dx h1 h2 ne => ⟨x, dx, .pc, s, g, z, rfl, upd_same, rfl, by rw [upd_upd]; exact q x _ (Rw.new h1 h2 ne) h1 ⟨dx, upd_same⟩⟩⟩⟩⟩
  · refine cut3 (fun _ _ => False) (fun X _ => ?_) (fun _ _ h => h.elim)
    refine ⟨_, rfl, t, _, 0, _, rfl, rfl, hT, rfl, ?_⟩
    exact ⟨_, _, true, rfl, .of (.str _), rfl, _, rfl, iteT ⟨_, rfl, rfl, _, rfl, ifF (dec_wd .pu .pc) (⟨_, _, true, rfl, .of (.str _), rfl, _, rfl, iteT ⟨_, rfl, rfl, _, rfl, ifT (dec_wd .pu .pu) ⟨_, rfl, t, _, 1, s, rfl, rfl, hT, rfl, _, rfl, t, _, 2, g, rfl, rfl, hT, rfl, _, rfl, t, _, 3, z, rfl, rfl, hT, rfl, fun x dx h1 h2 ne => ⟨x, dx, .pu, s, g, z, rfl, upd_same, rfl, by rw [upd_upd]; exact q x _ (Rw.new h1 h2 ne) h1 ⟨dx, upd_same⟩⟩⟩⟩⟩)⟩⟩
  · refine cut4 (fun _ _ => False) (fun X _ => ?_) (fun _ _ h => h.elim)
    refine ⟨_, rfl, t, _, 0, _, rfl, rfl, hT, rfl, ?_⟩
    exact ⟨_, _, true, rfl, .of (.str _), rfl, _, rfl, iteT ⟨_, rfl, rfl, _, rfl, ifF (dec_wd .ho .pc) (⟨_, _, true, rfl, .of (.str _), rfl, _, rfl, iteT ⟨_, rfl, rfl, _, rfl, ifF (dec_wd .ho .pu) (⟨_, _, true, rfl, .of (.str _), rfl, _, rfl, iteT ⟨_, rfl, rfl, _, rfl, ifT (dec_wd .ho .ho) ⟨_, rfl, t, _, 1, s, rfl, rfl, hT, rfl, _, rfl, t, _, 2, g, rfl, rfl, hT, rfl, _, rfl, t, _, 3, z, rfl, rfl, hT, rfl, fun x dx h1 h2 ne => ⟨x, dx, .ho, s, g, z, rfl, upd_same, rfl, by rw [upd_upd]; exact q x _ (Rw.new h1 h2 ne) h1 ⟨dx, upd_same⟩⟩⟩⟩⟩)⟩⟩)⟩⟩
abbrev sIsF : Stmt := top 14
theorem scIsF : FnScope ["thing"] ["thing"] (defScope sIsF) := ⟨rfl, rfl, rfl, by decide +kernel, rfl, by decide +kernel, by decide +kernel⟩
theorem ok_isf {dV : Value} (F : FunD K "is_fraction" "is_fraction" sIsF dV f fd)
    (b : Bl mg) (ml : mg "len" = none) (mt : mg "tuple" = none)
    (G1 : FnOk P w K mg base CX0 1 g1 gd1 ["thing"] (spWhole K)) (b1 : Binds K gd1 ["thing"] []) (k1 : PySem.W.keepIn K (.ref g1) = true) (m1 : mg "is_whole" = some (.ref g1))
    (G2 : FnOk P w K mg base CX0 1 g2 gd2 ["one", "other"] spGc) (b2 : Binds K gd2 ["one", "other"] []) (k2 : PySem.W.keepIn K (.ref g2) = true) (m2 : mg "greatest_common" = some (.ref g2)) :
    FnOk P w K mg base CX 2 f fd ["thing"] (spIsFV K) := by
  refine F.ok scIsF (fun vs H Q E h => ?_) (fun cdv A outer s H vs Q E hr h => ?_)
  · obtain ⟨v, o, rfl, hz, q⟩ := h
    rfl
  obtain ⟨v, o, rfl, hz, q⟩ := h
  refine ⟨_, (pss_cons (ps_if (PW.pt (pw_or (pt_not (pt_val (pe_isiQ (i := 0) rfl (Or.inl rfl) b.isi mt rfl rfl PyProof.Rows.boot_tuple))) (pw_or1 (pt_cmpR op_ne (pe_callB call_len_seq rfl ml PySem.boot_len (pa_cons (pv 0) pa_nil)) pe_int (nomark _))))) (pss_one (ps_ret pe_bl)) pss_nil)
    (pss_cons (ps_if (PW.pt (pw_or (pt_not (pt_val (pe_call G1 hr rfl m1 k1 b1 .nil pass0 (pa_cons (pe_ix ix_tup (pv 0) pe_int (fun _ _ => rfl)) pa_nil)))) (pw_or1 (pt_not (pt_val (pe_call G1 hr rfl m1 k1 b1 .nil pass0 (pa_cons (pe_ix ix_tup (pv 0) pe_int (fun _ _ => rfl)) pa_nil))))))) (pss_one (ps_ret pe_bl)) pss_nil)
    (pss_one (ps_ret (pe_and (pe_cmpR op_ge (pe_ix ix_tup (pv 0) pe_int (fun _ _ => rfl)) pe_int (nomark _)) (pe_one (pe_cmpR op_eq (pe_call G2 hr rfl m2 k2 b2 .nil pass0 (pa_cons (pe_ix ix_tup (pv 0) pe_int (fun _ _ => rfl)) (pa_cons (pe_ix ix_tup (pv 0) pe_int (fun _ _ => rfl)) pa_nil))) pe_int (nomark _)))))))), ?_⟩
  cases hz with
  | fr fa hp =>
    refine ⟨_, _, true, rfl, .tup fa, rfl, _, rfl, iteF ⟨_, rfl, _, _, rfl, .inr fa, rfl, _, rfl, iteF ?_⟩⟩
    refine rd_ix0 rfl fa ⟨_, rfl, .inl ⟨_, rfl, _, rfl, iteF (rd_ix1 rfl fa ⟨_, rfl, .inl ⟨_, rfl, _, rfl, iteF ?_⟩⟩)⟩⟩
    have h1 := hp.pos
    refine rd_ix1 rfl fa ⟨_, _, rfl, rfl, _, rfl, ifT (decide_eq_true (by omega)) (rd_ix0 rfl fa (rd_ix1 rfl fa ⟨_, _, rfl, rfl, ?_⟩))⟩
    rw [hp.one]
    exact q
  | ty h n => exact ⟨_, _, false, rfl, h, n, _, rfl, iteT q⟩
  | len h => exact ⟨_, _, true, rfl, .tup h, rfl, _, rfl, iteF ⟨_, rfl, _, _, rfl, .inr h, rfl, _, rfl, iteT q⟩⟩
  | n0 h ty n =>
    refine ⟨_, _, true, rfl, .tup h, rfl, _, rfl, iteF ⟨_, rfl, _, _, rfl, .inr h, rfl, _, rfl, iteF ?_⟩⟩
    exact ⟨_, rfl, _, _, 0, _, rfl, rfl, h, rfl, _, rfl, .inr ⟨_, ty, n, _, rfl, iteT q⟩⟩
  | n1 h ty n =>
    refine ⟨_, _, true, rfl, .tup h, rfl, _, rfl, iteF ⟨_, rfl, _, _, rfl, .inr h, rfl, _, rfl, iteF ?_⟩⟩
    exact ⟨_, rfl, _, _, 0, _, rfl, rfl, h, rfl, _, rfl, .inl ⟨_, rfl, _, rfl, iteF ⟨_, rfl, _, _, 1, _, rfl, rfl, h, rfl, _, rfl, .inr ⟨_, ty, n, _, rfl, iteT q⟩⟩⟩⟩
  | fb fa c =>
    refine ⟨_, _, true, rfl, .tup fa, rfl, _, rfl, iteF ⟨_, rfl, _, _, rfl, .inr fa, rfl, _, rfl, iteF ?_⟩⟩
    refine rd_ix0 rfl fa ⟨_, rfl, .inl ⟨_, rfl, _, rfl, iteF (rd_ix1 rfl fa ⟨_, rfl, .inl ⟨_, rfl, _, rfl, iteF ?_⟩⟩)⟩⟩
    rcases c with c | ⟨c, d⟩
    · exact rd_ix1 rfl fa ⟨_, _, rfl, rfl, _, rfl, ifF (decide_eq_false (by omega)) q⟩
    · refine rd_ix1 rfl fa ⟨_, _, rfl, rfl, _, rfl, ifT (decide_eq_true c) (rd_ix0 rfl fa (rd_ix1 rfl fa ⟨_, _, rfl, rfl, ?_⟩))⟩
      rw [decide_eq_false (fun e => d (by injection e))]
      exact q
abbrev sPS : Stmt := top 27
theorem scPS : FnScope ["thing"] ["thing"] (defScope sPS) := ⟨rfl, rfl, rfl, by decide +kernel, rfl, by decide +kernel, by decide +kernel⟩
theorem ok_ps {dV : Value} (F : FunD K "is_piece_size" "is_piece_size" sPS dV f fd)
    {aN : Addr} (fN : ∀ H, Fq K H aN (0, 1)) (mNO : mg "NOUGHT" = some (.ref aN))
    (G1 : FnOk P w K mg base CX0 2 g1 gd1 ["thing"] (spIsF K)) (b1 : Binds K gd1 ["thing"] []) (k1 : PySem.W.keepIn K (.ref g1) = true) (m1 : mg "is_fraction" = some (.ref g1))
    (G2 : FnOk P w K mg base CX0 1 g2 gd2 ["one", "other"] (spUnder K)) (b2 : Binds K gd2 ["one", "other"] []) (k2 : PySem.W.keepIn K (.ref g2) = true) (m2 : mg "under" = some (.ref g2)) :
    FnOk P w K mg base CX 3 f fd ["thing"] (spPS K) := by
  refine F.ok scPS (fun vs H Q E h => ?_) (fun cdv A outer s H vs Q E hr h => ?_)
  · obtain ⟨a, p, n, rfl, fa, hp, h0, hb, hn, q⟩ := h
    rfl
  obtain ⟨a, p, n, rfl, fa, hp, h0, hb, hn, q⟩ := h
  have r1 := hr.mono (show 1 ≤ 2 by omega)
  refine ⟨_, (pss_one (ps_ret (pe_and (pe_call G1 hr rfl m1 k1 b1 .nil pass0 (pa_cons (pv 0) pa_nil)) (pe_one (pe_call G2 r1 rfl m2 k2 b2 .nil pass0 (pa_cons (pe_glob (v := .ref aN) rfl mNO rfl) (pa_cons (pv 0) pa_nil))))))), ?_⟩
  refine ⟨_, rfl, a, p, rfl, fa, hp, _, rfl, iteT ⟨_, rfl, aN, a, _, p, 1, n, rfl, fN _, fa, ⟨show (0 : Nat) < 2 ^ 1 by decide, show (1 : Nat) < 2 ^ 1 by decide⟩, hb, by omega, ?_⟩⟩
  rw [decide_eq_true (show (0 : Int) * p.2 < p.1 * 1 by omega)]
  exact q
abbrev sNB : Stmt := top 32
theorem scNB : FnScope ["thing", "bound"] ["thing", "bound"] (defScope sNB) := ⟨rfl, rfl, rfl, by decide +kernel, rfl, by decide +kernel, by decide +kernel⟩
theorem ok_nb {dV : Value} (F : FunD K "is_number_below" "is_number_below" sNB dV f fd)
    (G1 : FnOk P w K mg base CX0 1 g1 gd1 ["thing"] (spWhole K)) (b1 : Binds K gd1 ["thing"] []) (k1 : PySem.W.keepIn K (.ref g1) = true) (m1 : mg "is_whole" = some (.ref g1)) :
    FnOk P w K mg base CX 2 f fd ["thing", "bound"] spNB := by
  refine F.ok scNB (fun vs H Q E h => ?_) (fun cdv A outer s H vs Q E hr h => ?_)
  · obtain ⟨i, b', rfl, h0, h1, q⟩ := h
    rfl
  obtain ⟨i, b', rfl, h0, h1, q⟩ := h
  refine ⟨_, (pss_one (ps_ret (pe_and (pe_call G1 hr rfl m1 k1 b1 .nil pass0 (pa_cons (pv 0) pa_nil)) (pe_and (pe_cmpR op_ge (pv 0) pe_int (nomark _)) (pe_one (pe_cmpR op_lt (pv 0) (pv 1) (nomark _))))))), ?_⟩
  refine ⟨_, rfl, _, rfl, .inl ⟨i, rfl, _, rfl, iteT ⟨_, rfl, _, _, rfl, rfl, _, rfl, ifT (decide_eq_true h0) ⟨_, rfl, _, rfl, _, _, rfl, rfl, ?_⟩⟩⟩⟩
  show Q (.bl (decide (i < b'))) H
  rw [decide_eq_true h1]
  exact q
abbrev sRS : Stmt := top 35
theorem scRS : FnScope ["word", "size"] ["word", "size"] (defScope sRS) := ⟨rfl, rfl, rfl, by decide +kernel, rfl, by decide +kernel, by decide +kernel⟩
theorem ok_rs {dV : Value} (F : FunD K "refuse_size" "refuse_size" sRS dV f fd)
    (G1 : FnOk P w K mg base CX0 2 g1 gd1 ["thing"] (spIsF K)) (b1 : Binds K gd1 ["thing"] []) (k1 : PySem.W.keepIn K (.ref g1) = true) (m1 : mg "is_fraction" = some (.ref g1))
    (G2 : FnOk P w K mg base CX0 3 g2 gd2 ["thing"] (spPS K)) (b2 : Binds K gd2 ["thing"] []) (k2 : PySem.W.keepIn K (.ref g2) = true) (m2 : mg "is_piece_size" = some (.ref g2)) :
    FnOk P w K mg base CX 4 f fd ["word", "size"] (spRS K) := by
  refine F.ok scRS (fun vs H Q E h => ?_) (fun cdv A outer s H vs Q E hr h => ?_)
  · obtain ⟨k, z, p, rfl, fz, hp, h0, hb, q⟩ := h
    rfl
  obtain ⟨k, z, p, rfl, fz, hp, h0, hb, q⟩ := h
  have r2 := hr.mono (show 2 ≤ 3 by omega)
  refine ⟨_, (pss_cons (ps_if (pt_not (pt_val (pe_call G1 r2 rfl m1 k1 b1 .nil pass0 (pa_cons (pv 1) pa_nil)))) (pss_one ps_never) pss_nil)
    (pss_one (ps_if (PW.pt (pw_and (pt_cmpR op_eq (pv 0) pe_str (nomark _)) (pw_and1 (pt_not (pt_val (pe_call G2 hr rfl m2 k2 b2 .nil pass0 (pa_cons (pv 1) pa_nil))))))) (pss_one ps_never) pss_nil))), ?_⟩
  refine ⟨_, rfl, z, p, rfl, fz, hp, _, rfl, iteF ?_⟩
  cases k
  · exact ⟨_, rfl, rfl, _, rfl, ifT (dec_wd .pc .pc) ⟨_, rfl, z, p, 100, rfl, fz, hp, h0 rfl, hb, by omega, _, rfl, iteF q⟩⟩
  · exact ⟨_, rfl, rfl, _, rfl, ifF (dec_wd .pu .pc) (iteF q)⟩
  · exact ⟨_, rfl, rfl, _, rfl, ifF (dec_wd .ho .pc) (iteF q)⟩
theorem nd_point_many : (["point", "many"] : List Str).Nodup := by decide +kernel
def spRP (K : PySem.W.Frag) : Sp := fun vs H Q _ => ∃ (l : Addr) (i j m : Int), vs = [.ref l, .int m] ∧ SqL K H l [.int i, .int j] ∧ 0 ≤ i ∧ i < m ∧ 0 ≤ j ∧ j < m ∧ ∀ H', Same H H' → Q .non H'
def spRN : Sp := fun vs H Q _ => ∃ k c : Int, vs = [.int k, .int c] ∧ 0 ≤ k ∧ k < c ∧ Q .non H
abbrev sRP : Stmt := top 33
theorem scRP : FnScope ["some", "many"] ["some", "many"] (defScope sRP) := ⟨rfl, rfl, rfl, by decide +kernel, rfl, by decide +kernel, by decide +kernel⟩
theorem ok_rp {dV : Value} (F : FunD K "refuse_points" "refuse_points" sRP dV f fd)
    (ma : mg "all" = none)
    (G1 : FnOk P w K mg base CX0 2 g1 gd1 ["thing", "bound"] spNB) (b1 : Binds K gd1 ["thing", "bound"] []) (k1 : PySem.W.keepIn K (.ref g1) = true) (m1 : mg "is_number_below" = some (.ref g1)) :
    FnOk P w K mg base CX 3 f fd ["some", "many"] (spRP K) := by
  refine F.ok scRP (fun vs H Q E h => ?_) (fun cdv A outer s H vs Q E hr h => ?_)
  · obtain ⟨l, i, j, m, rfl, hl, i0, i1, j0, j1, q⟩ := h
    rfl
  obtain ⟨l, i, j, m, rfl, hl, i0, i1, j0, j1, q⟩ := h
  refine ⟨_, (pss_one (ps_if (pt_not (pt_val (pe_callB (call_all rfl) rfl ma PyProof.Rows.boot_all (pa_cons (pe_comp (nl := 1) (fr := [1]) (Nc := ["point", "many"]) (cl := [("many", s.heap.objs.size + 1)]) rfl ⟨rfl, rfl, by decide +kernel, by decide +kernel, fun x c h => h, has_of rfl, rfl, fun i n h => match i, h with | 0, h => by cases h; exact ⟨1, rfl, rfl, rfl, rfl, .inl rfl⟩ | k + 1, h => by rw [show 1 + (k + 1) = k + 2 by omega] at h; cases h⟩
        (pi_list (pv 0)) (fun C s3 H3 fp pins => (pg_name (i := 0) nd_point_many rfl (Or.inl rfl))) (fun C s3 H3 fp pins => pif_nil)
        (fun C s3 H3 fp pins => (pe_call G1 hr rfl m1 k1 b1 .nil pass0 (pa_cons (pv 0) (pa_cons (pv 1) pa_nil))))) pa_nil)))) (pss_one ps_never) pss_nil)), ?_⟩
  refine ⟨_, rfl, l, rfl, ⟨_, hl⟩, fun D hD => ?_⟩
  have sD := same_new hD (.lst [])
  refine comp_list (xs := [.int i, .int j]) (fun k zs H' => Same H H' ∧ H' D = some (.lst zs) ∧ zs = (List.replicate k true).map V.bl) ⟨sD, upd_same, rfl⟩ (fun k zs H' h => h.2.1) (fun k zs H' _ h => h.1.seq hl) ?_ ?_
  · rintro k zs x H1 hx ⟨s1, e1, rfl⟩ C hC
    have hk : k < 2 := (List.getElem?_eq_some_iff.mp hx).1
    obtain ⟨y, rfl, y0, y1⟩ : ∃ y, x = .int y ∧ 0 ≤ y ∧ y < m := by
      rcases List.mem_cons.mp (List.mem_of_getElem? hx) with z | z
      · exact ⟨i, z, i0, i1⟩
      · exact ⟨j, by simpa using z, j0, j1⟩
    refine ⟨keep1.1, keep1.2, iteT ?_⟩
    refine ⟨_, rfl, _, rfl, y, m, rfl, y0, y1, e1, small1000 (by rw [List.length_map, List.length_replicate]; omega), hC _ _ ⟨s1.change hD, upd_same, ?_⟩⟩
    rw [List.replicate_succ', List.map_append]; rfl
  · rintro zs H1 ⟨s1, e1, rfl⟩
    refine ⟨D, _, rfl, SqL.of e1, _, rfl, ifF ?_ ?_⟩
    · simp
    · exact q _ s1
abbrev sRN : Stmt := top 34
theorem scRN : FnScope ["k", "count"] ["k", "count"] (defScope sRN) := ⟨rfl, rfl, rfl, by decide +kernel, rfl, by decide +kernel, by decide +kernel⟩
theorem ok_rn {dV : Value} (F : FunD K "refuse_number" "refuse_number" sRN dV f fd)
    (G1 : FnOk P w K mg base CX0 2 g1 gd1 ["thing", "bound"] spNB) (b1 : Binds K gd1 ["thing", "bound"] []) (k1 : PySem.W.keepIn K (.ref g1) = true) (m1 : mg "is_number_below" = some (.ref g1)) :
    FnOk P w K mg base CX 3 f fd ["k", "count"] spRN := by
  refine F.ok scRN (fun vs H Q E h => ?_) (fun cdv A outer s H vs Q E hr h => ?_)
  · obtain ⟨k, c, rfl, u0, u1, q⟩ := h
    rfl
  obtain ⟨k, c, rfl, u0, u1, q⟩ := h
  refine ⟨_, (pss_one (ps_if (pt_not (pt_val (pe_call G1 hr rfl m1 k1 b1 .nil pass0 (pa_cons (pv 0) (pa_cons (pv 1) pa_nil))))) (pss_one ps_never) pss_nil)), ?_⟩
  exact ⟨_, rfl, _, rfl, k, c, rfl, u0, u1, _, rfl, iteF q⟩
abbrev sNInit : Stmt := inClass (top 31) 0
theorem scNInit : FnScope ["self", "many"] ["self", "many"] (defScope sNInit) := ⟨rfl, rfl, rfl, by decide +kernel, rfl, by decide +kernel, by decide +kernel⟩
theorem ok_ninit {dV : Value} {CN : Addr} (F : FunD K "__init__" "Net.__init__" sNInit dV f fd) (NTx : NT K mg CN)
    {tM : Tok} (mMP : mg "MOST_POINTS" = some (.int 20 tM))
    (G1 : FnOk P w K mg base CX0 1 g1 gd1 ["thing"] (spWhole K)) (b1 : Binds K gd1 ["thing"] []) (k1 : PySem.W.keepIn K (.ref g1) = true) (m1 : mg "is_whole" = some (.ref g1)) : FnOk P w K mg base CX 2 f fd ["self", "many"] (spNInit CN) := by
  refine F.ok scNInit (fun vs H Q E h => ?_) (fun cdv A outer s H vs Q E hr h => ?_)
  · obtain ⟨n, dx, m, rfl, hn, h1, h20, q⟩ := h
    rfl
  obtain ⟨n, dx, m, rfl, hn, h1, h20, q⟩ := h
  refine ⟨_, (pss_cons (ps_if (PW.pt (pw_or (pt_not (pt_val (pe_call G1 hr rfl m1 k1 b1 .nil pass0 (pa_cons (pv 1) pa_nil)))) (pw_or (pt_cmpR op_lt (pv 1) pe_int (nomark _)) (pw_or1 (pt_cmpR op_gt (pv 1) (pe_glob (v := .int 20) rfl mMP ⟨_, rfl⟩) (nomark _)))))) (pss_one ps_never) pss_nil)
    (pss_cons (ps_fld (pv 0) (pv 1) rfl)
    (pss_one (ps_fld (pv 0) (pe_lst pa_nil) rfl)))), ?_⟩
  refine ⟨_, rfl, _, rfl, .inl ⟨m, rfl, _, rfl, iteF ⟨_, rfl, _, _, rfl, rfl, _, rfl, ifF (decide_eq_false (by omega)) ⟨_, rfl, _, _, rfl, rfl, _, rfl, ifF (decide_eq_false (by omega)) ?_⟩⟩⟩⟩
  refine ⟨_, rfl, _, rfl, n, CN, dx, [], rfl, hn, NTx.cl, NTx.nP, (by show 0 < 1000; decide), ?_⟩
  refine ⟨by show 0 ≤ sizeLine; decide, fun l hl => ?_⟩
  have nl : n ≠ l := fun z => by subst z; rw [upd_same] at hl; cases hl
  have hl0 : H l = none := by rw [upd_ne (Ne.symm nl)] at hl; exact hl
  have l1 := length_putF ("point_count" : Str) (.int m) []
  simp only [List.length_nil] at l1
  refine ⟨_, rfl, n, CN, dx, putF "point_count" (.int m) [], rfl, by rw [upd_ne nl]; exact upd_same, NTx.cl, NTx.nK, by omega, ?_⟩
  refine q l _ hl0 (fun b o e hb => ?_) upd_same (by rw [upd_ne (Ne.symm nl)]; exact upd_same)
  rw [upd_ne hb, upd_ne (ne_of_none e hl0), upd_ne hb]
  exact e
abbrev sMany : Stmt := inClass (top 31) 1
theorem scMany : FnScope ["self"] ["self"] (defScope sMany) := ⟨rfl, rfl, rfl, by decide +kernel, rfl, by decide +kernel, by decide +kernel⟩
theorem ok_many {dV : Value} {CN : Addr} (F : FunD K "many" "Net.many" sMany dV f fd) (NTx : NT K mg CN) : FnOk P w K mg base CX 1 f fd ["self"] (spMany CN K) := by
  refine F.ok scMany (fun vs H Q E h => ?_) (fun cdv A outer s H vs Q E hr h => ?_)
  · obtain ⟨n, l, m, ds, rfl, ⟨⟨dx, hn⟩, ts, hl, hr'⟩, q⟩ := h
    rfl
  obtain ⟨n, l, m, ds, rfl, ⟨⟨dx, hn⟩, ts, hl, hr'⟩, q⟩ := h
  exact ⟨_, (pss_one (ps_ret (pe_fld (pv 0) rfl))), _, rfl, n, CN, dx, _, _, rfl, hn, NTx.cl, NTx.nP, nflds_pc _ _, q⟩
abbrev sCount : Stmt := inClass (top 31) 2
abbrev sNTold : Stmt := inClass (top 31) 6
abbrev sAdd : Stmt := inClass (top 31) 3
theorem scAdd : FnScope ["self", "row", "told"] ["self", "row"] (defScope sAdd) := ⟨rfl, rfl, rfl, by decide +kernel, rfl, by decide +kernel, by decide +kernel⟩
theorem ok_add {dV : Value} {CN : Addr} (F : FunD K "add" "Net.add" sAdd dV f fd) (NTx : NT K mg CN)
    {tR : Tok} (mMR : mg "MOST_ROWS" = some (.int 40 tR)) (ml : mg "len" = none) {gT : Addr} {gdT : FuncData} (T : RT K mg CR CK) (GT : FnOk P w K mg base CX0 2 gT gdT ["self"] (spRTold CK)) (bT : Binds K gdT ["self"] []) (mT : ∀ k, Meth K (CK k) "told" gT)
    (G1 : FnOk P w K mg base CX0 3 g1 gd1 ["some", "many"] (spRP K)) (b1 : Binds K gd1 ["some", "many"] []) (k1 : PySem.W.keepIn K (.ref g1) = true) (m1 : mg "refuse_points" = some (.ref g1))
    (G2 : FnOk P w K mg base CX0 4 g2 gd2 ["word", "size"] (spRS K)) (b2 : Binds K gd2 ["word", "size"] []) (k2 : PySem.W.keepIn K (.ref g2) = true) (m2 : mg "refuse_size" = some (.ref g2)) : FnOk P w K mg base CX 5 f fd ["self", "row"] (spAdd CN K CK) := by
  refine F.ok scAdd (fun vs H Q E h => ?_) (fun cdv A outer s H vs Q E hr h => ?_)
  · obtain ⟨n, l, x, z, m, ds, k, i, j, p, rfl, ⟨⟨dx, hn⟩, ts, hl, hR⟩, rw, fz, ⟨i0, i1, j0, j1, lp, h0, bp⟩, h40, q⟩ := h
    rfl
  obtain ⟨n, l, x, z, m, ds, k, i, j, p, rfl, ⟨⟨dx, hn⟩, ts, hl, hR⟩, rw, fz, ⟨i0, i1, j0, j1, lp, h0, bp⟩, h40, q⟩ := h
  have r2 := hr.mono (show 2 ≤ 4 by omega)
  have r3 := hr.mono (show 3 ≤ 4 by omega)
  refine ⟨_, (pss_cons (ps_set (i := 2) scAdd.nd rfl (Or.inl rfl) (pe_methD0 (f := fun _ => gT) (fd := fun _ => gdT) (sp := fun _ => spRTold CK) (pv 1) T.cl mT (fun _ => GT) r2 (fun _ => bT) .nil pass0))
    (pss_cons (ps_expr (pe_call G1 r3 rfl m1 k1 b1 .nil pass0 (pa_cons (pe_lst (pa_cons (pe_ix ix_tup (pv 2) pe_int (fun _ _ => rfl)) (pa_cons (pe_ix ix_tup (pv 2) pe_int (fun _ _ => rfl)) pa_nil))) (pa_cons (pe_fld (pv 0) rfl) pa_nil))))
    (pss_cons (ps_expr (pe_call G2 hr rfl m2 k2 b2 .nil pass0 (pa_cons (pe_ix ix_tup (pv 2) pe_int (fun _ _ => rfl)) (pa_cons (pe_ix ix_tup (pv 2) pe_int (fun _ _ => rfl)) pa_nil))))
    (pss_cons (ps_if (pt_cmpR op_ge (pe_callB call_len_seq rfl ml PySem.boot_len (pa_cons (pe_fld (pv 0) rfl) pa_nil)) (pe_glob (v := .int 40) rfl mMR ⟨_, rfl⟩) (nomark _)) (pss_one ps_never) pss_nil)
    (pss_cons (ps_expr (pe_bm PySem.F.plainAttrs_list PySem.F.slot_list_append PySem.F.type_list_append mt_append (pe_fld (pv 0) rfl) (pa_cons (pv 2) pa_nil)))
    (pss_one (ps_ret (pe_op op_sub (pe_callB call_len_seq rfl ml PySem.boot_len (pa_cons (pe_fld (pv 0) rfl) pa_nil)) pe_int)))))))), ?_⟩
  obtain ⟨dr, hx⟩ := id rw
  have len := hR.length
  refine ⟨_, rfl, k, x, dr, _, rfl, hx, (rflds_no _ _ _ (by decide +kernel) (by decide +kernel) (by decide +kernel)), x, k, _, _, _, rfl, rw, fun t ht => ?_⟩
  have st := same_new ht (.tup [.str k.wd, .int i, .int j, .ref z])
  have et : SqT K (upd H t (.tup [.str k.wd, .int i, .int j, .ref z])) t [.str k.wd, .int i, .int j, .ref z] := SqT.of upd_same
  generalize upd H t (.tup [.str k.wd, .int i, .int j, .ref z]) = H1a at st et ⊢
  have hn1 := st _ _ hn
  have hl1 := st _ _ hl
  refine ⟨_, rfl, t, _, 1, _, rfl, rfl, et, rfl, _, rfl, t, _, 2, _, rfl, rfl, et, rfl, by show 2 ≤ sizeLine; decide, fun lq hlq => ?_⟩
  have sq := same_new hlq (.lst [.int i, .int j])
  have eq : upd H1a lq (.lst [.int i, .int j]) lq = some (.lst [.int i, .int j]) := upd_same
  generalize upd H1a lq (.lst [.int i, .int j]) = H1b at sq eq ⊢
  have hnb := sq _ _ hn1
  refine ⟨_, rfl, n, CN, dx, _, _, rfl, hnb, NTx.cl, NTx.nP, nflds_pc _ _, lq, i, j, m, rfl, SqL.of eq, i0, i1, j0, j1, fun H1 sc => ?_⟩
  have sqc := sq.trans sc
  have st := st.trans sqc
  have et := sqc.seqT et
  have hn1 := sqc _ _ hn1
  have hl1 := sqc _ _ hl1
  refine ⟨_, rfl, t, _, 0, _, rfl, rfl, et, rfl, _, rfl, t, _, 3, _, rfl, rfl, et, rfl, k, z, p, rfl, st.fq fz, lp, h0, bp, ?_⟩
  refine ⟨_, rfl, n, CN, dx, _, _, rfl, hn1, NTx.cl, NTx.nK, nflds_kept _ _, l, ts, rfl, .inl (SqL.of hl1), _, _, rfl, rfl, _, rfl, ifF (decide_eq_false (by omega)) ?_⟩
  refine ⟨_, rfl, n, CN, dx, _, _, rfl, hn1, NTx.cl, NTx.nK, nflds_kept _ _, .inl ⟨rfl, _, SqL.of hl1⟩, _, rfl, l, ts, .ref t, rfl, rfl, hl1, small1000 (by omega), ?_⟩
  have nn : n ≠ l := ne_of hn1 hl1 (fun z => by cases z)
  have hn2 : upd H1 l (.lst (ts ++ [.ref t])) n = some (.ins CN dx (nflds m l)) := by rw [upd_ne nn]; exact hn1
  have hl2 : upd H1 l (.lst (ts ++ [.ref t])) l = some (.lst (ts ++ [.ref t])) := upd_same
  refine ⟨_, rfl, n, CN, dx, _, _, rfl, hn2, NTx.cl, NTx.nK, nflds_kept _ _, l, _, rfl, .inl (SqL.of hl2), _, _, rfl, rfl, ?_⟩
  show Q (.int (((ts ++ [V.ref t]).length : Int) - 1)) _
  rw [List.length_append, List.length_singleton, len, show (((ds.length + 1 : Nat) : Int) - 1) = (ds.length : Int) by omega]
  refine q _ (st.x.write) ⟨⟨dx, hn2⟩, _, hl2, Rts.upd hl1 ((hR.same st).app (.cons et (st.fq fz) .nil))⟩
abbrev sChange : Stmt := inClass (top 31) 4
theorem scChange : FnScope ["self", "k", "size", "old"] ["self", "k", "size"] (defScope sChange) := ⟨rfl, rfl, rfl, by decide +kernel, rfl, by decide +kernel, by decide +kernel⟩
theorem ok_change {dV : Value} {CN : Addr} (F : FunD K "change" "Net.change" sChange dV f fd) (NTx : NT K mg CN)
    (ml : mg "len" = none)
    (G1 : FnOk P w K mg base CX0 3 g1 gd1 ["k", "count"] spRN) (b1 : Binds K gd1 ["k", "count"] []) (k1 : PySem.W.keepIn K (.ref g1) = true) (m1 : mg "refuse_number" = some (.ref g1))
    (G2 : FnOk P w K mg base CX0 4 g2 gd2 ["word", "size"] (spRS K)) (b2 : Binds K gd2 ["word", "size"] []) (k2 : PySem.W.keepIn K (.ref g2) = true) (m2 : mg "refuse_size" = some (.ref g2)) : FnOk P w K mg base CX 5 f fd ["self", "k", "size"] (spChange CN K) := by
  refine F.ok scChange (fun vs H Q E h => ?_) (fun cdv A outer s H vs Q E hr h => ?_)
  · obtain ⟨n, l, z, m, q', ds, k, i, j, p0, p, rfl, ⟨⟨dx, hn⟩, ts, hl, hR⟩, q0, hq, fz, lp, h0, bp, q⟩ := h
    rfl
  obtain ⟨n, l, z, m, q', ds, k, i, j, p0, p, rfl, ⟨⟨dx, hn⟩, ts, hl, hR⟩, q0, hq, fz, lp, h0, bp, q⟩ := h
  have r2 := hr.mono (show 3 ≤ 4 by omega)
  refine ⟨_, (pss_cons (ps_expr (pe_call G1 r2 rfl m1 k1 b1 .nil pass0 (pa_cons (pv 1) (pa_cons (pe_callB call_len_seq rfl ml PySem.boot_len (pa_cons (pe_fld (pv 0) rfl) pa_nil)) pa_nil))))
    (pss_cons (ps_set (i := 3) scChange.nd rfl (Or.inl rfl) (pe_ix ix_list (pe_fld (pv 0) rfl) (pv 1) (fun _ _ => rfl)))
    (pss_cons (ps_expr (pe_call G2 hr rfl m2 k2 b2 .nil pass0 (pa_cons (pe_ix ix_tup (pv 3) pe_int (fun _ _ => rfl)) (pa_cons (pv 2) pa_nil))))
    (pss_one (ps_asg (pe_tup (pa_cons (pe_ix ix_tup (pv 3) pe_int (fun _ _ => rfl)) (pa_cons (pe_ix ix_tup (pv 3) pe_int (fun _ _ => rfl)) (pa_cons (pe_ix ix_tup (pv 3) pe_int (fun _ _ => rfl)) (pa_cons (pv 2) pa_nil))))) (pg_sub (pe_fld (pv 0) rfl) (pv 1) set_list)))))), ?_⟩
  have len := hR.length
  have lt : q'.toNat < ds.length := (List.getElem?_eq_some_iff.mp hq).1
  obtain ⟨t, z0, et, ht, _⟩ := hR.at hq
  have at_ : atI ts q' = some (.ref t) := by
    have := atI_nat et
    rwa [show ((q'.toNat : Nat) : Int) = q' by omega] at this
  have ix_ : ixN ts.length q' = some q'.toNat := by
    have := ixN_nat (n := ts.length) (k := q'.toNat) (by omega)
    rwa [show ((q'.toNat : Nat) : Int) = q' by omega] at this
  refine ⟨_, rfl, _, rfl, n, CN, dx, _, _, rfl, hn, NTx.cl, NTx.nK, nflds_kept _ _, l, ts, rfl, .inl (SqL.of hl), q', _, rfl, q0, by omega, ?_⟩
  refine ⟨_, rfl, n, CN, dx, _, _, rfl, hn, NTx.cl, NTx.nK, nflds_kept _ _, _, rfl, l, ts, q', _, rfl, rfl, SqL.of hl, at_, ?_⟩
  refine ⟨_, rfl, t, _, 0, _, rfl, rfl, ht, rfl, _, rfl, k, z, p, rfl, fz, lp, h0, bp, ?_⟩
  refine ⟨_, rfl, t, _, 0, _, rfl, rfl, ht, rfl, _, rfl, t, _, 1, _, rfl, rfl, ht, rfl, _, rfl, t, _, 2, _, rfl, rfl, ht, rfl, _, rfl, by show 4 ≤ sizeLine; decide, fun u hu => ?_⟩
  have su := same_new hu (.tup [.str k.wd, .int i, .int j, .ref z])
  have eu : SqT K (upd H u (.tup [.str k.wd, .int i, .int j, .ref z])) u [.str k.wd, .int i, .int j, .ref z] := SqT.of upd_same
  generalize upd H u (.tup [.str k.wd, .int i, .int j, .ref z]) = H1 at su eu ⊢
  have hn1 := su _ _ hn
  have hl1 := su _ _ hl
  refine ⟨_, rfl, n, CN, dx, _, _, rfl, hn1, NTx.cl, NTx.nK, nflds_kept _ _, _, rfl, l, ts, q', q'.toNat, rfl, rfl, hl1, ix_, ?_⟩
  have nn : n ≠ l := ne_of hn1 hl1 (fun z => by cases z)
  refine q _ (su.x.write) ⟨⟨dx, by rw [upd_ne nn]; exact hn1⟩, _, upd_same, Rts.upd hl1 (Rts.set eu (su.fq fz) _ (hR.same su))⟩
theorem nd_told : (["told"] : List Str).Nodup := by decide +kernel
abbrev sRows : Stmt := inClass (top 31) 5
theorem scRows : FnScope ["self"] ["self"] (defScope sRows) := ⟨rfl, rfl, rfl, by decide +kernel, rfl, by decide +kernel, by decide +kernel⟩
theorem ok_rows {dV : Value} {CN : Addr} (F : FunD K "rows" "Net.rows" sRows dV f fd) (NTx : NT K mg CN)
    (G1 : FnOk P w K mg base CX0 3 g1 gd1 ["told"] (spRowOfG K CK)) (b1 : Binds K gd1 ["told"] []) (k1 : PySem.W.keepIn K (.ref g1) = true) (m1 : mg "row_of" = some (.ref g1)) : FnOk P w K mg base CX 4 f fd ["self"] (spRows CN K CK) := by
  refine F.ok scRows (fun vs H Q E h => ?_) (fun cdv A outer s H vs Q E hr h => ?_)
  · obtain ⟨n, l, m, ds, rfl, ⟨⟨dx, hn⟩, ts, hl, hR⟩, h100, q⟩ := h
    rfl
  obtain ⟨n, l, m, ds, rfl, ⟨⟨dx, hn⟩, ts, hl, hR⟩, h100, q⟩ := h
  refine ⟨_, (pss_one (ps_ret (pe_comp (nl := 1) (fr := []) (Nc := ["told"]) (cl := []) rfl ⟨rfl, rfl, by decide +kernel, by decide +kernel, fun x c h => (by cases h), has_of rfl, rfl, fun i n h => (by simp at h)⟩
        (pi_list (pe_fld (pv 0) rfl)) (fun C s3 H3 fp pins => (pg_name (i := 0) nd_told rfl (Or.inl rfl))) (fun C s3 H3 fp pins => pif_nil)
        (fun C s3 H3 fp pins => (pe_call G1 hr rfl m1 k1 b1 .nil pass0 (pa_cons (pv 0) pa_nil)))))), ?_⟩
  have len := hR.length
  refine ⟨_, rfl, n, CN, dx, _, _, rfl, hn, NTx.cl, NTx.nK, nflds_kept _ _, l, rfl, ⟨_, SqL.of hl⟩, fun D hD => ?_⟩
  have sD := same_new hD (.lst [])
  refine comp_list (xs := ts) (fun i zs H' => Same H H' ∧ H' D = some (.lst zs) ∧ Robs CK K H' zs (ds.take i)) ⟨sD, upd_same, .nil⟩ (fun i zs H' h => h.2.1) (fun i zs H' _ h => h.1.seq (SqL.of hl)) ?_ ?_
  · rintro i zs x H1 hx ⟨s1, e1, R1⟩ C hC
    have hi : i < ds.length := by
      have := (List.getElem?_eq_some_iff.mp hx).1
      omega
    obtain ⟨⟨k, u, v, p⟩, hd⟩ : ∃ d, ds[i]? = some d := ⟨_, List.getElem?_eq_getElem hi⟩
    obtain ⟨t, z, et, ht, fz⟩ := hR.at hd
    have ex : x = .ref t := by rw [et] at hx; exact (Option.some.inj hx).symm
    subst ex
    have lz := R1.length
    rw [List.length_take] at lz
    refine ⟨keep1.1, keep1.2, iteT ?_⟩
    refine ⟨_, rfl, t, _, _, _, _, rfl, s1.seqT ht, k, rfl, fun y H2 s2 ny rw => ?_⟩
    have e2 := s2 _ _ e1
    refine ⟨e2, small1000 (by omega), hC _ _ ⟨(s1.trans s2).change hD, upd_same, ?_⟩⟩
    rw [List.take_add_one, hd]
    exact Robs.upd e2 ((R1.same s2).app (.cons rw ((s1.trans s2).fq fz) .nil))
  · rintro zs H1 ⟨s1, e1, R1⟩
    rw [len, List.take_length] at R1
    exact q D zs H1 s1 hD e1 R1
theorem isf_good {g : Addr} {gd : FuncData} (F : FnOk P w K mg base CX0 2 g gd ["thing"] (spIsFV K)) : FnOk P w K mg base CX0 2 g gd ["thing"] (spIsF K) :=
  F.weak fun vs H Q E h => by
    obtain ⟨a, p, rfl, f, l, q⟩ := h
    exact ⟨_, some p, rfl, .fr f l, q⟩
abbrev sOver : Stmt := top 19
theorem scOver : FnScope ["one", "other"] ["one", "other"] (defScope sOver) := ⟨rfl, rfl, rfl, by decide +kernel, rfl, by decide +kernel, by decide +kernel⟩
theorem ok_over {dV : Value} (F : FunD K "over" "over" sOver dV f fd)
    (G1 : FnOk P w K mg base CX0 2 g1 gd1 ["top", "bottom"] spFrac) (b1 : Binds K gd1 ["top", "bottom"] []) (k1 : PySem.W.keepIn K (.ref g1) = true) (m1 : mg "fraction" = some (.ref g1)) :
    FnOk P w K mg base CX 3 f fd ["one", "other"] (spDiv1 K) := by
  refine F.ok scOver (fun vs H Q E h => ?_) (fun cdv A outer s H vs Q E hr h => ?_)
  · obtain ⟨a, b, p, q, n, m, rfl, ha, hb, lp, lq, h0, bp, bq, hn, z⟩ := h
    rfl
  obtain ⟨a, b, p, q, n, m, rfl, ha, hb, lp, lq, h0, bp, bq, hn, z⟩ := h
  refine ⟨_, (pss_cons (ps_if (pt_cmpR op_eq (pe_ix ix_tup (pv 1) pe_int (fun _ _ => rfl)) pe_int (nomark _)) (pss_one ps_never) pss_nil)
    (pss_one (ps_ret (pe_call G1 hr rfl m1 k1 b1 .nil pass0 (pa_cons (pe_op op_mulB (pe_ix ix_tup (pv 0) pe_int (fun _ _ => rfl)) (pe_ix ix_tup (pv 1) pe_int (fun _ _ => rfl))) (pa_cons (pe_op op_mulB (pe_ix ix_tup (pv 0) pe_int (fun _ _ => rfl)) (pe_ix ix_tup (pv 1) pe_int (fun _ _ => rfl))) pa_nil)))))), ?_⟩
  refine rd_ix0 rfl hb ⟨rfl, _, rfl, ?_⟩
  rw [decide_eq_false (fun e => absurd (show q.1 = 0 by injection e) (by omega))]
  refine iteF ?_
  refine rd_ix0 rfl ha (rd_ix1 rfl hb (rd_mulB bp.a bq.b (by omega) (by omega) ?_))
  exact rd_ix1 rfl ha (rd_ix0 rfl hb (rd_mulB bp.b bq.a (by omega) (by omega) ⟨_, _, n + m, rfl, Mq.over_ne lp (by omega), bp.b.mul bq.a, by omega, z⟩))
end
end K65

set_option Elab.async false
set_option linter.all false
set_option maxRecDepth 100000
set_option maxHeartbeats 4000000
namespace K65
open PySem L2
section
variable {P : Program} {w : World} {K : PySem.W.Frag} {mg : Str → Option Value} {base : Heap} {f g1 g2 g3 g4 g5 g6 g7 g8 : Addr} {fd gd1 gd2 gd3 gd4 gd5 gd6 gd7 gd8 : FuncData} {CX : CXT}
variable {CR : Addr} {CK : Kd → Addr} {fW fJ fT fS : Kd → Addr} {fdW fdJ fdT fdS : Kd → FuncData}
abbrev sRaise : Stmt := top 50
theorem scRaise : FnScope ["line", "column", "amount"] ["line", "column", "amount"] (defScope sRaise) := ⟨rfl, rfl, rfl, by decide +kernel, rfl, by decide +kernel, by decide +kernel⟩
theorem ok_raise {dV : Value} (F : FunD K "raise_at" "raise_at" sRaise dV f fd)
    (G1 : FnOk P w K mg base CX0 3 g1 gd1 ["one", "other"] (spTwo K Mq.plus)) (b1 : Binds K gd1 ["one", "other"] []) (k1 : PySem.W.keepIn K (.ref g1) = true) (m1 : mg "plus" = some (.ref g1)) :
    FnOk P w K mg base CX 4 f fd ["line", "column", "amount"] (spRaise K) := by
  refine F.ok scRaise (fun vs H Q E h => ?_) (fun cdv A outer s H vs Q E hr h => ?_)
  · obtain ⟨l, z, j, xs, ps, a, n, m, rfl, hl, hF, hj, p1, bp, fz, a1, ba, hn, q⟩ := h
    rfl
  obtain ⟨l, z, j, xs, ps, a, n, m, rfl, hl, hF, hj, p1, bp, fz, a1, ba, hn, q⟩ := h
  refine ⟨_, (pss_one (ps_asg (pe_call G1 hr rfl m1 k1 b1 .nil pass0 (pa_cons (pe_ix ix_list (pv 0) (pv 1) (fun _ _ => rfl)) (pa_cons (pv 2) pa_nil))) (pg_sub (pv 0) (pv 1) set_list))), ?_⟩
  have lx := hF.length
  obtain ⟨u, eu, fu⟩ := hF.at (getQ2 hj)
  refine ⟨_, rfl, _, rfl, l, xs, _, _, rfl, rfl, SqL.of hl, atI_nat eu, _, rfl, u, z, _, a, n, m, rfl, fu, fz, p1, a1, bp, ba, hn, fun v H1 s1 e1 => ?_⟩
  exact ⟨_, rfl, _, rfl, l, xs, _, j, rfl, rfl, s1 _ _ hl, ixN_nat (by omega), q v H1 s1 (Fq.of e1)⟩
abbrev sEnter : Stmt := top 49
theorem scEnter : FnScope ["matrix", "row", "column", "amount"] ["matrix", "row", "column", "amount"] (defScope sEnter) := ⟨rfl, rfl, rfl, by decide +kernel, rfl, by decide +kernel, by decide +kernel⟩
theorem ok_enter {dV : Value} (F : FunD K "enter_stream" "enter_stream" sEnter dV f fd)
    (T : RT K mg CR CK) {aN : Addr} (fN : ∀ H, Fq K H aN (0, 1)) (mNO : mg "NOUGHT" = some (.ref aN))
    (G1 : FnOk P w K mg base CX0 4 g1 gd1 ["line", "column", "amount"] (spRaise K)) (b1 : Binds K gd1 ["line", "column", "amount"] []) (k1 : PySem.W.keepIn K (.ref g1) = true) (m1 : mg "raise_at" = some (.ref g1))
    (G2 : FnOk P w K mg base CX0 3 g2 gd2 ["one", "other"] (spTwo K Mq.minus)) (b2 : Binds K gd2 ["one", "other"] []) (k2 : PySem.W.keepIn K (.ref g2) = true) (m2 : mg "minus" = some (.ref g2)) :
    FnOk P w K mg base CX 5 f fd ["matrix", "row", "column", "amount"] (spEnter K CK) := by
  refine F.ok scEnter (fun vs H Q E h => ?_) (fun cdv A outer s H vs Q E hr h => ?_)
  · obtain ⟨D, x, z, zz, as, M, ⟨k0, u, v, p⟩, w, n, k, c, a, rfl, mx, mb, rw, pt, hc, fz, la, ba, hn, q⟩ := h
    rfl
  obtain ⟨D, x, z, zz, as, M, ⟨k0, u, v, p⟩, w, n, k, c, a, rfl, mx, mb, rw, pt, hc, fz, la, ba, hn, q⟩ := h
  have r3 := hr.mono (show 3 ≤ 4 by omega)
  refine ⟨_, (pss_cons (ps_expr (pe_call G1 hr rfl m1 k1 b1 .nil pass0 (pa_cons (pe_ix ix_list (pv 0) (pe_fld (pv 1) rfl) (fun _ _ => rfl)) (pa_cons (pv 2) (pa_cons (pv 3) pa_nil)))))
    (pss_one (ps_expr (pe_call G1 hr rfl m1 k1 b1 .nil pass0 (pa_cons (pe_ix ix_list (pv 0) (pe_fld (pv 1) rfl) (fun _ _ => rfl)) (pa_cons (pv 2) (pa_cons (pe_call G2 r3 rfl m2 k2 b2 .nil pass0 (pa_cons (pe_glob (v := .ref aN) rfl mNO rfl) (pa_cons (pv 3) pa_nil))) pa_nil))))))), ?_⟩
  obtain ⟨i0, i1, j0, j1⟩ : PtOk (w : Int) u v := pt
  obtain ⟨uN, rfl⟩ : ∃ uN : Nat, u = (uN : Int) := ⟨u.toNat, by omega⟩
  obtain ⟨vN, rfl⟩ : ∃ vN : Nat, v = (vN : Int) := ⟨v.toNat, by omega⟩
  have hu' : uN < w := by omega
  have hv' : vN < w := by omega
  obtain ⟨ln, bn, _⟩ := neg_ok la ba
  obtain ⟨dx, hx⟩ := id rw
  obtain ⟨e1, m1, w1⟩ := mb.row hu'
  obtain ⟨e2, l2, b2⟩ := mb.at hu' hc
  have lam := mx.la
  obtain ⟨a1, ha1⟩ : ∃ a1, as[uN]? = some a1 := ⟨_, List.getElem?_eq_getElem (by rw [lam, mb.h]; exact hu')⟩
  obtain ⟨xs, hxs, hF⟩ := mx.r uN a1 _ ha1 e1
  have at1 : atI (as.map V.ref) (uN : Int) = some (.ref a1) := atI_nat (by rw [List.getElem?_map, ha1]; rfl)
  refine ⟨_, rfl, _, rfl, x, CK _, _, _, _, rfl, hx, T.cl _, T.nS _, rflds_start _ _ _, D, _, _, _, rfl, rfl, SqL.of mx.d, at1, _, rfl, _, rfl, a1, z, c, xs, _, a, n, k, rfl, hxs, hF, by rw [w1]; exact hc, l2.pos, b2, fz, la.pos, ba, by omega, fun v1 H1 s1 f1 => ?_⟩
  obtain ⟨mx2, sx2⟩ := mx.set (j := c) ha1 e1 hxs hF s1 f1
  have mb2 := mb.rz hu' hc la ba
  generalize upd H1 a1 (.lst (xs.set c (.ref v1))) = H2 at mx2 sx2 ⊢
  have mx2 : Mx K H2 D as (rz M uN c a) := mx2
  have ls := mx.lsts
  have fz2 : Fq K H2 z a := sx2.seqT ls fz
  obtain ⟨dx2, hx2⟩ := id (sx2.rw ls rw)
  obtain ⟨e3, m3, w3⟩ := mb2.row hv'
  obtain ⟨e4, l4, b4⟩ := mb2.at hv' hc
  obtain ⟨a2, ha2⟩ : ∃ a2, as[vN]? = some a2 := ⟨_, List.getElem?_eq_getElem (by rw [lam, mb.h]; exact hv')⟩
  obtain ⟨xs2, hxs2, hF2⟩ := mx2.r vN a2 _ ha2 e3
  have at2 : atI (as.map V.ref) (vN : Int) = some (.ref a2) := atI_nat (by rw [List.getElem?_map, ha2]; rfl)
  have b01 : Mq.Bd 1 (0, 1) := ⟨show (0 : Nat) < 2 ^ 1 by decide, show (1 : Nat) < 2 ^ 1 by decide⟩
  refine ⟨_, rfl, _, rfl, x, CK _, _, _, _, rfl, hx2, T.cl _, T.nG _, rflds_goal _ _ _, D, _, _, _, rfl, rfl, SqL.of mx2.d, at2, _, rfl, _, rfl, aN, z, (0, 1), a, 1, k, rfl, fN _, fz2, by decide, la.pos, b01, ba, by omega, fun v3 H3 s3 e5 => ?_⟩
  refine ⟨a2, v3, c, xs2, _, _, n + k + 1, k + 2, rfl, s3 _ _ hxs2, hF2.same s3, by rw [w3]; exact hc, l4.pos, b4, Fq.of e5, ln.pos, bn, by omega, fun v4 H4 s4 f4 => ?_⟩
  obtain ⟨mx3, sx3⟩ := (mx2.same s3).set (j := c) ha2 e3 (s3 _ _ hxs2) (hF2.same s3) s4 f4
  exact q _ (sx2.trans (s3.sx.trans sx3)) mx3
abbrev sEnterP : Stmt := top 46
theorem scEnterP : FnScope ["matrix", "row", "share"] ["matrix", "row"] (defScope sEnterP) := ⟨rfl, rfl, rfl, by decide +kernel, rfl, by decide +kernel, by decide +kernel⟩
theorem ok_enterp {dV : Value} (F : FunD K "enter_piece" "enter_piece" sEnterP dV f fd)
    (T : RT K mg CR CK) {aN aO : Addr} (fN : ∀ H, Fq K H aN (0, 1)) (mNO : mg "NOUGHT" = some (.ref aN)) (fO : ∀ H, Fq K H aO (1, 1)) (mON : mg "ONE" = some (.ref aO))
    (G1 : FnOk P w K mg base CX0 3 g1 gd1 ["one", "other"] (spDiv1 K)) (b1 : Binds K gd1 ["one", "other"] []) (k1 : PySem.W.keepIn K (.ref g1) = true) (m1 : mg "over" = some (.ref g1))
    (G2 : FnOk P w K mg base CX0 5 g2 gd2 ["matrix", "row", "column", "amount"] (spEnter K CK)) (b2 : Binds K gd2 ["matrix", "row", "column", "amount"] []) (k2 : PySem.W.keepIn K (.ref g2) = true) (m2 : mg "enter_stream" = some (.ref g2))
    (G3 : FnOk P w K mg base CX0 3 g3 gd3 ["one", "other"] (spTwo K Mq.minus)) (b3 : Binds K gd3 ["one", "other"] []) (k3 : PySem.W.keepIn K (.ref g3) = true) (m3 : mg "minus" = some (.ref g3)) :
    FnOk P w K mg base CX 6 f fd ["matrix", "row"] (spEnterP K CK) := by
  refine F.ok scEnterP (fun vs H Q E h => ?_) (fun cdv A outer s H vs Q E hr h => ?_)
  · obtain ⟨D, x, zz, as, M, ⟨k0, u, v, p⟩, w, n, k, rfl, mx, mb, rw, fp, pt, lp, p0, bp, hn, q⟩ := h
    rfl
  obtain ⟨D, x, zz, as, M, ⟨k0, u, v, p⟩, w, n, k, rfl, mx, mb, rw, fp, pt, lp, p0, bp, hn, q⟩ := h
  have r3 := hr.mono (show 3 ≤ 5 by omega)
  refine ⟨_, (pss_cons (ps_set (i := 2) scEnterP.nd rfl (Or.inl rfl) (pe_call G1 r3 rfl m1 k1 b1 .nil pass0 (pa_cons (pe_glob (v := .ref aO) rfl mON rfl) (pa_cons (pe_fld (pv 1) rfl) pa_nil))))
    (pss_cons (ps_expr (pe_call G2 hr rfl m2 k2 b2 .nil pass0 (pa_cons (pv 0) (pa_cons (pv 1) (pa_cons (pe_fld (pv 1) rfl) (pa_cons (pv 2) pa_nil))))))
    (pss_one (ps_expr (pe_call G2 hr rfl m2 k2 b2 .nil pass0 (pa_cons (pv 0) (pa_cons (pv 1) (pa_cons (pe_fld (pv 1) rfl) (pa_cons (pe_call G3 r3 rfl m3 k3 b3 .nil pass0 (pa_cons (pe_glob (v := .ref aN) rfl mNO rfl) (pa_cons (pv 2) pa_nil))) pa_nil))))))))), ?_⟩
  have lp : Mq.Low p := lp
  have p0 : 0 < p.1 := p0
  have bp : Mq.Bd k p := bp
  have fp : Fq K H zz p := fp
  obtain ⟨i0, i1, j0, j1⟩ : PtOk (w : Int) u v := pt
  obtain ⟨uN, rfl⟩ : ∃ uN : Nat, u = (uN : Int) := ⟨u.toNat, by omega⟩
  obtain ⟨vN, rfl⟩ : ∃ vN : Nat, v = (vN : Int) := ⟨v.toNat, by omega⟩
  obtain ⟨ls, bs, _⟩ := share_ok lp p0 bp
  obtain ⟨ln, bn, _⟩ := neg_ok ls bs
  have pt' : PtOk (w : Int) (uN : Int) (vN : Int) := ⟨i0, i1, j0, j1⟩
  obtain ⟨dx, hx⟩ := id rw
  refine ⟨_, rfl, x, CK _, _, _, _, rfl, hx, T.cl _, T.nZ _, rflds_size _ _ _, aO, zz, (1, 1), p, 1, k, rfl, fO _, fp, h11, lp.pos, p0, one_bd, bp, by omega, fun s' H1 s1 e1 => ?_⟩
  have fs : Fq K H1 s' (Mq.over (1, 1) p) := Fq.of e1
  have rw1 := rw.same s1
  obtain ⟨dx1, hx1⟩ := id rw1
  have mx1 := mx.same s1
  refine ⟨_, rfl, _, rfl, _, rfl, x, CK _, _, _, _, rfl, hx1, T.cl _, T.nS _, rflds_start _ _ _, _, rfl, D, x, s', _, as, M, (k0, (uN : Int), (vN : Int), p), w, n, k + 1, uN, _, rfl, mx1, mb, rw1, pt', by omega, fs, ls, bs, by omega, fun H2 sx2 mx2 => ?_⟩
  have lst := mx1.lsts
  have fs2 : Fq K H2 s' (Mq.over (1, 1) p) := sx2.seqT lst fs
  have rw2 := sx2.rw lst rw1
  obtain ⟨dx2, hx2⟩ := id rw2
  obtain ⟨mb2, _⟩ := en_ok (d := (k0, (uN : Int), (vN : Int), p)) mb pt' (c := uN) (by omega) ls bs
  have b01 : Mq.Bd 1 (0, 1) := ⟨show (0 : Nat) < 2 ^ 1 by decide, show (1 : Nat) < 2 ^ 1 by decide⟩
  refine ⟨_, rfl, _, rfl, _, rfl, x, CK _, _, _, _, rfl, hx2, T.cl _, T.nG _, rflds_goal _ _ _, _, rfl, aN, s', (0, 1), _, 1, k + 1, rfl, fN _, fs2, by decide, ls.pos, b01, bs, by omega, fun v3 H3 s3 e3 => ?_⟩
  refine ⟨D, x, v3, _, as, _, (k0, (uN : Int), (vN : Int), p), w, n + 2 * (k + 1) + 4, k + 3, vN, _, rfl, mx2.same s3, mb2, rw2.same s3, pt', by omega, Fq.of e3, ln, bn, by omega, fun H4 sx4 mx4 => ?_⟩
  exact q H4 (s1.sx.trans (sx2.trans (s3.sx.trans sx4))) mx4
abbrev sEnterU : Stmt := top 47
theorem scEnterU : FnScope ["right", "row"] ["right", "row"] (defScope sEnterU) := ⟨rfl, rfl, rfl, by decide +kernel, rfl, by decide +kernel, by decide +kernel⟩
theorem ok_enteru {dV : Value} (F : FunD K "enter_push" "enter_push" sEnterU dV f fd)
    (T : RT K mg CR CK) {aN : Addr} (fN : ∀ H, Fq K H aN (0, 1)) (mNO : mg "NOUGHT" = some (.ref aN))
    (G1 : FnOk P w K mg base CX0 4 g1 gd1 ["line", "column", "amount"] (spRaise K)) (b1 : Binds K gd1 ["line", "column", "amount"] []) (k1 : PySem.W.keepIn K (.ref g1) = true) (m1 : mg "raise_at" = some (.ref g1))
    (G2 : FnOk P w K mg base CX0 3 g2 gd2 ["one", "other"] (spTwo K Mq.minus)) (b2 : Binds K gd2 ["one", "other"] []) (k2 : PySem.W.keepIn K (.ref g2) = true) (m2 : mg "minus" = some (.ref g2)) :
    FnOk P w K mg base CX 5 f fd ["right", "row"] (spEnterU K CK) := by
  refine F.ok scEnterU (fun vs H Q E h => ?_) (fun cdv A outer s H vs Q E hr h => ?_)
  · obtain ⟨R, x, zz, ys, rs, ⟨k0, u, v, p⟩, w, n, k, rfl, eR, hF, lb, rw, fp, pt, lp, bp, hn, q⟩ := h
    rfl
  obtain ⟨R, x, zz, ys, rs, ⟨k0, u, v, p⟩, w, n, k, rfl, eR, hF, lb, rw, fp, pt, lp, bp, hn, q⟩ := h
  have r3 := hr.mono (show 3 ≤ 4 by omega)
  refine ⟨_, (pss_cons (ps_expr (pe_call G1 hr rfl m1 k1 b1 .nil pass0 (pa_cons (pv 0) (pa_cons (pe_fld (pv 1) rfl) (pa_cons (pe_call G2 r3 rfl m2 k2 b2 .nil pass0 (pa_cons (pe_glob (v := .ref aN) rfl mNO rfl) (pa_cons (pe_fld (pv 1) rfl) pa_nil))) pa_nil)))))
    (pss_one (ps_expr (pe_call G1 hr rfl m1 k1 b1 .nil pass0 (pa_cons (pv 0) (pa_cons (pe_fld (pv 1) rfl) (pa_cons (pe_fld (pv 1) rfl) pa_nil))))))), ?_⟩
  have lp : Mq.Low p := lp
  have bp : Mq.Bd k p := bp
  have fp : Fq K H zz p := fp
  obtain ⟨i0, i1, j0, j1⟩ : PtOk (w : Int) u v := pt
  obtain ⟨uN, rfl⟩ : ∃ uN : Nat, u = (uN : Int) := ⟨u.toNat, by omega⟩
  obtain ⟨vN, rfl⟩ : ∃ vN : Nat, v = (vN : Int) := ⟨v.toNat, by omega⟩
  obtain ⟨ln, bn, _⟩ := neg_ok lp bp
  obtain ⟨dx, hx⟩ := id rw
  obtain ⟨_, l1, b1⟩ := lb.at (j := uN) (by omega)
  have b01 : Mq.Bd 1 (0, 1) := ⟨show (0 : Nat) < 2 ^ 1 by decide, show (1 : Nat) < 2 ^ 1 by decide⟩
  refine ⟨_, rfl, _, rfl, x, CK _, _, _, _, rfl, hx, T.cl _, T.nS _, rflds_start _ _ _, _, rfl, x, CK _, _, _, _, rfl, hx, T.cl _, T.nZ _, rflds_size _ _ _, aN, zz, (0, 1), p, 1, k, rfl, fN _, fp, by decide, lp.pos, b01, bp, by omega, fun v1 H1 s1 e1 => ?_⟩
  refine ⟨R, v1, uN, ys, rs, _, n, k + 2, rfl, s1 _ _ eR, hF.same s1, by rw [lb.w]; omega, l1.pos, b1, Fq.of e1, ln.pos, bn, by omega, fun v2 H2 s2 f2 => ?_⟩
  have s12 := s1.trans s2
  have eR2 := s12 _ _ eR
  have F3 := (Fqs.set f2 uN (hF.same s12)).upd (o := .lst (ys.set uN (.ref v2))) eR2
  have e3 : upd H2 R (.lst (ys.set uN (.ref v2))) R = some (.lst (ys.set uN (.ref v2))) := upd_same
  have sx3 : SX [R] H (upd H2 R (.lst (ys.set uN (.ref v2)))) := s12.sx.write (by simp)
  have fp3 : Fq K (upd H2 R (.lst (ys.set uN (.ref v2)))) zz p := SqT.upd (s12.fq fp) eR2
  have rw3 := (rw.same s12).upd (o := .lst (ys.set uN (.ref v2))) eR2
  generalize upd H2 R (.lst (ys.set uN (.ref v2))) = H3 at F3 e3 sx3 fp3 rw3 ⊢
  have lb3 := lb.rz (j := uN) (by omega) ln bn
  have F3 : Fqs K H3 (ys.set uN (.ref v2)) (rzl rs uN (Mq.minus (0, 1) p)) := F3
  obtain ⟨_, l4, b4⟩ := lb3.at (j := vN) (by omega)
  obtain ⟨dx3, hx3⟩ := id rw3
  refine ⟨_, rfl, _, rfl, x, CK _, _, _, _, rfl, hx3, T.cl _, T.nG _, rflds_goal _ _ _, _, rfl, x, CK _, _, _, _, rfl, hx3, T.cl _, T.nZ _, rflds_size _ _ _, R, zz, vN, _, _, p, n + (k + 2) + 1, k, rfl, e3, F3, by rw [lb3.w]; omega, l4.pos, b4, fp3, lp.pos, bp, by omega, fun v5 H5 s5 f5 => ?_⟩
  refine q _ _ (sx3.trans (s5.sx.write (by simp))) upd_same ?_
  exact (Fqs.set f5 vN (F3.same s5)).upd (s5 _ _ e3)
abbrev sEnterH : Stmt := top 48
theorem scEnterH : FnScope ["matrix", "right", "row", "column"] ["matrix", "right", "row", "column"] (defScope sEnterH) := ⟨rfl, rfl, rfl, by decide +kernel, rfl, by decide +kernel, by decide +kernel⟩
theorem ok_enterh {dV : Value} (F : FunD K "enter_hold" "enter_hold" sEnterH dV f fd)
    (T : RT K mg CR CK) {aN aO : Addr} (fN : ∀ H, Fq K H aN (0, 1)) (mNO : mg "NOUGHT" = some (.ref aN)) (fO : ∀ H, Fq K H aO (1, 1)) (mON : mg "ONE" = some (.ref aO))
    (G1 : FnOk P w K mg base CX0 5 g1 gd1 ["matrix", "row", "column", "amount"] (spEnter K CK)) (b1 : Binds K gd1 ["matrix", "row", "column", "amount"] []) (k1 : PySem.W.keepIn K (.ref g1) = true) (m1 : mg "enter_stream" = some (.ref g1))
    (G2 : FnOk P w K mg base CX0 4 g2 gd2 ["line", "column", "amount"] (spRaise K)) (b2 : Binds K gd2 ["line", "column", "amount"] []) (k2 : PySem.W.keepIn K (.ref g2) = true) (m2 : mg "raise_at" = some (.ref g2))
    (G3 : FnOk P w K mg base CX0 3 g3 gd3 ["one", "other"] (spTwo K Mq.minus)) (b3 : Binds K gd3 ["one", "other"] []) (k3 : PySem.W.keepIn K (.ref g3) = true) (m3 : mg "minus" = some (.ref g3)) :
    FnOk P w K mg base CX 6 f fd ["matrix", "right", "row", "column"] (spEnterH K CK) := by
  refine F.ok scEnterH (fun vs H Q E h => ?_) (fun cdv A outer s H vs Q E hr h => ?_)
  · obtain ⟨D, R, x, zz, as, M, ys, rs, ⟨k0, u, v, p⟩, w, n, c, rfl, mx, mb, eR, hFR, lr, nRD, nRa, rw, fp, pt, hc, hn, q⟩ := h
    rfl
  obtain ⟨D, R, x, zz, as, M, ys, rs, ⟨k0, u, v, p⟩, w, n, c, rfl, mx, mb, eR, hFR, lr, nRD, nRa, rw, fp, pt, hc, hn, q⟩ := h
  have r3 := hr.mono (show 3 ≤ 5 by omega)
  have r4 := hr.mono (show 4 ≤ 5 by omega)
  refine ⟨_, (pss_cons (ps_expr (pe_call G1 hr rfl m1 k1 b1 .nil pass0 (pa_cons (pv 0) (pa_cons (pv 2) (pa_cons (pv 3) (pa_cons (pe_glob (v := .ref aO) rfl mON rfl) pa_nil))))))
    (pss_cons (ps_expr (pe_call G2 r4 rfl m2 k2 b2 .nil pass0 (pa_cons (pe_ix ix_list (pv 0) (pv 3) (fun _ _ => rfl)) (pa_cons (pe_fld (pv 2) rfl) (pa_cons (pe_glob (v := .ref aO) rfl mON rfl) pa_nil)))))
    (pss_cons (ps_expr (pe_call G2 r4 rfl m2 k2 b2 .nil pass0 (pa_cons (pe_ix ix_list (pv 0) (pv 3) (fun _ _ => rfl)) (pa_cons (pe_fld (pv 2) rfl) (pa_cons (pe_call G3 r3 rfl m3 k3 b3 .nil pass0 (pa_cons (pe_glob (v := .ref aN) rfl mNO rfl) (pa_cons (pe_glob (v := .ref aO) rfl mON rfl) pa_nil))) pa_nil)))))
    (pss_one (ps_asg (pe_fld (pv 2) rfl) (pg_sub (pv 1) (pv 3) set_list)))))), ?_⟩
  have fp : Fq K H zz p := fp
  obtain ⟨i0, i1, j0, j1⟩ : PtOk (w : Int) u v := pt
  obtain ⟨uN, rfl⟩ : ∃ uN : Nat, u = (uN : Int) := ⟨u.toNat, by omega⟩
  obtain ⟨vN, rfl⟩ : ∃ vN : Nat, v = (vN : Int) := ⟨v.toNat, by omega⟩
  have pt' : PtOk (w : Int) (uN : Int) (vN : Int) := ⟨i0, i1, j0, j1⟩
  obtain ⟨ln, bn, _⟩ := neg_ok one_low one_bd
  have lam := mx.la
  refine ⟨_, rfl, _, rfl, _, rfl, D, x, aO, _, as, M, (k0, (uN : Int), (vN : Int), p), w, n, 1, c, (1, 1), rfl, mx, mb, rw, pt', hc, fO _, one_low, one_bd, by omega, fun H1 sx1 mx1 => ?_⟩
  have lst := mx.lsts
  have rw1 := sx1.rw lst rw
  have fp1 : Fq K H1 zz p := sx1.seqT lst fp
  have eR1 := sx1 _ _ eR nRa
  have FR1 := SX.fqs lst sx1 hFR
  obtain ⟨mb1, _⟩ := en_ok (d := (k0, (uN : Int), (vN : Int), p)) mb pt' hc one_low one_bd
  generalize hM1 : en M (k0, (uN : Int), (vN : Int), p) c (1, 1) = M1 at mx1 mb1
  -- matrix[column][start]
  obtain ⟨ac, hac⟩ : ∃ ac, as[c]? = some ac := ⟨_, List.getElem?_eq_getElem (by rw [lam, mb.h]; exact hc)⟩
  have atc : atI (as.map V.ref) (c : Int) = some (.ref ac) := atI_nat (by rw [List.getElem?_map, hac]; rfl)
  obtain ⟨e1, m1, w1⟩ := mb1.row hc
  obtain ⟨_, l2, b2⟩ := mb1.at hc (j := uN) (by omega)
  obtain ⟨xs, hxs, hF⟩ := mx1.r c ac _ hac e1
  obtain ⟨dx1, hx1⟩ := id rw1
  refine ⟨_, rfl, _, rfl, D, _, _, _, rfl, rfl, SqL.of mx1.d, atc, _, rfl, x, CK _, _, _, _, rfl, hx1, T.cl _, T.nS _, rflds_start _ _ _, ac, aO, uN, xs, _, (1, 1), n + 2 * 1 + 4, 1, rfl, hxs, hF, by rw [w1]; omega, l2.pos, b2, fO _, h11, one_bd, by omega, fun v1 H2 s2 f2 => ?_⟩
  obtain ⟨mx3, sx3⟩ := mx1.set (j := uN) hac e1 hxs hF s2 f2
  have lst1 := mx1.lsts
  generalize upd H2 ac (.lst (xs.set uN (.ref v1))) = H3 at mx3 sx3 ⊢
  have mb3 := mb1.rz hc (j := uN) (by omega) one_low one_bd
  have mx3 : Mx K H3 D as (rz M1 c uN (1, 1)) := mx3
  have rw3 := sx3.rw lst1 rw1
  have fp3 : Fq K H3 zz p := sx3.seqT lst1 fp1
  have eR3 := sx3 _ _ eR1 nRa
  have FR3 := SX.fqs lst1 sx3 FR1
  generalize hM3 : rz M1 c uN (1, 1) = M3 at mx3 mb3
  -- matrix[column][goal]
  obtain ⟨e3, m3, w3⟩ := mb3.row hc
  obtain ⟨_, l4, b4⟩ := mb3.at hc (j := vN) (by omega)
  obtain ⟨xs3, hxs3, hF3⟩ := mx3.r c ac _ hac e3
  obtain ⟨dx3, hx3⟩ := id rw3
  refine ⟨_, rfl, _, rfl, D, _, _, _, rfl, rfl, SqL.of mx3.d, atc, _, rfl, x, CK _, _, _, _, rfl, hx3, T.cl _, T.nG _, rflds_goal _ _ _, aN, aO, (0, 1), (1, 1), 1, 1, rfl, fN _, fO _, by decide, h11, ⟨show (0 : Nat) < 2 ^ 1 by decide, show (1 : Nat) < 2 ^ 1 by decide⟩, one_bd, by omega, fun v4 H4 s4 e4 => ?_⟩
  refine ⟨ac, v4, vN, xs3, _, _, n + 2 * 1 + 4 + 1 + 1, 1 + 2, rfl, s4 _ _ hxs3, hF3.same s4, by rw [w3]; omega, l4.pos, b4, Fq.of e4, ln.pos, bn, by omega, fun v5 H5 s5 f5 => ?_⟩
  obtain ⟨mx6, sx6⟩ := (mx3.same s4).set (j := vN) hac e3 (s4 _ _ hxs3) (hF3.same s4) s5 f5
  have sx36 := (Same.sx (as := as) s4).trans sx6
  have lst3 := mx3.lsts
  generalize upd H5 ac (.lst (xs3.set vN (.ref v5))) = H6 at mx6 sx6 sx36 ⊢
  have mx6 : Mx K H6 D as (rz M3 c vN (Mq.minus (0, 1) (1, 1))) := mx6
  have rw6 := sx36.rw lst3 rw3
  have fp6 : Fq K H6 zz p := sx36.seqT lst3 fp3
  have eR6 := sx36 _ _ eR3 nRa
  have FR6 := SX.fqs lst3 sx36 FR3
  obtain ⟨dx6, hx6⟩ := id rw6
  have ly := FR6.length
  refine ⟨_, rfl, x, CK _, _, _, _, rfl, hx6, T.cl _, T.nZ _, rflds_size _ _ _, _, rfl, _, rfl, R, ys, _, c, rfl, rfl, eR6, ixN_nat (by omega), ?_⟩
  have eM : hM M (k0, (uN : Int), (vN : Int), p) c = rz M3 c vN (Mq.minus (0, 1) (1, 1)) := by rw [← hM3, ← hM1]; rfl
  have mx7 := mx6.other (o := .lst (ys.set c (.ref zz))) eR6 nRD nRa
  rw [← eM] at mx7
  refine q _ _ ?_ mx7 upd_same ((Fqs.set fp6 c FR6).upd eR6)
  refine SX.write (SX.mono (sx1.trans (sx3.trans sx36)) fun x hx => List.mem_cons_of_mem _ hx) (by simp)
end
end K65

set_option Elab.async false
set_option linter.all false
set_option maxRecDepth 100000
set_option maxHeartbeats 4000000
namespace K65
open PySem L2
section
variable {P : Program} {w : World} {K : PySem.W.Frag} {mg : Str → Option Value} {base : Heap} {f g1 g2 g3 g4 g5 g6 g7 g8 : Addr} {fd gd1 gd2 gd3 gd4 gd5 gd6 gd7 gd8 : FuncData} {CX : CXT}
variable {CR : Addr} {CK : Kd → Addr} {fW fJ fT fS : Kd → Addr} {fdW fdJ fdT fdS : Kd → FuncData}
theorem fqs_repl {K : PySem.W.Frag} {H : Hp} {t : Addr} {p : Mq.Q2} (f : Fq K H t p) : ∀ n, Fqs K H (List.replicate n (.ref t)) (List.replicate n p)
  | 0 => .nil
  | n + 1 => .cons f (fqs_repl f n)
theorem flat_one (x : V) : ∀ n, (List.replicate n [x]).flatten = List.replicate n x
  | 0 => rfl
  | n + 1 => by rw [List.replicate_succ, List.flatten_cons, flat_one x n]; rfl
theorem cut_fromI (xs : List V) (k : Nat) : cutV xs (some (k : Int)) none = xs.drop k := by
  unfold cutV
  have h1 : HT.sIx xs.length xs.length none = xs.length := rfl
  have h2 : HT.sIx xs.length 0 (some (k : Int)) = min k xs.length := by simp [HT.sIx]; omega
  rw [h1, h2]
  by_cases h : k ≤ xs.length
  · rw [Nat.min_eq_left h, List.take_of_length_le (by simp)]
  · rw [Nat.min_eq_right (by omega), List.drop_of_length_le (Nat.le_refl _), List.drop_of_length_le (by omega)]; simp
theorem cut_1 (xs : List V) : cutV xs (some 1) none = xs.drop 1 := cut_fromI xs 1
theorem sl_listK' {X : Cx} {K : PySem.W.Frag} (h : X.K = K) : SlR X (rSlL K) := by subst h; exact sl_list
theorem getD_drop1 (R : List Mq.Q2) (j : Nat) : (R.drop 1).getD j (0, 1) = R.getD (j + 1) (0, 1) := by
  rw [List.getD_eq_getElem?_getD, List.getElem?_drop, Nat.add_comm 1 j, List.getD_eq_getElem?_getD]
theorem mget_drop (M : List (List Mq.Q2)) (i j : Nat) : mget ((M.drop 1).map (List.drop 1)) i j = mget M (i + 1) (j + 1) := by
  have e : ((M.drop 1).map (List.drop 1)).getD i [] = (M.getD (i + 1) []).drop 1 := by
    rw [List.getD_eq_getElem?_getD, List.getElem?_map, List.getElem?_drop, Nat.add_comm 1 i, List.getD_eq_getElem?_getD]
    cases M[i + 1]? <;> rfl
  unfold mget
  rw [e, getD_drop1]
theorem mxb_drop {M : List (List Mq.Q2)} {w n : Nat} (b : MxB M w w n) : MxB ((M.drop 1).map (List.drop 1)) (w - 1) (w - 1) n := by
  refine ⟨by rw [List.length_map, List.length_drop, b.h], fun ps hp => ?_, fun ps hp p hp' => ?_⟩
  · obtain ⟨qs, hq, rfl⟩ := List.mem_map.mp hp
    rw [List.length_drop, b.w _ (List.mem_of_mem_drop hq)]
  · obtain ⟨qs, hq, rfl⟩ := List.mem_map.mp hp
    exact b.l _ (List.mem_of_mem_drop hq) _ (List.mem_of_mem_drop hp')
theorem lnb_drop {R : List Mq.Q2} {w n : Nat} (b : LnB R w n) : LnB (R.drop 1) (w - 1) n := ⟨by rw [List.length_drop, b.w], fun p hp => b.l p (List.mem_of_mem_drop hp)⟩
theorem zero_mx (w : Nat) : MxB (List.replicate w (List.replicate w (0, 1))) w w 1 := by
  refine ⟨List.length_replicate, fun ps hp => ?_, fun ps hp p hp' => ?_⟩
  · rw [List.eq_of_mem_replicate hp, List.length_replicate]
  · rw [List.eq_of_mem_replicate hp] at hp'
    rw [List.eq_of_mem_replicate hp']
    exact ⟨⟨by decide, by decide⟩, ⟨show (0 : Nat) < 2 ^ 1 by decide, show (1 : Nat) < 2 ^ 1 by decide⟩⟩
theorem getD_repl (w j : Nat) : (List.replicate w ((0, 1) : Mq.Q2)).getD j (0, 1) = (0, 1) := by
  rw [List.getD_eq_getElem?_getD]
  cases e : (List.replicate w ((0, 1) : Mq.Q2))[j]? with
  | none => rfl
  | some p => exact List.eq_of_mem_replicate (List.mem_of_getElem? e)
theorem zero_get (w i j : Nat) : mget (List.replicate w (List.replicate w (0, 1))) i j = (0, 1) := by
  have e : (List.replicate w (List.replicate w ((0, 1) : Mq.Q2))).getD i [] = [] ∨ (List.replicate w (List.replicate w ((0, 1) : Mq.Q2))).getD i [] = List.replicate w (0, 1) := by
    rw [List.getD_eq_getElem?_getD]
    cases e : (List.replicate w (List.replicate w ((0, 1) : Mq.Q2)))[i]? with
    | none => exact .inl rfl
    | some ps => exact .inr (List.eq_of_mem_replicate (List.mem_of_getElem? e))
  unfold mget
  rcases e with e | e
  · rw [e]; rfl
  · rw [e]; exact getD_repl w j
theorem zero_ln (w : Nat) : LnB (List.replicate w (0, 1)) w 1 := ⟨List.length_replicate, fun p hp => by
  rw [List.eq_of_mem_replicate hp]
  exact ⟨⟨by decide, by decide⟩, ⟨show (0 : Nat) < 2 ^ 1 by decide, show (1 : Nat) < 2 ^ 1 by decide⟩⟩⟩
theorem hds_le {ds : List RD} (i : Nat) : hds' (ds.take i) ≤ hds' ds := by
  have h : hds' ds = hds' (ds.take i) + hds' (ds.drop i) := by
    unfold hds' selD
    rw [← List.length_append, ← List.filter_append, List.take_append_drop]
  omega
theorem nd_row : (["row"] : List Str).Nodup := by decide +kernel
theorem nd_line_width : (["line", "width"] : List Str).Nodup := by decide +kernel
theorem nd_line : (["line"] : List Str).Nodup := by decide +kernel
theorem Fqs.drop1 {K : PySem.W.Frag} {H : Hp} : ∀ {xs : List V} {ps : List Mq.Q2}, Fqs K H xs ps → Fqs K H (xs.drop 1) (ps.drop 1)
  | _, _, .nil => .nil
  | _, _, .cons _ q => q
abbrev sEqs : Stmt := top 45
theorem scEqs : FnScope ["net", "rows", "many", "width", "matrix", "right", "held", "row"] ["net"] (defScope sEqs) := ⟨rfl, rfl, rfl, by decide +kernel, rfl, by decide +kernel, by decide +kernel⟩
theorem ok_eqs {dV : Value} (F : FunD K "equations" "equations" sEqs dV f fd)
    {CN : Addr} (NTx : NT K mg CN) (T : RT K mg CR CK) (ml : mg "len" = none) (mr : mg "range" = none) {aN : Addr} (fN : ∀ H, Fq K H aN (0, 1)) (mNO : mg "NOUGHT" = some (.ref aN))
    (GW : ∀ k, FnOk P w K mg base CX0 1 (fW k) (fdW k) ["self"] (spWord k)) (bW : ∀ k, Binds K (fdW k) ["self"] []) (mW : ∀ k, Meth K (CK k) "word" (fW k))
    {gRo : Addr} {gdRo : FuncData} (GRo : FnOk P w K mg base CX0 4 gRo gdRo ["self"] (spRows CN K CK)) (bRo : Binds K gdRo ["self"] []) (mRo : Meth K CN "rows" gRo)
    {gMa : Addr} {gdMa : FuncData} (GMa : FnOk P w K mg base CX0 1 gMa gdMa ["self"] (spMany CN K)) (bMa : Binds K gdMa ["self"] []) (mMa : Meth K CN "many" gMa)
    (G1 : FnOk P w K mg base CX0 6 g1 gd1 ["matrix", "row"] (spEnterP K CK)) (b1 : Binds K gd1 ["matrix", "row"] []) (k1 : PySem.W.keepIn K (.ref g1) = true) (m1 : mg "enter_piece" = some (.ref g1))
    (G2 : FnOk P w K mg base CX0 5 g2 gd2 ["right", "row"] (spEnterU K CK)) (b2 : Binds K gd2 ["right", "row"] []) (k2 : PySem.W.keepIn K (.ref g2) = true) (m2 : mg "enter_push" = some (.ref g2))
    (G3 : FnOk P w K mg base CX0 6 g3 gd3 ["matrix", "right", "row", "column"] (spEnterH K CK)) (b3 : Binds K gd3 ["matrix", "right", "row", "column"] []) (k3 : PySem.W.keepIn K (.ref g3) = true) (m3 : mg "enter_hold" = some (.ref g3)) :
    FnOk P w K mg base CX 7 f fd ["net"] (spEqs CN K) := by
  refine F.ok scEqs (fun vs H Q E h => ?_) (fun cdv A outer s H vs Q E hr h => ?_)
  · obtain ⟨n, l, m, k, ds, rfl, nt, hK, hm1, hm20, h40, hbig, q⟩ := h
    rfl
  obtain ⟨n, l, m, k, ds, rfl, nt, hK, hm1, hm20, h40, hbig, q⟩ := h
  have r1 := hr.mono (show 1 ≤ 6 by omega)
  have r4 := hr.mono (show 4 ≤ 6 by omega)
  have r5 := hr.mono (show 5 ≤ 6 by omega)
  refine ⟨_, (pss_cons (ps_set (i := 1) scEqs.nd rfl (Or.inl rfl) (pe_meth0 (pv 0) NTx.cl mRo GRo r4 bRo .nil pass0))
    (pss_cons (ps_set (i := 2) scEqs.nd rfl (Or.inl rfl) (pe_meth0 (pv 0) NTx.cl mMa GMa r1 bMa .nil pass0))
    (pss_cons (ps_set (i := 3) scEqs.nd rfl (Or.inr rfl) (pe_op op_add (pv 2) (pe_callB call_len_seq rfl ml PySem.boot_len (pa_cons (pe_comp (nl := 1) (fr := []) (Nc := ["row"]) (cl := []) rfl ⟨rfl, rfl, by decide +kernel, by decide +kernel, fun x c h => (by cases h), has_of rfl, rfl, fun i n h => (by simp at h)⟩
        (pi_list (pv 1)) (fun C s3 H3 fp pins => (pg_name (i := 0) nd_row rfl (Or.inl rfl))) (fun C s3 H3 fp pins => (pif_one (pt_cmpR op_eq (pe_methD0 (pv 0) T.cl mW GW r1 bW .nil pass0) pe_str (nomark _))))
        (fun C s3 H3 fp pins => (pv 0))) pa_nil))))
    (pss_cons (ps_setC (i := 4) (nl := 1) (fr := [3]) (Nc := ["line", "width"]) (cl := [("width", s.heap.objs.size + 1)]) scEqs.nd rfl rfl rfl ⟨rfl, rfl, by decide +kernel, by decide +kernel, fun x c h => h, has_of rfl, rfl, fun i n h => match i, h with | 0, h => by cases h; exact ⟨3, rfl, rfl, rfl, rfl, .inl rfl⟩ | k + 1, h => by rw [show 1 + (k + 1) = k + 2 by omega] at h; cases h⟩
        (pi_range1 rfl mr (pa_cons (pv 3) pa_nil)) (fun C s3 H3 fp pins => (pg_name (i := 0) nd_line_width rfl (Or.inl rfl))) (fun C s3 H3 fp pins => pif_nil)
        (fun C s3 H3 fp pins => (pe_op op_rep (pe_lst (pa_cons (pe_glob (v := .ref aN) rfl mNO rfl) pa_nil)) (pv 1))) rfl)
    (pss_cons (ps_set (i := 5) scEqs.nd rfl (Or.inl rfl) (pe_op op_rep (pe_lst (pa_cons (pe_glob (v := .ref aN) rfl mNO rfl) pa_nil)) (pv 3)))
    (pss_cons (ps_set (i := 6) scEqs.nd rfl (Or.inl rfl) (pv 2))
    (pss_cons (ps_for PassesOwn.never rfl (pi_list (pv 1)) (pg_name (i := 7) scEqs.nd rfl (Or.inl rfl))
      (pss_one (ps_if (pt_cmpR op_eq (pe_methD0 (pv 7) T.cl mW GW r1 bW .nil pass0) pe_str (nomark _)) (pss_one (ps_expr (pe_call G1 hr rfl m1 k1 b1 .nil pass0 (pa_cons (pv 4) (pa_cons (pv 7) pa_nil))))) (pss_one (ps_if (pt_cmpR op_eq (pe_methD0 (pv 7) T.cl mW GW r1 bW .nil pass0) pe_str (nomark _)) (pss_one (ps_expr (pe_call G2 r5 rfl m2 k2 b2 .nil pass0 (pa_cons (pv 5) (pa_cons (pv 7) pa_nil))))) (pss_cons (ps_expr (pe_call G3 hr rfl m3 k3 b3 .nil pass0 (pa_cons (pv 4) (pa_cons (pv 5) (pa_cons (pv 7) (pa_cons (pv 6) pa_nil))))))
    (pss_one (ps_aug (i := 6) scEqs.nd rfl (Or.inl rfl) pe_int ip_add))))))))
    (pss_one (ps_ret (pe_tup (pa_cons (pe_comp (nl := 1) (fr := []) (Nc := ["line"]) (cl := []) rfl ⟨rfl, rfl, by decide +kernel, by decide +kernel, fun x c h => (by cases h), has_of rfl, rfl, fun i n h => (by simp at h)⟩
        (pi_list (pe_slice sl_list (pv 4) (po_some pe_int) po_none)) (fun C s3 H3 fp pins => (pg_name (i := 0) nd_line rfl (Or.inl rfl))) (fun C s3 H3 fp pins => pif_nil)
        (fun C s3 H3 fp pins => (pe_slice (sl_listK' (K := K) rfl) (pv 0) (po_some pe_int) po_none))) (pa_cons (pe_slice sl_list (pv 5) (po_some pe_int) po_none) pa_nil)))))))))))), ?_⟩
  obtain ⟨dx, hn⟩ := nt.ob
  refine ⟨_, rfl, n, dx, _, rfl, hn, nflds_no _ _ (by decide +kernel) (by decide +kernel), n, l, _, ds, rfl, nt, by omega, fun a xs H1 s1 na ea Rb => ?_⟩
  have lxs := Rb.length
  obtain ⟨dx1, hn1⟩ := (nt.same s1).ob
  refine ⟨_, rfl, n, dx1, _, rfl, hn1, nflds_no _ _ (by decide +kernel) (by decide +kernel), n, l, _, ds, rfl, nt.same s1, ?_⟩
  -- width
  refine ⟨_, rfl, _, rfl, a, rfl, ⟨_, SqL.of ea⟩, fun C0 hC0 => ?_⟩
  have sC0 := same_new hC0 (.lst [])
  refine comp_list (xs := xs) (fun i zs H' => Same H1 H' ∧ H' C0 = some (.lst zs) ∧ zs.length = hds' (ds.take i)) ⟨sC0, upd_same, rfl⟩ (fun i zs H' h => h.2.1) (fun i zs H' _ h => h.1.seq (SqL.of ea)) ?_ ?_
  · rintro i zs x H2 hx ⟨s2, e2, lz⟩ C hC
    have hi : i < ds.length := by
      have := (List.getElem?_eq_some_iff.mp hx).1
      omega
    obtain ⟨⟨k0, u, v, p⟩, hd⟩ : ∃ d, ds[i]? = some d := ⟨_, List.getElem?_eq_getElem hi⟩
    obtain ⟨y, z, ey, rw, fz⟩ := Rb.at hd
    have ex : x = .ref y := by rw [ey] at hx; exact (Option.some.inj hx).symm
    subst ex
    obtain ⟨dr, hy⟩ := id (rw.same s2)
    have et : ds.take (i + 1) = ds.take i ++ [(k0, u, v, p)] := by rw [List.take_add_one, hd]; rfl
    have lh := hds_le (ds := ds) i
    have lh2 : hds' ds ≤ ds.length := List.length_filter_le _ _
    refine ⟨keep1.1, keep1.2, ?_⟩
    refine ⟨_, rfl, k0, y, dr, _, rfl, hy, (rflds_no _ _ _ (by decide +kernel) (by decide +kernel) (by decide +kernel)), _, rfl, rfl, _, rfl, ?_⟩
    by_cases hk : k0 = .ho
    · refine ifT (by show decide (V.str k0.wd = V.str Kd.ho.wd) = true; rw [dec_wd]; exact decide_eq_true hk) ⟨_, rfl, e2, small1000 (by omega), hC _ _ ⟨s2.change hC0, upd_same, ?_⟩⟩
      rw [et, hds_snoc, List.length_append, lz]
      show _ + 1 = _ + hcol k0
      unfold hcol; rw [if_pos hk]
    · refine ifF (by show decide (V.str k0.wd = V.str Kd.ho.wd) = false; rw [dec_wd]; exact decide_eq_false hk) (hC _ _ ⟨s2, e2, ?_⟩)
      rw [et, hds_snoc, lz]
      show _ = _ + hcol k0
      unfold hcol; rw [if_neg hk]; rfl
  rintro zs0 H2 ⟨s2, e2, lz0⟩
  rw [lxs, List.take_length] at lz0
  refine ⟨C0, zs0, rfl, .inl (SqL.of e2), _, _, rfl, rfl, ?_⟩
  obtain ⟨W, hW⟩ : ∃ W : Nat, W = m + hds' ds := ⟨_, rfl⟩
  have lh2 : hds' ds ≤ ds.length := List.length_filter_le _ _
  have eW : (m : Int) + (zs0.length : Int) = (W : Int) := by rw [lz0, hW]; omega
  show tSeq _ _ _ [some (.ref n), some (.ref a), some (.int (m : Int)), some (.int ((m : Int) + (zs0.length : Int))), none, none, none, none] H2
  rw [eW]
  have hW60 : W ≤ 60 := by omega
  have hmW : m ≤ W := by omega
  have s12 := s2
  clear e2 sC0
  -- matrix
  refine ⟨_, rfl, (W : Int), rfl, by omega, by omega, fun D hD => ?_⟩
  rw [Int.toNat_natCast]
  have sD := same_new hD (.lst [])
  refine comp_range (n := W) (fun i zs H' => Same H2 H' ∧ H' D = some (.lst zs) ∧ ∃ as : List Addr, zs = as.map V.ref ∧ as.length = i ∧ as.Nodup ∧ D ∉ as ∧ (∀ b ∈ as, H2 b = none) ∧ ∀ b ∈ as, H' b = some (.lst (List.replicate W (.ref aN)))) ⟨sD, upd_same, [], rfl, rfl, List.nodup_nil, (by simp), (fun b hb => by cases hb), (fun b hb => by cases hb)⟩ (fun i zs H' h => h.2.1) ?_ ?_
  · rintro i zs H3 hi ⟨s3, e3, as, rfl, la, nd, nD, fr, al⟩ C hC
    refine ⟨keep1.1, keep1.2, iteT ?_⟩
    refine ⟨by show 1 ≤ sizeLine; decide, fun l1 hl1 => ?_⟩
    have s4 := same_new hl1 (.lst [.ref aN])
    have e4 : upd H3 l1 (.lst [.ref aN]) l1 = some (.lst [.ref aN]) := upd_same
    generalize upd H3 l1 (.lst [.ref aN]) = H4 at s4 e4 ⊢
    refine ⟨_, rfl, l1, (W : Int), [.ref aN], rfl, rfl, e4, by omega, by omega, ?_, fun b hb => ?_⟩
    · rw [Int.toNat_natCast, sizeLine_eq]; simp only [List.length_cons, List.length_nil]; omega
    rw [Int.toNat_natCast, flat_one]
    have s5 := same_new hb (.lst (List.replicate W (.ref aN)))
    have e5 : upd H4 b (.lst (List.replicate W (.ref aN))) b = some (.lst (List.replicate W (.ref aN))) := upd_same
    generalize upd H4 b (.lst (List.replicate W (.ref aN))) = H5 at s5 e5 ⊢
    have s35 := s4.trans s5
    have e35 := s35 _ _ e3
    have nbD : b ≠ D := Ne.symm (ne_of_none (s4 _ _ e3) hb)
    have nba : b ∉ as := fun z => by rw [s4 _ _ (al b z)] at hb; cases hb
    refine ⟨e35, small1000 (by rw [List.length_map]; omega), hC _ _ ⟨(s3.trans s35).change hD, upd_same, as ++ [b], by rw [List.map_append]; rfl, by rw [List.length_append, la]; rfl, ?_, ?_, fun c hc => ?_, fun c hc => ?_⟩⟩
    · rw [List.nodup_append]
      refine ⟨nd, by simp, fun x hx y hy z => ?_⟩
      have : y = b := by simpa using hy
      exact nba (by rw [← this, ← z]; exact hx)
    · intro z
      rcases List.mem_append.mp z with z | z
      · exact nD z
      · have : D = b := by simpa using z
        exact nbD this.symm
    · rcases List.mem_append.mp hc with z | z
      · exact fr c z
      · have : c = b := by simpa using z
        rw [this]
        exact (s3.trans s4).free hb
    · rcases List.mem_append.mp hc with z | z
      · rw [upd_ne (fun y => nD (by rw [← y]; exact z))]; exact s35 _ _ (al c z)
      · have : c = b := by simpa using z
        rw [this, upd_ne nbD]; exact e5
  rintro zs3 H3 ⟨s3, e3, as, rfl, la, nd, nD, fr, al⟩
  have mx3 : Mx K H3 D as (List.replicate W (List.replicate W (0, 1))) := ⟨e3, nd, nD, by rw [la, List.length_replicate], fun i b ps h1 h2 => by
    rw [List.eq_of_mem_replicate (List.mem_of_getElem? h2)]
    exact ⟨_, al b (List.mem_of_getElem? h1), fqs_repl (fN _) W⟩⟩
  have nDH : H2 D = none := hD
  -- right
  refine ⟨by show 1 ≤ sizeLine; decide, fun l1 hl1 => ?_⟩
  have s4 := same_new hl1 (.lst [.ref aN])
  have e4 : upd H3 l1 (.lst [.ref aN]) l1 = some (.lst [.ref aN]) := upd_same
  generalize upd H3 l1 (.lst [.ref aN]) = H4 at s4 e4 ⊢
  refine ⟨_, rfl, l1, (W : Int), [.ref aN], rfl, rfl, e4, by omega, by omega, ?_, fun R hR => ?_⟩
  · rw [Int.toNat_natCast, sizeLine_eq]; simp only [List.length_cons, List.length_nil]; omega
  rw [Int.toNat_natCast, flat_one]
  have s5 := same_new hR (.lst (List.replicate W (.ref aN)))
  have e5 : upd H4 R (.lst (List.replicate W (.ref aN))) R = some (.lst (List.replicate W (.ref aN))) := upd_same
  generalize upd H4 R (.lst (List.replicate W (.ref aN))) = H5 at s5 e5 ⊢
  have s25 := s3.trans (s4.trans s5)
  have nRH : H2 R = none := (s3.trans s4).free hR
  have nRD : R ≠ D := Ne.symm (ne_of_none ((s4) _ _ mx3.d) hR)
  have nRa : R ∉ as := fun z => by rw [s4 _ _ (al R z)] at hR; cases hR
  have mx5 := (mx3.same s4).same s5
  have allN : ∀ b ∈ R :: as, H2 b = none := fun b hb => by
    rcases List.mem_cons.mp hb with z | z
    · rw [z]; exact nRH
    · exact fr b z
  have F5 : Fqs K H5 (List.replicate W (.ref aN)) (List.replicate W (0, 1)) := fqs_repl (fN _) W
  refine ⟨_, rfl, ?_⟩
  have eaH := s12 _ _ ea
  have Rb2 := Rb.same s12
  have K0 : 4 * k + 20 ≤ (4 * k + 20) := Nat.le_refl _
  obtain ⟨NB, hNB⟩ : ∃ NB, NB = 4 * k + 20 := ⟨_, rfl⟩
  rw [← hNB] at hbig q
  -- the rows
  refine ⟨_, rfl, a, rfl, ⟨_, SqL.of (s25 _ _ eaH)⟩, ?_⟩
  refine for_list (xs := xs) (fun i σ H' => Same H2 H' ∧ ∃ (M : List (List Mq.Q2)) (ys : List V) (rs : List Mq.Q2) (z7 : Option V), σ = [some (.ref n), some (.ref a), some (.int (m : Int)), some (.int (W : Int)), some (.ref D), some (.ref R), some (.int ((m + hds' (ds.take i) : Nat) : Int)), z7] ∧ Mx K H' D as M ∧ MxB M W W (NB * i + 1) ∧ H' R = some (.lst ys) ∧ Fqs K H' ys rs ∧ LnB rs W (NB * i + 1) ∧ (∀ x y, Mq.val (mget M x y) = eqM m (ds.take i) x y) ∧ ∀ x, Mq.val (rs.getD x (0, 1)) = eqR m (ds.take i) x) ⟨s25, _, _, _, none, rfl, mx5, zero_mx W, e5, F5, zero_ln W, fun x y => by rw [zero_get, Mq.val01]; rfl, fun x => by rw [getD_repl, Mq.val01]; rfl⟩ (fun i σ H' _ h => h.1.seq (SqL.of eaH)) ?_ ?_
  · rintro i x σ H6 hx ⟨s6, M, ys, rs, z7, rfl, mx, mb, eR, FR, lb, vM, vR⟩
    have hi : i < ds.length := by
      have := (List.getElem?_eq_some_iff.mp hx).1
      omega
    obtain ⟨⟨k0, u, v, p⟩, hd⟩ : ∃ d, ds[i]? = some d := ⟨_, List.getElem?_eq_getElem hi⟩
    obtain ⟨y, z, ey, rw0, fz0⟩ := Rb2.at hd
    have ex : x = .ref y := by rw [ey] at hx; exact (Option.some.inj hx).symm
    subst ex
    obtain ⟨rd, bp⟩ := hK _ (List.mem_of_getElem? hd)
    have lp : Mq.Low p := rd.2.2.2.2.1
    have bp : Mq.Bd k p := bp
    have ptm : PtOk (m : Int) u v := ⟨rd.1, rd.2.1, rd.2.2.1, rd.2.2.2.1⟩
    have ptW : PtOk (W : Int) u v := ⟨rd.1, by have := rd.2.1; show u < (W : Int); have h2 : u < (m : Int) := this; omega, rd.2.2.1, by have h2 : v < (m : Int) := rd.2.2.2.1; show v < (W : Int); omega⟩
    have rw6 := rw0.same s6
    have fz6 : Fq K H6 z p := s6.fq fz0
    obtain ⟨dr, hy⟩ := id rw6
    have et : ds.take (i + 1) = ds.take i ++ [(k0, u, v, p)] := by rw [List.take_add_one, hd]; rfl
    have hh := hds_le (ds := ds) (i + 1)
    rw [et, hds_snoc] at hh
    have hh : hds' (ds.take i) + hcol k0 ≤ hds' ds := hh
    have eN : NB * (i + 1) + 1 = (NB * i + 1) + NB := by rw [Nat.mul_succ]; omega
    have leN : NB * (i + 1) ≤ NB * ds.length := Nat.mul_le_mul_left _ hi
    rw [Nat.mul_succ] at leN
    have eM : ∀ x y, eqM m (ds.take (i + 1)) x y = eqM m (ds.take i) x y + cM (k0, u, v, p) (m + hds' (ds.take i)) x y := fun x y => by rw [et, eqM_snoc]
    have eRr : ∀ x, eqR m (ds.take (i + 1)) x = eqR m (ds.take i) x + cR (k0, u, v, p) (m + hds' (ds.take i)) x := fun x => by rw [et, eqR_snoc]
    have eH : hds' (ds.take (i + 1)) = hds' (ds.take i) + hcol k0 := by rw [et, hds_snoc]
    rw [eN, eH]
    have lst := mx.lsts
    cases k0 with
    | pc =>
      have p0 : 0 < p.1 := rd.2.2.2.2.2.1 rfl
      refine ⟨_, rfl, Kd.pc, y, dr, _, rfl, hy, (rflds_no _ _ _ (by decide +kernel) (by decide +kernel) (by decide +kernel)), _, rfl, rfl, _, rfl, ifT (by show decide (V.str Kd.pc.wd = V.str Kd.pc.wd) = true; rw [dec_wd]; rfl) ?_⟩
      refine ⟨_, rfl, _, rfl, D, y, z, as, M, (.pc, u, v, p), W, NB * i + 1, k, rfl, mx, mb, rw6, fz6, ptW, lp, p0, bp, by omega, fun H7 sx7 mx7 => ?_⟩
      obtain ⟨mb7, v7⟩ := pM_ok (d := (.pc, u, v, p)) (h := m + hds' (ds.take i)) mb ptm hmW rfl lp p0 bp
      have eR7 := sx7 _ _ eR nRa
      refine ⟨SX.same s6 sx7 fr, _, ys, rs, _, rfl, mx7, mb7.mono (by omega), eR7, SX.fqs lst sx7 FR, lb.mono (by omega), fun x y => by rw [v7, vM, eM], fun x => ?_⟩
      rw [vR, eRr]
      show _ = _ + (0 : Rat)
      rw [Rat.add_zero]
    | pu =>
      refine ⟨_, rfl, Kd.pu, y, dr, _, rfl, hy, (rflds_no _ _ _ (by decide +kernel) (by decide +kernel) (by decide +kernel)), _, rfl, rfl, _, rfl, ifF (by show decide (V.str Kd.pu.wd = V.str Kd.pc.wd) = false; rw [dec_wd]; rfl) ?_⟩
      refine ⟨_, rfl, Kd.pu, y, dr, _, rfl, hy, (rflds_no _ _ _ (by decide +kernel) (by decide +kernel) (by decide +kernel)), _, rfl, rfl, _, rfl, ifT (by show decide (V.str Kd.pu.wd = V.str Kd.pu.wd) = true; rw [dec_wd]; rfl) ?_⟩
      refine ⟨_, rfl, _, rfl, R, y, z, ys, rs, (.pu, u, v, p), W, NB * i + 1, k, rfl, eR, FR, lb, rw6, fz6, ptW, lp, bp, by omega, fun ys' H7 sx7 eR7 F7 => ?_⟩
      obtain ⟨lb7, v7⟩ := pR_ok (d := (.pu, u, v, p)) (h := m + hds' (ds.take i)) lb ptm hmW rfl lp bp
      have mx7 : Mx K H7 D as M := ⟨sx7 _ _ mx.d (by simp; exact Ne.symm nRD), mx.n, mx.nd, mx.la, fun i' b ps h1 h2 => by
        obtain ⟨ws, h, f⟩ := mx.r i' b ps h1 h2
        refine ⟨ws, sx7 _ _ h (by simp; exact fun z => nRa (by rw [← z]; exact List.mem_of_getElem? h1)), SX.fqs (as := [R]) (fun c hc => ?_) sx7 f⟩
        have : c = R := by simpa using hc
        exact ⟨ys, by rw [this]; exact eR⟩⟩
      refine ⟨SX.same s6 sx7 (fun c hc => by have : c = R := by simpa using hc
                                             rw [this]; exact nRH), M, ys', _, _, rfl, mx7, mb.mono (by omega), eR7, F7, lb7.mono (by omega), fun x y => ?_, fun x => by rw [v7, vR, eRr]⟩
      rw [vM, eM]
      show _ = _ + (0 : Rat)
      rw [Rat.add_zero]
    | ho =>
      have hc1 : hcol Kd.ho = 1 := rfl
      rw [hc1] at hh
      have hcW : m + hds' (ds.take i) < W := by omega
      refine ⟨_, rfl, Kd.ho, y, dr, _, rfl, hy, (rflds_no _ _ _ (by decide +kernel) (by decide +kernel) (by decide +kernel)), _, rfl, rfl, _, rfl, ifF (by show decide (V.str Kd.ho.wd = V.str Kd.pc.wd) = false; rw [dec_wd]; rfl) ?_⟩
      refine ⟨_, rfl, Kd.ho, y, dr, _, rfl, hy, (rflds_no _ _ _ (by decide +kernel) (by decide +kernel) (by decide +kernel)), _, rfl, rfl, _, rfl, ifF (by show decide (V.str Kd.ho.wd = V.str Kd.pu.wd) = false; rw [dec_wd]; rfl) ?_⟩
      refine ⟨_, rfl, _, rfl, _, rfl, _, rfl, D, R, y, z, as, M, ys, rs, (.ho, u, v, p), W, NB * i + 1, m + hds' (ds.take i), rfl, mx, mb, eR, FR, lb.w, nRD, nRa, rw6, fz6, ptW, hcW, by omega, fun ys' H7 sx7 mx7 eR7 F7 => ?_⟩
      obtain ⟨mb7, v7⟩ := hM_ok (d := (.ho, u, v, p)) mb ptm hmW hcW rfl
      have z0 : Mq.val (rs.getD (m + hds' (ds.take i)) (0, 1)) = 0 := by
        rw [vR]
        exact eqR_fresh (m := m) _ _ _ (fun d hd' => by
          have := (hK d (List.mem_of_mem_take hd')).1
          exact ⟨this.1, this.2.1, this.2.2.1, this.2.2.2.1⟩) (Nat.le_refl _) (Nat.le_refl _)
      obtain ⟨lb7, w7⟩ := hR_ok (m := m) (d := (.ho, u, v, p)) lb hcW rfl lp bp z0
      refine ⟨_, rfl, _, _, rfl, rfl, ?_⟩
      refine ⟨SX.same s6 sx7 allN, _, ys', _, some (.ref y), ?_, mx7, mb7.mono (by omega), eR7, F7, lb7.mono (by omega), fun x y => by rw [v7, vM, eM], fun x => by rw [w7, vR, eRr]⟩
      have e1 : ((m + hds' (ds.take i) : Nat) : Int) + 1 = ((m + (hds' (ds.take i) + hcol Kd.ho) : Nat) : Int) := by rw [hc1]; omega
      rw [← e1]
      rfl
  rintro σ H6 ⟨s6, M, ys, rs, z7, rfl, mx, mb, eR, FR, lb, vM, vR⟩
  rw [lxs] at mb lb vM vR
  rw [List.take_length] at vM vR
  -- what is told
  refine ⟨_, rfl, 1, rfl, D, _, rfl, SqL.of mx.d, fun C hC => ?_⟩
  rw [cut_1]
  have s7 := same_new hC (.lst ((as.map V.ref).drop 1))
  have e7 : upd H6 C (.lst ((as.map V.ref).drop 1)) C = some (.lst ((as.map V.ref).drop 1)) := upd_same
  generalize upd H6 C (.lst ((as.map V.ref).drop 1)) = H7 at s7 e7 ⊢
  have mx7 := mx.same s7
  refine ⟨C, rfl, ⟨_, SqL.of e7⟩, fun P hP => ?_⟩
  have sP := same_new hP (.lst [])
  refine comp_list (xs := (as.map V.ref).drop 1) (fun i zs H' => Same H7 H' ∧ H' P = some (.lst zs) ∧ Fms K H7 H' zs (((M.drop 1).map (List.drop 1)).take i) ∧ ∀ x ∈ zs, x ≠ .ref P) ⟨sP, upd_same, ⟨rfl, fun i x ps h => by simp at h⟩, fun x hx => by cases hx⟩ (fun i zs H' h => h.2.1) (fun i zs H' _ h => h.1.seq (SqL.of e7)) ?_ ?_
  · rintro i zs x H8 hx ⟨s8, e8, fm, nP⟩ C' hC'
    rw [List.getElem?_drop, List.getElem?_map] at hx
    obtain ⟨b, hb, rfl⟩ := Option.map_eq_some_iff.mp hx
    have bl' := (List.getElem?_eq_some_iff.mp hb).1
    have hM1 : 1 + i < M.length := by rw [← mx.la]; exact bl'
    obtain ⟨ws, hws, fws⟩ := (mx7.same s8).r (1 + i) b M[1 + i] hb (List.getElem?_eq_getElem hM1)
    have lz := fm.l
    rw [List.length_take, List.length_map, List.length_drop] at lz
    have hM60 : M.length ≤ 60 := by rw [mb.h]; exact hW60
    refine ⟨keep1.1, keep1.2, iteT ?_⟩
    refine ⟨_, rfl, 1, rfl, b, _, rfl, SqL.of hws, fun c hc => ?_⟩
    rw [cut_1]
    have s9 := same_new hc (.lst (ws.drop 1))
    have e9 : upd H8 c (.lst (ws.drop 1)) c = some (.lst (ws.drop 1)) := upd_same
    generalize upd H8 c (.lst (ws.drop 1)) = H9 at s9 e9 ⊢
    have e89 := s9 _ _ e8
    have ncP : c ≠ P := Ne.symm (ne_of_none e8 hc)
    refine ⟨e89, small1000 (by omega), hC' _ _ ⟨(s8.trans s9).change hP, upd_same, ⟨?_, fun j y ps h1 h2 => ?_⟩, fun y hy => ?_⟩⟩
    · rw [List.length_append, List.length_take, List.length_map, List.length_drop]
      simp only [List.length_cons, List.length_nil]
      omega
    · have ee : ((M.drop 1).map (List.drop 1))[i]? = some (M[1 + i].drop 1) := by rw [List.getElem?_map, List.getElem?_drop, List.getElem?_eq_getElem hM1]; rfl
      rw [List.take_add_one, ee] at h2
      by_cases hj : j < zs.length
      · rw [List.getElem?_append_left hj] at h1
        rw [List.getElem?_append_left (by rw [← fm.l]; exact hj)] at h2
        obtain ⟨a', xs', q1, q2, q3, q4⟩ := fm.r j y ps h1 h2
        have na : a' ≠ P := fun z => nP y (List.mem_of_getElem? h1) (by rw [q1, z])
        exact ⟨a', xs', q1, q2, by rw [upd_ne na]; exact s9 _ _ q3, (q4.same s9).upd e89⟩
      · rw [List.getElem?_append_right (by omega)] at h1
        rw [List.getElem?_append_right (by rw [← fm.l]; omega), ← fm.l] at h2
        have j0 : j - zs.length = 0 := by
          have := (List.getElem?_eq_some_iff.mp h1).1
          simp at this
          omega
        rw [j0] at h1 h2
        have h1 : V.ref c = y := by simpa using h1
        have h2 : M[1 + i].drop 1 = ps := by simpa using h2
        subst h1
        rw [← h2]
        exact ⟨c, _, rfl, s8.free hc, by rw [upd_ne ncP]; exact e9, ((Fqs.drop1 (fws.same s9))).upd e89⟩
    · rcases List.mem_append.mp hy with z | z
      · exact nP y z
      · have : y = .ref c := by simpa using z
        rw [this]; exact fun z => ncP (by injection z)
  rintro us H8 ⟨s8, e8, fm, nP⟩
  rw [show ((as.map V.ref).drop 1).length = ((M.drop 1).map (List.drop 1)).length by rw [List.length_drop, List.length_map, List.length_map, List.length_drop, mx.la], List.take_length] at fm
  have s78 := s7.trans s8
  have eR8 := s78 _ _ eR
  refine ⟨_, rfl, 1, rfl, R, _, rfl, SqL.of eR8, fun r hr' => ?_⟩
  rw [cut_1]
  have s9 := same_new hr' (.lst (ys.drop 1))
  have e9 : upd H8 r (.lst (ys.drop 1)) r = some (.lst (ys.drop 1)) := upd_same
  generalize upd H8 r (.lst (ys.drop 1)) = H9 at s9 e9 ⊢
  refine ⟨by show 2 ≤ sizeLine; decide, fun t ht => ?_⟩
  have sT := same_new ht (.tup [.ref P, .ref r])
  have s9T := s9.trans sT
  have s0 : Same H (upd H9 t (.tup [.ref P, .ref r])) := s1.trans (s12.trans (s6.trans (s78.trans s9T)))
  have s07 : Same H H7 := s1.trans (s12.trans (s6.trans s7))
  have fl : ∀ c, H7 c = none → H c = none := fun c h => s07.free h
  refine q t P r us (ys.drop 1) ((M.drop 1).map (List.drop 1)) (rs.drop 1) _ s0 upd_same (fl P hP) ((s07.trans s8).free hr') (s9T _ _ e8) (sT _ _ e9) ⟨fm.l, fun i x ps h1 h2 => ?_⟩ (Fqs.drop1 (FR.same (s78.trans s9T))) (fun x hx => ⟨nP x hx, ?_⟩) ⟨?_, ?_, ?_, ?_⟩
  · obtain ⟨a', xs', q1, q2, q3, q4⟩ := fm.r i x ps h1 h2
    exact ⟨a', xs', q1, fl a' q2, s9T _ _ q3, q4.same s9T⟩
  · intro z
    obtain ⟨i, hi⟩ := List.getElem?_of_mem hx
    have il : i < ((M.drop 1).map (List.drop 1)).length := by rw [← fm.l]; exact (List.getElem?_eq_some_iff.mp hi).1
    obtain ⟨a', xs', q1, q2, q3, q4⟩ := fm.r i x _ hi (List.getElem?_eq_getElem il)
    rw [q1] at z
    have : a' = r := by injection z
    rw [← this, q3] at hr'
    cases hr'
  · have := mxb_drop mb
    rwa [show W - 1 = m - 1 + hds' ds by omega] at this
  · have := lnb_drop lb
    rwa [show W - 1 = m - 1 + hds' ds by omega] at this
  · intro i j
    rw [mget_drop]; exact vM _ _
  · intro i
    rw [getD_drop1]; exact vR _
end
end K65

set_option Elab.async false
set_option linter.all false
set_option maxRecDepth 100000
set_option maxHeartbeats 4000000
namespace K65
open PySem L2 Shp
section
variable {P : Program} {w : World} {K : PySem.W.Frag} {mg : Str → Option Value} {base : Heap} {f g1 g2 g3 g4 g5 g6 g7 g8 : Addr} {fd gd1 gd2 gd3 gd4 gd5 gd6 gd7 gd8 : FuncData} {CX : CXT}
variable {CR : Addr} {CK : Kd → Addr} {fW fJ fT fS : Kd → Addr} {fdW fdJ fdT fdS : Kd → FuncData}
theorem nd_one_bottom : (["one", "bottom"] : List Str).Nodup := by decide +kernel
abbrev sIW : Stmt := top 39
theorem scIW : FnScope ["some", "bottom", "one"] ["some"] (defScope sIW) := ⟨rfl, rfl, rfl, by decide +kernel, rfl, by decide +kernel, by decide +kernel⟩
theorem ok_iw {dV : Value} (F : FunD K "in_wholes" "in_wholes" sIW dV f fd)
    (G1 : FnOk P w K mg base CX0 1 g1 gd1 ["one", "other"] spGc) (b1 : Binds K gd1 ["one", "other"] []) (k1 : PySem.W.keepIn K (.ref g1) = true) (m1 : mg "greatest_common" = some (.ref g1)) :
    FnOk P w K mg base CX 2 f fd ["some"] (spIWd K) := by
  refine F.ok scIW (fun vs H Q E h => ?_) (fun cdv A outer s H vs Q E hr h => ?_)
  · obtain ⟨a, xs, ps, n, rfl, hS, hF, hP, hB, h100, hn, q⟩ := h
    rfl
  obtain ⟨a, xs, ps, n, rfl, hS, hF, hP, hB, h100, hn, q⟩ := h
  refine ⟨_, (pss_cons (ps_set (i := 1) scIW.nd rfl (Or.inr rfl) pe_int)
    (pss_cons (ps_for PassesOwn.never rfl (pi_list (pv 0)) (pg_name (i := 2) scIW.nd rfl (Or.inl rfl))
      (pss_one (ps_set (i := 1) scIW.nd rfl (Or.inr rfl) (pe_op op_mulB (pe_op op_fdivB (pv 1) (pe_call G1 hr rfl m1 k1 b1 .nil pass0 (pa_cons (pv 1) (pa_cons (pe_ix ix_tup (pv 2) pe_int (fun _ _ => rfl)) pa_nil)))) (pe_ix ix_tup (pv 2) pe_int (fun _ _ => rfl))))))
    (pss_one (ps_ret (pe_tup (pa_cons (pe_comp (nl := 1) (fr := [1]) (Nc := ["one", "bottom"]) (cl := [("bottom", s.heap.objs.size + 1)]) rfl ⟨rfl, rfl, by decide +kernel, by decide +kernel, fun x c h => h, has_of rfl, rfl, fun i n h => match i, h with | 0, h => by cases h; exact ⟨1, rfl, rfl, rfl, rfl, .inl rfl⟩ | k + 1, h => by rw [show 1 + (k + 1) = k + 2 by omega] at h; cases h⟩
        (pi_list (pv 0)) (fun C s3 H3 fp pins => (pg_name (i := 0) nd_one_bottom rfl (Or.inl rfl))) (fun C s3 H3 fp pins => pif_nil)
        (fun C s3 H3 fp pins => (pe_op op_mulB (pe_ix (ix_tupK (K := K) rfl) (pv 0) pe_int (fun _ _ => rfl)) (pe_op op_fdivB (pv 1) (pe_ix (ix_tupK (K := K) rfl) (pv 0) pe_int (fun _ _ => rfl)))))) (pa_cons (pv 1) pa_nil))))))), ?_⟩
  have lx := hF.length
  refine ⟨_, rfl, a, rfl, ⟨_, hS⟩, ?_⟩
  refine for_list (xs := xs) (fun i σ H' => H' = H ∧ i ≤ ps.length ∧ ∃ z, σ = [some (.ref a), some (.int (Mq.lcmB (ps.take i))), z]) ⟨rfl, Nat.zero_le _, none, rfl⟩ (fun i σ H' _ h => by rw [h.1]; exact hS) ?_ ?_
  · rintro i x σ H' hx ⟨rfl, hi, z, rfl⟩
    obtain ⟨u, p, rfl, ep, fu⟩ := hF.get hx
    have hi' : i < ps.length := (List.getElem?_eq_some_iff.mp ep).1
    obtain ⟨f1, f2, _⟩ := Mq.lcmB_facts hP hB i hi
    have mono := Nat.mul_le_mul_left n hi
    have hp := hP p (List.mem_of_getElem? ep)
    have pb := (hB p (List.mem_of_getElem? ep)).b
    have g0 : Mq.gc (Mq.lcmB (ps.take i)) p.2 ≠ 0 := by have := Mq.gc_pos (a := Mq.lcmB (ps.take i)) (show p.2 ≠ 0 by omega); omega
    have gb : Mq.B n (Mq.gc (Mq.lcmB (ps.take i)) p.2) := by
      have := Mq.dvr_le (t := Mq.lcmB (ps.take i)) (show p.2 ≠ 0 by omega)
      rw [dvr_pos (by omega)] at this
      exact pb.le this
    have qb : Mq.B (1 + n * i) (Int.fdiv (Mq.lcmB (ps.take i)) (Mq.gc (Mq.lcmB (ps.take i)) p.2)) := by
      have d1 : Mq.gc (Mq.lcmB (ps.take i)) p.2 ∣ Mq.lcmB (ps.take i) := by unfold Mq.gc; exact Int.gcd_dvd_left ..
      obtain ⟨k, hk⟩ := d1
      have := Mq.natAbs_fdiv_le g0 hk
      rw [Mq.fdiv_exact g0 hk]
      exact f2.le this
    refine ⟨_, rfl, _, rfl, rd_ix1 rfl fu ⟨_, _, rfl, rd_fdivB g0 gb (by omega) (rd_ix1 rfl fu (rd_mulB qb pb (by omega) (by omega) ?_))⟩⟩
    refine ⟨rfl, hi', some (.ref u), ?_⟩
    rw [Mq.lcmB_take ep]
    rfl
  rintro σ H' ⟨rfl, _, z, rfl⟩
  rw [lx, List.take_length]
  obtain ⟨f1, f2, f3⟩ := Mq.lcmB_facts hP hB ps.length (Nat.le_refl _)
  rw [List.take_length] at f1 f2 f3
  refine ⟨_, rfl, a, rfl, ⟨_, hS⟩, fun D hD => ?_⟩
  have sD := same_new hD (.lst [])
  refine comp_list (xs := xs) (fun i zs H1 => Same H' H1 ∧ H1 D = some (.lst zs) ∧ zs = ((ps.take i).map (Mq.iwOf (Mq.lcmB ps))).map V.int) ⟨sD, upd_same, rfl⟩ (fun i zs H1 h => h.2.1) (fun i zs H1 _ h => h.1.seq hS) ?_ ?_
  · rintro i zs x H1 hx ⟨s1, e1, rfl⟩ C hC
    obtain ⟨u, p, rfl, ep, fu⟩ := hF.get hx
    have hi' : i < ps.length := (List.getElem?_eq_some_iff.mp ep).1
    have mem := List.mem_of_getElem? ep
    have hp := hP p mem
    obtain ⟨k, hk⟩ := f3 p mem
    have fu1 := s1.fq fu
    have kb : Mq.B (1 + n * ps.length) (Int.fdiv (Mq.lcmB ps) p.2) := by
      have e := Mq.fdiv_exact (show p.2 ≠ 0 by omega) (show Mq.lcmB ps = p.2 * k by rw [hk, Int.mul_comm])
      rw [e]
      refine f2.le ?_
      rw [hk, Int.natAbs_mul]
      exact Nat.le_mul_of_pos_right _ (by omega)
    refine ⟨keep1.1, keep1.2, iteT ?_⟩
    refine rd_ix0 rfl fu1 ⟨_, rfl, rd_ix1 rfl fu1 (rd_fdivB (show p.2 ≠ 0 by omega) (hB p mem).b (by omega) (rd_mulB (hB p mem).a kb (by omega) (by omega) ?_))⟩
    refine ⟨e1, small1000 (by rw [List.length_map, List.length_map, List.length_take]; omega), hC _ _ ⟨s1.change hD, upd_same, ?_⟩⟩
    rw [List.take_add_one, ep, List.map_append, List.map_append]; rfl
  rintro zs H1 ⟨s1, e1, rfl⟩
  rw [lx, List.take_length] at e1
  refine ⟨_, rfl, by show 2 ≤ sizeLine; decide, fun t ht => ?_⟩
  have s2 := same_new ht (.tup [.ref D, .int (Mq.lcmB ps)])
  exact q t D _ (s1.trans s2) hD (SqT.of upd_same) (s2 _ _ e1)
abbrev sPiv : Stmt := top 41
theorem scPiv : FnScope ["rows", "rank", "column", "place"] ["rows", "rank", "column"] (defScope sPiv) := ⟨rfl, rfl, rfl, by decide +kernel, rfl, by decide +kernel, by decide +kernel⟩
theorem ok_piv {dV : Value} (F : FunD K "pivot_place" "pivot_place" sPiv dV f fd)
    (ml : mg "len" = none) (mr : mg "range" = none) :
    FnOk P w K mg base CX 1 f fd ["rows", "rank", "column"] (spPiv K) := by
  refine F.ok scPiv (fun vs H Q E h => ?_) (fun cdv A outer s H vs Q E hr h => ?_)
  · obtain ⟨l, D, zs, R, r, c, m, w', rfl, hS, hI, hm, hw, hc, hr', h100, q1, q2⟩ := h
    rfl
  obtain ⟨l, D, zs, R, r, c, m, w', rfl, hS, hI, hm, hw, hc, hr', h100, q1, q2⟩ := h
  refine ⟨_, (pss_cons (ps_for PassesOwn.never rfl (pi_range2 rfl mr (pa_cons (pv 1) (pa_cons (pe_callB call_len_seq rfl ml PySem.boot_len (pa_cons (pv 0) pa_nil)) pa_nil))) (pg_name (i := 3) scPiv.nd rfl (Or.inl rfl))
      (pss_one (ps_if (pt_cmpR op_ne (pe_ix ix_list (pe_ix ix_list (pv 0) (pv 3) (fun _ _ => rfl)) (pv 2) (fun _ _ => rfl)) pe_int (nomark _)) (pss_one (ps_ret (pv 3))) pss_nil)))
    (pss_one (ps_ret pe_non))), ?_⟩
  have lz := hI.length
  obtain ⟨k, hk⟩ : ∃ k, m = r + k := ⟨m - r, by omega⟩
  refine ⟨_, rfl, _, rfl, l, zs, rfl, .inl hS, (r : Int), (zs.length : Int), rfl, ⟨by omega, by omega, by omega, by omega⟩, ?_⟩
  rw [show ((zs.length : Int) - (r : Int)).toNat = k by omega]
  refine for_range (lo := (r : Int)) (n := k) (fun i σ H' => H' = H ∧ (∀ j, r ≤ j → j < r + i → Mq.ent R j c = 0) ∧ ∃ z, σ = [some (.ref l), some (.int (r : Int)), some (.int (c : Int)), z]) ⟨rfl, fun j h1 h2 => absurd h1 (by omega), none, rfl⟩ ?_ ?_
  · rintro i σ H' hi ⟨rfl, hz, z, rfl⟩
    obtain ⟨u, eu, nu, hu⟩ := hI.at (i := r + i) (by omega)
    have eu' : atI zs ((r : Int) + (i : Int)) = some (.ref u) := by have := atI_nat eu; rwa [Int.natCast_add] at this
    have ec := atI_nat (map_get (l := R.getD (r + i) []) (i := c) (by rw [hw _ (by omega)]; exact hc))
    refine ⟨_, rfl, _, rfl, l, zs, _, _, rfl, rfl, hS, eu', _, rfl, u, _, _, _, rfl, rfl, SqL.of hu, ec, rfl, _, rfl, ite2 (fun e => ?_) (fun e => ?_)⟩
    · refine ⟨_, rfl, ?_⟩
      have ne : Mq.ent R (r + i) c ≠ 0 := fun z => by
        have z' : (R.getD (r + i) []).getD c 0 = 0 := z
        rw [z'] at e
        simp at e
      have := q1 (r + i) (by omega) (by omega) ne
      rwa [Int.natCast_add] at this
    · refine ⟨rfl, fun j h1 h2 => ?_, _, rfl⟩
      by_cases hj : j = r + i
      · rw [hj]
        simp at e
        exact e
      · exact hz j h1 (by omega)
  · rintro σ H' ⟨rfl, hz, z, rfl⟩
    exact q2 fun i h1 h2 => hz i h1 (by omega)
theorem nd_here_above_own_other_divisor : (["here", "above", "own", "other", "divisor"] : List Str).Nodup := by decide +kernel
abbrev sClr : Stmt := top 43
theorem scClr : FnScope ["row", "upper", "column", "divisor", "own", "other"] ["row", "upper", "column", "divisor"] (defScope sClr) := ⟨rfl, rfl, rfl, by decide +kernel, rfl, by decide +kernel, by decide +kernel⟩
theorem ok_clr {dV : Value} (F : FunD K "cleared" "cleared" sClr dV f fd)
    (mz : mg "zip" = none) :
    FnOk P w K mg base CX 1 f fd ["row", "upper", "column", "divisor"] (spCleared K) := by
  refine F.ok scClr (fun vs H Q E h => ?_) (fun cdv A outer s H vs Q E hr h => ?_)
  · obtain ⟨u, v, row, upper, c, n, dv, rfl, hu, hv, hl, h100, hc, hd, b1, b2, bd, hn, q⟩ := h
    rfl
  obtain ⟨u, v, row, upper, c, n, dv, rfl, hu, hv, hl, h100, hc, hd, b1, b2, bd, hn, q⟩ := h
  refine ⟨_, (pss_cons (ps_set (i := 4) scClr.nd rfl (Or.inr rfl) (pe_ix ix_list (pv 1) (pv 2) (fun _ _ => rfl)))
    (pss_cons (ps_set (i := 5) scClr.nd rfl (Or.inr rfl) (pe_ix ix_list (pv 0) (pv 2) (fun _ _ => rfl)))
    (pss_one (ps_ret (pe_comp (nl := 2) (fr := [4, 5, 3]) (Nc := ["here", "above", "own", "other", "divisor"]) (cl := [("own", s.heap.objs.size + 2), ("other", s.heap.objs.size + 3), ("divisor", s.heap.objs.size + 1)]) (g := (gTup K 2 (gCons (gName 0) (gCons (gName 1) gNil)))) rfl ⟨rfl, rfl, by decide +kernel, by decide +kernel, (sub_cons rfl (sub_cons rfl (sub_cons rfl (sub_nil)))), has_of rfl, rfl, fun i n h => match i, h with | 0, h => by cases h; exact ⟨4, rfl, rfl, rfl, rfl, .inl rfl⟩ | 1, h => by cases h; exact ⟨5, rfl, rfl, rfl, rfl, .inl rfl⟩ | 2, h => by cases h; exact ⟨3, rfl, rfl, rfl, rfl, .inl rfl⟩ | k + 3, h => by rw [show 2 + (k + 3) = k + 5 by omega] at h; cases h⟩
        (pi_zip rfl mz rfl (pa_cons (pv 0) (pa_cons (pv 1) pa_nil))) (fun C s3 H3 fp pins => (pg_tup rfl (pgs_cons (pg_name (i := 0) nd_here_above_own_other_divisor rfl (Or.inl rfl)) (pgs_cons (pg_name (i := 1) nd_here_above_own_other_divisor rfl (Or.inl rfl)) pgs_nil)))) (fun C s3 H3 fp pins => pif_nil)
        (fun C s3 H3 fp pins => (pe_op op_fdivB (pe_op op_sub (pe_op op_mulB (pv 2) (pv 0)) (pe_op op_mulB (pv 3) (pv 1))) (pv 4)))))))), ?_⟩
  have e1 := atI_nat (map_get (l := upper) (i := c) (by omega))
  have e2 := atI_nat (map_get (l := row) (i := c) (by omega))
  refine ⟨_, rfl, _, rfl, v, _, _, _, rfl, rfl, hv, e1, ?_⟩
  refine ⟨_, rfl, _, rfl, u, _, _, _, rfl, rfl, hu, e2, ?_⟩
  refine ⟨_, rfl, _, rfl, u, v, rfl, ⟨_, hu⟩, ⟨_, hv⟩, fun D hD => ?_⟩
  have sD := same_new hD (.lst [])
  refine comp_zip (xs := row.map V.int) (ys := upper.map V.int) (fun i zs H' => Same H H' ∧ H' D = some (.lst zs) ∧ zs = ((Mq.clrRow upper row c dv).take i).map V.int) ⟨sD, upd_same, rfl⟩ (fun i zs H' h => h.2.1) (fun i zs H' _ h => ⟨h.1.seq hu, h.1.seq hv⟩) ?_ ?_
  · rintro i zs x y H1 T1 ex ey ⟨s1, e1', rfl⟩ hT C hC
    have hi : i < row.length := by have := (List.getElem?_eq_some_iff.mp ex).1; simpa using this
    have ex' : x = .int (row.getD i 0) := by rw [map_get hi] at ex; cases ex; rfl
    have ey' : y = .int (upper.getD i 0) := by rw [map_get (by omega)] at ey; cases ey; rfl
    subst ex' ey'
    have sT := same_new hT (.tup [.int (row.getD i 0), .int (upper.getD i 0)])
    refine ⟨T1, _, rfl, SqT.of upd_same, rfl, _, _, rfl, _, _, rfl, rfl, keep2.1, keep2.2, iteT ?_⟩
    have mm : Mq.B (n + n + 1) (upper.getD c 0 * row.getD i 0 - row.getD c 0 * upper.getD i 0) := Mq.B.sub ((b2 c).mul (b1 i)) ((b1 c).mul (b2 i))
    refine ⟨_, rfl, _, rfl, rd_mulB (b2 c) (b1 i) (by omega) (by omega) ⟨_, rfl, _, rfl, rd_mulB (b1 c) (b2 i) (by omega) (by omega) ⟨_, _, rfl, rfl, _, rfl, rd_fdivB hd bd (by omega) ?_⟩⟩⟩
    have ll : (Mq.clrRow upper row c dv).length = row.length := by unfold Mq.clrRow; rw [List.length_zipWith]; omega
    have eA := sT _ _ e1'
    refine ⟨eA, small1000 (by rw [List.length_map, List.length_take]; omega), hC _ _ ⟨(s1.trans sT).change hD, upd_same, ?_⟩⟩
    have eg : (Mq.clrRow upper row c dv)[i]? = some (Int.fdiv (upper.getD c 0 * row.getD i 0 - row.getD c 0 * upper.getD i 0) dv) := by
      unfold Mq.clrRow
      rw [List.getElem?_zipWith, Mq.get_some hi, Mq.get_some (show i < upper.length by omega)]
    rw [List.take_add_one, eg, List.map_append]; rfl
  rintro zs H1 ⟨s1, e1', rfl⟩
  have ll : (Mq.clrRow upper row c dv).length = row.length := by unfold Mq.clrRow; rw [List.length_zipWith]; omega
  rw [List.length_map, List.length_map, List.take_of_length_le (by rw [ll]; omega)] at e1'
  exact q D H1 s1 hD e1'
theorem nd_place_row_upper_rank_divisor_column : (["place", "row", "upper", "rank", "divisor", "column"] : List Str).Nodup := by decide +kernel
abbrev sClrRows : Stmt := top 42
theorem scClrRows : FnScope ["rows", "rank", "column", "divisor", "upper"] ["rows", "rank", "column", "divisor"] (defScope sClrRows) := ⟨rfl, rfl, rfl, by decide +kernel, rfl, by decide +kernel, by decide +kernel⟩
theorem ok_clrrows {dV : Value} (F : FunD K "cleared_rows" "cleared_rows" sClrRows dV f fd)
    (men : mg "enumerate" = none)
    (G1 : FnOk P w K mg base CX0 1 g1 gd1 ["row", "upper", "column", "divisor"] (spCleared K)) (b1 : Binds K gd1 ["row", "upper", "column", "divisor"] []) (k1 : PySem.W.keepIn K (.ref g1) = true) (m1 : mg "cleared" = some (.ref g1)) :
    FnOk P w K mg base CX 2 f fd ["rows", "rank", "column", "divisor"] (spClrRows K) := by
  refine F.ok scClrRows (fun vs H Q E h => ?_) (fun cdv A outer s H vs Q E hr h => ?_)
  · obtain ⟨l, D0, zs, R, r, c, m, w', n, dv, rfl, hS, hI, hm, hw, hc, hw100, hr', h100, hd, hB, bd, hn, q⟩ := h
    rfl
  obtain ⟨l, D0, zs, R, r, c, m, w', n, dv, rfl, hS, hI, hm, hw, hc, hw100, hr', h100, hd, hB, bd, hn, q⟩ := h
  refine ⟨_, (pss_cons (ps_set (i := 4) scClrRows.nd rfl (Or.inr rfl) (pe_ix ix_list (pv 0) (pv 1) (fun _ _ => rfl)))
    (pss_one (ps_ret (pe_comp (nl := 2) (fr := [4, 1, 3, 2]) (Nc := ["place", "row", "upper", "rank", "divisor", "column"]) (cl := [("upper", s.heap.objs.size + 4), ("rank", s.heap.objs.size + 1), ("divisor", s.heap.objs.size + 3), ("column", s.heap.objs.size + 2)]) (g := (gTup K 2 (gCons (gName 0) (gCons (gName 1) gNil)))) rfl ⟨rfl, rfl, by decide +kernel, by decide +kernel, (sub_cons rfl (sub_cons rfl (sub_cons rfl (sub_cons rfl (sub_nil))))), has_of rfl, rfl, fun i n h => match i, h with | 0, h => by cases h; exact ⟨4, rfl, rfl, rfl, rfl, .inl rfl⟩ | 1, h => by cases h; exact ⟨1, rfl, rfl, rfl, rfl, .inl rfl⟩ | 2, h => by cases h; exact ⟨3, rfl, rfl, rfl, rfl, .inl rfl⟩ | 3, h => by cases h; exact ⟨2, rfl, rfl, rfl, rfl, .inl rfl⟩ | k + 4, h => by rw [show 2 + (k + 4) = k + 6 by omega] at h; cases h⟩
        (pi_enum rfl men rfl (pa_cons (pv 0) pa_nil)) (fun C s3 H3 fp pins => (pg_tup rfl (pgs_cons (pg_name (i := 0) nd_place_row_upper_rank_divisor_column rfl (Or.inl rfl)) (pgs_cons (pg_name (i := 1) nd_place_row_upper_rank_divisor_column rfl (Or.inl rfl)) pgs_nil)))) (fun C s3 H3 fp pins => pif_nil)
        (fun C s3 H3 fp pins => (pe_ifExp (pt_cmpR op_eq (pv 0) (pv 3) (nomark _)) (pv 1) (pe_call G1 hr rfl m1 k1 b1 .nil pass0 (pa_cons (pv 1) (pa_cons (pv 2) (pa_cons (pv 5) (pa_cons (pv 4) pa_nil))))))))))), ?_⟩
  have lz := hI.length
  obtain ⟨v, ev, nv, hv⟩ := hI.at (i := r) (by omega)
  refine ⟨_, rfl, _, rfl, l, zs, _, _, rfl, rfl, hS, atI_nat ev, ?_⟩
  refine ⟨_, rfl, l, rfl, ⟨_, hS⟩, fun D hD => ?_⟩
  have sD := same_new hD (.lst [])
  have ll := Mq.clr_len R r c dv
  refine comp_enum (xs := zs) (fun i ys H' => Same H H' ∧ H' D = some (.lst ys) ∧ Imx D H' ys ((Mq.clrRows R r c dv).take i)) ⟨sD, upd_same, .nil⟩ (fun i ys H' h => h.2.1) (fun i ys H' _ h => h.1.seq hS) ?_ ?_
  · rintro i ys x H1 T1 ex ⟨s1, e1, I1⟩ hT C hC
    have hi : i < m := by have := (List.getElem?_eq_some_iff.mp ex).1; omega
    obtain ⟨u, eu, nu, hu⟩ := hI.at (i := i) (by omega)
    have exu : x = .ref u := by rw [eu] at ex; cases ex; rfl
    subst exu
    have lI := I1.length
    rw [List.length_take] at lI
    have cg := Mq.clr_get (R := R) (i := i) (by omega) r c dv
    have cs : (Mq.clrRows R r c dv).take (i + 1) = (Mq.clrRows R r c dv).take i ++ [(Mq.clrRows R r c dv).getD i []] := by
      rw [List.take_add_one, List.getD_eq_getElem?_getD, List.getElem?_eq_getElem (show i < (Mq.clrRows R r c dv).length by omega)]; rfl
    have sT := same_new hT (.tup [.int (i : Int), .ref u])
    have uD : ∀ {x : Addr} {o : HO}, H x = some o → x ≠ D := fun h z => by rw [z, hD] at h; cases h
    refine ⟨T1, _, rfl, SqT.of upd_same, rfl, _, _, rfl, _, _, rfl, rfl, keep2.1, keep2.2, iteT ?_⟩
    generalize upd H1 T1 (.tup [.int (i : Int), .ref u]) = H2 at sT ⊢
    have sA := s1.trans sT
    have eA := sT _ _ e1
    refine ⟨_, rfl, _, rfl, rfl, _, rfl, ite2 (fun e => ?_) (fun e => ?_)⟩
    · have ei : i = r := by simp at e; omega
      refine ⟨_, rfl, eA, small1000 (by omega), hC _ _ ⟨sA.change hD, upd_same, ?_⟩⟩
      rw [cs, cg, if_pos ei]
      exact ((I1.same sT).app (.cons (uD hu) (sA _ _ hu) .nil)).upd
    · have ei : i ≠ r := by simp at e; omega
      refine ⟨_, rfl, _, rfl, _, rfl, _, rfl, u, v, R.getD i [], R.getD r [], c, n, dv, rfl, SqL.of (sA _ _ hu), SqL.of (sA _ _ hv), by rw [hw i hi, hw r hr'], by rw [hw i hi]; exact hw100, by rw [hw i hi]; exact hc, hd, fun j => hB i j, fun j => hB r j, bd, hn, fun l3 H3 s3 n3 e3 => ?_⟩
      have eB := s3 _ _ eA
      have n3' : l3 ≠ D := fun z => by rw [z, eA] at n3; cases n3
      refine ⟨eB, small1000 (by omega), hC _ _ ⟨(sA.trans s3).change hD, upd_same, ?_⟩⟩
      rw [cs, cg, if_neg ei]
      exact ((I1.same (sT.trans s3)).app (.cons n3' e3 .nil)).upd
  rintro ys H1 ⟨s1, e1, I1⟩
  rw [lz, List.take_of_length_le (by omega)] at I1
  exact q D ys H1 s1 hD e1 I1
abbrev sElim : Stmt := top 40
theorem scElim : FnScope ["rows", "width", "rank", "pivot", "sign", "column", "place", "lifted"] ["rows", "width"] (defScope sElim) := ⟨rfl, rfl, rfl, by decide +kernel, rfl, by decide +kernel, by decide +kernel⟩
theorem ok_elim {dV : Value} (F : FunD K "eliminated" "eliminated" sElim dV f fd)
    (mr : mg "range" = none) (mli : mg "list" = none)
    (G1 : FnOk P w K mg base CX0 1 g1 gd1 ["rows", "rank", "column"] (spPiv K)) (b1 : Binds K gd1 ["rows", "rank", "column"] []) (k1 : PySem.W.keepIn K (.ref g1) = true) (m1 : mg "pivot_place" = some (.ref g1))
    (G2 : FnOk P w K mg base CX0 2 g2 gd2 ["rows", "rank", "column", "divisor"] (spClrRows K)) (b2 : Binds K gd2 ["rows", "rank", "column", "divisor"] []) (k2 : PySem.W.keepIn K (.ref g2) = true) (m2 : mg "cleared_rows" = some (.ref g2)) :
    FnOk P w K mg base CX 3 f fd ["rows", "width"] (spElimQ K) := by
  refine F.ok scElim (fun vs H Q E h => ?_) (fun cdv A outer s H vs Q E hr h => ?_)
  · obtain ⟨l, D0, zs, R, m, w', n, Pr, rfl, hS, hI, hm, hw, hmw, hw100, hB, hn1, hn, hm15, hPr, hSt, q⟩ := h
    rfl
  obtain ⟨l, D0, zs, R, m, w', n, Pr, rfl, hS, hI, hm, hw, hmw, hw100, hB, hn1, hn, hm15, hPr, hSt, q⟩ := h
  have r1 := hr.mono (show 1 ≤ 2 by omega)
  refine ⟨_, (pss_cons (ps_set (i := 0) scElim.nd rfl (Or.inl rfl) (pe_callTy call_list_of rfl mli PyProof.Rows.boot_list (pa_cons (pv 0) pa_nil)))
    (pss_cons (ps_set (i := 2) scElim.nd rfl (Or.inl rfl) pe_int)
    (pss_cons (ps_set (i := 3) scElim.nd rfl (Or.inl rfl) pe_int)
    (pss_cons (ps_set (i := 4) scElim.nd rfl (Or.inl rfl) pe_int)
    (pss_cons (ps_for PassesOwn.never rfl (pi_range1 rfl mr (pa_cons (pv 1) pa_nil)) (pg_name (i := 5) scElim.nd rfl (Or.inl rfl))
      (pss_cons (ps_set (i := 6) scElim.nd rfl (Or.inl rfl) (pe_call G1 r1 rfl m1 k1 b1 .nil pass0 (pa_cons (pv 0) (pa_cons (pv 2) (pa_cons (pv 5) pa_nil)))))
    (pss_cons (ps_if (pt_cmp (pc_isN (pv 6))) (pss_one ps_continue) pss_nil)
    (pss_cons (ps_if (pt_cmpR op_ne (pv 6) (pv 2) (nomark _)) (pss_cons (ps_set (i := 7) scElim.nd rfl (Or.inl rfl) (pe_ix ix_list (pv 0) (pv 6) (fun _ _ => rfl)))
    (pss_cons (ps_asg (pe_ix ix_list (pv 0) (pv 2) (fun _ _ => rfl)) (pg_sub (pv 0) (pv 6) set_list))
    (pss_cons (ps_asg (pv 7) (pg_sub (pv 0) (pv 2) set_list))
    (pss_one (ps_set (i := 4) scElim.nd rfl (Or.inl rfl) (pe_un un_neg (pv 4))))))) pss_nil)
    (pss_cons (ps_set (i := 0) scElim.nd rfl (Or.inl rfl) (pe_call G2 hr rfl m2 k2 b2 .nil pass0 (pa_cons (pv 0) (pa_cons (pv 2) (pa_cons (pv 5) (pa_cons (pv 3) pa_nil))))))
    (pss_cons (ps_set (i := 3) scElim.nd rfl (Or.inl rfl) (pe_ix ix_list (pe_ix ix_list (pv 0) (pv 2) (fun _ _ => rfl)) (pv 5) (fun _ _ => rfl)))
    (pss_one (ps_aug (i := 2) scElim.nd rfl (Or.inl rfl) pe_int ip_add))))))))
    (pss_one (ps_ret (pe_disp (pps_cons pe_str (pv 0) (pps_cons pe_str (pv 2) (pps_cons pe_str (pv 3) (pps_cons pe_str (pv 4) pps_nil)))) rfl rfl (by simp) (by decide))))))))), ?_⟩
  refine ⟨_, rfl, l, zs, rfl, .inl hS, fun l0 hl0 => ?_⟩
  have s0 := same_new hl0 (.lst zs)
  have e0 : upd H l0 (.lst zs) l0 = some (.lst zs) := upd_same
  generalize upd H l0 (.lst zs) = H0 at s0 e0 ⊢
  refine ⟨_, rfl, (m : Int), rfl, by omega, by omega, ?_⟩
  rw [Int.toNat_natCast]
  have b1 : Mq.B n 1 := by
    show 1 < 2 ^ n
    exact Nat.one_lt_two_pow (by omega)
  refine for_range (lo := 0) (n := m) (fun i σ H' => Same H H' ∧ ∃ (lR : Addr) (zs' : List V) (R' : List (List Int)) (rank : Nat) (pivot sign : Int) (z5 z6 z7 : Option V), σ = [some (.ref lR), some (.int (m : Int)), some (.int (rank : Int)), some (.int pivot), some (.int sign), z5, z6, z7] ∧ H lR = none ∧ H' lR = some (.lst zs') ∧ Imx lR H' zs' R' ∧ Mq.SI m w' (Mq.at2 R) R' rank i pivot sign ∧ Mq.SB n m R' rank i pivot ∧ Pr R') ⟨s0, l0, zs, R, 0, 1, 1, none, none, none, rfl, hl0, e0, (hI.other hl0).same s0, .start hm hw, .start hB, hPr⟩ ?_ ?_
  · rintro i σ H1 hi ⟨s1, lR, zs', R', rank, pivot, sign, z5, z6, z7, rfl, nR, eR, I1, S1, sb, p1⟩
    rw [Int.zero_add]
    obtain ⟨bR, bP⟩ := sb.bd S1 hm15
    obtain ⟨A1, c1, B1, _⟩ := S1.bar
    have rm := B1.rm
    have rc := B1.rc
    have dn : pivot ≠ 0 := fun z => B1.dne (by rw [z]; simp)
    clear B1
    refine ⟨_, rfl, _, rfl, _, rfl, lR, lR, zs', R', rank, i, m, w', rfl, SqL.of eR, I1, S1.len, S1.wid, by omega, rm, by omega, fun p h1 h2 ne => ?_, fun hz => ?_⟩
    · refine ⟨_, rfl, _, rfl, iteF ?_⟩
      have hrm : rank < m := by omega
      refine (fun (hrest : ∀ (sg : Int) (z : Option V) (Hx : Hp) (zs2 : List V) (R2 : List (List Int)), Same H Hx → Hx lR = some (.lst zs2) → Imx lR Hx zs2 R2 → Mq.SI m w' (Mq.at2 R) R2 rank i pivot sg → Mq.ent R2 rank i ≠ 0 → Mq.SB n m R2 rank i pivot → Pr R2 → PySem.W.KIN.Hid ((?T : Int → Option V → Hp → Prop) sg z Hx)) => ?main) ?rest
      case main =>
        refine ⟨_, rfl, _, rfl, rfl, _, rfl, ite2 (fun e => ?c1) (fun e => ?c2)⟩
        case c1 =>
          have npr : p ≠ rank := by simp at e; omega
          obtain ⟨up, eup, nup, hup⟩ := I1.at (i := p) (by rw [S1.len]; omega)
          obtain ⟨ur, eur, nur, hur⟩ := I1.at (i := rank) (by rw [S1.len]; omega)
          have lz : zs'.length = m := I1.length.trans S1.len
          refine ⟨_, rfl, _, rfl, lR, zs', _, _, rfl, rfl, SqL.of eR, atI_nat eup, ?_⟩
          refine ⟨_, rfl, _, rfl, lR, zs', _, _, rfl, rfl, SqL.of eR, atI_nat eur, _, rfl, _, rfl, lR, zs', _, p, rfl, rfl, eR, ixN_nat (by omega), ?_⟩
          have e2 : upd H1 lR (.lst (zs'.set p (.ref ur))) lR = some (.lst (zs'.set p (.ref ur))) := upd_same
          have I2 := (Imx.set nur hur p I1).upd (o := .lst (zs'.set p (.ref ur)))
          have s2 : Same H (upd H1 lR (.lst (zs'.set p (.ref ur)))) := s1.change nR
          have hup2 : upd H1 lR (.lst (zs'.set p (.ref ur))) up = some (.lst ((R'.getD p []).map V.int)) := by rw [upd_ne nup]; exact hup
          generalize upd H1 lR (.lst (zs'.set p (.ref ur))) = H2 at e2 I2 s2 hup2 ⊢
          refine ⟨_, rfl, _, rfl, _, rfl, lR, _, _, rank, rfl, rfl, e2, ixN_nat (by rw [List.length_set]; omega), ?_⟩
          have e3 : upd H2 lR (.lst ((zs'.set p (.ref ur)).set rank (.ref up))) lR = some (.lst ((zs'.set p (.ref ur)).set rank (.ref up))) := upd_same
          have I3 := (Imx.set nup hup2 rank I2).upd (o := .lst ((zs'.set p (.ref ur)).set rank (.ref up)))
          have s3 : Same H (upd H2 lR (.lst ((zs'.set p (.ref ur)).set rank (.ref up)))) := s2.change nR
          generalize upd H2 lR (.lst ((zs'.set p (.ref ur)).set rank (.ref up))) = H3 at e3 I3 s3 ⊢
          refine ⟨_, rfl, _, rfl, ?_⟩
          show tSeq _ _ _ [some (.ref lR), some (.int (m : Int)), some (.int (rank : Int)), some (.int pivot), some (.int (-sign)), some (.int (i : Int)), some (.int (p : Int)), some (.ref up)] H3
          have S3 := S1.swap (p := p) (by omega) h2
          have bR3 := sb.swap S1 (p := p) (by omega) h2
          have ne3 : Mq.ent (Mq.swRows R' p rank) rank i ≠ 0 := by
            unfold Mq.ent
            rw [Mq.ent_sw (by rw [S1.len]; omega) (by rw [S1.len]; omega)]
            have : Mq.sw p rank rank = p := by unfold Mq.sw; rw [if_pos rfl]
            rw [this]; exact ne
          have I3' : Imx lR H3 ((zs'.set p (.ref ur)).set rank (.ref up)) (Mq.swRows R' p rank) := I3
          clear I3 hup2
          have p3 := hSt.sw _ _ _ _ _ _ S1 (show rank < p by omega) h2 p1
          generalize -sign = sg at S3 ⊢
          generalize some (V.ref up) = zz at ⊢
          exact (hrest sg zz H3 _ _ s3 e3 I3' S3 ne3 bR3 p3).out
        case c2 =>
          have epr : p = rank := by simp at e; omega
          show tSeq _ _ _ [some (.ref lR), some (.int (m : Int)), some (.int (rank : Int)), some (.int pivot), some (.int sign), some (.int (i : Int)), some (.int (p : Int)), z7] H1
          exact (hrest sign z7 H1 _ _ s1 eR I1 S1 (by rw [← epr]; exact ne) sb p1).out
      case rest =>
      intro sg z Hx zs2 R2 sx ex Ix Sx nx bx px
      refine ⟨?_⟩
      have bxx := bx.bd Sx hm15
      refine ⟨_, rfl, _, rfl, _, rfl, _, rfl, lR, lR, zs2, R2, rank, i, m, w', bq n m, pivot, rfl, SqL.of ex, Ix, Sx.len, Sx.wid, by omega, hw100, hrm, by omega, dn, bxx.1, bxx.2, hn, fun l3 zs3 H3 s3 n3 e3 I3 => ?_⟩
      have S3 := Sx.clear hrm (by omega) nx
      have b3 := bx.clear Sx hrm (by omega) nx
      obtain ⟨u, eu, nu, hu⟩ := I3.at (i := rank) (by rw [S3.len]; omega)
      have ec := atI_nat (map_get (l := (Mq.clrRows R2 rank i pivot).getD rank []) (i := i) (by rw [S3.wid _ hrm]; omega))
      refine ⟨_, rfl, _, rfl, l3, zs3, _, _, rfl, rfl, SqL.of e3, atI_nat eu, _, rfl, u, _, _, _, rfl, rfl, SqL.of hu, ec, ?_⟩
      refine ⟨_, rfl, _, _, rfl, rfl, ?_⟩
      have ev : ((Mq.clrRows R2 rank i pivot).getD rank []).getD i 0 = Mq.ent R2 rank i := by rw [Mq.clr_get (by rw [Sx.len]; omega), if_pos rfl]; rfl
      refine ⟨sx.trans s3, l3, zs3, _, rank + 1, Mq.ent R2 rank i, sg, some (.int (i : Int)), some (.int (p : Int)), z, ?_, sx.free n3, e3, I3, S3, b3, hSt.cl _ _ _ _ _ Sx hrm (by omega) nx px⟩
      rw [ev]; rfl
    · refine ⟨_, rfl, _, rfl, iteT ?_⟩
      exact ⟨s1, lR, zs', R', rank, pivot, sign, _, _, _, rfl, nR, eR, I1, S1.skip hz, sb.skip hz, p1⟩
  · rintro σ H1 ⟨s1, lR, zs', R', rank, pivot, sign, z5, z6, z7, rfl, nR, eR, I1, S1, sb, p1⟩
    obtain ⟨bR, bP⟩ := sb.bd S1 hm15
    obtain ⟨A1, c1, B1, _⟩ := S1.bar
    have rm := B1.rm
    intro d hd
    have nd : lR ≠ d := fun z => by rw [z, hd] at eR; cases eR
    refine ⟨_, rfl, _, rfl, _, rfl, _, rfl, upd_same, [(.inr "rows", .ref lR), (.inr "rank", .int (rank : Int)), (.inr "pivot", .int pivot), (.inr "sign", .int sign)], rfl, by show 4 ≤ 15; decide, ?_⟩
    have sd : Same H1 (upd (upd H1 d (.dK [])) d (elimD lR rank pivot sign)) := (same_new hd _).change hd
    exact q d lR zs' R' rank pivot sign _ (s1.trans sd) (s1.free hd) nR upd_same (sd _ _ eR) (I1.same sd) S1 bR bP p1
abbrev sWeight : Stmt := top 38
theorem scWeight : FnScope ["matrix", "rows", "end", "bottom", "row"] ["matrix"] (defScope sWeight) := ⟨rfl, rfl, rfl, by decide +kernel, rfl, by decide +kernel, by decide +kernel⟩
theorem ok_weight {dV : Value} (F : FunD K "weight" "weight" sWeight dV f fd)
    {aN : Addr} (fN : ∀ H, Fq K H aN (0, 1)) (mNO : mg "NOUGHT" = some (.ref aN)) (ml : mg "len" = none)
    (G1 : FnOk P w K mg base CX0 2 g1 gd1 ["some"] (spIWd K)) (b1 : Binds K gd1 ["some"] []) (k1 : PySem.W.keepIn K (.ref g1) = true) (m1 : mg "in_wholes" = some (.ref g1))
    (G2 : FnOk P w K mg base CX0 3 g2 gd2 ["rows", "width"] (spElimQ K)) (b2 : Binds K gd2 ["rows", "width"] []) (k2 : PySem.W.keepIn K (.ref g2) = true) (m2 : mg "eliminated" = some (.ref g2))
    (G3 : FnOk P w K mg base CX0 2 g3 gd3 ["top", "bottom"] spFrac) (b3 : Binds K gd3 ["top", "bottom"] []) (k3 : PySem.W.keepIn K (.ref g3) = true) (m3 : mg "fraction" = some (.ref g3)) :
    FnOk P w K mg base CX 4 f fd ["matrix"] (spWeightT K) := by
  refine F.ok scWeight (fun vs H Q E h => ?_) (fun cdv A outer s H vs Q E hr h => ?_)
  · obtain ⟨g, D0, us, X, rfl, hU, hX, wx, q⟩ := h
    rfl
  obtain ⟨g, D0, us, X, rfl, hU, hX, wx, q⟩ := h
  have r2 := hr.mono (show 2 ≤ 3 by omega)
  have hu := hu_of hr
  refine ⟨_, (pss_cons (ps_setC (i := 1) (nl := 1) (fr := []) (Nc := ["row"]) (cl := []) scWeight.nd rfl rfl rfl ⟨rfl, rfl, by decide +kernel, by decide +kernel, fun x c h => (by cases h), has_of rfl, rfl, fun i n h => (by simp at h)⟩
        (pi_list (pv 0)) (fun C s3 H3 fp pins => (pg_name (i := 0) nd_row rfl (Or.inl rfl))) (fun C s3 H3 fp pins => pif_nil)
        (fun C s3 H3 fp pins => (pe_call G1 r2 rfl m1 k1 b1 .nil pass0 (pa_cons (pv 0) pa_nil))) rfl)
    (pss_cons (ps_set (i := 2) scWeight.nd rfl (Or.inl rfl) (pe_call G2 hr rfl m2 k2 b2 .nil pass0 (pa_cons (pe_comp (nl := 1) (fr := []) (Nc := ["row"]) (cl := []) rfl ⟨rfl, rfl, by decide +kernel, by decide +kernel, fun x c h => (by cases h), has_of rfl, rfl, fun i n h => (by simp at h)⟩
        (pi_list (pv 1)) (fun C s3 H3 fp pins => (pg_name (i := 0) nd_row rfl (Or.inl rfl))) (fun C s3 H3 fp pins => pif_nil)
        (fun C s3 H3 fp pins => (pe_ix (ix_tupK (K := K) rfl) (pv 0) pe_int (fun _ _ => rfl)))) (pa_cons (pe_callB call_len_seq rfl ml PySem.boot_len (pa_cons (pv 0) pa_nil)) pa_nil))))
    (pss_cons (ps_if (pt_cmpR op_lt (pe_dget hu (pv 2) pe_str (fun _ _ => rfl)) (pe_callB call_len_seq rfl ml PySem.boot_len (pa_cons (pv 0) pa_nil)) (nomark _)) (pss_one (ps_ret (pe_glob (v := .ref aN) rfl mNO rfl))) pss_nil)
    (pss_cons (ps_set (i := 3) scWeight.nd rfl (Or.inl rfl) pe_int)
    (pss_cons (ps_for PassesOwn.never rfl (pi_list (pv 1)) (pg_name (i := 4) scWeight.nd rfl (Or.inl rfl))
      (pss_one (ps_set (i := 3) scWeight.nd rfl (Or.inl rfl) (pe_op op_mulB (pv 3) (pe_ix ix_tup (pv 4) pe_int (fun _ _ => rfl))))))
    (pss_one (ps_ret (pe_call G3 r2 rfl m3 k3 b3 .nil pass0 (pa_cons (pe_op op_mulB (pe_dget hu (pv 2) pe_str (fun _ _ => rfl)) (pe_dget hu (pv 2) pe_str (fun _ _ => rfl))) (pa_cons (pv 3) pa_nil)))))))))), ?_⟩
  have xP := wx.p
  have xB := wx.b
  have x4 := wx.n
  have lu := hX.length
  have hw : ∀ row ∈ X, row.length = X.length := fun row h => (xB row h).2
  have lB : ∀ row ∈ X, Mq.B 640 (Mq.lcmB row) := wx.l
  -- rows
  refine ⟨_, rfl, g, rfl, ⟨_, hU⟩, fun D1 hD1 => ?_⟩
  have sD1 := same_new hD1 (.lst [])
  refine comp_list (xs := us) (fun i zs H' => Same H H' ∧ H' D1 = some (.lst zs) ∧ Wmx K D1 H' zs ((X.take i).map wh)) ⟨sD1, upd_same, .nil⟩ (fun i zs H' h => h.2.1) (fun i zs H' _ h => h.1.seq hU) ?_ ?_
  · rintro i zs x H1 hx ⟨s1, e1, W1⟩ C hC
    obtain ⟨u, ys, row, rfl, er, hu', fu⟩ := hX.get hx
    have hi : i < X.length := (List.getElem?_eq_some_iff.mp er).1
    have mem := List.mem_of_getElem? er
    obtain ⟨rb, rl⟩ := xB row mem
    have lz := W1.length
    rw [List.length_map, List.length_take] at lz
    refine ⟨keep1.1, keep1.2, iteT ?_⟩
    refine ⟨_, rfl, u, ys, row, 640, rfl, s1.seq hu', fu.same s1, xP row mem, rb, by omega, by rw [rl]; omega, fun t l H2 s2 nl ht hl => ?_⟩
    have e2 := s2 _ _ e1
    have ne : l ≠ D1 := fun z => by rw [z, e1] at nl; cases nl
    refine ⟨e2, small1000 (by omega), hC _ _ ⟨(s1.trans s2).change hD1, upd_same, ?_⟩⟩
    have ee : (X.take (i + 1)).map wh = (X.take i).map wh ++ [wh row] := by rw [List.take_add_one, er, List.map_append]; rfl
    rw [ee]
    exact ((W1.same s2).app (.cons ne ht hl .nil)).upd e2
  rintro zs1 H1 ⟨s1, e1, W1⟩
  rw [lu, List.take_length] at W1
  have lz1 := W1.length
  rw [List.length_map] at lz1
  -- the rows' numbers
  refine ⟨_, rfl, D1, rfl, ⟨_, SqL.of e1⟩, fun D2 hD2 => ?_⟩
  have sD2 := same_new hD2 (.lst [])
  refine comp_list (xs := zs1) (fun i zs H' => Same H1 H' ∧ H' D2 = some (.lst zs) ∧ Imx D2 H' zs ((X.map Mq.iw).take i)) ⟨sD2, upd_same, .nil⟩ (fun i zs H' h => h.2.1) (fun i zs H' _ h => h.1.seq (SqL.of e1)) ?_ ?_
  · rintro i zs x H2 hx ⟨s2, e2, J2⟩ C hC
    obtain ⟨t, l, r, rfl, er, ht, hl⟩ := W1.get hx
    obtain ⟨row, erow, rfl⟩ : ∃ row, X[i]? = some row ∧ r = wh row := by
      rw [List.getElem?_map] at er
      cases e : X[i]? with
      | none => rw [e] at er; cases er
      | some row => rw [e] at er; cases er; exact ⟨row, rfl, rfl⟩
    have lz := J2.length
    rw [List.length_take, List.length_map] at lz
    have ne : l ≠ D2 := fun z => by rw [z, hD2] at hl; cases hl
    refine ⟨keep1.1, keep1.2, iteT ?_⟩
    refine ⟨_, rfl, t, _, _, _, rfl, rfl, s2.seqT ht, rfl, ?_⟩
    refine ⟨e2, small1000 (by omega), hC _ _ ⟨s2.change hD2, upd_same, ?_⟩⟩
    have ee : (X.map Mq.iw).take (i + 1) = (X.map Mq.iw).take i ++ [Mq.iw row] := by rw [List.take_add_one, List.getElem?_map, erow]; rfl
    rw [ee]
    exact (J2.app (.cons ne (s2 _ _ hl) .nil)).upd
  rintro zs2 H2 ⟨s2, e2, J2⟩
  rw [lz1, show X.length = (X.map Mq.iw).length by simp, List.take_length] at J2
  have sA := s1.trans s2
  have wid : ∀ i, i < X.length → ((X.map Mq.iw).getD i []).length = X.length := fun i hi => by
    have e : X[i]? = some (X.getD i []) := by rw [List.getD_eq_getElem?_getD, List.getElem?_eq_getElem hi]; rfl
    rw [map_iw hi, iw_len, hw _ (List.mem_of_getElem? e)]
  have bd0 := wx.w
  have bits4 : bq 640 X.length ≤ 3300 := Nat.le_trans (bq_mono 640 x4) (by decide)
  refine ⟨_, rfl, g, us, rfl, .inl (sA.seq hU), D2, D2, zs2, X.map Mq.iw, X.length, X.length, 640, fun _ => True, by rw [lu]; rfl, SqL.of e2, J2, by simp, wid, Nat.le_refl _, by omega, bd0, by omega, by omega, by omega, trivial, ⟨fun _ _ _ _ _ _ _ _ _ _ => trivial, fun _ _ _ _ _ _ _ _ _ _ => trivial⟩, fun d lE zE R' rank pivot sign H3 s3 nd nl ed el IE SE bE bp _ => ?_⟩
  obtain ⟨g1', g2', g3', g4'⟩ := elim_get ed
  have sB := sA.trans s3
  obtain ⟨A1, c1, B1, _⟩ := SE.bar
  have rm := B1.rm
  clear B1
  refine ⟨_, rfl, d, _, rfl, g2', _, rfl, g, us, rfl, .inl (sB.seq hU), _, _, rfl, rfl, _, rfl, ite2 (fun e => ?_) (fun e => ?_)⟩
  · have e' : rank < X.length := by simp at e; omega
    refine q aN (0, 1) H3 sB (fN H3) ⟨by decide, by decide⟩ ⟨Nat.two_pow_pos _, show (1 : Nat) < 2 ^ 3400 from Nat.one_lt_two_pow (by omega)⟩ ?_
    rw [wgt_lame xP hw SE e']
    unfold Mq.val; simp; grind
  have e' : rank = X.length := by simp at e; omega
  subst e'
  refine ⟨_, rfl, D1, rfl, ⟨_, SqL.of ((s2.trans s3) _ _ e1)⟩, ?_⟩
  have W3 := W1.same (s2.trans s3)
  refine for_list (xs := zs1) (fun i σ H' => H' = H3 ∧ i ≤ X.length ∧ Mq.B (1 + 640 * i) (botP (X.take i)) ∧ ∃ z, σ = [some (.ref g), some (.ref D1), some (.ref d), some (.int (botP (X.take i))), z]) ⟨rfl, Nat.zero_le _, show (1 : Nat) < 2 ^ (1 + 640 * 0) by simp, none, rfl⟩ (fun i σ H' _ h => by rw [h.1]; exact SqL.of ((s2.trans s3) _ _ e1)) ?_ ?_
  · rintro i x σ H' hx ⟨rfl, hi, hb, z, rfl⟩
    obtain ⟨t, l, r, rfl, er, ht, hl⟩ := W3.get hx
    obtain ⟨row, erow, rfl⟩ : ∃ row, X[i]? = some row ∧ r = wh row := by
      rw [List.getElem?_map] at er
      cases e : X[i]? with
      | none => rw [e] at er; cases er
      | some row => rw [e] at er; cases er; exact ⟨row, rfl, rfl⟩
    have hi' : i < X.length := (List.getElem?_eq_some_iff.mp erow).1
    have mem := List.mem_of_getElem? erow
    refine ⟨_, rfl, _, rfl, t, _, _, _, rfl, rfl, ht, rfl, rd_mulB hb (lB row mem) (by omega) (by omega) ?_⟩
    refine ⟨rfl, hi', ?_, some (.ref t), ?_⟩
    · rw [botP_take erow]; exact (hb.mul (lB row mem)).mono (by omega)
    · rw [botP_take erow]; rfl
  rintro σ H' ⟨rfl, _, hb, z, rfl⟩
  rw [lz1, List.take_length] at hb
  rw [lz1, List.take_length]
  have b1 := botP_ge xP X.length (Nat.le_refl _)
  rw [List.take_length] at b1
  have sgB : Mq.B 1 sign := by rcases SE.one with z | z <;> rw [z] <;> exact show (1 : Nat) < 2 ^ 1 by decide
  refine ⟨_, rfl, d, _, rfl, g4', _, rfl, d, _, rfl, g3', rd_mulB sgB bp (by omega) (by omega) ⟨_, rfl, _, _, 1 + 640 * X.length, rfl, by omega, hb, by omega, fun a4 H4 s4 e4 => ?_⟩⟩
  have le := Mq.red_le (t := sign * pivot) (show botP X ≠ 0 by omega)
  exact q a4 _ H4 (sB.trans s4) (Fq.of e4) (Mq.red_low (by omega)) ⟨((sgB.mul bp).le le.1).mono (by omega), (hb.le le.2).mono (by omega)⟩ (wgt_full xP hw SE)
def NoHo (ds : List RD) : Prop := ∀ d ∈ ds, d.1 ≠ .ho
def spRHo (CN : Addr) (K : PySem.W.Frag) : Sp := fun vs H Q _ => ∃ (n l : Addr) (m : Int) (ds : List RD), vs = [.ref n] ∧ NetAt CN K H n l m ds ∧ ds.length ≤ 100 ∧ NoHo ds ∧ ∀ H', Same H H' → Q .non H'
abbrev sRHo : Stmt := top 36
theorem scRHo : FnScope ["net", "number", "row"] ["net"] (defScope sRHo) := ⟨rfl, rfl, rfl, by decide +kernel, rfl, by decide +kernel, by decide +kernel⟩
theorem ok_rho {dV : Value} (F : FunD K "refuse_holds" "refuse_holds" sRHo dV f fd)
    {CN : Addr} (men : mg "enumerate" = none) (NTx : NT K mg CN) (T : RT K mg CR CK)
    (GW : ∀ k, FnOk P w K mg base CX0 1 (fW k) (fdW k) ["self"] (spWord k)) (bW : ∀ k, Binds K (fdW k) ["self"] []) (mW : ∀ k, Meth K (CK k) "word" (fW k))
    {gRo : Addr} {gdRo : FuncData} (GRo : FnOk P w K mg base CX0 4 gRo gdRo ["self"] (spRows CN K CK)) (bRo : Binds K gdRo ["self"] []) (mRo : Meth K CN "rows" gRo) :
    FnOk P w K mg base CX 5 f fd ["net"] (spRHo CN K) := by
  refine F.ok scRHo (fun vs H Q E h => ?_) (fun cdv A outer s H vs Q E hr h => ?_)
  · obtain ⟨n, l, m, ds, rfl, nt, h100, nh, q⟩ := h
    rfl
  obtain ⟨n, l, m, ds, rfl, nt, h100, nh, q⟩ := h
  have r1 := hr.mono (show 1 ≤ 4 by omega)
  refine ⟨_, (pss_one (ps_for PassesOwn.never rfl (pi_enum rfl men rfl (pa_cons (pe_meth0 (pv 0) NTx.cl mRo GRo hr bRo .nil pass0) pa_nil)) (pg_tup rfl (pgs_cons (pg_name (i := 1) scRHo.nd rfl (Or.inl rfl)) (pgs_cons (pg_name (i := 2) scRHo.nd rfl (Or.inl rfl)) pgs_nil)))
      (pss_one (ps_if (pt_cmpR op_eq (pe_methD0 (pv 2) T.cl mW GW r1 bW .nil pass0) pe_str (nomark _)) (pss_one ps_never) pss_nil)))), ?_⟩
  obtain ⟨dx, hn⟩ := nt.ob
  refine ⟨_, rfl, n, dx, _, rfl, hn, nflds_no _ _ (by decide +kernel) (by decide +kernel), n, l, _, ds, rfl, nt, h100, fun a xs H1 s1 na ea Rb => ?_⟩
  have lxs := Rb.length
  refine ⟨a, rfl, ⟨_, SqL.of ea⟩, ?_⟩
  refine for_enum (xs := xs) (fun i σ H' => Same H1 H' ∧ ∃ z1 z2, σ = [some (.ref n), z1, z2]) ⟨Same.refl _, none, none, rfl⟩ (fun i σ H' _ h => h.1.seq (SqL.of ea)) ?_ ?_
  · rintro i x σ H2 T2 hx ⟨s2, z1, z2, rfl⟩ hT
    have hi : i < ds.length := by
      have := (List.getElem?_eq_some_iff.mp hx).1
      omega
    obtain ⟨⟨k, u, v, p⟩, hd⟩ : ∃ d, ds[i]? = some d := ⟨_, List.getElem?_eq_getElem hi⟩
    obtain ⟨y, z', ey, rw, fz⟩ := Rb.at hd
    have ex : x = .ref y := by rw [ey] at hx; exact (Option.some.inj hx).symm
    subst ex
    have sT := same_new hT (.tup [.int (i : Int), .ref y])
    refine ⟨T2, _, rfl, SqT.of upd_same, rfl, _, _, rfl, _, _, rfl, rfl, ?_⟩
    generalize upd H2 T2 (.tup [.int (i : Int), .ref y]) = H3 at sT ⊢
    obtain ⟨dr, hy⟩ := id (rw.same (s2.trans sT))
    refine ⟨_, rfl, k, y, dr, _, rfl, hy, (rflds_no _ _ _ (by decide +kernel) (by decide +kernel) (by decide +kernel)), _, rfl, rfl, _, rfl, ?_⟩
    have hk : k ≠ .ho := nh _ (List.mem_of_getElem? hd)
    exact L2.ifF (by show decide (V.str k.wd = V.str Kd.ho.wd) = false; rw [dec_wd]; exact decide_eq_false hk) ⟨s2.trans sT, _, _, rfl⟩
  · rintro σ H2 ⟨s2, z1, z2, rfl⟩
    exact q _ (s1.trans s2)
theorem fmx_of {K : PySem.W.Frag} {H0 H : Hp} {D : Addr} : ∀ {us : List V} {X : List (List Mq.Q2)}, Fms K H0 H us X → (∀ x ∈ us, x ≠ .ref D) → Fmx K D H us X
  | [], [], _, _ => .nil
  | [], _ :: _, h, _ => by have := h.l; simp at this
  | _ :: _, [], h, _ => by have := h.l; simp at this
  | u :: us, ps :: X, h, n => by
    obtain ⟨a, xs, rfl, _, ha, f⟩ := h.r 0 u ps rfl rfl
    exact .cons (fun z => n (.ref a) (by simp) (by rw [z])) (SqL.of ha) f (fmx_of ⟨by have := h.l; simpa using this, fun i x qs e1 e2 => h.r (i + 1) x qs (by simpa using e1) (by simpa using e2)⟩ fun x hx => n x (List.mem_cons_of_mem _ hx))
theorem hds_none {ds : List RD} (h : NoHo ds) : hds' ds = 0 := by
  unfold hds' selD
  rw [List.filter_eq_nil_iff.mpr fun d hd => by simpa using h d hd]; rfl
structure TsOk (m : Nat) (ds : List RD) : Prop where
  r : ∀ d ∈ ds, RdOk (m : Int) d ∧ Mq.Bd 31 d.2.2.2
  h : NoHo ds
  p : ∀ d ∈ ds, PcB d
  l : ds.length ≤ 20
  m1 : 1 ≤ m
  m5 : m ≤ 5
def spTS (CN : Addr) (K : PySem.W.Frag) : Sp := fun vs H Q _ => ∃ (n l : Addr) (m : Nat) (ds : List RD), vs = [.ref n] ∧ NetAt CN K H n l (m : Int) ds ∧ TsOk m ds ∧ ∀ a p H', Same H H' → Fq K H' a p → Mq.Low p → Mq.Bd 3400 p → Mq.val p = tsum m ds → Q (.ref a) H'
abbrev sTS : Stmt := top 52
theorem scTS : FnScope ["net"] ["net"] (defScope sTS) := ⟨rfl, rfl, rfl, by decide +kernel, rfl, by decide +kernel, by decide +kernel⟩
theorem ok_ts {dV : Value} (F : FunD K "tree_sum" "tree_sum" sTS dV f fd)
    {CN : Addr}
    (G1 : FnOk P w K mg base CX0 5 g1 gd1 ["net"] (spRHo CN K)) (b1 : Binds K gd1 ["net"] []) (k1 : PySem.W.keepIn K (.ref g1) = true) (m1 : mg "refuse_holds" = some (.ref g1))
    (G2 : FnOk P w K mg base CX0 4 g2 gd2 ["matrix"] (spWeightT K)) (b2 : Binds K gd2 ["matrix"] []) (k2 : PySem.W.keepIn K (.ref g2) = true) (m2 : mg "weight" = some (.ref g2))
    (G3 : FnOk P w K mg base CX0 7 g3 gd3 ["net"] (spEqs CN K)) (b3 : Binds K gd3 ["net"] []) (k3 : PySem.W.keepIn K (.ref g3) = true) (m3 : mg "equations" = some (.ref g3)) :
    FnOk P w K mg base CX 8 f fd ["net"] (spTS CN K) := by
  refine F.ok scTS (fun vs H Q E h => ?_) (fun cdv A outer s H vs Q E hr h => ?_)
  · obtain ⟨n, l, m, ds, rfl, nt, ts, q⟩ := h
    rfl
  obtain ⟨n, l, m, ds, rfl, nt, ts, q⟩ := h
  have r4 := hr.mono (show 4 ≤ 7 by omega)
  have r5 := hr.mono (show 5 ≤ 7 by omega)
  refine ⟨_, (pss_cons (ps_expr (pe_call G1 r5 rfl m1 k1 b1 .nil pass0 (pa_cons (pv 0) pa_nil)))
    (pss_one (ps_ret (pe_call G2 r4 rfl m2 k2 b2 .nil pass0 (pa_cons (pe_ix ix_tup (pe_call G3 hr rfl m3 k3 b3 .nil pass0 (pa_cons (pv 0) pa_nil)) pe_int (fun _ _ => rfl)) pa_nil))))), ?_⟩
  have l20 := ts.l
  have m5 := ts.m5
  refine ⟨_, rfl, n, l, m, ds, rfl, nt, by omega, ts.h, fun H1 s1 => ?_⟩
  refine ⟨_, rfl, n, l, m, 31, ds, rfl, nt.same s1, ts.r, ts.m1, by omega, by omega, by omega, fun t pp rr us ys X Y H2 s2 et np nrr ep err fm FY nxs eq => ?_⟩
  have e0 := hds_none ts.h
  have bx := eq.x
  rw [e0, Nat.add_zero] at bx
  obtain ⟨wx, ew⟩ := wx_of ts.p ts.l ts.m5 bx (fun i j => by rw [eq.vx]; exact eqM_lap _ _ m ts.h)
  refine ⟨t, _, 0, _, rfl, rfl, SqT.of et, rfl, pp, pp, us, X, rfl, SqL.of ep, fmx_of fm (fun x hx => (nxs x hx).1), wx, fun a p H3 s3 fa lp bp vp => ?_⟩
  exact q a p H3 (s1.trans (s2.trans s3)) fa lp bp (by rw [vp, ew])
end
end K65

set_option Elab.async false
set_option linter.all false
namespace L2
open PySem PySem.Spec PyProof.Rows
section
variable {X : Cx}
/-- min and max of a tuple of two numbers -/
theorem call_minT (hc : X.calm = true) : CallR X (.builtin "min") (fun xs H Q => ∃ p i j, xs = [.ref p] ∧ SqT X.K H p [.int i, .int j] ∧ Q (.int (if j < i then j else i)) H) := by
  intro pins s σ H xs us Q I r h
  obtain ⟨p, i, j, rfl, hq, q⟩ := h
  obtain ⟨u, rfl, rx⟩ := vals1 r
  cases rx
  obtain ⟨its, rv, pl, hz⟩ := I.tuple hq
  obtain ⟨u1, u2, rfl, ⟨t1, rfl⟩, ⟨t2, rfl⟩⟩ := vals2 rv
  have hp : p < s.heap.objs.size := by
    obtain ⟨o, e, _⟩ := pl
    exact Heap.lt_size e
  have hne : p ≠ s.heap.objs.size := Nat.ne_of_lt hp
  refine call_min_walk (wpAny_pyIter_tuple pl ?_)
  have hW := Walks.tuple (prog := X.prog) (w := X.w) (A := X.A.in1) (by exact I.ok.hd hc) s.heap.objs.size p hne #[Value.int i t1, Value.int j t2]
  refine ⟨s.heap.objs.size, _, _, _, _, _, fun a b => decide ((if a = 0 then i else j) < (if b = 0 then i else j)), rfl, hW, ⟨⟨_, Heap.get?_push_size _ rfl, rfl, rfl⟩, ?_⟩, ?_, by show 0 < 2; decide, ?_, ?_⟩
  · obtain ⟨o, e, c⟩ := pl
    exact ⟨o, Heap.get?_push_of_some _ e, c⟩
  · intro b hb
    simp only [List.mem_cons, List.not_mem_nil, or_false] at hb
    rw [show ({ s with heap := s.heap.push { cls := .type "tuple_iterator", data := .fields #[.ref p, .int 0 0] } } : Shared).heap.objs.size = s.heap.objs.size + 1 from Heap.size_push ..]
    rcases hb with rfl | rfl
    · exact Nat.lt_succ_self _
    · exact Nat.lt_succ_of_lt hp
  · refine CmpOf.ints_lt (fun a => if a = 0 then i else j) fun a v hv => ?_
    match a, hv with
    | 0, hv => exact ⟨t1, by simpa using hv.symm⟩
    | 1, hv => exact ⟨t2, by simpa using hv.symm⟩
    | a + 2, hv => simp at hv
  · intro v h' tk hv kk
    have eA : argBest (fun a b => decide ((if a = 0 then i else j) < (if b = 0 then i else j))) (#[Value.int i t1, Value.int j t2].size - 1) = if j < i then 1 else 0 := by
      show argBest _ (0 + 1) = _
      rw [argBest.eq_2, argBest.eq_1]
      simp
    rw [eA] at hv
    refine ⟨.int (if j < i then j else i), H, I.kept (t' := tk) fun b o e => kk b o (fun z => ?_) (Heap.get?_push_of_some _ e), ?_, q⟩
    · have zb : b = s.heap.objs.size := by simpa using z
      exact absurd (Heap.lt_size e) (by rw [zb]; exact Nat.lt_irrefl _)
    · by_cases c : j < i
      · rw [if_pos c] at hv ⊢
        exact ⟨t2, by simpa using hv.symm⟩
      · rw [if_neg c] at hv ⊢
        exact ⟨t1, by simpa using hv.symm⟩
theorem call_maxT (hc : X.calm = true) : CallR X (.builtin "max") (fun xs H Q => ∃ p i j, xs = [.ref p] ∧ SqT X.K H p [.int i, .int j] ∧ Q (.int (if j > i then j else i)) H) := by
  intro pins s σ H xs us Q I r h
  obtain ⟨p, i, j, rfl, hq, q⟩ := h
  obtain ⟨u, rfl, rx⟩ := vals1 r
  cases rx
  obtain ⟨its, rv, pl, hz⟩ := I.tuple hq
  obtain ⟨u1, u2, rfl, ⟨t1, rfl⟩, ⟨t2, rfl⟩⟩ := vals2 rv
  have hp : p < s.heap.objs.size := by
    obtain ⟨o, e, _⟩ := pl
    exact Heap.lt_size e
  have hne : p ≠ s.heap.objs.size := Nat.ne_of_lt hp
  refine call_max_walk (wpAny_pyIter_tuple pl ?_)
  have hW := Walks.tuple (prog := X.prog) (w := X.w) (A := X.A.in1) (by exact I.ok.hd hc) s.heap.objs.size p hne #[Value.int i t1, Value.int j t2]
  refine ⟨s.heap.objs.size, _, _, _, _, _, fun a b => decide ((if a = 0 then i else j) > (if b = 0 then i else j)), rfl, hW, ⟨⟨_, Heap.get?_push_size _ rfl, rfl, rfl⟩, ?_⟩, ?_, by show 0 < 2; decide, ?_, ?_⟩
  · obtain ⟨o, e, c⟩ := pl
    exact ⟨o, Heap.get?_push_of_some _ e, c⟩
  · intro b hb
    simp only [List.mem_cons, List.not_mem_nil, or_false] at hb
    rw [show ({ s with heap := s.heap.push { cls := .type "tuple_iterator", data := .fields #[.ref p, .int 0 0] } } : Shared).heap.objs.size = s.heap.objs.size + 1 from Heap.size_push ..]
    rcases hb with rfl | rfl
    · exact Nat.lt_succ_self _
    · exact Nat.lt_succ_of_lt hp
  · refine CmpOf.ints_gt (fun a => if a = 0 then i else j) fun a v hv => ?_
    match a, hv with
    | 0, hv => exact ⟨t1, by simpa using hv.symm⟩
    | 1, hv => exact ⟨t2, by simpa using hv.symm⟩
    | a + 2, hv => simp at hv
  · intro v h' tk hv kk
    have eA : argBest (fun a b => decide ((if a = 0 then i else j) > (if b = 0 then i else j))) (#[Value.int i t1, Value.int j t2].size - 1) = if j > i then 1 else 0 := by
      show argBest _ (0 + 1) = _
      rw [argBest.eq_2, argBest.eq_1]
      simp
    rw [eA] at hv
    refine ⟨.int (if j > i then j else i), H, I.kept (t' := tk) fun b o e => kk b o (fun z => ?_) (Heap.get?_push_of_some _ e), ?_, q⟩
    · have zb : b = s.heap.objs.size := by simpa using z
      exact absurd (Heap.lt_size e) (by rw [zb]; exact Nat.lt_irrefl _)
    · by_cases c : j > i
      · rw [if_pos c] at hv ⊢
        exact ⟨t2, by simpa using hv.symm⟩
      · rw [if_neg c] at hv ⊢
        exact ⟨t1, by simpa using hv.symm⟩
end
end L2

set_option Elab.async false
set_option linter.all false
set_option maxRecDepth 100000
set_option maxHeartbeats 4000000
namespace K65
open PySem L2
section
variable {P : Program} {w : World} {K : PySem.W.Frag} {mg : Str → Option Value} {base : Heap} {f g1 g2 g3 g4 g5 g6 g7 g8 : Addr} {fd gd1 gd2 gd3 gd4 gd5 gd6 gd7 gd8 : FuncData} {CX : CXT}
abbrev sDraw : Stmt := top 54
theorem scDraw : FnScope ["_law_script", "_law_k", "_law_found"] ["_law_script", "_law_k"] (defScope sDraw) := ⟨rfl, rfl, rfl, by decide +kernel, rfl, by decide +kernel, by decide +kernel⟩
def spDraw (K : PySem.W.Frag) : Sp := fun vs H Q _ => ∃ (a : Addr) (ns : List Int) (j : Int) (k : Nat), vs = [.ref a, .int j] ∧ j = (k : Int) ∧ SqL K H a (ns.map V.int) ∧ ns.length ≤ 63 ∧ ∀ i H', Same H H' → Q (.int i) H'
theorem ok_draw {dV : Value} (F : FunD K "_law_draw" "_law_draw" sDraw dV f fd) :
    FnOk P w K mg base CX 1 f fd ["_law_script", "_law_k"] (spDraw K) := by
  refine F.ok scDraw (fun vs H Q E h => ?_) (fun cdv A outer s H vs Q E hr h => ?_)
  · obtain ⟨a, ns, j, k, rfl, hj, hS, h63, q⟩ := h
    rfl
  obtain ⟨a, ns, j, k, rfl, hj, hS, h63, q⟩ := h
  have hu := hr.units
  refine ⟨_, (pss_cons (ps_set (i := 2) scDraw.nd rfl (Or.inl rfl) (pe_slice sl_list (pv 0) (po_some (pv 1)) (po_some (pe_op op_add (pv 1) pe_int))))
    (pss_cons (ps_if (pt_cmpR (op_eqD hu) (pv 2) (pe_lst pa_nil) (nomark _)) (pss_one (ps_ret pe_int)) pss_nil)
    (pss_one (ps_ret (pe_ix ix_list (pv 2) pe_int (fun _ _ => rfl)))))), ?_⟩
  refine ⟨_, rfl, _, rfl, j, rfl, _, rfl, _, _, rfl, rfl, j + 1, rfl, a, _, rfl, hS, fun l hl => ?_⟩
  have s1 := same_new hl (.lst (cutV (ns.map V.int) (some j) (some (j + 1))))
  have e1 : upd H l (.lst (cutV (ns.map V.int) (some j) (some (j + 1)))) l = some (.lst (cutV (ns.map V.int) (some j) (some (j + 1)))) := upd_same
  obtain ⟨ms, em, lm⟩ := cut_ints ns (some j) (some (j + 1))
  rw [em] at e1 s1 ⊢
  generalize upd H l (.lst (ms.map V.int)) = H1 at e1 s1 ⊢
  refine ⟨_, rfl, by show 0 ≤ sizeLine; decide, fun e he => ?_⟩
  have s2 := same_new he (.lst [])
  refine rd_eqNil (s2.seq (SqL.of e1)) (SqL.of upd_same) ⟨_, rfl, ?_⟩
  rcases ms with _ | ⟨m, ms⟩
  · exact iteT (q 0 _ (s1.trans s2))
  · refine iteF ⟨_, rfl, l, _, _, _, rfl, rfl, s2.seq (SqL.of e1), atI_nat (j := 0) rfl, q m _ (s1.trans s2)⟩
abbrev sMix : Stmt := top 55
theorem scMix : FnScope ["_law_cell", "_law_turn", "_law_many", "_law_left", "_law_k", "_law_by_here", "_law_prime", "_law_x"] ["_law_cell", "_law_turn", "_law_many"] (defScope sMix) := ⟨rfl, rfl, rfl, by decide +kernel, rfl, by decide +kernel, by decide +kernel⟩
def spMix : Sp := fun vs H Q _ => ∃ c t m : Int, vs = [.int c, .int t, .int m] ∧ 0 ≤ t ∧ t ≤ 9 ∧ 0 < m ∧ ∀ r H', 0 ≤ r → r < m → Same H H' → Q (.int r) H'
theorem at10 {a0 a1 a2 a3 a4 a5 a6 a7 a8 a9 : Int} (hp : 0 < a0 ∧ 0 < a1 ∧ 0 < a2 ∧ 0 < a3 ∧ 0 < a4 ∧ 0 < a5 ∧ 0 < a6 ∧ 0 < a7 ∧ 0 < a8 ∧ 0 < a9) (hm : a0 < 1000000 ∧ a1 < 1000000 ∧ a2 < 1000000 ∧ a3 < 1000000 ∧ a4 < 1000000 ∧ a5 < 1000000 ∧ a6 < 1000000 ∧ a7 < 1000000 ∧ a8 < 1000000 ∧ a9 < 1000000) {t : Int} (h0 : 0 ≤ t) (h9 : t ≤ 9) :
    ∃ v, atI [V.int a0, .int a1, .int a2, .int a3, .int a4, .int a5, .int a6, .int a7, .int a8, .int a9] t = some (.int v) ∧ 0 < v ∧ v < 1000000 := by
  have : t = 0 ∨ t = 1 ∨ t = 2 ∨ t = 3 ∨ t = 4 ∨ t = 5 ∨ t = 6 ∨ t = 7 ∨ t = 8 ∨ t = 9 := by omega
  rcases this with rfl | rfl | rfl | rfl | rfl | rfl | rfl | rfl | rfl | rfl
  all_goals exact ⟨_, rfl, by omega, by omega⟩
abbrev l48 : List Int := [48271, 69621, 16807, 40692, 39373, 30269, 27183, 60013, 51749, 35969]
abbrev l99 : List Int := [999983, 999979, 999961, 999959, 999953, 999931, 999917, 999907, 999883, 999863]
@[irreducible] def md1 : Stmt := (defBody sMix).getD 1 (.Pass ⟨0, 0, 0, 0⟩)
@[irreducible] def md2 : Stmt := (defBody sMix).getD 2 (.Pass ⟨0, 0, 0, 0⟩)
def md0 : Stmt := (defBody sMix).getD 0 (.Pass ⟨0, 0, 0, 0⟩)
def md3 : Stmt := (defBody sMix).getD 3 (.Pass ⟨0, 0, 0, 0⟩)
def md4 : Stmt := (defBody sMix).getD 4 (.Pass ⟨0, 0, 0, 0⟩)
theorem md_eq : defBody sMix = [md0, md1, md2, md3, md4] := by unfold md1 md2; rfl
theorem md1_ex : ∃ (q q2 p2 p3 p : Pos) (l : List (Int × _ × Pos)), md1 = .Assign [.Name "_law_by_here" q] (.Subscript (.List (l.map fun q => Expr.Constant (.int q.1) q.2.1 q.2.2) p2) (.Name "_law_turn" q2) p3) p ∧ l.map (fun q => V.int q.1) = l48.map V.int := by
  unfold md1
  exact ⟨_, _, _, _, _, [(48271, _, _), (69621, _, _), (16807, _, _), (40692, _, _), (39373, _, _), (30269, _, _), (27183, _, _), (60013, _, _), (51749, _, _), (35969, _, _)], rfl, rfl⟩
theorem md2_ex : ∃ (q q2 p2 p3 p : Pos) (l : List (Int × _ × Pos)), md2 = .Assign [.Name "_law_prime" q] (.Subscript (.List (l.map fun q => Expr.Constant (.int q.1) q.2.1 q.2.2) p2) (.Name "_law_turn" q2) p3) p ∧ l.map (fun q => V.int q.1) = l99.map V.int := by
  unfold md2
  exact ⟨_, _, _, _, _, [(999983, _, _), (999979, _, _), (999961, _, _), (999959, _, _), (999953, _, _), (999931, _, _), (999917, _, _), (999907, _, _), (999883, _, _), (999863, _, _)], rfl, rfl⟩
theorem ok_mix {dV : Value} (F : FunD K "_law_mix" "_law_mix" sMix dV f fd)
    (mr : mg "range" = none) :
    FnOk P w K mg base CX 1 f fd ["_law_cell", "_law_turn", "_law_many"] spMix := by
  refine F.ok scMix (fun vs H Q E h => ?_) (fun cdv A outer s H vs Q E hr h => ?_)
  · obtain ⟨c, t, m, rfl, h0, h9, hm, q⟩ := h
    rfl
  obtain ⟨c, t, m, rfl, h0, h9, hm, q⟩ := h
  rw [md_eq]
  obtain ⟨q1, q2, q3, q4, q5, l1, e1, eo1⟩ := md1_ex
  obtain ⟨r1, r2, r3, r4, r5, l2, e2, eo2⟩ := md2_ex
  rw [e1, e2]
  refine ⟨_, (pss_cons (ps_if (pt_cmpR op_eq (pe_op op_mod (pv 0) pe_int) pe_int (nomark _)) (pss_cons (ps_set (i := 3) scMix.nd rfl (Or.inl rfl) (pe_op op_fdiv (pv 0) pe_int))
    (pss_cons (ps_for PassesOwn.never rfl (pi_range1 rfl mr (pa_cons (pv 1) pa_nil)) (pg_name (i := 4) scMix.nd rfl (Or.inl rfl))
      (pss_one (ps_set (i := 3) scMix.nd rfl (Or.inl rfl) (pe_op op_fdiv (pv 3) (pe_op op_pow pe_int pe_int)))))
    (pss_one (ps_ret (pe_op op_modN (pv 3) (pv 2)))))) pss_nil)
    (pss_cons (ps_set (i := 5) scMix.nd rfl (Or.inl rfl) (pe_ix ix_list (pe_lst (pa_ints _ l1)) (pv 1) (fun _ _ => rfl)))
    (pss_cons (ps_set (i := 6) scMix.nd rfl (Or.inl rfl) (pe_ix ix_list (pe_lst (pa_ints _ l2)) (pv 1) (fun _ _ => rfl)))
    (pss_cons (ps_set (i := 7) scMix.nd rfl (Or.inl rfl) (pe_op op_mod (pv 0) pe_int))
    (pss_one (ps_ret (pe_op op_modN (pe_op op_fdiv (pe_op op_modN (pe_op op_add (pe_op op_add (pe_op op_mulB (pe_op op_mul pe_int (pv 7)) (pv 7)) (pe_op op_mulB (pv 5) (pv 7))) (pe_op op_mul pe_int (pe_op op_add (pv 1) pe_int))) (pv 6)) pe_int) (pv 2)))))))), ?_⟩
  rw [eo1, eo2]
  have hf : ∀ u : Int, 0 ≤ u.fmod m ∧ u.fmod m < m := fun u => ⟨Int.fmod_nonneg_of_pos u hm, Int.fmod_lt_of_pos u hm⟩
  have m0 : m ≠ 0 := by omega
  refine ⟨_, rfl, _, _, rfl, rfl, (show (0 : Int) < 2 by decide), rfl, _, rfl, ite2 (fun _ => ?_) (fun _ => ?_)⟩
  · refine ⟨_, rfl, _, _, rfl, rfl, ⟨by decide, by decide⟩, ?_⟩
    refine ⟨_, rfl, t, rfl, by omega, by omega, ?_⟩
    refine for_range (n := t.toNat) (fun i σ H' => H' = H ∧ ∃ u z, σ = [some (.int c), some (.int t), some (.int m), some (.int u), z, none, none, none]) ⟨rfl, _, none, rfl⟩ ?_ ?_
    · rintro i σ H' hi ⟨rfl, u, z, rfl⟩
      exact ⟨_, rfl, _, _, rfl, rfl, ⟨by decide, by decide, by decide⟩, _, _, rfl, rfl, ⟨by decide, by decide⟩, rfl, _, _, rfl⟩
    · rintro σ H' ⟨rfl, u, z, rfl⟩
      exact ⟨_, rfl, _, rfl, _, _, rfl, rfl, m0, q _ _ (hf u).1 (hf u).2 (Same.refl _)⟩
  · refine ⟨by show 10 ≤ sizeLine; decide, fun l1 hl1 => ?_⟩
    obtain ⟨by_, eb, b1, b2⟩ := at10 (a0 := 48271) (a1 := 69621) (a2 := 16807) (a3 := 40692) (a4 := 39373) (a5 := 30269) (a6 := 27183) (a7 := 60013) (a8 := 51749) (a9 := 35969) (by decide) (by decide) h0 h9
    have s1 := same_new hl1 (.lst (l48.map V.int))
    have g1 : upd H l1 (.lst (l48.map V.int)) l1 = some (.lst (l48.map V.int)) := upd_same
    generalize upd H l1 (.lst (l48.map V.int)) = H1 at s1 g1 ⊢
    refine ⟨_, rfl, l1, _, _, _, rfl, rfl, SqL.of g1, eb, ?_⟩
    refine ⟨by show 10 ≤ sizeLine; decide, fun l2 hl2 => ?_⟩
    obtain ⟨pr, ep, p1, p2⟩ := at10 (a0 := 999983) (a1 := 999979) (a2 := 999961) (a3 := 999959) (a4 := 999953) (a5 := 999931) (a6 := 999917) (a7 := 999907) (a8 := 999883) (a9 := 999863) (by decide) (by decide) h0 h9
    have s2 := same_new hl2 (.lst (l99.map V.int))
    have g2 : upd H1 l2 (.lst (l99.map V.int)) l2 = some (.lst (l99.map V.int)) := upd_same
    generalize upd H1 l2 (.lst (l99.map V.int)) = H2 at s2 g2 ⊢
    refine ⟨_, rfl, l2, _, _, _, rfl, rfl, SqL.of g2, ep, ?_⟩
    refine ⟨_, rfl, _, _, rfl, rfl, (show (0 : Int) < 2147483647 by decide), ?_⟩
    have x1 := Int.emod_nonneg c (show (2147483647 : Int) ≠ 0 by decide)
    have x2 := Int.emod_lt_of_pos c (show (0 : Int) < 2147483647 by decide)
    generalize c % 2147483647 = x at x1 x2 ⊢
    refine ⟨_, rfl, _, _, rfl, rfl, Or.inl ⟨by decide, by decide⟩, _, rfl, rd_mulB (n := 40) (m := 40) (B_of (by omega) (by omega)) (B_of (by omega) (by omega)) (by omega) (by omega) ?_⟩
    refine ⟨_, rfl, _, rfl, rd_mulB (n := 40) (m := 40) (B_of (by omega) (by omega)) (B_of (by omega) (by omega)) (by omega) (by omega) ⟨_, _, rfl, rfl, ?_⟩⟩
    refine ⟨_, rfl, _, _, rfl, rfl, _, _, rfl, rfl, Or.inl ⟨by decide, by decide⟩, _, _, rfl, rfl, _, rfl, _, _, rfl, rfl, by omega, _, _, rfl, rfl, ⟨by decide, by decide⟩, _, rfl, _, _, rfl, rfl, m0, ?_⟩
    exact q _ _ (hf _).1 (hf _).2 (s1.trans s2)
abbrev sFar : Stmt := top 56
theorem scFar : FnScope ["_law_cell", "_law_turn", "_law_left", "_law_k"] ["_law_cell", "_law_turn"] (defScope sFar) := ⟨rfl, rfl, rfl, by decide +kernel, rfl, by decide +kernel, by decide +kernel⟩
def spFar : Sp := fun vs H Q _ => ∃ c t : Int, vs = [.int c, .int t] ∧ 0 ≤ t ∧ t ≤ 9 ∧ ∀ r : Int, -1000000000000 ≤ r → r ≤ 1000000000000 → Q (.int r) H
theorem p12 : (10 : Int) ^ (12 : Int).toNat = 1000000000000 := by decide
theorem ok_far {dV : Value} (F : FunD K "_law_far" "_law_far" sFar dV f fd)
    (mr : mg "range" = none) :
    FnOk P w K mg base CX 1 f fd ["_law_cell", "_law_turn"] spFar := by
  refine F.ok scFar (fun vs H Q E h => ?_) (fun cdv A outer s H vs Q E hr h => ?_)
  · obtain ⟨c, t, rfl, h0, h9, q⟩ := h
    rfl
  obtain ⟨c, t, rfl, h0, h9, q⟩ := h
  refine ⟨_, (pss_cons (ps_if (pt_cmpR op_eq (pe_op op_mod (pv 0) pe_int) pe_int (nomark _)) (pss_cons (ps_set (i := 2) scFar.nd rfl (Or.inl rfl) (pe_op op_fdiv (pv 0) pe_int))
    (pss_cons (ps_for PassesOwn.never rfl (pi_range1 rfl mr (pa_cons pe_int pa_nil)) (pg_name (i := 3) scFar.nd rfl (Or.inl rfl))
      (pss_one (ps_set (i := 2) scFar.nd rfl (Or.inl rfl) (pe_op op_fdiv (pv 2) (pe_op op_pow pe_int pe_int)))))
    (pss_one (ps_ret (pe_op op_sub (pe_op op_mod (pv 2) (pe_op op_add (pe_op op_mul pe_int (pe_op op_pow pe_int pe_int)) pe_int)) (pe_op op_pow pe_int pe_int)))))) pss_nil)
    (pss_one (ps_ret (pe_op op_sub (pe_op op_mod (pe_op op_mulB (pe_op op_mod (pv 0) (pe_op op_pow pe_int pe_int)) (pe_op op_add (pe_op op_mul pe_int (pv 1)) pe_int)) (pe_op op_add (pe_op op_mul pe_int (pe_op op_pow pe_int pe_int)) pe_int)) (pe_op op_pow pe_int pe_int))))), ?_⟩
  have fin : ∀ u : Int, Q (.int (u % (2 * 10 ^ (12 : Int).toNat + 1) - 10 ^ (12 : Int).toNat)) H := fun u => by
    rw [p12]
    have x1 := Int.emod_nonneg u (show (2 * 1000000000000 + 1 : Int) ≠ 0 by decide)
    have x2 := Int.emod_lt_of_pos u (show (0 : Int) < 2 * 1000000000000 + 1 by decide)
    exact q _ (by omega) (by omega)
  refine ⟨_, rfl, _, _, rfl, rfl, (show (0 : Int) < 2 by decide), rfl, _, rfl, ite2 (fun _ => ?_) (fun _ => ?_)⟩
  · refine ⟨_, rfl, _, _, rfl, rfl, ⟨by decide, by decide⟩, ?_⟩
    refine ⟨_, rfl, by omega, by omega, ?_⟩
    refine for_range (n := 10) (fun i σ H' => H' = H ∧ ∃ u z, σ = [some (.int c), some (.int t), some (.int u), z]) ⟨rfl, _, none, rfl⟩ ?_ ?_
    · rintro i σ H' hi ⟨rfl, u, z, rfl⟩
      exact ⟨_, rfl, _, _, rfl, rfl, ⟨by decide, by decide, by decide⟩, _, _, rfl, rfl, ⟨by decide, by decide⟩, rfl, _, _, rfl⟩
    · rintro σ H' ⟨rfl, u, z, rfl⟩
      exact ⟨_, rfl, _, _, rfl, rfl, ⟨by decide, by decide, by decide⟩, _, _, rfl, rfl, Or.inl ⟨by decide, by decide⟩, _, _, rfl, rfl, _, _, rfl, rfl, (show (0 : Int) < 2 * 10 ^ (12 : Int).toNat + 1 by decide), _, _, rfl, rfl, ⟨by decide, by decide, by decide⟩, _, _, rfl, rfl, fin u⟩
  · refine ⟨_, rfl, _, _, rfl, rfl, ⟨by decide, by decide, by decide⟩, _, _, rfl, rfl, (show (0 : Int) < 10 ^ (12 : Int).toNat by decide), ?_⟩
    have x1 := Int.emod_nonneg c (show (10 ^ (12 : Int).toNat : Int) ≠ 0 by decide)
    have x2 := Int.emod_lt_of_pos c (show (0 : Int) < 10 ^ (12 : Int).toNat by decide)
    rw [p12] at x1 x2
    refine ⟨_, rfl, _, _, rfl, rfl, Or.inl ⟨by decide, by decide⟩, _, _, rfl, rfl, rd_mulB (n := 40) (m := 40) (B_of (by rw [p12]; omega) (by rw [p12]; omega)) (B_of (by omega) (by omega)) (by omega) (by omega) ?_⟩
    exact ⟨_, _, rfl, rfl, ⟨by decide, by decide, by decide⟩, _, _, rfl, rfl, Or.inl ⟨by decide, by decide⟩, _, _, rfl, rfl, _, _, rfl, rfl, (show (0 : Int) < 2 * 10 ^ (12 : Int).toNat + 1 by decide), _, _, rfl, rfl, ⟨by decide, by decide, by decide⟩, _, _, rfl, rfl, fin _⟩
abbrev sLowest : Stmt := top 57
theorem scLowest : FnScope ["_law_top", "_law_bottom", "_law_one", "_law_other"] ["_law_top", "_law_bottom"] (defScope sLowest) := ⟨rfl, rfl, rfl, by decide +kernel, rfl, by decide +kernel, by decide +kernel⟩
theorem ok_lowest {dV : Value} (F : FunD K "_law_lowest" "_law_lowest" sLowest dV f fd)
    (b : Bl mg) :
    FnOk P w K mg base CX 1 f fd ["_law_top", "_law_bottom"] spFrac := by
  refine F.ok scLowest (fun vs H Q E h => ?_) (fun cdv A outer s H vs Q E hr h => ?_)
  · obtain ⟨t, b', n, rfl, hb, hB, hn, q⟩ := h
    rfl
  obtain ⟨t, b', n, rfl, hb, hB, hn, q⟩ := h
  refine ⟨_, (pss_cons (ps_par (i := 2) (j := 3) rfl scLowest.nd rfl rfl (by decide) rfl rfl (pa_cons (pe_callB call_abs rfl b.abs PyProof.Rows.boot_abs (pa_cons (pv 0) pa_nil)) (pa_cons (pe_callB call_abs rfl b.abs PyProof.Rows.boot_abs (pa_cons (pv 1) pa_nil)) pa_nil)) rfl)
    (pss_cons (ps_while PassesOwn.never (pt_cmpR op_ne (pv 3) pe_int (nomark _)) (pss_one (ps_par (i := 2) (j := 3) rfl scLowest.nd rfl rfl (by decide) rfl rfl (pa_cons (pv 3) (pa_cons (pe_op op_modN (pv 2) (pv 3)) pa_nil)) rfl)))
    (pss_cons (ps_if (pt_cmpR op_lt (pv 1) pe_int (nomark _)) (pss_one (ps_set (i := 2) scLowest.nd rfl (Or.inl rfl) (pe_op op_sub pe_int (pv 2)))) pss_nil)
    (pss_one (ps_ret (pe_tup (pa_cons (pe_op op_fdivB (pv 0) (pv 2)) (pa_cons (pe_op op_fdivB (pv 1) (pv 2)) pa_nil)))))))), ?_⟩
  refine ⟨_, rfl, _, rfl, _, rfl, _, rfl, _, _, rfl, ?_⟩
  have g0 := Mq.gc_abs t b'
  have n0 : 0 ≤ (if t < 0 then -t else t) := by split <;> omega
  have n1 : 0 ≤ (if b' < 0 then -b' else b') := by split <;> omega
  generalize (if t < 0 then -t else t) = x' at *
  generalize (if b' < 0 then -b' else b') = y' at *
  have hd := Mq.dvr_ne (t := t) hb
  have hdB : Mq.B n (Mq.dvr t b') := hB.le (Mq.dvr_le hb)
  refine while_by (fun σ H' => H' = H ∧ ∃ u v, σ = [some (.int t), some (.int b'), some (.int u), some (.int v)] ∧ Mq.gc u v = Mq.gc t b' ∧ 0 ≤ u ∧ 0 ≤ v) (fun σ _ => match σ with | [_, _, _, some (.int v)] => v.natAbs | _ => 0) ⟨rfl, x', y', rfl, g0, n0, n1⟩ ?_ ?_
  · rintro σ H' ⟨rfl, u, v, rfl, e, hu, hv0⟩
    refine ⟨_, rfl, rfl, _, rfl, ?_⟩
    refine ite2 (fun c => ?_) (fun c => ?_)
    · have hv : v ≠ 0 := by intro q; subst q; simp at c
      refine ⟨_, rfl, _, rfl, _, rfl, _, _, rfl, rfl, hv, _, _, rfl, ⟨rfl, v, Int.fmod u v, rfl, (Mq.gc_step u v).trans e, hv0, Int.fmod_nonneg_of_pos u (by omega)⟩, Mq.fmod_less hv⟩
    · have hv : v = 0 := by
        simp at c
        exact c
      subst hv
      have eu : u = Mq.gc t b' := by rw [← e, Mq.gc_zero, if_neg (by omega)]
      subst eu
      refine ⟨_, rfl, _, _, rfl, rfl, _, rfl, ite2 (fun c => ?_) (fun c => ?_)⟩
      · have hlt : b' < 0 := of_decide_eq_true c
        have e : Mq.dvr t b' = 0 - Mq.gc t b' := by unfold Mq.dvr; rw [if_pos hlt]; omega
        rw [e] at hd hdB
        have q' : NewF H' Q (t.fdiv (0 - Mq.gc t b'), b'.fdiv (0 - Mq.gc t b')) := by
          have z := q
          unfold Mq.red at z
          rw [e] at z
          exact z
        refine ⟨_, rfl, _, _, rfl, rfl, ?_⟩
        refine ⟨_, rfl, _, rfl, rd_fdivB hd hdB hn ⟨_, rfl, _, rfl, rd_fdivB hd hdB hn ⟨by show 2 ≤ sizeLine; decide, fun p hp => ?_⟩⟩⟩
        exact q' p _ (same_new hp _) upd_same
      · have hlt : ¬ b' < 0 := fun z => c (decide_eq_true z)
        have e : Mq.dvr t b' = Mq.gc t b' := by unfold Mq.dvr; rw [if_neg hlt]
        rw [e] at hd hdB
        have q' : NewF H' Q (t.fdiv (Mq.gc t b'), b'.fdiv (Mq.gc t b')) := by
          have z := q
          unfold Mq.red at z
          rw [e] at z
          exact z
        refine ⟨_, rfl, _, rfl, rd_fdivB hd hdB hn ⟨_, rfl, _, rfl, rd_fdivB hd hdB hn ⟨by show 2 ≤ sizeLine; decide, fun p hp => ?_⟩⟩⟩
        exact q' p _ (same_new hp _) upd_same
  · rintro σ H Q Q' m ⟨v, h1, h2, k, h3, h4⟩
    exact ⟨v, h1, h2, k, h3, m _ _ h4⟩
abbrev sLPlus : Stmt := top 58
theorem scLPlus : FnScope ["_law_one", "_law_other"] ["_law_one", "_law_other"] (defScope sLPlus) := ⟨rfl, rfl, rfl, by decide +kernel, rfl, by decide +kernel, by decide +kernel⟩
theorem ok_lplus {dV : Value} (F : FunD K "_law_plus" "_law_plus" sLPlus dV f fd)
    (G1 : FnOk P w K mg base CX0 1 g1 gd1 ["_law_top", "_law_bottom"] spFrac) (b1 : Binds K gd1 ["_law_top", "_law_bottom"] []) (k1 : PySem.W.keepIn K (.ref g1) = true) (m1 : mg "_law_lowest" = some (.ref g1)) :
    FnOk P w K mg base CX 2 f fd ["_law_one", "_law_other"] (spTwo K Mq.plus) := by
  refine F.ok scLPlus (fun vs H Q E h => ?_) (fun cdv A outer s H vs Q E hr h => ?_)
  · obtain ⟨a, b, p, q, n, m, rfl, fa, fb, hp, hq, bp, bq, hnm, z⟩ := h
    rfl
  obtain ⟨a, b, p, q, n, m, rfl, fa, fb, hp, hq, bp, bq, hnm, z⟩ := h
  refine ⟨_, (pss_one (ps_ret (pe_call G1 hr rfl m1 k1 b1 .nil pass0 (pa_cons (pe_op op_add (pe_op op_mulB (pe_ix ix_tup (pv 0) pe_int (fun _ _ => rfl)) (pe_ix ix_tup (pv 1) pe_int (fun _ _ => rfl))) (pe_op op_mulB (pe_ix ix_tup (pv 1) pe_int (fun _ _ => rfl)) (pe_ix ix_tup (pv 0) pe_int (fun _ _ => rfl)))) (pa_cons (pe_op op_mulB (pe_ix ix_tup (pv 0) pe_int (fun _ _ => rfl)) (pe_ix ix_tup (pv 1) pe_int (fun _ _ => rfl))) pa_nil))))), ?_⟩
  refine rd_ix0 rfl fa (rd_ix1 rfl fb (rd_mulB bp.a bq.b (by omega) (by omega) ?_))
  refine rd_ix0 rfl fb (rd_ix1 rfl fa (rd_mulB bq.a bp.b (by omega) (by omega) ⟨_, _, rfl, rfl, ?_⟩))
  refine rd_ix1 rfl fa (rd_ix1 rfl fb (rd_mulB bp.b bq.b (by omega) (by omega) ?_))
  exact ⟨_, _, n + m, rfl, Mq.mul_ne hp hq, bp.b.mul bq.b, by omega, z⟩
theorem NewF.same {H H' : Hp} {Q : VK} {p : Mq.Q2} (s : Same H H') (h : NewF H Q p) : NewF H' Q p := fun a H2 s2 e => h a H2 (s.trans s2) e
abbrev sLBy : Stmt := top 59
theorem scLBy : FnScope ["_law_one", "_law_other"] ["_law_one", "_law_other"] (defScope sLBy) := ⟨rfl, rfl, rfl, by decide +kernel, rfl, by decide +kernel, by decide +kernel⟩
theorem ok_lby {dV : Value} (F : FunD K "_law_by" "_law_by" sLBy dV f fd)
    (G1 : FnOk P w K mg base CX0 1 g1 gd1 ["_law_top", "_law_bottom"] spFrac) (b1 : Binds K gd1 ["_law_top", "_law_bottom"] []) (k1 : PySem.W.keepIn K (.ref g1) = true) (m1 : mg "_law_lowest" = some (.ref g1)) :
    FnOk P w K mg base CX 2 f fd ["_law_one", "_law_other"] (spDiv1 K) := by
  refine F.ok scLBy (fun vs H Q E h => ?_) (fun cdv A outer s H vs Q E hr h => ?_)
  · obtain ⟨a, b, p, q, n, m, rfl, fa, fb, hp, hq, h0, bp, bq, hnm, z⟩ := h
    rfl
  obtain ⟨a, b, p, q, n, m, rfl, fa, fb, hp, hq, h0, bp, bq, hnm, z⟩ := h
  refine ⟨_, (pss_one (ps_ret (pe_call G1 hr rfl m1 k1 b1 .nil pass0 (pa_cons (pe_op op_mulB (pe_ix ix_tup (pv 0) pe_int (fun _ _ => rfl)) (pe_ix ix_tup (pv 1) pe_int (fun _ _ => rfl))) (pa_cons (pe_op op_mulB (pe_ix ix_tup (pv 0) pe_int (fun _ _ => rfl)) (pe_ix ix_tup (pv 1) pe_int (fun _ _ => rfl))) pa_nil))))), ?_⟩
  refine rd_ix0 rfl fa (rd_ix1 rfl fb (rd_mulB bp.a bq.b (by omega) (by omega) ?_))
  refine rd_ix1 rfl fa (rd_ix0 rfl fb (rd_mulB bp.b bq.a (by omega) (by omega) ?_))
  exact ⟨_, _, n + m, rfl, Mq.over_ne hp (by omega), bp.b.mul bq.a, by omega, z⟩
abbrev sTold : Stmt := top 60
theorem scTold : FnScope ["_law_found", "_law_due_here", "_law_number"] ["_law_found", "_law_due_here"] (defScope sTold) := ⟨rfl, rfl, rfl, by decide +kernel, rfl, by decide +kernel, by decide +kernel⟩
def spTold (K : PySem.W.Frag) : Sp := fun vs H Q _ => ∃ (a b : Addr) (p : Mq.Q2), vs = [.ref a, .ref b] ∧ Fq K H a p ∧ Fq K H b p ∧ Q (.bl true) H
theorem ok_told {dV : Value} (F : FunD K "_law_told" "_law_told" sTold dV f fd)
    (b : Bl mg) (ml : mg "len" = none) (mt : mg "tuple" = none) :
    FnOk P w K mg base CX 1 f fd ["_law_found", "_law_due_here"] (spTold K) := by
  refine F.ok scTold (fun vs H Q E h => ?_) (fun cdv A outer s H vs Q E hr h => ?_)
  · obtain ⟨a, d, p, rfl, fa, fd', q⟩ := h
    rfl
  obtain ⟨a, d, p, rfl, fa, fd', q⟩ := h
  have hu := hr.units
  refine ⟨_, (pss_cons (ps_if (PW.pt (pw_or (pt_not (pt_val (pe_isiQ (i := 0) rfl (Or.inl rfl) b.isi mt rfl rfl PyProof.Rows.boot_tuple))) (pw_or1 (pt_cmpR op_ne (pe_callB call_len_seq rfl ml PySem.boot_len (pa_cons (pv 0) pa_nil)) pe_int (nomark _))))) (pss_one (ps_ret pe_bl)) pss_nil)
    (pss_cons (ps_for PassesOwn.never rfl (pi_tup (pv 0)) (pg_name (i := 2) scTold.nd rfl (Or.inl rfl))
      (pss_one (ps_if (PW.pt (pw_or (pt_not (pt_val (pe_isiQ (i := 2) rfl (Or.inl rfl) b.isi b.int rfl rfl PyProof.Rows.boot_int))) (pw_or1 (pt_val (pe_isiQ (i := 2) rfl (Or.inl rfl) b.isi b.bool rfl rfl PyProof.Rows.boot_bool))))) (pss_one (ps_ret pe_bl)) pss_nil)))
    (pss_one (ps_ret (pe_cmpR (op_eqD hu) (pv 0) (pv 1) (nomark _)))))), ?_⟩
  refine ⟨_, _, true, rfl, .tup fa, rfl, _, rfl, iteF ⟨_, rfl, a, _, rfl, .inr fa, rfl, _, rfl, iteF ?_⟩⟩
  refine ⟨_, rfl, a, rfl, ⟨_, fa⟩, ?_⟩
  refine for_tup (xs := [.int p.1, .int p.2]) (fun i σ H' => H' = H ∧ ∃ z, σ = [some (.ref a), some (.ref d), z]) ⟨rfl, none, rfl⟩ (fun i σ H' _ h => by rw [h.1]; exact fa) ?_ ?_
  · rintro i x σ H' hx ⟨rfl, z, rfl⟩
    have hint : ∃ j, x = .int j := by
      match i, hx with
      | 0, h => exact ⟨p.1, by simpa using h.symm⟩
      | 1, h => exact ⟨p.2, by simpa using h.symm⟩
      | n + 2, h => simp at h
    obtain ⟨j, rfl⟩ := hint
    refine ⟨_, _, true, rfl, .of (.int j), rfl, _, rfl, iteF ⟨_, _, false, rfl, .of (.int j), (by with_unfolding_all rfl), _, rfl, iteF ⟨rfl, _, rfl⟩⟩⟩
  · rintro σ H' ⟨rfl, z, rfl⟩
    refine ⟨_, rfl, _, rfl, rd_eqF fa fd' ?_⟩
    show Q (.bl (decide (p = p))) H'
    rw [decide_eq_true rfl]
    exact q
def SzP (p : Mq.Q2) : Prop := Mq.Ps p ∧ p.1 ≤ 1000000007 ∧ p.2 ≤ 6
def spSize65 : Sp := fun vs H Q _ => ∃ (c : Int), vs = [.int c] ∧ ∀ p, SzP p → NewF H Q p
theorem sz_fin {H : Hp} {Q : VK} (q : ∀ p, SzP p → NewF H Q p) {H' : Hp} (s : Same H H') {t b : Int} (t1 : 1 ≤ t) (t2 : t ≤ 1000000007) (h3 : 0 ≤ b) (h4 : b < 6) : spFrac [.int t, .int (1 + b)] H' Q E0 := by
  have b0 : 1 + b ≠ 0 := by omega
  have le := Mq.red_le (t := t) b0
  have ps : Mq.Ps (Mq.red t (1 + b)) := Mq.red_ps (by omega) (by omega)
  have p1 := ps.pos
  have p2 := ps.b
  have bB : Mq.B 6 (1 + b) := B_of (by omega) (by omega)
  exact ⟨t, 1 + b, 6, rfl, b0, bB, by omega, NewF.same s (q _ ⟨ps, by omega, by omega⟩)⟩
abbrev sSize65 : Stmt := top 61
theorem scSize65 : FnScope ["_law_cell", "_law_top"] ["_law_cell"] (defScope sSize65) := ⟨rfl, rfl, rfl, by decide +kernel, rfl, by decide +kernel, by decide +kernel⟩
theorem ok_size65 {dV : Value} (F : FunD K "_law_size" "_law_size" sSize65 dV f fd)
    (G1 : FnOk P w K mg base CX0 1 g1 gd1 ["_law_cell", "_law_turn", "_law_many"] spMix) (b1 : Binds K gd1 ["_law_cell", "_law_turn", "_law_many"] []) (k1 : PySem.W.keepIn K (.ref g1) = true) (m1 : mg "_law_mix" = some (.ref g1))
    (G2 : FnOk P w K mg base CX0 1 g2 gd2 ["_law_cell", "_law_turn"] spFar) (b2 : Binds K gd2 ["_law_cell", "_law_turn"] []) (k2 : PySem.W.keepIn K (.ref g2) = true) (m2 : mg "_law_far" = some (.ref g2))
    (G3 : FnOk P w K mg base CX0 1 g3 gd3 ["_law_top", "_law_bottom"] spFrac) (b3 : Binds K gd3 ["_law_top", "_law_bottom"] []) (k3 : PySem.W.keepIn K (.ref g3) = true) (m3 : mg "_law_lowest" = some (.ref g3)) :
    FnOk P w K mg base CX 2 f fd ["_law_cell"] spSize65 := by
  refine F.ok scSize65 (fun vs H Q E h => ?_) (fun cdv A outer s H vs Q E hr h => ?_)
  · obtain ⟨c, rfl, q⟩ := h
    rfl
  obtain ⟨c, rfl, q⟩ := h
  refine ⟨_, (pss_cons (ps_set (i := 1) scSize65.nd rfl (Or.inl rfl) (pe_op op_add pe_int (pe_call G1 hr rfl m1 k1 b1 .nil pass0 (pa_cons (pv 0) (pa_cons pe_int (pa_cons pe_int pa_nil))))))
    (pss_cons (ps_if (pt_cmpR op_eq (pe_call G1 hr rfl m1 k1 b1 .nil pass0 (pa_cons (pv 0) (pa_cons pe_int (pa_cons pe_int pa_nil)))) pe_int (nomark _)) (pss_one (ps_set (i := 1) scSize65.nd rfl (Or.inl rfl) (pe_op op_add pe_int (pe_op op_mod (pe_call G2 hr rfl m2 k2 b2 .nil pass0 (pa_cons (pv 0) (pa_cons pe_int pa_nil))) (pe_op op_add (pe_op op_pow pe_int pe_int) pe_int))))) pss_nil)
    (pss_one (ps_ret (pe_call G3 hr rfl m3 k3 b3 .nil pass0 (pa_cons (pv 1) (pa_cons (pe_op op_add pe_int (pe_call G1 hr rfl m1 k1 b1 .nil pass0 (pa_cons (pv 0) (pa_cons pe_int (pa_cons pe_int pa_nil))))) pa_nil))))))), ?_⟩
  refine ⟨_, rfl, c, 3, 12, rfl, by decide, by decide, by decide, fun y H1 y0 y1 s1 => ⟨_, _, rfl, rfl, ?_⟩⟩
  refine ⟨_, rfl, c, 7, 12, rfl, by decide, by decide, by decide, fun y' H2 _ _ s2 => ⟨rfl, _, rfl, ite2 (fun _ => ?_) (fun _ => ?_)⟩⟩
  · refine ⟨_, rfl, c, 1, rfl, by decide, by decide, fun u u1 u2 => ?_⟩
    refine ⟨_, _, rfl, rfl, ⟨by decide, by decide, by decide⟩, _, _, rfl, rfl, _, _, rfl, rfl, (show (0 : Int) < 10 ^ (9 : Int).toNat + 7 by decide), _, _, rfl, rfl, ?_⟩
    have p9 : (10 : Int) ^ (9 : Int).toNat = 1000000000 := by decide
    have f0 := Int.emod_nonneg u (show (10 ^ (9 : Int).toNat + 7 : Int) ≠ 0 by decide)
    have f9 := Int.emod_lt_of_pos u (show (0 : Int) < 10 ^ (9 : Int).toNat + 7 by decide)
    generalize u % (10 ^ (9 : Int).toNat + 7) = v at f0 f9 ⊢
    rw [p9] at f9
    refine ⟨_, rfl, _, rfl, c, 4, 6, rfl, by decide, by decide, by decide, fun b H3 b1 b2 s3 => ⟨_, _, rfl, rfl, ?_⟩⟩
    exact sz_fin q (s1.trans (s2.trans s3)) (by omega) (by omega) b1 b2
  · refine ⟨_, rfl, _, rfl, c, 4, 6, rfl, by decide, by decide, by decide, fun b H3 b1 b2 s3 => ⟨_, _, rfl, rfl, ?_⟩⟩
    exact sz_fin q (s1.trans (s2.trans s3)) (by omega) (by omega) b1 b2
def spNet65 (CN : Addr) (K : PySem.W.Frag) : Sp := fun vs H Q _ => ∃ (m : Int) (r : Addr) (us : List V) (ds : List RD), vs = [.int m, .ref r] ∧ 1 ≤ m ∧ m ≤ 20 ∧ SqL K H r us ∧ Rts K H us ds ∧ (∀ d ∈ ds, RdOk m d) ∧ ds.length ≤ 40 ∧ ∀ n l H', Same H H' → H l = none → NetAt CN K H' n l m ds → Q (.ref n) H'
abbrev sNet65 : Stmt := top 62
theorem scNet65 : FnScope ["_law_many", "_law_rows_here", "_law_net_here", "_law_row"] ["_law_many", "_law_rows_here"] (defScope sNet65) := ⟨rfl, rfl, rfl, by decide +kernel, rfl, by decide +kernel, by decide +kernel⟩
theorem ok_net65 {dV : Value} (F : FunD K "_law_net" "_law_net" sNet65 dV f fd)
    {CN : Addr} (NTx : NT K mg CN)
    {gAd : Addr} {gdAd : FuncData} (GAd : FnOk P w K mg base CX0 5 gAd gdAd ["self", "row"] (spAdd CN K CK)) (bAd : Binds K gdAd ["self", "row"] []) (mAd : Meth K CN "add" gAd)
    {gNI : Addr} {gdNI : FuncData} (GNI : FnOk P w K mg base CX0 2 gNI gdNI ["self", "many"] (spNInit CN)) (bNI : Binds K gdNI ["self", "many"] []) (MN : Mk K CN gNI)
    (G1 : FnOk P w K mg base CX0 3 g1 gd1 ["told"] (spRowOfG K CK)) (b1 : Binds K gd1 ["told"] []) (k1 : PySem.W.keepIn K (.ref g1) = true) (m1 : mg "row_of" = some (.ref g1)) :
    FnOk P w K mg base CX 6 f fd ["_law_many", "_law_rows_here"] (spNet65 CN K) := by
  refine F.ok scNet65 (fun vs H Q E h => ?_) (fun cdv A outer s H vs Q E hr h => ?_)
  · obtain ⟨m, r, us, ds, rfl, hm1, hm20, hU, hR, hK, h40, q⟩ := h
    rfl
  obtain ⟨m, r, us, ds, rfl, hm1, hm20, hU, hR, hK, h40, q⟩ := h
  have r3 := hr.mono (show 3 ≤ 5 by omega)
  refine ⟨_, (pss_cons (ps_set (i := 2) scNet65.nd rfl (Or.inl rfl) (pe_make MN GNI r3 rfl NTx.mN bNI .nil pass0 (pa_cons (pv 0) pa_nil)))
    (pss_cons (ps_for PassesOwn.never rfl (pi_list (pv 1)) (pg_name (i := 3) scNet65.nd rfl (Or.inl rfl))
      (pss_one (ps_expr (pe_meth (pv 2) NTx.cl mAd GAd hr bAd .nil pass0 (pa_cons (pe_call G1 r3 rfl m1 k1 b1 .nil pass0 (pa_cons (pv 3) pa_nil)) pa_nil)))))
    (pss_one (ps_ret (pv 2))))), ?_⟩
  have lus := hR.length
  refine ⟨_, rfl, fun n dx h1 h2 ne => ⟨n, dx, m, rfl, upd_same, hm1, hm20, fun l H2 nl keep hn hl => ⟨rfl, ?_⟩⟩⟩
  have s2 : Same H H2 := fun b o e => keep b o (by rw [upd_ne (ne_of_none e h1), upd_ne (ne_of_none e h2)]; exact e) (ne_of_none e h1)
  have hl0 : H l = none := by
    cases o : H l with
    | none => rfl
    | some o' =>
      have : (upd (upd H dx (.own n)) n (.ins CN dx [])) l = some o' := by rw [upd_ne (ne_of_none o h1), upd_ne (ne_of_none o h2)]; exact o
      rw [this] at nl; cases nl
  refine ⟨_, rfl, r, rfl, ⟨_, s2.seq hU⟩, ?_⟩
  refine for_list (xs := us) (fun i σ H' => Same H H' ∧ NetAt CN K H' n l m (ds.take i) ∧ ∃ z, σ = [some (.int m), some (.ref r), some (.ref n), z]) ⟨s2, ⟨⟨dx, hn⟩, [], hl, .nil⟩, none, rfl⟩ (fun i σ H' _ h => h.1.seq hU) ?_ ?_
  · rintro i x σ H3 hx ⟨s3, N3, z, rfl⟩
    have hi : i < ds.length := by
      have := (List.getElem?_eq_some_iff.mp hx).1
      omega
    obtain ⟨⟨k, u, v, p⟩, hd⟩ : ∃ d, ds[i]? = some d := ⟨_, List.getElem?_eq_getElem hi⟩
    obtain ⟨t, z', et, hT, fz⟩ := hR.at hd
    have ex : x = .ref t := by rw [et] at hx; exact (Option.some.inj hx).symm
    subst ex
    obtain ⟨dn, hn3⟩ := N3.ob
    have lt : (ds.take i).length ≤ ds.length := by rw [List.length_take]; omega
    refine ⟨_, rfl, n, dn, _, rfl, hn3, nflds_no _ _ (by decide +kernel) (by decide +kernel), _, rfl, t, _, _, _, _, rfl, s3.seqT hT, k, rfl, fun y H4 s4 ny rw => ?_⟩
    refine ⟨n, l, y, z', m, ds.take i, k, u, v, p, rfl, N3.same s4, rw, (s3.trans s4).fq fz, hK _ (List.mem_of_getElem? hd), by rw [List.length_take]; omega, fun H5 x5 N5 => ?_⟩
    refine ⟨fun b o e => x5 _ _ ((s3.trans s4) _ _ e) (ne_of_none e hl0), ?_, _, rfl⟩
    rw [List.take_add_one, hd]
    exact N5
  · rintro σ H3 ⟨s3, N3, z, rfl⟩
    rw [lus, List.take_length] at N3
    exact ⟨_, rfl, q n l H3 s3 hl0 N3⟩
theorem dw_pc (k : Kd) : decide (V.str k.wd = V.str "piece") = decide (k = .pc) := dec_wd k .pc
theorem dw_pu (k : Kd) : decide (V.str k.wd = V.str "push") = decide (k = .pu) := dec_wd k .pu
theorem at5 {r : Int} (h0 : 0 ≤ r) (h3 : r < 5) : ∃ k : Kd, k ≠ .ho ∧ atI [V.str "piece", .str "push", .str "piece", .str "piece", .str "piece"] r = some (.str k.wd) := by
  have : r = 0 ∨ r = 1 ∨ r = 2 ∨ r = 3 ∨ r = 4 := by omega
  rcases this with rfl | rfl | rfl | rfl | rfl
  · exact ⟨.pc, by decide, rfl⟩
  · exact ⟨.pu, by decide, rfl⟩
  · exact ⟨.pc, by decide, rfl⟩
  · exact ⟨.pc, by decide, rfl⟩
  · exact ⟨.pc, by decide, rfl⟩
theorem cut20 (xs : List V) : (cutV xs (some 3) (some 23)).length ≤ 20 := by
  unfold cutV
  have h1 : HT.sIx xs.length xs.length (some 23) = min 23 xs.length := by simp [HT.sIx]
  have h2 : HT.sIx xs.length 0 (some 3) = min 3 xs.length := by simp [HT.sIx]
  rw [h1, h2]
  simp
  omega
/-- a row as it is drawn, by so many points and with so large a top -/
structure RowT (m : Nat) (d : RD) : Prop where
  r : RdOk (m : Int) d
  h : d.1 ≠ .ho
  b : Mq.Bd 30 d.2.2.2
  p : d.1 = .pc → SzP d.2.2.2
def spRows65 (K : PySem.W.Frag) : Sp := fun vs H Q _ => ∃ (a : Addr) (ns : List Int) (m : Nat), vs = [.ref a, .int (m : Int)] ∧ SqL K H a (ns.map V.int) ∧ ns.length ≤ 63 ∧ 1 ≤ m ∧
  ∀ r us ds H', Same H H' → H r = none → H' r = some (.lst us) → Rts K H' us ds → (∀ d ∈ ds, RowT m d) → ds.length ≤ 20 → Q (.ref r) H'
theorem sz_bd {p : Mq.Q2} (h : SzP p) : Mq.Bd 30 p := by
  have h1 := h.1.pos
  have h2 := h.1.b
  have h3 := h.2.1
  have h4 := h.2.2
  exact ⟨B_of (by omega) (by omega), B_of (by omega) (by omega)⟩
abbrev sRows65 : Stmt := top 63
theorem scRows65 : FnScope ["_law_script", "_law_many", "_law_rows_here", "_law_cell", "_law_word", "_law_size_here"] ["_law_script", "_law_many"] (defScope sRows65) := ⟨rfl, rfl, rfl, by decide +kernel, rfl, by decide +kernel, by decide +kernel⟩
theorem ok_rows65 {dV : Value} (F : FunD K "_law_rows" "_law_rows" sRows65 dV f fd)
    (b : Bl mg)
    (G1 : FnOk P w K mg base CX0 1 g1 gd1 ["_law_cell", "_law_turn", "_law_many"] spMix) (b1 : Binds K gd1 ["_law_cell", "_law_turn", "_law_many"] []) (k1 : PySem.W.keepIn K (.ref g1) = true) (m1 : mg "_law_mix" = some (.ref g1))
    (G2 : FnOk P w K mg base CX0 2 g2 gd2 ["_law_cell"] spSize65) (b2 : Binds K gd2 ["_law_cell"] []) (k2 : PySem.W.keepIn K (.ref g2) = true) (m2 : mg "_law_size" = some (.ref g2))
    (G3 : FnOk P w K mg base CX0 1 g3 gd3 ["_law_top", "_law_bottom"] spFrac) (b3 : Binds K gd3 ["_law_top", "_law_bottom"] []) (k3 : PySem.W.keepIn K (.ref g3) = true) (m3 : mg "_law_lowest" = some (.ref g3)) :
    FnOk P w K mg base CX 3 f fd ["_law_script", "_law_many"] (spRows65 K) := by
  refine F.ok scRows65 (fun vs H Q E h => ?_) (fun cdv A outer s H vs Q E hr h => ?_)
  · obtain ⟨a, ns, m, rfl, hS, h63, hm1, q⟩ := h
    rfl
  obtain ⟨a, ns, m, rfl, hS, h63, hm1, q⟩ := h
  have r1 := hr.mono (show 1 ≤ 2 by omega)
  refine ⟨_, (pss_cons (ps_set (i := 2) scRows65.nd rfl (Or.inl rfl) (pe_lst pa_nil))
    (pss_cons (ps_for PassesOwn.never rfl (pi_list (pe_slice sl_list (pv 0) (po_some pe_int) (po_some pe_int))) (pg_name (i := 3) scRows65.nd rfl (Or.inl rfl))
      (pss_cons (ps_set (i := 4) scRows65.nd rfl (Or.inl rfl) (pe_ix ix_list (pe_lst (pa_cons pe_str (pa_cons pe_str (pa_cons pe_str (pa_cons pe_str (pa_cons pe_str pa_nil)))))) (pe_call G1 r1 rfl m1 k1 b1 .nil pass0 (pa_cons (pv 3) (pa_cons pe_int (pa_cons pe_int pa_nil)))) (fun _ _ => rfl)))
    (pss_cons (ps_set (i := 5) scRows65.nd rfl (Or.inl rfl) (pe_call G2 hr rfl m2 k2 b2 .nil pass0 (pa_cons (pv 3) pa_nil)))
    (pss_cons (ps_if (pt_cmpR op_eq (pv 4) pe_str (nomark _)) (pss_one (ps_set (i := 5) scRows65.nd rfl (Or.inl rfl) (pe_call G3 r1 rfl m3 k3 b3 .nil pass0 (pa_cons (pe_op op_sub (pe_call G1 r1 rfl m1 k1 b1 .nil pass0 (pa_cons (pv 3) (pa_cons pe_int (pa_cons pe_int pa_nil)))) pe_int) (pa_cons (pe_op op_add pe_int (pe_call G1 r1 rfl m1 k1 b1 .nil pass0 (pa_cons (pv 3) (pa_cons pe_int (pa_cons pe_int pa_nil))))) pa_nil))))) pss_nil)
    (pss_one (ps_expr (pe_bm PySem.F.plainAttrs_list PySem.F.slot_list_append PySem.F.type_list_append mt_append (pv 2) (pa_cons (pe_tup (pa_cons (pv 4) (pa_cons (pe_call G1 r1 rfl m1 k1 b1 .nil pass0 (pa_cons (pv 3) (pa_cons pe_int (pa_cons (pv 1) pa_nil)))) (pa_cons (pe_call G1 r1 rfl m1 k1 b1 .nil pass0 (pa_cons (pv 3) (pa_cons pe_int (pa_cons (pv 1) pa_nil)))) (pa_cons (pv 5) pa_nil))))) pa_nil))))))))
    (pss_one (ps_ret (pv 2))))), ?_⟩
  refine ⟨by show 0 ≤ sizeLine; decide, fun r hr0 => ?_⟩
  have s1 := same_new hr0 (.lst [])
  have e1 : upd H r (.lst []) r = some (.lst []) := upd_same
  generalize upd H r (.lst []) = H1 at s1 e1 ⊢
  refine ⟨_, rfl, 3, rfl, 23, rfl, a, _, rfl, s1.seq hS, fun C hC => ?_⟩
  have c30 := cut20 (ns.map V.int)
  obtain ⟨ms, em, _⟩ := cut_ints ns (some 3) (some 23)
  rw [em] at c30 ⊢
  rw [List.length_map] at c30
  have s2 := same_new hC (.lst (ms.map V.int))
  have eC : upd H1 C (.lst (ms.map V.int)) C = some (.lst (ms.map V.int)) := upd_same
  have nCr : C ≠ r := Ne.symm (ne_of_none e1 hC)
  have e2 := s2 _ _ e1
  generalize upd H1 C (.lst (ms.map V.int)) = H2 at s2 eC e2 ⊢
  refine ⟨C, rfl, ⟨_, SqL.of eC⟩, ?_⟩
  refine for_list (xs := ms.map V.int) (fun n σ H' => Same H H' ∧ H' C = some (.lst (ms.map V.int)) ∧ ∃ (us : List V) (ds : List RD) (z3 z4 z5 : Option V), σ = [some (.ref a), some (.int (m : Int)), some (.ref r), z3, z4, z5] ∧ H' r = some (.lst us) ∧ Rts K H' us ds ∧ (∀ d ∈ ds, RowT m d) ∧ ds.length = n) ⟨s1.trans s2, eC, [], [], none, none, none, rfl, e2, .nil, (fun d hd => by cases hd), rfl⟩ (fun n σ H' _ h => SqL.of h.2.1) ?_ ?_
  · rintro n x σ H3 hx ⟨s3, eC3, us, ds, z3, z4, z5, rfl, er, hR, hK, hlen⟩
    have hn : n < 20 := by
      have := (List.getElem?_eq_some_iff.mp hx).1
      rw [List.length_map] at this
      omega
    obtain ⟨c, rfl⟩ : ∃ c, x = .int c := by
      rw [List.getElem?_map] at hx
      cases hm : ms[n]? with
      | none => rw [hm] at hx; cases hx
      | some c => rw [hm] at hx; cases hx; exact ⟨c, rfl⟩
    have lus := hR.length
    refine ⟨by show 5 ≤ sizeLine; decide, fun L hL => ?_⟩
    have s4 := same_new hL (.lst [V.str "piece", .str "push", .str "piece", .str "piece", .str "piece"])
    have e4 : upd H3 L (.lst [V.str "piece", .str "push", .str "piece", .str "piece", .str "piece"]) L = some (.lst [V.str "piece", .str "push", .str "piece", .str "piece", .str "piece"]) := upd_same
    generalize upd H3 L (.lst [V.str "piece", .str "push", .str "piece", .str "piece", .str "piece"]) = H4 at s4 e4 ⊢
    refine ⟨_, rfl, c, 0, 5, rfl, by decide, by decide, by decide, fun y H5 y0 y3 s5 => ?_⟩
    obtain ⟨k, kh, ek⟩ := at5 y0 y3
    refine ⟨L, _, y, _, rfl, rfl, SqL.of (s5 _ _ e4), ek, ?_⟩
    refine ⟨_, rfl, c, rfl, fun p dp z H8 s8 e8 => ?_⟩
    have s38 := s4.trans (s5.trans s8)
    have fz : Fq K H8 z p := Fq.of e8
    refine (fun (hrest : ∀ (z5 : Option V) (zz : Addr) (p : Mq.Q2) (Hx : Hp), z5 = some (.ref zz) → Same H8 Hx → Fq K Hx zz p → Mq.Low p → (k = .pc → SzP p) → Mq.Bd 30 p → PySem.W.KIN.Hid ((?T : Option V → Hp → Prop) z5 Hx)) => ?main) ?rest
    case main =>
      by_cases hk : k = .pu
      · refine ⟨_, rfl, rfl, _, rfl, ifT (by rw [dw_pu]; exact decide_eq_true hk) ?_⟩
        refine ⟨_, rfl, c, 3, 121, rfl, by decide, by decide, by decide, fun u H9 u0 u1 s9 => ⟨_, _, rfl, rfl, ?_⟩⟩
        refine ⟨_, rfl, c, 4, 12, rfl, by decide, by decide, by decide, fun b' HA b0 b1 sA => ⟨_, _, rfl, rfl, ?_⟩⟩
        have le := Mq.red_le (t := u - 60) (show 1 + b' ≠ 0 by omega)
        have bB : Mq.B 10 (1 + b') := B_of (by omega) (by omega)
        have bT : Mq.B 10 (u - 60) := B_of (by omega) (by omega)
        refine ⟨_, _, 10, rfl, by omega, bB, by omega, fun zz HB sB eB => ?_⟩
        show tSeq _ _ _ [some (.ref a), some (.int (m : Int)), some (.ref r), some (.int c), some (.str k.wd), some (.ref zz)] HB
        generalize h7 : (some (V.ref zz) : Option V) = z7
        exact (hrest z7 zz _ HB h7.symm (s9.trans (sA.trans sB)) (Fq.of eB) (Mq.red_low (by omega)) (fun z => by rw [hk] at z; cases z) ⟨(bT.le le.1).mono (by omega), (bB.le le.2).mono (by omega)⟩).out
      · refine ⟨_, rfl, rfl, _, rfl, ifF (by rw [dw_pu]; exact decide_eq_false hk) ?_⟩
        show tSeq _ _ _ [some (.ref a), some (.int (m : Int)), some (.ref r), some (.int c), some (.str k.wd), some (.ref z)] H8
        generalize h7 : (some (V.ref z) : Option V) = z7
        exact (hrest z7 z p H8 h7.symm (Same.refl _) fz dp.1.low (fun _ => dp) (sz_bd dp)).out
    case rest =>
    intro z5' zz p' H9 h7 s9 f9 lp pk pb
    subst h7
    refine ⟨?_⟩
    have s39 := s38.trans s9
    have er9 := s39 _ _ er
    refine ⟨_, rfl, .inl ⟨rfl, _, SqL.of er9⟩, _, rfl, _, rfl, _, rfl, c, 1, m, rfl, by decide, by decide, by omega, fun i HA i0 i1 sA => ?_⟩
    refine ⟨_, rfl, _, rfl, c, 2, m, rfl, by decide, by decide, by omega, fun j HB j0 j1 sB => ?_⟩
    refine ⟨_, rfl, by show 4 ≤ sizeLine; decide, fun t ht => ?_⟩
    have s10 := same_new ht (.tup [.str k.wd, .int i, .int j, .ref zz])
    have et : SqT K (upd HB t (.tup [.str k.wd, .int i, .int j, .ref zz])) t [.str k.wd, .int i, .int j, .ref zz] := SqT.of upd_same
    generalize upd HB t (.tup [.str k.wd, .int i, .int j, .ref zz]) = H10 at s10 et ⊢
    have s910 := sA.trans (sB.trans s10)
    have s310 := s39.trans s910
    have er10 := s310 _ _ er
    refine ⟨r, us, .ref t, rfl, rfl, er10, small1000 (by omega), ?_⟩
    refine ⟨(s3.trans s310).change hr0, by rw [upd_ne nCr]; exact s310 _ _ eC3, us ++ [.ref t], ds ++ [(k, i, j, p')], _, _, _, rfl, upd_same, Rts.upd er10 ((hR.same s310).app (.cons et (s910.fq f9) .nil)), fun d hd => ?_, by rw [List.length_append, hlen]; rfl⟩
    rcases List.mem_append.mp hd with z | z
    · exact hK d z
    · have : d = (k, i, j, p') := by simpa using z
      rw [this]; exact ⟨⟨i0, i1, j0, j1, lp, (fun z => (pk z).1.pos), pb.mono (by omega)⟩, kh, pb, pk⟩
  · rintro σ H3 ⟨s3, _, us, ds, z3, z4, z5, rfl, er, hR, hK, hlen⟩
    rw [List.length_map] at hlen
    exact ⟨_, rfl, q r us ds H3 s3 hr0 er hR hK (by omega)⟩
end
end K65

set_option Elab.async false
set_option linter.all false
set_option maxRecDepth 100000
set_option maxHeartbeats 4000000
namespace K65
open PySem L2
section
variable {P : Program} {w : World} {K : PySem.W.Frag} {mg : Str → Option Value} {base : Heap} {f g1 g2 g3 g4 g5 g6 g7 g8 : Addr} {fd gd1 gd2 gd3 gd4 gd5 gd6 gd7 gd8 : FuncData} {CX : CXT}
variable {CR : Addr} {CK : Kd → Addr} {fW fJ fT fS : Kd → Addr} {fdW fdJ fdT fdS : Kd → FuncData}
theorem sub_nil {ec : List (Str × Addr)} : ∀ (x : Str) (c : Addr), ([] : List (Str × Addr)).lookup x = some c → ec.lookup x = some c := fun _ _ h => by cases h
theorem sub_cons {ec cl : List (Str × Addr)} {a : Str} {d : Addr} (h : ec.lookup a = some d) (r : ∀ x c, cl.lookup x = some c → ec.lookup x = some c) : ∀ x c, ((a, d) :: cl).lookup x = some c → ec.lookup x = some c := fun x c e => by
  rw [List.lookup_cons] at e
  cases q : x == a with
  | true => rw [q] at e; rw [eq_of_beq q, h]; exact e
  | false => rw [q] at e; exact r x c e
theorem ix_tupK {X : Cx} {K : PySem.W.Frag} (h : X.K = K) : IxR X (rIxT K) := by subst h; exact ix_tup
theorem ix_listK {X : Cx} {K : PySem.W.Frag} (h : X.K = K) : IxR X (rIxL K) := by subst h; exact ix_list
theorem cut_toI (xs : List V) {k : Nat} (hk : k ≤ xs.length) : cutV xs none (some (k : Int)) = xs.take k := by
  unfold cutV
  have h1 : HT.sIx xs.length xs.length (some (k : Int)) = k := by
    simp [HT.sIx]
    split <;> omega
  have h2 : HT.sIx xs.length 0 none = 0 := rfl
  rw [h1, h2]; simp
theorem cut_from1 (xs : List V) (k : Nat) : cutV xs (some ((k : Int) + 1)) none = xs.drop (k + 1) := by
  have := cut_fromI xs (k + 1)
  rw [Int.natCast_add] at this
  exact this
def spCalled : Sp := fun vs H Q _ => ∃ (x lo hi : Int), vs = [.int x, .int lo, .int hi] ∧ Q (.int (cal lo hi x)) H
abbrev sCalled : Stmt := top 64
theorem scCalled : FnScope ["_law_point", "_law_low", "_law_high"] ["_law_point", "_law_low", "_law_high"] (defScope sCalled) := ⟨rfl, rfl, rfl, by decide +kernel, rfl, by decide +kernel, by decide +kernel⟩
theorem ok_called {dV : Value} (F : FunD K "_law_called" "_law_called" sCalled dV f fd) :
    FnOk P w K mg base CX 1 f fd ["_law_point", "_law_low", "_law_high"] spCalled := by
  refine F.ok scCalled (fun vs H Q E h => ?_) (fun cdv A outer s H vs Q E hr h => ?_)
  · obtain ⟨x, lo, hi, rfl, q⟩ := h
    rfl
  obtain ⟨x, lo, hi, rfl, q⟩ := h
  refine ⟨_, (pss_cons (ps_if (pt_cmpR op_eq (pv 0) (pv 2) (nomark _)) (pss_one (ps_ret (pv 1))) pss_nil)
    (pss_cons (ps_if (pt_cmpR op_gt (pv 0) (pv 2) (nomark _)) (pss_one (ps_ret (pe_op op_sub (pv 0) pe_int))) pss_nil)
    (pss_one (ps_ret (pv 0))))), ?_⟩
  unfold cal at q
  refine ⟨_, rfl, _, rfl, rfl, _, rfl, ?_⟩
  by_cases c : x = hi
  · rw [if_pos c] at q
    exact ifT (decide_eq_true (by rw [c])) ⟨_, rfl, q⟩
  · rw [if_neg c] at q
    refine ifF (decide_eq_false (fun z => c (by injection z))) ?_
    refine ⟨_, rfl, _, rfl, _, _, rfl, rfl, _, rfl, ?_⟩
    by_cases c2 : hi < x
    · rw [if_pos c2] at q
      exact ifT (decide_eq_true c2) ⟨_, rfl, _, _, rfl, rfl, q⟩
    · rw [if_neg c2] at q
      exact ifF (decide_eq_false c2) ⟨_, rfl, q⟩
theorem nd_row_low_high : (["_law_row", "_law_low", "_law_high"] : List Str).Nodup := by decide +kernel
def spOne (K : PySem.W.Frag) : Sp := fun vs H Q _ => ∃ (r e : Addr) (us : List V) (ds : List RD) (i j : Int), vs = [.ref r, .ref e] ∧ SqL K H r us ∧ Rts K H us ds ∧ SqT K H e [.int i, .int j] ∧ ds.length ≤ 100 ∧ ∀ l zs H', Same H H' → H' l = some (.lst zs) → Rts K H' zs (ds.map (one (min i j) (max i j))) → Q (.ref l) H'
abbrev sOne : Stmt := top 65
theorem scOne : FnScope ["_law_rows_here", "_law_ends", "_law_low", "_law_high"] ["_law_rows_here", "_law_ends"] (defScope sOne) := ⟨rfl, rfl, rfl, by decide +kernel, rfl, by decide +kernel, by decide +kernel⟩
theorem ok_one {dV : Value} (F : FunD K "_law_as_one" "_law_as_one" sOne dV f fd)
    (mm : mg "min" = none) (mx : mg "max" = none)
    (G1 : FnOk P w K mg base CX0 1 g1 gd1 ["_law_point", "_law_low", "_law_high"] spCalled) (b1 : Binds K gd1 ["_law_point", "_law_low", "_law_high"] []) (k1 : PySem.W.keepIn K (.ref g1) = true) (m1 : mg "_law_called" = some (.ref g1)) :
    FnOk P w K mg base CX 2 f fd ["_law_rows_here", "_law_ends"] (spOne K) := by
  refine F.ok scOne (fun vs H Q E h => ?_) (fun cdv A outer s H vs Q E hr h => ?_)
  · obtain ⟨r, e, us, ds, i, j, rfl, hU, hR, hE, h100, q⟩ := h
    rfl
  obtain ⟨r, e, us, ds, i, j, rfl, hU, hR, hE, h100, q⟩ := h
  refine ⟨_, (pss_cons (ps_set (i := 2) scOne.nd rfl (Or.inr rfl) (pe_callB (call_minT rfl) rfl mm PyProof.Rows.boot_min (pa_cons (pv 1) pa_nil)))
    (pss_cons (ps_set (i := 3) scOne.nd rfl (Or.inr rfl) (pe_callB (call_maxT rfl) rfl mx PyProof.Rows.boot_max (pa_cons (pv 1) pa_nil)))
    (pss_one (ps_ret (pe_comp (nl := 1) (fr := [2, 3]) (Nc := ["_law_row", "_law_low", "_law_high"]) (cl := [("_law_low", s.heap.objs.size + 1), ("_law_high", s.heap.objs.size + 2)]) rfl ⟨rfl, rfl, by decide +kernel, by decide +kernel, (sub_cons rfl (sub_cons rfl (sub_nil))), has_of rfl, rfl, fun i n h => match i, h with | 0, h => by cases h; exact ⟨2, rfl, rfl, rfl, rfl, .inl rfl⟩ | 1, h => by cases h; exact ⟨3, rfl, rfl, rfl, rfl, .inl rfl⟩ | k + 2, h => by rw [show 1 + (k + 2) = k + 3 by omega] at h; cases h⟩
        (pi_list (pv 0)) (fun C s3 H3 fp pins => (pg_name (i := 0) nd_row_low_high rfl (Or.inl rfl))) (fun C s3 H3 fp pins => pif_nil)
        (fun C s3 H3 fp pins => (pe_tup (pa_cons (pe_ix (ix_tupK (K := K) rfl) (pv 0) pe_int (fun _ _ => rfl)) (pa_cons (pe_call G1 hr rfl m1 k1 b1 .nil pass0 (pa_cons (pe_ix (ix_tupK (K := K) rfl) (pv 0) pe_int (fun _ _ => rfl)) (pa_cons (pv 1) (pa_cons (pv 2) pa_nil)))) (pa_cons (pe_call G1 hr rfl m1 k1 b1 .nil pass0 (pa_cons (pe_ix (ix_tupK (K := K) rfl) (pv 0) pe_int (fun _ _ => rfl)) (pa_cons (pv 1) (pa_cons (pv 2) pa_nil)))) (pa_cons (pe_ix (ix_tupK (K := K) rfl) (pv 0) pe_int (fun _ _ => rfl)) pa_nil))))))))))), ?_⟩
  have lus := hR.length
  have e1 : (if j < i then j else i) = min i j := by split <;> omega
  have e2 : (if j > i then j else i) = max i j := by split <;> omega
  refine ⟨_, rfl, e, i, j, rfl, hE, _, rfl, e, i, j, rfl, hE, ?_⟩
  rw [e1, e2]
  generalize min i j = lo at q ⊢
  generalize max i j = hi at q ⊢
  refine ⟨_, rfl, r, rfl, ⟨_, hU⟩, fun D hD => ?_⟩
  have sD := same_new hD (.lst [])
  refine comp_list (xs := us) (fun n zs H' => Same H H' ∧ H' D = some (.lst zs) ∧ Rts K H' zs ((ds.take n).map (one lo hi))) ⟨sD, upd_same, .nil⟩ (fun n zs H' h => h.2.1) (fun n zs H' _ h => h.1.seq hU) ?_ ?_
  · rintro n zs x H1 hx ⟨s1, e1, R1⟩ C hC
    have hn : n < ds.length := by
      have := (List.getElem?_eq_some_iff.mp hx).1
      omega
    obtain ⟨⟨k, u, v, p⟩, hd⟩ : ∃ d, ds[n]? = some d := ⟨_, List.getElem?_eq_getElem hn⟩
    obtain ⟨t, z, et, hT, fz⟩ := (hR.same s1).at hd
    have ex : x = .ref t := by rw [et] at hx; exact (Option.some.inj hx).symm
    subst ex
    have lz := R1.length
    rw [List.length_map, List.length_take] at lz
    refine ⟨keep1.1, keep1.2, iteT ?_⟩
    refine ⟨_, rfl, t, _, 0, _, rfl, rfl, hT, rfl, ?_⟩
    refine ⟨_, rfl, t, _, 1, _, rfl, rfl, hT, rfl, _, rfl, _, rfl, u, lo, hi, rfl, ?_⟩
    refine ⟨_, rfl, t, _, 2, _, rfl, rfl, hT, rfl, _, rfl, _, rfl, v, lo, hi, rfl, ?_⟩
    refine ⟨_, rfl, t, _, 3, _, rfl, rfl, hT, rfl, by show 4 ≤ sizeLine; decide, fun t' ht' => ?_⟩
    have s2 := same_new ht' (.tup [.str k.wd, .int (cal lo hi u), .int (cal lo hi v), .ref z])
    have et' : SqT K (upd H1 t' (.tup [.str k.wd, .int (cal lo hi u), .int (cal lo hi v), .ref z])) t' [.str k.wd, .int (cal lo hi u), .int (cal lo hi v), .ref z] := SqT.of upd_same
    generalize upd H1 t' (.tup [.str k.wd, .int (cal lo hi u), .int (cal lo hi v), .ref z]) = H2 at s2 et' ⊢
    have e12 := s2 _ _ e1
    refine ⟨e12, small1000 (by omega), hC _ _ ⟨(s1.trans s2).change hD, upd_same, ?_⟩⟩
    have ee : (ds.take (n + 1)).map (one lo hi) = (ds.take n).map (one lo hi) ++ [(k, cal lo hi u, cal lo hi v, p)] := by rw [List.take_add_one, hd, List.map_append]; rfl
    rw [ee]
    exact Rts.upd e12 ((R1.same s2).app (.cons et' (s2.fq fz) .nil))
  rintro zs H1 ⟨s1, e1, R1⟩
  rw [lus, List.take_length] at R1
  exact q D zs H1 s1 e1 R1
theorem _root_.L2.Rts.take {K : PySem.W.Frag} {H : Hp} : ∀ (n : Nat) {us : List V} {ds : List RD}, Rts K H us ds → Rts K H (us.take n) (ds.take n)
  | 0, _, _, _ => .nil
  | _ + 1, _, _, .nil => .nil
  | n + 1, _, _, .cons h f q => .cons h f (L2.Rts.take n q)
theorem _root_.L2.Rts.drop {K : PySem.W.Frag} {H : Hp} : ∀ (n : Nat) {us : List V} {ds : List RD}, Rts K H us ds → Rts K H (us.drop n) (ds.drop n)
  | 0, _, _, h => h
  | _ + 1, _, _, .nil => .nil
  | n + 1, _, _, .cons h f q => L2.Rts.drop n q
theorem ts_sub {m : Nat} {ds es : List RD} (h : TsOk m ds) (hs : ∀ d ∈ es, d ∈ ds) (hl : es.length ≤ 20) : TsOk m es := ⟨fun d hd => h.r d (hs d hd), fun d hd => h.h d (hs d hd), fun d hd => h.p d (hs d hd), hl, h.m1, h.m5⟩
theorem ts_one {m : Nat} {ds : List RD} {lo hi : Int} (h : TsOk m ds) (l0 : 0 ≤ lo) (hlt : lo < hi) (hm : hi < (m : Int)) : TsOk (m - 1) (ds.map (one lo hi)) := by
  have m1 := h.m1
  have m5 := h.m5
  refine ⟨fun d hd => ?_, fun d hd => ?_, fun d hd => ?_, by rw [List.length_map]; exact h.l, by omega, by omega⟩
  · obtain ⟨e, he, rfl⟩ := List.mem_map.mp hd
    obtain ⟨⟨a0, a1, b0, b1, l, p, b⟩, b31⟩ := h.r e he
    have c1 := cal_in l0 hlt hm a0 a1
    have c2 := cal_in l0 hlt hm b0 b1
    have em : ((m - 1 : Nat) : Int) = (m : Int) - 1 := by omega
    exact ⟨⟨c1.1, by rw [em]; exact c1.2, c2.1, by rw [em]; exact c2.2, l, p, b⟩, b31⟩
  · obtain ⟨e, he, rfl⟩ := List.mem_map.mp hd
    exact h.h e he
  · obtain ⟨e, he, rfl⟩ := List.mem_map.mp hd
    exact h.p e he
theorem mem_wo {ds : List RD} {w : Nat} {d : RD} (h : d ∈ ds.take w ++ ds.drop (w + 1)) : d ∈ ds := by
  rcases List.mem_append.mp h with z | z
  · exact List.mem_of_mem_take z
  · exact List.mem_of_mem_drop z
theorem ts_pt {m : Nat} {ds : List RD} (h : TsOk m ds) : ∀ d ∈ ds, PtOk (m : Int) d.2.1 d.2.2.1 := fun d hd => by
  have := (h.r d hd).1
  exact ⟨this.1, this.2.1, this.2.2.1, this.2.2.2.1⟩
def spDue65 (K : PySem.W.Frag) : Sp := fun vs H Q _ => ∃ (r : Addr) (us : List V) (ds : List RD) (m w : Nat) (i j : Int) (p : Mq.Q2), vs = [.ref r, .int (m : Int), .int (w : Int)] ∧ SqL K H r us ∧ Rts K H us ds ∧ TsOk m ds ∧ ds[w]? = some (.pc, i, j, p) ∧ i ≠ j ∧ ∀ a p H', Same H H' → Fq K H' a p → Mq.Low p → Mq.val p = tsum m ds → Q (.ref a) H'
abbrev sDue65 : Stmt := top 66
theorem scDue65 : FnScope ["_law_rows_here", "_law_many", "_law_at", "_law_without", "_law_word", "_law_start", "_law_goal", "_law_size_here", "_law_apart", "_law_joined"] ["_law_rows_here", "_law_many", "_law_at"] (defScope sDue65) := ⟨rfl, rfl, rfl, by decide +kernel, rfl, by decide +kernel, by decide +kernel⟩
theorem ok_due65 {dV : Value} (F : FunD K "_law_due" "_law_due" sDue65 dV f fd)
    {CN : Addr}
    (G1 : FnOk P w K mg base CX0 8 g1 gd1 ["net"] (spTS CN K)) (b1 : Binds K gd1 ["net"] []) (k1 : PySem.W.keepIn K (.ref g1) = true) (m1 : mg "tree_sum" = some (.ref g1))
    (G2 : FnOk P w K mg base CX0 6 g2 gd2 ["_law_many", "_law_rows_here"] (spNet65 CN K)) (b2 : Binds K gd2 ["_law_many", "_law_rows_here"] []) (k2 : PySem.W.keepIn K (.ref g2) = true) (m2 : mg "_law_net" = some (.ref g2))
    (G3 : FnOk P w K mg base CX0 2 g3 gd3 ["_law_rows_here", "_law_ends"] (spOne K)) (b3 : Binds K gd3 ["_law_rows_here", "_law_ends"] []) (k3 : PySem.W.keepIn K (.ref g3) = true) (m3 : mg "_law_as_one" = some (.ref g3))
    (G4 : FnOk P w K mg base CX0 2 g4 gd4 ["_law_one", "_law_other"] (spTwo K Mq.plus)) (b4 : Binds K gd4 ["_law_one", "_law_other"] []) (k4 : PySem.W.keepIn K (.ref g4) = true) (m4 : mg "_law_plus" = some (.ref g4))
    (G5 : FnOk P w K mg base CX0 2 g5 gd5 ["_law_one", "_law_other"] (spDiv1 K)) (b5 : Binds K gd5 ["_law_one", "_law_other"] []) (k5 : PySem.W.keepIn K (.ref g5) = true) (m5 : mg "_law_by" = some (.ref g5)) :
    FnOk P w K mg base CX 9 f fd ["_law_rows_here", "_law_many", "_law_at"] (spDue65 K) := by
  refine F.ok scDue65 (fun vs H Q E h => ?_) (fun cdv A outer s H vs Q E hr h => ?_)
  · obtain ⟨r, us, ds, m, w, i, j, p, rfl, hU, hR, ts, hd, ne, q⟩ := h
    rfl
  obtain ⟨r, us, ds, m, w, i, j, p, rfl, hU, hR, ts, hd, ne, q⟩ := h
  have r2 := hr.mono (show 2 ≤ 8 by omega)
  have r6 := hr.mono (show 6 ≤ 8 by omega)
  refine ⟨_, (pss_cons (ps_set (i := 3) scDue65.nd rfl (Or.inl rfl) (pe_op op_cat (pe_slice sl_list (pv 0) po_none (po_some (pv 2))) (pe_slice sl_list (pv 0) (po_some (pe_op op_add (pv 2) pe_int)) po_none)))
    (pss_cons (ps_asg (pe_ix ix_list (pv 0) (pv 2) (fun _ _ => rfl)) (pg_tup rfl (pgs_cons (pg_name (i := 4) scDue65.nd rfl (Or.inl rfl)) (pgs_cons (pg_name (i := 5) scDue65.nd rfl (Or.inl rfl)) (pgs_cons (pg_name (i := 6) scDue65.nd rfl (Or.inl rfl)) (pgs_cons (pg_name (i := 7) scDue65.nd rfl (Or.inl rfl)) pgs_nil))))))
    (pss_cons (ps_set (i := 8) scDue65.nd rfl (Or.inl rfl) (pe_call G1 hr rfl m1 k1 b1 .nil pass0 (pa_cons (pe_call G2 r6 rfl m2 k2 b2 .nil pass0 (pa_cons (pv 1) (pa_cons (pv 3) pa_nil))) pa_nil)))
    (pss_cons (ps_set (i := 9) scDue65.nd rfl (Or.inl rfl) (pe_call G1 hr rfl m1 k1 b1 .nil pass0 (pa_cons (pe_call G2 r6 rfl m2 k2 b2 .nil pass0 (pa_cons (pe_op op_sub (pv 1) pe_int) (pa_cons (pe_call G3 r2 rfl m3 k3 b3 .nil pass0 (pa_cons (pv 3) (pa_cons (pe_tup (pa_cons (pv 5) (pa_cons (pv 6) pa_nil))) pa_nil))) pa_nil))) pa_nil)))
    (pss_one (ps_ret (pe_call G4 r2 rfl m4 k4 b4 .nil pass0 (pa_cons (pv 8) (pa_cons (pe_call G5 r2 rfl m5 k5 b5 .nil pass0 (pa_cons (pv 9) (pa_cons (pv 7) pa_nil))) pa_nil))))))))), ?_⟩
  have lus := hR.length
  have hw : w < ds.length := (List.getElem?_eq_some_iff.mp hd).1
  have m1 := ts.m1
  have m5 := ts.m5
  have l20 := ts.l
  obtain ⟨i0, i1, j0, j1⟩ : PtOk (m : Int) i j := ts_pt ts _ (List.mem_of_getElem? hd)
  obtain ⟨⟨_, _, _, _, lp, pp, _⟩, bp⟩ := ts.r _ (List.mem_of_getElem? hd)
  have lp : Mq.Low p := lp
  have pp : 0 < p.1 := pp rfl
  have bp : Mq.Bd 31 p := bp
  -- without
  refine ⟨_, rfl, _, rfl, (w : Int), rfl, r, us, rfl, hU, fun A hA => ?_⟩
  rw [cut_toI us (by omega)]
  have s1 := same_new hA (.lst (us.take w))
  have e1 : upd H A (.lst (us.take w)) A = some (.lst (us.take w)) := upd_same
  generalize upd H A (.lst (us.take w)) = H1 at s1 e1 ⊢
  refine ⟨_, rfl, _, rfl, _, _, rfl, rfl, (w : Int) + 1, rfl, r, us, rfl, s1.seq hU, fun B hB => ?_⟩
  rw [cut_from1 us]
  have s2 := same_new hB (.lst (us.drop (w + 1)))
  have e2 : upd H1 B (.lst (us.drop (w + 1))) B = some (.lst (us.drop (w + 1))) := upd_same
  generalize upd H1 B (.lst (us.drop (w + 1))) = H2 at s2 e2 ⊢
  refine ⟨A, B, _, _, rfl, rfl, s2 _ _ e1, e2, by rw [sizeLine_eq, List.length_take, List.length_drop]; omega, fun C hC => ?_⟩
  have s3 := same_new hC (.lst (us.take w ++ us.drop (w + 1)))
  have e3 : upd H2 C (.lst (us.take w ++ us.drop (w + 1))) C = some (.lst (us.take w ++ us.drop (w + 1))) := upd_same
  generalize upd H2 C (.lst (us.take w ++ us.drop (w + 1))) = H3 at s3 e3 ⊢
  have s03 := s1.trans (s2.trans s3)
  have R3 : Rts K H3 (us.take w ++ us.drop (w + 1)) (ds.take w ++ ds.drop (w + 1)) := ((hR.take w).app (hR.drop (w + 1))).same s03
  have lw : (ds.take w ++ ds.drop (w + 1)).length ≤ 20 := by rw [List.length_append, List.length_take, List.length_drop]; omega
  have tsW := ts_sub ts (fun d hd => mem_wo hd) lw
  have eq1 := tsum_one m5 hd ne (ts_pt ts)
  generalize us.take w ++ us.drop (w + 1) = ws at e3 R3
  generalize ds.take w ++ ds.drop (w + 1) = es at R3 lw tsW eq1
  -- the row
  obtain ⟨t, z, et, hT, fz⟩ := (hR.same s03).at hd
  have at_ : atI us (w : Int) = some (.ref t) := atI_nat et
  refine ⟨_, rfl, _, rfl, r, us, _, _, rfl, rfl, s03.seq hU, at_, t, _, rfl, hT, rfl, _, _, rfl, _, _, rfl, _, _, rfl, _, _, rfl, rfl, ?_⟩
  show tSeq _ _ _ [some (.ref r), some (.int (m : Int)), some (.int (w : Int)), some (.ref C), some (.str Kd.pc.wd), some (.int i), some (.int j), some (.ref z), none, none] H3
  -- apart
  refine ⟨_, rfl, _, rfl, (m : Int), C, ws, es, rfl, by omega, by omega, SqL.of e3, R3, (fun d hd => (tsW.r d hd).1), by omega, fun n l H4 s4 nl nt => ?_⟩
  refine ⟨n, l, m, es, rfl, nt, tsW, fun a1 p1 H5 s5 f1 l1 b1 v1 => ?_⟩
  have s35 := s4.trans s5
  -- joined
  refine ⟨_, rfl, _, _, rfl, rfl, _, rfl, _, rfl, _, rfl, by show 2 ≤ sizeLine; decide, fun E2 hE => ?_⟩
  have s6 := same_new hE (.tup [.int i, .int j])
  have e6 : upd H5 E2 (.tup [.int i, .int j]) E2 = some (.tup [.int i, .int j]) := upd_same
  generalize upd H5 E2 (.tup [.int i, .int j]) = H6 at s6 e6 ⊢
  have s36 := s35.trans s6
  refine ⟨C, E2, ws, es, i, j, rfl, SqL.of (s36 _ _ e3), R3.same s36, SqT.of e6, by omega, fun L zs H7 s7 eL RL => ?_⟩
  have ts1 := ts_one tsW (show 0 ≤ min i j by omega) (show min i j < max i j by omega) (show max i j < (m : Int) by omega)
  have em : (m : Int) - 1 = ((m - 1 : Nat) : Int) := by omega
  have m1' := ts1.m1
  have l1' := ts1.l
  refine ⟨((m - 1 : Nat) : Int), L, zs, _, by rw [← em]; rfl, by omega, by omega, SqL.of eL, RL, (fun d hd => (ts1.r d hd).1), by omega, fun n' l' H8 s8 nl' nt' => ?_⟩
  refine ⟨n', l', m - 1, _, rfl, nt', ts1, fun a2 p2 H9 s9 f2 l2 b2 v2 => ?_⟩
  have s39 := s36.trans (s7.trans (s8.trans s9))
  have f1' : Fq K H9 a1 p1 := (s6.trans (s7.trans (s8.trans s9))).fq f1
  have fz9 : Fq K H9 z p := s39.fq fz
  have lo := Mq.over_low l2.pos (show p.1 ≠ 0 by omega)
  have bo := Mq.over_bd b2 bp l2.pos (show p.1 ≠ 0 by omega)
  refine ⟨_, rfl, _, rfl, _, rfl, a2, z, p2, p, 3400, 31, rfl, f2, fz9, l2.pos, lp.pos, pp, b2, bp, by omega, fun a3 HA sA eA => ?_⟩
  refine ⟨a1, a3, p1, _, 3400, _, rfl, sA.fq f1', Fq.of eA, l1.pos, lo.pos, b1, bo, by omega, fun a4 HB sB eB => ?_⟩
  refine q a4 _ HB (s03.trans (s39.trans (sA.trans sB))) (Fq.of eB) (Mq.plus_low l1.pos lo.pos) ?_
  rw [Mq.val_plus l1.pos lo.pos, Mq.val_over l2.pos lp.pos (by omega), v1, v2, eq1]
end
end K65

set_option Elab.async false
set_option linter.all false
set_option maxRecDepth 100000
set_option maxHeartbeats 4000000
namespace K65
open PySem L2
section
variable {P : Program} {w : World} {K : PySem.W.Frag} {mg : Str → Option Value} {base : Heap} {f g1 g2 g3 g4 g5 g6 g7 g8 g9 g10 : Addr} {fd gd1 gd2 gd3 gd4 gd5 gd6 gd7 gd8 gd9 gd10 : FuncData} {CX : CXT}
variable {CR : Addr} {CK : Kd → Addr} {fW fJ fT fS : Kd → Addr} {fdW fdJ fdT fdS : Kd → FuncData}
def spLaw (K : PySem.W.Frag) : Sp := fun vs H Q _ => ∃ (a : Addr) (ns : List Int), vs = [.ref a] ∧ SqL K H a (ns.map V.int) ∧ ns.length ≤ 63 ∧ ∀ H', Q (.bl true) H'
theorem row_ts {m : Nat} {ds : List RD} (h : ∀ d ∈ ds, RowT m d) (hl : ds.length ≤ 20) (m1 : 1 ≤ m) (m5 : m ≤ 5) : TsOk m ds := ⟨fun d hd => ⟨(h d hd).r, (h d hd).b.mono (by omega)⟩, fun d hd => (h d hd).h, fun d hd => ⟨(h d hd).r.2.2.2.2.1, fun k => by
  have s := (h d hd).p k
  have := s.1.pos
  have := s.2.1
  exact ⟨s.1.pos, by omega, s.2.2⟩⟩, hl, m1, m5⟩
/-- one row for another -/
theorem ts_set {m w : Nat} {ds : List RD} {d : RD} (h : TsOk m ds) (r : RdOk (m : Int) d ∧ Mq.Bd 31 d.2.2.2) (k : d.1 ≠ .ho) (p : PcB d) : TsOk m (ds.set w d) := by
  have mem : ∀ e ∈ ds.set w d, e ∈ ds ∨ e = d := fun e he => List.mem_or_eq_of_mem_set he
  refine ⟨fun e he => ?_, fun e he => ?_, fun e he => ?_, by rw [List.length_set]; exact h.l, h.m1, h.m5⟩
  · rcases mem e he with z | z
    · exact h.r e z
    · rw [z]; exact r
  · rcases mem e he with z | z
    · exact h.h e z
    · rw [z]; exact k
  · rcases mem e he with z | z
    · exact h.p e z
    · rw [z]; exact p
theorem same_refl (ds : List RD) : SameP ds ds := ⟨rfl, fun i a b e f => by rw [e] at f; cases f; exact ⟨rfl, fun _ => rfl⟩⟩
theorem same_push {as bs : List RD} {w : Nat} {i j : Int} {p q : Mq.Q2} (h : SameP as bs) (hw : as[w]? = some (.pu, i, j, p)) : SameP (as.set w (.pu, i, j, q)) bs := by
  refine ⟨by rw [List.length_set]; exact h.1, fun n a b e f => ?_⟩
  rw [List.getElem?_set] at e
  by_cases c : w = n
  · subst c
    rw [if_pos rfl] at e
    split at e
    · cases e
      have := (h.2 w _ b hw f).1
      exact ⟨this, fun z => by cases z⟩
    · cases e
  · rw [if_neg c] at e
    exact h.2 n a b e f
theorem same_set {as bs : List RD} {w : Nat} {d : RD} (h : SameP as bs) : SameP (as.set w d) (bs.set w d) := by
  refine ⟨by rw [List.length_set, List.length_set]; exact h.1, fun n a b e f => ?_⟩
  rw [List.getElem?_set] at e f
  by_cases c : w = n
  · subst c
    rw [if_pos rfl] at e f
    split at e
    · cases e
      split at f
      · cases f; exact ⟨rfl, fun _ => rfl⟩
      · cases f
    · cases e
  · rw [if_neg c] at e f
    exact h.2 n a b e f
theorem SameX.fq {K : PySem.W.Frag} {l a : Addr} {H H' : Hp} {ys : List V} {p : Mq.Q2} (hl : H l = some (.lst ys)) (e : SameX l H H') (h : Fq K H a p) : Fq K H' a p := e.seqT hl h
def PcN (ds : List RD) (k : Int) : Prop := ∃ (w : Nat) (i j : Int) (p : Mq.Q2), k = (w : Int) ∧ ds[w]? = some (.pc, i, j, p) ∧ i ≠ j
theorem nd_k_rows_here : (["_law_k", "_law_rows_here"] : List Str).Nodup := by decide +kernel
theorem dbl_ok {p : Mq.Q2} (h : SzP p) : ((Mq.plus p p).1 < 2 ^ 31 ∧ (Mq.plus p p).2 ≤ 6) ∧ Mq.Bd 31 (Mq.plus p p) := by
  have pp := h.1.pos
  have pb := h.1.b
  have h1 := h.2.1
  have h2 := h.2.2
  have e : Mq.plus p p = Mq.red (2 * p.1) p.2 := by
    refine Mq.low_ext (Mq.plus_low pb pb) (Mq.red_low (by omega)) ?_
    rw [Mq.val_plus pb pb, Mq.val_red (by omega), Rat.intCast_mul]
    unfold Mq.val
    grind
  have le := Mq.red_le (t := 2 * p.1) (show p.2 ≠ 0 by omega)
  have ps : Mq.Ps (Mq.red (2 * p.1) p.2) := Mq.red_ps (by omega) (by omega)
  have q1 := ps.pos
  have q2 := ps.b
  rw [e]
  exact ⟨⟨by omega, by omega⟩, B_of (by omega) (by omega), B_of (by omega) (by omega)⟩
abbrev sLaw : Stmt := top 67
theorem scLaw : FnScope ["_law_script", "_law_many", "_law_rows_here", "_law_net_here", "_law_found", "_law_pieces", "_law_at", "_law_k"] ["_law_script"] (defScope sLaw) := ⟨rfl, rfl, rfl, by decide +kernel, rfl, by decide +kernel, by decide +kernel⟩
theorem ok_law {dV : Value} (F : FunD K "law" "law" sLaw dV f fd)
    {CN : Addr} (NTx : NT K mg CN) (ml : mg "len" = none) (mr : mg "range" = none) (b : Bl mg)
    {gCh : Addr} {gdCh : FuncData} (GCh : FnOk P w K mg base CX0 5 gCh gdCh ["self", "k", "size"] (spChange CN K)) (bCh : Binds K gdCh ["self", "k", "size"] []) (mCh : Meth K CN "change" gCh)
    (G1 : FnOk P w K mg base CX0 1 g1 gd1 ["_law_script", "_law_k"] (spDraw K)) (b1 : Binds K gd1 ["_law_script", "_law_k"] []) (k1 : PySem.W.keepIn K (.ref g1) = true) (m1 : mg "_law_draw" = some (.ref g1))
    (G2 : FnOk P w K mg base CX0 3 g2 gd2 ["_law_script", "_law_many"] (spRows65 K)) (b2 : Binds K gd2 ["_law_script", "_law_many"] []) (k2 : PySem.W.keepIn K (.ref g2) = true) (m2 : mg "_law_rows" = some (.ref g2))
    (G3 : FnOk P w K mg base CX0 6 g3 gd3 ["_law_many", "_law_rows_here"] (spNet65 CN K)) (b3 : Binds K gd3 ["_law_many", "_law_rows_here"] []) (k3 : PySem.W.keepIn K (.ref g3) = true) (m3 : mg "_law_net" = some (.ref g3))
    (G4 : FnOk P w K mg base CX0 8 g4 gd4 ["net"] (spTS CN K)) (b4 : Binds K gd4 ["net"] []) (k4 : PySem.W.keepIn K (.ref g4) = true) (m4 : mg "tree_sum" = some (.ref g4))
    (G5 : FnOk P w K mg base CX0 1 g5 gd5 ["_law_found", "_law_due_here"] (spTold K)) (b5 : Binds K gd5 ["_law_found", "_law_due_here"] []) (k5 : PySem.W.keepIn K (.ref g5) = true) (m5 : mg "_law_told" = some (.ref g5))
    (G6 : FnOk P w K mg base CX0 1 g6 gd6 ["_law_cell", "_law_turn", "_law_many"] spMix) (b6 : Binds K gd6 ["_law_cell", "_law_turn", "_law_many"] []) (k6 : PySem.W.keepIn K (.ref g6) = true) (m6 : mg "_law_mix" = some (.ref g6))
    (G7 : FnOk P w K mg base CX0 9 g7 gd7 ["_law_rows_here", "_law_many", "_law_at"] (spDue65 K)) (b7 : Binds K gd7 ["_law_rows_here", "_law_many", "_law_at"] []) (k7 : PySem.W.keepIn K (.ref g7) = true) (m7 : mg "_law_due" = some (.ref g7))
    (G8 : FnOk P w K mg base CX0 2 g8 gd8 ["_law_one", "_law_other"] (spTwo K Mq.plus)) (b8 : Binds K gd8 ["_law_one", "_law_other"] []) (k8 : PySem.W.keepIn K (.ref g8) = true) (m8 : mg "_law_plus" = some (.ref g8)) :
    FnOk P w K mg base CX 10 f fd ["_law_script"] (spLaw K) := by
  refine F.ok scLaw (fun vs H Q E h => ?_) (fun cdv A outer s H vs Q E hr h => ?_)
  · obtain ⟨a, ns, rfl, hS, h63, q⟩ := h
    rfl
  obtain ⟨a, ns, rfl, hS, h63, q⟩ := h
  have hu := hr.units
  have l01 : Mq.Low (0, 1) := ⟨by decide, by decide⟩
  have r1 := hr.mono (show 1 ≤ 9 by omega)
  have r2 := hr.mono (show 2 ≤ 9 by omega)
  have r3 := hr.mono (show 3 ≤ 9 by omega)
  have r5 := hr.mono (show 5 ≤ 9 by omega)
  have r6 := hr.mono (show 6 ≤ 9 by omega)
  have r8 := hr.mono (show 8 ≤ 9 by omega)
  refine ⟨_, (pss_cons (ps_set (i := 1) scLaw.nd rfl (Or.inl rfl) (pe_op op_add pe_int (pe_op op_mod (pe_call G1 r1 rfl m1 k1 b1 .nil pass0 (pa_cons (pv 0) (pa_cons pe_int pa_nil))) pe_int)))
    (pss_cons (ps_set (i := 2) scLaw.nd rfl (Or.inr rfl) (pe_call G2 r3 rfl m2 k2 b2 .nil pass0 (pa_cons (pv 0) (pa_cons (pv 1) pa_nil))))
    (pss_cons (ps_set (i := 3) scLaw.nd rfl (Or.inl rfl) (pe_call G3 r6 rfl m3 k3 b3 .nil pass0 (pa_cons (pv 1) (pa_cons (pv 2) pa_nil))))
    (pss_cons (ps_set (i := 4) scLaw.nd rfl (Or.inl rfl) (pe_call G4 r8 rfl m4 k4 b4 .nil pass0 (pa_cons (pv 3) pa_nil)))
    (pss_cons (ps_setC (i := 5) (nl := 1) (fr := [2]) (Nc := ["_law_k", "_law_rows_here"]) (cl := [("_law_rows_here", s.heap.objs.size + 1)]) scLaw.nd rfl rfl rfl ⟨rfl, rfl, by decide +kernel, by decide +kernel, fun x c h => h, has_of rfl, rfl, fun i n h => match i, h with | 0, h => by cases h; exact ⟨2, rfl, rfl, rfl, rfl, .inl rfl⟩ | k + 1, h => by rw [show 1 + (k + 1) = k + 2 by omega] at h; cases h⟩
        (pi_range1 rfl mr (pa_cons (pe_callB call_len_seq rfl ml PySem.boot_len (pa_cons (pv 2) pa_nil)) pa_nil)) (fun C s3 H3 fp pins => (pg_name (i := 0) nd_k_rows_here rfl (Or.inl rfl))) (fun C s3 H3 fp pins => (pif_one (PW.pt (pw_and (pt_cmpR op_eq (pe_ix (ix_tupK (K := K) rfl) (pe_ix (ix_listK (K := K) rfl) (pv 1) (pv 0) (fun _ _ => rfl)) pe_int (fun _ _ => rfl)) pe_str (nomark _)) (pw_and1 (pt_cmpR op_ne (pe_ix (ix_tupK (K := K) rfl) (pe_ix (ix_listK (K := K) rfl) (pv 1) (pv 0) (fun _ _ => rfl)) pe_int (fun _ _ => rfl)) (pe_ix (ix_tupK (K := K) rfl) (pe_ix (ix_listK (K := K) rfl) (pv 1) (pv 0) (fun _ _ => rfl)) pe_int (fun _ _ => rfl)) (nomark _)))))))
        (fun C s3 H3 fp pins => (pv 0)) rfl)
    (pss_cons (ps_if (pt_cmpR (op_eqD hu) (pv 5) (pe_lst pa_nil) (nomark _)) (pss_one (ps_ret (pe_call G5 r1 rfl m5 k5 b5 .nil pass0 (pa_cons (pv 4) (pa_cons (pe_tup (pa_cons (pe_callTy call_int1 rfl b.int PyProof.Rows.boot_int (pa_cons (pe_cmpR op_eq (pv 1) pe_int (nomark _)) pa_nil)) (pa_cons pe_int pa_nil))) pa_nil))))) pss_nil)
    (pss_cons (ps_set (i := 6) scLaw.nd rfl (Or.inl rfl) (pe_ix ix_list (pv 5) (pe_call G6 r1 rfl m6 k6 b6 .nil pass0 (pa_cons (pe_call G1 r1 rfl m1 k1 b1 .nil pass0 (pa_cons (pv 0) (pa_cons pe_int pa_nil))) (pa_cons pe_int (pa_cons (pe_callB call_len_seq rfl ml PySem.boot_len (pa_cons (pv 5) pa_nil)) pa_nil)))) (fun _ _ => rfl)))
    (pss_cons (ps_if (pt_not (pt_val (pe_call G5 r1 rfl m5 k5 b5 .nil pass0 (pa_cons (pv 4) (pa_cons (pe_call G7 hr rfl m7 k7 b7 .nil pass0 (pa_cons (pv 2) (pa_cons (pv 1) (pa_cons (pv 6) pa_nil)))) pa_nil))))) (pss_one (ps_ret pe_bl)) pss_nil)
    (pss_cons (ps_for PassesOwn.never rfl (pi_range1 rfl mr (pa_cons (pe_callB call_len_seq rfl ml PySem.boot_len (pa_cons (pv 2) pa_nil)) pa_nil)) (pg_name (i := 7) scLaw.nd rfl (Or.inl rfl))
      (pss_one (ps_if (pt_cmpR op_eq (pe_ix ix_tup (pe_ix ix_list (pv 2) (pv 7) (fun _ _ => rfl)) pe_int (fun _ _ => rfl)) pe_str (nomark _)) (pss_one (ps_expr (pe_meth (pv 3) NTx.cl mCh GCh r5 bCh .nil pass0 (pa_cons (pv 7) (pa_cons (pe_tup (pa_cons pe_int (pa_cons pe_int pa_nil))) pa_nil))))) pss_nil)))
    (pss_cons (ps_if (pt_not (pt_val (pe_call G5 r1 rfl m5 k5 b5 .nil pass0 (pa_cons (pe_call G4 r8 rfl m4 k4 b4 .nil pass0 (pa_cons (pv 3) pa_nil)) (pa_cons (pv 4) pa_nil))))) (pss_one (ps_ret pe_bl)) pss_nil)
    (pss_cons (ps_expr (pe_meth (pv 3) NTx.cl mCh GCh r5 bCh .nil pass0 (pa_cons (pv 6) (pa_cons (pe_call G8 r2 rfl m8 k8 b8 .nil pass0 (pa_cons (pe_ix ix_tup (pe_ix ix_list (pv 2) (pv 6) (fun _ _ => rfl)) pe_int (fun _ _ => rfl)) (pa_cons (pe_ix ix_tup (pe_ix ix_list (pv 2) (pv 6) (fun _ _ => rfl)) pe_int (fun _ _ => rfl)) pa_nil))) pa_nil))))
    (pss_cons (ps_asg (pe_op op_catT (pe_slice sl_tup (pe_ix ix_list (pv 2) (pv 6) (fun _ _ => rfl)) po_none (po_some pe_int)) (pe_tup (pa_cons (pe_call G8 r2 rfl m8 k8 b8 .nil pass0 (pa_cons (pe_ix ix_tup (pe_ix ix_list (pv 2) (pv 6) (fun _ _ => rfl)) pe_int (fun _ _ => rfl)) (pa_cons (pe_ix ix_tup (pe_ix ix_list (pv 2) (pv 6) (fun _ _ => rfl)) pe_int (fun _ _ => rfl)) pa_nil))) pa_nil))) (pg_sub (pv 2) (pv 6) set_list))
    (pss_one (ps_ret (pe_call G5 r1 rfl m5 k5 b5 .nil pass0 (pa_cons (pe_call G4 r8 rfl m4 k4 b4 .nil pass0 (pa_cons (pv 3) pa_nil)) (pa_cons (pe_call G7 hr rfl m7 k7 b7 .nil pass0 (pa_cons (pv 2) (pa_cons (pv 1) (pa_cons (pv 6) pa_nil)))) pa_nil))))))))))))))))), ?_⟩
  refine ⟨_, rfl, a, ns, 0, 0, rfl, rfl, hS, h63, fun v H1 s1 => ⟨_, _, rfl, rfl, (show (0 : Int) < 5 by decide), _, _, rfl, rfl, ?_⟩⟩
  have f0 := Int.emod_nonneg v (show (5 : Int) ≠ 0 by decide)
  have f9 := Int.emod_lt_of_pos v (show (0 : Int) < 5 by decide)
  obtain ⟨m, hm⟩ : ∃ m : Nat, 1 + v % 5 = (m : Int) := ⟨(1 + v % 5).toNat, by omega⟩
  show tSeq _ _ _ [some (.ref a), some (.int (1 + v % 5)), none, none, none, none, none, none] H1
  rw [hm]
  have hm1 : 1 ≤ m := by omega
  have hm5 : m ≤ 5 := by omega
  clear f0 f9 hm
  refine ⟨_, rfl, _, rfl, a, ns, m, rfl, s1.seq hS, h63, hm1, fun r us ds H2 s2 nr er hR hK h20 => ?_⟩
  have lus := hR.length
  have ts := row_ts hK h20 hm1 hm5
  refine ⟨_, rfl, _, rfl, (m : Int), r, us, ds, rfl, by omega, by omega, SqL.of er, hR, (fun d hd => (hK d hd).r), by omega, fun n l H3 s3 nl nt => ?_⟩
  have nrl : r ≠ l := ne_of_none er nl
  have s03 := s1.trans (s2.trans s3)
  refine ⟨_, rfl, n, l, m, ds, rfl, nt, ts, fun f0 p0 H4 s4 ff lf bf vf => ?_⟩
  have er4 := (s3.trans s4) _ _ er
  have hR4 := (hR.same s3).same s4
  have nt4 := nt.same s4
  have s04 := s03.trans s4
  clear er hR nl nr nt
  -- pieces
  refine ⟨_, rfl, r, us, rfl, .inl (SqL.of er4), (us.length : Int), rfl, by omega, by omega, fun pc hpc => ?_⟩
  rw [Int.toNat_natCast]
  have sD := same_new hpc (.lst [])
  refine comp_range (n := us.length) (fun i zs H' => Same H4 H' ∧ H' pc = some (.lst zs) ∧ ∃ hs : List Int, zs = hs.map V.int ∧ (∀ h ∈ hs, PcN ds h) ∧ hs.length ≤ i ∧ (∀ (q : Nat) (d : RD), q < i → ds[q]? = some d → d.1 = .pc → d.2.1 ≠ d.2.2.1 → hs ≠ [])) ⟨sD, upd_same, [], rfl, (fun h hh => by cases hh), Nat.le_refl _, fun q d h => by omega⟩ (fun i zs H' h => h.2.1) ?_ ?_
  · rintro i zs H5 hi ⟨s5, e5, hs, rfl, hh, hl, hE⟩ C hC
    obtain ⟨⟨k, u, v, p⟩, hd⟩ : ∃ d, ds[i]? = some d := ⟨_, List.getElem?_eq_getElem (by omega)⟩
    obtain ⟨t, z, et, hT, fz⟩ := (hR4.same s5).at hd
    have at_ : atI us (0 + (i : Int)) = some (.ref t) := by rw [Int.zero_add]; exact atI_nat et
    have no : (k ≠ .pc ∨ u = v) → ∀ (q : Nat) (d : RD), q < i + 1 → ds[q]? = some d → d.1 = .pc → d.2.1 ≠ d.2.2.1 → hs ≠ [] := fun hn q d hq e1 e2 e3 => by
      by_cases c : q = i
      · subst c
        rw [hd] at e1
        cases e1
        rcases hn with z | z
        · exact absurd e2 z
        · exact absurd z e3
      · exact hE q d (by omega) e1 e2 e3
    refine ⟨keep1.1, keep1.2, ?_⟩
    refine ⟨_, rfl, _, rfl, r, us, _, _, rfl, rfl, SqL.of (s5 _ _ er4), at_, t, _, 0, _, rfl, rfl, hT, rfl, rfl, _, rfl, ?_⟩
    by_cases hk : k = .pc
    · refine ifT (by show decide (V.str k.wd = V.str "piece") = true; rw [dw_pc]; exact decide_eq_true hk) ?_
      refine ⟨_, rfl, _, rfl, r, us, _, _, rfl, rfl, SqL.of (s5 _ _ er4), at_, t, _, 1, _, rfl, rfl, hT, rfl, ?_⟩
      refine ⟨_, rfl, _, rfl, r, us, _, _, rfl, rfl, SqL.of (s5 _ _ er4), at_, t, _, 2, _, rfl, rfl, hT, rfl, rfl, _, rfl, ?_⟩
      by_cases huv : u = v
      · refine ifF (by rw [huv]; simp) (hC _ _ ⟨s5, e5, hs, rfl, hh, by omega, no (.inr huv)⟩)
      · refine ifT (by simp [huv]) ⟨_, rfl, e5, small1000 (by rw [List.length_map]; omega), hC _ _ ⟨s5.change hpc, upd_same, hs ++ [0 + (i : Int)], by rw [List.map_append]; rfl, fun h hh' => ?_, by rw [List.length_append]; simp only [List.length_cons, List.length_nil]; omega, fun _ _ _ _ _ _ => by simp⟩⟩
        rcases List.mem_append.mp hh' with z | z
        · exact hh h z
        · have : h = 0 + (i : Int) := by simpa using z
          rw [this, Int.zero_add]
          exact ⟨i, u, v, p, rfl, by rw [hd, hk], huv⟩
    · exact ifF (by show decide (V.str k.wd = V.str "piece") = false; rw [dw_pc]; exact decide_eq_false hk) (hC _ _ ⟨s5, e5, hs, rfl, hh, by omega, no (.inl hk)⟩)
  rintro zs H5 ⟨s5, e5, hs, rfl, hh, hl, hE⟩
  have er5 := s5 _ _ er4
  have hR5 := hR4.same s5
  have nt5 := nt4.same s5
  have ff5 : Fq K H5 f0 p0 := s5.fq ff
  have s05 := s04.trans s5
  clear er4 hR4 nt4 s04 ff
  -- pieces == []
  refine ⟨_, rfl, by show 0 ≤ sizeLine; decide, fun l0 hl0 => ?_⟩
  have sF := same_new hl0 (.lst [])
  refine rd_eqNil (SqL.of (sF _ _ e5)) (SqL.of upd_same) ?_
  generalize upd H5 l0 (.lst []) = H6 at sF ⊢
  refine ⟨_, rfl, ite2 (fun hyes => ?_) (fun hne => ?_)⟩
  · have h0 : hs = [] := by
      cases hs with
      | nil => rfl
      | cons _ _ => exact absurd hyes (by simp)
    have vn := tsum_none hm1 hm5 (ds := ds) fun d hd hk => by
      by_cases c : d.2.1 = d.2.2.1
      · exact c
      · obtain ⟨q', hq'⟩ := List.getElem?_of_mem hd
        exact absurd h0 (hE q' d (by have := (List.getElem?_eq_some_iff.mp hq').1; omega) hq' hk c)
    refine ⟨_, rfl, _, rfl, rfl, .inr ⟨_, rfl, by show 2 ≤ sizeLine; decide, fun td htd => ?_⟩⟩
    have sE := same_new htd (.tup [.int (if decide (V.int (m : Int) = V.int 1) then 1 else 0), .int 1])
    have fE : Fq K (upd H6 td (.tup [.int (if decide (V.int (m : Int) = V.int 1) then 1 else 0), .int 1])) td ((if decide (V.int (m : Int) = V.int 1) then 1 else 0), 1) := Fq.of upd_same
    generalize upd H6 td (.tup [.int (if decide (V.int (m : Int) = V.int 1) then 1 else 0), .int 1]) = H7 at sE fE ⊢
    have ep : p0 = ((if decide (V.int (m : Int) = V.int 1) then 1 else 0), 1) := by
      by_cases c : m = 1
      · have e1 : decide (V.int (m : Int) = V.int 1) = true := by rw [c]; rfl
        rw [e1, if_pos rfl]
        rw [if_pos c] at vn
        exact Mq.low_ext lf ⟨by decide, by decide⟩ (by rw [vf, vn, Mq.val11])
      · have c' : (m : Int) ≠ 1 := by omega
        have e1 : decide (V.int (m : Int) = V.int 1) = false := decide_eq_false fun z => c' (by injection z)
        rw [e1, if_neg (by decide)]
        rw [if_neg c] at vn
        exact Mq.low_ext lf ⟨by decide, by decide⟩ (by rw [vf, vn, Mq.val01])
    exact ⟨f0, td, p0, rfl, (sF.trans sE).fq ff5, by rw [ep]; exact fE, q _⟩
  have hpos : 0 < hs.length := by
    cases hs with
    | nil => exact absurd rfl hne
    | cons _ _ => simp
  -- at
  refine ⟨_, rfl, _, rfl, a, ns, 1, 1, rfl, rfl, (s05.trans sF).seq hS, h63, fun v2 H7 s7 => ?_⟩
  have s57 := sF.trans s7
  refine ⟨_, rfl, pc, _, rfl, .inl (SqL.of (s57 _ _ e5)), v2, 1, _, rfl, by decide, by decide, by rw [List.length_map]; omega, fun y H8 y0 y1 s8 => ?_⟩
  rw [List.length_map] at y1
  have s58 := s57.trans s8
  have yl : y.toNat < hs.length := by omega
  have ay : atI (hs.map V.int) y = some (.int hs[y.toNat]) := by
    have : atI (hs.map V.int) ((y.toNat : Nat) : Int) = some (.int hs[y.toNat]) := atI_nat (by rw [List.getElem?_map, List.getElem?_eq_getElem yl]; rfl)
    rwa [show ((y.toNat : Nat) : Int) = y by omega] at this
  obtain ⟨w, i, j, p, ew, hd, hij⟩ := hh hs[y.toNat] (List.getElem_mem yl)
  rw [ew] at ay
  refine ⟨pc, _, y, _, rfl, rfl, SqL.of (s58 _ _ e5), ay, ?_⟩
  have wl : w < ds.length := (List.getElem?_eq_some_iff.mp hd).1
  have er8 := s58 _ _ er5
  have hR8 := hR5.same s58
  have nt8 := nt5.same s58
  have ff8 : Fq K H8 f0 p0 := s58.fq ff5
  have s08 := s05.trans s58
  clear er5 hR5 nt5 ff5 s05 e5
  show tSeq _ _ _ [some (.ref a), some (.int (m : Int)), some (.ref r), some (.ref n), some (.ref f0), some (.ref pc), some (.int (w : Int)), none] H8
  -- told
  refine ⟨_, rfl, _, rfl, _, rfl, _, rfl, r, us, ds, m, w, i, j, p, rfl, SqL.of er8, hR8, ts, hd, hij, fun d1 q1 H9 s9 g1 lq1 vq1 => ?_⟩
  have e1 : p0 = q1 := Mq.low_ext lf lq1 (by rw [vf, vq1])
  refine ⟨f0, d1, p0, rfl, s9.fq ff8, by rw [e1]; exact g1, _, rfl, iteF ?_⟩
  have er9 := s9 _ _ er8
  have hR9 := hR8.same s9
  have nt9 := nt8.same s9
  have ff9 : Fq K H9 f0 p0 := s9.fq ff8
  clear er8 hR8 nt8 ff8
  -- pushes
  refine ⟨_, rfl, r, us, rfl, .inl (SqL.of er9), (us.length : Int), rfl, by omega, by omega, ?_⟩
  obtain ⟨tl, hl9, _⟩ := id nt9.ls
  refine for_range (fun q' σ H' => ∃ (z7 : Option V) (es : List RD), σ = [some (.ref a), some (.int (m : Int)), some (.ref r), some (.ref n), some (.ref f0), some (.ref pc), some (.int (w : Int)), z7] ∧ H' r = some (.lst us) ∧ Rts K H' us ds ∧ NetAt CN K H' n l (m : Int) es ∧ Fq K H' f0 p0 ∧ SameP es ds ∧ TsOk m es) ⟨none, ds, rfl, er9, hR9, nt9, ff9, same_refl ds, ts⟩ ?_ ?_
  · rintro q' σ HA hq' ⟨z7, es, rfl, erA, hRA, ntA, ffA, sp, tsA⟩
    have hqd : q' < ds.length := by omega
    obtain ⟨⟨k, u, v, p'⟩, hd'⟩ : ∃ d, ds[q']? = some d := ⟨_, List.getElem?_eq_getElem hqd⟩
    obtain ⟨t, z, et, hT, fz⟩ := hRA.at hd'
    have at_ : atI us (0 + (q' : Int)) = some (.ref t) := by rw [Int.zero_add]; exact atI_nat et
    refine ⟨_, rfl, _, rfl, r, us, _, _, rfl, rfl, SqL.of erA, at_, t, _, 0, _, rfl, rfl, hT, rfl, rfl, _, rfl, ?_⟩
    by_cases hk : k = .pu
    · refine ifT (by show decide (V.str k.wd = V.str "push") = true; rw [dw_pu]; exact decide_eq_true hk) ?_
      obtain ⟨⟨k2, u2, v2, p2⟩, he⟩ : ∃ d, es[q']? = some d := ⟨_, List.getElem?_eq_getElem (by rw [sp.1]; exact hqd)⟩
      have k2e : k2 = .pu := by
        have := (sp.2 q' _ _ he hd').1
        exact this.trans hk
      subst k2e
      obtain ⟨dn, hn⟩ := ntA.ob
      refine ⟨_, rfl, n, dn, _, rfl, hn, nflds_no _ _ (by decide +kernel) (by decide +kernel), _, rfl, by show 2 ≤ sizeLine; decide, fun t0 ht0 => ?_⟩
      have sB := same_new ht0 (.tup [.int 0, .int 1])
      have fB : Fq K (upd HA t0 (.tup [.int 0, .int 1])) t0 (0, 1) := Fq.of upd_same
      generalize upd HA t0 (.tup [.int 0, .int 1]) = HB at sB fB ⊢
      obtain ⟨tlB, hlB, _⟩ := id (ntA.same sB).ls
      refine ⟨n, l, t0, (m : Int), (q' : Int), es, .pu, u2, v2, p2, (0, 1), (by rw [Int.zero_add]; rfl), ntA.same sB, by omega, (by rw [Int.toNat_natCast]; exact he), fB, ⟨by decide, by decide⟩, (fun z => by cases z), ⟨show (0 : Nat) < 2 ^ 100 by decide, show (1 : Nat) < 2 ^ 100 by decide⟩, fun HC xC NC => ?_⟩
      rw [Int.toNat_natCast] at NC
      obtain ⟨⟨a0, a1, b0, b1, _, _, _⟩, _⟩ := tsA.r _ (List.mem_of_getElem? he)
      refine ⟨_, _, rfl, xC _ _ (sB _ _ erA) nrl, SameX.rts hlB xC (hRA.same sB), NC, SameX.fq hlB xC (sB.fq ffA), same_push sp he, ts_set tsA ⟨⟨a0, a1, b0, b1, l01, (fun z => by cases z), ⟨show (0 : Nat) < 2 ^ 100 by decide, show (1 : Nat) < 2 ^ 100 by decide⟩⟩, ⟨show (0 : Nat) < 2 ^ 31 by decide, show (1 : Nat) < 2 ^ 31 by decide⟩⟩ (by intro z; cases z) ⟨l01, fun z => by cases z⟩⟩
    · exact ifF (by show decide (V.str k.wd = V.str "push") = false; rw [dw_pu]; exact decide_eq_false hk) ⟨_, es, rfl, erA, hRA, ntA, ffA, sp, tsA⟩
  rintro σ HA ⟨z7, es, rfl, erA, hRA, ntA, ffA, sp, tsA⟩
  dsimp only
  -- again
  refine ⟨_, rfl, n, l, m, es, rfl, ntA, tsA, fun f1 p1 HB sB g1' lf1 bf1 vf1 => ?_⟩
  have e2 : p1 = p0 := Mq.low_ext lf1 lf (by rw [vf1, vf, tsum_same sp])
  refine ⟨_, rfl, f1, f0, p1, rfl, g1', by rw [e2]; exact sB.fq ffA, _, rfl, iteF ?_⟩
  have erB := sB _ _ erA
  have hRB := hRA.same sB
  have ntB := ntA.same sB
  clear erA hRA ntA ffA
  -- change
  obtain ⟨t, z, et, hT, fz⟩ := hRB.at hd
  have at_ : atI us (w : Int) = some (.ref t) := atI_nat et
  obtain ⟨rw_⟩ : Nonempty (RowT m (.pc, i, j, p)) := ⟨hK _ (List.mem_of_getElem? hd)⟩
  have sz : SzP p := rw_.p rfl
  have bp : Mq.Bd 30 p := rw_.b
  obtain ⟨i0, i1, j0, j1, lp, _, _⟩ := rw_.r
  have pp := sz.1.pos
  have pb := sz.1.b
  have lq := Mq.plus_low (p := p) (q := p) pb pb
  have pq : Mq.Ps (Mq.plus p p) := Mq.plus_ps pb (by omega) sz.1
  have bq := Mq.plus_bd bp bp pb pb
  have v2p : Mq.val (Mq.plus p p) = 2 * Mq.val p := by rw [Mq.val_plus pb pb]; grind
  have dbl := dbl_ok sz
  obtain ⟨dn, hn⟩ := ntB.ob
  have AT : atI us (w : Int) = some (.ref t) := at_
  refine ⟨_, rfl, n, dn, _, rfl, hn, nflds_no _ _ (by decide +kernel) (by decide +kernel), _, rfl, _, rfl, _, rfl, r, us, _, _, rfl, rfl, SqL.of erB, AT, t, _, 3, _, rfl, rfl, hT, rfl, _, rfl, _, rfl, r, us, _, _, rfl, rfl, SqL.of erB, AT, t, _, 3, _, rfl, rfl, hT, rfl, ?_⟩
  refine ⟨z, z, p, p, 30, 30, rfl, fz, fz, pb, pb, bp, bp, by omega, fun zq HC sC eC => ?_⟩
  have fq : Fq K HC zq (Mq.plus p p) := Fq.of eC
  obtain ⟨⟨k2, u2, v2, p2⟩, he⟩ : ∃ d, es[w]? = some d := ⟨_, List.getElem?_eq_getElem (by rw [sp.1]; exact wl)⟩
  have de : (k2, u2, v2, p2) = (.pc, i, j, p) := by
    obtain ⟨h1, h2⟩ := sp.2 w _ _ he hd
    exact h2 h1
  cases de
  obtain ⟨tlC, hlC, _⟩ := id (ntB.same sC).ls
  refine ⟨n, l, zq, (m : Int), (w : Int), es, .pc, i, j, p, Mq.plus p p, rfl, ntB.same sC, by omega, (by rw [Int.toNat_natCast]; exact he), fq, lq, (fun _ => pq.pos), bq.mono (by omega), fun HD xD ND => ?_⟩
  rw [Int.toNat_natCast] at ND
  have erD := xD _ _ (sC _ _ erB) nrl
  have hRD := SameX.rts hlC xD (hRB.same sC)
  clear erB hRB ntB hT fz
  -- rows[at] = ..
  obtain ⟨t, z, et, hT, fz⟩ := hRD.at hd
  have AT : atI us (w : Int) = some (.ref t) := atI_nat et
  refine ⟨_, rfl, _, rfl, r, us, _, _, rfl, rfl, SqL.of erD, AT, 3, rfl, t, _, rfl, hT, (fun h => absurd (show HT.sIx 4 4 (some 3) = 4 from h.2) (by decide)), fun p5 hp5 => ?_⟩
  have ec : cutV [.str (Kd.pc).wd, .int i, .int j, .ref z] none (some 3) = [.str Kd.pc.wd, .int i, .int j] := rfl
  rw [ec]
  have sE := same_new hp5 (.tup [.str Kd.pc.wd, .int i, .int j])
  have eE : SqT K (upd HD p5 (.tup [.str Kd.pc.wd, .int i, .int j])) p5 [.str Kd.pc.wd, .int i, .int j] := SqT.of upd_same
  generalize upd HD p5 (.tup [.str Kd.pc.wd, .int i, .int j]) = HE at sE eE ⊢
  have hTE := sE.seqT hT
  have fzE : Fq K HE z p := sE.fq fz
  have erE := sE _ _ erD
  refine ⟨_, rfl, _, rfl, r, us, _, _, rfl, rfl, SqL.of erE, AT, t, _, 3, _, rfl, rfl, hTE, rfl, _, rfl, _, rfl, r, us, _, _, rfl, rfl, SqL.of erE, AT, t, _, 3, _, rfl, rfl, hTE, rfl, ?_⟩
  refine ⟨z, z, p, p, 30, 30, rfl, fzE, fzE, pb, pb, bp, bp, by omega, fun zr HF sG eG => ?_⟩
  have fr : Fq K HF zr (Mq.plus p p) := Fq.of eG
  refine ⟨by show 1 ≤ sizeLine; decide, fun t1 ht1 => ?_⟩
  have sL := same_new ht1 (.tup [.ref zr])
  have eL : SqT K (upd HF t1 (.tup [.ref zr])) t1 [.ref zr] := SqT.of upd_same
  generalize upd HF t1 (.tup [.ref zr]) = HL at sL eL ⊢
  refine ⟨p5, t1, _, _, rfl, rfl, (sG.trans sL).seqT eE, eL, by simp, by show 4 ≤ sizeLine; decide, (fun z => by cases z), fun _ t8 ht8 => ?_⟩
  have sM := same_new ht8 (.tup ([.str Kd.pc.wd, .int i, .int j] ++ [.ref zr]))
  have eM : SqT K (upd HL t8 (.tup ([.str Kd.pc.wd, .int i, .int j] ++ [.ref zr]))) t8 [.str Kd.pc.wd, .int i, .int j, .ref zr] := SqT.of upd_same
  generalize upd HL t8 (.tup ([.str Kd.pc.wd, .int i, .int j] ++ [.ref zr])) = HM at sM eM ⊢
  have sDM := sE.trans (sG.trans (sL.trans sM))
  have erM := sDM _ _ erD
  refine ⟨_, rfl, _, rfl, r, us, _, w, rfl, rfl, erM, ixN_nat (by omega), ?_⟩
  have xr : SameX r HM (upd HM r (.lst (us.set w (.ref t8)))) := fun b o e nb => by rw [upd_ne nb]; exact e
  have RN : Rts K (upd HM r (.lst (us.set w (.ref t8)))) (us.set w (.ref t8)) (ds.set w (.pc, i, j, Mq.plus p p)) := Rts.upd erM (Rts.set eM ((sL.trans sM).fq fr) _ (hRD.same sDM))
  have ntN := NetAt.x erM xr (Ne.symm nrl) (ND.same sDM)
  have erN : upd HM r (.lst (us.set w (.ref t8))) r = some (.lst (us.set w (.ref t8))) := upd_same
  generalize upd HM r (.lst (us.set w (.ref t8))) = HN at xr RN ntN erN ⊢
  have rd2 : RdOk (m : Int) (.pc, i, j, Mq.plus p p) ∧ Mq.Bd 31 (Mq.plus p p) := ⟨⟨i0, i1, j0, j1, lq, (fun _ => pq.pos), bq.mono (by omega)⟩, dbl.2⟩
  have ts1 := ts_set (w := w) (d := (.pc, i, j, Mq.plus p p)) ts rd2 (by intro z; cases z) ⟨lq, fun _ => ⟨pq.pos, dbl.1⟩⟩
  have ts2 := ts_set (w := w) (d := (.pc, i, j, Mq.plus p p)) tsA rd2 (by intro z; cases z) ⟨lq, fun _ => ⟨pq.pos, dbl.1⟩⟩
  have dN : (ds.set w (.pc, i, j, Mq.plus p p))[w]? = some (.pc, i, j, Mq.plus p p) := by rw [List.getElem?_set, if_pos rfl, if_pos wl]
  have spN := same_set (w := w) (d := (.pc, i, j, Mq.plus p p)) sp
  -- last
  refine ⟨_, rfl, n, l, m, _, rfl, ntN, ts2, fun f2 p2 HO sO g2 lf2 bf2 vf2 => ?_⟩
  refine ⟨_, rfl, _, rfl, _, rfl, r, _, _, m, w, i, j, _, rfl, SqL.of (sO _ _ erN), RN.same sO, ts1, dN, hij, fun d3 q3 HP sP g3 lq3 vq3 => ?_⟩
  have e3 : p2 = q3 := Mq.low_ext lf2 lq3 (by rw [vf2, vq3, tsum_same spN])
  exact ⟨f2, d3, p2, rfl, sP.fq g2, by rw [e3]; exact g3, q _⟩
end
end K65

set_option Elab.async false
set_option linter.all false
namespace L2
open PySem PySem.W
/-- the goal that z_head leaves, from the one that k_head leaves -/
theorem walkX_of {q : Program} {loose : List Str} {XP : (Str → Option Value) → Heap → Prop} {K : Params → PySem.W.Frag} {bs : List Addr} {n t : Nat} {r : RowW} {d : DefRec} {kwd : List (Str × Expr)} {run : Value → List Value → Sem Value}
    (e : ∀ P, bs = (K P).map (·.1)) (h : WalkO q loose XP (fun w h => (K w.params).In h) r d kwd run) : WalkX q loose XP (PySem.W.X.obsZ bs) (PySem.W.X.valZ K n t) r d kwd run :=
  fun w s₀ s₁ mg mb G y a o pm cd doc dV kV h1 h2 h3 h4 h5 h6 args vals as' L => h w s₀ s₁ mg mb G (InK.keeps w _ _ (PySem.W.X.z_facts e y).2.1 L.keeps) a o pm cd doc dV kV h1 h2 h3 h4 h5 h6 args vals as'
end L2

set_option Elab.async false
set_option linter.all false
set_option maxRecDepth 100000
set_option maxHeartbeats 4000000
namespace K65
open PySem L2
/-! the program's top -/
theorem all_mk {l : PySem.W.OpenLaw} {w : World} {K : PySem.W.Frag} {h : Heap} {mg : Str → Option Value} {fa : Addr} (X : K.In h) (G : h.Ns mainGlobals mg) (hfa : mg "law" = some (.ref fa))
    {c_Row : Addr}
    {c_Piece : Addr}
    {c_Push : Addr}
    {c_Hold : Addr}
    {c_Net : Addr}
    {f1 : Addr} {od1 an1 : Option Addr} {sl1 : Array (Option Value)} {oc1 kV1 dc1 pm1 cd1 ct1 : Value}
    {f2 : Addr} {od2 an2 : Option Addr} {sl2 : Array (Option Value)} {oc2 kV2 dc2 pm2 cd2 ct2 : Value}
    {f3 : Addr} {od3 an3 : Option Addr} {sl3 : Array (Option Value)} {oc3 kV3 dc3 pm3 cd3 ct3 : Value}
    {f4 : Addr} {od4 an4 : Option Addr} {sl4 : Array (Option Value)} {oc4 kV4 dc4 pm4 cd4 ct4 : Value}
    {T4 : Addr} {oT4 : Value} {dT4 : Option Addr} {nT4 : Nat} {sT4 : Array (Option Value)} {tk4 : Tok}
    {f5 : Addr} {od5 an5 : Option Addr} {sl5 : Array (Option Value)} {oc5 kV5 dc5 pm5 cd5 ct5 : Value}
    {f6 : Addr} {od6 an6 : Option Addr} {sl6 : Array (Option Value)} {oc6 kV6 dc6 pm6 cd6 ct6 : Value}
    {f7 : Addr} {od7 an7 : Option Addr} {sl7 : Array (Option Value)} {oc7 kV7 dc7 pm7 cd7 ct7 : Value}
    {f8 : Addr} {od8 an8 : Option Addr} {sl8 : Array (Option Value)} {oc8 kV8 dc8 pm8 cd8 ct8 : Value}
    {f9 : Addr} {od9 an9 : Option Addr} {sl9 : Array (Option Value)} {oc9 kV9 dc9 pm9 cd9 ct9 : Value}
    {f10 : Addr} {od10 an10 : Option Addr} {sl10 : Array (Option Value)} {oc10 kV10 dc10 pm10 cd10 ct10 : Value}
    {f11 : Addr} {od11 an11 : Option Addr} {sl11 : Array (Option Value)} {oc11 kV11 dc11 pm11 cd11 ct11 : Value}
    {f12 : Addr} {od12 an12 : Option Addr} {sl12 : Array (Option Value)} {oc12 kV12 dc12 pm12 cd12 ct12 : Value}
    {f13 : Addr} {od13 an13 : Option Addr} {sl13 : Array (Option Value)} {oc13 kV13 dc13 pm13 cd13 ct13 : Value}
    {f14 : Addr} {od14 an14 : Option Addr} {sl14 : Array (Option Value)} {oc14 kV14 dc14 pm14 cd14 ct14 : Value}
    {f15 : Addr} {od15 an15 : Option Addr} {sl15 : Array (Option Value)} {oc15 kV15 dc15 pm15 cd15 ct15 : Value}
    {f16 : Addr} {od16 an16 : Option Addr} {sl16 : Array (Option Value)} {oc16 kV16 dc16 pm16 cd16 ct16 : Value}
    {f17 : Addr} {od17 an17 : Option Addr} {sl17 : Array (Option Value)} {oc17 kV17 dc17 pm17 cd17 ct17 : Value}
    {f18 : Addr} {od18 an18 : Option Addr} {sl18 : Array (Option Value)} {oc18 kV18 dc18 pm18 cd18 ct18 : Value}
    {f19 : Addr} {od19 an19 : Option Addr} {sl19 : Array (Option Value)} {oc19 kV19 dc19 pm19 cd19 ct19 : Value}
    {f20 : Addr} {od20 an20 : Option Addr} {sl20 : Array (Option Value)} {oc20 kV20 dc20 pm20 cd20 ct20 : Value}
    {f21 : Addr} {od21 an21 : Option Addr} {sl21 : Array (Option Value)} {oc21 kV21 dc21 pm21 cd21 ct21 : Value}
    {f22 : Addr} {od22 an22 : Option Addr} {sl22 : Array (Option Value)} {oc22 kV22 dc22 pm22 cd22 ct22 : Value}
    {f23 : Addr} {od23 an23 : Option Addr} {sl23 : Array (Option Value)} {oc23 kV23 dc23 pm23 cd23 ct23 : Value}
    {f24 : Addr} {od24 an24 : Option Addr} {sl24 : Array (Option Value)} {oc24 kV24 dc24 pm24 cd24 ct24 : Value}
    {f25 : Addr} {od25 an25 : Option Addr} {sl25 : Array (Option Value)} {oc25 kV25 dc25 pm25 cd25 ct25 : Value}
    {f26 : Addr} {od26 an26 : Option Addr} {sl26 : Array (Option Value)} {oc26 kV26 dc26 pm26 cd26 ct26 : Value}
    {f27 : Addr} {od27 an27 : Option Addr} {sl27 : Array (Option Value)} {oc27 kV27 dc27 pm27 cd27 ct27 : Value}
    {f28 : Addr} {od28 an28 : Option Addr} {sl28 : Array (Option Value)} {oc28 kV28 dc28 pm28 cd28 ct28 : Value}
    {f29 : Addr} {od29 an29 : Option Addr} {sl29 : Array (Option Value)} {oc29 kV29 dc29 pm29 cd29 ct29 : Value}
    {f30 : Addr} {od30 an30 : Option Addr} {sl30 : Array (Option Value)} {oc30 kV30 dc30 pm30 cd30 ct30 : Value}
    {f31 : Addr} {od31 an31 : Option Addr} {sl31 : Array (Option Value)} {oc31 kV31 dc31 pm31 cd31 ct31 : Value}
    {f32 : Addr} {od32 an32 : Option Addr} {sl32 : Array (Option Value)} {oc32 kV32 dc32 pm32 cd32 ct32 : Value}
    {f33 : Addr} {od33 an33 : Option Addr} {sl33 : Array (Option Value)} {oc33 kV33 dc33 pm33 cd33 ct33 : Value}
    {f34 : Addr} {od34 an34 : Option Addr} {sl34 : Array (Option Value)} {oc34 kV34 dc34 pm34 cd34 ct34 : Value}
    {f35 : Addr} {od35 an35 : Option Addr} {sl35 : Array (Option Value)} {oc35 kV35 dc35 pm35 cd35 ct35 : Value}
    {f36 : Addr} {od36 an36 : Option Addr} {sl36 : Array (Option Value)} {oc36 kV36 dc36 pm36 cd36 ct36 : Value}
    {f37 : Addr} {od37 an37 : Option Addr} {sl37 : Array (Option Value)} {oc37 kV37 dc37 pm37 cd37 ct37 : Value}
    {f38 : Addr} {od38 an38 : Option Addr} {sl38 : Array (Option Value)} {oc38 kV38 dc38 pm38 cd38 ct38 : Value}
    {f39 : Addr} {od39 an39 : Option Addr} {sl39 : Array (Option Value)} {oc39 kV39 dc39 pm39 cd39 ct39 : Value}
    {f40 : Addr} {od40 an40 : Option Addr} {sl40 : Array (Option Value)} {oc40 kV40 dc40 pm40 cd40 ct40 : Value}
    {f41 : Addr} {od41 an41 : Option Addr} {sl41 : Array (Option Value)} {oc41 kV41 dc41 pm41 cd41 ct41 : Value}
    {f42 : Addr} {od42 an42 : Option Addr} {sl42 : Array (Option Value)} {oc42 kV42 dc42 pm42 cd42 ct42 : Value}
    {f43 : Addr} {od43 an43 : Option Addr} {sl43 : Array (Option Value)} {oc43 kV43 dc43 pm43 cd43 ct43 : Value}
    {f44 : Addr} {od44 an44 : Option Addr} {sl44 : Array (Option Value)} {oc44 kV44 dc44 pm44 cd44 ct44 : Value}
    {f45 : Addr} {od45 an45 : Option Addr} {sl45 : Array (Option Value)} {oc45 kV45 dc45 pm45 cd45 ct45 : Value}
    {f46 : Addr} {od46 an46 : Option Addr} {sl46 : Array (Option Value)} {oc46 kV46 dc46 pm46 cd46 ct46 : Value}
    {f47 : Addr} {od47 an47 : Option Addr} {sl47 : Array (Option Value)} {oc47 kV47 dc47 pm47 cd47 ct47 : Value}
    {f48 : Addr} {od48 an48 : Option Addr} {sl48 : Array (Option Value)} {oc48 kV48 dc48 pm48 cd48 ct48 : Value}
    {f49 : Addr} {od49 an49 : Option Addr} {sl49 : Array (Option Value)} {oc49 kV49 dc49 pm49 cd49 ct49 : Value}
    {f50 : Addr} {od50 an50 : Option Addr} {sl50 : Array (Option Value)} {oc50 kV50 dc50 pm50 cd50 ct50 : Value}
    {f51 : Addr} {od51 an51 : Option Addr} {sl51 : Array (Option Value)} {oc51 kV51 dc51 pm51 cd51 ct51 : Value}
    {f52 : Addr} {od52 an52 : Option Addr} {sl52 : Array (Option Value)} {oc52 kV52 dc52 pm52 cd52 ct52 : Value}
    {aO : Addr} {dO : Option Addr} {nO : Nat} {sO : Array (Option Value)} {t2 t3 : Tok}
    {aN : Addr} {dN : Option Addr} {nN : Nat} {sN : Array (Option Value)} {t0 t1 : Tok}
    {tM : Tok}
    {tR : Tok}
    (y_Row : PySem.W.nsIn K mainGlobals "Row" = some (some (.ref c_Row)))
    (y_Piece : PySem.W.nsIn K mainGlobals "Piece" = some (some (.ref c_Piece)))
    (y_Push : PySem.W.nsIn K mainGlobals "Push" = some (some (.ref c_Push)))
    (y_Hold : PySem.W.nsIn K mainGlobals "Hold" = some (some (.ref c_Hold)))
    (y_Net : PySem.W.nsIn K mainGlobals "Net" = some (some (.ref c_Net)))
    (a1 : PySem.W.nsIn K mainGlobals "is_whole" = some (some (.ref f1)))
    (l1 : K.lookup f1 = some ⟨oc1, od1, .func (PySem.W.fnOf "is_whole" "is_whole" (defArgs sWhole) (defBody sWhole) (defScope sWhole) .none kV1 dc1 pm1 an1 cd1 ct1), sl1⟩) (c1 : PySem.W.codeIn K cd1 "is_whole" = true) (k1 : PySem.W.keepIn K (.ref f1) = true)
    (a2 : PySem.W.nsIn K mainGlobals "greatest_common" = some (some (.ref f2)))
    (l2 : K.lookup f2 = some ⟨oc2, od2, .func (PySem.W.fnOf "greatest_common" "greatest_common" (defArgs sGc) (defBody sGc) (defScope sGc) .none kV2 dc2 pm2 an2 cd2 ct2), sl2⟩) (c2 : PySem.W.codeIn K cd2 "greatest_common" = true) (k2 : PySem.W.keepIn K (.ref f2) = true)
    (a3 : PySem.W.nsIn K mainGlobals "under" = some (some (.ref f3)))
    (l3 : K.lookup f3 = some ⟨oc3, od3, .func (PySem.W.fnOf "under" "under" (defArgs sUnder) (defBody sUnder) (defScope sUnder) .none kV3 dc3 pm3 an3 cd3 ct3), sl3⟩) (c3 : PySem.W.codeIn K cd3 "under" = true) (k3 : PySem.W.keepIn K (.ref f3) = true)
    (a4 : PySem.W.nsIn K mainGlobals "fraction" = some (some (.ref f4)))
    (l4 : K.lookup f4 = some ⟨oc4, od4, .func (PySem.W.fnOf "fraction" "fraction" (defArgs sFrac) (defBody sFrac) (defScope sFrac) (.ref T4) kV4 dc4 pm4 an4 cd4 ct4), sl4⟩) (c4 : PySem.W.codeIn K cd4 "fraction" = true) (k4 : PySem.W.keepIn K (.ref f4) = true)
    (lt4 : K.lookup T4 = some ⟨oT4, dT4, .seq #[.int 1 tk4] nT4, sT4⟩)
    (a5 : PySem.W.nsIn K mainGlobals "minus" = some (some (.ref f5)))
    (l5 : K.lookup f5 = some ⟨oc5, od5, .func (PySem.W.fnOf "minus" "minus" (defArgs sMinus) (defBody sMinus) (defScope sMinus) .none kV5 dc5 pm5 an5 cd5 ct5), sl5⟩) (c5 : PySem.W.codeIn K cd5 "minus" = true) (k5 : PySem.W.keepIn K (.ref f5) = true)
    (a6 : PySem.W.nsIn K mainGlobals "plus" = some (some (.ref f6)))
    (l6 : K.lookup f6 = some ⟨oc6, od6, .func (PySem.W.fnOf "plus" "plus" (defArgs sPlus) (defBody sPlus) (defScope sPlus) .none kV6 dc6 pm6 an6 cd6 ct6), sl6⟩) (c6 : PySem.W.codeIn K cd6 "plus" = true) (k6 : PySem.W.keepIn K (.ref f6) = true)
    (a7 : PySem.W.nsIn K mainGlobals "over" = some (some (.ref f7)))
    (l7 : K.lookup f7 = some ⟨oc7, od7, .func (PySem.W.fnOf "over" "over" (defArgs sOver) (defBody sOver) (defScope sOver) .none kV7 dc7 pm7 an7 cd7 ct7), sl7⟩) (c7 : PySem.W.codeIn K cd7 "over" = true) (k7 : PySem.W.keepIn K (.ref f7) = true)
    (a8 : PySem.W.nsIn K mainGlobals "is_fraction" = some (some (.ref f8)))
    (l8 : K.lookup f8 = some ⟨oc8, od8, .func (PySem.W.fnOf "is_fraction" "is_fraction" (defArgs sIsF) (defBody sIsF) (defScope sIsF) .none kV8 dc8 pm8 an8 cd8 ct8), sl8⟩) (c8 : PySem.W.codeIn K cd8 "is_fraction" = true) (k8 : PySem.W.keepIn K (.ref f8) = true)
    (a9_0 : PySem.W.findIn K (.ref c_Piece) "__init__" = some (some (.ref f9)))
    (a9_1 : PySem.W.findIn K (.ref c_Push) "__init__" = some (some (.ref f9)))
    (a9_2 : PySem.W.findIn K (.ref c_Hold) "__init__" = some (some (.ref f9)))
    (i9 : PySem.W.isFn K (.ref f9) = true)
    (l9 : K.lookup f9 = some ⟨oc9, od9, .func (PySem.W.fnOf "__init__" "Row.__init__" (defArgs sRInit) (defBody sRInit) (defScope sRInit) .none kV9 dc9 pm9 an9 cd9 ct9), sl9⟩) (c9 : PySem.W.codeIn K cd9 "Row.__init__" = true) (k9 : PySem.W.keepIn K (.ref f9) = true)
    (a10_0 : PySem.W.findIn K (.ref c_Piece) "word" = some (some (.ref f10)))
    (i10 : PySem.W.isFn K (.ref f10) = true)
    (l10 : K.lookup f10 = some ⟨oc10, od10, .func (PySem.W.fnOf "word" "Piece.word" (defArgs sWord_pc) (defBody sWord_pc) (defScope sWord_pc) .none kV10 dc10 pm10 an10 cd10 ct10), sl10⟩) (c10 : PySem.W.codeIn K cd10 "Piece.word" = true) (k10 : PySem.W.keepIn K (.ref f10) = true)
    (a11_0 : PySem.W.findIn K (.ref c_Push) "word" = some (some (.ref f11)))
    (i11 : PySem.W.isFn K (.ref f11) = true)
    (l11 : K.lookup f11 = some ⟨oc11, od11, .func (PySem.W.fnOf "word" "Push.word" (defArgs sWord_pu) (defBody sWord_pu) (defScope sWord_pu) .none kV11 dc11 pm11 an11 cd11 ct11), sl11⟩) (c11 : PySem.W.codeIn K cd11 "Push.word" = true) (k11 : PySem.W.keepIn K (.ref f11) = true)
    (a12_0 : PySem.W.findIn K (.ref c_Hold) "word" = some (some (.ref f12)))
    (i12 : PySem.W.isFn K (.ref f12) = true)
    (l12 : K.lookup f12 = some ⟨oc12, od12, .func (PySem.W.fnOf "word" "Hold.word" (defArgs sWord_ho) (defBody sWord_ho) (defScope sWord_ho) .none kV12 dc12 pm12 an12 cd12 ct12), sl12⟩) (c12 : PySem.W.codeIn K cd12 "Hold.word" = true) (k12 : PySem.W.keepIn K (.ref f12) = true)
    (a13_0 : PySem.W.findIn K (.ref c_Piece) "told" = some (some (.ref f13)))
    (a13_1 : PySem.W.findIn K (.ref c_Push) "told" = some (some (.ref f13)))
    (a13_2 : PySem.W.findIn K (.ref c_Hold) "told" = some (some (.ref f13)))
    (i13 : PySem.W.isFn K (.ref f13) = true)
    (l13 : K.lookup f13 = some ⟨oc13, od13, .func (PySem.W.fnOf "told" "Row.told" (defArgs sRTold) (defBody sRTold) (defScope sRTold) .none kV13 dc13 pm13 an13 cd13 ct13), sl13⟩) (c13 : PySem.W.codeIn K cd13 "Row.told" = true) (k13 : PySem.W.keepIn K (.ref f13) = true)
    (a14 : PySem.W.nsIn K mainGlobals "row_of" = some (some (.ref f14)))
    (l14 : K.lookup f14 = some ⟨oc14, od14, .func (PySem.W.fnOf "row_of" "row_of" (defArgs sRowOf) (defBody sRowOf) (defScope sRowOf) .none kV14 dc14 pm14 an14 cd14 ct14), sl14⟩) (c14 : PySem.W.codeIn K cd14 "row_of" = true) (k14 : PySem.W.keepIn K (.ref f14) = true)
    (a15 : PySem.W.nsIn K mainGlobals "is_piece_size" = some (some (.ref f15)))
    (l15 : K.lookup f15 = some ⟨oc15, od15, .func (PySem.W.fnOf "is_piece_size" "is_piece_size" (defArgs sPS) (defBody sPS) (defScope sPS) .none kV15 dc15 pm15 an15 cd15 ct15), sl15⟩) (c15 : PySem.W.codeIn K cd15 "is_piece_size" = true) (k15 : PySem.W.keepIn K (.ref f15) = true)
    (a16 : PySem.W.nsIn K mainGlobals "is_number_below" = some (some (.ref f16)))
    (l16 : K.lookup f16 = some ⟨oc16, od16, .func (PySem.W.fnOf "is_number_below" "is_number_below" (defArgs sNB) (defBody sNB) (defScope sNB) .none kV16 dc16 pm16 an16 cd16 ct16), sl16⟩) (c16 : PySem.W.codeIn K cd16 "is_number_below" = true) (k16 : PySem.W.keepIn K (.ref f16) = true)
    (a17 : PySem.W.nsIn K mainGlobals "refuse_size" = some (some (.ref f17)))
    (l17 : K.lookup f17 = some ⟨oc17, od17, .func (PySem.W.fnOf "refuse_size" "refuse_size" (defArgs sRS) (defBody sRS) (defScope sRS) .none kV17 dc17 pm17 an17 cd17 ct17), sl17⟩) (c17 : PySem.W.codeIn K cd17 "refuse_size" = true) (k17 : PySem.W.keepIn K (.ref f17) = true)
    (a18 : PySem.W.nsIn K mainGlobals "refuse_points" = some (some (.ref f18)))
    (l18 : K.lookup f18 = some ⟨oc18, od18, .func (PySem.W.fnOf "refuse_points" "refuse_points" (defArgs sRP) (defBody sRP) (defScope sRP) .none kV18 dc18 pm18 an18 cd18 ct18), sl18⟩) (c18 : PySem.W.codeIn K cd18 "refuse_points" = true) (k18 : PySem.W.keepIn K (.ref f18) = true)
    (a19 : PySem.W.nsIn K mainGlobals "refuse_number" = some (some (.ref f19)))
    (l19 : K.lookup f19 = some ⟨oc19, od19, .func (PySem.W.fnOf "refuse_number" "refuse_number" (defArgs sRN) (defBody sRN) (defScope sRN) .none kV19 dc19 pm19 an19 cd19 ct19), sl19⟩) (c19 : PySem.W.codeIn K cd19 "refuse_number" = true) (k19 : PySem.W.keepIn K (.ref f19) = true)
    (a20_0 : PySem.W.findIn K (.ref c_Net) "__init__" = some (some (.ref f20)))
    (i20 : PySem.W.isFn K (.ref f20) = true)
    (l20 : K.lookup f20 = some ⟨oc20, od20, .func (PySem.W.fnOf "__init__" "Net.__init__" (defArgs sNInit) (defBody sNInit) (defScope sNInit) .none kV20 dc20 pm20 an20 cd20 ct20), sl20⟩) (c20 : PySem.W.codeIn K cd20 "Net.__init__" = true) (k20 : PySem.W.keepIn K (.ref f20) = true)
    (a21_0 : PySem.W.findIn K (.ref c_Net) "many" = some (some (.ref f21)))
    (i21 : PySem.W.isFn K (.ref f21) = true)
    (l21 : K.lookup f21 = some ⟨oc21, od21, .func (PySem.W.fnOf "many" "Net.many" (defArgs sMany) (defBody sMany) (defScope sMany) .none kV21 dc21 pm21 an21 cd21 ct21), sl21⟩) (c21 : PySem.W.codeIn K cd21 "Net.many" = true) (k21 : PySem.W.keepIn K (.ref f21) = true)
    (a22_0 : PySem.W.findIn K (.ref c_Net) "add" = some (some (.ref f22)))
    (i22 : PySem.W.isFn K (.ref f22) = true)
    (l22 : K.lookup f22 = some ⟨oc22, od22, .func (PySem.W.fnOf "add" "Net.add" (defArgs sAdd) (defBody sAdd) (defScope sAdd) .none kV22 dc22 pm22 an22 cd22 ct22), sl22⟩) (c22 : PySem.W.codeIn K cd22 "Net.add" = true) (k22 : PySem.W.keepIn K (.ref f22) = true)
    (a23_0 : PySem.W.findIn K (.ref c_Net) "change" = some (some (.ref f23)))
    (i23 : PySem.W.isFn K (.ref f23) = true)
    (l23 : K.lookup f23 = some ⟨oc23, od23, .func (PySem.W.fnOf "change" "Net.change" (defArgs sChange) (defBody sChange) (defScope sChange) .none kV23 dc23 pm23 an23 cd23 ct23), sl23⟩) (c23 : PySem.W.codeIn K cd23 "Net.change" = true) (k23 : PySem.W.keepIn K (.ref f23) = true)
    (a24_0 : PySem.W.findIn K (.ref c_Net) "rows" = some (some (.ref f24)))
    (i24 : PySem.W.isFn K (.ref f24) = true)
    (l24 : K.lookup f24 = some ⟨oc24, od24, .func (PySem.W.fnOf "rows" "Net.rows" (defArgs sRows) (defBody sRows) (defScope sRows) .none kV24 dc24 pm24 an24 cd24 ct24), sl24⟩) (c24 : PySem.W.codeIn K cd24 "Net.rows" = true) (k24 : PySem.W.keepIn K (.ref f24) = true)
    (a25 : PySem.W.nsIn K mainGlobals "raise_at" = some (some (.ref f25)))
    (l25 : K.lookup f25 = some ⟨oc25, od25, .func (PySem.W.fnOf "raise_at" "raise_at" (defArgs sRaise) (defBody sRaise) (defScope sRaise) .none kV25 dc25 pm25 an25 cd25 ct25), sl25⟩) (c25 : PySem.W.codeIn K cd25 "raise_at" = true) (k25 : PySem.W.keepIn K (.ref f25) = true)
    (a26 : PySem.W.nsIn K mainGlobals "enter_stream" = some (some (.ref f26)))
    (l26 : K.lookup f26 = some ⟨oc26, od26, .func (PySem.W.fnOf "enter_stream" "enter_stream" (defArgs sEnter) (defBody sEnter) (defScope sEnter) .none kV26 dc26 pm26 an26 cd26 ct26), sl26⟩) (c26 : PySem.W.codeIn K cd26 "enter_stream" = true) (k26 : PySem.W.keepIn K (.ref f26) = true)
    (a27 : PySem.W.nsIn K mainGlobals "enter_piece" = some (some (.ref f27)))
    (l27 : K.lookup f27 = some ⟨oc27, od27, .func (PySem.W.fnOf "enter_piece" "enter_piece" (defArgs sEnterP) (defBody sEnterP) (defScope sEnterP) .none kV27 dc27 pm27 an27 cd27 ct27), sl27⟩) (c27 : PySem.W.codeIn K cd27 "enter_piece" = true) (k27 : PySem.W.keepIn K (.ref f27) = true)
    (a28 : PySem.W.nsIn K mainGlobals "enter_push" = some (some (.ref f28)))
    (l28 : K.lookup f28 = some ⟨oc28, od28, .func (PySem.W.fnOf "enter_push" "enter_push" (defArgs sEnterU) (defBody sEnterU) (defScope sEnterU) .none kV28 dc28 pm28 an28 cd28 ct28), sl28⟩) (c28 : PySem.W.codeIn K cd28 "enter_push" = true) (k28 : PySem.W.keepIn K (.ref f28) = true)
    (a29 : PySem.W.nsIn K mainGlobals "enter_hold" = some (some (.ref f29)))
    (l29 : K.lookup f29 = some ⟨oc29, od29, .func (PySem.W.fnOf "enter_hold" "enter_hold" (defArgs sEnterH) (defBody sEnterH) (defScope sEnterH) .none kV29 dc29 pm29 an29 cd29 ct29), sl29⟩) (c29 : PySem.W.codeIn K cd29 "enter_hold" = true) (k29 : PySem.W.keepIn K (.ref f29) = true)
    (a30 : PySem.W.nsIn K mainGlobals "equations" = some (some (.ref f30)))
    (l30 : K.lookup f30 = some ⟨oc30, od30, .func (PySem.W.fnOf "equations" "equations" (defArgs sEqs) (defBody sEqs) (defScope sEqs) .none kV30 dc30 pm30 an30 cd30 ct30), sl30⟩) (c30 : PySem.W.codeIn K cd30 "equations" = true) (k30 : PySem.W.keepIn K (.ref f30) = true)
    (a31 : PySem.W.nsIn K mainGlobals "in_wholes" = some (some (.ref f31)))
    (l31 : K.lookup f31 = some ⟨oc31, od31, .func (PySem.W.fnOf "in_wholes" "in_wholes" (defArgs sIW) (defBody sIW) (defScope sIW) .none kV31 dc31 pm31 an31 cd31 ct31), sl31⟩) (c31 : PySem.W.codeIn K cd31 "in_wholes" = true) (k31 : PySem.W.keepIn K (.ref f31) = true)
    (a32 : PySem.W.nsIn K mainGlobals "pivot_place" = some (some (.ref f32)))
    (l32 : K.lookup f32 = some ⟨oc32, od32, .func (PySem.W.fnOf "pivot_place" "pivot_place" (defArgs sPiv) (defBody sPiv) (defScope sPiv) .none kV32 dc32 pm32 an32 cd32 ct32), sl32⟩) (c32 : PySem.W.codeIn K cd32 "pivot_place" = true) (k32 : PySem.W.keepIn K (.ref f32) = true)
    (a33 : PySem.W.nsIn K mainGlobals "cleared" = some (some (.ref f33)))
    (l33 : K.lookup f33 = some ⟨oc33, od33, .func (PySem.W.fnOf "cleared" "cleared" (defArgs sClr) (defBody sClr) (defScope sClr) .none kV33 dc33 pm33 an33 cd33 ct33), sl33⟩) (c33 : PySem.W.codeIn K cd33 "cleared" = true) (k33 : PySem.W.keepIn K (.ref f33) = true)
    (a34 : PySem.W.nsIn K mainGlobals "cleared_rows" = some (some (.ref f34)))
    (l34 : K.lookup f34 = some ⟨oc34, od34, .func (PySem.W.fnOf "cleared_rows" "cleared_rows" (defArgs sClrRows) (defBody sClrRows) (defScope sClrRows) .none kV34 dc34 pm34 an34 cd34 ct34), sl34⟩) (c34 : PySem.W.codeIn K cd34 "cleared_rows" = true) (k34 : PySem.W.keepIn K (.ref f34) = true)
    (a35 : PySem.W.nsIn K mainGlobals "eliminated" = some (some (.ref f35)))
    (l35 : K.lookup f35 = some ⟨oc35, od35, .func (PySem.W.fnOf "eliminated" "eliminated" (defArgs sElim) (defBody sElim) (defScope sElim) .none kV35 dc35 pm35 an35 cd35 ct35), sl35⟩) (c35 : PySem.W.codeIn K cd35 "eliminated" = true) (k35 : PySem.W.keepIn K (.ref f35) = true)
    (a36 : PySem.W.nsIn K mainGlobals "weight" = some (some (.ref f36)))
    (l36 : K.lookup f36 = some ⟨oc36, od36, .func (PySem.W.fnOf "weight" "weight" (defArgs sWeight) (defBody sWeight) (defScope sWeight) .none kV36 dc36 pm36 an36 cd36 ct36), sl36⟩) (c36 : PySem.W.codeIn K cd36 "weight" = true) (k36 : PySem.W.keepIn K (.ref f36) = true)
    (a37 : PySem.W.nsIn K mainGlobals "refuse_holds" = some (some (.ref f37)))
    (l37 : K.lookup f37 = some ⟨oc37, od37, .func (PySem.W.fnOf "refuse_holds" "refuse_holds" (defArgs sRHo) (defBody sRHo) (defScope sRHo) .none kV37 dc37 pm37 an37 cd37 ct37), sl37⟩) (c37 : PySem.W.codeIn K cd37 "refuse_holds" = true) (k37 : PySem.W.keepIn K (.ref f37) = true)
    (a38 : PySem.W.nsIn K mainGlobals "tree_sum" = some (some (.ref f38)))
    (l38 : K.lookup f38 = some ⟨oc38, od38, .func (PySem.W.fnOf "tree_sum" "tree_sum" (defArgs sTS) (defBody sTS) (defScope sTS) .none kV38 dc38 pm38 an38 cd38 ct38), sl38⟩) (c38 : PySem.W.codeIn K cd38 "tree_sum" = true) (k38 : PySem.W.keepIn K (.ref f38) = true)
    (a39 : PySem.W.nsIn K mainGlobals "_law_draw" = some (some (.ref f39)))
    (l39 : K.lookup f39 = some ⟨oc39, od39, .func (PySem.W.fnOf "_law_draw" "_law_draw" (defArgs sDraw) (defBody sDraw) (defScope sDraw) .none kV39 dc39 pm39 an39 cd39 ct39), sl39⟩) (c39 : PySem.W.codeIn K cd39 "_law_draw" = true) (k39 : PySem.W.keepIn K (.ref f39) = true)
    (a40 : PySem.W.nsIn K mainGlobals "_law_mix" = some (some (.ref f40)))
    (l40 : K.lookup f40 = some ⟨oc40, od40, .func (PySem.W.fnOf "_law_mix" "_law_mix" (defArgs sMix) (defBody sMix) (defScope sMix) .none kV40 dc40 pm40 an40 cd40 ct40), sl40⟩) (c40 : PySem.W.codeIn K cd40 "_law_mix" = true) (k40 : PySem.W.keepIn K (.ref f40) = true)
    (a41 : PySem.W.nsIn K mainGlobals "_law_far" = some (some (.ref f41)))
    (l41 : K.lookup f41 = some ⟨oc41, od41, .func (PySem.W.fnOf "_law_far" "_law_far" (defArgs sFar) (defBody sFar) (defScope sFar) .none kV41 dc41 pm41 an41 cd41 ct41), sl41⟩) (c41 : PySem.W.codeIn K cd41 "_law_far" = true) (k41 : PySem.W.keepIn K (.ref f41) = true)
    (a42 : PySem.W.nsIn K mainGlobals "_law_lowest" = some (some (.ref f42)))
    (l42 : K.lookup f42 = some ⟨oc42, od42, .func (PySem.W.fnOf "_law_lowest" "_law_lowest" (defArgs sLowest) (defBody sLowest) (defScope sLowest) .none kV42 dc42 pm42 an42 cd42 ct42), sl42⟩) (c42 : PySem.W.codeIn K cd42 "_law_lowest" = true) (k42 : PySem.W.keepIn K (.ref f42) = true)
    (a43 : PySem.W.nsIn K mainGlobals "_law_plus" = some (some (.ref f43)))
    (l43 : K.lookup f43 = some ⟨oc43, od43, .func (PySem.W.fnOf "_law_plus" "_law_plus" (defArgs sLPlus) (defBody sLPlus) (defScope sLPlus) .none kV43 dc43 pm43 an43 cd43 ct43), sl43⟩) (c43 : PySem.W.codeIn K cd43 "_law_plus" = true) (k43 : PySem.W.keepIn K (.ref f43) = true)
    (a44 : PySem.W.nsIn K mainGlobals "_law_by" = some (some (.ref f44)))
    (l44 : K.lookup f44 = some ⟨oc44, od44, .func (PySem.W.fnOf "_law_by" "_law_by" (defArgs sLBy) (defBody sLBy) (defScope sLBy) .none kV44 dc44 pm44 an44 cd44 ct44), sl44⟩) (c44 : PySem.W.codeIn K cd44 "_law_by" = true) (k44 : PySem.W.keepIn K (.ref f44) = true)
    (a45 : PySem.W.nsIn K mainGlobals "_law_told" = some (some (.ref f45)))
    (l45 : K.lookup f45 = some ⟨oc45, od45, .func (PySem.W.fnOf "_law_told" "_law_told" (defArgs sTold) (defBody sTold) (defScope sTold) .none kV45 dc45 pm45 an45 cd45 ct45), sl45⟩) (c45 : PySem.W.codeIn K cd45 "_law_told" = true) (k45 : PySem.W.keepIn K (.ref f45) = true)
    (a46 : PySem.W.nsIn K mainGlobals "_law_size" = some (some (.ref f46)))
    (l46 : K.lookup f46 = some ⟨oc46, od46, .func (PySem.W.fnOf "_law_size" "_law_size" (defArgs sSize65) (defBody sSize65) (defScope sSize65) .none kV46 dc46 pm46 an46 cd46 ct46), sl46⟩) (c46 : PySem.W.codeIn K cd46 "_law_size" = true) (k46 : PySem.W.keepIn K (.ref f46) = true)
    (a47 : PySem.W.nsIn K mainGlobals "_law_net" = some (some (.ref f47)))
    (l47 : K.lookup f47 = some ⟨oc47, od47, .func (PySem.W.fnOf "_law_net" "_law_net" (defArgs sNet65) (defBody sNet65) (defScope sNet65) .none kV47 dc47 pm47 an47 cd47 ct47), sl47⟩) (c47 : PySem.W.codeIn K cd47 "_law_net" = true) (k47 : PySem.W.keepIn K (.ref f47) = true)
    (a48 : PySem.W.nsIn K mainGlobals "_law_rows" = some (some (.ref f48)))
    (l48 : K.lookup f48 = some ⟨oc48, od48, .func (PySem.W.fnOf "_law_rows" "_law_rows" (defArgs sRows65) (defBody sRows65) (defScope sRows65) .none kV48 dc48 pm48 an48 cd48 ct48), sl48⟩) (c48 : PySem.W.codeIn K cd48 "_law_rows" = true) (k48 : PySem.W.keepIn K (.ref f48) = true)
    (a49 : PySem.W.nsIn K mainGlobals "_law_called" = some (some (.ref f49)))
    (l49 : K.lookup f49 = some ⟨oc49, od49, .func (PySem.W.fnOf "_law_called" "_law_called" (defArgs sCalled) (defBody sCalled) (defScope sCalled) .none kV49 dc49 pm49 an49 cd49 ct49), sl49⟩) (c49 : PySem.W.codeIn K cd49 "_law_called" = true) (k49 : PySem.W.keepIn K (.ref f49) = true)
    (a50 : PySem.W.nsIn K mainGlobals "_law_as_one" = some (some (.ref f50)))
    (l50 : K.lookup f50 = some ⟨oc50, od50, .func (PySem.W.fnOf "_law_as_one" "_law_as_one" (defArgs sOne) (defBody sOne) (defScope sOne) .none kV50 dc50 pm50 an50 cd50 ct50), sl50⟩) (c50 : PySem.W.codeIn K cd50 "_law_as_one" = true) (k50 : PySem.W.keepIn K (.ref f50) = true)
    (a51 : PySem.W.nsIn K mainGlobals "_law_due" = some (some (.ref f51)))
    (l51 : K.lookup f51 = some ⟨oc51, od51, .func (PySem.W.fnOf "_law_due" "_law_due" (defArgs sDue65) (defBody sDue65) (defScope sDue65) .none kV51 dc51 pm51 an51 cd51 ct51), sl51⟩) (c51 : PySem.W.codeIn K cd51 "_law_due" = true) (k51 : PySem.W.keepIn K (.ref f51) = true)
    (a52 : PySem.W.nsIn K mainGlobals "law" = some (some (.ref f52)))
    (l52 : K.lookup f52 = some ⟨oc52, od52, .func (PySem.W.fnOf "law" "law" (defArgs sLaw) (defBody sLaw) (defScope sLaw) .none kV52 dc52 pm52 an52 cd52 ct52), sl52⟩) (c52 : PySem.W.codeIn K cd52 "law" = true) (k52 : PySem.W.keepIn K (.ref f52) = true)
    (v_ONE : PySem.W.nsIn K mainGlobals "ONE" = some (some (.ref aO)))
    (v_NOUGHT : PySem.W.nsIn K mainGlobals "NOUGHT" = some (some (.ref aN)))
    (v_MOST_POINTS : PySem.W.nsIn K mainGlobals "MOST_POINTS" = some (some (.int 20 tM)))
    (v_MOST_ROWS : PySem.W.nsIn K mainGlobals "MOST_ROWS" = some (some (.int 40 tR)))
    (lO : K.lookup aO = some ⟨.type "tuple", dO, .seq #[.int 1 t2, .int 1 t3] nO, sO⟩)
    (lN : K.lookup aN = some ⟨.type "tuple", dN, .seq #[.int 0 t0, .int 1 t1] nN, sN⟩)
    (pg_Piece : PySem.W.plainGet K c_Piece Str.empty = true)
    (hd_Piece : PySem.W.hasDictIn K c_Piece = true)
    (po_Piece : PySem.W.plainOver K c_Piece = true)
    (sa_Piece : PySem.W.findIn K (.ref c_Piece) "__setattr__" = some (some (.builtin "object.__setattr__")))
    (mk_Piece : PySem.W.makesIn K c_Piece = true)
    (kc_Piece : PySem.W.keepIn K (.ref c_Piece) = true)
    (t1_Piece : PySem.W.findIn K (.ref c_Piece) "__class__" = some (some (.builtin "object.__class__")))
    (t4_Piece : PySem.W.mroIn K c_Piece (.type "object") = some true)
    (na_Piece_start : PySem.W.findIn K (.ref c_Piece) "start" = some none)
    (na_Piece_goal : PySem.W.findIn K (.ref c_Piece) "goal" = some none)
    (na_Piece_size : PySem.W.findIn K (.ref c_Piece) "size" = some none)
    (pg_Push : PySem.W.plainGet K c_Push Str.empty = true)
    (hd_Push : PySem.W.hasDictIn K c_Push = true)
    (po_Push : PySem.W.plainOver K c_Push = true)
    (sa_Push : PySem.W.findIn K (.ref c_Push) "__setattr__" = some (some (.builtin "object.__setattr__")))
    (mk_Push : PySem.W.makesIn K c_Push = true)
    (kc_Push : PySem.W.keepIn K (.ref c_Push) = true)
    (t1_Push : PySem.W.findIn K (.ref c_Push) "__class__" = some (some (.builtin "object.__class__")))
    (t4_Push : PySem.W.mroIn K c_Push (.type "object") = some true)
    (na_Push_start : PySem.W.findIn K (.ref c_Push) "start" = some none)
    (na_Push_goal : PySem.W.findIn K (.ref c_Push) "goal" = some none)
    (na_Push_size : PySem.W.findIn K (.ref c_Push) "size" = some none)
    (pg_Hold : PySem.W.plainGet K c_Hold Str.empty = true)
    (hd_Hold : PySem.W.hasDictIn K c_Hold = true)
    (po_Hold : PySem.W.plainOver K c_Hold = true)
    (sa_Hold : PySem.W.findIn K (.ref c_Hold) "__setattr__" = some (some (.builtin "object.__setattr__")))
    (mk_Hold : PySem.W.makesIn K c_Hold = true)
    (kc_Hold : PySem.W.keepIn K (.ref c_Hold) = true)
    (t1_Hold : PySem.W.findIn K (.ref c_Hold) "__class__" = some (some (.builtin "object.__class__")))
    (t4_Hold : PySem.W.mroIn K c_Hold (.type "object") = some true)
    (na_Hold_start : PySem.W.findIn K (.ref c_Hold) "start" = some none)
    (na_Hold_goal : PySem.W.findIn K (.ref c_Hold) "goal" = some none)
    (na_Hold_size : PySem.W.findIn K (.ref c_Hold) "size" = some none)
    (tt2 : PySem.W.specialIn K (.builtin "object.__class__") "__get__" = some (some (.builtin "getset_descriptor.__get__")))
    (tt3 : PySem.W.takesIn K (.builtin "object.__class__") = some true)
    (isR_Piece : PySem.W.kitOne K (.ref c_Piece) (.ref c_Row) = some true)
    (isR_Push : PySem.W.kitOne K (.ref c_Push) (.ref c_Row) = some true)
    (isR_Hold : PySem.W.kitOne K (.ref c_Hold) (.ref c_Row) = some true)
    (isK_Piece_Push : PySem.W.kitOne K (.ref c_Piece) (.ref c_Push) = some false)
    (isK_Piece_Hold : PySem.W.kitOne K (.ref c_Piece) (.ref c_Hold) = some false)
    (isK_Push_Piece : PySem.W.kitOne K (.ref c_Push) (.ref c_Piece) = some false)
    (isK_Push_Hold : PySem.W.kitOne K (.ref c_Push) (.ref c_Hold) = some false)
    (isK_Hold_Piece : PySem.W.kitOne K (.ref c_Hold) (.ref c_Piece) = some false)
    (isK_Hold_Push : PySem.W.kitOne K (.ref c_Hold) (.ref c_Push) = some false)
    (pg_Net : PySem.W.plainGet K c_Net Str.empty = true)
    (hd_Net : PySem.W.hasDictIn K c_Net = true)
    (po_Net : PySem.W.plainOver K c_Net = true)
    (sa_Net : PySem.W.findIn K (.ref c_Net) "__setattr__" = some (some (.builtin "object.__setattr__")))
    (mk_Net : PySem.W.makesIn K c_Net = true)
    (kc_Net : PySem.W.keepIn K (.ref c_Net) = true)
    (t1_Net : PySem.W.findIn K (.ref c_Net) "__class__" = some (some (.builtin "object.__class__")))
    (t4_Net : PySem.W.mroIn K c_Net (.type "object") = some true)
    (na_Net_point_count : PySem.W.findIn K (.ref c_Net) "point_count" = some none)
    (na_Net_kept : PySem.W.findIn K (.ref c_Net) "kept" = some none)
    (z1 : PySem.W.nsIn K mainGlobals "isinstance" = some none)
    (z2 : PySem.W.nsIn K mainGlobals "int" = some none)
    (z3 : PySem.W.nsIn K mainGlobals "bool" = some none)
    (z4 : PySem.W.nsIn K mainGlobals "abs" = some none)
    (z5 : PySem.W.nsIn K mainGlobals "len" = some none)
    (z6 : PySem.W.nsIn K mainGlobals "range" = some none)
    (z7 : PySem.W.nsIn K mainGlobals "str" = some none)
    (z8 : PySem.W.nsIn K mainGlobals "tuple" = some none)
    (z9 : PySem.W.nsIn K mainGlobals "list" = some none)
    (z10 : PySem.W.nsIn K mainGlobals "all" = some none)
    (z11 : PySem.W.nsIn K mainGlobals "zip" = some none)
    (z12 : PySem.W.nsIn K mainGlobals "enumerate" = some none)
    (z13 : PySem.W.nsIn K mainGlobals "min" = some none)
    (z14 : PySem.W.nsIn K mainGlobals "max" = some none) :
    ∃ fd : FuncData, (∀ (s : Shared) (v : Value), BindsTo s fd ⟨[v], []⟩ [("_law_script", v)]) ∧ ∀ base : Heap, K.In base → base.Ns mainGlobals mg → FnOk l.prog w K mg base CX0 10 fa fd ["_law_script"] (spLaw K) := by
  have e := hfa.symm.trans (PySem.W.mg_of X G a52)
  cases e
  have mc_Row := PySem.W.mg_of X G y_Row
  have mc_Piece := PySem.W.mg_of X G y_Piece
  have mc_Push := PySem.W.mg_of X G y_Push
  have mc_Hold := PySem.W.mg_of X G y_Hold
  have mc_Net := PySem.W.mg_of X G y_Net
  have F1 := fund_mk (st := sWhole) l1 c1 k1
  have m1 := PySem.W.mg_of X G a1
  have b1 := F1.binds (ps := ["thing"]) fun _ _ _ _ _ _ us hl => match us, hl with | [_], _ => rfl
  have F2 := fund_mk (st := sGc) l2 c2 k2
  have m2 := PySem.W.mg_of X G a2
  have b2 := F2.binds (ps := ["one", "other"]) fun _ _ _ _ _ _ us hl => match us, hl with | [_, _], _ => rfl
  have F3 := fund_mk (st := sUnder) l3 c3 k3
  have m3 := PySem.W.mg_of X G a3
  have b3 := F3.binds (ps := ["one", "other"]) fun _ _ _ _ _ _ us hl => match us, hl with | [_, _], _ => rfl
  have F4 := fund_mk (st := sFrac) l4 c4 k4
  have m4 := PySem.W.mg_of X G a4
  have b4 : Binds K _ ["top", "bottom"] [] := fun s us XX hl => match us, hl with | [_, _], _ => PySem.W.binds_K (fd := PySem.W.fnOf "fraction" "fraction" (defArgs sFrac) (defBody sFrac) (defScope sFrac) (.ref T4) kV4 dc4 pm4 an4 cd4 ct4) XX rfl lt4 rfl rfl rfl
  have bd4 : Binds K _ ["top", "bottom"] [.int 1 tk4] := fun s us XX hl => match us, (show us.length = 1 by simp at hl; omega) with | [_], _ => PySem.W.binds_K (fd := PySem.W.fnOf "fraction" "fraction" (defArgs sFrac) (defBody sFrac) (defScope sFrac) (.ref T4) kV4 dc4 pm4 an4 cd4 ct4) XX rfl lt4 rfl rfl rfl
  have F5 := fund_mk (st := sMinus) l5 c5 k5
  have m5 := PySem.W.mg_of X G a5
  have b5 := F5.binds (ps := ["one", "other"]) fun _ _ _ _ _ _ us hl => match us, hl with | [_, _], _ => rfl
  have F6 := fund_mk (st := sPlus) l6 c6 k6
  have m6 := PySem.W.mg_of X G a6
  have b6 := F6.binds (ps := ["one", "other"]) fun _ _ _ _ _ _ us hl => match us, hl with | [_, _], _ => rfl
  have F7 := fund_mk (st := sOver) l7 c7 k7
  have m7 := PySem.W.mg_of X G a7
  have b7 := F7.binds (ps := ["one", "other"]) fun _ _ _ _ _ _ us hl => match us, hl with | [_, _], _ => rfl
  have F8 := fund_mk (st := sIsF) l8 c8 k8
  have m8 := PySem.W.mg_of X G a8
  have b8 := F8.binds (ps := ["thing"]) fun _ _ _ _ _ _ us hl => match us, hl with | [_], _ => rfl
  have F9 := fund_mk (st := sRInit) l9 c9 k9
  have b9 := F9.binds (ps := ["self", "start", "goal", "size"]) fun _ _ _ _ _ _ us hl => match us, hl with | [_, _, _, _], _ => rfl
  have F10 := fund_mk (st := sWord_pc) l10 c10 k10
  have b10 := F10.binds (ps := ["self"]) fun _ _ _ _ _ _ us hl => match us, hl with | [_], _ => rfl
  have F11 := fund_mk (st := sWord_pu) l11 c11 k11
  have b11 := F11.binds (ps := ["self"]) fun _ _ _ _ _ _ us hl => match us, hl with | [_], _ => rfl
  have F12 := fund_mk (st := sWord_ho) l12 c12 k12
  have b12 := F12.binds (ps := ["self"]) fun _ _ _ _ _ _ us hl => match us, hl with | [_], _ => rfl
  have F13 := fund_mk (st := sRTold) l13 c13 k13
  have b13 := F13.binds (ps := ["self"]) fun _ _ _ _ _ _ us hl => match us, hl with | [_], _ => rfl
  have F14 := fund_mk (st := sRowOf) l14 c14 k14
  have m14 := PySem.W.mg_of X G a14
  have b14 := F14.binds (ps := ["told"]) fun _ _ _ _ _ _ us hl => match us, hl with | [_], _ => rfl
  have F15 := fund_mk (st := sPS) l15 c15 k15
  have m15 := PySem.W.mg_of X G a15
  have b15 := F15.binds (ps := ["thing"]) fun _ _ _ _ _ _ us hl => match us, hl with | [_], _ => rfl
  have F16 := fund_mk (st := sNB) l16 c16 k16
  have m16 := PySem.W.mg_of X G a16
  have b16 := F16.binds (ps := ["thing", "bound"]) fun _ _ _ _ _ _ us hl => match us, hl with | [_, _], _ => rfl
  have F17 := fund_mk (st := sRS) l17 c17 k17
  have m17 := PySem.W.mg_of X G a17
  have b17 := F17.binds (ps := ["word", "size"]) fun _ _ _ _ _ _ us hl => match us, hl with | [_, _], _ => rfl
  have F18 := fund_mk (st := sRP) l18 c18 k18
  have m18 := PySem.W.mg_of X G a18
  have b18 := F18.binds (ps := ["some", "many"]) fun _ _ _ _ _ _ us hl => match us, hl with | [_, _], _ => rfl
  have F19 := fund_mk (st := sRN) l19 c19 k19
  have m19 := PySem.W.mg_of X G a19
  have b19 := F19.binds (ps := ["k", "count"]) fun _ _ _ _ _ _ us hl => match us, hl with | [_, _], _ => rfl
  have F20 := fund_mk (st := sNInit) l20 c20 k20
  have b20 := F20.binds (ps := ["self", "many"]) fun _ _ _ _ _ _ us hl => match us, hl with | [_, _], _ => rfl
  have F21 := fund_mk (st := sMany) l21 c21 k21
  have b21 := F21.binds (ps := ["self"]) fun _ _ _ _ _ _ us hl => match us, hl with | [_], _ => rfl
  have F22 := fund_mk (st := sAdd) l22 c22 k22
  have b22 := F22.binds (ps := ["self", "row"]) fun _ _ _ _ _ _ us hl => match us, hl with | [_, _], _ => rfl
  have F23 := fund_mk (st := sChange) l23 c23 k23
  have b23 := F23.binds (ps := ["self", "k", "size"]) fun _ _ _ _ _ _ us hl => match us, hl with | [_, _, _], _ => rfl
  have F24 := fund_mk (st := sRows) l24 c24 k24
  have b24 := F24.binds (ps := ["self"]) fun _ _ _ _ _ _ us hl => match us, hl with | [_], _ => rfl
  have F25 := fund_mk (st := sRaise) l25 c25 k25
  have m25 := PySem.W.mg_of X G a25
  have b25 := F25.binds (ps := ["line", "column", "amount"]) fun _ _ _ _ _ _ us hl => match us, hl with | [_, _, _], _ => rfl
  have F26 := fund_mk (st := sEnter) l26 c26 k26
  have m26 := PySem.W.mg_of X G a26
  have b26 := F26.binds (ps := ["matrix", "row", "column", "amount"]) fun _ _ _ _ _ _ us hl => match us, hl with | [_, _, _, _], _ => rfl
  have F27 := fund_mk (st := sEnterP) l27 c27 k27
  have m27 := PySem.W.mg_of X G a27
  have b27 := F27.binds (ps := ["matrix", "row"]) fun _ _ _ _ _ _ us hl => match us, hl with | [_, _], _ => rfl
  have F28 := fund_mk (st := sEnterU) l28 c28 k28
  have m28 := PySem.W.mg_of X G a28
  have b28 := F28.binds (ps := ["right", "row"]) fun _ _ _ _ _ _ us hl => match us, hl with | [_, _], _ => rfl
  have F29 := fund_mk (st := sEnterH) l29 c29 k29
  have m29 := PySem.W.mg_of X G a29
  have b29 := F29.binds (ps := ["matrix", "right", "row", "column"]) fun _ _ _ _ _ _ us hl => match us, hl with | [_, _, _, _], _ => rfl
  have F30 := fund_mk (st := sEqs) l30 c30 k30
  have m30 := PySem.W.mg_of X G a30
  have b30 := F30.binds (ps := ["net"]) fun _ _ _ _ _ _ us hl => match us, hl with | [_], _ => rfl
  have F31 := fund_mk (st := sIW) l31 c31 k31
  have m31 := PySem.W.mg_of X G a31
  have b31 := F31.binds (ps := ["some"]) fun _ _ _ _ _ _ us hl => match us, hl with | [_], _ => rfl
  have F32 := fund_mk (st := sPiv) l32 c32 k32
  have m32 := PySem.W.mg_of X G a32
  have b32 := F32.binds (ps := ["rows", "rank", "column"]) fun _ _ _ _ _ _ us hl => match us, hl with | [_, _, _], _ => rfl
  have F33 := fund_mk (st := sClr) l33 c33 k33
  have m33 := PySem.W.mg_of X G a33
  have b33 := F33.binds (ps := ["row", "upper", "column", "divisor"]) fun _ _ _ _ _ _ us hl => match us, hl with | [_, _, _, _], _ => rfl
  have F34 := fund_mk (st := sClrRows) l34 c34 k34
  have m34 := PySem.W.mg_of X G a34
  have b34 := F34.binds (ps := ["rows", "rank", "column", "divisor"]) fun _ _ _ _ _ _ us hl => match us, hl with | [_, _, _, _], _ => rfl
  have F35 := fund_mk (st := sElim) l35 c35 k35
  have m35 := PySem.W.mg_of X G a35
  have b35 := F35.binds (ps := ["rows", "width"]) fun _ _ _ _ _ _ us hl => match us, hl with | [_, _], _ => rfl
  have F36 := fund_mk (st := sWeight) l36 c36 k36
  have m36 := PySem.W.mg_of X G a36
  have b36 := F36.binds (ps := ["matrix"]) fun _ _ _ _ _ _ us hl => match us, hl with | [_], _ => rfl
  have F37 := fund_mk (st := sRHo) l37 c37 k37
  have m37 := PySem.W.mg_of X G a37
  have b37 := F37.binds (ps := ["net"]) fun _ _ _ _ _ _ us hl => match us, hl with | [_], _ => rfl
  have F38 := fund_mk (st := sTS) l38 c38 k38
  have m38 := PySem.W.mg_of X G a38
  have b38 := F38.binds (ps := ["net"]) fun _ _ _ _ _ _ us hl => match us, hl with | [_], _ => rfl
  have F39 := fund_mk (st := sDraw) l39 c39 k39
  have m39 := PySem.W.mg_of X G a39
  have b39 := F39.binds (ps := ["_law_script", "_law_k"]) fun _ _ _ _ _ _ us hl => match us, hl with | [_, _], _ => rfl
  have F40 := fund_mk (st := sMix) l40 c40 k40
  have m40 := PySem.W.mg_of X G a40
  have b40 := F40.binds (ps := ["_law_cell", "_law_turn", "_law_many"]) fun _ _ _ _ _ _ us hl => match us, hl with | [_, _, _], _ => rfl
  have F41 := fund_mk (st := sFar) l41 c41 k41
  have m41 := PySem.W.mg_of X G a41
  have b41 := F41.binds (ps := ["_law_cell", "_law_turn"]) fun _ _ _ _ _ _ us hl => match us, hl with | [_, _], _ => rfl
  have F42 := fund_mk (st := sLowest) l42 c42 k42
  have m42 := PySem.W.mg_of X G a42
  have b42 := F42.binds (ps := ["_law_top", "_law_bottom"]) fun _ _ _ _ _ _ us hl => match us, hl with | [_, _], _ => rfl
  have F43 := fund_mk (st := sLPlus) l43 c43 k43
  have m43 := PySem.W.mg_of X G a43
  have b43 := F43.binds (ps := ["_law_one", "_law_other"]) fun _ _ _ _ _ _ us hl => match us, hl with | [_, _], _ => rfl
  have F44 := fund_mk (st := sLBy) l44 c44 k44
  have m44 := PySem.W.mg_of X G a44
  have b44 := F44.binds (ps := ["_law_one", "_law_other"]) fun _ _ _ _ _ _ us hl => match us, hl with | [_, _], _ => rfl
  have F45 := fund_mk (st := sTold) l45 c45 k45
  have m45 := PySem.W.mg_of X G a45
  have b45 := F45.binds (ps := ["_law_found", "_law_due_here"]) fun _ _ _ _ _ _ us hl => match us, hl with | [_, _], _ => rfl
  have F46 := fund_mk (st := sSize65) l46 c46 k46
  have m46 := PySem.W.mg_of X G a46
  have b46 := F46.binds (ps := ["_law_cell"]) fun _ _ _ _ _ _ us hl => match us, hl with | [_], _ => rfl
  have F47 := fund_mk (st := sNet65) l47 c47 k47
  have m47 := PySem.W.mg_of X G a47
  have b47 := F47.binds (ps := ["_law_many", "_law_rows_here"]) fun _ _ _ _ _ _ us hl => match us, hl with | [_, _], _ => rfl
  have F48 := fund_mk (st := sRows65) l48 c48 k48
  have m48 := PySem.W.mg_of X G a48
  have b48 := F48.binds (ps := ["_law_script", "_law_many"]) fun _ _ _ _ _ _ us hl => match us, hl with | [_, _], _ => rfl
  have F49 := fund_mk (st := sCalled) l49 c49 k49
  have m49 := PySem.W.mg_of X G a49
  have b49 := F49.binds (ps := ["_law_point", "_law_low", "_law_high"]) fun _ _ _ _ _ _ us hl => match us, hl with | [_, _, _], _ => rfl
  have F50 := fund_mk (st := sOne) l50 c50 k50
  have m50 := PySem.W.mg_of X G a50
  have b50 := F50.binds (ps := ["_law_rows_here", "_law_ends"]) fun _ _ _ _ _ _ us hl => match us, hl with | [_, _], _ => rfl
  have F51 := fund_mk (st := sDue65) l51 c51 k51
  have m51 := PySem.W.mg_of X G a51
  have b51 := F51.binds (ps := ["_law_rows_here", "_law_many", "_law_at"]) fun _ _ _ _ _ _ us hl => match us, hl with | [_, _, _], _ => rfl
  have F52 := fund_mk (st := sLaw) l52 c52 k52
  have m52 := PySem.W.mg_of X G a52
  have b52 := F52.binds (ps := ["_law_script"]) fun _ _ _ _ _ _ us hl => match us, hl with | [_], _ => rfl
  have mv_ONE := PySem.W.mg_of X G v_ONE
  have mv_NOUGHT := PySem.W.mg_of X G v_NOUGHT
  have mv_MOST_POINTS := PySem.W.mg_of X G v_MOST_POINTS
  have mv_MOST_ROWS := PySem.W.mg_of X G v_MOST_ROWS
  have n_isinstance := PySem.W.mg_none_of X G z1
  have n_int := PySem.W.mg_none_of X G z2
  have n_bool := PySem.W.mg_none_of X G z3
  have n_abs := PySem.W.mg_none_of X G z4
  have n_len := PySem.W.mg_none_of X G z5
  have n_range := PySem.W.mg_none_of X G z6
  have n_str := PySem.W.mg_none_of X G z7
  have n_tuple := PySem.W.mg_none_of X G z8
  have n_list := PySem.W.mg_none_of X G z9
  have n_all := PySem.W.mg_none_of X G z10
  have n_zip := PySem.W.mg_none_of X G z11
  have n_enumerate := PySem.W.mg_none_of X G z12
  have n_min := PySem.W.mg_none_of X G z13
  have n_max := PySem.W.mg_none_of X G z14
  refine ⟨PySem.W.fnOf "law" "law" (defArgs sLaw) (defBody sLaw) (defScope sLaw) .none kV52 dc52 pm52 an52 cd52 ct52, fun s v => .of_eq rfl, fun base _ _ => ?_⟩
  have bl : Bl mg := ⟨n_isinstance, n_int, n_bool, n_abs⟩
  have T : RT K mg c_Row (kd3 c_Piece c_Push c_Hold) := ⟨all3 ⟨pg_Piece, hd_Piece, po_Piece, sa_Piece⟩ ⟨pg_Push, hd_Push, po_Push, sa_Push⟩ ⟨pg_Hold, hd_Hold, po_Hold, sa_Hold⟩, all3 na_Piece_start na_Push_start na_Hold_start, all3 na_Piece_goal na_Push_goal na_Hold_goal, all3 na_Piece_size na_Push_size na_Hold_size, all3 t1_Piece t1_Push t1_Hold, tt2, tt3, all3 t4_Piece t4_Push t4_Hold, all3 isR_Piece isR_Push isR_Hold, all3 (all3 (kit_self _ _) isK_Piece_Push isK_Piece_Hold) (all3 isK_Push_Piece (kit_self _ _) isK_Push_Hold) (all3 isK_Hold_Piece isK_Hold_Push (kit_self _ _)), mc_Row, all3 mc_Piece mc_Push mc_Hold⟩
  have fN : ∀ H, Fq K H aN (0, 1) := Fq.mod lN
  have fO : ∀ H, Fq K H aO (1, 1) := Fq.mod lO
  have NTx : NT K mg c_Net := ⟨⟨pg_Net, hd_Net, po_Net, sa_Net⟩, na_Net_point_count, na_Net_kept, t1_Net, tt2, tt3, t4_Net, mc_Net⟩
  have R1 := ok_whole (P := l.prog) (w := w) (K := K) (mg := mg) (base := base) (CX := CX0) F1 bl
  have R2 := ok_gc (P := l.prog) (w := w) (K := K) (mg := mg) (base := base) (CX := CX0) F2 bl
  have R3 := ok_under (P := l.prog) (w := w) (K := K) (mg := mg) (base := base) (CX := CX0) F3 
  have R4 := ok_frac (P := l.prog) (w := w) (K := K) (mg := mg) (base := base) (CX := CX0) F4  R1 b1 k1 m1 R2 b2 k2 m2
  have R5 := ok_minus (P := l.prog) (w := w) (K := K) (mg := mg) (base := base) (CX := CX0) F5  R4 b4 k4 m4
  have R6 := ok_plus (P := l.prog) (w := w) (K := K) (mg := mg) (base := base) (CX := CX0) F6  R4 b4 k4 m4
  have R7 := ok_over (P := l.prog) (w := w) (K := K) (mg := mg) (base := base) (CX := CX0) F7  R4 b4 k4 m4
  have R8 := ok_isf (P := l.prog) (w := w) (K := K) (mg := mg) (base := base) (CX := CX0) F8 bl n_len n_tuple R1 b1 k1 m1 R2 b2 k2 m2
  have R9 := ok_rinit (P := l.prog) (w := w) (K := K) (mg := mg) (base := base) (CX := CX0) F9 T
  have R10 := ok_word_pc (P := l.prog) (w := w) (K := K) (mg := mg) (base := base) (CX := CX0) F10 
  have R11 := ok_word_pu (P := l.prog) (w := w) (K := K) (mg := mg) (base := base) (CX := CX0) F11 
  have R12 := ok_word_ho (P := l.prog) (w := w) (K := K) (mg := mg) (base := base) (CX := CX0) F12 
  have GW : ∀ k, FnOk l.prog w K mg base CX0 1 (kd3 f10 f11 f12 k) (kd3 _ _ _ k) ["self"] (spWord k) := all3 (R10) (R11) (R12)
  have bW : ∀ k, Binds K (kd3 _ _ _ k) ["self"] [] := all3 (b10) (b11) (b12)
  have mW : ∀ k, Meth K (kd3 c_Piece c_Push c_Hold k) "word" (kd3 f10 f11 f12 k) := all3 (⟨a10_0, i10, k10⟩) (⟨a11_0, i11, k11⟩) (⟨a12_0, i12, k12⟩)
  have R13 := ok_rtold (P := l.prog) (w := w) (K := K) (mg := mg) (base := base) (CX := CX0) F13 T GW bW mW
  have mT : ∀ k, Meth K (kd3 c_Piece c_Push c_Hold k) "told" f13 := all3 (⟨a13_0, i13, k13⟩) (⟨a13_1, i13, k13⟩) (⟨a13_2, i13, k13⟩)
  have MK : ∀ k, Mk K (kd3 c_Piece c_Push c_Hold k) f9 := all3 (⟨mk_Piece, a9_0, i9, kc_Piece⟩) (⟨mk_Push, a9_1, i9, kc_Push⟩) (⟨mk_Hold, a9_2, i9, kc_Hold⟩)
  have R14 := ok_rowof (P := l.prog) (w := w) (K := K) (mg := mg) (base := base) (CX := CX0) F14 T bl n_str R9 b9 MK
  have R15 := ok_ps (P := l.prog) (w := w) (K := K) (mg := mg) (base := base) (CX := CX0) F15 fN mv_NOUGHT (isf_good R8) b8 k8 m8 R3 b3 k3 m3
  have R16 := ok_nb (P := l.prog) (w := w) (K := K) (mg := mg) (base := base) (CX := CX0) F16  R1 b1 k1 m1
  have R17 := ok_rs (P := l.prog) (w := w) (K := K) (mg := mg) (base := base) (CX := CX0) F17 (isf_good R8) b8 k8 m8 R15 b15 k15 m15
  have R18 := ok_rp (P := l.prog) (w := w) (K := K) (mg := mg) (base := base) (CX := CX0) F18 n_all R16 b16 k16 m16
  have R19 := ok_rn (P := l.prog) (w := w) (K := K) (mg := mg) (base := base) (CX := CX0) F19  R16 b16 k16 m16
  have R20 := ok_ninit (P := l.prog) (w := w) (K := K) (mg := mg) (base := base) (CX := CX0) F20 NTx mv_MOST_POINTS R1 b1 k1 m1
  have R21 := ok_many (P := l.prog) (w := w) (K := K) (mg := mg) (base := base) (CX := CX0) F21 NTx
  have R22 := ok_add (P := l.prog) (w := w) (K := K) (mg := mg) (base := base) (CX := CX0) F22 NTx mv_MOST_ROWS n_len T R13 b13 mT R18 b18 k18 m18 R17 b17 k17 m17
  have R23 := ok_change (P := l.prog) (w := w) (K := K) (mg := mg) (base := base) (CX := CX0) F23 NTx n_len R19 b19 k19 m19 R17 b17 k17 m17
  have R24 := ok_rows (P := l.prog) (w := w) (K := K) (mg := mg) (base := base) (CX := CX0) F24 NTx R14 b14 k14 m14
  have MN : Mk K c_Net f20 := ⟨mk_Net, a20_0, i20, kc_Net⟩
  have R25 := ok_raise (P := l.prog) (w := w) (K := K) (mg := mg) (base := base) (CX := CX0) F25  R6 b6 k6 m6
  have R26 := ok_enter (P := l.prog) (w := w) (K := K) (mg := mg) (base := base) (CX := CX0) F26 T fN mv_NOUGHT R25 b25 k25 m25 R5 b5 k5 m5
  have R27 := ok_enterp (P := l.prog) (w := w) (K := K) (mg := mg) (base := base) (CX := CX0) F27 T fN mv_NOUGHT fO mv_ONE R7 b7 k7 m7 R26 b26 k26 m26 R5 b5 k5 m5
  have R28 := ok_enteru (P := l.prog) (w := w) (K := K) (mg := mg) (base := base) (CX := CX0) F28 T fN mv_NOUGHT R25 b25 k25 m25 R5 b5 k5 m5
  have R29 := ok_enterh (P := l.prog) (w := w) (K := K) (mg := mg) (base := base) (CX := CX0) F29 T fN mv_NOUGHT fO mv_ONE R26 b26 k26 m26 R25 b25 k25 m25 R5 b5 k5 m5
  have R30 := ok_eqs (P := l.prog) (w := w) (K := K) (mg := mg) (base := base) (CX := CX0) F30 NTx T n_len n_range fN mv_NOUGHT GW bW mW R24 b24 ⟨a24_0, i24, k24⟩ R21 b21 ⟨a21_0, i21, k21⟩ R27 b27 k27 m27 R28 b28 k28 m28 R29 b29 k29 m29
  have R31 := ok_iw (P := l.prog) (w := w) (K := K) (mg := mg) (base := base) (CX := CX0) F31  R2 b2 k2 m2
  have R32 := ok_piv (P := l.prog) (w := w) (K := K) (mg := mg) (base := base) (CX := CX0) F32 n_len n_range
  have R33 := ok_clr (P := l.prog) (w := w) (K := K) (mg := mg) (base := base) (CX := CX0) F33 n_zip
  have R34 := ok_clrrows (P := l.prog) (w := w) (K := K) (mg := mg) (base := base) (CX := CX0) F34 n_enumerate R33 b33 k33 m33
  have R35 := ok_elim (P := l.prog) (w := w) (K := K) (mg := mg) (base := base) (CX := CX0) F35 n_range n_list R32 b32 k32 m32 R34 b34 k34 m34
  have R36 := ok_weight (P := l.prog) (w := w) (K := K) (mg := mg) (base := base) (CX := CX0) F36 fN mv_NOUGHT n_len R31 b31 k31 m31 R35 b35 k35 m35 R4 b4 k4 m4
  have R37 := ok_rho (P := l.prog) (w := w) (K := K) (mg := mg) (base := base) (CX := CX0) F37 n_enumerate NTx T GW bW mW R24 b24 ⟨a24_0, i24, k24⟩
  have R38 := ok_ts (P := l.prog) (w := w) (K := K) (mg := mg) (base := base) (CX := CX0) F38  R37 b37 k37 m37 R36 b36 k36 m36 R30 b30 k30 m30
  have R39 := ok_draw (P := l.prog) (w := w) (K := K) (mg := mg) (base := base) (CX := CX0) F39 
  have R40 := ok_mix (P := l.prog) (w := w) (K := K) (mg := mg) (base := base) (CX := CX0) F40 n_range
  have R41 := ok_far (P := l.prog) (w := w) (K := K) (mg := mg) (base := base) (CX := CX0) F41 n_range
  have R42 := ok_lowest (P := l.prog) (w := w) (K := K) (mg := mg) (base := base) (CX := CX0) F42 bl
  have R43 := ok_lplus (P := l.prog) (w := w) (K := K) (mg := mg) (base := base) (CX := CX0) F43  R42 b42 k42 m42
  have R44 := ok_lby (P := l.prog) (w := w) (K := K) (mg := mg) (base := base) (CX := CX0) F44  R42 b42 k42 m42
  have R45 := ok_told (P := l.prog) (w := w) (K := K) (mg := mg) (base := base) (CX := CX0) F45 bl n_len n_tuple
  have R46 := ok_size65 (P := l.prog) (w := w) (K := K) (mg := mg) (base := base) (CX := CX0) F46  R40 b40 k40 m40 R41 b41 k41 m41 R42 b42 k42 m42
  have R47 := ok_net65 (P := l.prog) (w := w) (K := K) (mg := mg) (base := base) (CX := CX0) F47 NTx R22 b22 ⟨a22_0, i22, k22⟩ R20 b20 MN R14 b14 k14 m14
  have R48 := ok_rows65 (P := l.prog) (w := w) (K := K) (mg := mg) (base := base) (CX := CX0) F48 bl R40 b40 k40 m40 R46 b46 k46 m46 R42 b42 k42 m42
  have R49 := ok_called (P := l.prog) (w := w) (K := K) (mg := mg) (base := base) (CX := CX0) F49 
  have R50 := ok_one (P := l.prog) (w := w) (K := K) (mg := mg) (base := base) (CX := CX0) F50 n_min n_max R49 b49 k49 m49
  have R51 := ok_due65 (P := l.prog) (w := w) (K := K) (mg := mg) (base := base) (CX := CX0) F51  R38 b38 k38 m38 R47 b47 k47 m47 R50 b50 k50 m50 R43 b43 k43 m43 R44 b44 k44 m44
  exact ok_law (P := l.prog) (w := w) (K := K) (mg := mg) (base := base) (CX := CX0) F52 NTx n_len n_range bl R23 b23 ⟨a23_0, i23, k23⟩ R39 b39 k39 m39 R48 b48 k48 m48 R47 b47 k47 m47 R38 b38 k38 m38 R45 b45 k45 m45 R40 b40 k40 m40 R51 b51 k51 m51 R43 b43 k43 m43
theorem walk {l : PySem.W.OpenLaw} {q : Program} {loose : List Str} {XP : (Str → Option Value) → Heap → Prop} {YP : World → Heap → Prop} {d : DefRec} {K : Params → PySem.W.Frag} (hn : l.most = some 63) (hdf : d.params.defaults = [])
    (hY : ∀ (w : World) (h : Heap), YP w h → (K w.params).In h)
    (F : ∀ (w : World) (mg : Str → Option Value) (fa : Addr) (h : Heap), (K w.params).In h → h.Ns mainGlobals mg → mg d.name = some (.ref fa) →
      ∃ fd : FuncData, (∀ (s : Shared) (u : Value), BindsTo s fd ⟨[u], []⟩ [("_law_script", u)]) ∧ ∀ base : Heap, (K w.params).In base → base.Ns mainGlobals mg → FnOk l.prog w (K w.params) mg base CX0 10 fa fd ["_law_script"] (spLaw (K w.params))) :
    PySem.W.WalkO q loose XP YP l.row.toRowW d [] (fun f vs => PySem.call f vs) :=
  L2.walk_of (n := 63) (k := 10) (x := "_law_script") (CX := fun _ => CX0) (sp := fun w => spLaw (K w.params)) hn (by decide) hdf ⟨rfl, by decide, by decide⟩ hY F (fun _ _ a ns hl _ hS => ⟨a, ns, rfl, hS, hl, fun _ => rfl⟩) fun _ _ _ _ _ z => z
end K65
def PySem.W.Fast.tw6301560761845608555 : Nat := 0
def PySem.W.Fast.tw2008614897155476731 : Nat := 0
def PySem.W.Fast.tw16339446928463570075 : Nat := 0
def PySem.W.Fast.tw6299385923676165319 : Nat := 0
def PySem.W.Fast.tw4564646394404387771 : Nat := 0
def PySem.W.Fast.tw12368043430350964420 : Nat := 0
def PySem.W.Fast.tw8989063888936855099 : Nat := 0
def PySem.W.Fast.tw12457426209862600527 : Nat := 0
def PySem.W.Fast.tw2866186934522991129 : Nat := 0
def PySem.W.Fast.tw12482373310523906241 : Nat := 0
def PySem.W.Fast.tw18078520578753552021 : Nat := 0
def PySem.W.Fast.tw8725201517788733234 : Nat := 0
def PySem.W.Fast.tw9228330811802007978 : Nat := 0
def PySem.W.Fast.tw7309489542665889286 : Nat := 0
def PySem.W.Fast.tw258240317541840417 : Nat := 0
def PySem.W.Fast.tw14993368968839958333 : Nat := 0
def PySem.W.Fast.tw5775664559894550664 : Nat := 0
def PySem.W.Fast.tw5819897728175383149 : Nat := 0
def PySem.W.Fast.tw3988985263895117247 : Nat := 0
def PySem.W.Fast.tw13542088306697901183 : Nat := 0
def PySem.W.Fast.tw12071569107886153603 : Nat := 0
open PySem PySem.W PyProof.Rows
set_option maxRecDepth 100000 in
set_option maxHeartbeats 0 in
theorem PySem.Challenge.cw_ohmyard_k65_tree_sum_by_one_piece_holds : PySem.Challenge.rw_ohmyard_k65_tree_sum_by_one_piece.Holds := by
  w_on; o_law; z_head; (case hw => w_witness2)
  k_fill
  refine L2.walkX_of (fun _ => by kernel_rfl) (K65.walk (l := PySem.Challenge.rw_ohmyard_k65_tree_sum_by_one_piece) rfl rfl (fun w h Y => Y) ?F)
  case F =>
    intro w mg fa h KX G hmg
    refine' K65.all_mk KX G hmg ?y_Row ?y_Piece ?y_Push ?y_Hold ?y_Net ?a1 ?l1 ?c1 ?k1 ?a2 ?l2 ?c2 ?k2 ?a3 ?l3 ?c3 ?k3 ?a4 ?l4 ?c4 ?k4 ?lt4 ?a5 ?l5 ?c5 ?k5 ?a6 ?l6 ?c6 ?k6 ?a7 ?l7 ?c7 ?k7 ?a8 ?l8 ?c8 ?k8 ?a9_0 ?a9_1 ?a9_2 ?i9 ?l9 ?c9 ?k9 ?a10_0 ?i10 ?l10 ?c10 ?k10 ?a11_0 ?i11 ?l11 ?c11 ?k11 ?a12_0 ?i12 ?l12 ?c12 ?k12 ?a13_0 ?a13_1 ?a13_2 ?i13 ?l13 ?c13 ?k13 ?a14 ?l14 ?c14 ?k14 ?a15 ?l15 ?c15 ?k15 ?a16 ?l16 ?c16 ?k16 ?a17 ?l17 ?c17 ?k17 ?a18 ?l18 ?c18 ?k18 ?a19 ?l19 ?c19 ?k19 ?a20_0 ?i20 ?l20 ?c20 ?k20 ?a21_0 ?i21 ?l21 ?c21 ?k21 ?a22_0 ?i22 ?l22 ?c22 ?k22 ?a23_0 ?i23 ?l23 ?c23 ?k23 ?a24_0 ?i24 ?l24 ?c24 ?k24 ?a25 ?l25 ?c25 ?k25 ?a26 ?l26 ?c26 ?k26 ?a27 ?l27 ?c27 ?k27 ?a28 ?l28 ?c28 ?k28 ?a29 ?l29 ?c29 ?k29 ?a30 ?l30 ?c30 ?k30 ?a31 ?l31 ?c31 ?k31 ?a32 ?l32 ?c32 ?k32 ?a33 ?l33 ?c33 ?k33 ?a34 ?l34 ?c34 ?k34 ?a35 ?l35 ?c35 ?k35 ?a36 ?l36 ?c36 ?k36 ?a37 ?l37 ?c37 ?k37 ?a38 ?l38 ?c38 ?k38 ?a39 ?l39 ?c39 ?k39 ?a40 ?l40 ?c40 ?k40 ?a41 ?l41 ?c41 ?k41 ?a42 ?l42 ?c42 ?k42 ?a43 ?l43 ?c43 ?k43 ?a44 ?l44 ?c44 ?k44 ?a45 ?l45 ?c45 ?k45 ?a46 ?l46 ?c46 ?k46 ?a47 ?l47 ?c47 ?k47 ?a48 ?l48 ?c48 ?k48 ?a49 ?l49 ?c49 ?k49 ?a50 ?l50 ?c50 ?k50 ?a51 ?l51 ?c51 ?k51 ?a52 ?l52 ?c52 ?k52 ?v_ONE ?v_NOUGHT ?v_MOST_POINTS ?v_MOST_ROWS ?lO ?lN ?pg_Piece ?hd_Piece ?po_Piece ?sa_Piece ?mk_Piece ?kc_Piece ?t1_Piece ?t4_Piece ?na_Piece_start ?na_Piece_goal ?na_Piece_size ?pg_Push ?hd_Push ?po_Push ?sa_Push ?mk_Push ?kc_Push ?t1_Push ?t4_Push ?na_Push_start ?na_Push_goal ?na_Push_size ?pg_Hold ?hd_Hold ?po_Hold ?sa_Hold ?mk_Hold ?kc_Hold ?t1_Hold ?t4_Hold ?na_Hold_start ?na_Hold_goal ?na_Hold_size ?tt2 ?tt3 ?isR_Piece ?isR_Push ?isR_Hold ?isK_Piece_Push ?isK_Piece_Hold ?isK_Push_Piece ?isK_Push_Hold ?isK_Hold_Piece ?isK_Hold_Push ?pg_Net ?hd_Net ?po_Net ?sa_Net ?mk_Net ?kc_Net ?t1_Net ?t4_Net ?na_Net_point_count ?na_Net_kept ?z1 ?z2 ?z3 ?z4 ?z5 ?z6 ?z7 ?z8 ?z9 ?z10 ?z11 ?z12 ?z13 ?z14
    (case y_Row => k_is)
    (case y_Piece => k_is)
    (case y_Push => k_is)
    (case y_Hold => k_is)
    (case y_Net => k_is)
    (case a1 => k_is); (case l1 => k_is); (case c1 => k_is); (case k1 => k_is)
    (case a2 => k_is); (case l2 => k_is); (case c2 => k_is); (case k2 => k_is)
    (case a3 => k_is); (case l3 => k_is); (case c3 => k_is); (case k3 => k_is)
    (case a4 => k_is); (case l4 => k_is); (case c4 => k_is); (case k4 => k_is); (case lt4 => k_is)
    (case a5 => k_is); (case l5 => k_is); (case c5 => k_is); (case k5 => k_is)
    (case a6 => k_is); (case l6 => k_is); (case c6 => k_is); (case k6 => k_is)
    (case a7 => k_is); (case l7 => k_is); (case c7 => k_is); (case k7 => k_is)
    (case a8 => k_is); (case l8 => k_is); (case c8 => k_is); (case k8 => k_is)
    (case a9_0 => k_is); (case a9_1 => k_is); (case a9_2 => k_is); (case i9 => k_is); (case l9 => k_is); (case c9 => k_is); (case k9 => k_is)
    (case a10_0 => k_is); (case i10 => k_is); (case l10 => k_is); (case c10 => k_is); (case k10 => k_is)
    (case a11_0 => k_is); (case i11 => k_is); (case l11 => k_is); (case c11 => k_is); (case k11 => k_is)
    (case a12_0 => k_is); (case i12 => k_is); (case l12 => k_is); (case c12 => k_is); (case k12 => k_is)
    (case a13_0 => k_is); (case a13_1 => k_is); (case a13_2 => k_is); (case i13 => k_is); (case l13 => k_is); (case c13 => k_is); (case k13 => k_is)
    (case a14 => k_is); (case l14 => k_is); (case c14 => k_is); (case k14 => k_is)
    (case a15 => k_is); (case l15 => k_is); (case c15 => k_is); (case k15 => k_is)
    (case a16 => k_is); (case l16 => k_is); (case c16 => k_is); (case k16 => k_is)
    (case a17 => k_is); (case l17 => k_is); (case c17 => k_is); (case k17 => k_is)
    (case a18 => k_is); (case l18 => k_is); (case c18 => k_is); (case k18 => k_is)
    (case a19 => k_is); (case l19 => k_is); (case c19 => k_is); (case k19 => k_is)
    (case a20_0 => k_is); (case i20 => k_is); (case l20 => k_is); (case c20 => k_is); (case k20 => k_is)
    (case a21_0 => k_is); (case i21 => k_is); (case l21 => k_is); (case c21 => k_is); (case k21 => k_is)
    (case a22_0 => k_is); (case i22 => k_is); (case l22 => k_is); (case c22 => k_is); (case k22 => k_is)
    (case a23_0 => k_is); (case i23 => k_is); (case l23 => k_is); (case c23 => k_is); (case k23 => k_is)
    (case a24_0 => k_is); (case i24 => k_is); (case l24 => k_is); (case c24 => k_is); (case k24 => k_is)
    (case a25 => k_is); (case l25 => k_is); (case c25 => k_is); (case k25 => k_is)
    (case a26 => k_is); (case l26 => k_is); (case c26 => k_is); (case k26 => k_is)
    (case a27 => k_is); (case l27 => k_is); (case c27 => k_is); (case k27 => k_is)
    (case a28 => k_is); (case l28 => k_is); (case c28 => k_is); (case k28 => k_is)
    (case a29 => k_is); (case l29 => k_is); (case c29 => k_is); (case k29 => k_is)
    (case a30 => k_is); (case l30 => k_is); (case c30 => k_is); (case k30 => k_is)
    (case a31 => k_is); (case l31 => k_is); (case c31 => k_is); (case k31 => k_is)
    (case a32 => k_is); (case l32 => k_is); (case c32 => k_is); (case k32 => k_is)
    (case a33 => k_is); (case l33 => k_is); (case c33 => k_is); (case k33 => k_is)
    (case a34 => k_is); (case l34 => k_is); (case c34 => k_is); (case k34 => k_is)
    (case a35 => k_is); (case l35 => k_is); (case c35 => k_is); (case k35 => k_is)
    (case a36 => k_is); (case l36 => k_is); (case c36 => k_is); (case k36 => k_is)
    (case a37 => k_is); (case l37 => k_is); (case c37 => k_is); (case k37 => k_is)
    (case a38 => k_is); (case l38 => k_is); (case c38 => k_is); (case k38 => k_is)
    (case a39 => k_is); (case l39 => k_is); (case c39 => k_is); (case k39 => k_is)
    (case a40 => k_is); (case l40 => k_is); (case c40 => k_is); (case k40 => k_is)
    (case a41 => k_is); (case l41 => k_is); (case c41 => k_is); (case k41 => k_is)
    (case a42 => k_is); (case l42 => k_is); (case c42 => k_is); (case k42 => k_is)
    (case a43 => k_is); (case l43 => k_is); (case c43 => k_is); (case k43 => k_is)
    (case a44 => k_is); (case l44 => k_is); (case c44 => k_is); (case k44 => k_is)
    (case a45 => k_is); (case l45 => k_is); (case c45 => k_is); (case k45 => k_is)
    (case a46 => k_is); (case l46 => k_is); (case c46 => k_is); (case k46 => k_is)
    (case a47 => k_is); (case l47 => k_is); (case c47 => k_is); (case k47 => k_is)
    (case a48 => k_is); (case l48 => k_is); (case c48 => k_is); (case k48 => k_is)
    (case a49 => k_is); (case l49 => k_is); (case c49 => k_is); (case k49 => k_is)
    (case a50 => k_is); (case l50 => k_is); (case c50 => k_is); (case k50 => k_is)
    (case a51 => k_is); (case l51 => k_is); (case c51 => k_is); (case k51 => k_is)
    (case a52 => k_is); (case l52 => k_is); (case c52 => k_is); (case k52 => k_is)
    (case v_ONE => k_is)
    (case v_NOUGHT => k_is)
    (case v_MOST_POINTS => k_is)
    (case v_MOST_ROWS => k_is)
    (case lO => k_is)
    (case lN => k_is)
    (case pg_Piece => k_is)
    (case hd_Piece => k_is)
    (case po_Piece => k_is)
    (case sa_Piece => k_is)
    (case mk_Piece => k_is)
    (case kc_Piece => k_is)
    (case t1_Piece => k_is)
    (case t4_Piece => k_is)
    (case na_Piece_start => k_is)
    (case na_Piece_goal => k_is)
    (case na_Piece_size => k_is)
    (case pg_Push => k_is)
    (case hd_Push => k_is)
    (case po_Push => k_is)
    (case sa_Push => k_is)
    (case mk_Push => k_is)
    (case kc_Push => k_is)
    (case t1_Push => k_is)
    (case t4_Push => k_is)
    (case na_Push_start => k_is)
    (case na_Push_goal => k_is)
    (case na_Push_size => k_is)
    (case pg_Hold => k_is)
    (case hd_Hold => k_is)
    (case po_Hold => k_is)
    (case sa_Hold => k_is)
    (case mk_Hold => k_is)
    (case kc_Hold => k_is)
    (case t1_Hold => k_is)
    (case t4_Hold => k_is)
    (case na_Hold_start => k_is)
    (case na_Hold_goal => k_is)
    (case na_Hold_size => k_is)
    (case tt2 => k_is)
    (case tt3 => k_is)
    (case isR_Piece => kit_is)
    (case isR_Push => kit_is)
    (case isR_Hold => kit_is)
    (case isK_Piece_Push => kit_is)
    (case isK_Piece_Hold => kit_is)
    (case isK_Push_Piece => kit_is)
    (case isK_Push_Hold => kit_is)
    (case isK_Hold_Piece => kit_is)
    (case isK_Hold_Push => kit_is)
    (case pg_Net => k_is)
    (case hd_Net => k_is)
    (case po_Net => k_is)
    (case sa_Net => k_is)
    (case mk_Net => k_is)
    (case kc_Net => k_is)
    (case t1_Net => k_is)
    (case t4_Net => k_is)
    (case na_Net_point_count => k_is)
    (case na_Net_kept => k_is)
    (case z1 => k_is)
    (case z2 => k_is)
    (case z3 => k_is)
    (case z4 => k_is)
    (case z5 => k_is)
    (case z6 => k_is)
    (case z7 => k_is)
    (case z8 => k_is)
    (case z9 => k_is)
    (case z10 => k_is)
    (case z11 => k_is)
    (case z12 => k_is)
    (case z13 => k_is)
    (case z14 => k_is)
