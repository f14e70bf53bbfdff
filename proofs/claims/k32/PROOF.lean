import PyProof.Rows.All
import Wide.All
import OpenK.AllK
import Wide.FinOn
import Lean
import PyProof.EqAt
import PyProof.EqKinds
import PyProof.TupleCall
import PyProof.Cells
import PyProof.SumWalkG
import PyProof.EnumStmt
import PyProof.EnumMake
import KE.KDictList
import PySem.Challenge.RW_ohmyard_k32_rings
set_option Elab.async false
set_option linter.all false
set_option maxRecDepth 100000
/-! THE HAND LAYER, for ints, bools, texts, own classes, LISTS and tuples (index, slices, in, append, pop ..), calls, loops. Paste it whole ahead of your own text; what your proof does not reach may be deleted. -/
namespace L2
open PySem PySem.Spec PyProof.Rows

/-- a key: an int or a str -/
abbrev Key := Sum Int Str
def keyIs : Key → Value → Bool
  | .inl k, v => Value.isInt k v
  | .inr x, v => Value.isStrOf x v
def keyH (w : World) : Key → Int
  | .inl k => hashInt k
  | .inr x => hashStr w x
theorem keyIs_shape : ∀ {k : Key} {v : Value}, keyIs k v = true → (∃ i t, k = Sum.inl i ∧ v = Value.int i t) ∨ (∃ x t, k = Sum.inr x ∧ v = Value.str x t)
  | .inl i, v, h => by
    obtain ⟨t, e⟩ := Value.isInt_shape (k := i) (v := v) h
    exact .inl ⟨i, t, rfl, e⟩
  | .inr x, v, h => by
    obtain ⟨t, e⟩ := Value.isStrOf_shape (x := x) (v := v) h
    exact .inr ⟨x, t, rfl, e⟩
theorem keyIs_int (i : Int) (t : Tok) : keyIs (.inl i) (.int i t) = true := by simp [keyIs, Value.isInt]
theorem keyIs_str (x : Str) (t : Tok) : keyIs (.inr x) (.str x t) = true := by simp [keyIs, Value.isStrOf]
theorem key_ll (a b : Int) : decide ((Sum.inl a : Key) = Sum.inl b) = (a == b) := by
  by_cases e : a = b
  · subst e; simp
  · have h : ¬ (Sum.inl a : Key) = Sum.inl b := fun q => e (Sum.inl.inj q)
    rw [decide_eq_false h]
    exact (beq_eq_false_iff_ne.mpr e).symm
theorem key_rr (a b : Str) : decide ((Sum.inr a : Key) = Sum.inr b) = decide (a = b) := by
  by_cases e : a = b
  · subst e; simp
  · have h : ¬ (Sum.inr a : Key) = Sum.inr b := fun q => e (Sum.inr.inj q)
    rw [decide_eq_false h, decide_eq_false e]
theorem key_lr (a : Int) (b : Str) : decide ((Sum.inl a : Key) = Sum.inr b) = false := decide_eq_false (fun q => nomatch q)
theorem key_rl (a : Str) (b : Int) : decide ((Sum.inr a : Key) = Sum.inl b) = false := decide_eq_false (fun q => nomatch q)

def mixKind (prog : Program) (w : World) : PySem.KeyKind prog w Key where
  is := keyIs
  hash := keyH w
  inj := fun v a b ha hb => by
    rcases keyIs_shape ha with ⟨i, t, rfl, rfl⟩ | ⟨x, t, rfl, rfl⟩
    · rcases keyIs_shape hb with ⟨j, u, rfl, e⟩ | ⟨y, u, rfl, e⟩
      · injection e with e1 _; rw [e1]
      · exact nomatch e
    · rcases keyIs_shape hb with ⟨j, u, rfl, e⟩ | ⟨y, u, rfl, e⟩
      · exact nomatch e
      · injection e with e1 _; rw [e1]
  byValue := fun k v h => by
    rcases keyIs_shape h with ⟨i, t, rfl, rfl⟩ | ⟨x, t, rfl, rfl⟩ <;> rfl
  pyHash := fun hv h => by
    rcases keyIs_shape hv with ⟨i, t, rfl, rfl⟩ | ⟨x, t, rfl, rfl⟩
    · exact wpAny_pyHash_int h
    · exact wpAny_pyHash_str h
  eqBool := fun hu hv h => by
    rcases keyIs_shape hu with ⟨i, t, rfl, rfl⟩ | ⟨x, t, rfl, rfl⟩
    · rcases keyIs_shape hv with ⟨j, u, rfl, rfl⟩ | ⟨y, u, rfl, rfl⟩
      · rw [key_ll] at h; exact wpAny_eqBool_int h
      · rw [key_lr] at h; exact SeqAt.EqAt.int_str i t y u _ _ _ _ h
    · rcases keyIs_shape hv with ⟨j, u, rfl, rfl⟩ | ⟨y, u, rfl, rfl⟩
      · rw [key_rl] at h; exact SeqAt.EqAt.str_int x t j u _ _ _ _ h
      · rw [key_rr] at h; exact wpAny_eqBool_str h
  «strs» := fun k x t v h => by
    rcases keyIs_shape h with ⟨i, u, rfl, e⟩ | ⟨y, u, rfl, e⟩
    · exact nomatch e
    · injection e with e1 _
      subst e1
      cases v <;> rfl

theorem mixKind_int (prog : Program) (w : World) (i : Int) (t : Tok) : (mixKind prog w).is (.inl i) (.int i t) = true := keyIs_int i t
theorem mixKind_str (prog : Program) (w : World) (x : Str) (t : Tok) : (mixKind prog w).is (.inr x) (.str x t) = true := keyIs_str x t
end L2

namespace L2
open PySem PySem.Spec PyProof.Rows

/-- a value, without the heap -/
inductive V where
  | non | bl (b : Bool) | int (i : Int) | str (x : Str) | byt (b : Array UInt8) | flt (b : UInt64) | ref (a : Addr) | ty (n : String)
  deriving DecidableEq

def RelV : V → Value → Prop
  | .non, u => u = Value.none
  | .bl b, u => u = Value.bool b
  | .int i, u => ∃ t, u = Value.int i t
  | .str x, u => ∃ t, u = Value.str x t
  | .byt b, u => ∃ t, u = Value.bytes b t
  | .flt b, u => ∃ t, u = Value.float b t
  | .ref a, u => u = Value.ref a
  | .ty n, u => u = Value.type n

abbrev Vals : List V → List Value → Prop := Paired RelV
theorem Vals.length {xs : List V} {us : List Value} (r : Vals xs us) : xs.length = us.length := Paired.length r
theorem Vals.get : ∀ {xs : List V} {us : List Value} {i : Nat} {x : V}, Vals xs us → xs[i]? = some x → ∃ u, us[i]? = some u ∧ RelV x u
  | _, _, _, _, .nil, e => by simp at e
  | _, _, 0, _, .cons r _, e => by simp at e; subst e; exact ⟨_, rfl, r⟩
  | _, _, i + 1, x, .cons _ t, e => by
    obtain ⟨u, h1, h2⟩ := Vals.get (i := i) (x := x) t (by simpa using e)
    exact ⟨u, by simpa using h1, h2⟩
theorem Vals.set {x : V} {u : Value} (r : RelV x u) : ∀ {xs : List V} {us : List Value} (i : Nat), Vals xs us → Vals (xs.set i x) (us.set i u)
  | _, _, _, .nil => .nil
  | _, _, 0, .cons _ t => .cons r t
  | _, _, i + 1, .cons q t => .cons q (Vals.set r i t)
theorem Vals.append : ∀ {xs ys : List V} {us ws : List Value}, Vals xs us → Vals ys ws → Vals (xs ++ ys) (us ++ ws)
  | _, _, _, _, .nil, s => s
  | _, _, _, _, .cons r t, s => .cons r (Vals.append t s)
theorem Vals.take : ∀ {xs : List V} {us : List Value} (n : Nat), Vals xs us → Vals (xs.take n) (us.take n)
  | _, _, 0, _ => .nil
  | _, _, _ + 1, .nil => .nil
  | _, _, n + 1, .cons r t => .cons r (Vals.take n t)
theorem Vals.drop : ∀ {xs : List V} {us : List Value} (n : Nat), Vals xs us → Vals (xs.drop n) (us.drop n)
  | _, _, 0, r => r
  | _, _, _ + 1, .nil => .nil
  | _, _, n + 1, .cons _ t => Vals.drop n t
def RelO : Option V → Option Value → Prop
  | some v, some u => RelV v u
  | none, none => True
  | _, _ => False
def KV {κ : Type} : List (κ × V) → List (κ × Value) → Prop := Paired fun (p : κ × V) (q : κ × Value) => p.1 = q.1 ∧ RelV p.2 q.2

/-- a key of a dict (00_mix): an int or a text -/
def kV : Key → V
  | .inl i => .int i
  | .inr x => .str x

/-- what stands at a tracked address -/
inductive HO where
  /-- a list -/
  | lst (xs : List V)
  /-- a tuple (never changes) -/
  | tup (xs : List V)
  /-- a dict whose keys are ints and texts; one whose keys are tuples of ints and texts (the empty one is both) -/
  | dK (kvs : List (Key × V)) | dT (kvs : List (List Key × V))
  /-- a set of ints: its members, its size -/
  | set (S : Int → Bool) (n : Nat)
  /-- an instance of the class at C, its dict at dx, its attributes -/
  | ins (C dx : Addr) (fs : List (Str × V))
  /-- the dict of the instance at x -/
  | own (x : Addr)
  /-- the dict of an exception -/
  | xd (fs : List (Str × V))
  /-- a bound method, f of x -/
  | met (f x : Addr)
  /-- a range object lo, lo + 1, .. below hi -/
  | rng (lo hi : Int)
  /-- a thing that is known to the object (the script; a dict while a loop walks it): read, never written while it is so -/
  | frz (o : Obj) (u : HO)
  /-- a code object's table -/
  | tbl (ps : Array Value)
  /-- any other thing, by what is true of its one object (a def of one's own: SetO a S n := HO.ext fun h => ..) -/
  | ext (φ : Heap → Prop)

abbrev Hp := Addr → Option HO
def upd (H : Hp) (a : Addr) (o : HO) : Hp := fun b => if b = a then some o else H b
theorem upd_same {H : Hp} {a : Addr} {o : HO} : upd H a o a = some o := by unfold upd; rw [if_pos rfl]
theorem upd_ne {H : Hp} {a b : Addr} {o : HO} (h : b ≠ a) : upd H a o b = H b := by unfold upd; rw [if_neg h]
theorem upd_upd {H : Hp} {a : Addr} {o u : HO} : upd (upd H a o) a u = upd H a u := by
  funext b; unfold upd; split <;> rfl
/-- two objects of different content stand apart -/
theorem ne_of {H : Hp} {a b : Addr} {o u : HO} (h : H a = some o) (h' : H b = some u) (d : o ≠ u) : a ≠ b := by
  intro e; subst e; rw [h] at h'; exact d (Option.some.inj h')
theorem ne_of_none {H : Hp} {a b : Addr} {o : HO} (h : H a = some o) (h' : H b = none) : a ≠ b := by
  intro e; subst e; rw [h] at h'; cases h'

section
variable (P : Program) (w : World)
def ObjOk (H : Hp) (h : Heap) (a : Addr) : HO → Prop
  | .lst xs => xs.length ≤ sizeLine ∧ ∃ (its : List Value) (n : Nat), Vals xs its ∧ h.get? a = some { cls := .type "list", data := .seq its.toArray n }
  | .tup xs => xs.length ≤ sizeLine ∧ ∃ its : List Value, Vals xs its ∧ IsTup h a its.toArray
  | .dK kvs => kvs.length ≤ sizeLine ∧ (a == sysModules) = false ∧ ∃ vs, KV kvs vs ∧ h.DictOf (mixKind P w) a vs
  | .dT kvs => kvs.length ≤ sizeLine ∧ (a == sysModules) = false ∧ ∃ xs : List (List Key × Addr × Value),
      Paired (fun (p : List Key × V) (q : List Key × Addr × Value) => p.1 = q.1 ∧ H q.2.1 = some (.tup (p.1.map kV)) ∧ RelV p.2 q.2.2) kvs xs ∧
      ∃ o es ep, h.get? a = some o ∧ o.ExactDict ∧ o.data = .dict es ep ∧ es.toList = xs.map (entryOfKey (tupleKind (mixKind P w))) ∧ (xs.map (·.1)).Nodup
  | .set S n => h.SetOf (intKind P w) a S n
  | .ins C dx fs => H dx = some (.own a) ∧ fs.length ≤ 1000 ∧ dx ≠ a ∧ h.get? a = some (PySem.W.instObj C dx) ∧
      ∃ mA, h.Ns1 dx mA ∧ (∀ f, RelO (fs.lookup f) (mA f)) ∧ PySem.Within mA (fs.map (·.1))
  | .own _ => ∃ o, h.get? a = some o
  | .xd fs => ∃ mA, h.Ns1 a mA ∧ ∀ f, RelO (fs.lookup f) (mA f)
  | .rng lo hi => ∃ t u v, h.get? a = some { cls := .type "range", data := .fields #[.int lo t, .int hi u, .int 1 v] }
  | .frz o u => h.get? a = some o ∧ ObjOk H h a u
  | .tbl ps => h.get? a = some { cls := .none, data := .fields ps }
  | .met f x => h.get? a = some (PySem.W.methodObj (.ref f) (.ref x))
  | .ext φ => φ h ∧ (∃ o, h.get? a = some o) ∧ ∀ h1 h2 : Heap, φ h1 → (∀ o, h1.get? a = some o → h2.get? a = some o) → φ h2
/-- the abstract heap is held -/
def HOk (H : Hp) (h : Heap) : Prop := ∀ a o, H a = some o → ObjOk P w H h a o
end

section
variable {P : Program} {w : World} {H H' : Hp} {h h' : Heap} {a : Addr} {o : HO}
theorem ObjOk.lt (x : ObjOk P w H h a o) : a < h.objs.size := by
  cases o with
  | lst xs => obtain ⟨_, _, _, _, e⟩ := x; exact Heap.lt_size e
  | tup xs => obtain ⟨_, _, _, p⟩ := x; exact p.lt
  | dK kvs => obtain ⟨_, _, _, _, o, _, _, e, _⟩ := x; exact Heap.lt_size e
  | dT kvs => obtain ⟨_, _, _, _, o, _, _, e, _⟩ := x; exact Heap.lt_size e
  | set S n => obtain ⟨o, _, _, _, e, _⟩ := x; exact Heap.lt_size e
  | ins C dx fs => obtain ⟨_, _, _, e, _⟩ := x; exact Heap.lt_size e
  | own y => obtain ⟨_, e⟩ := x; exact Heap.lt_size e
  | xd fs => obtain ⟨_, ⟨_, _, _, e, _⟩, _⟩ := x; exact Heap.lt_size e
  | rng lo hi => obtain ⟨_, _, _, e⟩ := x; exact Heap.lt_size e
  | frz ob u => obtain ⟨e, _⟩ := x; exact Heap.lt_size e
  | tbl ps => exact Heap.lt_size (show h.get? a = some _ from x)
  | met f y => exact Heap.lt_size (show h.get? a = some _ from x)
  | ext φ => obtain ⟨_, ⟨_, e⟩, _⟩ := x; exact Heap.lt_size e
theorem Paired.mapP {α β : Type} {F G : α → β → Prop} : ∀ {l₁ : List α} {l₂ : List β}, Paired F l₁ l₂ → (∀ a b, F a b → G a b) → Paired G l₁ l₂
  | _, _, .nil, _ => .nil
  | _, _, .cons r t, f => .cons (f _ _ r) (Paired.mapP t f)
/-- what an object's description leans on: its own object, its own dict, the tuples -/
theorem ObjOk.stay (x : ObjOk P w H h a o) (k : ∀ b u, (b = a ∨ H b = some (.own a)) → h.get? b = some u → h'.get? b = some u)
    (ho : ∀ b, H b = some (.own a) → H' b = some (.own a)) (ht : ∀ b xs, H b = some (.tup xs) → H' b = some (.tup xs)) : ObjOk P w H' h' a o := by
  induction o with
  | lst xs => obtain ⟨z, its, n, r, e⟩ := x; exact ⟨z, its, n, r, k _ _ (.inl rfl) e⟩
  | tup xs => obtain ⟨z, its, r, ob, e, c⟩ := x; exact ⟨z, its, r, ob, k _ _ (.inl rfl) e, c⟩
  | dK kvs => obtain ⟨z, y, vs, r, ob, es, ep, e, c⟩ := x; exact ⟨z, y, vs, r, ob, es, ep, k _ _ (.inl rfl) e, c⟩
  | dT kvs =>
    obtain ⟨z, y, xs, r, ob, es, ep, e, c⟩ := x
    exact ⟨z, y, xs, Paired.mapP r fun p q z => ⟨z.1, ht _ _ z.2.1, z.2.2⟩, ob, es, ep, k _ _ (.inl rfl) e, c⟩
  | set S n => obtain ⟨ob, es, ep, t, e, c⟩ := x; exact ⟨ob, es, ep, t, k _ _ (.inl rfl) e, c⟩
  | ins C dx fs =>
    obtain ⟨d, z, ne, e, mA, ⟨od, es, ep, e2, c⟩, r⟩ := x
    exact ⟨ho _ d, z, ne, k _ _ (.inl rfl) e, mA, ⟨od, es, ep, k _ _ (.inr d) e2, c⟩, r⟩
  | own y => obtain ⟨ob, e⟩ := x; exact ⟨ob, k _ _ (.inl rfl) e⟩
  | xd fs => obtain ⟨mA, ⟨od, es, ep, e, c⟩, r⟩ := x; exact ⟨mA, ⟨od, es, ep, k _ _ (.inl rfl) e, c⟩, r⟩
  | rng lo hi => obtain ⟨t, u, v, e⟩ := x; exact ⟨t, u, v, k _ _ (.inl rfl) e⟩
  | frz ob u ih => obtain ⟨e, q⟩ := x; exact ⟨k _ _ (.inl rfl) e, ih q⟩
  | tbl ps =>
    have e : h.get? a = some { cls := .none, data := .fields ps } := x
    show h'.get? a = some { cls := .none, data := .fields ps }
    exact k a _ (.inl rfl) e
  | met f y =>
    have e : h.get? a = some (PySem.W.methodObj (.ref f) (.ref y)) := x
    show h'.get? a = some (PySem.W.methodObj (.ref f) (.ref y))
    exact k a _ (.inl rfl) e
  | ext φ => obtain ⟨p, ⟨o, e⟩, st⟩ := x; exact ⟨st _ _ p fun o q => k _ _ (.inl rfl) q, ⟨o, k _ _ (.inl rfl) e⟩, st⟩
theorem HOk.lt (x : HOk P w H h) (e : H a = some o) : a < h.objs.size := (x a o e).lt
theorem HOk.fresh (x : HOk P w H h) (e : h.objs.size ≤ a) : H a = none := by
  cases q : H a with
  | none => rfl
  | some u => exact absurd (Nat.lt_of_lt_of_le (x.lt q) e) (Nat.lt_irrefl _)
/-- every object of the heap is kept -/
theorem HOk.kept (x : HOk P w H h) (k : ∀ b u, h.get? b = some u → h'.get? b = some u) : HOk P w H h' := fun a o e =>
  (x a o e).stay (fun b u _ q => k b u q) (fun _ q => q) fun _ _ q => q
/-- a new object is laid and tracked -/
theorem HOk.laid (x : HOk P w H h) (k : ∀ b u, h.get? b = some u → h'.get? b = some u) (hp : h.objs.size ≤ a) (new : ObjOk P w (upd H a o) h' a o) : HOk P w (upd H a o) h' := fun b u e => by
  have hn := x.fresh hp
  by_cases hb : b = a
  · subst hb; rw [upd_same] at e; cases e; exact new
  · rw [upd_ne hb] at e
    exact (x b u e).stay (fun c v _ q => k c v q) (fun c q => by rw [upd_ne (ne_of_none q hn)]; exact q) fun c xs q => by rw [upd_ne (ne_of_none q hn)]; exact q
end

/-- what may be read as u: it is u, or a known u -/
def Rd (H : Hp) (a : Addr) (u : HO) : Prop := H a = some u ∨ ∃ o, H a = some (.frz o u)
theorem Rd.ok {P : Program} {w : World} {H : Hp} {h : Heap} {a : Addr} {u : HO} (r : Rd H a u) (x : HOk P w H h) : ObjOk P w H h a u := by
  rcases r with r | ⟨o, r⟩
  · exact x a u r
  · obtain ⟨_, q⟩ := x a _ r
    exact q
/-- what may be written -/
def Mut : Option HO → Prop
  | some (.lst _) => True
  | some (.dK _) => True
  | some (.dT _) => True
  | some (.set _ _) => True
  | some (.ins _ _ _) => True
  | some (.ext _) => True
  | _ => False
section
variable {P : Program} {w : World} {H : Hp} {h h' : Heap} {x e : Addr} {o' : HO}
/-- the object at e is changed: x itself, or the dict of the instance x -/
theorem HOk.write (ok : HOk P w H h) (mu : Mut (H x)) (he : e = x ∨ H e = some (.own x)) (k : ∀ b u, b ≠ e → h.get? b = some u → h'.get? b = some u) (heo : ∃ u, h'.get? e = some u)
    (new : ObjOk P w (upd H x o') h' x o') : HOk P w (upd H x o') h' := fun b u q => by
  have nown : ∀ c y, H c = some (.own y) → c ≠ x := fun c y r z => by subst z; rw [r] at mu; exact mu
  have ntup : ∀ c xs, H c = some (.tup xs) → c ≠ x := fun c xs r z => by subst z; rw [r] at mu; exact mu
  by_cases hb : b = x
  · subst hb; rw [upd_same] at q; cases q; exact new
  · rw [upd_ne hb] at q
    by_cases hbe : b = e
    · have q' : H b = some (.own x) := by
        rcases he with z | z
        · exact absurd (hbe.trans z) hb
        · rw [hbe]; exact z
      rw [q] at q'; cases q'
      obtain ⟨v, hv⟩ := heo
      exact ⟨v, by rw [hbe]; exact hv⟩
    · refine (ok b u q).stay (fun c v hc r => k c v ?_ r) (fun c r => by rw [upd_ne (nown c b r)]; exact r) fun c xs r => by rw [upd_ne (ntup c xs r)]; exact r
      rcases hc with rfl | hc
      · exact hbe
      · rintro rfl
        rcases he with z | z
        · exact nown c b hc z
        · rw [hc] at z; cases z; exact hb rfl
end

/-! ### kept unless tracked; of the frames at fs (the callers') the slots may change (an exception that passes writes there); of the records at ex (iterators) nothing is said -/
structure Un (fs ex : List Addr) (H H' : Hp) (h h' : Heap) : Prop where
  keep : ∀ b o, h.get? b = some o → H b = none → b ∉ fs → b ∉ ex → h'.get? b = some o
  slot : ∀ b o, h.get? b = some o → H b = none → b ∈ fs → b ∉ ex → ∃ sl, h'.get? b = some { o with slots := sl }
  free : ∀ b o, h.get? b = some o → H b = none → b ∉ ex → H' b = none
  there : ∀ b o, h.get? b = some o → b ∉ ex → ∃ o', h'.get? b = some o'
  tups : ∀ b xs, H b = some (.tup xs) → H' b = some (.tup xs)
  frzs : ∀ b o u, H b = some (.frz o u) → H' b = some (.frz o u)
  tbls : ∀ b ps, H b = some (.tbl ps) → ∃ more, H' b = some (.tbl (ps ++ more))
section
variable {fs fs' ex ex' : List Addr} {H H1 H2 : Hp} {h h1 h2 h' : Heap} {a x e : Addr} {o : HO}
theorem Un.any (u : Un fs ex H H1 h h1) {b : Addr} {ob : Obj} (q : h.get? b = some ob) (n : H b = none) (hx : b ∉ ex) : ∃ sl, h1.get? b = some { ob with slots := sl } := by
  by_cases hb : b ∈ fs
  · exact u.slot b ob q n hb hx
  · exact ⟨ob.slots, u.keep b ob q n hb hx⟩
theorem Un.kept (k : ∀ b u, h.get? b = some u → h'.get? b = some u) : Un fs ex H H h h' :=
  ⟨fun b ob q _ _ _ => k b ob q, fun b ob q _ _ _ => ⟨ob.slots, k b ob q⟩, fun _ _ _ n _ => n, fun b ob q _ => ⟨ob, k b ob q⟩, fun _ _ q => q, fun _ _ _ q => q, fun _ ps q => ⟨#[], by rw [q]; simp⟩⟩
theorem Un.refl : Un fs ex H H h h := Un.kept fun _ _ q => q
theorem Un.laid (k : ∀ b u, h.get? b = some u → h'.get? b = some u) (hp : h.objs.size ≤ a) (hn : H a = none) : Un fs ex H (upd H a o) h h' where
  keep := fun b u q _ _ _ => k b u q
  slot := fun b u q _ _ _ => ⟨u.slots, k b u q⟩
  free := fun b u q n _ => by rw [upd_ne (Nat.ne_of_lt (Nat.lt_of_lt_of_le (Heap.lt_size q) hp))]; exact n
  there := fun b u q _ => ⟨u, k b u q⟩
  tups := fun b xs q => by rw [upd_ne (ne_of_none q hn)]; exact q
  frzs := fun b u xs q => by rw [upd_ne (ne_of_none q hn)]; exact q
  tbls := fun b ps q => ⟨#[], by rw [upd_ne (ne_of_none q hn), q]; simp⟩
theorem Un.write (mu : Mut (H x)) (he : e = x ∨ H e = some (.own x)) (k : ∀ b u, b ≠ e → h.get? b = some u → h'.get? b = some u) (heo : ∃ u, h'.get? e = some u) : Un fs ex H (upd H x o) h h' := by
  have hx : ∀ b, H b = none → b ≠ x := fun b n z => by subst z; rw [n] at mu; exact mu
  have hb : ∀ b, H b = none → b ≠ e := fun b n z => by
    subst z
    rcases he with r | r
    · exact hx b n r
    · rw [n] at r; cases r
  have hm : ∀ b u, H b = some u → ¬ Mut (some u) → b ≠ x := fun b u q nm z => by subst z; rw [q] at mu; exact nm mu
  refine ⟨fun b u q n _ _ => k b u (hb b n) q, fun b u q n _ _ => ⟨u.slots, k b u (hb b n) q⟩, fun b u q n _ => by rw [upd_ne (hx b n)]; exact n, fun b u q _ => ?_,
    fun b xs q => by rw [upd_ne (hm b _ q fun z => z)]; exact q, fun b u xs q => by rw [upd_ne (hm b _ q fun z => z)]; exact q, fun b ps q => ⟨#[], by rw [upd_ne (hm b _ q fun z => z), q]; simp⟩⟩
  by_cases hbe : b = e
  · subst hbe; exact heo
  · exact ⟨u, k b u hbe q⟩
end

/-! ### the heap without what is tracked -/
def trk (h : Heap) (H : Hp) : List Addr := (List.range h.objs.size).filter fun a => (H a).isSome
def hidT (h : Heap) (H : Hp) : Heap := PySem.W.hideAll h (trk h H)
theorem hidT_size (h : Heap) (H : Hp) : (hidT h H).objs.size = h.objs.size := PySem.W.hideAll_size _ _
theorem hidT_get {h : Heap} {H : Hp} {b : Addr} {o : Obj} (e : h.get? b = some o) (n : H b = none) : (hidT h H).get? b = some o :=
  PySem.W.hideAll_get _ e fun hm => by
    have q : (H b).isSome = true := (List.mem_filter.mp hm).2
    rw [n] at q; simp at q
theorem of_hidT {h : Heap} {H : Hp} {b : Addr} {o : Obj} (e : (hidT h H).get? b = some o) : h.get? b = some o ∧ H b = none := by
  have e' : h.get? b = some o := PySem.W.of_hideAll (trk h H) e
  refine ⟨e', ?_⟩
  cases q : H b with
  | none => rfl
  | some x =>
    have hm : b ∈ trk h H := List.mem_filter.mpr ⟨List.mem_range.mpr (Heap.lt_size e'), by simp [q]⟩
    have z : (hidT h H).get? b = none := PySem.W.hideAll_none (trk h H) hm
    rw [z] at e; cases e

/-! ### OpenK's ledger, filled with every new object but one -/
def allNews (g h : Heap) (L : Addr) : List (Addr × Obj) := (List.range h.objs.size).filterMap fun a => if a = L ∨ (g.get? a).isSome = true then none else (h.get? a).map fun o => (a, o)
def rest (g h : Heap) (L d : Addr) : List (Addr × Obj) := (allNews g h L).filter fun p => decide (p.1 ≠ d)
end L2

namespace L2
open PySem PySem.Spec PyProof.Rows

/-- the module's facts, over the base: the heap at the law's entry without what is tracked there -/
structure Mod (K : PySem.W.Frag) (mg : Str → Option Value) (base : Heap) : Prop where
  kin : K.In base
  glob : base.Ns mainGlobals mg
  blt : ∃ mb, base.Ns builtinsNs mb ∧ ∀ x : Str, x ≠ "__name__" → mb x = bootBuiltins x
  nolimit : base.NoLimit

/-- the context: a def's body (or a comprehension's block) running. base: fixed through the whole law; s₀, H₀: the entry; outer: the frames whose slots others may change (a def's callers); stack: all frames that run;
   ex: iterators that were made ahead of the entry and are walked here (a comprehension's); fn: the names whose cells were made at the entry (a def: all; a comprehension's block: its own); calm: not within an except suite; pn: pins that every state bears; xe: what is wanted of an exception that leaves the code -/
structure Cx where
  prog : Program
  w : World
  K : PySem.W.Frag
  mg : Str → Option Value
  base : Heap
  A : Around
  N : List Str
  s₀ : Shared
  H₀ : Hp
  env : Env
  outer : List Env
  stack : List Env
  ex : List Addr
  fn : Str → Bool
  calm : Bool
  pn : List (Addr × Obj)
  xe : Value → Shared → Prop
/-- the callers' frames -/
def frs (l : List Env) : List Addr := l.filterMap (·.frame)
abbrev Cx.fs (X : Cx) : List Addr := frs X.outer

def Vis (sc : Scope) (x : Str) : Prop := sc.names.lookup x = some .local ∨ sc.names.lookup x = some .cell ∨ sc.names.lookup x = some .free
def Loc (sc : Scope) (x : Str) : Prop := sc.names.lookup x = some .local ∨ sc.names.lookup x = some .cell
def Look (env : Env) (h : Heap) (m : Str → Option Value) (x : Str) (u : Value) : Prop :=
  (env.kindOf x = some .local ∧ m x = some u) ∨ ((env.kindOf x = some .cell ∨ env.kindOf x = some .free) ∧ ∃ c, env.cells.lookup x = some c ∧ h.IsCell c (some u))

structure Cx.Ok (X : Cx) : Prop where
  mod : Mod X.K X.mg X.base
  kind : X.env.scope.kind = .function
  glob : X.env.globals = mainGlobals
  blt : X.env.builtins = builtinsNs
  above : X.s₀.heap.objs.size ≤ X.env.locals
  inj : ∀ x y c, X.env.cells.lookup x = some c → X.env.cells.lookup y = some c → x = y
  has : ∀ x, (X.env.kindOf x = some .cell ∨ X.env.kindOf x = some .free) → ∃ c, X.env.cells.lookup x = some c
  cab : ∀ x c, X.fn x = true → X.env.cells.lookup x = some c → X.s₀.heap.objs.size ≤ c
  hd : X.calm = true → X.A.handled = none
  frames : X.A.frames = some X.stack
  stk : X.stack = X.outer ∨ (X.stack = X.env :: X.outer ∧ X.env.frame = some X.env.locals)
  exf : ∀ b ∈ X.ex, b ≠ X.env.locals ∧ ∀ x c, X.env.cells.lookup x = some c → c ≠ b
  bs : ∀ b o, X.base.get? b = some o → X.s₀.heap.get? b = some o ∧ X.H₀ b = none
  bsz : X.base.objs.size ≤ X.s₀.heap.objs.size
  noex : ∀ b o, X.base.get? b = some o → b ∉ X.ex
  exfs : ∀ b ∈ X.ex, b ∉ X.fs
  funs : X.s₀.heap.FunFrames X.base X.outer
  frf : ∀ b ∈ X.fs, X.H₀ b = none

structure Inv (X : Cx) (pins : List (Addr × Obj)) (σ : List (Option V)) (H : Hp) (s : Shared) : Prop where
  ok : X.Ok
  os : s.os = X.s₀.os
  bare : AllBare s.gens
  base : Un X.fs X.ex X.H₀ H X.s₀.heap s.heap
  loc : ∃ m, s.heap.Ns X.env.locals m ∧ ∀ (i : Nat) (x : Str) (v : V), X.N[i]? = some x → σ[i]? = some (some v) → Vis X.env.scope x → ∃ u, RelV v u ∧ Look X.env s.heap m x u
  cell : ∀ x c, X.env.cells.lookup x = some c → ∃ v, s.heap.IsCell c v
  free : H X.env.locals = none
  freeC : ∀ x c, X.env.cells.lookup x = some c → H c = none
  pin : ∀ p ∈ X.pn ++ pins, s.heap.get? p.1 = some p.2 ∧ H p.1 = none ∧ p.1 ≠ X.env.locals ∧ p.1 ∉ X.fs ∧ ∀ v, p.2.data ≠ .cell v
  hok : HOk X.prog X.w H s.heap
  len : σ.length = X.N.length

section
variable {X : Cx} {pins : List (Addr × Obj)} {σ : List (Option V)} {H H' : Hp} {s : Shared} {h' : Heap}

theorem Cx.Ok.nofr (ok : X.Ok) {b : Addr} {o : Obj} (e : X.base.get? b = some o) : b ∉ X.fs := fun hb => by
  have := (ok.funs.mem hb).1
  rw [e] at this; cases this
theorem Inv.bs (I : Inv X pins σ H s) : ∀ b o, X.base.get? b = some o → s.heap.get? b = some o ∧ H b = none := fun b o e =>
  ⟨I.base.keep b o (I.ok.bs b o e).1 (I.ok.bs b o e).2 (I.ok.nofr e) (I.ok.noex b o e), I.base.free b o (I.ok.bs b o e).1 (I.ok.bs b o e).2 (I.ok.noex b o e)⟩
theorem Inv.bk (I : Inv X pins σ H s) : ∀ b o, X.base.get? b = some o → s.heap.get? b = some o := fun b o e => (I.bs b o e).1
theorem Inv.mod (I : Inv X pins σ H s) : Mod X.K X.mg X.base := I.ok.mod
theorem Inv.kIn (I : Inv X pins σ H s) : X.K.In s.heap := I.ok.mod.kin.keeps I.bk
theorem Inv.lt (I : Inv X pins σ H s) : X.env.locals < s.heap.objs.size := let ⟨_, hn, _⟩ := I.loc; hn.lt
theorem Inv.sz (I : Inv X pins σ H s) : X.s₀.heap.objs.size ≤ s.heap.objs.size := Nat.le_trans I.ok.above (Nat.le_of_lt I.lt)
theorem Inv.nofs (I : Inv X pins σ H s) {a : Addr} (h : s.heap.objs.size ≤ a) : a ∉ X.fs := fun hb => by
  obtain ⟨_, o, ho, _⟩ := I.ok.funs.mem hb
  exact absurd (Nat.lt_of_lt_of_le (Heap.lt_size ho) (Nat.le_trans I.sz h)) (Nat.lt_irrefl _)
theorem Inv.cne (I : Inv X pins σ H s) : ∀ x c, X.env.cells.lookup x = some c → c ≠ X.env.locals := fun x c e z => by
  obtain ⟨v, o, ho, hd⟩ := I.cell x c e
  obtain ⟨m, ⟨o', es, ep, ho', hd', _⟩, _⟩ := I.loc
  rw [z, ho'] at ho; cases ho; rw [hd'] at hd; cases hd
theorem Inv.funs (I : Inv X pins σ H s) : s.heap.FunFrames X.base X.outer := by
  have all : ∀ (l : List Env), (∀ b ∈ frs l, b ∈ X.fs) → X.s₀.heap.FunFrames X.base l → s.heap.FunFrames X.base l := by
    intro l
    induction l with
    | nil => intro _ _; trivial
    | cons env r ih =>
      intro hs hl
      obtain ⟨hk, ⟨L, o, hf, hn, ho, hd⟩, hr⟩ := hl
      have hL : L ∈ X.fs := hs L (by unfold frs; rw [List.filterMap_cons, hf]; exact List.mem_cons_self)
      obtain ⟨sl, e⟩ := I.base.slot L o ho (I.ok.frf L hL) hL fun z => I.ok.exfs L z hL
      exact ⟨hk, ⟨L, _, hf, hn, e, hd⟩, ih (fun b hb => hs b (by unfold frs; rw [List.filterMap_cons, hf]; exact List.mem_cons_of_mem _ hb)) hr⟩
  exact all X.outer (fun _ hb => hb) I.ok.funs

/-- the frames that run, for a call -/
theorem Inv.stack (I : Inv X pins σ H s) : s.heap.FunFrames X.base X.stack := by
  rcases I.ok.stk with e | ⟨e, hf⟩
  · rw [e]; exact I.funs
  · rw [e]
    obtain ⟨m, hn, _⟩ := I.loc
    refine .cons (by rw [I.ok.kind]; decide) hf hn ?_ I.funs
    exact Heap.get?_none_of_le (Nat.le_trans I.ok.bsz I.ok.above)
theorem Inv.stkSub (I : Inv X pins σ H s) : ∀ b ∈ frs X.stack, b ∈ X.env.locals :: X.fs := fun b hb => by
  rcases I.ok.stk with e | ⟨e, hf⟩
  · rw [e] at hb; exact List.mem_cons_of_mem _ hb
  · rw [e] at hb
    unfold frs at hb
    rw [List.filterMap_cons, hf] at hb
    exact hb
theorem Inv.stkFree (I : Inv X pins σ H s) : ∀ b ∈ frs X.stack, H b = none := fun b hb => by
  rcases List.mem_cons.mp (I.stkSub b hb) with e | hb
  · rw [e]; exact I.free
  · obtain ⟨_, o, ho, _⟩ := I.ok.funs.mem hb
    exact I.base.free b o ho (I.ok.frf b hb) fun z => I.ok.exfs b z hb

/-- THE STEP: the untracked objects but the frame and the records at ch are kept (the callers' frames up to slots), the frame's map is kept, the new abstract heap is held -/
theorem Inv.step {g' : Array GenState} {t' : Nat} {d' : Drawn} {ch : List Addr} (I : Inv X pins σ H s)
    (hch : ∀ b ∈ ch, (b ∈ X.ex ∨ X.s₀.heap.objs.size ≤ b) ∧ b ≠ X.env.locals ∧ (∀ x c, X.env.cells.lookup x = some c → c ≠ b) ∧ ∀ p ∈ X.pn ++ pins, p.1 ≠ b)
    (keep : ∀ b o, b ≠ X.env.locals → b ∉ X.fs → b ∉ ch → s.heap.get? b = some o → H b = none → h'.get? b = some o)
    (slot : ∀ b o, b ≠ X.env.locals → b ∈ X.fs → b ∉ ch → s.heap.get? b = some o → H b = none → ∃ sl, h'.get? b = some { o with slots := sl }) (free : ∀ b o, b ∉ ch → s.heap.get? b = some o → H b = none → H' b = none)
    (there : ∀ b o, b ∉ ch → s.heap.get? b = some o → ∃ o', h'.get? b = some o')
    (tups : ∀ b xs, H b = some (.tup xs) → H' b = some (.tup xs)) (frzs : ∀ b o u, H b = some (.frz o u) → H' b = some (.frz o u)) (tbls : ∀ b ps, H b = some (.tbl ps) → ∃ more, H' b = some (.tbl (ps ++ more)))
    (ns : ∀ m, s.heap.Ns X.env.locals m → h'.Ns X.env.locals m) (hok : HOk X.prog X.w H' h') (hg : AllBare g') :
    Inv X pins σ H' { s with heap := h', gens := g', drawn := d', toks := t' } := by
  have neL : ∀ b o, X.s₀.heap.get? b = some o → b ≠ X.env.locals := fun b o e => Nat.ne_of_lt (Nat.lt_of_lt_of_le (Heap.lt_size e) I.ok.above)
  have neC : ∀ b o, X.s₀.heap.get? b = some o → b ∉ X.ex → b ∉ ch := fun b o e hx hb => by
    rcases (hch b hb).1 with z | z
    · exact hx z
    · exact absurd (Nat.lt_of_lt_of_le (Heap.lt_size e) z) (Nat.lt_irrefl _)
  have cellK : ∀ x c, X.env.cells.lookup x = some c → ∀ v, s.heap.IsCell c v → h'.IsCell c v := fun x c e v ⟨o, ho, hd⟩ => by
    have nch : c ∉ ch := fun z => (hch c z).2.2.1 x c e rfl
    by_cases hc : c ∈ X.fs
    · obtain ⟨sl, q⟩ := slot c o (I.cne x c e) hc nch ho (I.freeC x c e)
      exact ⟨_, q, hd⟩
    · exact ⟨o, keep c o (I.cne x c e) hc nch ho (I.freeC x c e), hd⟩
  refine ⟨I.ok, I.os, hg, ⟨fun b o e n hb hx => ?_, fun b o e n hb hx => ?_, fun b o e n hx => ?_, fun b o e hx => ?_, fun b xs e => tups b xs (I.base.tups b xs e), fun b o xs e => frzs b o xs (I.base.frzs b o xs e), fun b ps e => ?_⟩, ?_, fun x c e => ?_, ?_, fun x c e => ?_, fun p hp => ?_, hok, I.len⟩
  · exact keep b o (neL b o e) hb (neC b o e hx) (I.base.keep b o e n hb hx) (I.base.free b o e n hx)
  · obtain ⟨sl, e1⟩ := I.base.slot b o e n hb hx
    obtain ⟨sl', e2⟩ := slot b _ (neL b o e) hb (neC b o e hx) e1 (I.base.free b o e n hx)
    exact ⟨sl', e2⟩
  · obtain ⟨o', e1⟩ := I.base.there b o e hx
    exact free b o' (neC b o e hx) e1 (I.base.free b o e n hx)
  · obtain ⟨o', e1⟩ := I.base.there b o e hx
    exact there b o' (neC b o e hx) e1
  · obtain ⟨m1, e1⟩ := I.base.tbls b ps e
    obtain ⟨m2, e2⟩ := tbls b _ e1
    exact ⟨m1 ++ m2, by rw [e2, Array.append_assoc]⟩
  · obtain ⟨m, hn, hl⟩ := I.loc
    refine ⟨m, ns m hn, fun i x v e1 e2 e3 => ?_⟩
    obtain ⟨u, r, l⟩ := hl i x v e1 e2 e3
    refine ⟨u, r, ?_⟩
    rcases l with l | ⟨k, c, e, z⟩
    · exact .inl l
    · exact .inr ⟨k, c, e, cellK x c e _ z⟩
  · obtain ⟨v, z⟩ := I.cell x c e
    exact ⟨v, cellK x c e v z⟩
  · obtain ⟨m, ⟨o, _, _, ho, _⟩, _⟩ := I.loc
    exact free _ o (fun z => (hch _ z).2.1 rfl) ho I.free
  · obtain ⟨v, o, ho, hd⟩ := I.cell x c e
    exact free c o (fun z => (hch c z).2.2.1 x c e rfl) ho (I.freeC x c e)
  · obtain ⟨e, n, ne, nf, d⟩ := I.pin p hp
    have nch : p.1 ∉ ch := fun z => (hch p.1 z).2.2.2 p hp rfl
    exact ⟨keep p.1 p.2 ne nf nch e n, free p.1 p.2 nch e n, ne, nf, d⟩
/-- .. where the frame's own object is kept too -/
theorem Inv.un {t' : Nat} (I : Inv X pins σ H s) (u : Un X.fs [] H H' s.heap h') (hok : HOk X.prog X.w H' h') : Inv X pins σ H' { s with heap := h', toks := t' } := by
  obtain ⟨m, ⟨o, es, ep, ho, r⟩, _⟩ := id I.loc
  obtain ⟨sl, hL⟩ := u.any ho I.free (by simp)
  exact I.step (g' := s.gens) (d' := s.drawn) (ch := []) (fun _ z => nomatch z) (fun b o _ hb _ e n => u.keep b o e n hb (by simp)) (fun b o _ hb _ e n => u.slot b o e n hb (by simp)) (fun b o _ e n => u.free b o e n (by simp)) (fun b o _ e => u.there b o e (by simp)) u.tups u.frzs u.tbls (fun m' hm => by
    obtain ⟨o', es', ep', ho', r'⟩ := hm
    rw [ho] at ho'; cases ho'
    exact ⟨_, es', ep', hL, r'⟩) hok I.bare
/-- behind a call (or a comprehension's block): the slots of this frame may have changed too, the records at ch may have turned -/
theorem Inv.call {g' : Array GenState} {t' : Nat} {d' : Drawn} {ch : List Addr} (I : Inv X pins σ H s) (u : Un (frs X.stack) ch H H' s.heap h') (hok : HOk X.prog X.w H' h') (hg : AllBare g')
    (hch : ∀ b ∈ ch, (b ∈ X.ex ∨ X.s₀.heap.objs.size ≤ b) ∧ b ≠ X.env.locals ∧ (∀ x c, X.env.cells.lookup x = some c → c ≠ b) ∧ ∀ p ∈ X.pn ++ pins, p.1 ≠ b) :
    Inv X pins σ H' { s with heap := h', gens := g', drawn := d', toks := t' } := by
  obtain ⟨m, ⟨o, es, ep, ho, r⟩, _⟩ := id I.loc
  obtain ⟨sl, hL⟩ := u.any ho I.free fun z => (hch _ z).2.1 rfl
  exact I.step (ch := ch) hch (fun b o hL hb hc e n => u.keep b o e n (fun z => (List.mem_cons.mp (I.stkSub b z)).elim hL hb) hc) (fun b o _ _ hc e n => u.any e n hc) (fun b o hc e n => u.free b o e n hc) (fun b o hc e => u.there b o e hc) u.tups u.frzs u.tbls (fun m' hm => by
    obtain ⟨o', es', ep', ho', r'⟩ := hm
    rw [ho] at ho'; cases ho'
    exact ⟨_, es', ep', hL, r'⟩) hok hg
/-- an untracked record of ours (an iterator) has turned -/
theorem Inv.turned {t' : Nat} {it : Addr} (I : Inv X pins σ H s) (k : ∀ b o, b ≠ it → s.heap.get? b = some o → h'.get? b = some o) (hn : H it = none) (hL : it ≠ X.env.locals)
    (h1 : it ∈ X.ex ∨ X.s₀.heap.objs.size ≤ it) (h2 : ∀ x c, X.env.cells.lookup x = some c → c ≠ it) (h3 : ∀ p ∈ X.pn ++ pins, p.1 ≠ it) : Inv X pins σ H { s with heap := h', toks := t' } := by
  have nit : ∀ b u, H b = some u → b ≠ it := fun b u e z => by rw [z, hn] at e; cases e
  refine I.step (g' := s.gens) (d' := s.drawn) (ch := [it]) (fun b hb => ?_) (fun b o _ _ hc e _ => k b o (fun z => hc (by simp [z])) e) (fun b o _ _ hc e _ => ⟨o.slots, k b o (fun z => hc (by simp [z])) e⟩) (fun _ _ _ _ n => n)
    (fun b o hc e => ⟨o, k b o (fun z => hc (by simp [z])) e⟩) (fun _ _ e => e) (fun _ _ _ e => e) (fun b ps e => ⟨#[], by rw [e]; simp⟩) (fun m hm => ?_) (fun b u e => ?_) I.bare
  · have e : b = it := by simpa using hb
    subst e
    exact ⟨h1, hL, h2, h3⟩
  · obtain ⟨o, es, ep, ho, r⟩ := hm
    exact ⟨o, es, ep, k _ o (Ne.symm hL) ho, r⟩
  · refine (I.hok b u e).stay (fun c v hc q => k c v ?_ q) (fun _ q => q) fun _ _ q => q
    rcases hc with z | z
    · rw [z]; exact nit b u e
    · exact nit c _ z
theorem Inv.tok (I : Inv X pins σ H s) (t : Nat) : Inv X pins σ H { s with toks := t } := I.un (h' := s.heap) (t' := t) Un.refl I.hok
/-- all objects kept -/
theorem Inv.kept {t' : Nat} (I : Inv X pins σ H s) (k : ∀ b u, s.heap.get? b = some u → h'.get? b = some u) : Inv X pins σ H { s with heap := h', toks := t' } := I.un (Un.kept k) (I.hok.kept k)
/-- a new object laid and tracked -/
theorem Inv.laid {a : Addr} {o : HO} {t' : Nat} (I : Inv X pins σ H s) (k : ∀ b u, s.heap.get? b = some u → h'.get? b = some u) (hp : s.heap.objs.size ≤ a) (new : ObjOk X.prog X.w (upd H a o) h' a o) :
    Inv X pins σ (upd H a o) { s with heap := h', toks := t' } := I.un (Un.laid k hp (I.hok.fresh hp)) (I.hok.laid k hp new)
/-- an object written -/
theorem Inv.write {x e : Addr} {o : HO} {t' : Nat} (I : Inv X pins σ H s) (mu : Mut (H x)) (he : e = x ∨ H e = some (.own x)) (k : ∀ b u, b ≠ e → s.heap.get? b = some u → h'.get? b = some u) (heo : ∃ u, h'.get? e = some u)
    (new : ObjOk X.prog X.w (upd H x o) h' x o) : Inv X pins σ (upd H x o) { s with heap := h', toks := t' } := I.un (Un.write mu he k heo) (I.hok.write mu he k heo new)
/-- forgetting slots, pins -/
theorem Inv.weak {σ' : List (Option V)} (I : Inv X pins σ H s) (hl : σ'.length = σ.length) (w : ∀ (i : Nat) v, σ'[i]? = some (some v) → σ[i]? = some (some v)) : Inv X pins σ' H s :=
  ⟨I.ok, I.os, I.bare, I.base, let ⟨m, hn, hl'⟩ := I.loc; ⟨m, hn, fun i x v e1 e2 e3 => hl' i x v e1 (w i v e2) e3⟩, I.cell, I.free, I.freeC, I.pin, I.hok, hl.trans I.len⟩
theorem Inv.pins_of {pins' : List (Addr × Obj)} (I : Inv X pins σ H s) (h : ∀ p ∈ pins', s.heap.get? p.1 = some p.2 ∧ H p.1 = none ∧ p.1 ≠ X.env.locals ∧ p.1 ∉ X.fs ∧ ∀ v, p.2.data ≠ .cell v) : Inv X pins' σ H s :=
  ⟨I.ok, I.os, I.bare, I.base, I.loc, I.cell, I.free, I.freeC, fun p hp => (List.mem_append.mp hp).elim (fun z => I.pin p (List.mem_append_left _ z)) (h p), I.hok, I.len⟩

theorem nodup_ix {N : List Str} (hN : N.Nodup) {i j : Nat} {x : Str} (a : N[i]? = some x) (b : N[j]? = some x) : i = j := by
  obtain ⟨h1, e1⟩ := List.getElem?_eq_some_iff.mp a
  obtain ⟨h2, e2⟩ := List.getElem?_eq_some_iff.mp b
  exact (List.getElem_inj hN).mp (e1.trans e2.symm)

/-- a name is stored; what changed -/
theorem store_ok2 {M : Model} {A : Around} {E : Value → Shared → Prop} {i : Nat} {x : Str} {v : V} {u : Value} {Q : Unit → Shared → Prop} (I : Inv X pins σ H s) (hN : X.N.Nodup) (hi : X.N[i]? = some x) (hx : Loc X.env.scope x) (r : RelV v u)
    (h : ∀ s', Inv X pins (σ.set i (some v)) H s' → (∃ a, Heap.SameBut a s.heap s'.heap ∧ (a = X.env.locals ∨ X.env.cells.lookup x = some a)) → Q () s') (hf : X.fn x = true ∨ X.env.scope.names.lookup x = some .local := by first | exact .inl rfl | exact .inr rfl | assumption) : wpAny M A (storeName X.env x u) Q E s := by
  obtain ⟨m, hn, hl⟩ := id I.loc
  have hcls : (X.env.scope.kind == .class || (X.env.scope.kind == .module && X.env.locals != X.env.globals)) = false := by rw [I.ok.kind]; rfl
  have hiσ : i < σ.length := by rw [I.len]; exact (List.getElem?_eq_some_iff.mp hi).1
  have cne := I.cne
  have tracked : ∀ {a : Addr} {h' : Heap}, (∃ o, s.heap.get? a = some o ∧ H a = none) → Heap.SameBut a s.heap h' → HOk X.prog X.w H h' := fun {a h'} ha hs b ob e => by
    obtain ⟨_, _, hfree⟩ := ha
    refine (I.hok b ob e).stay (fun c w' hc q => (hs.2 c ?_).trans q) (fun _ q => q) fun _ _ q => q
    rintro rfl
    rcases hc with rfl | hc
    · rw [hfree] at e; cases e
    · rw [hfree] at hc; cases hc
  rcases hx with hk | hk
  · refine wpAny_storeName_local hk hn (fun h' hn' hs => ?_) hcls
    obtain ⟨oL, _, _, hoL, _⟩ := id hn
    refine h _ ⟨I.ok, I.os, I.bare, ⟨fun b o e n hb hx => ?_, fun b o e n hb hx => ?_, I.base.free, fun b o e hx => ?_, I.base.tups, I.base.frzs, I.base.tbls⟩, ⟨_, hn', fun j y v' e1 e2 e3 => ?_⟩, fun y c e => ?_, I.free, I.freeC, fun p hp => ?_, tracked ⟨oL, hoL, I.free⟩ hs, by simpa using I.len⟩ ⟨_, hs, .inl rfl⟩
    · exact (hs.2 b (Nat.ne_of_lt (Nat.lt_of_lt_of_le (Heap.lt_size e) I.ok.above))).trans (I.base.keep b o e n hb hx)
    · obtain ⟨sl, e1⟩ := I.base.slot b o e n hb hx
      exact ⟨sl, (hs.2 b (Nat.ne_of_lt (Nat.lt_of_lt_of_le (Heap.lt_size e) I.ok.above))).trans e1⟩
    · obtain ⟨o', e1⟩ := I.base.there b o e hx
      exact ⟨o', (hs.2 b (Nat.ne_of_lt (Nat.lt_of_lt_of_le (Heap.lt_size e) I.ok.above))).trans e1⟩
    · by_cases hj : j = i
      · subst hj
        rw [hi] at e1; cases e1
        rw [List.getElem?_set_self hiσ] at e2
        cases e2
        exact ⟨u, r, .inl ⟨hk, by simp⟩⟩
      · rw [List.getElem?_set_ne (Ne.symm hj)] at e2
        obtain ⟨u', r', q⟩ := hl j y v' e1 e2 e3
        refine ⟨u', r', ?_⟩
        rcases q with ⟨k, e⟩ | ⟨k, c, e, z⟩
        · refine .inl ⟨k, ?_⟩
          have : y ≠ x := fun e => hj (nodup_ix hN e1 (e ▸ hi))
          simp [this, e]
        · exact .inr ⟨k, c, e, z.sameBut hs (cne y c e)⟩
    · obtain ⟨w', z⟩ := I.cell y c e
      exact ⟨w', z.sameBut hs (cne y c e)⟩
    · obtain ⟨e, n, ne, nf, d⟩ := I.pin p hp
      exact ⟨(hs.2 p.1 ne).trans e, n, ne, nf, d⟩
  · have hfn : X.fn x = true := by
      rcases hf with z | z
      · exact z
      · rw [z] at hk; cases hk
    obtain ⟨c, hc⟩ := I.ok.has x (.inl hk)
    obtain ⟨w', z⟩ := I.cell x c hc
    refine wpAny_storeName_cell I.ok.kind hk hc z (fun h' hc' hs => ?_)
    obtain ⟨oc, hoc, hocd⟩ := id z
    refine h { s with heap := h' } ⟨I.ok, I.os, I.bare, ⟨fun b o e n hb hx => ?_, fun b o e n hb hx => ?_, I.base.free, fun b o e hx => ?_, I.base.tups, I.base.frzs, I.base.tbls⟩, ⟨m, hn.sameBut hs (Ne.symm (cne x c hc)), fun j y v' e1 e2 e3 => ?_⟩, fun y c' e => ?_, I.free, I.freeC, fun p hp => ?_, tracked ⟨oc, hoc, I.freeC x c hc⟩ hs, by simpa using I.len⟩ ⟨c, hs, .inr hc⟩
    · exact (hs.2 b (Nat.ne_of_lt (Nat.lt_of_lt_of_le (Heap.lt_size e) (I.ok.cab x c hfn hc)))).trans (I.base.keep b o e n hb hx)
    · obtain ⟨sl, e1⟩ := I.base.slot b o e n hb hx
      exact ⟨sl, (hs.2 b (Nat.ne_of_lt (Nat.lt_of_lt_of_le (Heap.lt_size e) (I.ok.cab x c hfn hc)))).trans e1⟩
    · obtain ⟨o', e1⟩ := I.base.there b o e hx
      exact ⟨o', (hs.2 b (Nat.ne_of_lt (Nat.lt_of_lt_of_le (Heap.lt_size e) (I.ok.cab x c hfn hc)))).trans e1⟩
    · by_cases hj : j = i
      · subst hj
        rw [hi] at e1; cases e1
        rw [List.getElem?_set_self hiσ] at e2
        cases e2
        exact ⟨u, r, .inr ⟨.inl hk, c, hc, hc'⟩⟩
      · rw [List.getElem?_set_ne (Ne.symm hj)] at e2
        obtain ⟨u', r', q⟩ := hl j y v' e1 e2 e3
        refine ⟨u', r', ?_⟩
        rcases q with q | ⟨k, c', e, z'⟩
        · exact .inl q
        · refine .inr ⟨k, c', e, z'.sameBut hs ?_⟩
          rintro rfl
          exact hj (nodup_ix hN e1 (I.ok.inj _ _ _ e hc ▸ hi))
    · by_cases hcc : c' = c
      · subst hcc; exact ⟨_, hc'⟩
      · obtain ⟨w2, z2⟩ := I.cell y c' e
        exact ⟨w2, z2.sameBut hs hcc⟩
    · obtain ⟨e, n, ne, nf, d⟩ := I.pin p hp
      refine ⟨(hs.2 p.1 ?_).trans e, n, ne, nf, d⟩
      intro q
      rw [q, hoc] at e
      have q' : oc = p.2 := Option.some.inj e
      exact d w' (by rw [← q']; exact hocd)
theorem store_ok {M : Model} {A : Around} {E : Value → Shared → Prop} {i : Nat} {x : Str} {v : V} {u : Value} {Q : Unit → Shared → Prop} (I : Inv X pins σ H s) (hN : X.N.Nodup) (hi : X.N[i]? = some x) (hx : Loc X.env.scope x) (r : RelV v u)
    (h : ∀ s', Inv X pins (σ.set i (some v)) H s' → Q () s') (hf : X.fn x = true ∨ X.env.scope.names.lookup x = some .local := by first | exact .inl rfl | exact .inr rfl | assumption) : wpAny M A (storeName X.env x u) Q E s :=
  store_ok2 I hN hi hx r (fun s' I' _ => h s' I') hf
/-- behind a call or a block, the state as it is -/
theorem Inv.call' {s' : Shared} {ch : List Addr} (I : Inv X pins σ H s) (ho : s'.os = s.os) (u : Un (frs X.stack) ch H H' s.heap s'.heap) (hok : HOk X.prog X.w H' s'.heap) (hg : AllBare s'.gens)
    (hch : ∀ b ∈ ch, (b ∈ X.ex ∨ X.s₀.heap.objs.size ≤ b) ∧ b ≠ X.env.locals ∧ (∀ x c, X.env.cells.lookup x = some c → c ≠ b) ∧ ∀ p ∈ X.pn ++ pins, p.1 ≠ b) : Inv X pins σ H' s' := by
  obtain ⟨h', g', d', t', o'⟩ := s'
  have e : o' = s.os := ho
  subst e
  exact I.call (g' := g') (t' := t') (d' := d') u hok hg hch
end

/-! ### the judgements -/
/-- an exception: its class, its own dict's address (where it has one), the abstract heap behind it -/
abbrev XK := Value → Option Addr → Hp → Prop
abbrev St := List (Option V)
abbrev VK := V → Hp → Prop
/-- an expression's reading; a test's; an argument list's -/
abbrev TE := St → Hp → VK → Prop
abbrev TT := St → Hp → (Bool → Hp → Prop) → Prop
abbrev TA := St → Hp → (List V → Hp → Prop) → Prop
/-- what is wanted behind a statement -/
structure Ends where
  nx : St → Hp → Prop
  rt : VK
  bk : St → Hp → Prop := fun _ _ => False
  ct : St → Hp → Prop := fun _ _ => False
abbrev TS := Ends → St → Hp → Prop

def EP (X : Cx) (pins : List (Addr × Obj)) (σ : St) (Q : VK) (u : Value) (s' : Shared) : Prop := ∃ v H', Inv X pins σ H' s' ∧ RelV v u ∧ Q v H'
def TP (X : Cx) (pins : List (Addr × Obj)) (σ : St) (Q : Bool → Hp → Prop) (b : Bool) (s' : Shared) : Prop := ∃ H', Inv X pins σ H' s' ∧ Q b H'
def AP (X : Cx) (pins : List (Addr × Obj)) (σ : St) (Q : List V → Hp → Prop) (us : List Value) (s' : Shared) : Prop := ∃ vs H', Inv X pins σ H' s' ∧ Vals vs us ∧ Q vs H'
def SP (X : Cx) (pins : List (Addr × Obj)) (D : Ends) (f : Flow) (s' : Shared) : Prop :=
  match f with
  | .next => ∃ σ' H', Inv X pins σ' H' s' ∧ D.nx σ' H'
  | .brk => ∃ σ' H', Inv X pins σ' H' s' ∧ D.bk σ' H'
  | .cont => ∃ σ' H', Inv X pins σ' H' s' ∧ D.ct σ' H'
  | .ret u => ∃ v σ' H', Inv X pins σ' H' s' ∧ RelV v u ∧ D.rt v H'

def PE (X : Cx) (e : Expr) (t : TE) : Prop :=
  ∀ (pins : List (Addr × Obj)) (s : Shared) (σ : St) (H : Hp) (Q : VK), Inv X pins σ H s → t σ H Q → wpAny (model X.prog X.w) X.A (eval e X.env) (EP X pins σ Q) X.xe s
def PT (X : Cx) (e : Expr) (t : TT) : Prop :=
  ∀ (pins : List (Addr × Obj)) (s : Shared) (σ : St) (H : Hp) (Q : Bool → Hp → Prop), Inv X pins σ H s → t σ H Q → wpAny (model X.prog X.w) X.A (isTrue e X.env (eval e X.env)) (TP X pins σ Q) X.xe s
/-- a test whatever its 'whole' is (and, or) -/
def PW (X : Cx) (e : Expr) (t : TT) : Prop :=
  ∀ (whole : Sem Value) (pins : List (Addr × Obj)) (s : Shared) (σ : St) (H : Hp) (Q : Bool → Hp → Prop), Inv X pins σ H s → t σ H Q → wpAny (model X.prog X.w) X.A (isTrue e X.env whole) (TP X pins σ Q) X.xe s
theorem PW.pt {X : Cx} {e : Expr} {t : TT} (h : PW X e t) : PT X e t := h _
/-- an argument list (no star), from the left -/
def PA (X : Cx) (es : List Expr) (t : TA) : Prop :=
  ∀ (pos : Pos) (pins : List (Addr × Obj)) (s : Shared) (σ : St) (H : Hp) (Q : List V → Hp → Prop), Inv X pins σ H s → t σ H Q → wpAny (model X.prog X.w) X.A (spliced (backTo pos (starEach es X.env))) (AP X pins σ Q) X.xe s
def PS (X : Cx) (st : Stmt) (t : TS) : Prop :=
  ∀ (pins : List (Addr × Obj)) (s : Shared) (σ : St) (H : Hp) (D : Ends), Inv X pins σ H s → t D σ H → wpAny (model X.prog X.w) X.A (exec st X.env) (SP X pins D) X.xe s
def PSs (X : Cx) (st : List Stmt) (t : TS) : Prop :=
  ∀ (pins : List (Addr × Obj)) (s : Shared) (σ : St) (H : Hp) (D : Ends), Inv X pins σ H s → t D σ H → wpAny (model X.prog X.w) X.A (execs st X.env) (SP X pins D) X.xe s
/-- weaken the end -/
theorem thn {α : Type} {t : Sem α} {Q Q' : α → Shared → Prop} {M : Model} {A : Around} {E : Value → Shared → Prop} {s : Shared} (h : wpAny M A t Q E s) (hQ : ∀ a s, Q a s → Q' a s) : wpAny M A t Q' E s := wpAny_mono h hQ fun _ _ x => x
end L2

namespace L2
open PySem PySem.Spec PyProof.Rows
section
variable {X : Cx}

/-! ### names and constants -/
def tVar (i : Nat) : TE := fun σ H Q => ∃ v, σ[i]? = some (some v) ∧ Q v H
def tC (v : V) : TE := fun _ H Q => Q v H
theorem pe_var {i : Nat} {x : Str} {pos : Pos} (hN : X.N[i]? = some x) (hv : Vis X.env.scope x) (hd : (x == ("__debug__" : Str)) = false := by decide) (hcd : (x == ("__classdict__" : Str)) = false := by decide) : PE X (.Name x pos) (tVar i) := by
  intro pins s σ H Q I h
  obtain ⟨v, e, h⟩ := h
  obtain ⟨m, hn, hl⟩ := I.loc
  obtain ⟨u, r, l⟩ := hl i x v hN e hv
  have fin : EP X pins σ Q u s := ⟨v, H, I, r, h⟩
  rcases l with ⟨hk, hm⟩ | ⟨hk, c, hc, hcell⟩
  · exact wpAny_Name (wpAny_loadName_local I.ok.kind hk hn hm fin) hd
  · rcases hk with hk | hk
    · exact wpAny_Name (wpAny_loadName_cell I.ok.kind hk hc hcell fin) hd
    · exact wpAny_Name (wpAny_loadName_free I.ok.kind hk hc hcell fin hcd) hd
theorem pe_int {i j pos} : PE X (.Constant (.int i) j pos) (tC (.int i)) := fun _ _ _ H _ I h => wpAny_Constant_int ⟨.int i, H, I.tok _, ⟨_, rfl⟩, h⟩
theorem pe_bl {b j pos} : PE X (.Constant (.bool b) j pos) (tC (.bl b)) := fun _ _ _ H _ I h => Constant_bool ⟨.bl b, H, I, rfl, h⟩
theorem pe_non {j pos} : PE X (.Constant .none j pos) (tC .non) := fun _ _ _ H _ I h => Constant_none ⟨.non, H, I, rfl, h⟩
theorem pe_str {x j pos} : PE X (.Constant (.str x) j pos) (tC (.str x)) := fun _ _ _ H _ I h => Calls.Constant_str ⟨.str x, H, I.tok _, ⟨_, rfl⟩, h⟩

/-- a global name of the def -/
def Gl (X : Cx) (x : Str) : Prop := X.env.kindOf x = some .globalImplicit
theorem ld_glob {E : Value → Shared → Prop} {pins : List (Addr × Obj)} {s : Shared} {σ : St} {H : Hp} {x : Str} {u : Value} {pos : Pos} {Q : Value → Shared → Prop} (I : Inv X pins σ H s) (hg : Gl X x) (hm : X.mg x = some u) (h : Q u s)
    (hd : (x == ("__debug__" : Str)) = false := by decide) : wpAny (model X.prog X.w) X.A (eval (.Name x pos) X.env) Q E s :=
  Calls.Name_function_global I.ok.kind hg (Calls.loadGlobal_global (by rw [I.ok.glob]; exact I.mod.glob.keeps I.bk) hm h) hd
theorem ld_blt {E : Value → Shared → Prop} {pins : List (Addr × Obj)} {s : Shared} {σ : St} {H : Hp} {x : Str} {u : Value} {pos : Pos} {Q : Value → Shared → Prop} (I : Inv X pins σ H s) (hg : Gl X x) (hm : X.mg x = none) (hv : bootBuiltins x = some u) (h : Q u s)
    (hn : x ≠ "__name__" := by decide) (hd : (x == ("__debug__" : Str)) = false := by decide) : wpAny (model X.prog X.w) X.A (eval (.Name x pos) X.env) Q E s := by
  obtain ⟨mb, h1, h2⟩ := I.mod.blt
  exact Calls.Name_function_global I.ok.kind hg (Calls.loadGlobal_builtin (by rw [I.ok.glob]; exact I.mod.glob.keeps I.bk) hm (by rw [I.ok.blt]; exact h1.keeps I.bk) ((h2 x hn).trans hv) h) hd
/-- a module's constant, a class, a function, as a value -/
theorem pe_glob {x : Str} {v : V} {u : Value} {pos : Pos} (hg : Gl X x) (hm : X.mg x = some u) (r : RelV v u) (hd : (x == ("__debug__" : Str)) = false := by decide) : PE X (.Name x pos) (tC v) :=
  fun _ _ _ H _ I h => ld_glob I hg hm ⟨v, H, I, r, h⟩ hd
theorem pe_bltn {x : Str} {v : V} {u : Value} {pos : Pos} (hg : Gl X x) (hm : X.mg x = none) (hv : bootBuiltins x = some u) (r : RelV v u) (hn : x ≠ "__name__" := by decide) (hd : (x == ("__debug__" : Str)) = false := by decide) : PE X (.Name x pos) (tC v) :=
  fun _ _ _ H _ I h => ld_blt I hg hm hv ⟨v, H, I, r, h⟩ hn hd

/-! ### arithmetic -/
/-- two ints -/
def t2I (ta tb : TE) (k : Int → Int → Hp → Prop) : St → Hp → Prop := fun σ H => ta σ H fun x H1 => tb σ H1 fun y H2 => ∃ i j, x = .int i ∧ y = .int j ∧ k i j H2
def tAdd (ta tb : TE) : TE := fun σ H Q => t2I ta tb (fun i j H2 => Q (.int (i + j)) H2) σ H
def tSub (ta tb : TE) : TE := fun σ H Q => t2I ta tb (fun i j H2 => Q (.int (i - j)) H2) σ H
/-- the left factor below 2^64 -/
def tMul (ta tb : TE) : TE := fun σ H Q => t2I ta tb (fun i j H2 => (-(2 ^ 64) < i ∧ i < 2 ^ 64) ∧ Q (.int (i * j)) H2) σ H
variable {a b : Expr} {ta tb : TE} {pos : Pos}
/-! ### comparisons -/
def PC (X : Cx) (op : CmpOp) (a b : Expr) (t : TE) : Prop :=
  ∀ (pins : List (Addr × Obj)) (s : Shared) (σ : St) (H : Hp) (Q : VK), Inv X pins σ H s → t σ H Q →
    wpAny (model X.prog X.w) X.A (eval a X.env) (fun v s₁ => wpAny (model X.prog X.w) X.A (eval b X.env) (fun u s₂ => wpAny (model X.prog X.w) X.A (compareOp op v u) (EP X pins σ Q) X.xe s₂) X.xe s₁) X.xe s
theorem nobehind (b : Expr) {op : CmpOp} (h : op ≠ .In) (h2 : op ≠ .NotIn) : behindInMarks op b = false := by
  have e1 : (op == CmpOp.In) = false := by cases op <;> first | rfl | exact absurd rfl h
  have e2 : (op == CmpOp.NotIn) = false := by cases op <;> first | rfl | exact absurd rfl h2
  cases b <;> simp [behindInMarks, e1, e2]
def tCmp (p : Int → Int → Bool) (ta tb : TE) : TE := fun σ H Q => t2I ta tb (fun i j H2 => Q (.bl (p i j)) H2) σ H
abbrev tLt : TE → TE → TE := tCmp fun i j => decide (i < j)
abbrev tLe : TE → TE → TE := tCmp fun i j => decide (i ≤ j)
abbrev tGt : TE → TE → TE := tCmp fun i j => decide (j < i)
abbrev tGe : TE → TE → TE := tCmp fun i j => decide (j ≤ i)
abbrev tEqI : TE → TE → TE := tCmp fun i j => decide (i = j)
abbrev tNeI : TE → TE → TE := tCmp fun i j => !decide (i = j)
/-- is None -/
def tIsN (ta : TE) : TE := fun σ H Q => ta σ H fun x H1 => Q (.bl (decide (x = .non))) H1
def tNotN (ta : TE) : TE := fun σ H Q => ta σ H fun x H1 => Q (.bl (!decide (x = .non))) H1
theorem RelV.none_iff {x : V} {v : Value} (r : RelV x v) : (v == Value.none) = decide (x = .non) := by
  cases x with
  | non => cases r; rfl
  | bl _ => cases r; rfl
  | int _ => obtain ⟨t, rfl⟩ := r; rfl
  | str _ => obtain ⟨t, rfl⟩ := r; rfl
  | byt _ => obtain ⟨t, rfl⟩ := r; rfl
  | flt _ => obtain ⟨t, rfl⟩ := r; rfl
  | ref _ => cases r; rfl
  | ty _ => cases r; rfl
theorem pc_isN {j pos'} (ha : PE X a ta) : PC X .Is a (.Constant .none j pos') (tIsN ta) := by
  intro pins s σ H Q I h
  refine thn (ha pins s σ H _ I h) fun v s1 ⟨x, H1, I1, r1, q1⟩ => ?_
  exact Constant_none (is_none_gen ⟨.bl _, H1, I1, by rw [r1.none_iff]; rfl, q1⟩)
theorem pc_notN {j pos'} (ha : PE X a ta) : PC X .IsNot a (.Constant .none j pos') (tNotN ta) := by
  intro pins s σ H Q I h
  refine thn (ha pins s σ H _ I h) fun v s1 ⟨x, H1, I1, r1, q1⟩ => ?_
  exact Constant_none (isnot_none_gen ⟨.bl _, H1, I1, by rw [r1.none_iff]; rfl, q1⟩)
/-- a comparison as a value, as a test -/
def tB (t : TE) : TT := fun σ H Q => t σ H fun x H1 => ∃ c, x = .bl c ∧ Q c H1
theorem pt_cmp {op : CmpOp} {t : TE} (h : PC X op a b t) (h1 : behindInMarks op b = false := by first | exact nobehind _ (by decide) (by decide) | rfl) : PT X (.Compare a [op] [b] pos) (tB t) := by
  intro pins s σ H Q I hw
  refine wpAny_isTrue_Compare1 (thn (h pins s σ H _ I hw) fun v s1 h1 => thn h1 fun u s2 h2 => thn h2 fun c s3 ⟨x, H1, I1, r1, q1⟩ => ?_) h1
  obtain ⟨d, rfl, q⟩ := q1
  cases r1
  exact wpAny_truthy_bool ⟨H1, I1, q⟩
/-- an expression whose value is a bool, as a test -/
theorem pt_val {e : Expr} {t : TE} (h : PE X e t) (he : ∀ whole, isTrue e X.env whole = (do let v ← whole; standAt e.pos; holding [v] (truthy v)) := by intro _; rfl) : PT X e (tB t) := by
  intro pins s σ H Q I hw
  refine isTrue_plain (thn (h pins s σ H _ I hw) fun v s1 ⟨x, H1, I1, r1, q1⟩ => ?_) (he _)
  obtain ⟨d, rfl, q⟩ := q1
  cases r1
  exact wpAny_truthy_bool ⟨H1, I1, q⟩

/-! ### and, or, not -/
variable {tA tB' : TT} {rest : List Expr}
def tAnd (t u : TT) : TT := fun σ H Q => t σ H fun c H1 => if c = true then u σ H1 Q else Q false H1
def tOr (t u : TT) : TT := fun σ H Q => t σ H fun c H1 => if c = true then Q true H1 else u σ H1 Q
def tNot (t : TT) : TT := fun σ H Q => t σ H fun c H1 => Q (!c) H1
theorem pw_and1 (ha : PT X a tA) : PW X (.BoolOp .And [a] pos) tA := by
  intro wh pins s σ H Q I h
  refine isTrue_and (thn (ha pins s σ H Q I h) fun c s1 e => ?_)
  cases c with
  | true => exact isTrue_and_nil e
  | false => exact e
theorem pw_or1 (ha : PT X a tA) : PW X (.BoolOp .Or [a] pos) tA := by
  intro wh pins s σ H Q I h
  refine isTrue_or (thn (ha pins s σ H Q I h) fun c s1 e => ?_)
  cases c with
  | false => exact isTrue_or_nil e
  | true => exact e
theorem pw_and (ha : PT X a tA) (hb : PW X (.BoolOp .And (b :: rest) pos) tB') : PW X (.BoolOp .And (a :: b :: rest) pos) (tAnd tA tB') := by
  intro wh pins s σ H Q I h
  refine isTrue_and (thn (ha pins s σ H _ I h) fun c s1 ⟨H1, I1, q1⟩ => ?_)
  cases c with
  | true => exact hb wh pins s1 σ H1 Q I1 q1
  | false => exact ⟨H1, I1, q1⟩
theorem pw_or (ha : PT X a tA) (hb : PW X (.BoolOp .Or (b :: rest) pos) tB') : PW X (.BoolOp .Or (a :: b :: rest) pos) (tOr tA tB') := by
  intro wh pins s σ H Q I h
  refine isTrue_or (thn (ha pins s σ H _ I h) fun c s1 ⟨H1, I1, q1⟩ => ?_)
  cases c with
  | true => exact ⟨H1, I1, q1⟩
  | false => exact hb wh pins s1 σ H1 Q I1 q1
theorem pt_not (ha : PT X a tA) : PT X (.UnaryOp .Not a pos) (tNot tA) := by
  intro pins s σ H Q I h
  exact isTrue_not (ha pins s σ H (fun c H1 => Q (!c) H1) I h)
/-- .. as values (bools) -/
def tAndV (ta tb : TE) : TE := fun σ H Q => ta σ H fun x H1 => ∃ c, x = .bl c ∧ if c = true then tb σ H1 Q else Q (.bl false) H1
def tOrV (ta tb : TE) : TE := fun σ H Q => ta σ H fun x H1 => ∃ c, x = .bl c ∧ if c = true then Q (.bl true) H1 else tb σ H1 Q
def tNotV (ta : TE) : TE := fun σ H Q => ta σ H fun x H1 => ∃ c, x = .bl c ∧ Q (.bl (!c)) H1
theorem pe_one {op} {t : TE} (h : PE X a t) : PE X (.BoolOp op [a] pos) t := fun pins s σ H Q I hw => BoolOp_one (h pins s σ H Q I hw)
theorem pe_and (ha : PE X a ta) (hb : PE X (.BoolOp .And (b :: rest) pos) tb) : PE X (.BoolOp .And (a :: b :: rest) pos) (tAndV ta tb) := by
  intro pins s σ H Q I h
  refine BoolOp_and (thn (ha pins s σ H _ I h) fun v s1 ⟨x, H1, I1, r1, q1⟩ => ?_)
  obtain ⟨c, rfl, q1⟩ := q1
  cases r1
  refine wpAny_truthy_bool ?_
  cases c with
  | true => exact hb pins s1 σ H1 Q I1 q1
  | false => exact ⟨.bl false, H1, I1, rfl, q1⟩
theorem pe_not (ha : PE X a ta) : PE X (.UnaryOp .Not a pos) (tNotV ta) := by
  intro pins s σ H Q I h
  refine UnaryOp_ (thn (ha pins s σ H _ I h) fun v s1 ⟨x, H1, I1, r1, q1⟩ => ?_)
  obtain ⟨c, rfl, q1⟩ := q1
  cases r1
  exact not_of (wpAny_truthy_bool ⟨.bl (!c), H1, I1, rfl, q1⟩)
/-- a if t else b -/
def tIf (t : TT) (ta tb : TE) : TE := fun σ H Q => t σ H fun c H1 => if c = true then ta σ H1 Q else tb σ H1 Q
theorem pe_ifExp {c : Expr} (hc : PT X c tA) (ha : PE X a ta) (hb : PE X b tb) : PE X (.IfExp c a b pos) (tIf tA ta tb) := by
  intro pins s σ H Q I h
  refine wpAny_IfExp (thn (hc pins s σ H _ I h) fun d s1 ⟨H1, I1, q1⟩ => ?_)
  cases d with
  | true => exact ha pins s1 σ H1 Q I1 q1
  | false => exact hb pins s1 σ H1 Q I1 q1
end
end L2

namespace L2
open PySem PySem.Spec PyProof.Rows

/-! ### a list, a tuple that is read: tracked, frozen, or an object of the module -/
def SqL (K : PySem.W.Frag) (H : Hp) (a : Addr) (xs : List V) : Prop :=
  Rd H a (.lst xs) ∨
    ∃ (o : Obj) (its : Array Value) (n : Nat), K.lookup a = some o ∧ o.cls = .type "list" ∧ o.dict = none ∧ o.data = .seq its n ∧ its.size ≤ sizeLine ∧ Vals xs its.toList
def SqT (K : PySem.W.Frag) (H : Hp) (a : Addr) (xs : List V) : Prop :=
  Rd H a (.tup xs) ∨
    ∃ (o : Obj) (its : Array Value) (n : Nat), K.lookup a = some o ∧ o.cls = .type "tuple" ∧ o.data = .seq its n ∧ its.size ≤ sizeLine ∧ Vals xs its.toList
def absV : Value → Option V
  | .none => some .non
  | .bool b => some (.bl b)
  | .int i _ => some (.int i)
  | .str x _ => some (.str x)
  | .bytes b _ => some (.byt b)
  | .float b _ => some (.flt b)
  | .ref a => some (.ref a)
  | .type n => some (.ty n)
  | _ => none
theorem RelV.abs {x : V} {u : Value} (r : RelV x u) : absV u = some x := by
  cases x with
  | non => cases r; rfl
  | bl _ => cases r; rfl
  | int _ => obtain ⟨t, rfl⟩ := r; rfl
  | str _ => obtain ⟨t, rfl⟩ := r; rfl
  | byt _ => obtain ⟨t, rfl⟩ := r; rfl
  | flt _ => obtain ⟨t, rfl⟩ := r; rfl
  | ref _ => cases r; rfl
  | ty _ => cases r; rfl
theorem RelV.inj {x y : V} {u : Value} (r : RelV x u) (q : RelV y u) : x = y := Option.some.inj (r.abs.symm.trans q.abs)
theorem Vals.inj : ∀ {xs ys : List V} {us : List Value}, Vals xs us → Vals ys us → xs = ys
  | _, _, _, .nil, .nil => rfl
  | _, _, _, .cons r t, .cons r' t' => by rw [r.inj r', Vals.inj t t']
section
variable {X : Cx} {pins : List (Addr × Obj)} {σ : St} {H : Hp} {s : Shared} {a : Addr} {xs ys : List V}
theorem SqL.of {K : PySem.W.Frag} (h : H a = some (.lst xs)) : SqL K H a xs := .inl (.inl h)
theorem SqT.of {K : PySem.W.Frag} (h : H a = some (.tup xs)) : SqT K H a xs := .inl (.inl h)
theorem Inv.list (I : Inv X pins σ H s) (h : SqL X.K H a xs) : ∃ its : List Value, Vals xs its ∧ PlainL s.heap a its.toArray ∧ xs.length ≤ sizeLine := by
  rcases h with h | ⟨o, its, n, hk, hc, hd, hs, hz, r⟩
  · obtain ⟨z, its, n, r, e⟩ := h.ok I.hok
    exact ⟨its, r, ⟨_, n, e, rfl, rfl, rfl⟩, z⟩
  · refine ⟨its.toList, r, ⟨o, n, I.kIn a o hk, hc, hd, by simpa using hs⟩, ?_⟩
    have e := r.length
    simp only [Array.length_toList] at e
    omega
theorem Inv.tuple (I : Inv X pins σ H s) (h : SqT X.K H a xs) : ∃ its : List Value, Vals xs its ∧ IsTup s.heap a its.toArray ∧ xs.length ≤ sizeLine := by
  rcases h with h | ⟨o, its, n, hk, hc, hs, hz, r⟩
  · obtain ⟨z, its, r, p⟩ := h.ok I.hok
    exact ⟨its, r, p, z⟩
  · refine ⟨its.toList, r, ⟨o, I.kIn a o hk, hc, n, by simpa using hs⟩, ?_⟩
    have e := r.length
    simp only [Array.length_toList] at e
    omega
theorem Inv.list_inj (I : Inv X pins σ H s) (h : SqL X.K H a xs) (h' : SqL X.K H a ys) : xs = ys := by
  obtain ⟨its, r, ⟨o, n, e, _, _, d⟩, _⟩ := I.list h
  obtain ⟨its', r', ⟨o', n', e', _, _, d'⟩, _⟩ := I.list h'
  rw [e] at e'; cases e'
  rw [d] at d'
  injection d' with d1 _
  have : its = its' := by simpa using congrArg Array.toList d1
  subst this
  exact r.inj r'
theorem Inv.tuple_inj (I : Inv X pins σ H s) (h : SqT X.K H a xs) (h' : SqT X.K H a ys) : xs = ys := by
  obtain ⟨its, r, ⟨o, e, _, n, d⟩, _⟩ := I.tuple h
  obtain ⟨its', r', ⟨o', e', _, n', d'⟩, _⟩ := I.tuple h'
  rw [e] at e'; cases e'
  rw [d] at d'
  injection d' with d1 _
  have : its = its' := by simpa using congrArg Array.toList d1
  subst this
  exact r.inj r'
end

/-! ### another wish about exceptions -/
abbrev Cx.wish (X : Cx) (E : Value → Shared → Prop) : Cx := { X with xe := E }
/-- no exception leaves -/
abbrev Cx.nox (X : Cx) : Cx := X.wish fun _ _ => False
theorem Cx.Ok.wish {X : Cx} (ok : X.Ok) (E : Value → Shared → Prop) : (X.wish E).Ok :=
  ⟨ok.mod, ok.kind, ok.glob, ok.blt, ok.above, ok.inj, ok.has, ok.cab, ok.hd, ok.frames, ok.stk, ok.exf, ok.bs, ok.bsz, ok.noex, ok.exfs, ok.funs, ok.frf⟩
theorem Cx.Ok.unwish {X : Cx} {E : Value → Shared → Prop} (ok : (X.wish E).Ok) : X.Ok :=
  ⟨ok.mod, ok.kind, ok.glob, ok.blt, ok.above, ok.inj, ok.has, ok.cab, ok.hd, ok.frames, ok.stk, ok.exf, ok.bs, ok.bsz, ok.noex, ok.exfs, ok.funs, ok.frf⟩
section
variable {X : Cx} {pins : List (Addr × Obj)} {σ : St} {H : Hp} {s : Shared} {E : Value → Shared → Prop}
theorem Inv.wish (I : Inv X pins σ H s) (E : Value → Shared → Prop) : Inv (X.wish E) pins σ H s := ⟨I.ok.wish E, I.os, I.bare, I.base, I.loc, I.cell, I.free, I.freeC, I.pin, I.hok, I.len⟩
theorem Inv.unwish (I : Inv (X.wish E) pins σ H s) : Inv X pins σ H s := ⟨I.ok.unwish, I.os, I.bare, I.base, I.loc, I.cell, I.free, I.freeC, I.pin, I.hok, I.len⟩
theorem SP.unwish {D : Ends} {f : Flow} {s' : Shared} (h : SP (X.wish E) pins D f s') : SP X pins D f s' := by
  cases f with
  | next => obtain ⟨σ', H', I, q⟩ := h; exact ⟨σ', H', I.unwish, q⟩
  | brk => obtain ⟨σ', H', I, q⟩ := h; exact ⟨σ', H', I.unwish, q⟩
  | cont => obtain ⟨σ', H', I, q⟩ := h; exact ⟨σ', H', I.unwish, q⟩
  | ret u => obtain ⟨v, σ', H', I, r, q⟩ := h; exact ⟨v, σ', H', I.unwish, r, q⟩
theorem PSs.nox {st : List Stmt} {t : TS} (h : PSs X.nox st t) : PSs X st t := fun pins s σ H D I hw =>
  wpAny_mono (h pins s σ H D (I.wish _) hw) (fun _ _ q => q.unwish) fun _ _ z => False.elim z
end

/-! ### blocks and small statements -/
section
variable {X : Cx} {st : Stmt} {rest : List Stmt} {t u : TS} {e : Expr} {te : TE} {pos : Pos}
def tNext : TS := fun D σ H => D.nx σ H
def tSeq (t u : TS) : TS := fun D σ H => t { D with nx := u D } σ H
theorem pss_nil : PSs X [] tNext := fun _ _ σ H _ I h => wpAny_execs_nil ⟨σ, H, I, h⟩
theorem pss_cons (h1 : PS X st t) (h2 : PSs X rest u) : PSs X (st :: rest) (tSeq t u) := by
  intro pins s σ H D I h
  refine wpAny_execs_cons (thn (h1 pins s σ H { D with nx := u D } I h) fun f s1 q => ?_)
  cases f with
  | next =>
    obtain ⟨σ', H', I', q⟩ := q
    exact h2 pins s1 σ' H' D I' q
  | ret v => exact q
  | brk => exact q
  | cont => exact q
theorem pss_one (h1 : PS X st t) : PSs X [st] t := by
  intro pins s σ H D I h
  refine wpAny_execs_cons (thn (h1 pins s σ H D I h) fun f s1 q => ?_)
  cases f with
  | next => exact wpAny_execs_nil q
  | ret v => exact q
  | brk => exact q
  | cont => exact q
def tBreak : TS := fun D σ H => D.bk σ H
def tCont : TS := fun D σ H => D.ct σ H
/-- in a def's body nothing is shown -/
theorem Inv.quiet {pins : List (Addr × Obj)} {σ : St} {H : Hp} {s : Shared} (I : Inv X pins σ H s) : interactive X.env = false := by simp [interactive, I.ok.kind]
/-- an expression whose value is dropped -/
def tDrop (te : TE) : TS := fun D σ H => te σ H fun _ H1 => D.nx σ H1
theorem ps_expr (he : PE X e te) (hs : swapsWith e none pos.line X.env = pure false := by rfl) : PS X (.Expr e pos) (tDrop te) := by
  intro pins s σ H D I h
  exact wpAny_Expr_any (thn (he pins s σ H _ I h) fun v s1 ⟨x, H1, I1, r1, q1⟩ => ⟨σ, H1, I1, q1⟩) I.quiet hs
def tRet (te : TE) : TS := fun D σ H => te σ H D.rt
theorem ps_ret (he : PE X e te) : PS X (.Return (some e) pos) (tRet te) := by
  intro pins s σ H D I h
  exact wpAny_Return_some (thn (he pins s σ H _ I h) fun v s1 ⟨x, H1, I1, r1, q1⟩ => ⟨x, σ, H1, I1, r1, q1⟩)
def tRetN : TS := fun D _ H => D.rt .non H
def tIfS (c : TT) (t u : TS) : TS := fun D σ H => c σ H fun b H1 => if b = true then t D σ H1 else u D σ H1
theorem ps_if {c : Expr} {a b : List Stmt} {tc : TT} (hc : PT X c tc) (ha : PSs X a t) (hb : PSs X b u) : PS X (.If c a b pos) (tIfS tc t u) := by
  intro pins s σ H D I h
  refine wpAny_If (thn (hc pins s σ H _ I h) fun d s1 ⟨H1, I1, q1⟩ => ?_)
  cases d with
  | true => exact ha pins s1 σ H1 D I1 q1
  | false => exact hb pins s1 σ H1 D I1 q1
/-- code that the proof never comes to -/
def tNever : TS := fun _ _ _ => False
theorem ps_never : PS X st tNever := fun _ _ _ _ _ _ h => h.elim
theorem pss_never {sts : List Stmt} : PSs X sts tNever := fun _ _ _ _ _ _ h => h.elim
end

/-! ### targets -/
abbrev TG := V → St → Hp → (St → Hp → Prop) → Prop
abbrev TGs := List V → St → Hp → (St → Hp → Prop) → Prop
def PG (X : Cx) (target : Expr) (t : TG) : Prop :=
  ∀ (pins : List (Addr × Obj)) (s : Shared) (σ : St) (H : Hp) (v : V) (u : Value) (Q : St → Hp → Prop), Inv X pins σ H s → RelV v u → t v σ H Q →
    wpAny (model X.prog X.w) X.A (assign target X.env u) (fun _ s' => ∃ σ' H', Inv X pins σ' H' s' ∧ Q σ' H') X.xe s
/-- several targets, one after another -/
def PGs (X : Cx) (ts : List Expr) (t : TGs) : Prop :=
  ∀ (pins : List (Addr × Obj)) (s : Shared) (σ : St) (H : Hp) (vs : List V) (us : List Value) (Q : St → Hp → Prop), Inv X pins σ H s → Vals vs us → t vs σ H Q →
    wpAny (model X.prog X.w) X.A (assignInOrder ((assignEach ts X.env).map (·.2)) us) (fun _ s' => ∃ σ' H', Inv X pins σ' H' s' ∧ Q σ' H') X.xe s
/-- o[i] = v, by values -/
abbrev TSet := V → V → V → Hp → (Hp → Prop) → Prop
def PSet (X : Cx) (t : TSet) : Prop :=
  ∀ (pins : List (Addr × Obj)) (s : Shared) (σ : St) (H : Hp) (o i v : V) (ov iv u : Value) (Q : Hp → Prop), Inv X pins σ H s → RelV o ov → RelV i iv → RelV v u → t o i v H Q →
    wpAny (model X.prog X.w) X.A (setItem ov iv u) (fun _ s' => ∃ H', Inv X pins σ H' s' ∧ Q H') X.xe s
/-- a op= b, by values -/
abbrev TIp := V → V → Hp → VK → Prop
def PIp (X : Cx) (op : Operator) (t : TIp) : Prop :=
  ∀ (pins : List (Addr × Obj)) (s : Shared) (σ : St) (H : Hp) (x y : V) (v u : Value) (Q : VK), Inv X pins σ H s → RelV x v → RelV y u → t x y H Q →
    wpAny (model X.prog X.w) X.A (inplaceOp op v u) (EP X pins σ Q) X.xe s
section
variable {X : Cx} {pos : Pos}
def gName (i : Nat) : TG := fun v σ H Q => Q (σ.set i (some v)) H
theorem pg_name {i : Nat} {x : Str} (hN : X.N.Nodup) (hi : X.N[i]? = some x) (hx : Loc X.env.scope x) (hf : X.fn x = true ∨ X.env.scope.names.lookup x = some .local := by first | exact .inl rfl | exact .inr rfl | assumption) : PG X (.Name x pos) (gName i) := by
  intro pins s σ H v u Q I r h
  exact wpAny_assign_Name (store_ok I hN hi hx r (fun s' I' => ⟨_, H, I', h⟩) hf)
def gNil : TGs := fun vs σ H Q => vs = [] ∧ Q σ H
def gCons (t : TG) (u : TGs) : TGs := fun vs σ H Q => ∃ v r, vs = v :: r ∧ t v σ H fun σ' H' => u r σ' H' Q
theorem pgs_nil : PGs X [] gNil := by
  intro pins s σ H vs us Q I r h
  obtain ⟨e, h⟩ := h
  subst e
  cases r
  exact assignInOrder_nil ⟨σ, H, I, h⟩
theorem pgs_cons {e : Expr} {es : List Expr} {t : TG} {u : TGs} (h1 : PG X e t) (h2 : PGs X es u)
    (hs : (assignEach (e :: es) X.env).map (·.2) = assign e X.env :: (assignEach es X.env).map (·.2) := by rfl) : PGs X (e :: es) (gCons t u) := by
  intro pins s σ H vs us Q I r h
  obtain ⟨v, vr, e1, h⟩ := h
  subst e1
  cases r with
  | cons r rr =>
    rw [hs]
    refine assignInOrder_cons (thn (h1 pins s σ H _ _ _ I r h) fun _ s1 ⟨σ1, H1, I1, q1⟩ => ?_)
    exact h2 pins s1 σ1 H1 _ _ Q I1 rr q1
/-- (a, b, ..) = a tuple of that length -/
def gTup (K : PySem.W.Frag) (n : Nat) (t : TGs) : TG := fun v σ H Q => ∃ a xs, v = .ref a ∧ SqT K H a xs ∧ xs.length = n ∧ t xs σ H Q
theorem pg_tup {es : List Expr} {k : Nat} {t : TGs} {n : Nat} (hc : X.calm = true) (h : PGs X es t)
    (hn : (assignEach es X.env).length = n := by rfl) (hst : (assignEach es X.env).findIdx? (·.1) = none := by rfl) : PG X (.Tuple es k pos) (gTup X.K n t) := by
  intro pins s σ H v u Q I r hw
  obtain ⟨a, xs, e1, hq, hl, hw⟩ := hw
  subst e1
  cases r
  obtain ⟨its, rv, ht, hz⟩ := I.tuple hq
  refine assign_Tuple_tuple (I.ok.hd hc) ht (by simp [hn, ← hl, rv.length]) hst fun h' hx => ?_
  have I1 : Inv X pins σ H { s with heap := h' } := I.kept (t' := s.toks) fun b o e => hx b o (Nat.ne_of_lt (Heap.lt_size e)) e
  exact h pins _ σ H xs _ Q I1 (by simpa using rv) hw
/-- o[i] = .. -/
def gSub (to ti : TE) (t : TSet) : TG := fun v σ H Q => to σ H fun o H1 => ti σ H1 fun i H2 => t o i v H2 fun H3 => Q σ H3
theorem pg_sub {o i : Expr} {to ti : TE} {t : TSet} (ho : PE X o to) (hi : PE X i ti) (hs : PSet X t)
    (ha : ∀ v, assign (.Subscript o i pos) X.env v = (do
      let ov ← holding [v] (eval o X.env)
      let iv ← holding [v, ov] (eval i X.env)
      standAt pos
      holding [v, ov, iv] (setItem ov iv v)
      release [v, ov, iv] []) := by intro _; rfl) : PG X (.Subscript o i pos) (gSub to ti t) := by
  intro pins s σ H v u Q I r h
  rw [ha]
  refine wpAny_bind (wpAny_holding (thn (ho pins s σ H _ I h) fun ov s1 ⟨x, H1, I1, r1, q1⟩ => ?_))
  refine wpAny_bind (wpAny_holding (thn (hi pins s1 σ H1 _ I1 q1) fun iv s2 ⟨y, H2, I2, r2, q2⟩ => ?_))
  refine wpAny_bind (wpAny_standAt (wpAny_bind (wpAny_holding (thn (hs pins s2 σ H2 x y v ov iv u _ I2 r1 r2 r q2) fun _ s3 ⟨H3, I3, q3⟩ => ?_))))
  exact wpAny_release ⟨σ, H3, I3, q3⟩
/-- target = value -/
def tAsg (te : TE) (g : TG) : TS := fun D σ H => te σ H fun x H1 => g x σ H1 D.nx
theorem ps_asg {tg e : Expr} {te : TE} {g : TG} (he : PE X e te) (hg : PG X tg g) (hs : swapsWithSole [tg] e pos.line X.env = pure false := by rfl) (hw : swappedStores [tg] e X.env = pure none := by rfl)
    (h1 : (assignEach [tg] X.env).map (·.2) = [assign tg X.env] := by rfl) : PS X (.Assign [tg] e pos) (tAsg te g) := by
  intro pins s σ H D I h
  refine wpAny_Assign_stores (thn (he pins s σ H _ I h) fun v s1 ⟨x, H1, I1, r1, q1⟩ => ?_) hs hw
  rw [h1]
  exact thn (hg pins s1 σ H1 x v _ I1 r1 q1) fun _ s2 q => q
/-- name = value -/
theorem ps_set {i : Nat} {x : Str} {e : Expr} {te : TE} {pos' : Pos} (hN : X.N.Nodup) (hi : X.N[i]? = some x) (hx : Loc X.env.scope x) (he : PE X e te) (hs : swapsWith e (some (.Name x pos')) pos.line X.env = pure false := by rfl) (hf : X.fn x = true ∨ X.env.scope.names.lookup x = some .local := by first | exact .inl rfl | exact .inr rfl | assumption) :
    PS X (.Assign [.Name x pos'] e pos) (tAsg te (gName i)) := by
  intro pins s σ H D I h
  refine wpAny_Assign_Name (thn (he pins s σ H _ I h) fun v s1 ⟨y, H1, I1, r1, q1⟩ => ?_) hs
  exact store_ok I1 hN hi hx r1 (fun s2 I2 => ⟨_, H1, I2, q1⟩) hf
/-- a, b = x, y with plain local names: stored from the right; the pair itself is not tracked (the opening rows as in PyProof/Rows/TupAssign.lean:23) -/
def tPar (i j : Nat) (ta : TA) : TS := fun D σ H => ta σ H fun vs H1 => ∃ v w, vs = [v, w] ∧ D.nx ((σ.set i (some v)).set j (some w)) H1
theorem ps_par {i j : Nat} {x y : Str} {a b : Expr} {ta : TA} {px py pt : Pos} {kt k2 pt2} (hc : X.calm = true) (hN : X.N.Nodup) (hi : X.N[i]? = some x) (hj : X.N[j]? = some y) (hij : i ≠ j)
    (hx : X.env.scope.names.lookup x = some .local) (hy : X.env.scope.names.lookup y = some .local) (ha : PA X [a, b] ta)
    (hw : swappedStores [.Tuple [.Name x px, .Name y py] kt pt] (.Tuple [a, b] k2 pt2) X.env = pure (some [x, y]))
    (hs : swapsWithSole [.Tuple [.Name x px, .Name y py] kt pt] (.Tuple [a, b] k2 pt2) pos.line X.env = pure false := by rfl) :
    PS X (.Assign [.Tuple [.Name x px, .Name y py] kt pt] (.Tuple [a, b] k2 pt2) pos) (tPar i j ta) := by
  intro pins s σ H D I h
  rw [exec_Assign_arm]
  refine wpAny_bind (wpAny_standAt ?_)
  rw [hs]
  refine wpAny_bind (wpAny_pure ?_)
  rw [if_neg (by decide)]
  refine wpAny_bind (Tuple_ (thn (ha _ pins s σ H _ I h) fun us s1 ⟨vs, H1, I1, r1, q1⟩ => ?_))
  obtain ⟨v, w, e1, q1⟩ := q1
  subst e1
  obtain ⟨u1, u2, rfl, rv, rw'⟩ : ∃ u1 u2, us = [u1, u2] ∧ RelV v u1 ∧ RelV w u2 := by
    cases r1 with
    | cons p q =>
      cases q with
      | cons p' q' =>
        cases q'
        exact ⟨_, _, rfl, p, p'⟩
  refine wpAny_newObj_type ?_ (by show 2 ≤ sizeLine; decide)
  have I2 : Inv X pins σ H1 { s1 with heap := s1.heap.push { cls := .type "tuple", data := .seq [u1, u2].toArray } } := I1.kept (t' := s1.toks) fun b o e => Heap.get?_push_of_some _ e
  rw [hw]
  refine wpAny_bind (wpAny_pure ?_)
  show wpAny (model X.prog X.w) X.A (do rule "assign.swapped-stores"; let items ← unpackItems (.ref s1.heap.objs.size) 2 none; assignInOrder [fun v => bindName X.env y v, fun v => bindName X.env x v] items.reverse; pure Flow.next) _ _ _
  refine wpAny_bind (wpAny_rule (wpAny_bind (unpackItems_tuple (items := #[u1, u2]) (I.ok.hd hc) (IsTup.new s1.heap _) fun h' hx' => ?_)))
  have I3 := I2.kept (h' := h') (t' := s1.toks) fun b o e => hx' b o (Nat.ne_of_lt (Heap.lt_size e)) e
  show wpAny _ _ (assignInOrder [fun v => bindName X.env y v, fun v => bindName X.env x v] [u2, u1] >>= fun _ => pure Flow.next) _ _ _
  refine wpAny_bind (assignInOrder_cons (wpAny_bindName (store_ok I3 hN hj (.inl hy) rw' (fun s2 I4 => ?_) (.inr hy))))
  refine assignInOrder_cons (wpAny_bindName (store_ok I4 hN hi (.inl hx) rv (fun s3 I5 => assignInOrder_nil (wpAny_pure ?_)) (.inr hx)))
  rw [List.set_comm _ _ (Ne.symm hij)] at I5
  exact ⟨_, H1, I5, q1⟩
/-- name op= e -/
def tAug (i : Nat) (te : TE) (ti : TIp) : TS := fun D σ H => ∃ x, σ[i]? = some (some x) ∧ te σ H fun y H1 => ti x y H1 fun z H2 => D.nx (σ.set i (some z)) H2
/-- o[i] op= e -/
def tAugS (to ti te : TE) (tget : V → V → Hp → VK → Prop) (tip : TIp) (tset : TSet) : TS := fun D σ H => to σ H fun o H1 => ti σ H1 fun i H2 => tget o i H2 fun x H3 => te σ H3 fun y H4 => tip x y H4 fun z H5 => tset o i z H5 fun H6 => D.nx σ H6
/-- o[i], by values -/
def PGet (X : Cx) (t : V → V → Hp → VK → Prop) : Prop :=
  ∀ (pins : List (Addr × Obj)) (s : Shared) (σ : St) (H : Hp) (o i : V) (ov iv : Value) (Q : VK), Inv X pins σ H s → RelV o ov → RelV i iv → t o i H Q →
    wpAny (model X.prog X.w) X.A (getItem ov iv) (EP X pins σ Q) X.xe s
/-- ints -/
def ipI (f : Int → Int → Int) : TIp := fun x y H Q => ∃ i j, x = .int i ∧ y = .int j ∧ Q (.int (f i j)) H
end

/-! ### while -/
section
variable {X : Cx} {pos : Pos}
/-- the invariant W with its measure -/
def tWhile (c : TT) (tb : TS) : TS := fun D σ H => ∃ W : Nat → St → Hp → Prop, (∃ m, W m σ H) ∧ ∀ m σ H, W m σ H →
  c σ H fun b H1 => if b = true then ∃ N : St → Hp → Prop, (∀ σ' H', N σ' H' → ∃ m', m' < m ∧ W m' σ' H') ∧ tb { D with nx := N, ct := N, bk := D.nx } σ H1 else D.nx σ H1
theorem ps_while {c : Expr} {body : List Stmt} {tc : TT} {tb : TS} (hp : PassesOwn (model X.prog X.w) X.A X.env X.xe) (hc : PT X c tc) (hb : PSs X body tb) : PS X (.While c body [] pos) (tWhile tc tb) := by
  intro pins s σ H D I h
  obtain ⟨W, ⟨m0, w0⟩, turn⟩ := h
  refine wpAny_While (codeAny_whileLoop (fun n s' => ∃ σ' H', Inv X pins σ' H' s' ∧ W n σ' H') ?_ m0 ⟨σ, H, I, w0⟩)
  rintro n s1 ⟨σ1, H1, I1, w1⟩
  refine wpAny_passesOwn hp (thn (hc pins s1 σ1 H1 _ I1 (turn n σ1 H1 w1)) fun b s2 ⟨H2, I2, q2⟩ => ?_)
  cases b with
  | true =>
    obtain ⟨N, hN, q2⟩ := q2
    rw [if_pos rfl]
    refine wpAny_passesOwn hp (thn (hb pins s2 σ1 H2 _ I2 q2) fun f s3 q3 => ?_)
    cases f with
    | next =>
      obtain ⟨σ3, H3, I3, n3⟩ := q3
      obtain ⟨m', hm, w3⟩ := hN σ3 H3 n3
      exact ⟨m', hm, σ3, H3, I3, w3⟩
    | cont =>
      obtain ⟨σ3, H3, I3, n3⟩ := q3
      obtain ⟨m', hm, w3⟩ := hN σ3 H3 n3
      exact ⟨m', hm, σ3, H3, I3, w3⟩
    | brk => exact q3
    | ret v => exact q3
  | false =>
    rw [if_neg Bool.false_ne_true]
    exact wpAny_execs_nil ⟨σ1, H2, I2, q2⟩
end

/-! ### what a loop or a comprehension walks -/
/-- at turn i: it yields x (the heap may grow), or it stops -/
structure It where
  go : Nat → Hp → Prop
  yld : Nat → Hp → V → Hp → Prop
  stop : Nat → Hp → Prop
/-- the iterator's own objects may turn: they are not the frame's, not pinned, younger than the entry (or a comprehension's own) -/
def FpOk (X : Cx) (pins : List (Addr × Obj)) (H : Hp) (b : Addr) : Prop :=
  H b = none ∧ b ≠ X.env.locals ∧ b ∉ X.fs ∧ (b ∈ X.ex ∨ X.s₀.heap.objs.size ≤ b) ∧ (∀ x c, X.env.cells.lookup x = some c → c ≠ b) ∧ ∀ p ∈ X.pn ++ pins, p.1 ≠ b
theorem Inv.fpOk {X : Cx} {pins : List (Addr × Obj)} {σ : St} {H H' : Hp} {s : Shared} {b : Addr} (I : Inv X pins σ H s) (hb : s.heap.objs.size ≤ b) (hn : H' b = none) : FpOk X pins H' b := by
  refine ⟨hn, Nat.ne_of_gt (Nat.lt_of_lt_of_le I.lt hb), I.nofs hb, .inr (Nat.le_trans I.sz hb), fun x c e z => ?_, fun p hp z => ?_⟩
  · obtain ⟨v, q⟩ := I.cell x c e
    exact absurd (Nat.lt_of_lt_of_le q.lt (by rw [z]; exact hb)) (Nat.lt_irrefl _)
  · exact absurd (Nat.lt_of_lt_of_le (Heap.lt_size (I.pin p hp).1) (by rw [z]; exact hb)) (Nat.lt_irrefl _)
structure Turn (P : Program) (w : World) (K : PySem.W.Frag) (tg : Expr) (J : It) (fp : List Addr) (it : Addr) (tn : Nat → Heap → Prop) : Prop where
  mem : it ∈ fp
  obj : ∀ i h, tn i h → ∀ b ∈ fp, ∃ o, h.get? b = some o ∧ ∀ v, o.data ≠ .cell v
  keep : ∀ i h h', tn i h → (∀ b ∈ fp, ∀ o, h.get? b = some o → h'.get? b = some o) → tn i h'
  item : ∀ (X : Cx), X.prog = P → X.w = w → X.K = K → X.calm = true → ∀ (i : Nat) (pins : List (Addr × Obj)) (s : Shared) (σ : St) (H : Hp) (E : Value → Shared → Prop), Inv X pins σ H s → (∀ b ∈ fp, FpOk X pins H b) → tn i s.heap → J.go i H →
    wpAny (model P w) X.A (pyNext (.ref it)) (fun r s1 => ∃ u, r = some u ∧
      wpAny (model P w) X.A (letOwnedTupleGo tg (.ref it) u) (fun _ s2 => ∃ x H', Inv X pins σ H' s2 ∧ RelV x u ∧ J.yld i H x H' ∧ tn (i + 1) s2.heap ∧ ∀ b ∈ fp, H' b = none) E s1) E s
  done : ∀ (X : Cx), X.prog = P → X.w = w → X.K = K → X.calm = true → ∀ (i : Nat) (pins : List (Addr × Obj)) (s : Shared) (σ : St) (H : Hp) (E : Value → Shared → Prop), Inv X pins σ H s → (∀ b ∈ fp, FpOk X pins H b) → tn i s.heap → J.stop i H →
    wpAny (model P w) X.A (pyNext (.ref it)) (fun r s1 => r = none ∧ Inv X pins σ H s1) E s
  self : ∀ (A : Around) (i : Nat) (s : Shared) (Q : Value → Shared → Prop) (E : Value → Shared → Prop), tn i s.heap → Q (.ref it) s → wpAny (model P w) A (pyIter (.ref it)) Q E s
abbrev TI := St → Hp → (It → Hp → Prop) → Prop
/-- an iterator has come -/
def PIE (X : Cx) (pins : List (Addr × Obj)) (σ : St) (tg : Expr) (R : It → Hp → Prop) (itv : Value) (s2 : Shared) : Prop :=
  ∃ (it : Addr) (fp : List Addr) (tn : Nat → Heap → Prop) (J : It) (H' : Hp), itv = .ref it ∧ Inv X pins σ H' s2 ∧ Turn X.prog X.w X.K tg J fp it tn ∧ tn 0 s2.heap ∧ (∀ b ∈ fp, FpOk X pins H' b) ∧ R J H'
def PI (X : Cx) (tg iter : Expr) (wi : TI) : Prop :=
  ∀ (pins : List (Addr × Obj)) (s : Shared) (σ : St) (H : Hp) (R : It → Hp → Prop), Inv X pins σ H s → wi σ H R →
    wpAny (model X.prog X.w) X.A (eval iter X.env) (fun v s1 => wpAny (model X.prog X.w) X.A (pyIter v) (PIE X pins σ tg R) X.xe s1) X.xe s

/-- the step ahead of the store is nothing for an iterator that keeps no tuple -/
theorem go_of {M : Model} {A : Around} {E : Value → Shared → Prop} {s : Shared} {tg : Expr} {it : Addr} {u : Value} {o : Obj} {n : String} {vs : Array Value} {Q : Unit → Shared → Prop} (ho : s.heap.get? it = some o) (hc : o.cls = .type n) (hd : o.data = .fields vs)
    (hn : ["enumerate", "zip", "dict_itemiterator", "dict_reverseitemiterator", "odict_iterator", "itertools.zip_longest", "itertools.pairwise"].contains n = false) (hQ : Q () s) : wpAny M A (letOwnedTupleGo tg (.ref it) u) Q E s := by
  unfold letOwnedTupleGo
  cases tg <;> first
    | exact wpAny_pure hQ
    | (cases u <;> first
        | exact wpAny_pure hQ
        | (refine wpAny_bind (wpAny_load ho ?_)
           rw [hc, hd]
           show wpAny M A (if (["enumerate", "zip", "dict_itemiterator", "dict_reverseitemiterator", "odict_iterator", "itertools.zip_longest", "itertools.pairwise"].contains n && vs[0]? == some (rawInt _)) = true then _ else _) Q E s
           rw [if_neg (by intro h; rw [hn, Bool.false_and] at h; cases h)]
           exact wpAny_pure hQ))

/-- the list at a, as it stands at each turn (a loop may append to it) -/
def Itl (K : PySem.W.Frag) (a : Addr) : It :=
  ⟨fun i H => ∃ xs x, SqL K H a xs ∧ xs[i]? = some x, fun i H x H' => H' = H ∧ ∀ xs, SqL K H a xs → xs[i]? = some x, fun i H => ∃ xs, SqL K H a xs ∧ xs.length ≤ i⟩
def Itt (K : PySem.W.Frag) (a : Addr) : It :=
  ⟨fun i H => ∃ xs x, SqT K H a xs ∧ xs[i]? = some x, fun i H x H' => H' = H ∧ ∀ xs, SqT K H a xs → xs[i]? = some x, fun i H => ∃ xs, SqT K H a xs ∧ xs.length ≤ i⟩
/-- lo, lo + 1, .. (n of them) -/
def Itr (lo : Int) (n : Nat) : It := ⟨fun i _ => i < n, fun i H x H' => H' = H ∧ x = .int (lo + i), fun i _ => n ≤ i⟩
theorem turn_list {P : Program} {w : World} {K : PySem.W.Frag} {tg : Expr} (a it : Addr) : Turn P w K tg (Itl K a) [it] it (fun i h => h.IsListIter it a i) where
  mem := by simp
  obj := fun i h st b hb => by
    have e : b = it := by simpa using hb
    subst e
    obtain ⟨o, e, c, d⟩ := st
    exact ⟨o, e, fun v z => by rw [d] at z; cases z⟩
  keep := fun i h h' st k => st.at fun o e => k it (by simp) o e
  item := by
    intro X hP hw hK hc i pins s σ H E I hf st hg
    subst hP hw hK
    obtain ⟨xs, x, hq, hx⟩ := hg
    obtain ⟨its, rv, p, hz⟩ := I.list hq
    obtain ⟨u, hu, ru⟩ := rv.get hx
    obtain ⟨f0, f1, f2, f3, f4, f5⟩ := hf it (by simp)
    refine wpAny_pyNext_list_item st p.isList (x := u) (by simpa using hu) fun h' st' sb => ?_
    have I1 : Inv X pins σ H { s with heap := h' } := I.turned (t' := s.toks) (fun b o hb e => (sb.2 b hb).trans e) f0 f1 f3 f4 f5
    obtain ⟨o, e, c, d⟩ := id st'
    exact ⟨u, rfl, go_of (s := { s with heap := h' }) e c d (by decide) ⟨x, H, I1, ru, ⟨rfl, fun ys hy => by rw [I.list_inj hy hq]; exact hx⟩, st', fun b hb => (hf b hb).1⟩⟩
  done := by
    intro X hP hw hK hc i pins s σ H E I hf st hg
    subst hP hw hK
    obtain ⟨xs, hq, hx⟩ := hg
    obtain ⟨its, rv, p, hz⟩ := I.list hq
    obtain ⟨f0, f1, f2, f3, f4, f5⟩ := hf it (by simp)
    have hl := rv.length
    exact wpAny_pyNext_list_end (I.ok.hd hc) st p.isList (by simp; omega) fun h' eb => ⟨rfl, I.turned (t' := s.toks) (fun b o hb e => eb b o hb e) f0 f1 f3 f4 f5⟩
  self := fun _ _ _ _ _ st h => wpAny_pyIter_listiter st h
theorem turn_tuple {P : Program} {w : World} {K : PySem.W.Frag} {tg : Expr} (a it : Addr) : Turn P w K tg (Itt K a) [it] it (fun i h => h.IsTupleIter it a i) where
  mem := by simp
  obj := fun i h st b hb => by
    have e : b = it := by simpa using hb
    subst e
    obtain ⟨o, e, c, d⟩ := st
    exact ⟨o, e, fun v z => by rw [d] at z; cases z⟩
  keep := fun i h h' st k => st.at fun o e => k it (by simp) o e
  item := by
    intro X hP hw hK hc i pins s σ H E I hf st hg
    subst hP hw hK
    obtain ⟨xs, x, hq, hx⟩ := hg
    obtain ⟨its, rv, p, hz⟩ := I.tuple hq
    obtain ⟨u, hu, ru⟩ := rv.get hx
    obtain ⟨f0, f1, f2, f3, f4, f5⟩ := hf it (by simp)
    refine wpAny_pyNext_tuple_item st (show s.heap.IsTuple a its.toArray from p) (x := u) (by simpa using hu) fun h' st' sb => ?_
    have I1 : Inv X pins σ H { s with heap := h' } := I.turned (t' := s.toks) (fun b o hb e => (sb.2 b hb).trans e) f0 f1 f3 f4 f5
    obtain ⟨o, e, c, d⟩ := id st'
    exact ⟨u, rfl, go_of (s := { s with heap := h' }) e c d (by decide) ⟨x, H, I1, ru, ⟨rfl, fun ys hy => by rw [I.tuple_inj hy hq]; exact hx⟩, st', fun b hb => (hf b hb).1⟩⟩
  done := by
    intro X hP hw hK hc i pins s σ H E I hf st hg
    subst hP hw hK
    obtain ⟨xs, hq, hx⟩ := hg
    obtain ⟨its, rv, p, hz⟩ := I.tuple hq
    obtain ⟨f0, f1, f2, f3, f4, f5⟩ := hf it (by simp)
    have hl := rv.length
    exact wpAny_pyNext_tuple_end (I.ok.hd hc) st (show s.heap.IsTuple a its.toArray from p) (by simp; omega) fun h' eb => ⟨rfl, I.turned (t' := s.toks) (fun b o hb e => eb b o hb e) f0 f1 f3 f4 f5⟩
  self := fun _ _ _ _ _ st h => wpAny_pyIter_tupleiter st h
theorem turn_range {P : Program} {w : World} {K : PySem.W.Frag} {tg : Expr} (it : Addr) (lo : Int) (n : Nat) : Turn P w K tg (Itr lo n) [it] it (fun i h => IsRangeIter h it (lo + (i : Nat) * 1) ((n : Int) - (i : Nat)) 1) where
  mem := by simp
  obj := fun i h st b hb => by
    have e : b = it := by simpa using hb
    subst e
    exact ⟨_, st, fun v z => by
      have z' : Data.fields _ = Data.cell v := z
      cases z'⟩
  keep := fun i h h' st k => k it (by simp) _ st
  item := by
    intro X hP hw hK hc i pins s σ H E I hf st hg
    subst hP hw hK
    obtain ⟨f0, f1, f2, f3, f4, f5⟩ := hf it (by simp)
    have W := Walks.range (prog := X.prog) (w := X.w) (I.ok.hd hc) it lo 1 n
    refine W.item i s _ _ hg st fun v h' tk hv st' kk => ?_
    obtain ⟨t, rfl⟩ := hv
    have I1 : Inv X pins σ H { s with heap := h', toks := tk } := I.turned (fun b o hb e => kk b o (by simpa using hb) e) f0 f1 f3 f4 f5
    refine ⟨_, rfl, go_of (s := { s with heap := h', toks := tk }) (n := "range_iterator") st' rfl rfl (by decide) ⟨.int (lo + i), H, I1, ⟨t, ?_⟩, ⟨rfl, rfl⟩, st', fun b hb => (hf b hb).1⟩⟩
    rw [Int.mul_one]
  done := by
    intro X hP hw hK hc i pins s σ H E I hf st hg
    subst hP hw hK
    obtain ⟨f0, f1, f2, f3, f4, f5⟩ := hf it (by simp)
    exact wpAny_pyNext_range_end (I.ok.hd hc) st (by have : n ≤ i := hg; omega) fun h' eb => ⟨rfl, I.turned (t' := s.toks) (fun b o hb e => eb b o hb e) f0 f1 f3 f4 f5⟩
  self := fun _ _ _ _ _ st h => wpAny_pyIter_rangeiter st h
end L2

namespace L2
open PySem PySem.Spec PyProof.Rows
section
variable {X : Cx} {tg : Expr}
def iList (K : PySem.W.Frag) (tl : TE) : TI := fun σ H R => tl σ H fun x H1 => ∃ a, x = .ref a ∧ (∃ xs, SqL K H1 a xs) ∧ R (Itl K a) H1
def iTup (K : PySem.W.Frag) (tl : TE) : TI := fun σ H R => tl σ H fun x H1 => ∃ a, x = .ref a ∧ (∃ xs, SqT K H1 a xs) ∧ R (Itt K a) H1
theorem pi_list {l : Expr} {tl : TE} (hl : PE X l tl) : PI X tg l (iList X.K tl) := by
  intro pins s σ H R I h
  refine thn (hl pins s σ H _ I h) fun v s1 ⟨x, H1, I1, r1, q1⟩ => ?_
  obtain ⟨a, e, ⟨xs, hq⟩, q⟩ := q1
  subst e
  cases r1
  obtain ⟨its, rv, p, hz⟩ := I1.list hq
  refine wpAny_pyIter_list p.isList ?_
  refine ⟨s1.heap.objs.size, [s1.heap.objs.size], _, _, H1, rfl, I1.kept (t' := s1.toks) fun b o e => Heap.get?_push_of_some _ e, turn_list a _, ⟨_, Heap.get?_push_size _ rfl, rfl, rfl⟩, fun b hb => ?_, q⟩
  have e : b = s1.heap.objs.size := by simpa using hb
  subst e
  exact I1.fpOk (Nat.le_refl _) (I1.hok.fresh (Nat.le_refl _))
theorem pi_tup {l : Expr} {tl : TE} (hl : PE X l tl) : PI X tg l (iTup X.K tl) := by
  intro pins s σ H R I h
  refine thn (hl pins s σ H _ I h) fun v s1 ⟨x, H1, I1, r1, q1⟩ => ?_
  obtain ⟨a, e, ⟨xs, hq⟩, q⟩ := q1
  subst e
  cases r1
  obtain ⟨its, rv, p, hz⟩ := I1.tuple hq
  refine wpAny_pyIter_tuple (show s1.heap.IsTuple a its.toArray from p) ?_
  refine ⟨s1.heap.objs.size, [s1.heap.objs.size], _, _, H1, rfl, I1.kept (t' := s1.toks) fun b o e => Heap.get?_push_of_some _ e, turn_tuple a _, ⟨_, Heap.get?_push_size _ rfl, rfl, rfl⟩, fun b hb => ?_, q⟩
  have e : b = s1.heap.objs.size := by simpa using hb
  subst e
  exact I1.fpOk (Nat.le_refl _) (I1.hok.fresh (Nat.le_refl _))
/-- a range object just made, walked -/
theorem range_it {pins : List (Addr × Obj)} {σ : St} {H : Hp} {s : Shared} {R : It → Hp → Prop} {E : Value → Shared → Prop} {lo hi : Int} {t u v : Tok} {tk : Nat} (I : Inv X pins σ H s) (h1 : -(2 ^ 62) ≤ lo) (h2 : lo < 2 ^ 62) (h3 : -(2 ^ 62) ≤ hi) (h4 : hi < 2 ^ 62)
    (q : R (Itr lo (hi - lo).toNat) H) : wpAny (model X.prog X.w) X.A (pyIter (.ref s.heap.objs.size)) (PIE X pins σ tg R) E { s with heap := s.heap.push { cls := .type "range", data := .fields #[.int lo t, .int hi u, .int 1 v] }, toks := tk } := by
  refine wpAny_pyIter_range (IsRange.new ..) (small_one h1 h2 h3 h4) ?_
  have I1 : Inv X pins σ H { s with heap := s.heap.push { cls := .type "range", data := .fields #[.int lo t, .int hi u, .int 1 v] }, toks := tk } := I.kept fun b o e => Heap.get?_push_of_some _ e
  refine ⟨(s.heap.push { cls := .type "range", data := .fields #[.int lo t, .int hi u, .int 1 v] }).objs.size, [(s.heap.push { cls := .type "range", data := .fields #[.int lo t, .int hi u, .int 1 v] }).objs.size], _, _, H, rfl,
    I1.kept (t' := tk) fun b o e => Heap.get?_push_of_some _ e, turn_range _ lo (hi - lo).toNat, ?_, fun b hb => ?_, q⟩
  · have e1 : lo + ((0 : Nat) : Int) * 1 = lo := by simp
    have e2 : (((hi - lo).toNat : Nat) : Int) - ((0 : Nat) : Int) = Builtin.Range.rangeSize lo hi 1 := by rw [rangeSize_one]; split <;> omega
    show IsRangeIter _ _ (lo + ((0 : Nat) : Int) * 1) ((((hi - lo).toNat : Nat) : Int) - ((0 : Nat) : Int)) 1
    rw [e1, e2]
    exact Heap.get?_push_size _ rfl
  · have e : b = (s.heap.push { cls := .type "range", data := .fields #[.int lo t, .int hi u, .int 1 v] }).objs.size := by simpa using hb
    subst e
    exact I1.fpOk (Nat.le_refl _) (I1.hok.fresh (Nat.le_refl _))
def iRng1 (ta : TA) : TI := fun σ H R => ta σ H fun vs H1 => ∃ j : Int, vs = [.int j] ∧ -(2 ^ 62) ≤ j ∧ j < 2 ^ 62 ∧ R (Itr 0 j.toNat) H1
def iRng2 (ta : TA) : TI := fun σ H R => ta σ H fun vs H1 => ∃ i j : Int, vs = [.int i, .int j] ∧ (-(2 ^ 62) ≤ i ∧ i < 2 ^ 62 ∧ -(2 ^ 62) ≤ j ∧ j < 2 ^ 62) ∧ R (Itr i (j - i).toNat) H1
theorem pi_range1 {a : Expr} {ta : TA} {p pos : Pos} (hg : Gl X "range") (hm : X.mg "range" = none) (ha : PA X [a] ta) (hs : starEach [a] X.env = [(false, eval a X.env)] := by rfl) : PI X tg (.Call (.Name "range" p) [a] [] pos) (iRng1 ta) := by
  intro pins s σ H R I h
  refine Call_ (ld_blt I hg hm boot_range (PyProof.Rows.callWith_type1 (thn (ha pos pins s σ H _ I h) fun us s1 ⟨vs, H1, I1, r1, q1⟩ => ?_) hs rfl))
  obtain ⟨j, e, q1, q2, q⟩ := q1
  subst e
  cases r1 with
  | cons r rr =>
    cases rr
    obtain ⟨t, rfl⟩ := r
    exact call_range_1 (range_it I1 (by omega) (by omega) q1 q2 (by simpa using q))
/-! ### for -/
/-- W: the invariant by the turn and a measure; N: what the body is to reach -/
def tFor (wi : TI) (g : TG) (tb : TS) : TS := fun D σ H => wi σ H fun J H1 => ∃ W : Nat → Nat → St → Hp → Prop, (∃ m, W 0 m σ H1) ∧ ∀ i m σ H, W i m σ H →
  (J.stop i H ∧ D.nx σ H) ∨ (J.go i H ∧ ∃ N : St → Hp → Prop, (∀ σ' H', N σ' H' → ∃ m', m' < m ∧ W (i + 1) m' σ' H') ∧ ∀ x H', J.yld i H x H' → g x σ H' fun σ2 H2 => tb { D with nx := N, ct := N, bk := D.nx } σ2 H2)
/-- the records at fp as they stand -/
def pinsAt (fp : List Addr) (h : Heap) : List (Addr × Obj) := fp.filterMap fun b => (h.get? b).map fun o => (b, o)
theorem mem_pinsAt {fp : List Addr} {h : Heap} {b : Addr} {o : Obj} (hb : b ∈ fp) (e : h.get? b = some o) : (b, o) ∈ pinsAt fp h := List.mem_filterMap.mpr ⟨b, hb, by rw [e]; rfl⟩
theorem of_pinsAt {fp : List Addr} {h : Heap} {p : Addr × Obj} (hp : p ∈ pinsAt fp h) : p.1 ∈ fp ∧ h.get? p.1 = some p.2 := by
  obtain ⟨b, hb, e⟩ := List.mem_filterMap.mp hp
  cases q : h.get? b with
  | none => rw [q] at e; cases e
  | some o =>
    rw [q] at e
    have e' : (b, o) = p := Option.some.inj e
    subst e'
    exact ⟨hb, q⟩
theorem Inv.pinned {pins : List (Addr × Obj)} {σ : St} {H : Hp} {s : Shared} {fp : List Addr} (I : Inv X pins σ H s) (hf : ∀ b ∈ fp, FpOk X pins H b) (ho : ∀ b ∈ fp, ∃ o, s.heap.get? b = some o ∧ ∀ v, o.data ≠ .cell v) : Inv X (pins ++ pinsAt fp s.heap) σ H s :=
  I.pins_of fun p hp => (List.mem_append.mp hp).elim (fun z => I.pin p (List.mem_append_right _ z)) fun z => by
    obtain ⟨hb, e⟩ := of_pinsAt z
    obtain ⟨f0, f1, f2, _⟩ := hf p.1 hb
    obtain ⟨o, e', d⟩ := ho p.1 hb
    rw [e] at e'; cases e'
    exact ⟨e, f0, f1, f2, d⟩
theorem Inv.unpinned {pins pl : List (Addr × Obj)} {σ : St} {H : Hp} {s : Shared} (I : Inv X (pins ++ pl) σ H s) : Inv X pins σ H s := I.pins_of fun p hp => I.pin p (List.mem_append_right _ (List.mem_append_left _ hp))
theorem ps_for {iter : Expr} {body : List Stmt} {wi : TI} {g : TG} {tb : TS} {pos : Pos} (hp : PassesOwn (model X.prog X.w) X.A X.env X.xe) (hc : X.calm = true) (hi : PI X tg iter wi) (hg : PG X tg g) (hb : PSs X body tb)
    (hs : ∀ x, foldedSetIterable iter X.env x = pure x := by intro _; rfl) : PS X (.For tg iter body [] pos) (tFor wi g tb) := by
  intro pins s σ H D I h
  refine wpAny_For (thn (hi pins s σ H _ I h) fun v s1 h1 => thn h1 fun itv s2 h2 => ?_) hs
  obtain ⟨it, fp, tn, J, H2, e, I2, T, st2, f2, W, ⟨m0, w0⟩, turn⟩ := h2
  subst e
  -- what stays true of the iterator's objects through the loop
  have stat : ∀ {H' : Hp}, (∀ b ∈ fp, H' b = none) → ∀ b ∈ fp, FpOk X pins H' b := fun hn b hb => ⟨hn b hb, (f2 b hb).2⟩
  refine codeAny_forLoop_any (fun n s' => ∃ i σ' H', Inv X pins σ' H' s' ∧ tn i s'.heap ∧ (∀ b ∈ fp, H' b = none) ∧ W i n σ' H') ?_ m0 ⟨0, σ, H2, I2, st2, fun b hb => (f2 b hb).1, w0⟩
  rintro n s3 ⟨i, σ3, H3, I3, st3, fr3, w3⟩
  rcases turn i n σ3 H3 w3 with ⟨stop, qn⟩ | ⟨go, N, hN, step⟩
  · refine wpAny_passesOwn hp (thn (T.done X rfl rfl rfl hc i pins s3 σ3 H3 X.xe I3 (stat fr3) st3 stop) fun r s4 ⟨hr, I4⟩ => ?_)
    subst hr
    exact wpAny_execs_nil ⟨σ3, H3, I4, qn⟩
  · refine wpAny_passesOwn hp (thn (T.item X rfl rfl rfl hc i pins s3 σ3 H3 X.xe I3 (stat fr3) st3 go) fun r s4 ⟨u, hr, h4⟩ => ?_)
    subst hr
    refine wpAny_passesOwn hp (thn h4 fun _ s5 ⟨x, H5, I5, r5, y5, st5, fr5⟩ => ?_)
    have I5' := I5.pinned (stat fr5) (T.obj _ _ st5)
    refine wpAny_passesOwn hp (thn (hg _ s5 σ3 H5 x u _ I5' r5 (step x H5 y5)) fun _ s6 ⟨σ6, H6, I6, q6⟩ => ?_)
    refine wpAny_passesOwn hp (thn (hb _ s6 σ6 H6 _ I6 q6) fun f s7 q7 => ?_)
    have again : ∀ {σ7 : St} {H7 : Hp}, Inv X (pins ++ pinsAt fp s5.heap) σ7 H7 s7 → N σ7 H7 → ∃ m, m < n ∧ ∃ i σ' H', Inv X pins σ' H' s7 ∧ tn i s7.heap ∧ (∀ b ∈ fp, H' b = none) ∧ W i m σ' H' := fun {σ7 H7} I7 n7 => by
      obtain ⟨m', hm, w7⟩ := hN σ7 H7 n7
      refine ⟨m', hm, i + 1, σ7, H7, I7.unpinned, T.keep _ _ _ st5 fun b hb o e => (I7.pin (b, o) (List.mem_append_right _ (List.mem_append_right _ (mem_pinsAt hb e)))).1, fun b hb => ?_, w7⟩
      obtain ⟨o, e, d⟩ := T.obj _ _ st5 b hb
      exact (I7.pin (b, o) (List.mem_append_right _ (List.mem_append_right _ (mem_pinsAt hb e)))).2.1
    cases f with
    | next => obtain ⟨σ7, H7, I7, n7⟩ := q7; exact again I7 n7
    | cont => obtain ⟨σ7, H7, I7, n7⟩ := q7; exact again I7 n7
    | brk => obtain ⟨σ7, H7, I7, q7⟩ := q7; exact ⟨σ7, H7, I7.unpinned, q7⟩
    | ret v => obtain ⟨x7, σ7, H7, I7, r7, q7⟩ := q7; exact ⟨x7, σ7, H7, I7.unpinned, r7, q7⟩
end

/-! ### the forms one uses -/
/-- over a list that the body leaves as it is -/
theorem for_list {K : PySem.W.Frag} {a : Addr} {xs : List V} {g : TG} {tb : TS} {D : Ends} {σ : St} {H : Hp} (Pv : Nat → St → Hp → Prop) (h0 : Pv 0 σ H) (hl : ∀ i σ H, i ≤ xs.length → Pv i σ H → SqL K H a xs)
    (hs : ∀ i x σ H, xs[i]? = some x → Pv i σ H → g x σ H fun σ2 H2 => tb { D with nx := Pv (i + 1), ct := Pv (i + 1), bk := D.nx } σ2 H2) (hd : ∀ σ H, Pv xs.length σ H → D.nx σ H) :
    ∃ W : Nat → Nat → St → Hp → Prop, (∃ m, W 0 m σ H) ∧ ∀ i m σ H, W i m σ H →
      ((Itl K a).stop i H ∧ D.nx σ H) ∨ ((Itl K a).go i H ∧ ∃ N : St → Hp → Prop, (∀ σ' H', N σ' H' → ∃ m', m' < m ∧ W (i + 1) m' σ' H') ∧ ∀ x H', (Itl K a).yld i H x H' → g x σ H' fun σ2 H2 => tb { D with nx := N, ct := N, bk := D.nx } σ2 H2) := by
  refine ⟨fun i m σ H => m = xs.length - i ∧ i ≤ xs.length ∧ Pv i σ H, ⟨xs.length, by simp, Nat.zero_le _, h0⟩, ?_⟩
  rintro i m σ H ⟨rfl, hi, p⟩
  have q := hl i σ H hi p
  by_cases hlt : i < xs.length
  · refine .inr ⟨⟨xs, xs[i], q, by simp [hlt]⟩, Pv (i + 1), fun σ' H' p' => ⟨xs.length - (i + 1), by omega, rfl, hlt, p'⟩, fun x H' y => ?_⟩
    obtain ⟨e, y⟩ := y
    subst e
    exact hs i x σ _ (y xs q) p
  · have e : i = xs.length := by omega
    subst e
    exact .inl ⟨⟨xs, q, Nat.le_refl _⟩, hd σ H p⟩
theorem for_tup {K : PySem.W.Frag} {a : Addr} {xs : List V} {g : TG} {tb : TS} {D : Ends} {σ : St} {H : Hp} (Pv : Nat → St → Hp → Prop) (h0 : Pv 0 σ H) (hl : ∀ i σ H, i ≤ xs.length → Pv i σ H → SqT K H a xs)
    (hs : ∀ i x σ H, xs[i]? = some x → Pv i σ H → g x σ H fun σ2 H2 => tb { D with nx := Pv (i + 1), ct := Pv (i + 1), bk := D.nx } σ2 H2) (hd : ∀ σ H, Pv xs.length σ H → D.nx σ H) :
    ∃ W : Nat → Nat → St → Hp → Prop, (∃ m, W 0 m σ H) ∧ ∀ i m σ H, W i m σ H →
      ((Itt K a).stop i H ∧ D.nx σ H) ∨ ((Itt K a).go i H ∧ ∃ N : St → Hp → Prop, (∀ σ' H', N σ' H' → ∃ m', m' < m ∧ W (i + 1) m' σ' H') ∧ ∀ x H', (Itt K a).yld i H x H' → g x σ H' fun σ2 H2 => tb { D with nx := N, ct := N, bk := D.nx } σ2 H2) := by
  refine ⟨fun i m σ H => m = xs.length - i ∧ i ≤ xs.length ∧ Pv i σ H, ⟨xs.length, by simp, Nat.zero_le _, h0⟩, ?_⟩
  rintro i m σ H ⟨rfl, hi, p⟩
  have q := hl i σ H hi p
  by_cases hlt : i < xs.length
  · refine .inr ⟨⟨xs, xs[i], q, by simp [hlt]⟩, Pv (i + 1), fun σ' H' p' => ⟨xs.length - (i + 1), by omega, rfl, hlt, p'⟩, fun x H' y => ?_⟩
    obtain ⟨e, y⟩ := y
    subst e
    exact hs i x σ _ (y xs q) p
  · have e : i = xs.length := by omega
    subst e
    exact .inl ⟨⟨xs, q, Nat.le_refl _⟩, hd σ H p⟩
theorem for_range {lo : Int} {n : Nat} {g : TG} {tb : TS} {D : Ends} {σ : St} {H : Hp} (Pv : Nat → St → Hp → Prop) (h0 : Pv 0 σ H)
    (hs : ∀ i σ H, i < n → Pv i σ H → g (.int (lo + i)) σ H fun σ2 H2 => tb { D with nx := Pv (i + 1), ct := Pv (i + 1), bk := D.nx } σ2 H2) (hd : ∀ σ H, Pv n σ H → D.nx σ H) :
    ∃ W : Nat → Nat → St → Hp → Prop, (∃ m, W 0 m σ H) ∧ ∀ i m σ H, W i m σ H →
      ((Itr lo n).stop i H ∧ D.nx σ H) ∨ ((Itr lo n).go i H ∧ ∃ N : St → Hp → Prop, (∀ σ' H', N σ' H' → ∃ m', m' < m ∧ W (i + 1) m' σ' H') ∧ ∀ x H', (Itr lo n).yld i H x H' → g x σ H' fun σ2 H2 => tb { D with nx := N, ct := N, bk := D.nx } σ2 H2) := by
  refine ⟨fun i m σ H => m = n - i ∧ i ≤ n ∧ Pv i σ H, ⟨n, by simp, Nat.zero_le _, h0⟩, ?_⟩
  rintro i m σ H ⟨rfl, hi, p⟩
  by_cases hlt : i < n
  · refine .inr ⟨hlt, Pv (i + 1), fun σ' H' p' => ⟨n - (i + 1), by omega, rfl, hlt, p'⟩, fun x H' y => ?_⟩
    obtain ⟨e, y⟩ := y
    subst e y
    exact hs i σ _ hlt p
  · have e : i = n := by omega
    subst e
    exact .inl ⟨Nat.le_refl _, hd σ H p⟩
/-- while, by a word and a measure of the state -/
theorem while_by {c : TT} {tb : TS} {D : Ends} {σ : St} {H : Hp} (Pv : St → Hp → Prop) (μ : St → Hp → Nat) (h0 : Pv σ H)
    (hs : ∀ σ H, Pv σ H → c σ H fun b H1 => if b = true then tb { D with nx := fun σ' H' => Pv σ' H' ∧ μ σ' H' < μ σ H, ct := fun σ' H' => Pv σ' H' ∧ μ σ' H' < μ σ H, bk := D.nx } σ H1 else D.nx σ H1)
    (mono : ∀ σ H Q Q', (∀ b H1, Q b H1 → Q' b H1) → c σ H Q → c σ H Q') : tWhile c tb D σ H := by
  refine ⟨fun m σ H => m = μ σ H ∧ Pv σ H, ⟨_, rfl, h0⟩, ?_⟩
  rintro m σ H ⟨rfl, p⟩
  refine mono σ H _ _ (fun b H1 q => ?_) (hs σ H p)
  cases b with
  | true => exact ⟨_, fun σ' H' ⟨p', l⟩ => ⟨_, l, rfl, p'⟩, q⟩
  | false => exact q
end L2

namespace L2
open PySem PySem.Spec PyProof.Rows

abbrev R2 := V → V → Hp → VK → Prop
/-- a two-place operation on values: f is binaryOp op, inplaceOp op or compareOp op -/
def OpR (X : Cx) (f : Value → Value → Sem Value) (r : R2) : Prop :=
  ∀ (pins : List (Addr × Obj)) (s : Shared) (σ : St) (H : Hp) (x y : V) (v u : Value) (Q : VK), Inv X pins σ H s → RelV x v → RelV y u → r x y H Q →
    wpAny (model X.prog X.w) X.A (f v u) (EP X pins σ Q) X.xe s
/-- a one-place operation -/
def UnR (X : Cx) (f : Value → Sem Value) (r : V → Hp → VK → Prop) : Prop :=
  ∀ (pins : List (Addr × Obj)) (s : Shared) (σ : St) (H : Hp) (x : V) (v : Value) (Q : VK), Inv X pins σ H s → RelV x v → r x H Q →
    wpAny (model X.prog X.w) X.A (f v) (EP X pins σ Q) X.xe s
/-- a call of a value that is known (a builtin, a type) with values -/
def CallR (X : Cx) (f : Value) (r : List V → Hp → VK → Prop) : Prop :=
  ∀ (pins : List (Addr × Obj)) (s : Shared) (σ : St) (H : Hp) (xs : List V) (us : List Value) (Q : VK), Inv X pins σ H s → Vals xs us → r xs H Q →
    wpAny (model X.prog X.w) X.A (call f us) (EP X pins σ Q) X.xe s
/-- a value's truth -/
def TruR (X : Cx) (r : V → Hp → (Bool → Hp → Prop) → Prop) : Prop :=
  ∀ (pins : List (Addr × Obj)) (s : Shared) (σ : St) (H : Hp) (x : V) (v : Value) (Q : Bool → Hp → Prop), Inv X pins σ H s → RelV x v → r x H Q →
    wpAny (model X.prog X.w) X.A (truthy v) (TP X pins σ Q) X.xe s

def tOp (r : R2) (ta tb : TE) : TE := fun σ H Q => ta σ H fun x H1 => tb σ H1 fun y H2 => r x y H2 Q
def tUn (r : V → Hp → VK → Prop) (ta : TE) : TE := fun σ H Q => ta σ H fun x H1 => r x H1 Q
/-- ints in, under C, and a value out -/
def rI (C : Int → Int → Prop) (g : Int → Int → V) : R2 := fun x y H Q => ∃ i j, x = .int i ∧ y = .int j ∧ C i j ∧ Q (g i j) H
def rI0 (g : Int → Int → V) : R2 := fun x y H Q => ∃ i j, x = .int i ∧ y = .int j ∧ Q (g i j) H
def rU (g : Int → V) : V → Hp → VK → Prop := fun x H Q => ∃ i, x = .int i ∧ Q (g i) H

section
variable {X : Cx} {a b c : Expr} {ta tb tc : TE} {pos : Pos}

theorem binT (ha : PE X a ta) (hb : PE X b tb) {pins : List (Addr × Obj)} {s : Shared} {σ : St} {H : Hp} {R : V → V → Hp → Prop} (I : Inv X pins σ H s)
    (h : ta σ H fun x H1 => tb σ H1 fun y H2 => R x y H2) {Q : Value → Shared → Prop} {f : Value → Value → Sem Value}
    (hf : ∀ v u s2 x y H2, Inv X pins σ H2 s2 → RelV x v → RelV y u → R x y H2 → wpAny (model X.prog X.w) X.A (f v u) Q X.xe s2) :
    wpAny (model X.prog X.w) X.A (eval a X.env) (fun v s₁ => wpAny (model X.prog X.w) X.A (eval b X.env) (fun u s₂ => wpAny (model X.prog X.w) X.A (f v u) Q X.xe s₂) X.xe s₁) X.xe s := by
  refine thn (ha pins s σ H _ I h) fun v s1 ⟨x, H1, I1, r1, q1⟩ => ?_
  refine thn (hb pins s1 σ H1 _ I1 q1) fun u s2 ⟨y, H2, I2, r2, q2⟩ => ?_
  exact hf v u s2 x y H2 I2 r1 r2 q2

theorem pe_op {op : Operator} {r : R2} (ho : OpR X (binaryOp op) r) (ha : PE X a ta) (hb : PE X b tb) : PE X (.BinOp a op b pos) (tOp r ta tb) := by
  intro pins s σ H Q I h
  exact wpAny_BinOp (binT ha hb I h fun v u s2 x y H2 I2 rx ry q => ho pins s2 σ H2 x y v u Q I2 rx ry q)
theorem pe_un {op : UnaryOp} {r : V → Hp → VK → Prop} (ho : UnR X (unaryOp op) r) (ha : PE X a ta) : PE X (.UnaryOp op a pos) (tUn r ta) := by
  intro pins s σ H Q I h
  exact UnaryOp_ (thn (ha pins s σ H _ I h) fun v s1 ⟨x, H1, I1, r1, q1⟩ => ho pins s1 σ H1 x v Q I1 r1 q1)
/-! ### ints -/
theorem opI {f : Value → Value → Sem Value} {C : Int → Int → Prop} {g : Int → Int → Int}
    (rule : ∀ (i j : Int) (t u : Tok) (s : Shared) (Q : Value → Shared → Prop) (E : Value → Shared → Prop), C i j → Q (.int (g i j) s.toks) { s with toks := s.toks + 1 } → wpAny (model X.prog X.w) X.A (f (.int i t) (.int j u)) Q E s) :
    OpR X f (rI C fun i j => .int (g i j)) := by
  intro pins s σ H x y v u Q I rx ry h
  obtain ⟨i, j, rfl, rfl, hc, q⟩ := h
  obtain ⟨t, rfl⟩ := rx
  obtain ⟨t', rfl⟩ := ry
  exact rule i j t t' s _ _ hc ⟨.int (g i j), H, I.tok _, ⟨_, rfl⟩, q⟩
theorem opI0 {f : Value → Value → Sem Value} {g : Int → Int → Int}
    (rule : ∀ (i j : Int) (t u : Tok) (s : Shared) (Q : Value → Shared → Prop) (E : Value → Shared → Prop), Q (.int (g i j) s.toks) { s with toks := s.toks + 1 } → wpAny (model X.prog X.w) X.A (f (.int i t) (.int j u)) Q E s) :
    OpR X f (rI0 fun i j => .int (g i j)) := by
  intro pins s σ H x y v u Q I rx ry h
  obtain ⟨i, j, rfl, rfl, q⟩ := h
  obtain ⟨t, rfl⟩ := rx
  obtain ⟨t', rfl⟩ := ry
  exact rule i j t t' s _ _ ⟨.int (g i j), H, I.tok _, ⟨_, rfl⟩, q⟩
theorem opB0 {f : Value → Value → Sem Value} {g : Int → Int → Bool}
    (rule : ∀ (i j : Int) (t u : Tok) (s : Shared) (Q : Value → Shared → Prop) (E : Value → Shared → Prop), Q (.bool (g i j)) s → wpAny (model X.prog X.w) X.A (f (.int i t) (.int j u)) Q E s) :
    OpR X f (rI0 fun i j => .bl (g i j)) := by
  intro pins s σ H x y v u Q I rx ry h
  obtain ⟨i, j, rfl, rfl, q⟩ := h
  obtain ⟨t, rfl⟩ := rx
  obtain ⟨t', rfl⟩ := ry
  exact rule i j t t' s _ _ ⟨.bl (g i j), H, I, rfl, q⟩

def CDiv (i j : Int) : Prop := 0 < j ∧ j < 1073741824
def CDivN (i j : Int) : Prop := j ≠ 0 ∧ j.natAbs < 1073741824
def CPow (i j : Int) : Prop := 0 ≤ j ∧ j ≤ 1000000 ∧ i.natAbs < 2 ^ 64
def CMul (i j : Int) : Prop := (-(2 ^ 64) < i ∧ i < 2 ^ 64) ∨ (-(2 ^ 64) < j ∧ j < 2 ^ 64)
theorem CMul.ok {i j : Int} (h : CMul i j) : IntMulOk i j := by
  rcases h with ⟨h1, h2⟩ | ⟨h1, h2⟩
  · exact .of_left (intBits_le_64 h1 h2)
  · exact .of_right (intBits_le_64 h1 h2)
theorem op_add : OpR X (binaryOp .Add) (rI0 fun i j => .int (i + j)) := opI0 fun _ _ _ _ _ _ _ q => add_int q
theorem op_sub : OpR X (binaryOp .Sub) (rI0 fun i j => .int (i - j)) := opI0 fun _ _ _ _ _ _ _ q => sub_int q
theorem op_mul : OpR X (binaryOp .Mult) (rI CMul fun i j => .int (i * j)) := opI fun _ _ _ _ _ _ _ hc q => mul_int q hc.ok
/-- // by a positive divisor -/
theorem op_fdiv : OpR X (binaryOp .FloorDiv) (rI CDiv fun i j => .int (i / j)) := opI fun i j _ _ _ _ _ hc q => by
  have h1 : (0 : Int) < j := hc.1
  have h2 : j < 1073741824 := hc.2
  exact floordiv_int (by omega) (by rw [Int.fdiv_eq_ediv_of_nonneg i (by omega)]; exact q) (.inl (PyProof.noPylong_small (by omega)))
/-- % by a positive divisor of any size -/
theorem op_mod : OpR X (binaryOp .Mod) (rI (fun _ j => 0 < j) fun i j => .int (i % j)) := opI fun i j _ _ _ _ _ hc q => by
  have h1 : (0 : Int) < j := hc
  exact mod_int' (by omega) (by rw [Int.fmod_eq_emod_of_nonneg i (by omega)]; exact q)
theorem op_modN : OpR X (binaryOp .Mod) (rI (fun _ j => j ≠ 0) fun i j => .int (i.fmod j)) := opI fun _ _ _ _ _ _ _ hc q => mod_int' hc q
theorem unI {f : Value → Sem Value} {g : Int → Int}
    (rule : ∀ (i : Int) (t : Tok) (s : Shared) (Q : Value → Shared → Prop) (E : Value → Shared → Prop), Q (.int (g i) s.toks) { s with toks := s.toks + 1 } → wpAny (model X.prog X.w) X.A (f (.int i t)) Q E s) :
    UnR X f (rU fun i => .int (g i)) := by
  intro pins s σ H x v Q I rx h
  obtain ⟨i, rfl, q⟩ := h
  obtain ⟨t, rfl⟩ := rx
  exact rule i t s _ _ ⟨.int (g i), H, I.tok _, ⟨_, rfl⟩, q⟩
theorem un_neg : UnR X (unaryOp .USub) (rU fun i => .int (-i)) := unI fun _ _ _ _ _ q => neg_int q
/-! ### bools among ints: n += (a < b) -/
end

/-! ### comparisons -/
/-- the scalars that == tells apart as data does -/
def scal : V → V → Bool
  | .non, .non => true | .non, .int _ => true | .int _, .non => true | .non, .bl _ => true | .bl _, .non => true | .non, .str _ => true | .str _, .non => true
  | .int _, .int _ => true | .bl _, .bl _ => true | .str _, .str _ => true | .byt _, .byt _ => true
  | .int _, .str _ => true | .str _, .int _ => true | .bl _, .str _ => true | .str _, .bl _ => true
  | _, _ => false
def rEq : R2 := fun x y H Q => scal x y = true ∧ Q (.bl (decide (x = y))) H
def rNe : R2 := fun x y H Q => scal x y = true ∧ Q (.bl (!decide (x = y))) H

theorem dec_int {i j : Int} : decide (V.int i = V.int j) = (i == j) := by
  rw [Bool.eq_iff_iff]
  simp
theorem dec_bl {i j : Bool} : decide (V.bl i = V.bl j) = (i == j) := by
  rw [Bool.eq_iff_iff]
  simp
theorem dec_str {i j : Str} : decide (V.str i = V.str j) = (i == j) := by
  rw [Bool.eq_iff_iff]
  simp
theorem dec_byt {i j : Array UInt8} : decide (V.byt i = V.byt j) = (i.toList == j.toList) := by
  rw [Bool.eq_iff_iff]
  cases i
  cases j
  simp

section
variable {X : Cx} {a b c : Expr} {ta tb tc : TE} {pos : Pos}
theorem fin_bl {pins : List (Addr × Obj)} {σ : St} {H : Hp} {s : Shared} {Q : VK} {k k' : Bool} (I : Inv X pins σ H s) (q : Q (.bl k) H) (e : k = k') : EP X pins σ Q (.bool k') s := by
  subst e
  exact ⟨.bl k, H, I, rfl, q⟩
theorem op_eq : OpR X (compareOp .Eq) rEq := by
  intro pins s σ H x y v u Q I rx ry h
  obtain ⟨hs, q⟩ := h
  cases x with
  | non =>
    cases rx
    cases y with
    | non => cases ry; exact PySem.EqNone.eq_none_none (fin_bl I q (by simp))
    | bl j => cases ry; exact PySem.EqNone.eq_none_bool (fin_bl I q (by simp))
    | int j => obtain ⟨t', rfl⟩ := ry; exact PySem.EqNone.eq_none_int (fin_bl I q (by simp))
    | str j => obtain ⟨t', rfl⟩ := ry; exact PySem.EqNone.eq_none_str (fin_bl I q (by simp))
    | _ => exact absurd (show false = true from hs) Bool.false_ne_true
  | bl i =>
    cases rx
    cases y with
    | non => cases ry; exact PySem.EqNone.eq_bool_none (fin_bl I q (by simp))
    | bl j => cases ry; exact eq_bool (fin_bl I q dec_bl)
    | str j => obtain ⟨t', rfl⟩ := ry; exact PySem.EqMixed.eq_bool_str (fin_bl I q (by simp))
    | _ => exact absurd (show false = true from hs) Bool.false_ne_true
  | int i =>
    obtain ⟨t, rfl⟩ := rx
    cases y with
    | non => cases ry; exact PySem.EqNone.eq_int_none (fin_bl I q (by simp))
    | int j => obtain ⟨t', rfl⟩ := ry; exact eq_int (fin_bl I q dec_int)
    | str j => obtain ⟨t', rfl⟩ := ry; exact PySem.EqMixed.eq_int_str (fin_bl I q (by simp))
    | _ => exact absurd (show false = true from hs) Bool.false_ne_true
  | str i =>
    obtain ⟨t, rfl⟩ := rx
    cases y with
    | non => cases ry; exact PySem.EqNone.eq_str_none (fin_bl I q (by simp))
    | bl j => cases ry; exact PySem.EqMixed.eq_str_bool (fin_bl I q (by simp))
    | int j => obtain ⟨t', rfl⟩ := ry; exact PySem.EqMixed.eq_str_int (fin_bl I q (by simp))
    | str j => obtain ⟨t', rfl⟩ := ry; exact eq_str (fin_bl I q dec_str)
    | _ => exact absurd (show false = true from hs) Bool.false_ne_true
  | byt i =>
    obtain ⟨t, rfl⟩ := rx
    cases y with
    | byt j => obtain ⟨t', rfl⟩ := ry; exact PySem.W.eq_bytes (fin_bl I q dec_byt)
    | _ => exact absurd (show false = true from hs) Bool.false_ne_true
  | _ => cases y <;> exact absurd (show false = true from hs) Bool.false_ne_true
theorem op_ne : OpR X (compareOp .NotEq) rNe := by
  intro pins s σ H x y v u Q I rx ry h
  obtain ⟨hs, q⟩ := h
  cases x with
  | non =>
    cases rx
    cases y with
    | non => cases ry; exact PySem.EqNone.ne_none_none (fin_bl I q (by simp))
    | bl j => cases ry; exact PySem.EqNone.ne_none_bool (fin_bl I q (by simp))
    | int j => obtain ⟨t', rfl⟩ := ry; exact PySem.EqNone.ne_none_int (fin_bl I q (by simp))
    | str j => obtain ⟨t', rfl⟩ := ry; exact PySem.EqNone.ne_none_str (fin_bl I q (by simp))
    | _ => exact absurd (show false = true from hs) Bool.false_ne_true
  | bl i =>
    cases rx
    cases y with
    | non => cases ry; exact PySem.EqNone.ne_bool_none (fin_bl I q (by simp))
    | bl j => cases ry; exact ne_bool (fin_bl I q (congrArg not dec_bl))
    | str j => obtain ⟨t', rfl⟩ := ry; exact PySem.EqMixed.ne_bool_str (fin_bl I q (by simp))
    | _ => exact absurd (show false = true from hs) Bool.false_ne_true
  | int i =>
    obtain ⟨t, rfl⟩ := rx
    cases y with
    | non => cases ry; exact PySem.EqNone.ne_int_none (fin_bl I q (by simp))
    | int j => obtain ⟨t', rfl⟩ := ry; exact ne_int (fin_bl I q (congrArg not dec_int))
    | str j => obtain ⟨t', rfl⟩ := ry; exact PySem.EqMixed.ne_int_str (fin_bl I q (by simp))
    | _ => exact absurd (show false = true from hs) Bool.false_ne_true
  | str i =>
    obtain ⟨t, rfl⟩ := rx
    cases y with
    | non => cases ry; exact PySem.EqNone.ne_str_none (fin_bl I q (by simp))
    | bl j => cases ry; exact PySem.EqMixed.ne_str_bool (fin_bl I q (by simp))
    | int j => obtain ⟨t', rfl⟩ := ry; exact PySem.EqMixed.ne_str_int (fin_bl I q (by simp))
    | str j => obtain ⟨t', rfl⟩ := ry; exact ne_str (fin_bl I q (congrArg not dec_str))
    | _ => exact absurd (show false = true from hs) Bool.false_ne_true
  | byt i =>
    obtain ⟨t, rfl⟩ := rx
    cases y with
    | byt j => obtain ⟨t', rfl⟩ := ry; exact PySem.W.ne_bytes (fin_bl I q (congrArg not dec_byt))
    | _ => exact absurd (show false = true from hs) Bool.false_ne_true
  | _ => cases y <;> exact absurd (show false = true from hs) Bool.false_ne_true

theorem op_lt : OpR X (compareOp .Lt) (rI0 fun i j => .bl (decide (i < j))) := opB0 fun _ _ _ _ _ _ _ q => lt_int q
theorem op_gt : OpR X (compareOp .Gt) (rI0 fun i j => .bl (decide (j < i))) := opB0 fun _ _ _ _ _ _ _ q => gt_int q
theorem op_ge : OpR X (compareOp .GtE) (rI0 fun i j => .bl (decide (j ≤ i))) := opB0 fun _ _ _ _ _ _ _ q => ge_int q
/-- is, is not of two objects that are tracked lists or instances -/
def isObj : HO → Bool
  | .lst _ => true
  | .ins _ _ _ => true
  | _ => false
theorem nomark (b : Expr) {op : CmpOp} (h : op ≠ .In := by decide) (h2 : op ≠ .NotIn := by decide) : behindInMarks op b = false := by
  have e1 : (op == CmpOp.In) = false := by cases op <;> first | rfl | exact absurd rfl h
  have e2 : (op == CmpOp.NotIn) = false := by cases op <;> first | rfl | exact absurd rfl h2
  cases b <;> simp [behindInMarks, e1, e2]
/-- a comparison as a value; hm: nomark b, or (for in, not in) by with_unfolding_all rfl -/
theorem pe_cmpR {op : CmpOp} {r : R2} (ho : OpR X (compareOp op) r) (ha : PE X a ta) (hb : PE X b tb) (hm : behindInMarks op b = false) : PE X (.Compare a [op] [b] pos) (tOp r ta tb) := by
  intro pins s σ H Q I h
  exact wpAny_Compare1 (binT ha hb I h fun v u s2 x y H2 I2 rx ry q => ho pins s2 σ H2 x y v u Q I2 rx ry q) hm
/-- a reading of a value as a test -/
def tTest (t : TE) : TT := fun σ H Q => t σ H fun x H' => ∃ k, x = .bl k ∧ Q k H'
theorem pt_cmpR {op : CmpOp} {r : R2} (ho : OpR X (compareOp op) r) (ha : PE X a ta) (hb : PE X b tb) (hm : behindInMarks op b = false) : PT X (.Compare a [op] [b] pos) (tTest (tOp r ta tb)) := by
  intro pins s σ H Q I h
  refine wpAny_isTrue_Compare1 (thn (ha pins s σ H _ I h) fun v s1 ⟨x, H1, I1, r1, q1⟩ => thn (hb pins s1 σ H1 _ I1 q1) fun u s2 ⟨y, H2, I2, r2, q2⟩ =>
    thn (ho pins s2 σ H2 x y v u _ I2 r1 r2 q2) fun c s3 ⟨z, H3, I3, r3, k, e, q3⟩ => ?_) hm
  subst e
  cases r3
  exact wpAny_truthy_bool ⟨H3, I3, q3⟩
/-- a op1 b op2 c -/
def tChain (r r' : R2) (ta tb tc : TE) : TE := fun σ H Q => ta σ H fun x H1 => tb σ H1 fun y H2 => r x y H2 fun z H3 => ∃ k, z = .bl k ∧
  (if k = true then tc σ H3 fun w' H4 => r' y w' H4 Q else Q (.bl false) H3)
/-! ### truth -/
/-- a value's truth by the abstract heap -/
def TruV (K : PySem.W.Frag) (x : V) (H : Hp) (k : Bool) : Prop :=
  match x with
  | .non => k = false
  | .bl b => k = b
  | .int i => k = (i != 0)
  | .str y => y.length ≤ sizeLine ∧ k = ((y.length : Int) != 0)
  | .byt y => y.size ≤ sizeLine ∧ k = ((y.size : Int) != 0)
  | .ref p => (∃ xs, SqL K H p xs ∧ k = !xs.isEmpty) ∨ (∃ xs, SqT K H p xs ∧ k = !xs.isEmpty) ∨ ∃ kvs, H p = some (.dK kvs) ∧ k = !kvs.isEmpty
  | _ => False
theorem line63 : (sizeLine : Nat) < 2 ^ 63 := by rw [sizeLine_eq]; decide
/-! ### strs and bytes -/
def PlainIxT (b : Expr) : Prop := ∀ o i, subscripted b false o i = operate [o, i] (getItem o i)
/-! ### scalar builtins, by CallR -/
theorem vals1 {x : V} {us : List Value} (r : Vals [x] us) : ∃ u, us = [u] ∧ RelV x u := by
  cases r with
  | cons r1 r2 => cases r2; exact ⟨_, rfl, r1⟩
theorem vals2 {x y : V} {us : List Value} (r : Vals [x, y] us) : ∃ u w', us = [u, w'] ∧ RelV x u ∧ RelV y w' := by
  cases r with
  | cons r1 r2 =>
    cases r2 with
    | cons r3 r4 => cases r4; exact ⟨_, _, rfl, r1, r3⟩
theorem call_abs : CallR X (.builtin "abs") (fun xs H Q => ∃ i, xs = [.int i] ∧ Q (.int (if i < 0 then -i else i)) H) := by
  intro pins s σ H xs us Q I r h
  obtain ⟨i, rfl, q⟩ := h
  obtain ⟨u, rfl, t, rfl⟩ := vals1 r
  exact call_abs_int fun u tk => ⟨.int (if i < 0 then -i else i), H, I.tok _, ⟨_, rfl⟩, q⟩
/-- len of a str, a bytes, a list, a tuple -/
def LenV (K : PySem.W.Frag) (x : V) (H : Hp) (n : Nat) : Prop :=
  match x with
  | .str y => y.length ≤ sizeLine ∧ n = y.length
  | .byt y => y.size ≤ sizeLine ∧ n = y.size
  | .ref p => (∃ xs, SqL K H p xs ∧ n = xs.length) ∨ ∃ xs, SqT K H p xs ∧ n = xs.length
  | _ => False
end
end L2

namespace L2
open PySem PySem.Spec PyProof.Rows

/-! ### an instance, its attributes a map -/
structure ObjM (h : Heap) (x dx C : Addr) (mA : Str → Option Value) : Prop where
  obj : h.get? x = some (PySem.W.instObj C dx)
  ns : h.Ns1 dx mA
  ne : dx ≠ x

theorem lookIn_ns {h : Heap} {dx : Addr} {mA : Str → Option Value} (n : h.Ns1 dx mA) : ∃ od, h.get? dx = some od ∧ ∀ name, PySem.W.lookIn name od = some (mA name) := by
  obtain ⟨o, es, ep, ho, hd, hk, _, hm⟩ := n
  refine ⟨o, ho, fun name => ?_⟩
  have e := hm name
  unfold nsFind findBy at e
  rw [← Array.find?_toList] at e
  unfold PySem.W.lookIn
  rw [hd]
  dsimp only
  split
  · rename_i y q
    rw [q] at e
    exact congrArg some e
  · rename_i q
    rw [q] at e
    have a : es.toList.any (·.refKey) = false := by
      rw [List.any_eq_false]
      intro y hy
      obtain ⟨z, t, hkey⟩ := hk y (Array.mem_toList_iff.mp hy)
      simp [DictEntry.refKey, hkey]
    have a' : ¬ es.toList.any (·.refKey) = true := by rw [a]; exact Bool.false_ne_true
    rw [if_neg a']
    exact congrArg some e

theorem ObjM.look {h : Heap} {x dx C : Addr} {mA : Str → Option Value} (I : ObjM h x dx C mA) : ∃ od, PySem.W.InstAt h x (PySem.W.instObj C dx) C (some od) ∧ ∀ name, PySem.W.lookIn name od = some (mA name) :=
  let ⟨od, ho, hl⟩ := lookIn_ns I.ns
  ⟨od, ⟨I.obj, rfl, rfl, ho⟩, hl⟩

section
variable {prog : Program} {w : World} {A : Around} {E : Value → Shared → Prop} {s : Shared} {K : PySem.W.Frag} {x dx C f : Addr} {mA : Str → Option Value} {name : Str} {v : Value}

theorem get_map {expr : Bool} {Q : Value → Shared → Prop} (X : K.In s.heap) (I : ObjM s.heap x dx C mA) (hg : PySem.W.plainGet K C name = true) (hh : PySem.W.hasDictIn K C = true)
    (ha : PySem.W.findIn K (.ref C) name = some none) (hv : mA name = some v) (hv' : PySem.W.handedIn v = true) (h : Q v { s with toks := s.toks + 1 }) :
    wpAny (model prog w) A (getAttr (.ref x) name expr) Q E s := by
  obtain ⟨od, J, hl⟩ := I.look
  exact PySem.W.get_value X J (PySem.W.plainGet_of hg).1 (PySem.W.findObj_own hh ha rfl (by rw [hl, hv])) hv' h

theorem get_meth {pl : Sem Bool} {Q : Value × List Value → Shared → Prop} (X : K.In s.heap) (I : ObjM s.heap x dx C mA) (hg : PySem.W.plainGet K C name = true)
    (hf : PySem.W.findIn K (.ref C) name = some (some (.ref f))) (ht : PySem.W.isFn K (.ref f) = true) (hv : mA name = none) (h : Q (.ref f, [.ref x]) s) :
    wpAny (model prog w) A (getMethod (.ref x) name pl) Q E s := by
  obtain ⟨od, J, hl⟩ := I.look
  exact PySem.W.method_fn X J (PySem.W.plainGet_of hg).1 (PySem.W.plainGet_of hg).2 hf (beq_iff_eq.mp ht) (by show (PySem.W.lookIn name od).map (·.isSome) = some false; rw [hl, hv]; rfl) h

theorem set_map {ns : List Str} {Q : Unit → Shared → Prop} (X : K.In s.heap) (I : ObjM s.heap x dx C mA)
    (hs : PySem.W.findIn K (.ref C) "__setattr__" = some (some (.builtin "object.__setattr__"))) (hp : PySem.W.plainOver K C = true) (ht : PySem.W.takerIn K C name = some none) (hh : PySem.W.hasDictIn K C = true)
    (hw : PySem.Within mA ns) (hsz : ns.length ≤ sizeLine)
    (h : ∀ h', ObjM h' x dx C (fun y => if y = name then some v else mA y) → Heap.SameBut dx s.heap h' → Q () { s with heap := h', toks := s.toks + 2 }) :
    wpAny (model prog w) A (setAttr (.ref x) name v) Q E s := by
  obtain ⟨od, J, hl⟩ := I.look
  refine PySem.W.set_plain X J hs (PySem.W.osa_open (s := { s with toks := s.toks + 1 }) (r := none) X J hp ht fun b => ?_)
  obtain ⟨cd, hc, hd'⟩ := PySem.W.any_some hh
  have hx : s.heap.get? x = some ⟨.ref C, some dx, .plain, #[]⟩ := I.obj
  refine wpAny_bind (wpAny_pure (wpAny_bind (wpAny_bind (wpAny_loadPart hx (wpAny_bind (PySem.W.Looks.here (s := { s with toks := s.toks + 1 }) (PySem.W.looks_clsIn X hc) ?_))))))
  rw [hd']
  refine wpAny_pure (a := some dx) (wpAny_bind (wpAny_pure (wpAny_bind ?_)))
  refine wpAny_nsSet1 (s := { s with toks := s.toks + 1 }) I.ns fun h' hn2 hs2 => ?_
  obtain ⟨oD, esD, epD, hoD, hdD, hcD⟩ := hn2.count (PySem.Within.cons name v hw)
  refine wpAny_bind (wpAny_lookBehind hoD (by rw [hdD]; exact pastItsLine_dict (Nat.le_trans hcD (by rw [List.length_cons]; omega))) ?_)
  exact wpAny_pure (h _ ⟨(hs2.2 _ (Ne.symm I.ne)).trans I.obj, hn2, I.ne⟩ hs2)

/-- C(..): the dict at the heap's end, the instance behind it; then its __init__ -/
theorem make_map {R : Result → Shared → Prop} {vs : List Value} {kw : List (Str × Value)} (X : K.In s.heap) (hm : PySem.W.makesIn K C = true)
    (hi : PySem.W.findIn K (.ref C) "__init__" = some (some (.ref f))) (hf : PySem.W.typeIn K (.ref f) = some (.type "function"))
    (h : codeAny (model prog w) (A.under (.builtin "type.__call__" ⟨.ref C :: vs, kw⟩)) (.call (.ref f) ⟨.ref (s.heap.objs.size + 1) :: vs, kw⟩) (PySem.W.InitBack (s.heap.objs.size + 1) R)
      { s with heap := (s.heap.push PySem.W.emptyDict).push (PySem.W.instObj C s.heap.objs.size) }) :
    codeAny (model prog w) A (.call (.ref C) ⟨vs, kw⟩) R s := by
  obtain ⟨hh, g, d, t, os⟩ := s
  exact PySem.W.make_core (PySem.W.makes_of X hm) (PySem.W.looks_findIn X hi) (fun self => PySem.W.bind_fn X self hf) (.inl rfl) h
end

/-! ### the attributes as a list of pairs -/
def putF (f : Str) (v : V) : List (Str × V) → List (Str × V)
  | [] => [(f, v)]
  | (g, x) :: r => if g = f then (g, v) :: r else (g, x) :: putF f v r
theorem lookup_putF (f g : Str) (v : V) : ∀ fs : List (Str × V), (putF f v fs).lookup g = if g = f then some v else fs.lookup g
  | [] => by
    show List.lookup g [(f, v)] = _
    by_cases h : g = f
    · have hb : (g == f) = true := beq_iff_eq.mpr h
      simp only [List.lookup, hb, if_pos h]
    · have hb : (g == f) = false := beq_eq_false_iff_ne.mpr h
      simp only [List.lookup, hb, if_neg h]
  | (k, x) :: r => by
    have ih := lookup_putF f g v r
    rw [show putF f v ((k, x) :: r) = (if k = f then (k, v) :: r else (k, x) :: putF f v r) from rfl]
    by_cases hk : k = f
    · rw [if_pos hk]
      by_cases h : g = k
      · have hb : (g == k) = true := beq_iff_eq.mpr h
        simp only [List.lookup, hb, if_pos (h.trans hk)]
      · have hb : (g == k) = false := beq_eq_false_iff_ne.mpr h
        simp only [List.lookup, hb, if_neg (fun e : g = f => h (e.trans hk.symm))]
    · rw [if_neg hk]
      by_cases h : g = k
      · have hb : (g == k) = true := beq_iff_eq.mpr h
        simp only [List.lookup, hb, if_neg (fun e : g = f => hk (h.symm.trans e))]
      · have hb : (g == k) = false := beq_eq_false_iff_ne.mpr h
        simp only [List.lookup, hb]
        exact ih
theorem keys_putF (f : Str) (v : V) : ∀ fs : List (Str × V), f ∈ (putF f v fs).map (·.1) ∧ ∀ g, g ∈ fs.map (·.1) → g ∈ (putF f v fs).map (·.1)
  | [] => ⟨by simp [putF], fun g h => by simp at h⟩
  | (k, x) :: r => by
    obtain ⟨i1, i2⟩ := keys_putF f v r
    rw [show putF f v ((k, x) :: r) = (if k = f then (k, v) :: r else (k, x) :: putF f v r) from rfl]
    by_cases hk : k = f
    · rw [if_pos hk]
      subst hk
      exact ⟨by simp, fun g h => by simpa using h⟩
    · rw [if_neg hk]
      refine ⟨?_, fun g h => ?_⟩
      · rw [List.map_cons]
        exact List.mem_cons_of_mem _ i1
      · rw [List.map_cons] at h ⊢
        rcases List.mem_cons.mp h with e | e
        · exact List.mem_cons.mpr (.inl e)
        · exact List.mem_cons_of_mem _ (i2 g e)
theorem length_putF (f : Str) (v : V) : ∀ fs : List (Str × V), (putF f v fs).length ≤ fs.length + 1
  | [] => by simp [putF]
  | (k, x) :: r => by
    have ih := length_putF f v r
    rw [show putF f v ((k, x) :: r) = (if k = f then (k, v) :: r else (k, x) :: putF f v r) from rfl]
    by_cases hk : k = f
    · rw [if_pos hk, List.length_cons, List.length_cons]; omega
    · rw [if_neg hk, List.length_cons, List.length_cons]; omega

theorem RelO.some_of {v : V} {o : Option Value} (r : RelO (some v) o) : ∃ u, o = some u ∧ RelV v u := by
  cases o with
  | none => exact (show False from r).elim
  | some u => exact ⟨u, rfl, r⟩
theorem RelO.none_of {o : Option Value} (r : RelO none o) : o = none := by
  cases o with
  | none => rfl
  | some u => exact (show False from r).elim
theorem handed_of {v : V} {u : Value} (r : RelV v u) : PySem.W.handedIn u = true := by
  cases v with
  | non => cases (show u = Value.none from r); rfl
  | bl b => cases (show u = Value.bool b from r); rfl
  | int i => obtain ⟨t, e⟩ := (show ∃ t, u = Value.int i t from r); cases e; rfl
  | str x => obtain ⟨t, e⟩ := (show ∃ t, u = Value.str x t from r); cases e; rfl
  | byt b => obtain ⟨t, e⟩ := (show ∃ t, u = Value.bytes b t from r); cases e; rfl
  | flt b => obtain ⟨t, e⟩ := (show ∃ t, u = Value.float b t from r); cases e; rfl
  | ref a => cases (show u = Value.ref a from r); rfl
  | ty n => cases (show u = Value.type n from r); rfl

section
variable {P : Program} {w : World} {H H' : Hp} {h h' : Heap} {a C dx : Addr} {fs fs' : List (Str × V)}
theorem ins_get (hok : HOk P w H h) (e : H a = some (.ins C dx fs)) : ∃ mA, ObjM h a dx C mA ∧ (∀ f, RelO (fs.lookup f) (mA f)) ∧ PySem.Within mA (fs.map (·.1)) ∧ fs.length ≤ 1000 ∧ H dx = some (.own a) := by
  obtain ⟨d, z, ne, ob, mA, n, r, q⟩ := (show ObjOk P w H h a (.ins C dx fs) from hok a _ e)
  exact ⟨mA, ⟨ob, n, ne⟩, r, q, z, d⟩
end

/-! ### what of the text a class must have -/
structure Cls (K : PySem.W.Frag) (C : Addr) : Prop where
  pg : PySem.W.plainGet K C Str.empty = true
  hd : PySem.W.hasDictIn K C = true
  po : PySem.W.plainOver K C = true
  sa : PySem.W.findIn K (.ref C) "__setattr__" = some (some (.builtin "object.__setattr__"))
theorem Cls.get {K : PySem.W.Frag} {C : Addr} (c : Cls K C) (f : Str) : PySem.W.plainGet K C f = true := c.pg
/-- no class of it has the name -/
def NoAttr (K : PySem.W.Frag) (C : Addr) (f : Str) : Prop := PySem.W.findIn K (.ref C) f = some none
theorem NoAttr.taker {K : PySem.W.Frag} {C : Addr} {f : Str} (n : NoAttr K C f) : PySem.W.takerIn K C f = some none := by
  unfold PySem.W.takerIn
  rw [show PySem.W.findIn K (.ref C) f = some none from n]
  rfl
/-- a constant of the class -/
structure Con (K : PySem.W.Frag) (C : Addr) (f : Str) (v : V) (u : Value) : Prop where
  at_ : PySem.W.findIn K (.ref C) f = some (some u)
  rel : RelV v u
  get : PySem.W.specialIn K u "__get__" = some none
  cp : PySem.W.copiedNames.contains f = false
/-- a method: a plain def of the class or of one above it -/
structure Meth (K : PySem.W.Frag) (C : Addr) (m : Str) (f : Addr) : Prop where
  at_ : PySem.W.findIn K (.ref C) m = some (some (.ref f))
  fn : PySem.W.isFn K (.ref f) = true
  kp : PySem.W.keepIn K (.ref f) = true

section
variable {X : Cx} {pins : List (Addr × Obj)} {σ : St} {H : Hp} {s : Shared} {a C dx : Addr} {fs : List (Str × V)} {f : Str} {v : V} {A : Around} {E : Value → Shared → Prop}

theorem getattr_ok {b : Bool} {Q : Value → Shared → Prop} (I : Inv X pins σ H s) (e : H a = some (.ins C dx fs)) (c : Cls X.K C) (n : NoAttr X.K C f) (l : fs.lookup f = some v)
    (h : ∀ u s', Inv X pins σ H s' → RelV v u → Q u s') : wpAny (model X.prog X.w) A (getAttr (.ref a) f b) Q E s := by
  obtain ⟨mA, O, r, _, _, _⟩ := ins_get I.hok e
  obtain ⟨u, hu, ru⟩ := RelO.some_of (v := v) (o := mA f) (by rw [← l]; exact r f)
  exact get_map I.kIn O (c.get f) c.hd n hu (handed_of ru) (h u _ (I.tok _) ru)

theorem getmeth_ok {m : Str} {g : Addr} {pl : Sem Bool} {Q : Value × List Value → Shared → Prop} (I : Inv X pins σ H s) (e : H a = some (.ins C dx fs)) (c : Cls X.K C) (k : Meth X.K C m g) (l : fs.lookup m = none)
    (h : Q (.ref g, [.ref a]) s) : wpAny (model X.prog X.w) A (getMethod (.ref a) m pl) Q E s := by
  obtain ⟨mA, O, r, _, _, _⟩ := ins_get I.hok e
  have hn : mA m = none := RelO.none_of (by rw [← l]; exact r m)
  exact get_meth I.kIn O (c.get m) k.at_ k.fn hn h

theorem setattr_ok {y : V} {u : Value} {Q : Unit → Shared → Prop} (I : Inv X pins σ H s) (e : H a = some (.ins C dx fs)) (c : Cls X.K C) (n : NoAttr X.K C f) (hl : fs.length < 1000) (ry : RelV y u)
    (h : ∀ s', Inv X pins σ (upd H a (.ins C dx (putF f y fs))) s' → Q () s') : wpAny (model X.prog X.w) A (setAttr (.ref a) f u) Q E s := by
  obtain ⟨mA, O, r, wi, _, ho⟩ := ins_get I.hok e
  have hz : (fs.map (·.1)).length ≤ sizeLine := by rw [List.length_map, sizeLine_eq]; omega
  refine set_map I.kIn O c.sa c.po n.taker c.hd wi hz fun h' O' sb => h _ ?_
  have hd : ∃ o, h'.get? dx = some o := let ⟨o, _, _, e', _⟩ := O'.ns; ⟨o, e'⟩
  refine I.write (x := a) (e := dx) (by rw [e]; exact True.intro) (.inr ho) (fun b q hb z => (sb.2 b hb).trans z) hd ?_
  refine ⟨by rw [upd_ne O.ne]; exact ho, ?_, O.ne, O'.obj, _, O'.ns, fun g => ?_, fun g hg => ?_⟩
  · have := length_putF f y fs; omega
  · show RelO ((putF f y fs).lookup g) (if g = f then some u else mA g)
    rw [lookup_putF]
    by_cases q : g = f
    · rw [if_pos q, if_pos q]; exact ry
    · rw [if_neg q, if_neg q]; exact r g
  · by_cases q : g = f
    · rw [q]; exact (keys_putF f y fs).1
    · refine (keys_putF f y fs).2 g (wi g fun z => hg ?_)
      show (if g = f then some u else mA g) = none
      rw [if_neg q]; exact z

/-- a new instance, tracked, without attributes -/
theorem Inv.made (I : Inv X pins σ H s) : Inv X pins σ (upd (upd H s.heap.objs.size (.own (s.heap.objs.size + 1))) (s.heap.objs.size + 1) (.ins C s.heap.objs.size []))
    { s with heap := (s.heap.push PySem.W.emptyDict).push (PySem.W.instObj C s.heap.objs.size) } := by
  have e1 : (s.heap.push PySem.W.emptyDict).get? s.heap.objs.size = some PySem.W.emptyDict := Heap.get?_push_size s.heap rfl
  have e2 : ((s.heap.push PySem.W.emptyDict).push (PySem.W.instObj C s.heap.objs.size)).get? (s.heap.objs.size + 1) = some (PySem.W.instObj C s.heap.objs.size) := by
    have := Heap.get?_push_size (s.heap.push PySem.W.emptyDict) (o := PySem.W.instObj C s.heap.objs.size) rfl
    rwa [Heap.size_push] at this
  have e3 : (s.heap.push PySem.W.emptyDict).Ns s.heap.objs.size (fun _ => none) := ⟨PySem.W.emptyDict, #[], _, e1, rfl, (fun e he => absurd he (by simp)), fun _ => rfl⟩
  have I1 := I.laid (a := s.heap.objs.size) (o := .own (s.heap.objs.size + 1)) (h' := s.heap.push PySem.W.emptyDict) (t' := s.toks) (fun b u q => Heap.get?_push_of_some _ q) (Nat.le_refl _) ⟨_, e1⟩
  refine I1.laid (a := s.heap.objs.size + 1) (o := .ins C s.heap.objs.size []) (t' := s.toks) (fun b u q => Heap.get?_push_of_some _ q) (Nat.le_of_eq (Heap.size_push _ _)) ?_
  have ne : s.heap.objs.size ≠ s.heap.objs.size + 1 := Nat.ne_of_lt (Nat.lt_succ_self _)
  refine ⟨by rw [upd_ne ne, upd_same], Nat.zero_le _, ne, e2, fun _ => none, (Heap.Ns1.of_empty e3).at fun o q => Heap.get?_push_of_some _ q, fun _ => True.intro, fun y hy => absurd rfl hy⟩

/-- e.f where nothing but the object is asked: through attributeBase (super) and the last hold -/
theorem attr_of {prog : Program} {w : World} {env : Env} {e : Expr} {f : Str} {pos : Pos} {s : Shared} {Q : Value → Shared → Prop} (hb : attributeBase e f env (eval e env) = eval e env)
    (h : wpAny (model prog w) A (eval e env) (fun o s₁ => wpAny (model prog w) A (getAttr o f true) Q E s₁) E s) : wpAny (model prog w) A (eval (.Attribute e f pos) env) Q E s :=
  Attribute_any_ h (by rw [arm_eval_Attribute, hb])
end

/-! ### readings and rules -/
/-- e.f, an attribute of the instance -/
def tFld (K : PySem.W.Frag) (ta : TE) (f : Str) : TE := fun σ H Q => ta σ H fun x H1 => ∃ a C dx fs v, x = .ref a ∧ H1 a = some (.ins C dx fs) ∧ Cls K C ∧ NoAttr K C f ∧ fs.lookup f = some v ∧ Q v H1
/-- e.f, a constant of the class -/
def tCon (K : PySem.W.Frag) (ta : TE) (f : Str) : TE := fun σ H Q => ta σ H fun x H1 => ∃ a C dx fs v u, x = .ref a ∧ H1 a = some (.ins C dx fs) ∧ Cls K C ∧ Con K C f v u ∧ fs.lookup f = none ∧ Q v H1
/-- e.f = value -/
def sFld (K : PySem.W.Frag) (ta tv : TE) (f : Str) : TS := fun D σ H => tv σ H fun y H1 => ta σ H1 fun x H2 => ∃ a C dx fs, x = .ref a ∧ H2 a = some (.ins C dx fs) ∧ Cls K C ∧ NoAttr K C f ∧ fs.length < 1000 ∧
  D.nx σ (upd H2 a (.ins C dx (putF f y fs)))
/-- an augmented operator on two values -/
def InOp (X : Cx) (op : Operator) (rd : V → V → Hp → VK → Prop) : Prop :=
  ∀ (pins : List (Addr × Obj)) (s : Shared) (σ : St) (H : Hp) (x y : V) (u v : Value) (Q : VK), Inv X pins σ H s → RelV x u → RelV y v → rd x y H Q → wpAny (model X.prog X.w) X.A (inplaceOp op u v) (EP X pins σ Q) X.xe s
/-- e.f op= value -/
def sFldAug (K : PySem.W.Frag) (ta tv : TE) (rd : V → V → Hp → VK → Prop) (f : Str) : TS := fun D σ H => ta σ H fun x H1 => ∃ a C dx fs v, x = .ref a ∧ H1 a = some (.ins C dx fs) ∧ Cls K C ∧ NoAttr K C f ∧ fs.lookup f = some v ∧
  tv σ H1 fun y H2 => rd v y H2 fun z H3 => ∃ dx' fs', H3 a = some (.ins C dx' fs') ∧ fs'.length < 1000 ∧ D.nx σ (upd H3 a (.ins C dx' (putF f z fs')))

section
variable {X : Cx} {o e value : Expr} {f : Str} {pos pos' tpos : Pos} {ta tv : TE}
theorem pe_fld (he : PE X e ta) (hb : attributeBase e f X.env (eval e X.env) = eval e X.env) : PE X (.Attribute e f pos) (tFld X.K ta f) := by
  intro pins s σ H Q I h
  refine attr_of hb (thn (he pins s σ H _ I h) fun u s1 ⟨x, H1, I1, rx, a, C, dx, fs, v, ex, ea, c, n, l, q⟩ => ?_)
  subst ex
  obtain rfl : u = Value.ref a := rx
  exact getattr_ok I1 ea c n l fun u' s2 I2 ru => ⟨v, H1, I2, ru, q⟩
theorem ps_fld (ha : PE X o ta) (hv : PE X value tv) (hs : swapsWith value (some (.Attribute o f pos')) pos.line X.env = pure false) : PS X (.Assign [.Attribute o f pos'] value pos) (sFld X.K ta tv f) := by
  intro pins s σ H D I h
  refine plainObj_wpAny_Assign_Attribute (thn (hv pins s σ H _ I h) fun u s1 ⟨y, H1, I1, ry, q⟩ => thn (ha pins s1 σ H1 _ I1 q) fun ov s2 ⟨x, H2, I2, rx, a, C, dx, fs, ex, ea, c, n, l, q2⟩ => ?_) hs
  subst ex
  obtain rfl : ov = Value.ref a := rx
  exact setattr_ok I2 ea c n l ry fun s3 I3 => ⟨σ, _, I3, q2⟩
def rAdd : V → V → Hp → VK → Prop := fun x y H Q => ∃ i j, x = .int i ∧ y = .int j ∧ Q (.int (i + j)) H
def rSub : V → V → Hp → VK → Prop := fun x y H Q => ∃ i j, x = .int i ∧ y = .int j ∧ Q (.int (i - j)) H
end

/-! ### isinstance -/
section
variable {X : Cx} {pins : List (Addr × Obj)} {σ : St} {H : Hp} {s : Shared} {A : Around} {E : Value → Shared → Prop} {Q : Value → Shared → Prop} {c : Value} {b : Bool}
/-- the type of a value, as the fragment's deciders take it; for an instance its class -/
inductive TyOf (K : PySem.W.Frag) (H : Hp) : V → Value → Prop where
  | non : TyOf K H .non (.type "NoneType")
  | bl (x : Bool) : TyOf K H (.bl x) (.type "bool")
  | int (i : Int) : TyOf K H (.int i) (.type "int")
  | str (x : Str) : TyOf K H (.str x) (.type "str")
  | flt (x : UInt64) : TyOf K H (.flt x) (.type "float")
  | lst {a : Addr} {xs : List V} (e : H a = some (.lst xs)) : TyOf K H (.ref a) (.type "list")
  | frz {a : Addr} {o : Obj} {xs : List V} (e : H a = some (.frz o (.lst xs))) : TyOf K H (.ref a) (.type "list")
  | tup {a : Addr} {xs : List V} (e : H a = some (.tup xs)) : TyOf K H (.ref a) (.type "tuple")
  | dK {a : Addr} {kvs : List (Key × V)} (e : H a = some (.dK kvs)) : TyOf K H (.ref a) (.type "dict")
  | dT {a : Addr} {kvs : List (List Key × V)} (e : H a = some (.dT kvs)) : TyOf K H (.ref a) (.type "dict")
  | ins {a C dx : Addr} {fs : List (Str × V)} (e : H a = some (.ins C dx fs)) (cl : Cls K C) (ha : PySem.W.findIn K (.ref C) "__class__" = some (some (.builtin "object.__class__")))
      (hn : PySem.W.specialIn K (.builtin "object.__class__") "__get__" = some (some (.builtin "getset_descriptor.__get__"))) (htk : PySem.W.takesIn K (.builtin "object.__class__") = some true)
      (hm : PySem.W.mroIn K C (.type "object") = some true) : TyOf K H (.ref a) (.ref C)
/-- isinstance(x, c) for one class c, a built-in or an own one: kitOne's answer -/
theorem isinst_ok {x : V} {u t : Value} (I : Inv X pins σ H s) (rx : RelV x u) (ty : TyOf X.K H x t) (e : PySem.W.kitOne X.K t c = some b) (h : ∀ tk, Q (.bool b) { s with toks := tk }) :
    wpAny (model X.prog X.w) A (call (.builtin "isinstance") [u, c]) Q E s := by
  cases ty with
  | non => cases (show u = Value.none from rx); exact PySem.W.kia_one PySem.W.kitx_none I.kIn True.intro e (fun z => nomatch z) h
  | bl y => cases (show u = Value.bool y from rx); exact PySem.W.kia_one PySem.W.kitx_bool I.kIn True.intro e (fun z => nomatch z) h
  | int i => obtain ⟨t, q⟩ := (show ∃ t, u = Value.int i t from rx); cases q; exact PySem.W.kia_one PySem.W.kitx_int I.kIn True.intro e (fun z => nomatch z) h
  | str y => obtain ⟨t, q⟩ := (show ∃ t, u = Value.str y t from rx); cases q; exact PySem.W.kia_one PySem.W.kitx_str I.kIn True.intro e (fun z => nomatch z) h
  | flt y => obtain ⟨t, q⟩ := (show ∃ t, u = Value.float y t from rx); cases q; exact PySem.W.kia_one PySem.W.kitx_float I.kIn True.intro e (fun z => nomatch z) h
  | @lst a xs ea =>
    cases (show u = Value.ref a from rx)
    obtain ⟨_, _, n, _, h1⟩ := (show ObjOk X.prog X.w H s.heap a (.lst xs) from I.hok a _ ea)
    exact PySem.W.kia_one PySem.W.kitx_list I.kIn ⟨_, h1, rfl⟩ e (fun z => nomatch z) h
  | @frz a ob xs ea =>
    cases (show u = Value.ref a from rx)
    obtain ⟨_, _, _, n, _, h1⟩ := (show ObjOk X.prog X.w H s.heap a (.frz ob (.lst xs)) from I.hok a _ ea)
    exact PySem.W.kia_one PySem.W.kitx_list I.kIn ⟨_, h1, rfl⟩ e (fun z => nomatch z) h
  | @tup a xs ea =>
    cases (show u = Value.ref a from rx)
    obtain ⟨_, _, _, p⟩ := (show ObjOk X.prog X.w H s.heap a (.tup xs) from I.hok a _ ea)
    obtain ⟨o, h1, h2, _⟩ := p
    exact PySem.W.kia_one PySem.W.kitx_tuple I.kIn ⟨o, h1, h2⟩ e (fun z => nomatch z) h
  | @dK a kvs ea =>
    cases (show u = Value.ref a from rx)
    obtain ⟨_, _, vs, _, p⟩ := (show ObjOk X.prog X.w H s.heap a (.dK kvs) from I.hok a _ ea)
    obtain ⟨o, es, ep, h1, h2, _⟩ := p
    exact PySem.W.kia_one PySem.W.kitx_dict I.kIn ⟨o, h1, h2.1⟩ e (fun z => nomatch z) h
  | @dT a kvs ea =>
    cases (show u = Value.ref a from rx)
    obtain ⟨_, _, xs, _, o, es, ep, h1, h2, _⟩ := (show ObjOk X.prog X.w H s.heap a (.dT kvs) from I.hok a _ ea)
    exact PySem.W.kia_one PySem.W.kitx_dict I.kIn ⟨o, h1, h2.1⟩ e (fun z => nomatch z) h
  | @ins a C dx fs ea cl ha hn htk hm =>
    cases (show u = Value.ref a from rx)
    obtain ⟨mA, O, _⟩ := ins_get I.hok ea
    obtain ⟨od, J, _⟩ := O.look
    exact PySem.W.kia_one (PySem.W.kitx_own (cl.get _) cl.hd ha hn htk hm) I.kIn J e (fun z => nomatch z) h
end
end L2

namespace L2
open PySem PySem.Spec PyProof.Rows

/-! ### room -/
structure Room (k : Nat) (A : Around) : Prop where
  hd : A.handled = none
  dp : A.depth + 3 * k + 5 < recursionLimit
  un : A.units + 16 * k + 200 < cLine
theorem Room.mono {j k : Nat} {A : Around} (r : Room k A) (h : j ≤ k) : Room j A := ⟨r.hd, by have := r.dp; omega, by have := r.un; omega⟩
theorem Room.deeper {k : Nat} {A : Around} (r : Room (k + 1) A) (env : Env) : Room k (A.deeper env) :=
  ⟨r.hd, by have := r.dp; show A.depth + 1 + 3 * k + 5 < _; omega, by have := r.un; show A.units + 3 + 16 * k + 200 < _; omega⟩
theorem make_depth {A : Around} {C : Addr} {us : List Value} {kw : List (Str × Value)} : (A.under (.builtin "type.__call__" ⟨.ref C :: us, kw⟩)).depth = A.depth + 1 := by
  first | rfl | simp [Around.under, Code.weight, Code.isCreation, Code.isGuard, Code.isCaller, Code.frames, Code.isFrame, guardIds]
theorem make_units {A : Around} {C : Addr} {us : List Value} {kw : List (Str × Value)} : (A.under (.builtin "type.__call__" ⟨.ref C :: us, kw⟩)).units = A.units + 1 := by
  first | rfl | simp [Around.under, Code.cUnits, Code.frames, Code.isFrame]
theorem Room.make {k : Nat} {A : Around} (r : Room (k + 1) A) (C : Addr) (us : List Value) (kw : List (Str × Value)) : Room k (A.under (.builtin "type.__call__" ⟨.ref C :: us, kw⟩)) :=
  ⟨r.hd, by have := r.dp; rw [make_depth]; omega, by have := r.un; rw [make_units]; omega⟩
theorem Room.depth {k : Nat} {A : Around} (r : Room k A) : A.depth < recursionLimit := by have := r.dp; omega
theorem Room.units {k : Nat} {A : Around} (r : Room k A) : A.units + 64 < cLine := by have := r.un; omega
/-! ### argument lists and displays -/
def tNil : TA := fun _ H Q => Q [] H
def tCons (ta : TE) (tr : TA) : TA := fun σ H Q => ta σ H fun x H1 => tr σ H1 fun xs H2 => Q (x :: xs) H2
section
variable {X : Cx} {e : Expr} {es : List Expr} {te : TE} {t : TA} {pos : Pos}
theorem pa_nil : PA X [] tNil := fun _ _ _ _ H Q I h => Calls.spliced_nil ⟨[], H, I, .nil, h⟩
theorem pa_cons (ha : PE X e te) (hr : PA X es t) (hs : starEach (e :: es) X.env = (false, eval e X.env) :: starEach es X.env := by rfl) : PA X (e :: es) (tCons te t) := by
  intro pos pins s σ H Q I h
  rw [hs]
  show wpAny _ _ (spliced ((false, eval e X.env) :: backTo pos (starEach es X.env))) _ _ s
  refine Calls.spliced_cons (thn (ha pins s σ H _ I h) fun u s1 ⟨x, H1, I1, r1, q1⟩ => ?_)
  exact thn (hr pos pins s1 σ H1 _ I1 q1) fun us s2 ⟨xs, H2, I2, r2, q2⟩ => ⟨x :: xs, H2, I2, .cons r1 r2, q2⟩

/-- a tuple, a list of written items -/
def tTup (t : TA) : TE := fun σ H Q => t σ H fun xs H1 => xs.length ≤ sizeLine ∧ ∀ p, H1 p = none → Q (.ref p) (upd H1 p (.tup xs))
def tLst (t : TA) : TE := fun σ H Q => t σ H fun xs H1 => xs.length ≤ sizeLine ∧ ∀ p, H1 p = none → Q (.ref p) (upd H1 p (.lst xs))
theorem pe_tup {x1} (h : PA X es t) : PE X (.Tuple es x1 pos) (tTup t) := by
  intro pins s σ H Q I hq
  refine wpAny_Tuple_spliced (thn (h pos pins s σ H _ I hq) fun us s1 ⟨xs, H1, I1, r, z, q⟩ => ⟨by rw [← r.length]; exact z, ?_⟩)
  have hf : H1 s1.heap.objs.size = none := I1.hok.fresh (Nat.le_refl _)
  refine ⟨.ref s1.heap.objs.size, upd H1 s1.heap.objs.size (.tup xs), I1.laid (t' := s1.toks) (fun b u e => Heap.get?_push_of_some _ e) (Nat.le_refl _) ?_, rfl, q _ hf⟩
  exact ⟨z, us, r, ⟨_, Heap.get?_push_size _ rfl, rfl, _, rfl⟩⟩
theorem pe_lst (h : PA X es t) : PE X (.List es pos) (tLst t) := by
  intro pins s σ H Q I hq
  refine wpAny_List_spliced (thn (h pos pins s σ H _ I hq) fun us s1 ⟨xs, H1, I1, r, z, q⟩ => ⟨by rw [← r.length]; exact z, ?_⟩)
  have hf : H1 s1.heap.objs.size = none := I1.hok.fresh (Nat.le_refl _)
  refine ⟨.ref s1.heap.objs.size, upd H1 s1.heap.objs.size (.lst xs), I1.laid (t' := s1.toks) (fun b u e => Heap.get?_push_of_some _ e) (Nat.le_refl _) ?_, rfl, q _ hf⟩
  exact ⟨z, us, 0, r, Heap.get?_push_size _ rfl⟩
end

/-! ### what a def promises -/
/-- a def's promise: the bound arguments in the parameters' order, the heap, the wanted end, the wanted exception -/
abbrev Sp := List V → Hp → VK → XK → Prop
/-- how an exception lies behind a call (file 08 gives it): the callers' frames, abstract heap and state ahead of the call, the wish, the exception, the state -/
abbrev CXT := List Env → Hp → Shared → XK → Value → Shared → Prop

/-- the state at a call -/
structure Env0 (P : Program) (w : World) (K : PySem.W.Frag) (mg : Str → Option Value) (base : Heap) (A : Around) (outer : List Env) (s : Shared) (H : Hp) : Prop where
  frames : A.frames = some outer
  mod : Mod K mg base
  bs : ∀ b o, base.get? b = some o → s.heap.get? b = some o ∧ H b = none
  bsz : base.objs.size ≤ s.heap.objs.size
  funs : s.heap.FunFrames base outer
  frf : ∀ b ∈ frs outer, H b = none
  hok : HOk P w H s.heap
  bare : AllBare s.gens
/-- a call's end -/
def CE (outer : List Env) (P : Program) (w : World) (H : Hp) (s : Shared) (Q : VK) (u : Value) (s' : Shared) : Prop :=
  ∃ v H', s'.os = s.os ∧ AllBare s'.gens ∧ Un (frs outer) [] H H' s.heap s'.heap ∧ HOk P w H' s'.heap ∧ RelV v u ∧ Q v H'
def CR (CX : CXT) (outer : List Env) (P : Program) (w : World) (H : Hp) (s : Shared) (Q : VK) (E : XK) (r : Result) (s' : Shared) : Prop :=
  match r with
  | .ok (.ret u) => CE outer P w H s Q u s'
  | .ok _ => False
  | .error e => CX outer H s E e s'
structure FnOk (P : Program) (w : World) (K : PySem.W.Frag) (mg : Str → Option Value) (base : Heap) (CX : CXT) (k : Nat) (f : Addr) (fd : FuncData) (ps : List Str) (sp : Sp) : Prop where
  len : ∀ vs H Q E, sp vs H Q E → vs.length = ps.length
  run : ∀ (A : Around) (outer : List Env) (s : Shared) (H : Hp) (args : Args) (us : List Value) (vs : List V) (Q : VK) (E : XK), Room k A → Env0 P w K mg base A outer s H → BindsTo s fd args (ps.zip us) → Vals vs us → sp vs H Q E →
    codeAny (model P w) A (.call (.ref f) args) (CR CX outer P w H s Q E) s
theorem Env0.make {P : Program} {w : World} {K : PySem.W.Frag} {mg : Str → Option Value} {base : Heap} {A : Around} {outer : List Env} {s : Shared} {H : Hp} (e : Env0 P w K mg base A outer s H) (C : Addr) (us : List Value) (kw : List (Str × Value)) :
    Env0 P w K mg base (A.under (.builtin "type.__call__" ⟨.ref C :: us, kw⟩)) outer s H := ⟨by first | exact e.frames | (simpa [Around.under, Code.envs, Code.isFrame, pushEnvs] using e.frames), e.mod, e.bs, e.bsz, e.funs, e.frf, e.hok, e.bare⟩
section
variable {X : Cx} {pins : List (Addr × Obj)} {σ : St} {H : Hp} {s s' : Shared}
/-- from a body: what a callee wants -/
theorem Inv.env0 (I : Inv X pins σ H s) : Env0 X.prog X.w X.K X.mg X.base X.A X.stack s H :=
  ⟨I.ok.frames, I.ok.mod, I.bs, Nat.le_trans I.ok.bsz I.sz, I.stack, I.stkFree, I.hok, I.bare⟩
/-- behind a call -/
theorem Inv.after {Q : VK} {u : Value} (I : Inv X pins σ H s) (h : CE X.stack X.prog X.w H s Q u s') : EP X pins σ Q u s' := by
  obtain ⟨v, H', os, bare, un, hok, r, q⟩ := h
  obtain ⟨hh, g, d, t, os'⟩ := s'
  obtain rfl : os' = s.os := os
  exact ⟨v, H', I.call (h' := hh) (g' := g) (d' := d) (t' := t) (ch := []) un hok bare (fun b z => absurd z (by simp)), r, q⟩
end

/-! ### calls -/
/-- f(..): the written arguments, then the defaults dvs; E: what is wanted of an exception -/
def tCall (sp : Sp) (dvs : List V) (E : XK) (t : TA) : TE := fun σ H Q => t σ H fun vs H1 => sp (vs ++ dvs) H1 Q E
/-- o.m(..) of an instance of the class at C -/
def tMeth (C : Addr) (m : Str) (sp : Sp) (dvs : List V) (E : XK) (ta : TE) (t : TA) : TE := fun σ H Q => ta σ H fun x H1 => ∃ a dx fs, x = .ref a ∧ H1 a = some (.ins C dx fs) ∧ fs.lookup m = none ∧
  t σ H1 fun vs H2 => sp (x :: (vs ++ dvs)) H2 Q E
/-- C(..): a new instance and its dict, then __init__ -/
def tMake (C : Addr) (sp : Sp) (dvs : List V) (E : XK) (t : TA) : TE := fun σ H Q => t σ H fun vs H1 => ∀ x dx, H1 x = none → H1 dx = none → dx ≠ x →
  sp (.ref x :: (vs ++ dvs)) (upd (upd H1 dx (.own x)) x (.ins C dx [])) (fun v H2 => v = .non ∧ Q (.ref x) H2) E

/-- how the parameters are bound: us the positional arguments, kw the keywords' values by name, ds the defaults that fill up -/
def Binds (K : PySem.W.Frag) (fd : FuncData) (ps : List Str) (ds : List Value) : Prop :=
  ∀ (s : Shared) (us : List Value), K.In s.heap → (us ++ ds).length = ps.length → BindsTo s fd ⟨us, []⟩ (ps.zip (us ++ ds))
/-- every parameter is given -/
theorem Binds.all {K : PySem.W.Frag} {fd : FuncData} {ps : List Str} (h : ∀ us : List Value, us.length = ps.length → bindArgs fd ⟨us, []⟩ = pure (ps.zip us)) : Binds K fd ps [] := fun s us _ hl => by
  rw [List.append_nil] at hl ⊢
  exact .of_eq (h us hl)

/-- an exception of a callee reaches what this body wants of exceptions -/
def Passes (CX : CXT) (X : Cx) (E : XK) : Prop := ∀ (pins : List (Addr × Obj)) (σ : St) (H : Hp) (s : Shared) (e : Value) (s' : Shared), Inv X pins σ H s → CX X.stack H s E e s' → X.xe e s'

section
variable {X : Cx} {CX : CXT} {k : Nat} {f C : Addr} {fd : FuncData} {ps : List Str} {sp : Sp} {dvs : List V} {ds : List Value} {E : XK} {x m : Str} {p pos apos : Pos} {e o : Expr} {es : List Expr} {ta : TE} {t : TA}

/-- the callee runs -/
theorem run_fn {pins : List (Addr × Obj)} {σ : St} {H : Hp} {s : Shared} {Q : VK} {us : List Value} {vs : List V} (F : FnOk X.prog X.w X.K X.mg X.base CX k f fd ps sp) (hr : Room k X.A) (hb : Binds X.K fd ps ds) (hd : Vals dvs ds) (hx : Passes CX X E)
    (I : Inv X pins σ H s) (r : Vals vs us) (h : sp (vs ++ dvs) H Q E) : wpAny (model X.prog X.w) X.A (call (.ref f) us) (EP X pins σ Q) X.xe s := by
  have r2 : Vals (vs ++ dvs) (us ++ ds) := r.append hd
  have hl : (us ++ ds).length = ps.length := by rw [← r2.length]; exact F.len _ _ _ _ h
  refine wpAny_call (codeAny_mono (F.run X.A X.stack s H ⟨us, []⟩ (us ++ ds) (vs ++ dvs) Q E hr I.env0 (hb s us I.kIn hl) r2 h) fun r s' hq => ?_)
  cases r with
  | error e => exact hx pins σ H s e s' I hq
  | ok fl =>
    cases fl with
    | ret u => exact I.after hq
    | next => exact False.elim hq
    | brk => exact False.elim hq
    | cont => exact False.elim hq

theorem pe_call (F : FnOk X.prog X.w X.K X.mg X.base CX k f fd ps sp) (hr : Room k X.A) (hg : Gl X x) (hm : X.mg x = some (.ref f)) (hk : PySem.W.keepIn X.K (.ref f) = true) (hb : Binds X.K fd ps ds) (hd : Vals dvs ds) (hx : Passes CX X E)
    (ha : PA X (e :: es) t) (hdb : (x == ("__debug__" : Str)) = false := by decide) (he : starEach (e :: es) X.env = (false, eval e X.env) :: starEach es X.env := by rfl) (hpl : (backTo pos (starEach es X.env)).any (·.1) = false := by rfl) :
    PE X (.Call (.Name x p) (e :: es) [] pos) (tCall sp dvs E t) := by
  intro pins s σ H Q I h
  refine wpAny_Call_Name_kw (ld_glob I hg hm ?_ hdb)
  refine PySem.W.callWith_K (h₀ := X.base) I.ok.mod.kin hk (thn (ha pos pins s σ H _ I h) fun us s1 ⟨vs, H1, I1, r, q⟩ => ⟨I1.kIn, ?_⟩) he hpl
  exact run_fn F hr hb hd hx I1 r q
/-- o.m(e, ..) -/
theorem pe_meth {pl : Sem Bool} (he : PE X o ta) (c : Cls X.K C) (hm : Meth X.K C m f) (F : FnOk X.prog X.w X.K X.mg X.base CX k f fd ps sp) (hr : Room k X.A) (hb : Binds X.K fd ps ds) (hd : Vals dvs ds) (hx : Passes CX X E) (ha : PA X (e :: es) t)
    (hst : starEach (e :: es) X.env = (false, eval e X.env) :: starEach es X.env := by rfl) (hpl : (backTo pos (starEach es X.env)).any (·.1) = false := by rfl)
    (ht : eval (.Call (.Attribute o m apos) (e :: es) [] pos) X.env = (do
      let ov ← eval o X.env
      standAt apos.atName
      let (f, first) ← holding [ov] (getMethod ov m pl)
      callWith pos f first (backTo pos (starEach (e :: es) X.env)) (backToKw pos (keywordEach [] X.env))) := by rfl) :
    PE X (.Call (.Attribute o m apos) (e :: es) [] pos) (tMeth C m sp dvs E ta t) := by
  intro pins s σ H Q I h
  refine PySem.W.methodCall_KW (pl := pl) (thn (he pins s σ H _ I h) fun u s1 ⟨x, H1, I1, rx, a, dx, fs, ex, ea, l, q⟩ => ?_) ht
  subst ex
  obtain rfl : u = Value.ref a := rx
  refine getmeth_ok I1 ea c hm l ?_
  refine PySem.W.callWith_K (first := [.ref a]) (h₀ := X.base) I.ok.mod.kin hm.kp (thn (ha pos pins s1 σ H1 _ I1 q) fun us s2 ⟨vs, H2, I2, r, q2⟩ => ⟨I2.kIn, ?_⟩) hst hpl
  exact run_fn (us := .ref a :: us) (vs := .ref a :: vs) F hr hb hd hx I2 (.cons rfl r) q2
/-- o.m() -/
theorem pe_meth0 {pl : Sem Bool} (he : PE X o ta) (c : Cls X.K C) (hm : Meth X.K C m f) (F : FnOk X.prog X.w X.K X.mg X.base CX k f fd ps sp) (hr : Room k X.A) (hb : Binds X.K fd ps ds) (hd : Vals dvs ds) (hx : Passes CX X E)
    (ht : eval (.Call (.Attribute o m apos) [] [] pos) X.env = (do
      let ov ← eval o X.env
      standAt apos.atName
      let (f, first) ← holding [ov] (getMethod ov m pl)
      callWith pos f first (backTo pos (starEach [] X.env)) (backToKw pos (keywordEach [] X.env))) := by rfl) :
    PE X (.Call (.Attribute o m apos) [] [] pos) (tMeth C m sp dvs E ta tNil) := by
  intro pins s σ H Q I h
  refine PySem.W.methodCall_KW (pl := pl) (thn (he pins s σ H _ I h) fun u s1 ⟨x, H1, I1, rx, a, dx, fs, ex, ea, l, q⟩ => ?_) ht
  subst ex
  obtain rfl : u = Value.ref a := rx
  refine getmeth_ok I1 ea c hm l ?_
  exact PySem.W.callWith_K0 (first := [.ref a]) I1.kIn hm.kp (run_fn (us := [.ref a]) (vs := [.ref a]) F hr hb hd hx I1 (.cons rfl .nil) q)

/-- what a class must have to be made -/
structure Mk (K : PySem.W.Frag) (C f : Addr) : Prop where
  makes : PySem.W.makesIn K C = true
  init : PySem.W.findIn K (.ref C) "__init__" = some (some (.ref f))
  fn : PySem.W.isFn K (.ref f) = true
  kp : PySem.W.keepIn K (.ref C) = true

theorem run_make {pins : List (Addr × Obj)} {σ : St} {H : Hp} {s : Shared} {Q : VK} {us : List Value} {vs : List V} (M : Mk X.K C f) (F : FnOk X.prog X.w X.K X.mg X.base CX k f fd ps sp) (hr : Room (k + 1) X.A) (hb : Binds X.K fd ps ds) (hd : Vals dvs ds)
    (hx : Passes CX X E) (I : Inv X pins σ H s) (r : Vals vs us)
    (h : ∀ x dx, H x = none → H dx = none → dx ≠ x → sp (.ref x :: (vs ++ dvs)) (upd (upd H dx (.own x)) x (.ins C dx [])) (fun v H2 => v = .non ∧ Q (.ref x) H2) E) :
    wpAny (model X.prog X.w) X.A (call (.ref C) us) (EP X pins σ Q) X.xe s := by
  have hq := h (s.heap.objs.size + 1) s.heap.objs.size (I.hok.fresh (Nat.le_succ _)) (I.hok.fresh (Nat.le_refl _)) (Nat.ne_of_lt (Nat.lt_succ_self _))
  have I2 := Inv.made (C := C) I
  have r2 : Vals (V.ref (s.heap.objs.size + 1) :: (vs ++ dvs)) (Value.ref (s.heap.objs.size + 1) :: (us ++ ds)) := .cons rfl (r.append hd)
  have hl : (Value.ref (s.heap.objs.size + 1) :: us ++ ds).length = ps.length := by
    have e := r2.length
    rw [F.len _ _ _ _ hq] at e
    exact e.symm
  refine wpAny_call (make_map (f := f) I.kIn M.makes M.init (beq_iff_eq.mp M.fn) (codeAny_mono (F.run _ X.stack _ _ ⟨Value.ref (s.heap.objs.size + 1) :: us, []⟩ (Value.ref (s.heap.objs.size + 1) :: (us ++ ds)) _ _ E (hr.make C us [])
    (I2.env0.make C us []) (hb _ (Value.ref (s.heap.objs.size + 1) :: us) I2.kIn hl) r2 hq) fun r s' hq' => ?_))
  cases r with
  | error e => exact hx pins σ _ _ e s' I2 hq'
  | ok fl =>
    cases fl with
    | ret u =>
      obtain ⟨v, H', I3, rv, ev, q3⟩ := I2.after hq'
      subst ev
      exact ⟨rv, ⟨V.ref (s.heap.objs.size + 1), H', I3, rfl, q3⟩⟩
    | next => exact False.elim hq'
    | brk => exact False.elim hq'
    | cont => exact False.elim hq'
theorem pe_make (M : Mk X.K C f) (F : FnOk X.prog X.w X.K X.mg X.base CX k f fd ps sp) (hr : Room (k + 1) X.A) (hg : Gl X x) (hm : X.mg x = some (.ref C)) (hb : Binds X.K fd ps ds) (hd : Vals dvs ds) (hx : Passes CX X E)
    (ha : PA X (e :: es) t) (hdb : (x == ("__debug__" : Str)) = false := by decide) (he : starEach (e :: es) X.env = (false, eval e X.env) :: starEach es X.env := by rfl) (hpl : (backTo pos (starEach es X.env)).any (·.1) = false := by rfl) :
    PE X (.Call (.Name x p) (e :: es) [] pos) (tMake C sp dvs E t) := by
  intro pins s σ H Q I h
  refine wpAny_Call_Name_kw (ld_glob I hg hm ?_ hdb)
  refine PySem.W.callWith_K (h₀ := X.base) I.ok.mod.kin M.kp (thn (ha pos pins s σ H _ I h) fun us s1 ⟨vs, H1, I1, r, q⟩ => ⟨I1.kIn, ?_⟩) he hpl
  exact run_make M F hr hb hd hx I1 r q
end

/-! ### keywords -/
/-- the values of the keywords, from the left -/
def PK (X : Cx) (kws : List Keyword) (t : TA) : Prop :=
  ∀ (pos : Pos) (pins : List (Addr × Obj)) (s : Shared) (σ : St) (H : Hp) (Q : List V → Hp → Prop), Inv X pins σ H s → t σ H Q → wpAny (model X.prog X.w) X.A (evalAll ((backToKw pos (keywordEach kws X.env)).map (·.2))) (AP X pins σ Q) X.xe s
section
variable {X : Cx} {CX : CXT} {k : Nat} {f C : Addr} {fd : FuncData} {ps ks : List Str} {sp : Sp} {E : XK} {x m : Str} {p pos apos kpos : Pos} {e o : Expr} {es : List Expr} {kws : List Keyword} {te ta : TE} {t tk : TA} {nm : Option Str}
/-- how a call with keywords binds: g puts the positional values us and the keywords' values ws (names ks) in the parameters' order, defaults among them -/
structure KBinds (K : PySem.W.Frag) (fd : FuncData) (ps ks : List Str) (g : List Value → List Value → List Value) (gV : List V → List V → List V) : Prop where
  to : ∀ (s : Shared) (us ws : List Value), K.In s.heap → (g us ws).length = ps.length → BindsTo s fd ⟨us, ks.zip ws⟩ (ps.zip (g us ws))
  rel : ∀ {vs : List V} {us : List Value} {zs : List V} {ws : List Value}, Vals vs us → Vals zs ws → Vals (gV vs zs) (g us ws)
def tCallK (sp : Sp) (gV : List V → List V → List V) (E : XK) (t tk : TA) : TE := fun σ H Q => t σ H fun vs H1 => tk σ H1 fun zs H2 => sp (gV vs zs) H2 Q E
variable {g : List Value → List Value → List Value} {gV : List V → List V → List V}
end

/-! ### a def's body keeps its promise -/
/-- names: the parameters first -/
structure FnScope (N P : List Str) (sc : Scope) : Prop where
  kind : sc.kind = .function
  co : sc.isCoroutine = false
  gen : sc.isGenerator = false
  nd : N.Nodup
  pre : N.take P.length = P
  par : ∀ x ∈ P, sc.names.lookup x = some .local ∨ sc.names.lookup x = some .cell
  nofree : ∀ y ∈ sc.names, y.2 ≠ .free

theorem bindL_out {kindOf : Str → Option NameKind} {x : Str} : ∀ {binds : List (Str × Value)} {m : Str → Option Value}, (∀ v, (x, v) ∉ binds) → bindL kindOf binds m x = m x
  | [], _, _ => rfl
  | (n, v) :: r, m, h => by
    unfold bindL
    rw [bindL_out fun w hw => h w (List.mem_cons_of_mem _ hw)]
    split
    · have : x ≠ n := by rintro rfl; exact h v List.mem_cons_self
      simp [this]
    · rfl
theorem bindC_out {kindOf : Str → Option NameKind} {x : Str} : ∀ {binds : List (Str × Value)} {m : Str → Option Value}, (∀ v, (x, v) ∉ binds) → bindC kindOf binds m x = m x
  | [], _, _ => rfl
  | (n, v) :: r, m, h => by
    unfold bindC
    rw [bindC_out fun w hw => h w (List.mem_cons_of_mem _ hw)]
    split
    · rfl
    · have : x ≠ n := by rintro rfl; exact h v List.mem_cons_self
      simp [this]
theorem bindL_get {kindOf : Str → Option NameKind} {x : Str} {v : Value} : ∀ {P : List Str} {vs : List Value} {i : Nat} {m : Str → Option Value}, P.Nodup → P[i]? = some x → vs[i]? = some v → kindOf x = some .local →
    bindL kindOf (P.zip vs) m x = some v
  | [], _, _, _, _, h, _, _ => by simp at h
  | _ :: _, [], _, _, _, _, h, _ => by simp at h
  | p :: P, w :: vs, 0, m, nd, h1, h2, hk => by
    simp at h1 h2; subst h1; subst h2
    show bindL kindOf ((p, w) :: P.zip vs) m p = _
    unfold bindL
    rw [bindL_out fun v hv => (List.nodup_cons.mp nd).1 (List.of_mem_zip hv).1, if_pos hk]
    simp
  | p :: P, w :: vs, i + 1, m, nd, h1, h2, hk => by
    show bindL kindOf ((p, w) :: P.zip vs) m x = _
    unfold bindL
    exact bindL_get (i := i) (List.nodup_cons.mp nd).2 (by simpa using h1) (by simpa using h2) hk
theorem bindC_get {kindOf : Str → Option NameKind} {x : Str} {v : Value} : ∀ {P : List Str} {vs : List Value} {i : Nat} {m : Str → Option Value}, P.Nodup → P[i]? = some x → vs[i]? = some v → kindOf x ≠ some .local →
    bindC kindOf (P.zip vs) m x = some v
  | [], _, _, _, _, h, _, _ => by simp at h
  | _ :: _, [], _, _, _, _, h, _ => by simp at h
  | p :: P, w :: vs, 0, m, nd, h1, h2, hk => by
    simp at h1 h2; subst h1; subst h2
    show bindC kindOf ((p, w) :: P.zip vs) m p = _
    unfold bindC
    rw [bindC_out fun v hv => (List.nodup_cons.mp nd).1 (List.of_mem_zip hv).1, if_neg hk]
    simp
  | p :: P, w :: vs, i + 1, m, nd, h1, h2, hk => by
    show bindC kindOf ((p, w) :: P.zip vs) m x = _
    unfold bindC
    exact bindC_get (i := i) (List.nodup_cons.mp nd).2 (by simpa using h1) (by simpa using h2) hk

/-- the names' values at the entry -/
def start (N : List Str) (vs : List V) : St := vs.map some ++ List.replicate (N.length - vs.length) none

/-- the context of a def's body, at its entry; an exception leaves the frame, then lies as CX says -/
def cxOf (CX : CXT) (P : Program) (w : World) (K : PySem.W.Frag) (mg : Str → Option Value) (base : Heap) (N : List Str) (qual : Str) (scope : Scope) (f : Addr) (cd : Value) (A : Around) (outer : List Env) (s : Shared) (H : Hp) (E : XK) : Cx where
  prog := P
  w := w
  K := K
  mg := mg
  base := base
  A := A.deeper (envOfC qual scope s.heap.objs.size f cd)
  N := N
  s₀ := s
  H₀ := H
  env := envOfC qual scope s.heap.objs.size f cd
  outer := outer
  stack := envOfC qual scope s.heap.objs.size f cd :: outer
  ex := []
  calm := true
  fn := fun _ => true
  pn := []
  xe := fun e s' => wpAny (model P w) (A.deeper (envOfC qual scope s.heap.objs.size f cd)) (leaving (envOfC qual scope s.heap.objs.size f cd) e) (fun _ s'' => CX outer H s E e s'') (fun e' s'' => CX outer H s E e' s'') s'

theorem cell_has {sc : Scope} {n : Nat} {x : Str} (h : sc.names.lookup x = some .cell) : ∃ c, (cellsFrom n sc.names []).lookup x = some c := by
  have q := PySem.W.cellsFrom_some sc.names n [] (.inl h)
  exact Option.isSome_iff_exists.mp q

theorem inv_start {CX : CXT} {P : Program} {w : World} {K : PySem.W.Frag} {mg : Str → Option Value} {base : Heap} {N ps : List Str} {qual : Str} {scope : Scope} {f : Addr} {cd : Value} {A : Around} {outer : List Env} {s s1 : Shared} {H : Hp} {E : XK} {us : List Value} {vs : List V}
    (S : FnScope N ps scope) (hd : A.handled = none) (e0 : Env0 P w K mg base A outer s H) (hl : vs.length = ps.length) (r : Vals vs us)
    (x : InCallC s s.heap.objs.size (bindL (envOfC qual scope s.heap.objs.size f cd).kindOf (ps.zip us) fun _ => none) (cellsFrom (s.heap.objs.size + 1) scope.names []) (bindC (envOfC qual scope s.heap.objs.size f cd).kindOf (ps.zip us) fun _ => none) s1) :
    Inv (cxOf CX P w K mg base N qual scope f cd A outer s H E) [] (start N vs) H s1 := by
  have hpl : ps.length ≤ N.length := by have := congrArg List.length S.pre; rw [List.length_take] at this; omega
  obtain ⟨h1, tk, rfl, hk⟩ := x.done
  have noA : ∀ b : Addr, b ∉ (cxOf CX P w K mg base N qual scope f cd A outer s H E).ex := fun b z => absurd (show b ∈ ([] : List Addr) from z) (by simp)
  refine ⟨⟨e0.mod, S.kind, rfl, rfl, Nat.le_refl _, fun y z c h1 h2 => ?_, fun y hy => ?_, fun y c _ h => ?_, fun _ => hd, Around.frames_deeper e0.frames, .inr ⟨rfl, rfl⟩, fun b z => absurd z (noA b), e0.bs, e0.bsz, fun b _ _ => noA b, fun b z => absurd z (noA b), e0.funs, e0.frf⟩,
    rfl, e0.bare, Un.kept hk, ⟨_, x.toInCall.ns, fun i y v h1 h2 h3 => ?_⟩, fun y c h => ⟨_, x.cell y c h⟩, e0.hok.fresh (Nat.le_refl _), fun y c h => ?_, fun p hp => absurd (show p ∈ ([] : List (Addr × Obj)) from hp) (by simp), e0.hok.kept hk, ?_⟩
  · exact name_of_addr x.apart (PySem.mem_of_lookup h1) (PySem.mem_of_lookup h2)
  · have hy : scope.names.lookup y = some .cell ∨ scope.names.lookup y = some .free := hy
    rcases hy with hy | hy
    · exact cell_has hy
    · exact absurd rfl (S.nofree _ (PySem.mem_of_lookup hy))
  · exact Nat.le_of_lt (x.above y c (PySem.mem_of_lookup h))
  · have hi : i < vs.length := by
      unfold start at h2
      by_cases hi : i < vs.length
      · exact hi
      · rw [List.getElem?_append_right (by simpa using hi)] at h2
        rw [List.getElem?_replicate] at h2
        split at h2 <;> cases h2
    have ha : vs[i]? = some v := by
      unfold start at h2
      rw [List.getElem?_append_left (by simpa using hi), List.getElem?_map] at h2
      cases e : vs[i]? with
      | none => rw [e] at h2; cases h2
      | some a => rw [e] at h2; cases h2; rfl
    obtain ⟨u, hu, rv⟩ := r.get ha
    have hp : ps[i]? = some y := by
      rw [← S.pre, List.getElem?_take_of_lt (by omega)]; exact h1
    have ndP : ps.Nodup := by rw [← S.pre]; exact S.nd.sublist (List.take_sublist _ _)
    refine ⟨u, rv, ?_⟩
    rcases S.par y (List.mem_of_getElem? hp) with k | k
    · exact .inl ⟨k, bindL_get ndP hp hu k⟩
    · obtain ⟨c, e⟩ := cell_has (n := s.heap.objs.size + 1) k
      refine .inr ⟨.inl k, c, e, ?_⟩
      have q := x.cell y c e
      rw [bindC_get ndP hp hu (by show scope.names.lookup y ≠ _; rw [k]; decide)] at q
      exact q
  · exact e0.hok.fresh (Nat.le_of_lt (x.above y c (PySem.mem_of_lookup h)))
  · unfold start
    show _ = N.length
    rw [List.length_append, List.length_map, List.length_replicate]
    omega

/-- THE RULE: a def (or a method) of the text, by its body. The body's reading t is chosen for each entry; it is run at the parameters' values -/
theorem fn_of {CX : CXT} {P : Program} {w : World} {K : PySem.W.Frag} {mg : Str → Option Value} {base : Heap} {k : Nat} {f : Addr} {name qual : Str} {params : Arguments} {body : List Stmt} {scope : Scope} {dV kV doc pm cdv ct oc : Value} {an od : Option Addr}
    {osl : Array (Option Value)} {N ps : List Str} {sp : Sp} (lk : K.lookup f = some ⟨oc, od, .func (PySem.W.fnOf name qual params body scope dV kV doc pm an cdv ct), osl⟩) (hcd : PySem.W.codeIn K cdv qual = true) (S : FnScope N ps scope)
    (len : ∀ vs H Q E, sp vs H Q E → vs.length = ps.length)
    (hbody : ∀ (A : Around) (outer : List Env) (s : Shared) (H : Hp) (vs : List V) (Q : VK) (E : XK), Room k (A.deeper (envOfC qual scope s.heap.objs.size f cdv)) → sp vs H Q E →
      ∃ t, PSs (cxOf CX P w K mg base N qual scope f cdv A outer s H E) body t ∧ t { nx := fun _ H' => Q .non H', rt := Q } (start N vs) H) :
    FnOk P w K mg base CX (k + 1) f (PySem.W.fnOf name qual params body scope dV kV doc pm an cdv ct) ps sp := by
  refine ⟨len, fun A outer s H args us vs Q E hr e0 hb r hsp => ?_⟩
  have hl := len _ _ _ _ hsp
  have KX : K.In s.heap := e0.mod.kin.keeps fun b o e => (e0.bs b o e).1
  have lim : s.heap.NoLimit := e0.mod.nolimit.keeps fun b o e => (e0.bs b o e).1
  have hkind : ∀ y ∈ ps.zip us, scope.names.lookup y.1 = some .local ∨ (scope.names.lookup y.1 = some .cell ∧ ((cellsFrom (s.heap.objs.size + 1) scope.names []).lookup y.1).isSome = true) := fun ⟨n, v⟩ hy => by
    rcases S.par n (List.of_mem_zip hy).1 with q | q
    · exact .inl q
    · exact .inr ⟨q, PySem.W.cellsFrom_some _ _ _ (.inl q)⟩
  refine codeAny_call_function hr.depth (KX _ _ lk) rfl S.co S.gen rfl (PySem.W.codeRec_of KX hcd) (hb _ _ _ _ ?_)
  refine wpAny_newFunctionEnv_cells S.kind hkind fun env he s1 x => ?_
  subst he
  refine ⟨lim.keeps x.toInCall.keep, codeAny_func ?_⟩
  obtain ⟨t, ht, hq⟩ := hbody A outer s H vs Q E (hr.deeper _) hsp
  have I : Inv (cxOf CX P w K mg base N qual scope f cdv A outer s H E) [] (start N vs) H s1 := inv_start S hr.hd e0 hl r x
  refine wpAny_mono (ht [] s1 (start N vs) H _ I hq) (fun fl s' hs => ?_) fun e s' hs => hs
  have fin : ∀ {σ' : St} {H' : Hp} {v : V} {u : Value}, Inv (cxOf CX P w K mg base N qual scope f cdv A outer s H E) [] σ' H' s' → RelV v u → Q v H' → CE outer P w H s Q u s' :=
    fun {σ' H' v u} J rv q => ⟨v, H', J.os, J.bare, J.base, J.hok, rv, q⟩
  cases fl with
  | ret u =>
    obtain ⟨v, σ', H', J, rv, q⟩ := hs
    exact fin J rv q
  | next =>
    obtain ⟨σ', H', J, q⟩ := hs
    exact fin (v := V.non) (u := Value.none) J rfl q
  | brk =>
    obtain ⟨_, _, _, q⟩ := hs
    exact False.elim q
  | cont =>
    obtain ⟨_, _, _, q⟩ := hs
    exact False.elim q
end L2

namespace L2
open PySem PySem.Spec PyProof.Rows
section
variable {X : Cx} {x : Str} {p pos : Pos} {e : Expr} {es : List Expr} {t : TA} {id T : String} {r : List V → Hp → VK → Prop}

def tCB (r : List V → Hp → VK → Prop) (t : TA) : TE := fun σ H Q => t σ H fun vs H1 => r vs H1 Q
/-- f(e, ..), f a built-in function -/
theorem pe_callB (hc : CallR X (.builtin id) r) (hg : Gl X x) (hm : X.mg x = none) (hv : bootBuiltins x = some (.builtin id)) (ha : PA X (e :: es) t) (hn : x ≠ "__name__" := by decide) (hdb : (x == ("__debug__" : Str)) = false := by decide)
    (he : starEach (e :: es) X.env = (false, eval e X.env) :: starEach es X.env := by rfl) (hpl : (backTo pos (starEach es X.env)).any (·.1) = false := by rfl) : PE X (.Call (.Name x p) (e :: es) [] pos) (tCB r t) := by
  intro pins s σ H Q I h
  refine wpAny_Call_Name_kw (ld_blt I hg hm hv ?_ hn hdb)
  exact PyProof.Rows.callWith_builtin1 (thn (ha pos pins s σ H _ I h) fun us s1 ⟨vs, H1, I1, r1, q1⟩ => hc pins s1 σ H1 vs us Q I1 r1 q1) he hpl
/-- T(e, ..), T a built-in type -/
theorem pe_callTy (hc : CallR X (.type T) r) (hg : Gl X x) (hm : X.mg x = none) (hv : bootBuiltins x = some (.type T)) (ha : PA X (e :: es) t) (hn : x ≠ "__name__" := by decide) (hdb : (x == ("__debug__" : Str)) = false := by decide)
    (he : starEach (e :: es) X.env = (false, eval e X.env) :: starEach es X.env := by rfl) (hpl : (backTo pos (starEach es X.env)).any (·.1) = false := by rfl) : PE X (.Call (.Name x p) (e :: es) [] pos) (tCB r t) := by
  intro pins s σ H Q I h
  refine wpAny_Call_Name_kw (ld_blt I hg hm hv ?_ hn hdb)
  exact PyProof.Rows.callWith_type1 (thn (ha pos pins s σ H _ I h) fun us s1 ⟨vs, H1, I1, r1, q1⟩ => hc pins s1 σ H1 vs us Q I1 r1 q1) he hpl
end
end L2

namespace HT
open PySem PyProof.Rows

/-- t < u of tuples of ints -/
def lexLt : List Int → List Int → Bool
  | [], [] => false
  | [], _ :: _ => true
  | _ :: _, [] => false
  | x :: xs, y :: ys => if x = y then lexLt xs ys else decide (x < y)
section
open PySem.SeqAt
open PySem.AutoSeq1 (wpAny_loadPart')
open PySem.MeetsSeq PySem.MeetsSeq2 PySem.MeetsSeq3

end

section
variable {prog : Program} {w : World} {A : Around} {E : Value → Shared → Prop} {s : Shared}

/-- t + u, t not empty -/
theorem cat_tup {t b : Addr} {vs ws : List Value} {Q : Value → Shared → Prop} (ht : IsTup s.heap t vs.toArray) (hb : IsTup s.heap b ws.toArray) (hv : vs ≠ [])
    (h1 : ws = [] → Q (.ref t) s) (h2 : ws ≠ [] → Q (.ref s.heap.objs.size) { s with heap := s.heap.push { cls := .type "tuple", data := .seq (vs ++ ws).toArray } })
    (hsz : vs.length + ws.length ≤ sizeLine) : wpAny (model prog w) A (binaryOp .Add (.ref t) (.ref b)) Q E s := by
  obtain ⟨⟨cls, dd, data, sl⟩, ho, hc, n, hd⟩ := id ht
  obtain ⟨⟨cls2, dd2, data2, sl2⟩, ho2, hc2, n2, hd2⟩ := id hb
  simp only at hc hd hc2 hd2
  subst hc hd hc2 hd2
  have e : vs.toArray ++ ws.toArray = (vs ++ ws).toArray := by simp
  by_cases hw : ws = []
  · exact concat_meets ⟨_, ho, rfl⟩ ⟨_, ho2, rfl⟩ noFill_tuple_add seq_tuple_add PySem.F.slot_tuple_add PySem.F.entry_tuple_add (PySem.F.args_tuple_add_2 _ _)
      (tuple_addW1 t b vs.toArray ws.toArray n n2 dd dd2 sl sl2 (by simpa using hv) (by simp [hw])) ⟨ho, ho2, h1 hw⟩
  · refine concat_meets ⟨_, ho, rfl⟩ ⟨_, ho2, rfl⟩ noFill_tuple_add seq_tuple_add PySem.F.slot_tuple_add PySem.F.entry_tuple_add (PySem.F.args_tuple_add_2 _ _)
      (tuple_addW2 t b vs.toArray ws.toArray n n2 dd dd2 sl sl2 (by simpa using hv) (by simpa using hw) (by rw [List.size_toArray, List.size_toArray]; exact hsz)) ⟨ho, ho2, ?_⟩
    rw [e]
    exact h2 hw

/-! ### t[a:b], not the whole -/
/-- a slice's bound as a place among n (d where it is left out) -/
def sIx (n d : Nat) : Option Int → Nat
  | none => d
  | some v => if v < 0 then (v + (n : Int)).toNat else min v.toNat n
theorem sIx_le (n d : Nat) (hd : d ≤ n) (o : Option Int) : sIx n d o ≤ n := by
  cases o with
  | none => exact hd
  | some v =>
    show (if v < 0 then (v + (n : Int)).toNat else min v.toNat n) ≤ n
    by_cases hv : v < 0
    · rw [if_pos hv]; omega
    · rw [if_neg hv]; exact Nat.min_le_right _ _
theorem clip_eq (v : Int) (n d : Nat) : (if v < 0 then max (v + (n : Int)) 0 else min v (n : Int)) = ((sIx n d (some v) : Nat) : Int) := by
  show (if v < 0 then max (v + (n : Int)) 0 else min v (n : Int)) = (((if v < 0 then (v + (n : Int)).toNat else min v.toNat n) : Nat) : Int)
  by_cases hv : v < 0
  · simp only [if_pos hv]; omega
  · simp only [if_neg hv]; omega
theorem adjust_gen (lo hi : Option Int) (n : Nat) : Builtin.Slice.sliceAdjust lo hi 1 (n : Int) = (((sIx n 0 lo : Nat) : Int), ((sIx n n hi : Nat) : Int)) := by
  have h1 : ¬ ((1 : Int) < 0) := by omega
  unfold Builtin.Slice.sliceAdjust
  simp only [h1, if_false]
  refine Prod.ext ?_ ?_
  · cases lo with
    | none => rfl
    | some v => exact clip_eq v n 0
  · cases hi with
    | none => rfl
    | some v => exact clip_eq v n n
theorem places_gen (i j : Nat) : Builtin.Slice.slicePlaces (i : Int) (j : Int) 1 = j - i := by
  unfold Builtin.Slice.slicePlaces
  have h1 : (1 : Int) > 0 := by omega
  simp only [h1, if_true, Int.ediv_one]
  split <;> omega
theorem slicePart_ {v : Value} {o : Option Int} {Q : Option Int → Shared → Prop} (p : IsPart v o) (h : Q o s) : wpAny (model prog w) A (Builtin.Slice.slicePartIndex v) Q E s := by
  cases p with
  | none => exact slicePart_none h
  | int i t => exact slicePart_int h
theorem sliceApplied_gen {sl : Addr} {vl vu : Value} {lo hi : Option Int} {n : Nat} {Q : Int × Int × Nat → Shared → Prop} (hs : s.heap.IsSliceOf sl vl vu .none) (pl : IsPart vl lo) (pu : IsPart vu hi)
    (h : Q (((sIx n 0 lo : Nat) : Int), 1, sIx n n hi - sIx n 0 lo) s) : wpAny (model prog w) A (Builtin.Slice.sliceApplied (.ref sl) (pure (n : Int))) Q E s := by
  obtain ⟨os, hos, hcs, hds⟩ := id hs
  unfold Builtin.Slice.sliceApplied Builtin.Slice.sliceFields
  refine wpAny_bind (wpAny_bind (wpAny_field hos hds (x := vl) rfl (wpAny_bind (wpAny_field hos hds (x := vu) rfl (wpAny_bind (wpAny_field hos hds (x := .none) rfl (wpAny_pure ?_)))))))
  refine wpAny_bind (slicePart_none ?_)
  show wpAny _ _ (if ((1 : Int) == 0) = true then _ else _) _ _ s
  rw [if_neg (by decide)]
  refine wpAny_bind (slicePart_ pl (wpAny_bind (slicePart_ pu (wpAny_bind (wpAny_pure ?_)))))
  show wpAny _ _ (match Builtin.Slice.sliceAdjust lo hi 1 (n : Int) with | (lo, hi) => pure (lo, (1 : Int), Builtin.Slice.slicePlaces lo hi 1)) _ _ s
  rw [adjust_gen lo hi n]
  show wpAny _ _ (pure (((sIx n 0 lo : Nat) : Int), (1 : Int), Builtin.Slice.slicePlaces ((sIx n 0 lo : Nat) : Int) ((sIx n n hi : Nat) : Int) 1)) _ _ s
  rw [places_gen]
  exact wpAny_pure h
theorem pick_gen (xs : Array Value) (i k : Nat) : ((List.range k).filterMap fun (m : Nat) => xs[((i : Int) + (m : Int) * 1).toNat]?).toArray = ((xs.toList.drop i).take k).toArray := by
  have e : (fun (m : Nat) => xs[((i : Int) + (m : Int) * 1).toNat]?) = fun m => xs[i + m]? := by
    funext m
    have : ((i : Int) + (m : Int) * 1).toNat = i + m := by omega
    rw [this]
  rw [e]
  have := pick_run xs i k
  rw [List.filterMap_map] at this
  have e2 : ((fun x => xs[x]?) ∘ fun x => i + x) = fun m => xs[i + m]? := rfl
  rw [e2] at this
  rw [this]

theorem getItem_tuple_cut {t sl : Addr} {items : Array Value} {vl vu : Value} {lo hi : Option Int} {Q : Value → Shared → Prop} (ht : IsTup s.heap t items) (hs : s.heap.IsSliceOf sl vl vu .none) (pl : IsPart vl lo) (pu : IsPart vu hi)
    (hw : ¬ (sIx items.size 0 lo = 0 ∧ sIx items.size items.size hi = items.size))
    (h : Q (.ref s.heap.objs.size) { s with heap := s.heap.push { cls := .type "tuple", data := .seq ((items.toList.drop (sIx items.size 0 lo)).take (sIx items.size items.size hi - sIx items.size 0 lo)).toArray } })
    (hsz : items.size ≤ sizeLine) : wpAny (model prog w) A (getItem (.ref t) (.ref sl)) Q E s := by
  have htake : sizeOk (.seq ((items.toList.drop (sIx items.size 0 lo)).take (sIx items.size items.size hi - sIx items.size 0 lo)).toArray) := by
    show ((items.toList.drop (sIx items.size 0 lo)).take (sIx items.size items.size hi - sIx items.size 0 lo)).toArray.size ≤ sizeLine
    rw [List.size_toArray, List.length_take, List.length_drop, Array.length_toList]
    omega
  have hj : sIx items.size items.size hi ≤ items.size := sIx_le _ _ (Nat.le_refl _) hi
  obtain ⟨os, hos, hcs, hds⟩ := id hs
  have hTs : s.TypeIs (.ref sl) "slice" := ⟨os, hos, hcs⟩
  unfold getItem
  try with_reducible refine wpAny_holding ?_
  first | refine wpAny_bind (wpAny_pure ?_) | skip
  refine wpAny_bind (wpAny_sequenceKey ht.typeIs (by decide) ?_)
  refine wpAny_bind (wpAny_callSpecial?_slot (name := Str.ofString "__getitem__") ht.typeIs PyProof.Rows.slot_tuple_getitem
    (wpAny_call_entry PyProof.Rows.slot_tuple_getitem ht.typeIs entry_tuple_getitem ?_ (args_tuple_getitem _ _)))
  show wpAny _ _ (Builtin.Tuple.tupleItemsOf (.ref t) >>= _) _ _ s
  refine wpAny_bind (tupleItemsOf_ ht ?_)
  refine wpAny_bind (wpAny_typeOf hTs ?_)
  rw [if_pos (by decide)]
  refine wpAny_bind (sliceApplied_gen hs pl pu ?_)
  have hno : ¬ ((((sIx items.size 0 lo : Nat) : Int) == 0 && (1 : Int) == 1 && (sIx items.size items.size hi - sIx items.size 0 lo) == items.size) = true) := by
    intro q
    rw [Bool.and_eq_true, Bool.and_eq_true] at q
    have q1 : ((sIx items.size 0 lo : Nat) : Int) = 0 := eq_of_beq q.1.1
    have q2 : sIx items.size items.size hi - sIx items.size 0 lo = items.size := eq_of_beq q.2
    exact hw ⟨by omega, by omega⟩
  show wpAny _ _ (if (((sIx items.size 0 lo : Nat) : Int) == 0 && (1 : Int) == 1 && (sIx items.size items.size hi - sIx items.size 0 lo) == items.size) = true then _ else _) _ _ s
  rw [if_neg hno, pick_gen]
  first
    | exact wpAny_bind (m := Builtin.Tuple.tupleExact _) (wpAny_newObj_type (wpAny_pure ⟨_, rfl, wpAny_pure h⟩) htake)
    | exact wpAny_bind (m := Builtin.Tuple.tupleExact _) (wpAny_newObj_type (wpAny_bind (wpAny_pure (wpAny_pure ⟨_, rfl, wpAny_pure h⟩))) htake)
    | exact wpAny_bind (wpAny_bind (m := Builtin.Tuple.tupleExact _) (wpAny_newObj_type (wpAny_pure (wpAny_pure ⟨_, rfl, wpAny_pure h⟩)) htake))
    | exact wpAny_bind (wpAny_bind (m := Builtin.Tuple.tupleExact _) (wpAny_newObj_type (wpAny_pure ⟨_, rfl, wpAny_pure h⟩) htake))
end
end HT

namespace L2
open PySem PySem.Spec PyProof.Rows

/-! ### the parts of a slice -/
abbrev TO := St → Hp → (Option Int → Hp → Prop) → Prop
/-- a slice's part (left out, or an int) -/
def PO (X : Cx) (e : Option Expr) (t : TO) : Prop :=
  ∀ (pins : List (Addr × Obj)) (s : Shared) (σ : St) (H : Hp) (Q : Option Int → Hp → Prop), Inv X pins σ H s → t σ H Q →
    wpAny (model X.prog X.w) X.A (evalPart e X.env) (fun u s' => ∃ o H', Inv X pins σ H' s' ∧ IsPart u o ∧ Q o H') X.xe s
def tNoPart : TO := fun _ H Q => Q none H
def tPart (t : TE) : TO := fun σ H Q => t σ H fun x H1 => ∃ i, x = .int i ∧ Q (some i) H1

section
variable {X : Cx} {e : Expr} {te : TE} {lo hi : Option Expr} {tl th : TO} {pos p2 : Pos}

theorem po_none : PO X none tNoPart := by
  intro pins s σ H Q I h
  rw [evalPart_none]
  exact wpAny_pure ⟨none, H, I, .none, h⟩
theorem po_some (h : PE X e te) : PO X (some e) (tPart te) := by
  intro pins s σ H Q I hw
  rw [evalPart_some]
  refine thn (h pins s σ H _ I hw) fun u s1 ⟨x, H1, I1, r1, q1⟩ => ?_
  obtain ⟨i, rfl, q⟩ := q1
  obtain ⟨t, rfl⟩ := r1
  exact ⟨some i, H1, I1, .int i t, q⟩

/-- what a slice of a value is, by values: the slice object stands at sl -/
def SlR (X : Cx) (r : V → Option Int → Option Int → Hp → VK → Prop) : Prop :=
  ∀ (pins : List (Addr × Obj)) (s : Shared) (σ : St) (H : Hp) (x : V) (v vl vu : Value) (lo hi : Option Int) (sl : Addr) (Q : VK), Inv X pins σ H s → RelV x v → s.heap.IsSliceOf sl vl vu .none → IsPart vl lo → IsPart vu hi → r x lo hi H Q →
    ∃ T id, typeLookup (.type T) "__getitem__" = pure (some (.builtin id)) ∧ s.TypeIs v T ∧ wpAny (model X.prog X.w) X.A (getItem v (.ref sl)) (EP X pins σ Q) X.xe s
def tSl (r : V → Option Int → Option Int → Hp → VK → Prop) (te : TE) (tl th : TO) : TE := fun σ H Q => te σ H fun x H1 => tl σ H1 fun l H2 => th σ H2 fun u H3 => r x l u H3 Q
/-- a[lo:hi], any a -/
theorem pe_slice {r : V → Option Int → Option Int → Hp → VK → Prop} (hr : SlR X r) (he : PE X e te) (hl : PO X lo tl) (hu : PO X hi th) : PE X (.Subscript e (.Slice lo hi none p2) pos) (tSl r te tl th) := by
  intro pins s σ H Q I h
  refine Subscript_ (thn (he pins s σ H _ I h) fun v s1 ⟨x, H1, I1, r1, q1⟩ => ?_)
  refine wpAny_Slice (thn (hl pins s1 σ H1 _ I1 q1) fun vl s2 ⟨l, H2, I2, pl, q2⟩ => thn (hu pins s2 σ H2 _ I2 q2) fun vu s3 ⟨u, H3, I3, pu, q3⟩ => ?_)
  rw [evalPart_none]
  refine wpAny_pure ?_
  have I4 : Inv X pins σ H3 { s3 with heap := s3.heap.push { cls := .type "slice", data := .fields #[vl, vu, .none] } } := I3.kept (t' := s3.toks) fun b ob q => Heap.get?_push_of_some _ q
  obtain ⟨T, id, hT, ht, hg⟩ := hr pins { s3 with heap := s3.heap.push { cls := .type "slice", data := .fields #[vl, vu, .none] } } σ H3 x v vl vu l u s3.heap.objs.size Q I4 r1 (Heap.IsSliceOf.new ..) pl pu q3
  show wpAny (model X.prog X.w) X.A (subscriptTail e (.Slice lo hi none p2) v (.ref s3.heap.objs.size)) (EP X pins σ Q) X.xe { s3 with heap := s3.heap.push { cls := .type "slice", data := .fields #[vl, vu, .none] } }
  exact tail_any (ops := [.ref s3.heap.objs.size, v]) ht hT hg (by with_unfolding_all rfl)

/-- the items of xs[lo:hi] -/
def cutV (xs : List V) (lo hi : Option Int) : List V := (xs.drop (HT.sIx xs.length 0 lo)).take (HT.sIx xs.length xs.length hi - HT.sIx xs.length 0 lo)
theorem cutV_length (xs : List V) (lo hi : Option Int) : (cutV xs lo hi).length ≤ xs.length := by
  unfold cutV
  rw [List.length_take, List.length_drop]
  omega
/-- t[lo:hi], not the whole of it (the whole would be t itself) -/
def rSlT (K : PySem.W.Frag) : V → Option Int → Option Int → Hp → VK → Prop := fun x lo hi H Q => ∃ a xs, x = .ref a ∧ SqT K H a xs ∧
  ¬ (HT.sIx xs.length 0 lo = 0 ∧ HT.sIx xs.length xs.length hi = xs.length) ∧ ∀ p, H p = none → Q (.ref p) (upd H p (.tup (cutV xs lo hi)))
theorem sl_tup : SlR X (rSlT X.K) := by
  intro pins s σ H x v vl vu lo hi sl Q I rx hs pl pu h
  obtain ⟨a, xs, rfl, hx, hw, q⟩ := h
  cases rx
  obtain ⟨its, r, ht, hz⟩ := I.tuple hx
  have hlen : its.toArray.size = xs.length := by rw [List.size_toArray]; exact r.length.symm
  refine ⟨"tuple", _, PyProof.Rows.slot_tuple_getitem.lookup, ht.typeIs, ?_⟩
  refine HT.getItem_tuple_cut ht hs pl pu (by rw [hlen]; exact hw) ?_ (by rw [hlen]; exact hz)
  rw [hlen]
  refine ⟨.ref s.heap.objs.size, _, I.laid (t' := s.toks) (o := .tup (cutV xs lo hi)) (fun b ob q => Heap.get?_push_of_some _ q) (Nat.le_refl _) ?_, rfl, q _ (I.hok.fresh (Nat.le_refl _))⟩
  exact ⟨Nat.le_trans (cutV_length xs lo hi) hz, _, (r.drop (HT.sIx xs.length 0 lo)).take (HT.sIx xs.length xs.length hi - HT.sIx xs.length 0 lo), IsTup.new _ _⟩

/-! ### t < u, t + u -/
def rLtT (K : PySem.W.Frag) : R2 := fun x y H Q => ∃ a b ns ms, x = .ref a ∧ y = .ref b ∧ SqT K H a (ns.map V.int) ∧ SqT K H b (ms.map V.int) ∧ Q (.bl (HT.lexLt ns ms)) H
/-- t + u, t not empty: u empty gives t itself -/
def rCatT (K : PySem.W.Frag) : R2 := fun x y H Q => ∃ a b xs ys, x = .ref a ∧ y = .ref b ∧ SqT K H a xs ∧ SqT K H b ys ∧ xs ≠ [] ∧ xs.length + ys.length ≤ sizeLine ∧
  (ys = [] → Q (.ref a) H) ∧ (ys ≠ [] → ∀ p, H p = none → Q (.ref p) (upd H p (.tup (xs ++ ys))))
theorem Vals.nil_iff {xs : List V} {us : List Value} (r : Vals xs us) : us = [] ↔ xs = [] := by
  cases r with
  | nil => simp
  | cons _ _ => simp
theorem op_catT : OpR X (binaryOp .Add) (rCatT X.K) := by
  intro pins s σ H x y v u Q I rx ry h
  obtain ⟨a, b, xs, ys, rfl, rfl, ha, hb, hx, hz, q1, q2⟩ := h
  cases rx
  cases ry
  obtain ⟨its, r1, p1, _⟩ := I.tuple ha
  obtain ⟨its2, r2, p2, _⟩ := I.tuple hb
  refine HT.cat_tup p1 p2 (fun z => hx (r1.nil_iff.mp z)) (fun z => ⟨.ref a, H, I, rfl, q1 (r2.nil_iff.mp z)⟩) (fun z => ?_) (by rw [← r1.length, ← r2.length]; exact hz)
  refine ⟨.ref s.heap.objs.size, _, I.laid (t' := s.toks) (o := .tup (xs ++ ys)) (fun b ob q => Heap.get?_push_of_some _ q) (Nat.le_refl _) ?_, rfl, q2 (fun w => z (r2.nil_iff.mpr w)) _ (I.hok.fresh (Nat.le_refl _))⟩
  exact ⟨by rw [List.length_append]; exact hz, _, r1.append r2, IsTup.new _ _⟩
end
end L2

namespace L2
open PySem PySem.Spec PyProof.Rows

/-! ### places -/
/-- the place that an index of any sign means -/
def ixN (n : Nat) (i : Int) : Option Nat := if 0 ≤ i then (if i < n then some i.toNat else none) else if -(n : Int) ≤ i then some (i + n).toNat else none
def atI {α : Type} (xs : List α) (i : Int) : Option α := (ixN xs.length i).bind fun j => xs[j]?
theorem ixN_seq {n : Nat} {i : Int} {j : Nat} (h : ixN n i = some j) : seqIndex? i n = some j ∧ j < n ∧ -(n : Int) ≤ i ∧ i < n := by
  unfold ixN at h
  by_cases h0 : 0 ≤ i
  · rw [if_pos h0] at h
    by_cases h1 : i < n
    · rw [if_pos h1] at h
      have e : i.toNat = j := Option.some.inj h
      exact ⟨by rw [seqIndex_of h0 h1, e], by omega, by omega, h1⟩
    · rw [if_neg h1] at h; cases h
  · rw [if_neg h0] at h
    by_cases h1 : -(n : Int) ≤ i
    · rw [if_pos h1] at h
      have e : (i + n).toNat = j := Option.some.inj h
      exact ⟨by rw [seqIndex_neg (by omega) h1, e], by omega, h1, by omega⟩
    · rw [if_neg h1] at h; cases h
theorem atI_get {α : Type} {xs : List α} {i : Int} {v : α} (h : atI xs i = some v) : ∃ j, seqIndex? i xs.length = some j ∧ xs[j]? = some v ∧ j < xs.length ∧ -(xs.length : Int) ≤ i ∧ i < xs.length := by
  unfold atI at h
  cases e : ixN xs.length i with
  | none => rw [e] at h; cases h
  | some j =>
    rw [e] at h
    obtain ⟨h1, h2, h3, h4⟩ := ixN_seq e
    exact ⟨j, h1, h, h2, h3, h4⟩
theorem atI_nat {α : Type} {xs : List α} {j : Nat} {v : α} (h : xs[j]? = some v) : atI xs (j : Int) = some v := by
  have hj : j < xs.length := (List.getElem?_eq_some_iff.mp h).1
  have e : ixN xs.length (j : Int) = some j := by
    unfold ixN
    rw [if_pos (by omega), if_pos (by omega)]; simp
  unfold atI; rw [e]; exact h
/-! ### what may be subscripted -/
/-- what stands as an index of a plain subscript -/
def PlainIx (b : Expr) : Prop := ∀ o i, subscripted b false o i = operate [o, i] (getItem o i)
/-- a subscript by values -/
def IxR (X : Cx) (r : R2) : Prop :=
  ∀ (value slice : Expr) (pins : List (Addr × Obj)) (s : Shared) (σ : St) (H : Hp) (x y : V) (v u : Value) (Q : VK), Inv X pins σ H s → RelV x v → RelV y u → r x y H Q →
    subscripted slice false v u = operate [v, u] (getItem v u) → wpAny (model X.prog X.w) X.A (subscriptTail value slice v u) (EP X pins σ Q) X.xe s
/-- a call of a builtin's method by values: the receiver, the arguments -/
def MtR (X : Cx) (id : String) (r : V → List V → Hp → VK → Prop) : Prop :=
  ∀ (pins : List (Addr × Obj)) (s : Shared) (σ : St) (H : Hp) (x : V) (xs : List V) (v : Value) (us : List Value) (Q : VK), Inv X pins σ H s → RelV x v → Vals xs us → r x xs H Q →
    wpAny (model X.prog X.w) X.A (call (.builtin id) (v :: us)) (EP X pins σ Q) X.xe s
section
variable {X : Cx} {a b : Expr} {ta tb : TE} {pos : Pos}
/-- a[b] -/
theorem pe_ix {r : R2} (hr : IxR X r) (ha : PE X a ta) (hb : PE X b tb) (hs : PlainIx b) : PE X (.Subscript a b pos) (tOp r ta tb) := by
  intro pins s σ H Q I h
  exact Subscript_ (binT ha hb I h fun v u s2 x y H2 I2 rx ry q => hr a b pins s2 σ H2 x y v u Q I2 rx ry q (hs _ _))

def rIxL (K : PySem.W.Frag) : R2 := fun x y H Q => ∃ p xs i v, x = .ref p ∧ y = .int i ∧ SqL K H p xs ∧ atI xs i = some v ∧ Q v H
def rIxT (K : PySem.W.Frag) : R2 := fun x y H Q => ∃ p xs i v, x = .ref p ∧ y = .int i ∧ SqT K H p xs ∧ atI xs i = some v ∧ Q v H
def rIxS : R2 := fun x y H Q => ∃ z i c, x = .str z ∧ y = .int i ∧ z.length ≤ sizeLine ∧ atI z.cps.toList i = some c ∧ Q (.str ⟨#[c]⟩) H
theorem ix_list : IxR X (rIxL X.K) := by
  intro value slice pins s σ H x y v u Q I rx ry h hs
  obtain ⟨p, xs, i, z, rfl, rfl, hq, he, q⟩ := h
  cases rx
  obtain ⟨t, rfl⟩ := ry
  obtain ⟨its, r, pl, hz⟩ := I.list hq
  obtain ⟨j, h1, h2, h3, h4, h5⟩ := atI_get he
  obtain ⟨w, ew, rw'⟩ := r.get h2
  have hl := r.length
  have hn := line63
  have fin : EP X pins σ Q w s := ⟨z, H, I, rw', q⟩
  by_cases h0 : 0 ≤ i
  · have hj : i.toNat = j := by
      rw [seqIndex_of h0 h5] at h1
      exact Option.some.inj h1
    exact item_listR pl.isList h0 (by omega) (by rw [hj]; simpa using ew) fin hs
  · have hj : (i + (its.toArray.size : Int)).toNat = j := by
      rw [seqIndex_neg (by omega) h4] at h1
      rw [List.size_toArray, ← hl]
      exact Option.some.inj h1
    exact subscriptTail_builtinR (x := w) pl.isList.typeIs slot_list_getitem.lookup
      (wpAny_getItem_list_neg (Q := fun r s' => r = w ∧ EP X pins σ Q r s') pl.isList (by omega) (by rw [List.size_toArray] <;> omega) (by omega) (by rw [hj]; simpa using ew) ⟨rfl, fin⟩) hs
theorem ix_tup : IxR X (rIxT X.K) := by
  intro value slice pins s σ H x y v u Q I rx ry h hs
  obtain ⟨p, xs, i, z, rfl, rfl, hq, he, q⟩ := h
  cases rx
  obtain ⟨t, rfl⟩ := ry
  obtain ⟨its, r, pl, hz⟩ := I.tuple hq
  obtain ⟨j, h1, h2, h3, h4, h5⟩ := atI_get he
  obtain ⟨w, ew, rw'⟩ := r.get h2
  have hl := r.length
  have hn := line63
  have fin : EP X pins σ Q w s := ⟨z, H, I, rw', q⟩
  exact subscriptTail_builtinR (x := w) pl.typeIs slot_tuple_getitem.lookup
    (getItem_tuple (j := j) (Q := fun r s' => r = w ∧ EP X pins σ Q r s') pl (by omega) (by omega) (by rw [List.size_toArray, ← hl]; exact h1) (by simpa using ew) ⟨rfl, fin⟩) hs
/-- list, tuple or str -/
def rIx (K : PySem.W.Frag) : R2 := fun x y H Q => rIxL K x y H Q ∨ rIxT K x y H Q ∨ rIxS x y H Q
/-! ### xs[i] = v, any sign -/
/-- the list's object behind a store -/
theorem mapSeq_set (its : List Value) (n j : Nat) (u : Value) : Obj.mapSeq (·.setIfInBounds j u) { cls := .type "list", data := .seq its.toArray n } = { cls := .type "list", data := .seq (its.set j u).toArray n } := by
  simp [Obj.mapSeq]
theorem Inv.lst {pins : List (Addr × Obj)} {σ : St} {H : Hp} {s : Shared} {p : Addr} {xs : List V} (I : Inv X pins σ H s) (h : H p = some (.lst xs)) :
    ∃ (its : List Value) (n : Nat), Vals xs its ∧ s.heap.get? p = some { cls := .type "list", data := .seq its.toArray n } ∧ xs.length ≤ sizeLine := by
  obtain ⟨z, its, n, r, e⟩ := I.hok p _ h
  exact ⟨its, n, r, e, z⟩
/-- the list at p is written by an update of its object -/
theorem Inv.lstUpd {pins : List (Addr × Obj)} {σ : St} {H : Hp} {s : Shared} {p : Addr} {xs ys : List V} {its its' : List Value} {n n' : Nat} {f : Obj → Obj} (I : Inv X pins σ H s) (h : H p = some (.lst xs))
    (ho : s.heap.get? p = some { cls := .type "list", data := .seq its.toArray n }) (hf : f { cls := .type "list", data := .seq its.toArray n } = { cls := .type "list", data := .seq its'.toArray n' }) (r : Vals ys its') (hz : ys.length ≤ sizeLine) (t : Nat) :
    Inv X pins σ (upd H p (.lst ys)) { s with heap := s.heap.update p f, toks := t } := by
  have e : (s.heap.update p f).get? p = some { cls := .type "list", data := .seq its'.toArray n' } := by
    rw [Heap.get?_update_self f ho (by rw [hf] <;> rfl), hf]
  refine I.write (x := p) (e := p) (by rw [h]; trivial) (.inl rfl) (fun b u hb q => (Heap.get?_update_other _ _ (Ne.symm hb)).trans q) ⟨_, e⟩ ?_
  exact ⟨hz, its', n', r, e⟩
def rSetL : V → V → V → Hp → (Hp → Prop) → Prop := fun o i v H Q => ∃ p xs k j, o = .ref p ∧ i = .int k ∧ H p = some (.lst xs) ∧ ixN xs.length k = some j ∧ Q (upd H p (.lst (xs.set j v)))
theorem set_list : PSet X rSetL := by
  intro pins s σ H o i v ov iv u Q I ro ri rv h
  obtain ⟨p, xs, k, j, rfl, rfl, hp, hj, q⟩ := h
  cases ro
  obtain ⟨t, rfl⟩ := ri
  obtain ⟨its, n, r, ho, hz⟩ := I.lst hp
  obtain ⟨h1, h2, h3, h4⟩ := ixN_seq hj
  have hl := r.length
  have hn := line63
  have I' : Inv X pins σ (upd H p (.lst (xs.set j v))) { s with heap := s.heap.update p (Obj.mapSeq (·.setIfInBounds j u)) } :=
    I.lstUpd hp ho (mapSeq_set its n j u) (r.set rv j) (by rw [List.length_set]; exact hz) s.toks
  by_cases h0 : 0 ≤ k
  · have hk : k.toNat = j := by
      rw [seqIndex_of h0 h4] at h1
      exact Option.some.inj h1
    exact PySem.W.ki_setAt ho h0 (by omega) (by rw [List.size_toArray, ← hl]; exact h4) (by rw [hk]; exact ⟨_, I', q⟩)
  · have hk : (k + (its.toArray.size : Int)).toNat = j := by
      rw [seqIndex_neg (by omega) h3] at h1
      rw [List.size_toArray, ← hl]
      exact Option.some.inj h1
    exact PySem.W.ki_setBack ho (by omega) (by rw [List.size_toArray, ← hl]; exact h3) (by omega) (by rw [hk]; exact ⟨_, I', q⟩)

/-! ### slices -/
theorem slice_bounds (lo hi : Option Int) (n : Nat) : (sliceBounds lo hi none n).1 = ((HT.sIx n 0 lo : Nat) : Int) ∧ (sliceBounds lo hi none n).2.1 = ((HT.sIx n n hi : Nat) : Int) ∧ (sliceBounds lo hi none n).2.2 = 1 := by
  refine ⟨?_, ?_, rfl⟩
  · cases lo with
    | none => simp [sliceBounds, HT.sIx]
    | some i =>
      simp only [sliceBounds, HT.sIx, Option.getD_none, show (1 : Int) > 0 by decide, if_true]
      by_cases h : i < 0
      · simp only [h, if_true] <;> omega
      · simp only [h, if_false] <;> omega
  · cases hi with
    | none => simp [sliceBounds, HT.sIx]
    | some i =>
      simp only [sliceBounds, HT.sIx, Option.getD_none, show (1 : Int) > 0 by decide, if_true]
      by_cases h : i < 0
      · simp only [h, if_true] <;> omega
      · simp only [h, if_false] <;> omega
theorem slicePick_cut (its : List Value) (lo hi : Option Int) : slicePick its.toArray lo hi none = ((its.drop (HT.sIx its.length 0 lo)).take (HT.sIx its.length its.length hi - HT.sIx its.length 0 lo)).toArray := by
  obtain ⟨h1, h2, h3⟩ := slice_bounds lo hi its.toArray.size
  unfold slicePick
  rw [h1, h2, h3]
  simp only [sliceRange_one, pick_run, List.size_toArray] <;> rfl
/-- xs[lo:hi] of a list: a new list -/
def rSlL (K : PySem.W.Frag) : V → Option Int → Option Int → Hp → VK → Prop := fun x lo hi H Q => ∃ a xs, x = .ref a ∧ SqL K H a xs ∧ ∀ p, H p = none → Q (.ref p) (upd H p (.lst (cutV xs lo hi)))
theorem sl_list : SlR X (rSlL X.K) := by
  intro pins s σ H x v vl vu lo hi sl Q I rx hs pl pu h
  obtain ⟨a, xs, rfl, hx, q⟩ := h
  cases rx
  obtain ⟨its, r, ht, hz⟩ := I.list hx
  have hlen := r.length
  refine ⟨"list", _, slot_list_getitem.lookup, ht.isList.typeIs, ?_⟩
  refine wpAny_getItem_list_slice ht.isList hs pl pu .none (by simp) ?_ (by rw [List.size_toArray] <;> omega)
  rw [slicePick_cut, ← hlen]
  refine ⟨.ref s.heap.objs.size, _, I.laid (t' := s.toks) (o := .lst (cutV xs lo hi)) (fun b ob q => Heap.get?_push_of_some _ q) (Nat.le_refl _) ?_, rfl, q _ (I.hok.fresh (Nat.le_refl _))⟩
  exact ⟨Nat.le_trans (cutV_length xs lo hi) hz, _, 0, (r.drop (HT.sIx xs.length 0 lo)).take (HT.sIx xs.length xs.length hi - HT.sIx xs.length 0 lo), Heap.get?_push_size _ rfl⟩

/-! ### in, not in: flat items -/
def flatV : V → Bool
  | .non => true
  | .bl _ => true
  | .int _ => true
  | .str _ => true
  | _ => false
/-- == of flat values -/
def eqV : V → V → Bool
  | .non, .non => true
  | .bl a, .bl b => a == b
  | .bl a, .int b => (if a then 1 else 0) == b
  | .int a, .bl b => a == (if b then 1 else 0)
  | .int a, .int b => a == b
  | .str a, .str b => a == b
  | _, _ => false
theorem eqAt_V {A : Around} {s : Shared} {y x : V} {u v : Value} (ry : RelV y u) (rx : RelV x v) (fy : flatV y = true) (fx : flatV x = true) : SeqAt.EqAt A s u v (eqV y x) := by
  cases y with
  | non =>
    cases ry
    cases x with
    | non => cases rx; exact SeqAt.EqAt.same _
    | bl b => cases rx; exact SeqAt.EqAt.none_bool b
    | int b => obtain ⟨t, rfl⟩ := rx; exact SeqAt.EqAt.none_int b t
    | str b => obtain ⟨t, rfl⟩ := rx; exact SeqAt.EqAt.none_str b t
    | _ => exact absurd (show false = true from fx) Bool.false_ne_true
  | bl a =>
    cases ry
    cases x with
    | non => cases rx; exact SeqAt.EqAt.bool_none a
    | bl b => cases rx; exact SeqAt.EqAt.bool_bool a b
    | int b => obtain ⟨t, rfl⟩ := rx; exact SeqAt.EqAt.bool_int a b t
    | str b => obtain ⟨t, rfl⟩ := rx; exact SeqAt.EqAt.bool_str a b t
    | _ => exact absurd (show false = true from fx) Bool.false_ne_true
  | int a =>
    obtain ⟨t', rfl⟩ := ry
    cases x with
    | non => cases rx; exact SeqAt.EqAt.int_none a t'
    | bl b => cases rx; exact SeqAt.EqAt.int_bool a t' b
    | int b => obtain ⟨t, rfl⟩ := rx; exact SeqAt.EqAt.int_int a t' b t
    | str b => obtain ⟨t, rfl⟩ := rx; exact SeqAt.EqAt.int_str a t' b t
    | _ => exact absurd (show false = true from fx) Bool.false_ne_true
  | str a =>
    obtain ⟨t', rfl⟩ := ry
    cases x with
    | non => cases rx; exact SeqAt.EqAt.str_none a t'
    | bl b => cases rx; exact SeqAt.EqAt.str_bool a t' b
    | int b => obtain ⟨t, rfl⟩ := rx; exact SeqAt.EqAt.str_int a t' b t
    | str b => obtain ⟨t, rfl⟩ := rx; exact SeqAt.EqAt.str_str a t' b t
    | _ => exact absurd (show false = true from fx) Bool.false_ne_true
  | _ => exact absurd (show false = true from fy) Bool.false_ne_true
/-- the items' answers, read off the values (a value's own answer does not lean on its token) -/
def eqU (x : V) (u : Value) : Bool := match u with
  | .none => eqV .non x
  | .bool b => eqV (.bl b) x
  | .int i _ => eqV (.int i) x
  | .str z _ => eqV (.str z) x
  | _ => false
theorem eqU_of {x y : V} {u : Value} (r : RelV y u) (f : flatV y = true) : eqU x u = eqV y x := by
  cases y with
  | non => cases r; rfl
  | bl b => cases r; rfl
  | int i => obtain ⟨t, rfl⟩ := r; rfl
  | str z => obtain ⟨t, rfl⟩ := r; rfl
  | _ => exact absurd (show false = true from f) Bool.false_ne_true
theorem any_eqU {x : V} : ∀ {xs : List V} {us : List Value}, Vals xs us → xs.all flatV = true → us.any (eqU x) = xs.any fun y => eqV y x
  | _, _, .nil, _ => rfl
  | y :: xs, u :: us, .cons r t, f => by
    rw [List.all_cons, Bool.and_eq_true] at f
    rw [List.any_cons, List.any_cons, eqU_of r f.1, any_eqU t f.2]
theorem mem_eqAt {A : Around} {s : Shared} {x : V} {v : Value} (rx : RelV x v) (fx : flatV x = true) : ∀ {xs : List V} {us : List Value}, Vals xs us → xs.all flatV = true → ∀ u ∈ us, SeqAt.EqAt A s u v (eqU x u)
  | _, _, .nil, _ => fun u hu => by cases hu
  | y :: xs, u :: us, .cons r t, f => fun u' hu => by
    rw [List.all_cons, Bool.and_eq_true] at f
    rcases List.mem_cons.mp hu with rfl | hu
    · rw [eqU_of r f.1]; exact eqAt_V r rx f.1 fx
    · exact mem_eqAt rx fx t f.2 u' hu
def inV (x : V) (xs : List V) : Bool := xs.any fun y => eqV y x
/-- x in a list or tuple of flat items -/
def rIn (K : PySem.W.Frag) (neg : Bool) : R2 := fun x y H Q => ∃ p xs, y = .ref p ∧ (SqL K H p xs ∨ SqT K H p xs) ∧ flatV x = true ∧ xs.all flatV = true ∧ Q (.bl (if neg then !inV x xs else inV x xs)) H
theorem op_in_seq : OpR X (compareOp .In) (rIn X.K false) := by
  intro pins s σ H x y v u Q I rx ry h
  obtain ⟨p, xs, rfl, hq, fx, fs, q⟩ := h
  cases ry
  rcases hq with hq | hq
  · obtain ⟨its, r, pl, hz⟩ := I.list hq
    refine SeqAt.in_listAt (eqU x) pl.isList (fun w hw => mem_eqAt rx fx r fs w (by simpa using hw)) ⟨.bl _, H, I, rfl, ?_⟩
    rw [show its.toArray.any (eqU x) = its.any (eqU x) by simp, any_eqU r fs]
    exact q
  · obtain ⟨its, r, pl, hz⟩ := I.tuple hq
    refine SeqAt.in_tupleAt (eqU x) pl (fun w hw => mem_eqAt rx fx r fs w (by simpa using hw)) ⟨.bl _, H, I, rfl, ?_⟩
    rw [show its.toArray.any (eqU x) = its.any (eqU x) by simp, any_eqU r fs]
    exact q
/-! ### len, list(x), tuple(x) of any list or tuple that is read -/
theorem call_len_seq : CallR X (.builtin "len") (fun xs H Q => ∃ p ys, xs = [.ref p] ∧ (SqL X.K H p ys ∨ SqT X.K H p ys) ∧ Q (.int ys.length) H) := by
  intro pins s σ H xs us Q I r h
  obtain ⟨p, ys, rfl, hq, q⟩ := h
  obtain ⟨u, rfl, rx⟩ := vals1 r
  cases rx
  have hn := line63
  rcases hq with hq | hq
  · obtain ⟨its, r', pl, hz⟩ := I.list hq
    have hlen := r'.length
    exact Calls.call_len_list pl.isList (by simp only [List.size_toArray] <;> omega) ⟨.int ys.length, H, I.tok _, ⟨s.toks + 1, by rw [List.size_toArray, hlen]⟩, q⟩
  · obtain ⟨its, r', pl, hz⟩ := I.tuple hq
    have hlen := r'.length
    exact len_tuple pl (by simp only [List.size_toArray] <;> omega) ⟨.int ys.length, H, I.tok _, ⟨s.toks + 1, by rw [List.size_toArray, hlen]⟩, q⟩
theorem call_list_of : CallR X (.type "list") (fun xs H Q => ∃ p ys, xs = [.ref p] ∧ (SqL X.K H p ys ∨ SqT X.K H p ys) ∧ ∀ l, H l = none → Q (.ref l) (upd H l (.lst ys))) := by
  intro pins s σ H xs us Q I r h
  obtain ⟨p, ys, rfl, hq, q⟩ := h
  obtain ⟨u, rfl, rx⟩ := vals1 r
  cases rx
  have fin : ∀ (its : List Value), Vals ys its → ys.length ≤ sizeLine → ∀ (h' : Heap) (c' : Nat), (∀ b o', s.heap.get? b = some o' → h'.get? b = some o') →
      h'.get? s.heap.objs.size = some { cls := .type "list", dict := none, data := .seq its.toArray c', slots := #[] } → EP X pins σ Q (.ref s.heap.objs.size) { s with heap := h' } := fun its r' hz h' c' kp e =>
    ⟨.ref s.heap.objs.size, _, I.laid (t' := s.toks) kp (Nat.le_refl _) (show ObjOk X.prog X.w _ h' _ (.lst ys) from ⟨hz, its, c', r', e⟩), rfl, q _ (I.hok.fresh (Nat.le_refl _))⟩
  rcases hq with hq | hq
  · obtain ⟨its, r', pl, hz⟩ := I.list hq
    have hlen := r'.length
    obtain ⟨o, ho, hc, n, hd⟩ := pl.isList
    exact call_list_seq p (.inl rfl) ho hc hd (fun h' c' kp e => fin its r' hz h' c' kp e) (by simp only [List.size_toArray] <;> omega)
  · obtain ⟨its, r', pl, hz⟩ := I.tuple hq
    have hlen := r'.length
    obtain ⟨o, ho, hc, n, hd⟩ := pl
    exact call_list_seq p (.inr rfl) ho hc hd (fun h' c' kp e => fin its r' hz h' c' kp e) (by simp only [List.size_toArray] <;> omega)
/-! ### the call of a builtin's method: o.m(..) -/
/-- the value is of that builtin type -/
def tyV (K : PySem.W.Frag) (T : String) (x : V) (H : Hp) : Prop := match x with
  | .str _ => T = "str"
  | .int _ => T = "int"
  | .ref p => (T = "list" ∧ ∃ xs, SqL K H p xs) ∨ (T = "tuple" ∧ ∃ o, K.lookup p = some o ∧ o.cls = .type "tuple" ∧ o.dict = none) ∨
      (T = "dict" ∧ ((∃ kvs, H p = some (.dK kvs)) ∨ ∃ kvs, H p = some (.dT kvs))) ∨ (T = "set" ∧ ∃ S n, H p = some (.set S n))
  | _ => False
theorem tyV_is {pins : List (Addr × Obj)} {σ : St} {H : Hp} {s : Shared} {T : String} {x : V} {v : Value} (I : Inv X pins σ H s) (r : RelV x v) (ty : tyV X.K T x H) :
    s.TypeIs v T ∧ ∀ a, v = .ref a → ∃ ob, s.heap.get? a = some ob ∧ ob.dict = none := by
  cases x with
  | str z =>
    obtain ⟨t, rfl⟩ := r
    cases (show T = "str" from ty)
    exact ⟨typeIs_str s z t, fun _ e => nomatch e⟩
  | int i =>
    obtain ⟨t, rfl⟩ := r
    cases (show T = "int" from ty)
    exact ⟨typeIs_int s i t, fun _ e => nomatch e⟩
  | ref p =>
    cases r
    rcases ty with ⟨rfl, xs, hq⟩ | ⟨rfl, o, hk, hc, hd⟩ | ⟨rfl, hk⟩ | ⟨rfl, S, n, hk⟩
    · obtain ⟨its, _, pl, _⟩ := I.list hq
      refine ⟨pl.isList.typeIs, fun a e => ?_⟩
      cases e
      obtain ⟨o, n, e, c, hd, _⟩ := pl
      exact ⟨o, e, hd⟩
    · refine ⟨⟨o, I.kIn p o hk, hc⟩, fun a e => ?_⟩
      cases e
      exact ⟨o, I.kIn _ o hk, hd⟩
    · have z : ∃ o, s.heap.get? p = some o ∧ o.ExactDict := by
        rcases hk with ⟨kvs, hk⟩ | ⟨kvs, hk⟩
        · obtain ⟨_, _, _, _, o, _, _, e, ex, _⟩ := I.hok p _ hk
          exact ⟨o, e, ex⟩
        · obtain ⟨_, _, _, _, o, _, _, e, ex, _⟩ := I.hok p _ hk
          exact ⟨o, e, ex⟩
      obtain ⟨o, e, ex⟩ := z
      refine ⟨⟨o, e, ex.1⟩, fun a e2 => ?_⟩
      cases e2
      exact ⟨o, e, ex.2.1⟩
    · obtain ⟨o, _, _, _, e, ex, _⟩ := I.hok p _ hk
      refine ⟨⟨o, e, ex.1⟩, fun a e2 => ?_⟩
      cases e2
      exact ⟨o, e, ex.2.1⟩
  | _ => exact False.elim ty
def tBM0 (K : PySem.W.Frag) (T : String) (r : V → List V → Hp → VK → Prop) (to : TE) : TE := fun σ H Q => to σ H fun x H1 => tyV K T x H1 ∧ r x [] H1 Q
def tBM (K : PySem.W.Frag) (T : String) (r : V → List V → Hp → VK → Prop) (to : TE) (t : TA) : TE := fun σ H Q => to σ H fun x H1 => tyV K T x H1 ∧ t σ H1 fun xs H2 => r x xs H2 Q
variable {o e : Expr} {es : List Expr} {to : TE} {t : TA} {name : Str} {apos cpos : Pos} {T id : String} {r : V → List V → Hp → VK → Prop}
theorem pe_bm0 (pa : PlainAttrs T) (slot : Slot T name id) (hty : typeOf (.builtin id) = pure (.type "method_descriptor")) (hm : MtR X id r) (ho : PE X o to)
    (hbase : attributeBase o name X.env (eval o X.env) = eval o X.env := by rfl) (hline : (apos.endLine == cpos.line) = true := by rfl) : PE X (.Call (.Attribute o name apos) [] [] cpos) (tBM0 X.K T r to) := by
  intro pins s σ H Q I h
  refine wpAny_Call_method0_late hbase hline (thn (ho pins s σ H _ I h) fun v s1 ⟨x, H1, I1, r1, ty, q1⟩ => ?_)
  obtain ⟨h1, h2⟩ := tyV_is I1 r1 ty
  exact ⟨T, id, pa, slot, hty, h1, h2, Calls.callWith_builtin rfl (PySem.evalArgs_none (hm pins s1 σ H1 x [] v [] Q I1 r1 .nil q1))⟩
theorem pe_bm (pa : PlainAttrs T) (slot : Slot T name id) (hty : typeOf (.builtin id) = pure (.type "method_descriptor")) (hm : MtR X id r) (ho : PE X o to) (ha : PA X (e :: es) t)
    (hbase : attributeBase o name X.env (eval o X.env) = eval o X.env := by rfl)
    (hfew : ((backTo cpos (starEach (e :: es) X.env)).all (fun x => !x.1) && (backToKw cpos (keywordEach [] X.env)).all (fun x => x.1.isSome)
      && decide ((e :: es).length + ([] : List Keyword).length + (if ([] : List Keyword).isEmpty then 0 else 1) < 30)) = true := by rfl)
    (hline : (apos.endLine == cpos.line) = true := by rfl) (hs : starEach (e :: es) X.env = (false, eval e X.env) :: starEach es X.env := by rfl) (hplain : (backTo cpos (starEach es X.env)).any (·.1) = false := by rfl) :
    PE X (.Call (.Attribute o name apos) (e :: es) [] cpos) (tBM X.K T r to t) := by
  intro pins s σ H Q I h
  refine wpAny_Call_method_late hbase hfew hline rfl (thn (ho pins s σ H _ I h) fun v s1 ⟨x, H1, I1, r1, ty, q1⟩ => ?_)
  obtain ⟨h1, h2⟩ := tyV_is I1 r1 ty
  refine ⟨T, id, pa, slot, hty, h1, h2, ?_⟩
  have hA := ha cpos pins s1 σ H1 _ I1 q1
  rw [hs] at hA ⊢
  refine Calls.callWith_builtin (by show (false || (backTo cpos (starEach es X.env)).any (·.1)) = false; rw [hplain] <;> rfl) (Calls.evalArgs_plain ?_)
  exact thn hA fun us s2 ⟨vs, H2, I2, r2, q2⟩ => hm pins s2 σ H2 x vs v us Q I2 r1 r2 q2
/- xs.append(e), list.index on a module's tuple .. are MtR facts of 06m -/
end
end L2

namespace L2
open PySem PySem.Spec PyProof.Rows

def MtM (X : Cx) (id : String) (r : V → List V → Hp → VK → Prop) : Prop :=
  ∀ (pins : List (Addr × Obj)) (s : Shared) (σ : St) (H : Hp) (x : V) (xs : List V) (v : Value) (us : List Value) (Q : VK), Inv X pins σ H s → RelV x v → Vals xs us → r x xs H Q →
    wpAny (model X.prog X.w) X.A (call (.builtin id) (v :: us)) (EP X pins σ Q) X.xe s

/-! ### lists of values -/
theorem Vals.one : ∀ {x : V} {us : List Value}, Vals [x] us → ∃ u, us = [u] ∧ RelV x u
  | _, _, .cons r .nil => ⟨_, rfl, r⟩
theorem Vals.zero : ∀ {us : List Value}, Vals [] us → us = []
  | _, .nil => rfl
theorem Vals.dropLast {xs : List V} {us : List Value} (h : Vals xs us) : Vals xs.dropLast us.dropLast := by
  induction h with
  | nil => exact .nil
  | cons r t ih =>
    cases t with
    | nil => exact .nil
    | cons q t' => exact .cons r ih
theorem erase_last {α : Type} (l : List α) : l.eraseIdx (l.length - 1) = l.dropLast := by
  induction l with
  | nil => rfl
  | cons a r ih =>
    cases r with
    | nil => rfl
    | cons b r =>
      have e : (a :: b :: r).length - 1 = ((b :: r).length - 1) + 1 := by
        have h1 : (a :: b :: r).length = r.length + 2 := rfl
        have h2 : (b :: r).length = r.length + 1 := rfl
        omega
      rw [e, List.eraseIdx_cons_succ, ih]
      all_goals rfl
section
variable {X : Cx} {pins : List (Addr × Obj)} {σ : St} {H : Hp} {s : Shared} {l b : Addr} {xs ys zs : List V}

/-! ### the two steps: a tracked list is rewritten, a new list is laid -/
theorem Inv.lset {its its' : List Value} {n : Nat} {f : Array Value → Array Value} {t' : Nat} (I : Inv X pins σ H s) (hH : H l = some (.lst xs))
    (e : s.heap.get? l = some { cls := .type "list", data := .seq its.toArray n }) (hf : f its.toArray = its'.toArray) (hv : Vals ys its') (hz : ys.length ≤ sizeLine) :
    Inv X pins σ (upd H l (.lst ys)) { s with heap := s.heap.update l (Obj.mapSeq f), toks := t' } := by
  have q := PySem.IsL.update e f
  rw [hf] at q
  refine I.write (x := l) (e := l) (by rw [hH]; exact trivial) (.inl rfl) (fun b' u hb hu => (Heap.get?_update_other s.heap (Obj.mapSeq f) (Ne.symm hb)).trans hu) ⟨_, q⟩ ?_
  exact ⟨hz, its', _, hv, q⟩
theorem Inv.lnew {its : List Value} {t' : Nat} (I : Inv X pins σ H s) (hv : Vals ys its) (hz : ys.length ≤ sizeLine) :
    Inv X pins σ (upd H s.heap.objs.size (.lst ys)) { s with heap := s.heap.push { cls := .type "list", data := .seq its.toArray }, toks := t' } :=
  I.laid (fun _ _ q => Heap.get?_push_of_some _ q) (Nat.le_refl _) ⟨hz, its, 0, hv, Heap.get?_push_size _ rfl⟩
theorem Inv.fresh (I : Inv X pins σ H s) : H s.heap.objs.size = none := I.hok.fresh (Nat.le_refl _)
theorem Inv.lstM (I : Inv X pins σ H s) (hH : H l = some (.lst xs)) : xs.length ≤ sizeLine ∧ ∃ (its : List Value) (n : Nat), Vals xs its ∧ xs.length = its.length ∧ s.heap.get? l = some { cls := .type "list", data := .seq its.toArray n } := by
  obtain ⟨z, its, n, r, e⟩ := I.hok l _ hH
  exact ⟨z, its, n, r, r.length, e⟩

end

section
variable {X : Cx}

/-! ### methods -/
def rAppend : V → List V → Hp → VK → Prop := fun x vs H Q => ∃ l xs y, x = .ref l ∧ vs = [y] ∧ H l = some (.lst xs) ∧ xs.length < sizeLine ∧ Q .non (upd H l (.lst (xs ++ [y])))
theorem mt_append : MtM X "list.append" rAppend := by
  intro pins s σ H x vs v us Q I rx rv h
  obtain ⟨l, xs, y, rfl, rfl, hH, hz, q⟩ := h
  cases rx
  obtain ⟨u, rfl, ru⟩ := rv.one
  obtain ⟨z, its, n, r, hl, e⟩ := I.lstM hH
  refine call_meets F.slot_list_append ⟨_, e, rfl⟩ F.entry_list_append (F.args_list_append_2 _ _) (PySem.list_append l its.toArray n u (by rw [List.size_toArray]; omega)) ⟨e, ?_⟩
  refine ⟨.non, _, I.lset (its' := its ++ [u]) hH e (by simp) (r.append (.cons ru .nil)) ?_, rfl, q⟩
  rw [List.length_append, List.length_singleton]
  omega

def rExtend : V → List V → Hp → VK → Prop := fun x vs H Q => ∃ l b xs zs, x = .ref l ∧ vs = [.ref b] ∧ H l = some (.lst xs) ∧ H b = some (.lst zs) ∧ xs.length + zs.length ≤ sizeLine ∧ Q .non (upd H l (.lst (xs ++ zs)))
def rPop : V → List V → Hp → VK → Prop := fun x vs H Q => ∃ l xs y, x = .ref l ∧ vs = [] ∧ H l = some (.lst xs) ∧ xs[xs.length - 1]? = some y ∧ Q y (upd H l (.lst xs.dropLast))
theorem mt_pop : MtM X "list.pop" rPop := by
  intro pins s σ H x vs v us Q I rx rv h
  obtain ⟨l, xs, y, rfl, rfl, hH, hy, q⟩ := h
  cases rx
  have hus := rv.zero
  subst hus
  obtain ⟨z, its, n, r, hl, e⟩ := I.lstM hH
  obtain ⟨u, hu, ru⟩ := r.get hy
  have hy' : its.toArray[its.toArray.size - 1]? = some u := by
    show its.toArray[its.length - 1]? = some u
    rw [← Array.getElem?_toList, ← hl]
    exact hu
  refine call_meets F.slot_list_pop ⟨_, e, rfl⟩ F.entry_list_pop (F.args_list_pop_1 _) (MeetsSeq.list_pop_last l its.toArray n u hy' (by rw [List.size_toArray]; omega)) ⟨e, ?_⟩
  refine ⟨y, _, I.lset (its' := its.dropLast) hH e ?_ r.dropLast ?_, ru, q⟩
  · show its.toArray.eraseIdxIfInBounds (its.toArray.size - 1) = its.dropLast.toArray
    rw [List.size_toArray, List.eraseIdxIfInBounds_toArray, erase_last]
  · rw [List.length_dropLast]
    omega

def rPopAt : V → List V → Hp → VK → Prop := fun x vs H Q => ∃ l xs i k y, x = .ref l ∧ vs = [.int i] ∧ H l = some (.lst xs) ∧ -(2 ^ 63) ≤ i ∧ i < 2 ^ 63 ∧ seqIndex? i xs.length = some k ∧ xs[k]? = some y ∧ Q y (upd H l (.lst (xs.eraseIdx k)))
def rReverse : V → List V → Hp → VK → Prop := fun x vs H Q => ∃ l xs, x = .ref l ∧ vs = [] ∧ H l = some (.lst xs) ∧ Q .non (upd H l (.lst xs.reverse))
def rClear : V → List V → Hp → VK → Prop := fun x vs H Q => ∃ l xs, x = .ref l ∧ vs = [] ∧ H l = some (.lst xs) ∧ Q .non (upd H l (.lst []))
/-! ### list + list, list += list, list * int -/
def rCat : R2 := fun x y H Q => ∃ l b xs zs, x = .ref l ∧ y = .ref b ∧ H l = some (.lst xs) ∧ H b = some (.lst zs) ∧ xs.length + zs.length ≤ sizeLine ∧ ∀ p, H p = none → Q (.ref p) (upd H p (.lst (xs ++ zs)))
theorem op_cat : OpR X (binaryOp .Add) rCat := by
  intro pins s σ H x y v u Q I rx ry h
  obtain ⟨l, b, xs, zs, rfl, rfl, hH, hB, hz, q⟩ := h
  cases rx
  cases ry
  obtain ⟨z, its, n, r, hl, e⟩ := I.lstM hH
  obtain ⟨z2, its2, n2, r2, hl2, e2⟩ := I.lstM hB
  refine PySem.P.add_list e e2 ?_ (by rw [List.size_toArray, List.size_toArray]; omega)
  have ea : its.toArray ++ its2.toArray = (its ++ its2).toArray := by simp
  rw [ea]
  exact ⟨.ref _, _, I.lnew (t' := s.toks) (r.append r2) (by rw [List.length_append]; omega), rfl, q _ I.fresh⟩
/-- a list times an int (a negative one is nothing) -/
def rRep : R2 := fun x y H Q => ∃ l k xs, x = .ref l ∧ y = .int k ∧ H l = some (.lst xs) ∧ -(2 ^ 63) ≤ k ∧ k < 2 ^ 63 ∧ xs.length * k.toNat ≤ sizeLine ∧
  ∀ p, H p = none → Q (.ref p) (upd H p (.lst (List.replicate k.toNat xs).flatten))
/-! ### del xs[i] -/
end

/-! ### xs[a:b] = ys -/
section
variable {prog : Program} {w : World} {A : Around} {E : Value → Shared → Prop} {s : Shared}
set_option maxRecDepth 100000 in
end

section
variable {X : Cx}
end
end L2

namespace Att
open PySem PySem.W PySem.Calls PyProof.Rows

/-! ### the script -/
theorem ints_of_wellAll {P : Params} {h : Heap} : ∀ (ns : List Int) (vs : List Value), WellAll P h vs (ns.map WData.int) → IntsAre vs ns := by
  intro ns
  induction ns with
  | nil =>
    intro vs w
    rw [List.map_nil] at w
    cases w
    exact .nil
  | cons n ns ih =>
    intro vs w
    rw [List.map_cons] at w
    cases w with
    | cons a b =>
      cases a
      exact .cons _ _ (ih _ b)

theorem script_of {l : OpenLaw} {n : Nat} (hn : l.most = some n) {P : Params} {h : Heap} {args : List WData} {vals : List Value}
    (hpre : l.row.toRowW.claim.pre args = true) (hwl : WellAll P h vals args) :
    ∃ a vs ns, vals = [Value.ref a] ∧ args = [WData.list (ns.map WData.int)] ∧ h.get? a = some { cls := .type "list", data := .seq vs.toArray } ∧ IntsAre vs ns ∧ ns.length ≤ n := by
  have hsh : WShape.hasAll [] args [.list .int] = true := (pre_splitW hpre).1
  have hc : l.pre.holds [] { args := args } = true := (pre_splitW hpre).2
  obtain ⟨d, r, rfl, h1, h2⟩ := hasAllW_cons hsh
  obtain rfl := hasAllW_nil h2
  obtain ⟨xs, rfl, h3⟩ := hasW_list h1
  obtain ⟨ns, rfl⟩ := items_int h3
  have hlen : ns.length ≤ n := by
    unfold OpenLaw.pre at hc
    have h4 : (WTm.not (.lt (.lit (.int (n : Int))) (.len (.arg 0)))).holds [] { args := [.list (ns.map .int)] } = true := by
      have h4 := (holds_andW hc).1
      rw [hn] at h4
      exact h4
    have h5 := condW_of h4 (w_not (w_lt w_lit (w_len_list (w_arg rfl))))
    rw [List.length_map] at h5
    refine Nat.le_of_not_lt fun q => ?_
    have q' : (n : Int) < ((ns.length : Nat) : Int) := by omega
    first
      | (rw [decide_eq_true q'] at h5; exact absurd h5 (by decide))
      | (simp at h5; omega)
  cases hwl with
  | cons w1 w2 =>
    cases w2
    cases w1 with
    | list ho hall => exact ⟨_, _, ns, rfl, rfl, ho, ints_of_wellAll ns _ hall, hlen⟩

theorem post_true (l : OpenLaw) (args : List WData) : l.row.toRowW.claim.post args (.bool true) args = true :=
  postW_of (r := l.row.toRowW) (X := (true == true))
    (show WShape.has [] (.bool true) .bool = true by first | rfl | decide | simp [WShape.has, WShape.arms, WShape.armsAll])
    (show (WTm.eq .res (.lit (.bool true))).value [] { args := args, res := some (.bool true), after := args } = some (.bool (true == true)) from w_eq_bool (w_res rfl) w_lit) rfl

/-! ### the attachment: holds_open's last premise (the goal 'hc' behind k_head) from a wpAny of the law's body -/
/-- the same from a codeAny of the CALL (for a layer whose function contracts speak of calls) -/
theorem attach_call {l : OpenLaw} {n : Nat} {q : Program} {loose : List Str} {XP : (Str → Option Value) → Heap → Prop} {YP : World → Heap → Prop} {d : DefRec}
    (hn : l.most = some n) (hdf : d.params.defaults = [])
    (call : ∀ (w : World) (s₀ s₁ : Shared) (mg mb : Str → Option Value) (fa : Addr) (o : Obj) (pm cd doc : Value) (a : Addr) (vs : List Value) (ns : List Int),
      Ground q loose [] XP w s₀ mg mb s₁.heap → YP w s₁.heap →
      s₁.heap.get? fa = some o → o.data = .func (docDef d.name d.params d.body d.scope pm cd doc) → s₁.heap.CodeRec cd d.name → mg d.name = some (.ref fa) →
      s₁.heap.get? a = some { cls := .type "list", data := .seq vs.toArray } → IntsAre vs ns → ns.length ≤ n → s₁.gens = #[] →
      codeAny (model l.prog w) callerA (.call (.ref fa) ⟨[.ref a], []⟩) (fun r s' => r = .ok (.ret (.bool true)) ∧ OldK s₁.heap s'.heap ∧ s'.os = s₁.os ∧ AllBare s'.gens) s₁) :
    WalkO q loose XP YP l.row.toRowW d [] (fun f vs => PySem.call f vs) := by
  intro w s₀ s₁ mg mb G Y fa o pm cd doc dV kV ho hd hcd hD hmg hg args vals as hpre hlay hrd hwl hlo
  obtain rfl : dV = .none := Dflts.none hD hdf
  obtain rfl : kV = .none := Dflts.noKw hD
  obtain ⟨a, vs, ns, rfl, rfl, hobj, hints, hlen⟩ := script_of hn hpre hwl
  refine enter_call (codeAny_mono (call w s₀ s₁ mg mb fa o pm cd doc a vs ns G Y ho (fd_plain hd) hcd hmg hobj hints hlen hg) fun r s' hq => ?_)
  obtain ⟨rfl, h2, h3, h4⟩ := hq
  exact ⟨.inl ⟨.bool true, .bool true, [], rfl, fun _ => rfl, .bool true, post_true l _, fun _ => ⟨List.Pairwise.nil, fun _ hm => (nomatch hm)⟩⟩, h2, h3, h4⟩

/-! ### rules over ANY heap (no ledger) from facts about the written part K: the library's own take a ledger (News) for what they write -/
section
variable {prog : Program} {w : World} {A : Around} {E : Value → Shared → Prop} {s : Shared} {K : Frag}

/-! the whole heap as the ledger: makes every rule that writes through a ledger a rule over any heap -/
def noObjs (h : Heap) : Heap := { h with objs := #[] }
def ledger (h : Heap) (L d : Addr) : List (Addr × Obj) := (List.range h.objs.size).filterMap fun a => if a = L ∨ a = d then none else (h.get? a).map fun o => (a, o)
end
end Att

namespace L2
open PySem PySem.Spec PyProof.Rows

theorem vals_ints : ∀ {vs : List Value} {ns : List Int}, IntsAre vs ns → Vals (ns.map V.int) vs
  | _, _, .nil => .nil
  | _, _, .cons n t h => .cons ⟨t, rfl⟩ (vals_ints h)

/-- nothing is tracked but the script, known to the object (or it is an object of the module) -/
def Only (H : Hp) : Prop := ∀ b, H b = none ∨ ∃ o xs, H b = some (.frz o (.lst xs))

/-- THE HEAD: the law's promise, at the heap behind the top. F, the promise of the law's def, may use that base is part of the heap (so K.In base, base.Ns mainGlobals mg stand in Mod) -/
theorem law_call {P : Program} {w : World} {K : PySem.W.Frag} {mg mb : Str → Option Value} {CX : CXT} {k : Nat} {fa a : Addr} {fd : FuncData} {x : Str} {sp : Sp} {s₁ : Shared} {vs : List Value} {ns : List Int}
    (KX : K.In s₁.heap) (hns : s₁.heap.Ns mainGlobals mg) (hb : s₁.heap.Ns builtinsNs mb) (hbb : ∀ x : Str, x ≠ "__name__" → mb x = bootBuiltins x) (hlim : s₁.heap.NoLimit) (hg : s₁.gens = #[])
    (ha : s₁.heap.get? a = some { cls := .type "list", data := .seq vs.toArray }) (hi : IntsAre vs ns) (hl : ns.length ≤ sizeLine) (hr : Room k callerA)
    (F : ∀ base : Heap, K.In base → base.Ns mainGlobals mg → FnOk P w K mg base CX k fa fd [x] sp) (hbind : ∀ (s : Shared) (u : Value), BindsTo s fd ⟨[u], []⟩ [(x, u)])
    (hsp : ∀ H : Hp, Only H → SqL K H a (ns.map V.int) → sp [.ref a] H (fun v _ => v = .bl true) fun _ _ _ => False)
    (hCX : ∀ H e s', CX [] H s₁ (fun _ _ _ => False) e s' → False) :
    codeAny (model P w) callerA (.call (.ref fa) ⟨[.ref a], []⟩) (fun r s' => r = .ok (.ret (.bool true)) ∧ OldK s₁.heap s'.heap ∧ s'.os = s₁.os ∧ AllBare s'.gens) s₁ := by
  have rv := vals_ints hi
  have lenV := hi.length
  -- from an abstract heap in which nothing but the script may be tracked
  have core : ∀ H : Hp, Only H → SqL K H a (ns.map V.int) → HOk P w H s₁.heap → (∀ b, H b ≠ none → b = a) → (H a ≠ none → K.lookup a = none) →
      codeAny (model P w) callerA (.call (.ref fa) ⟨[.ref a], []⟩) (fun r s' => r = .ok (.ret (.bool true)) ∧ OldK s₁.heap s'.heap ∧ s'.os = s₁.os ∧ AllBare s'.gens) s₁ := by
    intro H hO hS hok hA hK
    have base_of : ∀ {b : Addr} {o : Obj}, s₁.heap.get? b = some o → H b = none → (hidT s₁.heap H).get? b = some o := fun e n => hidT_get e n
    have noA : ∀ {b : Addr} {o : Obj} {es : Array DictEntry} {ep : Nat}, s₁.heap.get? b = some o → o.data = .dict es ep → H b = none := fun {b o es ep} e d => by
      cases q : H b with
      | none => rfl
      | some u =>
        have e' : b = a := hA b (by rw [q]; simp)
        subst e'
        rw [ha] at e; cases e
        have d' : Data.seq vs.toArray _ = Data.dict es ep := d
        cases d'
    have nsK : ∀ {b : Addr} {m : Str → Option Value}, s₁.heap.Ns b m → (hidT s₁.heap H).Ns b m := fun {b m} ⟨o, es, ep, e, d, r⟩ => ⟨o, es, ep, base_of e (noA e d), d, r⟩
    have hKb : K.In (hidT s₁.heap H) := fun b o e => base_of (KX b o e) (by
      cases q : H b with
      | none => rfl
      | some u =>
        have e' : b = a := hA b (by rw [q]; simp)
        subst e'
        rw [hK (by rw [q]; simp)] at e; cases e)
    have hM : Mod K mg (hidT s₁.heap H) := ⟨hKb, nsK hns, ⟨mb, nsK hb, hbb⟩, let ⟨mc, h1, h2⟩ := hlim; ⟨mc, nsK h1, h2⟩⟩
    have e0 : Env0 P w K mg (hidT s₁.heap H) callerA [] s₁ H := ⟨rfl, hM, fun b o e => of_hidT e, Nat.le_of_eq (hidT_size _ _), trivial, fun b hb => absurd (show b ∈ ([] : List Addr) from hb) (by simp), hok, .of_eq hg⟩
    refine codeAny_mono ((F _ hKb (nsK hns)).run callerA [] s₁ H ⟨[.ref a], []⟩ [.ref a] [.ref a] _ _ hr e0 (hbind s₁ (.ref a)) (.cons rfl .nil) (hsp H hO hS)) fun r s' h => ?_
    cases r with
    | error e => exact (hCX H e s' h).elim
    | ok fl =>
      cases fl with
      | next => exact False.elim h
      | brk => exact False.elim h
      | cont => exact False.elim h
      | ret u =>
        obtain ⟨v, H', os, bare, un, hok', r', q⟩ := h
        have q' : v = .bl true := q
        subst q'
        obtain rfl : u = Value.bool true := r'
        refine ⟨rfl, OldK.of_keep fun b o e => ?_, os, bare⟩
        cases q : H b with
        | none => exact un.keep b o e q (by intro z; exact absurd (show b ∈ ([] : List Addr) from z) (by simp)) (by simp)
        | some u =>
          rcases hO b with z | ⟨ob, xs, z⟩
          · rw [q] at z; cases z
          · have z2 := un.frzs b ob _ z
            obtain ⟨e1, _⟩ := hok b _ z
            obtain ⟨e2, _⟩ := hok' b _ z2
            rw [e] at e1; cases e1
            exact e2
  cases hk : K.lookup a with
  | some o =>
    -- the script is one of the module's own objects
    have e := KX a o hk
    rw [ha] at e
    cases e
    refine core (fun _ => none) (fun _ => .inl rfl) (.inr ⟨_, vs.toArray, _, hk, rfl, rfl, rfl, by rw [List.size_toArray, lenV]; exact hl, by simpa using rv⟩) (fun b u z => by have z' : (none : Option HO) = some u := z; cases z') (fun b z => absurd rfl z) fun z => absurd rfl z
  | none =>
    refine core (fun b => if b = a then some (.frz { cls := .type "list", data := .seq vs.toArray } (.lst (ns.map V.int))) else none) (fun b => ?_) (.inl (.inr ⟨{ cls := .type "list", data := .seq vs.toArray }, if_pos rfl⟩)) (fun b u z => ?_) (fun b z => ?_) fun _ => hk
    · by_cases hb : b = a
      · exact .inr ⟨_, _, if_pos hb⟩
      · exact .inl (if_neg hb)
    · by_cases hb : b = a
      · have z' := (if_pos hb).symm.trans z
        cases z'
        subst hb
        exact ⟨ha, by rw [List.length_map]; exact hl, vs, _, rv, ha⟩
      · have z' := (if_neg hb).symm.trans z
        cases z'
    · by_cases hb : b = a
      · exact hb
      · exact absurd (if_neg hb) z
end L2

namespace L2
open PySem PySem.Spec PyProof.Rows

abbrev KOf {K : PySem.W.Frag} {h : Heap} (_ : K.In h) : PySem.W.Frag := K

/-- the goal that k_head leaves (case hc), from the law's promise. F gives the function object fd (K's own) once, then the promise over every base -/
theorem walk_of {l : PySem.W.OpenLaw} {n k : Nat} {q : Program} {loose : List Str} {XP : (Str → Option Value) → Heap → Prop} {YP : World → Heap → Prop} {d : DefRec} {K : Params → PySem.W.Frag} {CX : World → CXT} {sp : World → Sp} {x : Str}
    (hn : l.most = some n) (hn2 : n ≤ sizeLine) (hdf : d.params.defaults = []) (hr : Room k callerA)
    (hY : ∀ (w : World) (h : Heap), YP w h → (K w.params).In h)
    (F : ∀ (w : World) (mg : Str → Option Value) (fa : Addr) (h : Heap), (K w.params).In h → h.Ns mainGlobals mg → mg d.name = some (.ref fa) →
      ∃ fd : FuncData, (∀ (s : Shared) (u : Value), BindsTo s fd ⟨[u], []⟩ [(x, u)]) ∧
        ∀ base : Heap, (K w.params).In base → base.Ns mainGlobals mg → FnOk l.prog w (K w.params) mg base (CX w) k fa fd [x] (sp w))
    (hsp : ∀ (w : World) (H : Hp) (a : Addr) (ns : List Int), ns.length ≤ n → Only H → SqL (K w.params) H a (ns.map V.int) → sp w [.ref a] H (fun v _ => v = .bl true) fun _ _ _ => False)
    (hCX : ∀ (w : World) (H : Hp) (s : Shared) (e : Value) (s' : Shared), CX w [] H s (fun _ _ _ => False) e s' → False) :
    PySem.W.WalkO q loose XP YP l.row.toRowW d [] (fun f vs => PySem.call f vs) := by
  refine Att.attach_call hn hdf fun w s₀ s₁ mg mb fa o pm cd doc a vs ns G Y ho hd hcd hmg hobj hints hlen hg => ?_
  have KX := hY w _ Y
  obtain ⟨fd, hb, hF⟩ := F w mg fa _ KX G.T.g hmg
  exact law_call KX G.T.g G.T.b G.T.builtins G.T.nolimit hg hobj hints (Nat.le_trans hlen hn2) hr hF hb (fun H hO hS => hsp w H a ns hlen hO hS) fun H e s' => hCX w H s₁ e s'
end L2

/- THE LAST THEOREM (shape; LID, My.* are yours):
   My.Adr: a structure of the addresses that your layer names (classes, functions); My.Txt K t: a structure (Prop) of the equations over K;
   My.txt_mk : {K} {implicit addresses ..} (e1 : nsIn K mainGlobals "law" = some (some (.ref f))) (e2 : K.lookup f = some ⟨oc, od, .func (fnOf "law" "law" params body scope dV kV doc pm an cdv ct), sl⟩) (e3 : codeIn K cdv "law" = true) .. : ∃ t, My.Txt K t

set_option maxRecDepth 100000 in
set_option maxHeartbeats 0 in
theorem PySem.Challenge.cw_LID_holds : PySem.Challenge.rw_LID.Holds := by
  w_on; o_law; k_head; (case hw => w_witness2)
  k_fill
  refine L2.walk_of (l := PySem.Challenge.rw_LID) (n := 63) (k := 40) (x := "script") (CX := fun w => ..) (sp := fun _ => My.sp_law) rfl (by decide) rfl ⟨rfl, by decide, by decide⟩ (fun w h Y => PySem.W.kIn_of Y) ?F ?S ?C
  case F =>
    intro w mg fa h KX G hmg
    have T : ∃ t, My.Txt (L2.KOf KX) t := by
      dsimp only [L2.KOf]                          -- K must stand as «<heap const> w.params» for k_is
      refine' My.txt_mk ?e1 ?e2 ?e3 ..
      (case e1 => PySem.W.k_is)                    -- in the order: a name -> its address -> its object -> its parts
      (case e2 => PySem.W.k_is)
      ..
    obtain ⟨t, T⟩ := T
    have e0 := hmg.symm.trans (PySem.W.mg_of KX G T.law)
    cases e0                                       -- fa is the law's own address
    exact ⟨_, fun s u => .of_eq rfl, fun base kb nb => My.law_fn T kb nb⟩     -- if «.of_eq rfl» comes too early: refine' ⟨_, ?b, fun base kb nb => My.law_fn T kb nb⟩; exact fun s u => .of_eq rfl
  case S => exact fun w H a ns hl hO hS => ..
  case C => exact ..
(the tactic k_is has no namespace: write k_is) -/

/-! SHORT WORDS over the layer: a def of the text, its body, what a loop and a test want. -/
namespace L2
open PySem PySem.Spec PyProof.Rows

/-! ### the text by places -/
/-- the j-th statement of a class's body -/
def inClass (s : Stmt) (j : Nat) : Stmt := match s with
  | .ClassDef _ _ _ body _ _ _ _ _ _ _ => body.getD j (.Pass ⟨0, 0, 0, 0⟩)
  | _ => .Pass ⟨0, 0, 0, 0⟩
def defArgs (s : Stmt) : Arguments := match s with
  | .FunctionDef _ a _ _ _ _ _ _ _ _ => a
  | _ => { posonlyargs := [], args := [], vararg := none, kwonlyargs := [], kw_defaults := [], kwarg := none, defaults := [] }
def defBody (s : Stmt) : List Stmt := match s with
  | .FunctionDef _ _ b _ _ _ _ _ _ _ => b
  | _ => []
def defScope (s : Stmt) : Scope := match s with
  | .FunctionDef _ _ _ _ _ _ sc _ _ _ => sc
  | _ => { kind := .function, names := [], isGenerator := false, isCoroutine := false }

/-! ### no exception leaves a def -/
abbrev CX0 : CXT := fun _ _ _ _ _ _ => False
abbrev E0 : XK := fun _ _ _ => False
theorem pass0 {X : Cx} : Passes CX0 X E0 := fun _ _ _ _ _ _ _ h => h.elim

/-! ### a def (or method) of the text as it stands behind the top -/
structure Fun (K : PySem.W.Frag) (x qual : Str) (st : Stmt) (f : Addr) (fd : FuncData) : Prop where
  ex : ∃ (oc : Value) (od : Option Addr) (kV doc pm : Value) (an : Option Addr) (cdv ct : Value) (osl : Array (Option Value)),
    fd = PySem.W.fnOf x qual (defArgs st) (defBody st) (defScope st) .none kV doc pm an cdv ct ∧ K.lookup f = some ⟨oc, od, .func fd, osl⟩ ∧ PySem.W.codeIn K cdv qual = true
  kp : PySem.W.keepIn K (.ref f) = true
section
variable {P : Program} {w : World} {K : PySem.W.Frag} {mg : Str → Option Value} {base : Heap}
end
theorem hu_of {A : Around} {k : Nat} (hr : Room k A) : A.units + 1 < cLine := Nat.lt_of_le_of_lt (Nat.add_le_add_left (by decide : 1 ≤ 64) _) hr.units
theorem small1000 {n : Nat} (h : n ≤ 1000) : n < sizeLine := Nat.lt_of_le_of_lt h (by decide)

/-! ### expressions in short: the name that stands in the i-th slot -/
section
variable {X : Cx}
theorem pv (i : Nat) {x : Str} {pos : Pos} (hN : X.N[i]? = some x := by rfl) (hv : Vis X.env.scope x := by first | exact Or.inl rfl | exact Or.inr (Or.inl rfl) | exact Or.inr (Or.inr rfl)) (hd : (x == ("__debug__" : Str)) = false := by decide)
    (hcd : (x == ("__classdict__" : Str)) = false := by decide) : PE X (.Name x pos) (tVar i) := pe_var hN hv hd hcd
end

/-! ### tests -/
theorem iteF {A B : Prop} (h : B) : if false = true then A else B := by
  rw [if_neg Bool.false_ne_true]
  exact h
theorem iteT {A B : Prop} (h : A) : if true = true then A else B := by
  rw [if_pos rfl]
  exact h
theorem ite2 {c A B : Prop} [Decidable c] (h1 : c → A) (h2 : ¬ c → B) : if c then A else B := by
  by_cases h : c
  · rw [if_pos h]
    exact h1 h
  · rw [if_neg h]
    exact h2 h
/-! ### heaps -/
/-- all that was tracked is as it was -/
def Same (H H' : Hp) : Prop := ∀ b o, H b = some o → H' b = some o
theorem Same.refl (H : Hp) : Same H H := fun _ _ h => h
theorem Same.trans {H H1 H2 : Hp} (a : Same H H1) (b : Same H1 H2) : Same H H2 := fun c o h => b c o (a c o h)
theorem Same.free {H H' : Hp} (e : Same H H') {l : Addr} (h : H' l = Option.none) : H l = Option.none := by
  cases q : H l with
  | none => rfl
  | some o =>
    rw [e l o q] at h
    cases h
theorem Same.seq {K : PySem.W.Frag} {H H' : Hp} {a : Addr} {xs : List V} (e : Same H H') (h : SqL K H a xs) : SqL K H' a xs := by
  rcases h with (h | ⟨o, h⟩) | h
  · exact .inl (.inl (e _ _ h))
  · exact .inl (.inr ⟨o, e _ _ h⟩)
  · exact .inr h

end L2

set_option Elab.async false
set_option linter.all false
set_option maxRecDepth 100000
set_option maxHeartbeats 1000000
namespace L2
open PySem PySem.Spec PyProof.Rows
section
variable {X : Cx}

/-! isinstance of one class -/
/-! numbers of many bits -/
def Bt (n : Nat) (i : Int) : Prop := i.natAbs < 2 ^ n
theorem intBits_of {n : Nat} {i : Int} (h : Bt n i) : Builtin.Int.intBits i ≤ n := by
  unfold Builtin.Int.intBits
  split
  · exact Nat.zero_le _
  · rename_i h0
    have hp : i.natAbs ≠ 0 := by
      intro z
      apply h0
      simp at z ⊢
      exact z
    have : i.natAbs.log2 < n := (Nat.log2_lt hp).mpr h
    omega
def CBig (i j : Int) : Prop := ∃ n m, Bt n i ∧ Bt m j ∧ n ≤ 1048576 ∧ m ≤ 1048576
theorem CBig.ok {i j : Int} (h : CBig i j) : IntMulOk i j := by
  obtain ⟨n, m, h1, h2, h3, h4⟩ := h
  have e : (2 : Nat) ^ 20 = 1048576 := by decide
  exact IntMulOk.of_bits (by have := intBits_of h1; omega) (by have := intBits_of h2; omega)
theorem op_mulB : OpR X (binaryOp .Mult) (rI CBig fun i j => .int (i * j)) := opI fun _ _ _ _ _ _ _ hc q => mul_int q hc.ok
def CDivB (i j : Int) : Prop := j ≠ 0 ∧ ∃ n, Bt n j ∧ n ≤ 9000
theorem CDivB.ok {i j : Int} (h : CDivB i j) : Builtin.divisionGoesByPylong i j = false := by
  obtain ⟨h0, n, h1, h2⟩ := h
  refine PyProof.noPylong_of_log2 ?_
  have hp : j.natAbs ≠ 0 := by omega
  have : j.natAbs.log2 < n := (Nat.log2_lt hp).mpr h1
  omega
theorem op_fdivB : OpR X (binaryOp .FloorDiv) (rI CDivB fun i j => .int (i.fdiv j)) := opI fun _ _ _ _ _ _ _ hc q => floordiv_int hc.1 q (.inl hc.ok)

/-! plain data, deep -/
mutual
inductive DatV (K : PySem.W.Frag) (H : Hp) : V → PyData → Prop where
  | non : DatV K H .non .none
  | bl (b : Bool) : DatV K H (.bl b) (.bool b)
  | int (i : Int) : DatV K H (.int i) (.int i)
  | str (x : Str) : DatV K H (.str x) (.str x)
  | lst {a : Addr} {xs : List V} {ds : List PyData} (h : SqL K H a xs) (q : DatVs K H xs ds) : DatV K H (.ref a) (.list ds)
  | tup {a : Addr} {xs : List V} {ds : List PyData} (h : SqT K H a xs) (q : DatVs K H xs ds) : DatV K H (.ref a) (.tuple ds)
inductive DatVs (K : PySem.W.Frag) (H : Hp) : List V → List PyData → Prop where
  | nil : DatVs K H [] []
  | cons {x : V} {d : PyData} {xs : List V} {ds : List PyData} (p : DatV K H x d) (q : DatVs K H xs ds) : DatVs K H (x :: xs) (d :: ds)
end
theorem datV_reads {pins : List (Addr × Obj)} {s : Shared} {σ : St} {H : Hp} (I : Inv X pins σ H s) : ∀ {x : V} {d : PyData}, DatV X.K H x d → ∀ {u : Value}, RelV x u → ∃ as, Reads s.heap u d as := by
  intro x d h
  induction h using DatV.rec (motive_2 := fun xs ds _ => ∀ {us : List Value}, Vals xs us → ∃ as, ReadsAll s.heap us ds as) with
  | non => intro u r; cases (show u = Value.none from r); exact ⟨_, .none⟩
  | bl b => intro u r; cases (show u = Value.bool b from r); exact ⟨_, .bool b⟩
  | int i => intro u r; obtain ⟨t, rfl⟩ := (show ∃ t, u = Value.int i t from r); exact ⟨_, .int i t⟩
  | str y => intro u r; obtain ⟨t, rfl⟩ := (show ∃ t, u = Value.str y t from r); exact ⟨_, .str y t⟩
  | lst h q ih =>
    intro u r
    cases (show u = Value.ref _ from r)
    obtain ⟨its, rv, pl, _⟩ := I.list h
    obtain ⟨as, ra⟩ := ih rv
    obtain ⟨o, h1, h2, n, h3⟩ := pl.isList
    exact ⟨_, .list h1 h2 h3 (by simpa using ra)⟩
  | tup h q ih =>
    intro u r
    cases (show u = Value.ref _ from r)
    obtain ⟨its, rv, pl, _⟩ := I.tuple h
    obtain ⟨as, ra⟩ := ih rv
    obtain ⟨o, h1, h2, n, h3⟩ := pl
    exact ⟨_, .tuple h1 h2 h3 (by simpa using ra)⟩
  | nil => rename_i us r; cases r; exact ⟨_, .nil⟩
  | cons p q ih1 ih2 =>
    rename_i us r
    cases r with
    | cons r1 r2 =>
      obtain ⟨as, h1⟩ := ih1 r1
      obtain ⟨bs, h2⟩ := ih2 r2
      exact ⟨_, .cons h1 h2⟩
def rDat (K : PySem.W.Frag) (neg : Bool) : R2 := fun x y H Q => ∃ d e, DatV K H x d ∧ DatV K H y e ∧ d.canLay0 = true ∧ e.canLay0 = true ∧ min d.depth e.depth ≤ 16 ∧ Q (.bl (if neg then !PyData.eqv d e else PyData.eqv d e)) H
theorem op_eqD (hu : X.A.units + 64 < cLine) : OpR X (compareOp .Eq) (rDat X.K false) := by
  intro pins s σ H x y v u Q I rx ry h
  obtain ⟨d, e, h1, h2, c1, c2, hm, q⟩ := h
  obtain ⟨as, r1⟩ := datV_reads I h1 rx
  obtain ⟨bs, r2⟩ := datV_reads I h2 ry
  exact PySem.SeqAt.compareEq_reads r1 r2 c1 c2 (by omega) ⟨.bl (PyData.eqv d e), H, I, rfl, q⟩
theorem op_neD (hu : X.A.units + 64 < cLine) : OpR X (compareOp .NotEq) (rDat X.K true) := by
  intro pins s σ H x y v u Q I rx ry h
  obtain ⟨d, e, h1, h2, c1, c2, hm, q⟩ := h
  obtain ⟨as, r1⟩ := datV_reads I h1 rx
  obtain ⟨bs, r2⟩ := datV_reads I h2 ry
  exact PySem.SeqAt.compareNe_reads r1 r2 c1 c2 (by omega) ⟨.bl (!PyData.eqv d e), H, I, rfl, q⟩
end
end L2

set_option Elab.async false
set_option linter.all false
set_option maxRecDepth 100000
set_option maxHeartbeats 2000000
namespace L2
open PySem PySem.Spec PyProof.Rows

/-! ### list comprehensions -/
section
variable {prog : Program} {w : World} {A : Around} {R : Result → Shared → Prop} {s : Shared}
abbrev tests (ifs : List Expr) (env : Env) : Sem Bool := forIn ifs true fun c r => if r = true then do let ok ← isTrue c env (eval c env); pure (ForInStep.yield ok) else pure (ForInStep.yield r)
theorem comp_loop {elt target iter : Expr} {ifs : List Expr} {scope : Scope} {pos : Pos} {it acc : Value} {env : Env} (I : Nat → Shared → Prop)
    (turn : ∀ n s, I n s → wpAny (model prog w) A (pyNext it) (fun r s₁ => match r with
      | none => R (.ok .next) s₁
      | some v => wpAny (model prog w) A (letOwnedTupleGo target it v) (fun _ s₀ => wpAny (model prog w) A (assign target env v) (fun _ s₂ =>
          wpAny (model prog w) A (tests ifs env) (fun ok s₃ =>
            if ok = true then wpAny (model prog w) A (eval elt env) (fun x s₄ =>
              wpAny (model prog w) A (call (.builtin "list.append") [acc, x]) (fun _ s₅ => ∃ m, m < n ∧ I m s₅) (fun _ _ => False) s₄) (fun _ _ => False) s₃
            else ∃ m, m < n ∧ I m s₃) (fun _ _ => False) s₂) (fun _ _ => False) s₀) (fun _ _ => False) s₁) (fun _ _ => False) s)
    (n : Nat) (h : I n s) :
    codeAny (model prog w) A (.compLoop (.ListComp elt [⟨target, iter, ifs, 0⟩] scope pos) 0 it acc env) R s := by
  refine codeAny_loop rfl I (fun n s hI => ?_) n h
  show wpAny _ A ((compTurn (.ListComp elt [⟨target, iter, ifs, 0⟩] scope pos) 0 it acc env).onRaise (fun x => do noteFrame x env; theTreesLotGoes x)) _ _ s
  refine wpAny_noted ?_
  rw [compTurn_list]
  refine wpAny_bind (wpAny_standAt (wpAny_bind (wpAny_mono (turn n s hI) (fun r s₁ h₁ => ?_) fun _ _ z => z.elim)))
  cases r with
  | none => exact wpAny_pure h₁
  | some v =>
    refine wpAny_bind (wpAny_mono h₁ (fun _ s₀ h₀ => ?_) fun _ _ z => z.elim)
    refine wpAny_bind (wpAny_mono h₀ (fun _ s₂ h₂ => wpAny_bind (wpAny_mono h₂ (fun ok s₃ h₃ => ?_) fun _ _ z => z.elim)) fun _ _ z => z.elim)
    cases ok with
    | false => exact wpAny_pure ⟨rfl, h₃⟩
    | true =>
      rw [if_pos rfl] at h₃
      show wpAny _ _ ((do let _ ← call (.builtin "list.append") [acc, ← eval elt env]) >>= fun _ => again (.compLoop (.ListComp elt [⟨target, iter, ifs, 0⟩] scope pos) 0 it acc env)) _ _ _
      exact wpAny_bind (wpAny_bind (wpAny_mono h₃ (fun x s₄ h₄ => wpAny_bind (wpAny_mono h₄ (fun _ s₅ h₅ => wpAny_pure (wpAny_pure ⟨rfl, h₅⟩)) fun _ _ z => z.elim)) fun _ _ z => z.elim))
end

/-- a comprehension's names: its own first (nl of them), then those of the def around it that it reads, at the slots fr there -/
structure CompOk (X : Cx) (scope : Scope) (cl : List (Str × Addr)) (Nc : List Str) (nl : Nat) (fr : List Nat) : Prop where
  clos : closureFor scope X.env = pure cl
  kind : scope.kind = .function
  names : ∀ y ∈ scope.names, y.2 = .local → scope.names.lookup y.1 = some .local
  cell : ∀ y ∈ scope.names, y.2 ≠ .cell
  sub : ∀ x c, cl.lookup x = some c → X.env.cells.lookup x = some c
  has : ∀ x, (relabel scope X.env).names.lookup x = some .cell ∨ (relabel scope X.env).names.lookup x = some .free → ∃ c, cl.lookup x = some c
  len : Nc.length = nl + fr.length
  tail : ∀ i n, Nc[nl + i]? = some n → ∃ j, fr[i]? = some j ∧ X.N[j]? = some n ∧ X.env.kindOf n = some .cell ∧ cl.lookup n = X.env.cells.lookup n ∧ ((relabel scope X.env).names.lookup n = some .cell ∨ (relabel scope X.env).names.lookup n = some .free)
abbrev compCx (X : Cx) (scope : Scope) (cl : List (Str × Addr)) (Nc : List Str) (C : Addr) (s3 : Shared) (H3 : Hp) (fp : List Addr) (pins : List (Addr × Obj)) : Cx :=
  { X with N := Nc, s₀ := s3, H₀ := H3, env := compEnvC scope cl C X.env, outer := X.stack, ex := fp, fn := fun _ => false, pn := X.pn ++ pins, xe := fun _ _ => False }
def σC (nl : Nat) (fr : List Nat) (σ : St) : St := List.replicate nl none ++ fr.map fun j => (σ[j]?).join
abbrev PIf (X : Cx) (ifs : List Expr) (t : TT) : Prop :=
  ∀ (pins : List (Addr × Obj)) (s : Shared) (σ : St) (H : Hp) (Q : Bool → Hp → Prop), Inv X pins σ H s → t σ H Q → wpAny (model X.prog X.w) X.A (tests ifs X.env) (TP X pins σ Q) X.xe s
theorem pif_nil {X : Cx} : PIf X [] (fun _ H Q => Q true H) := fun _ _ _ H _ I h => wpAny_pure ⟨H, I, h⟩
section
variable {X : Cx} {scope : Scope} {cl : List (Str × Addr)} {Nc : List Str} {nl : Nat} {fr : List Nat} {pins : List (Addr × Obj)} {σ : St} {H3 : Hp} {s3 : Shared} {fp : List Addr} {h4 : Heap} {tk : Nat}
theorem comp_start (ck : CompOk X scope cl Nc nl fr) (I : Inv X pins σ H3 s3) (hf : ∀ b ∈ fp, FpOk X pins H3 b) (hfs : ∀ b ∈ fp, b < s3.heap.objs.size)
    (hns : h4.Ns s3.heap.objs.size fun _ => none) (hk : ∀ b o, s3.heap.get? b = some o → h4.get? b = some o) :
    Inv (compCx X scope cl Nc s3.heap.objs.size s3 H3 fp pins) [] (σC nl fr σ) H3 { s3 with heap := h4, toks := tk } := by
  have stk : ∀ b ∈ frs X.stack, b ∈ X.env.locals :: X.fs := I.stkSub
  have nfs : ∀ b, b ≠ X.env.locals → b ∉ X.fs → b ∉ frs X.stack := fun b h1 h2 z => (List.mem_cons.mp (stk b z)).elim h1 h2
  have ltc : ∀ x c, cl.lookup x = some c → c < s3.heap.objs.size := fun x c e => by
    obtain ⟨v, z⟩ := I.cell x c (ck.sub x c e)
    exact z.lt
  refine ⟨⟨I.ok.mod, ck.kind, I.ok.glob, I.ok.blt, Nat.le_refl _, fun x y c h1 h2 => I.ok.inj x y c (ck.sub x c h1) (ck.sub y c h2), fun x hx => ck.has x hx, fun x c hz => Bool.noConfusion hz, I.ok.hd, I.ok.frames, .inl rfl, fun b hb => ?_, I.bs, Nat.le_trans I.ok.bsz I.sz, fun b o e hb => ?_, fun b hb => ?_, I.stack, I.stkFree⟩,
    rfl, I.bare, Un.kept hk, ⟨_, hns, fun i x v h1 h2 h3 => ?_⟩, fun x c e => ?_, I.hok.fresh (Nat.le_refl _), fun x c e => I.freeC x c (ck.sub x c e), fun p hp => ?_, I.hok.kept hk, ?_⟩
  · obtain ⟨f0, f1, f2, f3, f4, f5⟩ := hf b hb
    exact ⟨Nat.ne_of_lt (hfs b hb), fun x c e => f4 x c (ck.sub x c e)⟩
  · obtain ⟨f0, f1, f2, f3, f4, f5⟩ := hf b hb
    rcases f3 with z | z
    · exact I.ok.noex b o e z
    · exact absurd (Nat.lt_of_lt_of_le (Heap.lt_size e) (Nat.le_trans I.ok.bsz z)) (Nat.lt_irrefl _)
  · obtain ⟨f0, f1, f2, f3, f4, f5⟩ := hf b hb
    exact nfs b f1 f2
  · -- a name's value
    unfold σC at h2
    by_cases hi : i < nl
    · rw [List.getElem?_append_left (by simpa using hi), List.getElem?_replicate] at h2
      split at h2 <;> cases h2
    · have hi' : nl ≤ i := by omega
      rw [List.getElem?_append_right (by simpa using hi'), List.length_replicate, List.getElem?_map] at h2
      obtain ⟨k, rfl⟩ : ∃ k, i = nl + k := ⟨i - nl, by omega⟩
      obtain ⟨j, e1, e2, e3, e4, e5⟩ := ck.tail k x h1
      rw [Nat.add_sub_cancel_left, e1] at h2
      have h2' : (σ[j]?).join = some v := by simpa using h2
      have h2'' : σ[j]? = some (some v) := by
        cases q : σ[j]? with
        | none => rw [q] at h2'; cases h2'
        | some z => rw [q] at h2'; exact congrArg some h2'
      obtain ⟨m, hn, hl⟩ := I.loc
      obtain ⟨u, r, l⟩ := hl j x v e2 h2'' (.inr (.inl e3))
      refine ⟨u, r, ?_⟩
      rcases l with ⟨k1, _⟩ | ⟨k1, c, ec, z⟩
      · rw [e3] at k1; cases k1
      · obtain ⟨o, ho, hd⟩ := z
        exact .inr ⟨e5, c, by show cl.lookup x = some c; rw [e4]; exact ec, o, hk _ _ ho, hd⟩
  · obtain ⟨v, o, ho, hd⟩ := I.cell x c (ck.sub x c e)
    exact ⟨v, o, hk _ _ ho, hd⟩
  · have hp' : p ∈ X.pn ++ pins := by simpa using hp
    obtain ⟨e, n, ne, nf, d⟩ := I.pin p hp'
    exact ⟨hk _ _ e, n, Nat.ne_of_lt (Heap.lt_size e), nfs _ ne nf, d⟩
  · unfold σC
    show _ = Nc.length
    rw [List.length_append, List.length_replicate, List.length_map, ck.len]
/-- behind the block -/
theorem comp_end {pins' : List (Addr × Obj)} {σ' : St} {H' : Hp} {s' : Shared} (I : Inv X pins σ H3 s3) (hf : ∀ b ∈ fp, FpOk X pins H3 b)
    (J : Inv (compCx X scope cl Nc s3.heap.objs.size s3 H3 fp pins) pins' σ' H' s') : Inv X pins σ H' s' ∧ FpOk X pins H' s3.heap.objs.size := by
  refine ⟨I.call' (ch := fp) J.os J.base J.hok J.bare fun b hb => ?_, I.fpOk (Nat.le_refl _) J.free⟩
  obtain ⟨f0, f1, f2, f3, f4, f5⟩ := hf b hb
  exact ⟨f3, f1, f4, f5⟩
theorem Inv.off {b : Addr} {H : Hp} {s : Shared} {h' : Heap} (I : Inv X pins σ H s) (f : FpOk X pins H b) (hs : Heap.SameBut b s.heap h') : Inv X pins σ H { s with heap := h' } := by
  obtain ⟨f0, f1, f2, f3, f4, f5⟩ := f
  exact I.turned (t' := s.toks) (it := b) (fun c o hb e => (hs.2 c hb).trans e) f0 f1 f3 f4 f5
end

/-- what a comprehension's walk asks, by the iterator -/
def CompW (J : It) (nl : Nat) (fr : List Nat) (g : TG) (tt : TT) (te : TE) (σ : St) (D : Addr) (H1 : Hp) (Q : VK) : Prop :=
  ∃ W : Nat → Nat → List V → Hp → Prop, (∃ m, W 0 m [] (upd H1 D (.lst []))) ∧ ∀ i m ys H2, W i m ys H2 → H2 D = some (.lst ys) ∧
    ((J.stop i H2 ∧ Q (.ref D) H2) ∨ (J.go i H2 ∧ ∀ x H3, J.yld i H2 x H3 → g x (σC nl fr σ) H3 fun σ2 H4 => σ2.length = (σC nl fr σ).length ∧ (∀ (i : Nat) v, (σC nl fr σ)[i]? = some (some v) → σ2[i]? = some (some v)) ∧
      tt σ2 H4 fun b H5 => if b = true then te σ2 H5 fun y H6 => H6 D = some (.lst ys) ∧ ys.length < sizeLine ∧ ∃ m', m' < m ∧ W (i + 1) m' (ys ++ [y]) (upd H6 D (.lst (ys ++ [y])))
        else ∃ m', m' < m ∧ W (i + 1) m' ys H5))
/-- [elt for tg in iter if ..] -/
def tComp (wi : TI) (nl : Nat) (fr : List Nat) (g : TG) (tt : TT) (te : TE) : TE := fun σ H Q => wi σ H fun J H1 => ∀ D, H1 D = none → CompW J nl fr g tt te σ D H1 Q
section
variable {X : Cx} {scope : Scope} {cl : List (Str × Addr)} {Nc : List Str} {nl : Nat} {fr : List Nat} {elt tg iter : Expr} {ifs : List Expr} {pos : Pos} {wi : TI} {g : TG} {tt : TT} {te : TE}
theorem comp_run (hc : X.calm = true) (ck : CompOk X scope cl Nc nl fr) (hi : PI X tg iter wi)
    (hg : ∀ C s3 H3 fp pins, PG (compCx X scope cl Nc C s3 H3 fp pins) tg g) (ht : ∀ C s3 H3 fp pins, PIf (compCx X scope cl Nc C s3 H3 fp pins) ifs tt) (he : ∀ C s3 H3 fp pins, PE (compCx X scope cl Nc C s3 H3 fp pins) elt te)
    {pins : List (Addr × Obj)} {s : Shared} {σ : St} {H : Hp} {Q : VK} (I : Inv X pins σ H s) (h : tComp wi nl fr g tt te σ H Q) {RR : Value → Addr → Result → Shared → Prop}
    (fin : ∀ D C s', (∃ H', (∃ m, s'.heap.Ns C m) ∧ Inv X pins σ H' s' ∧ FpOk X pins H' C ∧ Q (.ref D) H') → RR (.ref D) C (.ok .next) s') :
    wpAny (model X.prog X.w) X.A (eval iter X.env) (fun x s₁ => wpAny (model X.prog X.w) X.A (pyIter x) (fun it s₂ => wpAny (model X.prog X.w) X.A (newList []) (fun acc s₃ =>
      wpAny (model X.prog X.w) X.A (newFunctionEnv scope X.env.globals cl [] X.env.qual none .none (some X.env)) (fun cenv s₄ =>
        codeAny (model X.prog X.w) X.A (.compStart (.ListComp elt [⟨tg, iter, ifs, 0⟩] scope pos) 0 it acc { cenv with scope := relabel scope X.env }) (RR acc cenv.locals) s₄) X.xe s₃) X.xe s₂) X.xe s₁) X.xe s := by
  refine thn (hi pins s σ H _ I h) fun v s1 h1 => thn h1 fun itv s2 h2 => ?_
  obtain ⟨it, fp, tn, J, H2, e, I2, T, st2, f2, hD⟩ := h2
  subst e
  have hn2 : H2 s2.heap.objs.size = none := I2.hok.fresh (Nat.le_refl _)
  obtain ⟨W, ⟨m0, w0⟩, turn⟩ := hD s2.heap.objs.size hn2
  refine wpAny_newObj_type (wpAny_newFunctionEnv ck.cell (by intro y hy; simp at hy) (fun h4 hns hsb => ?_) ck.kind)
  dsimp only at hns hsb ⊢
  have I3 : Inv X pins σ (upd H2 s2.heap.objs.size (.lst [])) { s2 with heap := s2.heap.push { cls := .type "list", dict := none, data := .seq ([] : List Value).toArray } } :=
    I2.laid (t' := s2.toks) (fun b u e => Heap.get?_push_of_some _ e) (Nat.le_refl _) ⟨Nat.zero_le _, [], 0, .nil, Heap.get?_push_size _ rfl⟩
  have hfs : ∀ b ∈ fp, b < s2.heap.objs.size := fun b hb => by
    obtain ⟨o, e, _⟩ := T.obj 0 _ st2 b hb
    exact Heap.lt_size e
  have f3 : ∀ b ∈ fp, FpOk X pins (upd H2 s2.heap.objs.size (.lst [])) b := fun b hb => ⟨by rw [upd_ne (Nat.ne_of_lt (hfs b hb))]; exact (f2 b hb).1, (f2 b hb).2⟩
  generalize hH3 : upd H2 s2.heap.objs.size (.lst []) = H3 at *
  generalize hs3 : ({ s2 with heap := s2.heap.push { cls := .type "list", dict := none, data := .seq ([] : List Value).toArray } } : Shared) = s3 at *
  have z3 : s3.heap = s2.heap.push { cls := .type "list", dict := none, data := .seq ([] : List Value).toArray } := by rw [← hs3]
  have hsz3 : s3.heap.objs.size = s2.heap.objs.size + 1 := by rw [z3, Heap.size_push]
  rw [← z3] at hns hsb ⊢
  have hk4 : ∀ b o, s3.heap.get? b = some o → h4.get? b = some o := fun b o e => hsb.extBut b o (Nat.ne_of_lt (Heap.lt_size e)) (Heap.get?_push_of_some _ e)
  have hfs3 : ∀ b ∈ fp, b < s3.heap.objs.size := fun b hb => Nat.lt_of_lt_of_le (hfs b hb) (by rw [hsz3]; exact Nat.le_succ _)
  have hns' : h4.Ns s3.heap.objs.size fun _ => none := by simpa using hns
  have K0 := fun tk => comp_start (tk := tk) ck I3 f3 hfs3 hns' hk4
  have stat : ∀ {H' : Hp}, (∀ b ∈ fp, H' b = none) → ∀ b ∈ fp, FpOk (compCx X scope cl Nc s3.heap.objs.size s3 H3 fp pins) [] H' b := fun {H'} hn b hb => by
    obtain ⟨f0, g1, g2, g3, g4, g5⟩ := f3 b hb
    refine ⟨hn b hb, Nat.ne_of_lt (hfs3 b hb), fun z => ?_, .inl hb, fun x c e => g4 x c (ck.sub x c e), fun p hp => g5 p (by simpa using hp)⟩
    exact (List.mem_cons.mp (I3.stkSub b z)).elim g1 g2
  have st4 : tn 0 h4 := T.keep 0 _ _ st2 fun b hb o e => hk4 b o (by rw [z3]; exact Heap.get?_push_of_some _ e)
  have loop : ∀ tk, codeAny (model X.prog X.w) X.A (.compLoop (.ListComp elt [⟨tg, iter, ifs, 0⟩] scope pos) 0 (.ref it) (.ref s2.heap.objs.size) (compEnvC scope cl s3.heap.objs.size X.env)) (RR (.ref s2.heap.objs.size) s3.heap.objs.size) { s3 with heap := h4, toks := tk } := by
    intro tk
    refine comp_loop (fun n s' => ∃ i ys H', Inv (compCx X scope cl Nc s3.heap.objs.size s3 H3 fp pins) [] (σC nl fr σ) H' s' ∧ tn i s'.heap ∧ (∀ b ∈ fp, H' b = none) ∧ W i n ys H') ?_ m0 ⟨0, [], H3, K0 tk, st4, fun b hb => (f3 b hb).1, w0⟩
    rintro n s5 ⟨i, ys, H5, I5, st5, fr5, w5⟩
    obtain ⟨hl5, q5⟩ := turn i n ys H5 w5
    rcases q5 with ⟨stop, qn⟩ | ⟨go, step⟩
    · refine wpAny_mono (T.done (compCx X scope cl Nc s3.heap.objs.size s3 H3 fp pins) rfl rfl rfl hc i [] s5 (σC nl fr σ) H5 (fun _ _ => False) I5 (stat fr5) st5 stop) (fun r s6 h6 => ?_) fun _ _ z => z
      obtain ⟨hr, I6⟩ := h6
      subst hr
      obtain ⟨z1, z2⟩ := comp_end I3 f3 I6
      refine fin _ _ _ ⟨H5, ?_, z1, z2, qn⟩
      obtain ⟨m, hm, _⟩ := I6.loc
      exact ⟨m, hm⟩
    · refine wpAny_mono (T.item (compCx X scope cl Nc s3.heap.objs.size s3 H3 fp pins) rfl rfl rfl hc i [] s5 (σC nl fr σ) H5 (fun _ _ => False) I5 (stat fr5) st5 go) (fun r s6 h6 => ?_) fun _ _ z => z
      obtain ⟨u, hr, h6⟩ := h6
      subst hr
      refine wpAny_mono h6 (fun _ s7 h7 => ?_) fun _ _ z => z
      obtain ⟨x, H7, I7, r7, y7, st7, fr7⟩ := h7
      have I7' := I7.pinned (stat fr7) (T.obj _ _ st7)
      refine wpAny_mono (hg s3.heap.objs.size s3 H3 fp pins _ s7 _ H7 x u _ I7' r7 (step x H7 y7)) (fun _ s8 h8 => ?_) fun _ _ z => z
      obtain ⟨σ8, H8, I8, l8, k8, q8⟩ := h8
      refine wpAny_mono (ht s3.heap.objs.size s3 H3 fp pins _ s8 σ8 H8 _ I8 q8) (fun b s9 h9 => ?_) fun _ _ z => z
      obtain ⟨H9, I9, q9⟩ := h9
      have again : ∀ {ys' : List V} {H' : Hp} {s' : Shared} {m' : Nat}, Inv (compCx X scope cl Nc s3.heap.objs.size s3 H3 fp pins) ([] ++ pinsAt fp s7.heap) σ8 H' s' → m' < n → W (i + 1) m' ys' H' →
          ∃ m, m < n ∧ ∃ i ys H', Inv (compCx X scope cl Nc s3.heap.objs.size s3 H3 fp pins) [] (σC nl fr σ) H' s' ∧ tn i s'.heap ∧ (∀ b ∈ fp, H' b = none) ∧ W i m ys H' := fun {ys' H' s' m'} I' hm w' => by
        refine ⟨m', hm, i + 1, ys', H', I'.unpinned.weak l8.symm k8, T.keep _ _ _ st7 fun b hb o e => (I'.pin (b, o) (List.mem_append_right _ (List.mem_append_right _ (mem_pinsAt hb e)))).1, fun b hb => ?_, w'⟩
        obtain ⟨o, e, d⟩ := T.obj _ _ st7 b hb
        exact (I'.pin (b, o) (List.mem_append_right _ (List.mem_append_right _ (mem_pinsAt hb e)))).2.1
      cases b with
      | false =>
        rw [if_neg Bool.false_ne_true] at q9 ⊢
        obtain ⟨m', hm, w9⟩ := q9
        exact again I9 hm w9
      | true =>
        rw [if_pos rfl] at q9 ⊢
        refine wpAny_mono (he s3.heap.objs.size s3 H3 fp pins _ s9 σ8 H9 _ I9 q9) (fun yv s10 h10 => ?_) fun _ _ z => z
        obtain ⟨y, H10, I10, r10, hl10, hz10, m', hm, w10⟩ := h10
        refine wpAny_mono (mt_append (X := compCx X scope cl Nc s3.heap.objs.size s3 H3 fp pins) _ s10 σ8 H10 (.ref s2.heap.objs.size) [y] _ [yv] (fun v H' => H' = upd H10 s2.heap.objs.size (.lst (ys ++ [y]))) I10 rfl (.cons r10 .nil) ⟨_, ys, y, rfl, rfl, hl10, hz10, rfl⟩) (fun _ s11 h11 => ?_) fun _ _ z => z
        obtain ⟨_, H11, I11, _, e11⟩ := h11
        subst e11
        exact again I11 hm w10
  have L := loop (s2.toks + ([] : List (Str × Value)).length)
  rw [show s3.gens = s2.gens by rw [← hs3], show s3.drawn = s2.drawn by rw [← hs3], show s3.os = s2.os by rw [← hs3]] at L
  exact codeAny_compStart_list L (T.self _ 0 _ _ _ st4 L)
theorem pe_comp (hc : X.calm = true) (ck : CompOk X scope cl Nc nl fr) (hi : PI X tg iter wi)
    (hg : ∀ C s3 H3 fp pins, PG (compCx X scope cl Nc C s3 H3 fp pins) tg g) (ht : ∀ C s3 H3 fp pins, PIf (compCx X scope cl Nc C s3 H3 fp pins) ifs tt) (he : ∀ C s3 H3 fp pins, PE (compCx X scope cl Nc C s3 H3 fp pins) elt te)
    (hs : ∀ x, foldedSetIterable iter X.env x = pure x := by intro _; rfl) : PE X (.ListComp elt [⟨tg, iter, ifs, 0⟩] scope pos) (tComp wi nl fr g tt te) := by
  intro pins s σ H Q I h
  rw [eval_ListComp]
  refine wpAny_comprehension_free (use := none) rfl hs ck.clos ck.kind ck.names (comp_run (RR := fun acc C => compPost (model X.prog X.w) X.A X.xe none (EP X pins σ Q) acc C) hc ck hi hg ht he I h fun D C s' hh => ?_)
  obtain ⟨H', ⟨m, hm⟩, hI, hF, q⟩ := hh
  exact ⟨m, hm, fun h' hs' => ⟨.ref D, H', hI.off hF hs', rfl, q⟩⟩
/-- y = [..] (the store comes ahead of the block's end) -/
theorem ps_setC {i : Nat} {y : Str} {py spos : Pos} (hN : X.N.Nodup) (hiy : X.N[i]? = some y) (hy : X.env.scope.names.lookup y = some .local) (hc : X.calm = true) (ck : CompOk X scope cl Nc nl fr) (hi : PI X tg iter wi)
    (hg : ∀ C s3 H3 fp pins, PG (compCx X scope cl Nc C s3 H3 fp pins) tg g) (ht : ∀ C s3 H3 fp pins, PIf (compCx X scope cl Nc C s3 H3 fp pins) ifs tt) (he : ∀ C s3 H3 fp pins, PE (compCx X scope cl Nc C s3 H3 fp pins) elt te)
    (hsw : swapsWith (.ListComp elt [⟨tg, iter, ifs, 0⟩] scope pos) (some (.Name y py)) spos.line X.env = pure true)
    (hs : ∀ x, foldedSetIterable iter X.env x = pure x := by intro _; rfl) : PS X (.Assign [.Name y py] (.ListComp elt [⟨tg, iter, ifs, 0⟩] scope pos) spos) (tAsg (tComp wi nl fr g tt te) (gName i)) := by
  intro pins s σ H D I h
  rw [exec_Assign_Name_used _ _ _ _ hsw]
  refine wpAny_bind (wpAny_standAt (wpAny_bind ?_))
  show wpAny _ X.A (do let _ ← comprehension (.ListComp elt [⟨tg, iter, ifs, 0⟩] scope pos) scope X.env _ (newList []) false (eval iter X.env) (some (assign (.Name y py) X.env))) _ _ s
  refine wpAny_bind (wpAny_mono (wpAny_comprehension_free (use := some (assign (.Name y py) X.env)) (Q := fun _ s' => SP X pins D .next s') rfl hs ck.clos ck.kind ck.names
    (comp_run (RR := fun acc C => compPost (model X.prog X.w) X.A X.xe (some (assign (.Name y py) X.env)) (fun _ s' => SP X pins D .next s') acc C) hc ck hi hg ht he I h fun Dd C s' hh => ?_)) (fun _ s' hq => wpAny_pure (wpAny_pure hq)) fun _ _ e => e)
  obtain ⟨H', ⟨m, hm⟩, hI, hF, q⟩ := hh
  show wpAny _ X.A (assign (.Name y py) X.env (.ref Dd)) _ _ _
  refine wpAny_assign_Name (store_ok2 hI hN hiy (.inl hy) (v := .ref Dd) rfl (fun s2 I2 hsb => ?_) (.inr hy))
  obtain ⟨a, sb, ha⟩ := hsb
  have hCa : C ≠ a := by
    rcases ha with z | z
    · rw [z]; exact hF.2.1
    · exact Ne.symm (hF.2.2.2.2.1 y a z)
  refine ⟨m, hm.sameBut sb hCa, fun h' hs' => ⟨_, H', I2.off hF hs', q⟩⟩
end
end L2

set_option maxHeartbeats 1000000
namespace Mq
abbrev Q2 := Int × Int
def gc (a b : Int) : Int := (Int.gcd a b : Nat)
theorem gc_step (a b : Int) : gc b (Int.fmod a b) = gc a b := by
  unfold gc
  rw [Int.fmod_def, Int.gcd_comm a b, Int.sub_eq_add_neg, ← Int.mul_neg, Int.gcd_add_mul_left_right]
theorem fmod_less {a b : Int} (h : b ≠ 0) : (Int.fmod a b).natAbs < b.natAbs := by
  rcases (by omega : 0 < b ∨ b < 0) with h1 | h1
  · have := Int.fmod_nonneg_of_pos a h1
    have := Int.fmod_lt_of_pos a h1
    omega
  · have h2 : 0 < -b := by omega
    have e : Int.fmod a b = - Int.fmod (-a) (-b) := by
      rw [Int.neg_fmod_neg]; omega
    have := Int.fmod_nonneg_of_pos (-a) h2
    have := Int.fmod_lt_of_pos (-a) h2
    omega
theorem gc_zero (a : Int) : gc a 0 = if a < 0 then -a else a := by
  unfold gc
  rw [Int.gcd_zero]
  split <;> omega
theorem gc_pos {a b : Int} (h : b ≠ 0) : 0 < gc a b := by
  have := Int.gcd_pos_of_ne_zero_right a h
  unfold gc; omega
structure Low (p : Q2) : Prop where
  pos : 1 ≤ p.2
  one : gc p.1 p.2 = 1
/-- the divisor by which both are divided -/
def dvr (t b : Int) : Int := if b < 0 then -gc t b else gc t b
def red (t b : Int) : Q2 := (Int.fdiv t (dvr t b), Int.fdiv b (dvr t b))
theorem dvr_ne {t b : Int} (h : b ≠ 0) : dvr t b ≠ 0 := by
  have := gc_pos (a := t) h
  unfold dvr; split <;> omega
theorem fdiv_exact {a g k : Int} (hg : g ≠ 0) (h : a = g * k) : Int.fdiv a g = k := by
  rw [h, Int.mul_fdiv_cancel_left _ hg]
theorem dvr_dvd (t b : Int) : dvr t b ∣ t ∧ dvr t b ∣ b := by
  have h1 : gc t b ∣ t := Int.gcd_dvd_left t b
  have h2 : gc t b ∣ b := Int.gcd_dvd_right t b
  unfold dvr; split
  · exact ⟨Int.neg_dvd.mpr h1, Int.neg_dvd.mpr h2⟩
  · exact ⟨h1, h2⟩
theorem red_parts {t b : Int} (h : b ≠ 0) : t = dvr t b * (red t b).1 ∧ b = dvr t b * (red t b).2 := by
  obtain ⟨⟨x, hx⟩, ⟨y, hy⟩⟩ := dvr_dvd t b
  have hg := dvr_ne (t := t) h
  have e1 : (red t b).1 = x := fdiv_exact hg hx
  have e2 : (red t b).2 = y := fdiv_exact hg hy
  rw [e1, e2]; exact ⟨hx, hy⟩
theorem red_low {t b : Int} (h : b ≠ 0) : Low (red t b) := by
  obtain ⟨h1, h2⟩ := red_parts (t := t) h
  have hg := dvr_ne (t := t) h
  have hp := gc_pos (a := t) h
  have nd : (dvr t b).natAbs = (gc t b).natAbs := by unfold dvr; split <;> simp
  have e : Int.gcd t b = (dvr t b).natAbs * Int.gcd (red t b).1 (red t b).2 := by
    rw [← Int.gcd_mul_left, ← h1, ← h2]
  have e2 : (gc t b).natAbs = Int.gcd t b := by unfold gc; simp
  rw [nd, e2] at e
  have hp' : 0 < Int.gcd t b := by unfold gc at hp; omega
  have one : Int.gcd (red t b).1 (red t b).2 = 1 := by
    have : Int.gcd t b * Int.gcd (red t b).1 (red t b).2 = Int.gcd t b * 1 := by omega
    exact Nat.eq_of_mul_eq_mul_left hp' this
  refine ⟨?_, by unfold gc; rw [one]; rfl⟩
  have sgn : 0 < (red t b).2 := by
    by_cases hb : b < 0
    · have hd : dvr t b < 0 := by unfold dvr; rw [if_pos hb]; omega
      have hq : ¬ (red t b).2 ≤ 0 := fun q => by
        have := Int.mul_nonneg_of_nonpos_of_nonpos (Int.le_of_lt hd) q
        omega
      omega
    · have hd : 0 < dvr t b := by unfold dvr; rw [if_neg hb]; omega
      have hq : ¬ (red t b).2 ≤ 0 := fun q => by
        have := Int.mul_nonpos_of_nonneg_of_nonpos (Int.le_of_lt hd) q
        omega
      omega
  omega
theorem red_cross {t b : Int} (h : b ≠ 0) : (red t b).1 * b = t * (red t b).2 := by
  obtain ⟨h1, h2⟩ := red_parts (t := t) h
  generalize (red t b).1 = x at *
  generalize (red t b).2 = y at *
  generalize dvr t b = g at *
  subst h1 h2; grind
theorem natAbs_fdiv_le {a g k : Int} (hg : g ≠ 0) (h : a = g * k) : k.natAbs ≤ a.natAbs := by
  rw [h, Int.natAbs_mul]
  exact Nat.le_mul_of_pos_left _ (by omega)
theorem red_le {t b : Int} (h : b ≠ 0) : (red t b).1.natAbs ≤ t.natAbs ∧ (red t b).2.natAbs ≤ b.natAbs := by
  obtain ⟨h1, h2⟩ := red_parts (t := t) h
  exact ⟨natAbs_fdiv_le (dvr_ne h) h1, natAbs_fdiv_le (dvr_ne h) h2⟩
theorem dvr_le {t b : Int} (h : b ≠ 0) : (dvr t b).natAbs ≤ b.natAbs := by
  have e : (dvr t b).natAbs = Int.gcd t b := by unfold dvr gc; split <;> simp
  rw [e]; exact Int.gcd_le_natAbs_right t h
theorem low_same {p q : Q2} (hp : Low p) (hq : Low q) (h : p.1 * q.2 = q.1 * p.2) : p = q := by
  have gp : Int.gcd p.2 p.1 = 1 := by have := hp.one; rw [Int.gcd_comm]; unfold gc at this; omega
  have gq : Int.gcd q.2 q.1 = 1 := by have := hq.one; rw [Int.gcd_comm]; unfold gc at this; omega
  have d1 : p.2 ∣ q.2 := by
    have : p.2 ∣ p.1 * q.2 := ⟨q.1, by rw [h, Int.mul_comm]⟩
    have := Int.dvd_gcd_mul_iff_dvd_mul.mpr this
    rw [gp] at this
    simpa using this
  have d2 : q.2 ∣ p.2 := by
    have : q.2 ∣ q.1 * p.2 := ⟨p.1, by rw [← h, Int.mul_comm]⟩
    have := Int.dvd_gcd_mul_iff_dvd_mul.mpr this
    rw [gq] at this
    simpa using this
  have l1 := Int.le_of_dvd (by have := hq.pos; omega) d1
  have l2 := Int.le_of_dvd (by have := hp.pos; omega) d2
  have e2 : p.2 = q.2 := by omega
  have e1 : p.1 = q.1 := by
    rw [e2] at h
    exact Int.eq_of_mul_eq_mul_right (by have := hq.pos; omega) h
  exact Prod.ext e1 e2
/-! sums -/
def plus (p q : Q2) : Q2 := red (p.1 * q.2 + q.1 * p.2) (p.2 * q.2)
def minus (p q : Q2) : Q2 := red (p.1 * q.2 - q.1 * p.2) (p.2 * q.2)
def times (p q : Q2) : Q2 := red (p.1 * q.1) (p.2 * q.2)
def over (p q : Q2) : Q2 := red (p.1 * q.2) (p.2 * q.1)
def tot (l : List Q2) : Q2 := l.foldl plus (0, 1)
theorem mul_ne {a b : Int} (ha : 1 ≤ a) (hb : 1 ≤ b) : a * b ≠ 0 := by
  have := Int.mul_pos (show 0 < a by omega) (show 0 < b by omega)
  omega
theorem plus_low {p q : Q2} (hp : 1 ≤ p.2) (hq : 1 ≤ q.2) : Low (plus p q) := red_low (mul_ne hp hq)
/-- numbers of so many bits -/
def B (n : Nat) (i : Int) : Prop := i.natAbs < 2 ^ n
structure Bd (n : Nat) (p : Q2) : Prop where
  a : B n p.1
  b : B n p.2
theorem B.mono {n m : Nat} {i : Int} (h : B n i) (l : n ≤ m) : B m i := Nat.lt_of_lt_of_le h (Nat.pow_le_pow_right (by decide) l)
theorem B.mul {n m : Nat} {i j : Int} (h : B n i) (q : B m j) : B (n + m) (i * j) := by
  unfold B at *
  rw [Int.natAbs_mul, Nat.pow_add]
  exact Nat.mul_lt_mul'' h q
theorem B.add {n : Nat} {i j : Int} (h : B n i) (q : B n j) : B (n + 1) (i + j) := by
  unfold B at *
  have := Int.natAbs_add_le i j
  rw [Nat.pow_succ]; omega
theorem B.le {n : Nat} {i j : Int} (h : B n i) (l : j.natAbs ≤ i.natAbs) : B n j := Nat.lt_of_le_of_lt l h
theorem Bd.mono {n m : Nat} {p : Q2} (h : Bd n p) (l : n ≤ m) : Bd m p := ⟨h.a.mono l, h.b.mono l⟩
theorem plus_bd {n m : Nat} {p q : Q2} (h : Bd n p) (g : Bd m q) (hp : 1 ≤ p.2) (hq : 1 ≤ q.2) : Bd (n + m + 1) (plus p q) := by
  have k := red_le (t := p.1 * q.2 + q.1 * p.2) (mul_ne hp hq)
  have a2 : B (n + m) (q.1 * p.2) := by rw [Nat.add_comm]; exact g.a.mul h.b
  exact ⟨((h.a.mul g.b).add a2).le k.1, ((h.b.mul g.b).mono (Nat.le_succ _)).le k.2⟩
/-- over one bottom -/
def D : List Q2 → Int
  | [] => 1
  | f :: r => f.2 * D r
def N : List Q2 → Int
  | [] => 0
  | f :: r => f.1 * D r + f.2 * N r
def Pos (l : List Q2) : Prop := ∀ f ∈ l, 1 ≤ f.2
theorem foldl_low {l : List Q2} : ∀ {p : Q2}, Low p → Pos l → Low (l.foldl plus p) := by
  induction l with
  | nil => intro p h _; exact h
  | cons x r ih => intro p h k; exact ih (plus_low h.pos (k x (by simp))) fun f hf => k f (by simp [hf])
theorem low01 : Low (0, 1) := ⟨Int.le_refl 1, rfl⟩
theorem tot_low {l : List Q2} (h : Pos l) : Low (tot l) := foldl_low low01 h
end Mq

set_option Elab.async false
set_option linter.all false
set_option maxRecDepth 100000
set_option maxHeartbeats 1000000
namespace L2
open PySem PySem.Spec PyProof.Rows
section
variable {X : Cx} {e st : Expr} {te ts : TE} {p2 pos : Pos}
/-! a list turned about -/
def tRev (K : PySem.W.Frag) (te ts : TE) : TE := fun σ H Q => te σ H fun x H1 => ts σ H1 fun y H2 => ∃ a xs, x = .ref a ∧ y = .int (-1) ∧ SqL K H2 a xs ∧ ∀ p, H2 p = none → Q (.ref p) (upd H2 p (.lst xs.reverse))
end

/-! a def with defaults, in any world of exceptions -/
structure FunD (K : PySem.W.Frag) (x qual : Str) (st : Stmt) (dV : Value) (f : Addr) (fd : FuncData) : Prop where
  ex : ∃ (oc : Value) (od : Option Addr) (kV doc pm : Value) (an : Option Addr) (cdv ct : Value) (osl : Array (Option Value)),
    fd = PySem.W.fnOf x qual (defArgs st) (defBody st) (defScope st) dV kV doc pm an cdv ct ∧ K.lookup f = some ⟨oc, od, .func fd, osl⟩ ∧ PySem.W.codeIn K cdv qual = true
  kp : PySem.W.keepIn K (.ref f) = true
section
variable {P : Program} {w : World} {K : PySem.W.Frag} {mg : Str → Option Value} {base : Heap} {CX : CXT}
theorem FunD.okX {x qual : Str} {st : Stmt} {dV : Value} {f : Addr} {fd : FuncData} {N ps : List Str} {k : Nat} {sp : Sp} (F : FunD K x qual st dV f fd) (S : FnScope N ps (defScope st)) (len : ∀ vs H Q E, sp vs H Q E → vs.length = ps.length)
    (hbody : ∀ (cdv : Value) (A : Around) (outer : List Env) (s : Shared) (H : Hp) (vs : List V) (Q : VK) (E : XK), Room k (A.deeper (envOfC qual (defScope st) s.heap.objs.size f cdv)) → sp vs H Q E →
      ∃ t, PSs (cxOf CX P w K mg base N qual (defScope st) f cdv A outer s H E) (defBody st) t ∧ t { nx := fun _ H' => Q .non H', rt := Q } (start N vs) H) : FnOk P w K mg base CX (k + 1) f fd ps sp := by
  obtain ⟨oc, od, kV, doc, pm, an, cdv, ct, osl, rfl, lk, hcd⟩ := F.ex
  exact fn_of lk hcd S len fun A outer s H vs Q E hr hsp => hbody cdv A outer s H vs Q E hr hsp
theorem FunD.ok {x qual : Str} {st : Stmt} {dV : Value} {f : Addr} {fd : FuncData} {N ps : List Str} {k : Nat} {sp : Sp} (F : FunD K x qual st dV f fd) (S : FnScope N ps (defScope st)) (len : ∀ vs H Q E, sp vs H Q E → vs.length = ps.length)
    (hbody : ∀ (cdv : Value) (A : Around) (outer : List Env) (s : Shared) (H : Hp) (vs : List V) (Q : VK) (E : XK), Room k (A.deeper (envOfC qual (defScope st) s.heap.objs.size f cdv)) → sp vs H Q E →
      ∃ t, PSs (cxOf CX P w K mg base N qual (defScope st) f cdv A outer s H E).nox (defBody st) t ∧ t { nx := fun _ H' => Q .non H', rt := Q } (start N vs) H) : FnOk P w K mg base CX (k + 1) f fd ps sp :=
  F.okX S len fun cdv A outer s H vs Q E hr hsp => by
    obtain ⟨t, h, q⟩ := hbody cdv A outer s H vs Q E hr hsp
    exact ⟨t, h.nox, q⟩
theorem FunD.binds {x qual : Str} {st : Stmt} {dV : Value} {f : Addr} {fd : FuncData} {ps : List Str} (F : FunD K x qual st dV f fd)
    (h : ∀ (kV doc pm : Value) (an : Option Addr) (cdv ct : Value) (us : List Value), us.length = ps.length → bindArgs (PySem.W.fnOf x qual (defArgs st) (defBody st) (defScope st) dV kV doc pm an cdv ct) ⟨us, []⟩ = pure (ps.zip us)) : Binds K fd ps [] := by
  obtain ⟨oc, od, kV, doc, pm, an, cdv, ct, osl, rfl, lk, hcd⟩ := F.ex
  exact .all (h kV doc pm an cdv ct)
theorem fund_mk {x qual : Str} {st : Stmt} {dV : Value} {f : Addr} {oc : Value} {od an : Option Addr} {osl : Array (Option Value)} {kV doc pm cdv ct : Value} (l : K.lookup f = some ⟨oc, od, .func (PySem.W.fnOf x qual (defArgs st) (defBody st) (defScope st) dV kV doc pm an cdv ct), osl⟩)
    (c : PySem.W.codeIn K cdv qual = true) (k : PySem.W.keepIn K (.ref f) = true) : FunD K x qual st dV f (PySem.W.fnOf x qual (defArgs st) (defBody st) (defScope st) dV kV doc pm an cdv ct) := ⟨⟨oc, od, kV, doc, pm, an, cdv, ct, osl, rfl, l, c⟩, k⟩
end

/-! fractions as tuples -/
abbrev fT (p : Mq.Q2) : HO := .tup [.int p.1, .int p.2]
def Fq (K : PySem.W.Frag) (H : Hp) (a : Addr) (p : Mq.Q2) : Prop := SqT K H a [.int p.1, .int p.2]
theorem Same.seqT {K : PySem.W.Frag} {H H' : Hp} {a : Addr} {xs : List V} (e : Same H H') (h : SqT K H a xs) : SqT K H' a xs := by
  rcases h with (h | ⟨o, h⟩) | h
  · exact .inl (.inl (e _ _ h))
  · exact .inl (.inr ⟨o, e _ _ h⟩)
  · exact .inr h
theorem same_new {H : Hp} {p : Addr} (h : H p = none) (o : HO) : Same H (upd H p o) := fun b u q => by rw [upd_ne (ne_of_none q h)]; exact q
theorem Same.fq {K : PySem.W.Frag} {H H' : Hp} {a : Addr} {p : Mq.Q2} (e : Same H H') (h : Fq K H a p) : Fq K H' a p := e.seqT h
theorem Fq.of {K : PySem.W.Frag} {H : Hp} {a : Addr} {p : Mq.Q2} (h : H a = some (fT p)) : Fq K H a p := SqT.of h
theorem rd_ix0 {K : PySem.W.Frag} {σ : St} {H : Hp} {i : Nat} {a : Addr} {p : Mq.Q2} {Q : VK} (hv : σ[i]? = some (some (.ref a))) (h : Fq K H a p) (q : Q (.int p.1) H) : tOp (rIxT K) (tVar i) (tC (.int 0)) σ H Q :=
  ⟨_, hv, a, _, _, _, rfl, rfl, h, rfl, q⟩
theorem rd_ix1 {K : PySem.W.Frag} {σ : St} {H : Hp} {i : Nat} {a : Addr} {p : Mq.Q2} {Q : VK} (hv : σ[i]? = some (some (.ref a))) (h : Fq K H a p) (q : Q (.int p.2) H) : tOp (rIxT K) (tVar i) (tC (.int 1)) σ H Q :=
  ⟨_, hv, a, _, _, _, rfl, rfl, h, rfl, q⟩
theorem rd_mulB {H : Hp} {n m : Nat} {i j : Int} {Q : VK} (h1 : Mq.B n i) (h2 : Mq.B m j) (h3 : n ≤ 1048576) (h4 : m ≤ 1048576) (q : Q (.int (i * j)) H) : rI CBig (fun i j => .int (i * j)) (.int i) (.int j) H Q :=
  ⟨_, _, rfl, rfl, ⟨n, m, h1, h2, h3, h4⟩, q⟩
theorem rd_fdivB {H : Hp} {n : Nat} {i j : Int} {Q : VK} (h1 : j ≠ 0) (h2 : Mq.B n j) (h3 : n ≤ 9000) (q : Q (.int (i.fdiv j)) H) : rI CDivB (fun i j => .int (i.fdiv j)) (.int i) (.int j) H Q :=
  ⟨_, _, rfl, rfl, ⟨h1, n, h2, h3⟩, q⟩
/-- what the program's text leaves to the built-ins -/
structure Bl (mg : Str → Option Value) : Prop where
  isi : mg "isinstance" = none
  int : mg "int" = none
  bool : mg "bool" = none
  abs : mg "abs" = none
end L2

set_option Elab.async false
set_option linter.all false
namespace L2
open PySem PySem.Spec PyProof.Rows
/-! the promises of the first modules' defs -/
def NotWhole (t : Value) : Prop := t = .type "bool" ∨ t = .type "str" ∨ t = .type "NoneType" ∨ t = .type "tuple" ∨ t = .type "list"
def spWhole (K : PySem.W.Frag) : Sp := fun vs H Q _ => ∃ x, vs = [x] ∧ ((∃ i, x = .int i ∧ Q (.bl true) H) ∨ (∃ t, TyOf K H x t ∧ NotWhole t ∧ Q (.bl false) H))
def spGc : Sp := fun vs H Q _ => ∃ a b : Int, vs = [.int a, .int b] ∧ Q (.int (Mq.gc a b)) H
def NewF (H : Hp) (Q : VK) (p : Mq.Q2) : Prop := ∀ a H', Same H H' → H' a = some (fT p) → Q (.ref a) H'
def spFrac : Sp := fun vs H Q _ => ∃ (t b : Int) (n : Nat), vs = [.int t, .int b] ∧ b ≠ 0 ∧ Mq.B n b ∧ n ≤ 9000 ∧ NewF H Q (Mq.red t b)
def spTwo (K : PySem.W.Frag) (f : Mq.Q2 → Mq.Q2 → Mq.Q2) : Sp := fun vs H Q _ => ∃ (a b : Addr) (p q : Mq.Q2) (n m : Nat), vs = [.ref a, .ref b] ∧ Fq K H a p ∧ Fq K H b q ∧ 1 ≤ p.2 ∧ 1 ≤ q.2 ∧ Mq.Bd n p ∧ Mq.Bd m q ∧ n + m + 1 ≤ 9000 ∧ NewF H Q (f p q)
/-- addresses of fractions -/
inductive Fqs (K : PySem.W.Frag) (H : Hp) : List V → List Mq.Q2 → Prop where
  | nil : Fqs K H [] []
  | cons {a : Addr} {p : Mq.Q2} {xs : List V} {ps : List Mq.Q2} (h : Fq K H a p) (q : Fqs K H xs ps) : Fqs K H (.ref a :: xs) (p :: ps)
theorem Fqs.same {K : PySem.W.Frag} {H H' : Hp} (e : Same H H') : ∀ {xs : List V} {ps : List Mq.Q2}, Fqs K H xs ps → Fqs K H' xs ps
  | _, _, .nil => .nil
  | _, _, .cons h q => .cons (e.fq h) (Fqs.same e q)
theorem Fqs.length {K : PySem.W.Frag} {H : Hp} : ∀ {xs : List V} {ps : List Mq.Q2}, Fqs K H xs ps → xs.length = ps.length
  | _, _, .nil => rfl
  | _, _, .cons _ q => by simp [Fqs.length q]
theorem Fqs.get {K : PySem.W.Frag} {H : Hp} : ∀ {xs : List V} {ps : List Mq.Q2} {i : Nat} {x : V}, Fqs K H xs ps → xs[i]? = some x → ∃ a p, x = .ref a ∧ ps[i]? = some p ∧ Fq K H a p
  | _, _, _, _, .nil, h => by simp at h
  | _, _, 0, _, .cons h _, e => by simp at e; exact ⟨_, _, e.symm, rfl, h⟩
  | _, _, i + 1, _, .cons _ q, e => by simpa using Fqs.get q (by simpa using e)
theorem Fqs.app {K : PySem.W.Frag} {H : Hp} : ∀ {xs ys : List V} {ps qs : List Mq.Q2}, Fqs K H xs ps → Fqs K H ys qs → Fqs K H (xs ++ ys) (ps ++ qs)
  | _, _, _, _, .nil, r => r
  | _, _, _, _, .cons h q, r => .cons h (Fqs.app q r)
def spTot (K : PySem.W.Frag) : Sp := fun vs H Q _ => ∃ (a : Addr) (xs : List V) (ps : List Mq.Q2) (n : Nat), vs = [.ref a] ∧ SqL K H a xs ∧ Fqs K H xs ps ∧ Mq.Pos ps ∧ (∀ p ∈ ps, Mq.Bd n p) ∧ n + 1 + (1 + (n + 1) * ps.length) ≤ 9000 ∧ NewF H Q (Mq.tot ps)
end L2

set_option Elab.async false
set_option linter.all false
set_option maxHeartbeats 1000000
namespace L2
open PySem PySem.Spec PyProof.Rows
theorem Fq.upd {K : PySem.W.Frag} {H : Hp} {a l : Addr} {p : Mq.Q2} {xs : List V} {o : HO} (h : Fq K H a p) (hl : H l = some (.lst xs)) : Fq K (L2.upd H l o) a p := by
  rcases h with (h | ⟨u, h⟩) | h
  · exact .inl (.inl (by rw [upd_ne (ne_of h hl (fun z => by cases z))]; exact h))
  · exact .inl (.inr ⟨u, by rw [upd_ne (ne_of h hl (fun z => by cases z))]; exact h⟩)
  · exact .inr h
theorem Fqs.upd {K : PySem.W.Frag} {H : Hp} {l : Addr} {ys : List V} {o : HO} (hl : H l = some (.lst ys)) : ∀ {xs : List V} {ps : List Mq.Q2}, Fqs K H xs ps → Fqs K (L2.upd H l o) xs ps
  | _, _, .nil => .nil
  | _, _, .cons h q => .cons (h.upd hl) (Fqs.upd hl q)
/-- an object that was not there ahead is changed -/
theorem Same.change {H H' : Hp} {l : Addr} {o : HO} (s : Same H H') (h : H l = none) : Same H (L2.upd H' l o) := fun b u q => by
  rw [upd_ne (ne_of_none q h)]; exact s b u q
/-- fractions as data -/
def qd (p : Mq.Q2) : PyData := .tuple [.int p.1, .int p.2]
theorem Fq.dat {K : PySem.W.Frag} {H : Hp} {a : Addr} {p : Mq.Q2} (h : Fq K H a p) : DatV K H (.ref a) (qd p) := .tup h (.cons (.int _) (.cons (.int _) .nil))
theorem qd_lay (p : Mq.Q2) : (qd p).canLay0 = true := rfl
theorem qd_depth (p : Mq.Q2) : (qd p).depth ≤ 1 := by simp [qd, PyData.depth, PyData.depthAll]
/-- == and != of two fractions -/
theorem qd_eqv (p q : Mq.Q2) : PyData.eqv (qd p) (qd q) = decide (p = q) := by
  unfold qd
  simp only [PyData.eqv, PyData.eqvAll]
  by_cases h : p = q
  · subst h; simp
  · rw [decide_eq_false h]
    by_cases h1 : p.1 = q.1
    · have h2 : p.2 ≠ q.2 := fun z => h (Prod.ext h1 z)
      simp [h2]
    · simp [h1]
theorem rd_eqF {K : PySem.W.Frag} {H : Hp} {a b : Addr} {p q : Mq.Q2} {neg : Bool} {Q : VK} (h1 : Fq K H a p) (h2 : Fq K H b q) (z : Q (.bl (if neg then !decide (p = q) else decide (p = q))) H) : rDat K neg (.ref a) (.ref b) H Q := by
  refine ⟨_, _, h1.dat, h2.dat, qd_lay p, qd_lay q, ?_, ?_⟩
  · have := qd_depth p; omega
  · rw [qd_eqv]; exact z
end L2

set_option Elab.async false
set_option linter.all false
set_option maxRecDepth 100000
set_option maxHeartbeats 2000000
namespace L2
open PySem PySem.Spec PyProof.Rows
/-- one turn -/
abbrev CompT (nl : Nat) (fr : List Nat) (g : TG) (tt : TT) (te : TE) (σ : St) (D : Addr) (Pv : Nat → List V → Hp → Prop) (i : Nat) (ys : List V) (x : V) (H : Hp) : Prop :=
  g x (σC nl fr σ) H fun σ2 H4 => σ2.length = (σC nl fr σ).length ∧ (∀ (i : Nat) v, (σC nl fr σ)[i]? = some (some v) → σ2[i]? = some (some v)) ∧
    tt σ2 H4 fun b H5 => if b = true then te σ2 H5 fun y H6 => H6 D = some (.lst ys) ∧ ys.length < sizeLine ∧ Pv (i + 1) (ys ++ [y]) (upd H6 D (.lst (ys ++ [y]))) else Pv (i + 1) ys H5
/-- the names' readings are monotone in what is wanted -/
structure Mono (g : TG) (tt : TT) (te : TE) : Prop where
  g : ∀ x σ H Q Q', (∀ σ' H', Q σ' H' → Q' σ' H') → g x σ H Q → g x σ H Q'
  t : ∀ σ H Q Q', (∀ b H', Q b H' → Q' b H') → tt σ H Q → tt σ H Q'
  e : ∀ σ H Q Q', (∀ v H', Q v H' → Q' v H') → te σ H Q → te σ H Q'
section
variable {nl : Nat} {fr : List Nat} {g : TG} {tt : TT} {te : TE} {σ : St} {D : Addr} {H1 : Hp} {Q : VK}
theorem comp_range {lo : Int} {n : Nat} (Pv : Nat → List V → Hp → Prop) (h0 : Pv 0 [] (upd H1 D (.lst []))) (hl : ∀ i ys H, Pv i ys H → H D = some (.lst ys))
    (hs : ∀ i ys H, i < n → Pv i ys H → ∀ (C : Nat → List V → Hp → Prop), (∀ ys H, Pv (i + 1) ys H → C (i + 1) ys H) → CompT nl fr g tt te σ D C i ys (.int (lo + i)) H) (hd : ∀ ys H, Pv n ys H → Q (.ref D) H) :
    CompW (Itr lo n) nl fr g tt te σ D H1 Q := by
  refine ⟨fun i m ys H => m = n - i ∧ i ≤ n ∧ Pv i ys H, ⟨n, by simp, Nat.zero_le _, h0⟩, ?_⟩
  rintro i m ys H ⟨rfl, hi, p⟩
  refine ⟨hl i ys H p, ?_⟩
  by_cases hlt : i < n
  · refine .inr ⟨hlt, fun x H' y => ?_⟩
    obtain ⟨e, y⟩ := y
    subst e y
    exact hs i ys _ hlt p (fun j zs Hz => ∃ m', m' < n - i ∧ m' = n - j ∧ j ≤ n ∧ Pv j zs Hz) fun zs Hz z => ⟨n - (i + 1), by omega, rfl, hlt, z⟩
  · have e : i = n := by omega
    subst e
    exact .inl ⟨Nat.le_refl _, hd ys H p⟩
theorem comp_list {K : PySem.W.Frag} {a : Addr} {xs : List V} (Pv : Nat → List V → Hp → Prop) (h0 : Pv 0 [] (upd H1 D (.lst []))) (hl : ∀ i ys H, Pv i ys H → H D = some (.lst ys)) (hx : ∀ i ys H, i ≤ xs.length → Pv i ys H → SqL K H a xs)
    (hs : ∀ i ys x H, xs[i]? = some x → Pv i ys H → ∀ (C : Nat → List V → Hp → Prop), (∀ ys H, Pv (i + 1) ys H → C (i + 1) ys H) → CompT nl fr g tt te σ D C i ys x H) (hd : ∀ ys H, Pv xs.length ys H → Q (.ref D) H) :
    CompW (Itl K a) nl fr g tt te σ D H1 Q := by
  refine ⟨fun i m ys H => m = xs.length - i ∧ i ≤ xs.length ∧ Pv i ys H, ⟨xs.length, by simp, Nat.zero_le _, h0⟩, ?_⟩
  rintro i m ys H ⟨rfl, hi, p⟩
  refine ⟨hl i ys H p, ?_⟩
  have q := hx i ys H hi p
  by_cases hlt : i < xs.length
  · refine .inr ⟨⟨xs, xs[i], q, by simp [hlt]⟩, fun x H' y => ?_⟩
    obtain ⟨e, y⟩ := y
    subst e
    exact hs i ys x _ (y xs q) p (fun j zs Hz => ∃ m', m' < xs.length - i ∧ m' = xs.length - j ∧ j ≤ xs.length ∧ Pv j zs Hz) fun zs Hz z => ⟨xs.length - (i + 1), by omega, rfl, hlt, z⟩
  · have e : i = xs.length := by omega
    subst e
    exact .inl ⟨⟨xs, q, Nat.le_refl _⟩, hd ys H p⟩
end
/-- a block with one name of its own: the others are as they were -/
theorem keep1 {fr : List Nat} {σ : St} {x : V} : ((σC 1 fr σ).set 0 (some x)).length = (σC 1 fr σ).length ∧ ∀ (i : Nat) v, (σC 1 fr σ)[i]? = some (some v) → ((σC 1 fr σ).set 0 (some x))[i]? = some (some v) := by
  refine ⟨by simp, fun i v h => ?_⟩
  match i with
  | 0 => unfold σC at h; simp at h
  | k + 1 => rw [List.getElem?_set_ne (by omega)]; exact h
/-- a check of what a block's scope has -/
theorem has_of {names : List (Str × NameKind)} {cl : List (Str × Addr)} (h : names.all (fun y => !(y.2 == .cell || y.2 == .free) || (cl.lookup y.1).isSome) = true) (x : Str) (hx : names.lookup x = some .cell ∨ names.lookup x = some .free) : ∃ c, cl.lookup x = some c := by
  have key : ∀ k, (k = NameKind.cell ∨ k = NameKind.free) → names.lookup x = some k → ∃ c, cl.lookup x = some c := fun k hk e => by
    have m := List.all_eq_true.mp h _ (PySem.mem_of_lookup e)
    have : (k == NameKind.cell || k == NameKind.free) = true := by rcases hk with rfl | rfl <;> rfl
    simp only [this, Bool.not_true, Bool.false_or] at m
    exact Option.isSome_iff_exists.mp m
  rcases hx with e | e
  · exact key _ (.inl rfl) e
  · exact key _ (.inr rfl) e
end L2

set_option Elab.async false
set_option linter.all false
set_option maxRecDepth 100000
set_option maxHeartbeats 2000000
namespace L2
open PySem PySem.Spec PyProof.Rows
/-! ### for a, b in zip(xs, ys) -/
section
variable {X : Cx} {pins : List (Addr × Obj)} {σ : St} {H : Hp} {s : Shared} {h' : Heap}
theorem Inv.turnedL {t' : Nat} {fp : List Addr} (I : Inv X pins σ H s) (k : ∀ b o, b ∉ fp → s.heap.get? b = some o → h'.get? b = some o) (hf : ∀ b ∈ fp, FpOk X pins H b) : Inv X pins σ H { s with heap := h', toks := t' } := by
  have nit : ∀ b u, H b = some u → b ∉ fp := fun b u e z => by rw [(hf b z).1] at e; cases e
  have nL : X.env.locals ∉ fp := fun z => (hf _ z).2.1 rfl
  refine I.step (g' := s.gens) (d' := s.drawn) (ch := fp) (fun b hb => ?_) (fun b o _ _ hc e _ => k b o hc e) (fun b o _ _ hc e _ => ⟨o.slots, k b o hc e⟩) (fun _ _ _ _ n => n)
    (fun b o hc e => ⟨o, k b o hc e⟩) (fun _ _ e => e) (fun _ _ _ e => e) (fun b ps e => ⟨#[], by rw [e]; simp⟩) (fun m hm => ?_) (fun b u e => ?_) I.bare
  · obtain ⟨f0, f1, f2, f3, f4, f5⟩ := hf b hb
    exact ⟨f3, f1, f4, f5⟩
  · obtain ⟨o, es, ep, ho, r⟩ := hm
    exact ⟨o, es, ep, k _ o nL ho, r⟩
  · refine (I.hok b u e).stay (fun c v hc q => k c v ?_ q) (fun _ q => q) fun _ _ q => q
    rcases hc with z | z
    · rw [z]; exact nit b u e
    · exact nit c _ z
end
/-- the pairs of two lists, each a new tuple -/
def Itz (K : PySem.W.Frag) (a b : Addr) : It :=
  ⟨fun i H => ∃ xs ys x y, SqL K H a xs ∧ SqL K H b ys ∧ xs[i]? = some x ∧ ys[i]? = some y,
   fun i H v H' => ∃ T x y, v = .ref T ∧ H T = none ∧ H' = upd H T (.tup [x, y]) ∧ ∀ xs ys, SqL K H a xs → SqL K H b ys → xs[i]? = some x ∧ ys[i]? = some y,
   fun i H => ∃ xs ys, SqL K H a xs ∧ SqL K H b ys ∧ (xs.length ≤ i ∨ ys.length ≤ i)⟩
def ZipTn (z TI TO i1 i2 l1 l2 : Addr) (i : Nat) (h : Heap) : Prop :=
  ZipApart z TI TO i1 i2 l1 l2 ∧ IsZip h z TI TO .none ∧ IsPair h TI (.ref i1) (.ref i2) ∧ (∃ a b, IsPair h TO a b) ∧ h.IsListIter i1 l1 i ∧ h.IsListIter i2 l2 i
theorem turn_zip {P : Program} {w : World} {K : PySem.W.Frag} {elts : List Expr} {kk : Nat} {tpos : Pos} (z TI TO i1 i2 l1 l2 : Addr) :
    Turn P w K (.Tuple elts kk tpos) (Itz K l1 l2) [z, TI, TO, i1, i2] z (ZipTn z TI TO i1 i2 l1 l2) where
  mem := by simp
  obj := fun i h st b hb => by
    obtain ⟨ap, hz, hi, ⟨a, c, ho⟩, ⟨o1, e1, c1, d1⟩, ⟨o2, e2, c2, d2⟩⟩ := st
    simp only [List.mem_cons, List.not_mem_nil, or_false] at hb
    rcases hb with rfl | rfl | rfl | rfl | rfl
    · exact ⟨_, hz, fun v q => by cases q⟩
    · exact ⟨_, hi, fun v q => by cases q⟩
    · exact ⟨_, ho, fun v q => by cases q⟩
    · exact ⟨o1, e1, fun v q => by rw [d1] at q; cases q⟩
    · exact ⟨o2, e2, fun v q => by rw [d2] at q; cases q⟩
  keep := fun i h h' st k => by
    obtain ⟨ap, hz, hi, ⟨a, c, ho⟩, ⟨o1, e1, c1, d1⟩, ⟨o2, e2, c2, d2⟩⟩ := st
    exact ⟨ap, k _ (by simp) _ hz, k _ (by simp) _ hi, ⟨a, c, k _ (by simp) _ ho⟩, ⟨o1, k _ (by simp) _ e1, c1, d1⟩, ⟨o2, k _ (by simp) _ e2, c2, d2⟩⟩
  item := by
    intro X hP hw hK hc i pins s σ H E I hf st hg
    subst hP hw hK
    obtain ⟨ap, hz, hi, ⟨a, c, ho⟩, t1, t2⟩ := st
    obtain ⟨xs, ys, x, y, hx, hy, ex, ey⟩ := hg
    obtain ⟨its1, rv1, p1, z1⟩ := I.list hx
    obtain ⟨its2, rv2, p2, z2⟩ := I.list hy
    obtain ⟨u1, hu1, ru1⟩ := rv1.get ex
    obtain ⟨u2, hu2, ru2⟩ := rv2.get ey
    refine wpAny_pyNext_zip_item ap hz hi ho t1 t2 p1.isList p2.isList (x := u1) (y := u2) (by simpa using hu1) (by simpa using hu2) fun h' g1 g2 g3 g4 g5 g6 kk' => ?_
    have hn : H s.heap.objs.size = none := I.hok.fresh (Nat.le_refl _)
    have lt : ∀ b ∈ [z, TI, TO, i1, i2], b < s.heap.objs.size := fun b hb => by
      simp only [List.mem_cons, List.not_mem_nil, or_false] at hb
      obtain ⟨o1, e1, _⟩ := t1
      obtain ⟨o2, e2, _⟩ := t2
      rcases hb with rfl | rfl | rfl | rfl | rfl
      · exact Heap.lt_size hz
      · exact Heap.lt_size hi
      · exact Heap.lt_size ho
      · exact Heap.lt_size e1
      · exact Heap.lt_size e2
    have I1 : Inv X pins σ (upd H s.heap.objs.size (.tup [x, y])) { s with heap := s.heap.push { cls := .type "tuple", data := .seq #[u1, u2] } } :=
      I.laid (t' := s.toks) (fun b o e => Heap.get?_push_of_some _ e) (Nat.le_refl _) (show ObjOk X.prog X.w _ _ _ (.tup [x, y]) from ⟨by show 2 ≤ sizeLine; decide, [u1, u2], .cons ru1 (.cons ru2 .nil), IsTup.new _ _⟩)
    have hf1 : ∀ b ∈ [z, TI, TO, i1, i2], FpOk X pins (upd H s.heap.objs.size (.tup [x, y])) b := fun b hb => ⟨by rw [upd_ne (Nat.ne_of_lt (lt b hb))]; exact (hf b hb).1, (hf b hb).2⟩
    have k1 : ∀ b o, b ∉ [z, TI, TO, i1, i2] → (s.heap.push { cls := .type "tuple", data := .seq #[u1, u2] }).get? b = some o → h'.get? b = some o := fun b o nb e => by
      simp only [List.mem_cons, List.not_mem_nil, or_false, not_or] at nb
      by_cases hb : b = s.heap.objs.size
      · subst hb
        rw [Heap.get?_push_size _ rfl] at e
        cases e
        exact g5
      · have e0 : s.heap.get? b = some o := by rw [Heap.get?_push_ne _ _ _ hb] at e; exact e
        exact kk' b o nb.1 nb.2.2.1 nb.2.2.2.1 nb.2.2.2.2 e0
    have I2 : Inv X pins σ (upd H s.heap.objs.size (.tup [x, y])) { s with heap := h', toks := s.toks } := I1.turnedL (t' := s.toks) k1 hf1
    refine ⟨_, rfl, wpAny_letOwnedTupleGo_zip (s := { s with heap := h' }) g1 fun h2 q1 q2 => ?_⟩
    have kz : ∀ b o, b ≠ z → h'.get? b = some o → h2.get? b = some o := fun b o nb e => (q2.2 b nb).trans e
    have I3 : Inv X pins σ (upd H s.heap.objs.size (.tup [x, y])) { s with heap := h2, toks := s.toks } := Inv.turnedL (s := { s with heap := h', toks := s.toks }) (t' := s.toks) (fp := [z]) I2 (fun b o nb e => kz b o (by simpa using nb) e) fun b hb => hf1 b (by simp at hb; simp [hb])
    have hTI : h'.get? TI = some { cls := .type "tuple", data := .seq #[.ref i1, .ref i2] } := kk' TI _ ap.TIz ap.TITO ap.TIi1 ap.TIi2 hi
    obtain ⟨o3, e3, c3, d3⟩ := g3
    obtain ⟨o4, e4, c4, d4⟩ := g4
    refine ⟨.ref s.heap.objs.size, _, I3, rfl, ⟨_, x, y, rfl, hn, rfl, fun xs' ys' h1 h2 => ?_⟩, ⟨ap, q1, kz _ _ ap.TIz hTI, ⟨_, _, kz _ _ ap.TOz g2⟩, ⟨o3, kz _ _ ap.i1z e3, c3, d3⟩, ⟨o4, kz _ _ ap.i2z e4, c4, d4⟩⟩, fun b hb => (hf1 b hb).1⟩
    rw [I.list_inj h1 hx, I.list_inj h2 hy]
    exact ⟨ex, ey⟩
  done := by
    intro X hP hw hK hc i pins s σ H E I hf st hg
    subst hP hw hK
    obtain ⟨ap, hz, hi, ⟨a, c, ho⟩, t1, t2⟩ := st
    obtain ⟨xs, ys, hx, hy, hor⟩ := hg
    obtain ⟨its1, rv1, p1, z1⟩ := I.list hx
    obtain ⟨its2, rv2, p2, z2⟩ := I.list hy
    have l1' := rv1.length
    have l2' := rv2.length
    refine wpAny_pyNext_zip_end (I.ok.hd hc) ap hz hi ho t1 t2 p1.isList p2.isList (by rcases hor with h | h; left; simp; omega; right; simp; omega) fun h' kk' => ⟨rfl, ?_⟩
    refine I.turnedL (t' := s.toks) (fun b o nb e => ?_) hf
    simp only [List.mem_cons, List.not_mem_nil, or_false, not_or] at nb
    exact kk' b o nb.1 nb.2.2.1 nb.2.2.2.1 nb.2.2.2.2 e
  self := fun A i s Q E st h => by
    obtain ⟨ap, hz, hi, ⟨a, c, ho⟩, t1, t2⟩ := st
    exact wpAny_pyIter_zip hz h
section
variable {X : Cx}
def iZip (K : PySem.W.Frag) (ta : TA) : TI := fun σ H R => ta σ H fun vs H1 => ∃ a b, vs = [.ref a, .ref b] ∧ (∃ xs, SqL K H1 a xs) ∧ (∃ ys, SqL K H1 b ys) ∧ R (Itz K a b) H1
theorem pi_zip {e1 e2 : Expr} {ta : TA} {p pos : Pos} {elts : List Expr} {kk : Nat} {tpos : Pos} (hg : Gl X "zip") (hm : X.mg "zip" = none) (hv : bootBuiltins "zip" = some (.type "zip")) (ha : PA X [e1, e2] ta)
    (hs : starEach [e1, e2] X.env = (false, eval e1 X.env) :: starEach [e2] X.env := by rfl) (hpl : (backTo pos (starEach [e2] X.env)).any (·.1) = false := by rfl) : PI X (.Tuple elts kk tpos) (.Call (.Name "zip" p) [e1, e2] [] pos) (iZip X.K ta) := by
  intro pins s σ H R I h
  refine Call_ (ld_blt I hg hm hv (PyProof.Rows.callWith_type1 (thn (ha pos pins s σ H _ I h) fun us s1 ⟨vs, H1, I1, r1, q1⟩ => ?_) hs hpl))
  obtain ⟨a, b, rfl, ⟨xs, hx⟩, ⟨ys, hy⟩, q⟩ := q1
  obtain ⟨u, w', rfl, ra, rb⟩ := vals2 r1
  cases (show u = Value.ref a from ra)
  cases (show w' = Value.ref b from rb)
  obtain ⟨its1, rv1, p1, z1⟩ := I1.list hx
  obtain ⟨its2, rv2, p2, z2⟩ := I1.list hy
  have la : a < s1.heap.objs.size := by obtain ⟨o, e, _⟩ := p1.isList; exact Heap.lt_size e
  have lb : b < s1.heap.objs.size := by obtain ⟨o, e, _⟩ := p2.isList; exact Heap.lt_size e
  refine call_zip_2 p1.isList p2.isList fun h' g1 g2 g3 g4 g5 g6 kk' => ?_
  refine wpAny_pyIter_zip g1 ?_
  have ne : ∀ i j : Nat, i ≠ j → s1.heap.objs.size + i ≠ s1.heap.objs.size + j := fun i j n e => n (Nat.add_left_cancel e)
  have nl : ∀ (c : Addr) (i : Nat), c < s1.heap.objs.size → c ≠ s1.heap.objs.size + i := fun c i l e => absurd (Nat.lt_of_lt_of_le l (Nat.le_add_right _ i)) (by rw [← e]; exact Nat.lt_irrefl _)
  have n0 : ∀ j : Nat, j ≠ 0 → s1.heap.objs.size + j ≠ s1.heap.objs.size := fun j n e => n (Nat.add_left_cancel (e.trans (Nat.add_zero _).symm))
  refine ⟨s1.heap.objs.size + 4, [s1.heap.objs.size + 4, s1.heap.objs.size + 2, s1.heap.objs.size + 3, s1.heap.objs.size, s1.heap.objs.size + 1], _, Itz X.K a b, H1, rfl, I1.kept (t' := s1.toks) kk', turn_zip _ _ _ _ _ a b, ⟨?_, g1, g2, ⟨_, _, g3⟩, g4, g5⟩, fun c hc => ?_, q⟩
  · exact ⟨ne 2 4 (by decide), ne 3 4 (by decide), (n0 4 (by decide)).symm, ne 1 4 (by decide), ne 2 3 (by decide), n0 2 (by decide), ne 2 1 (by decide), n0 3 (by decide), ne 3 1 (by decide), (n0 1 (by decide)).symm,
      nl a 4 la, nl a 3 la, Nat.ne_of_lt la, nl a 1 la, nl b 4 lb, nl b 3 lb, Nat.ne_of_lt lb, nl b 1 lb⟩
  · have hle : s1.heap.objs.size ≤ c := by
      simp only [List.mem_cons, List.not_mem_nil, or_false] at hc
      rcases hc with rfl | rfl | rfl | rfl | rfl <;> first | exact Nat.le_add_right _ _ | exact Nat.le_refl _
    exact I1.fpOk hle (I1.hok.fresh hle)
/-- a walk over two lists that stay, the tuples forgotten -/
theorem for_zip {K : PySem.W.Frag} {a b : Addr} {xs ys : List V} {g : TG} {tb : TS} {D : Ends} {σ : St} {H : Hp} (Pv : Nat → St → Hp → Prop) (h0 : Pv 0 σ H) (hl : ∀ i σ H, i ≤ min xs.length ys.length → Pv i σ H → SqL K H a xs ∧ SqL K H b ys)
    (hs : ∀ i x y σ H T, xs[i]? = some x → ys[i]? = some y → Pv i σ H → H T = none → g (.ref T) σ (upd H T (.tup [x, y])) fun σ2 H2 => tb { D with nx := Pv (i + 1), ct := Pv (i + 1), bk := D.nx } σ2 H2) (hd : ∀ σ H, Pv (min xs.length ys.length) σ H → D.nx σ H) :
    ∃ W : Nat → Nat → St → Hp → Prop, (∃ m, W 0 m σ H) ∧ ∀ i m σ H, W i m σ H →
      ((Itz K a b).stop i H ∧ D.nx σ H) ∨ ((Itz K a b).go i H ∧ ∃ N : St → Hp → Prop, (∀ σ' H', N σ' H' → ∃ m', m' < m ∧ W (i + 1) m' σ' H') ∧ ∀ x H', (Itz K a b).yld i H x H' → g x σ H' fun σ2 H2 => tb { D with nx := N, ct := N, bk := D.nx } σ2 H2) := by
  refine ⟨fun i m σ H => m = min xs.length ys.length - i ∧ i ≤ min xs.length ys.length ∧ Pv i σ H, ⟨_, rfl, Nat.zero_le _, h0⟩, ?_⟩
  rintro i m σ H ⟨rfl, hi, p⟩
  obtain ⟨qx, qy⟩ := hl i σ H hi p
  by_cases hlt : i < min xs.length ys.length
  · have hx : i < xs.length := by omega
    have hy : i < ys.length := by omega
    refine .inr ⟨⟨xs, ys, xs[i], ys[i], qx, qy, by simp [hx], by simp [hy]⟩, Pv (i + 1), fun σ' H' p' => ⟨min xs.length ys.length - (i + 1), by omega, rfl, hlt, p'⟩, fun v H' z => ?_⟩
    obtain ⟨T, x, y, rfl, hT, rfl, hh⟩ := z
    obtain ⟨ex, ey⟩ := hh xs ys qx qy
    exact hs i x y σ H T ex ey p hT
  · have e : i = min xs.length ys.length := by omega
    subst e
    exact .inl ⟨⟨xs, ys, qx, qy, by omega⟩, hd σ H p⟩
end
end L2

set_option Elab.async false
set_option linter.all false
set_option maxRecDepth 100000
set_option maxHeartbeats 2000000
namespace L2
open PySem PySem.Spec PyProof.Rows
section
variable {X : Cx}
/-- xs.insert(k, y), 0 ≤ k ≤ len -/
def rInsert : V → List V → Hp → VK → Prop := fun x vs H Q => ∃ (l : Addr) (xs : List V) (k : Nat) (i : Int) (y : V), x = .ref l ∧ vs = [.int i, y] ∧ i = (k : Int) ∧ k ≤ xs.length ∧ H l = some (.lst xs) ∧ xs.length < sizeLine ∧ Q .non (upd H l (.lst (xs.take k ++ y :: xs.drop k)))
end
end L2

set_option Elab.async false
set_option linter.all false
set_option maxRecDepth 100000
set_option maxHeartbeats 1000000
namespace L2
open PySem PySem.Spec PyProof.Rows

/-! ### an exception in flight: new since h0, untracked; its entry (if it has one) too -/
def Tb (h0 : Heap) (H : Hp) (h : Heap) (a : Addr) (v : Value) : Prop :=
  v = .none ∨ ∃ T oT ts, v = .ref T ∧ T ≠ a ∧ h0.get? T = none ∧ H T = none ∧ h.get? T = some oT ∧ oT.data = .fields ts ∧ ts[3]? = some .none
structure Fl (h0 : Heap) (H : Hp) (h : Heap) (a : Addr) (C : Value) (d : Option Addr) : Prop where
  new : h0.get? a = none
  free : H a = none
  at_ : ∃ oe vs v, h.get? a = some oe ∧ oe.cls = C ∧ oe.dict = d ∧ oe.data = .fields vs ∧ vs[1]? = some v ∧ Tb h0 H h a v
section
variable {M : Model} {A : Around} {E : Value → Shared → Prop} {s : Shared}
end

/-! ### the invariant where records that are new turn -/
section
variable {X : Cx} {pins : List (Addr × Obj)} {σ : List (Option V)} {H H' : Hp} {s : Shared} {h' : Heap}
/-- a def's own frame (no comprehension's block) -/
structure Frm (X : Cx) : Prop where
  ex : X.ex = []
  st : X.stack = X.env :: X.outer
  fr : X.env.frame = some X.env.locals
/-- the state where an exception has come up in this frame -/
def Lies (X : Cx) (pins : List (Addr × Obj)) (σ : List (Option V)) (H : Hp) (s : Shared) (a : Addr) (C : Value) (d : Option Addr) : Prop :=
  Inv X pins σ H s ∧ ∃ h0 : Heap, (∀ p ∈ X.pn ++ pins, h0.get? p.1 ≠ none) ∧ (∀ b o, X.s₀.heap.get? b = some o → ∃ o', h0.get? b = some o') ∧ (∀ b o, h0.get? b = some o → ∃ o', s.heap.get? b = some o') ∧ Fl h0 H s.heap a C d
end

/-! ### how an exception lies behind a call -/
def CX1 (P : Program) (w : World) : CXT := fun outer H s E e s' => ∃ a C d H', e = .ref a ∧ s'.os = s.os ∧ AllBare s'.gens ∧ Un (frs outer) [] H H' s.heap s'.heap ∧ HOk P w H' s'.heap ∧ Fl s.heap H' s'.heap a C d ∧ E C d H'
/-- what is wanted of exceptions, by the abstract heap -/
def XeOk (X : Cx) (E : XK) : Prop := ∀ (pins : List (Addr × Obj)) (σ : St) (H : Hp) (s : Shared) (a : Addr) (C : Value) (d : Option Addr), Lies X pins σ H s a C d → E C d H → X.xe (.ref a) s
section
variable {X : Cx} {pins : List (Addr × Obj)} {σ : List (Option V)} {H : Hp} {s s' : Shared} {E : XK} {e : Value}
end
end L2

set_option Elab.async false
set_option linter.all false
set_option maxRecDepth 100000
set_option maxHeartbeats 1000000
namespace L2
open PySem PySem.Spec PyProof.Rows

/-! ### raise -/
abbrev bmVE : List Value := [.type "ValueError", .type "Exception", .type "BaseException", .type "object"]
/-- an own class under ValueError, without __init__ -/
def ExcC (K : PySem.W.Frag) (C : Addr) : Prop := PySem.W.excIn K C bmVE "ValueError.__new__" = true
section
variable {X : Cx} {pins : List (Addr × Obj)} {σ : List (Option V)} {H : Hp} {s : Shared}
/-- raise C(e, ..) -/
def tRaise (C : Addr) (E : XK) (ta : TA) : TS := fun _ σ H => ta σ H fun vs H1 => vs.length ≤ sizeLine ∧ E (.ref C) none H1
end

/-! ### what may raise -/
abbrev TEX := St → Hp → VK → XK → Prop
abbrev TSX := Ends → (St → XK) → St → Hp → Prop
def XP (X : Cx) (pins : List (Addr × Obj)) (E : St → XK) (e : Value) (s' : Shared) : Prop := ∃ a C d σ' H', e = .ref a ∧ Lies X pins σ' H' s' a C d ∧ E σ' C d H'
def PX (X : Cx) (e : Expr) (t : TEX) : Prop :=
  ∀ (pins : List (Addr × Obj)) (s : Shared) (σ : St) (H : Hp) (Q : VK) (E : XK), Inv X pins σ H s → t σ H Q E → wpAny (model X.prog X.w) X.A (eval e X.env) (EP X pins σ Q) (XP X pins fun σ' C d H' => σ' = σ ∧ E C d H') s
def PSX (X : Cx) (st : Stmt) (t : TSX) : Prop :=
  ∀ (pins : List (Addr × Obj)) (s : Shared) (σ : St) (H : Hp) (D : Ends) (E : St → XK), Inv X pins σ H s → t D E σ H → wpAny (model X.prog X.w) X.A (exec st X.env) (SP X pins D) (XP X pins E) s
def PSXs (X : Cx) (st : List Stmt) (t : TSX) : Prop :=
  ∀ (pins : List (Addr × Obj)) (s : Shared) (σ : St) (H : Hp) (D : Ends) (E : St → XK), Inv X pins σ H s → t D E σ H → wpAny (model X.prog X.w) X.A (execs st X.env) (SP X pins D) (XP X pins E) s
section
variable {X : Cx} {k : Nat} {f C : Addr} {fd : FuncData} {ps : List Str} {sp : Sp} {dvs : List V} {ds : List Value} {x m : Str} {p pos apos : Pos} {e o : Expr} {es : List Expr} {ta : TE} {t : TA}
def xCall (sp : Sp) (dvs : List V) (t : TA) : TEX := fun σ H Q E => t σ H fun vs H1 => sp (vs ++ dvs) H1 Q E
/-- o.m(e, ..) that may raise -/
def xMeth (C : Addr) (m : Str) (sp : Sp) (dvs : List V) (ta : TE) (t : TA) : TEX := fun σ H Q E => ta σ H fun x H1 => ∃ a dx fs, x = .ref a ∧ H1 a = some (.ins C dx fs) ∧ fs.lookup m = none ∧ t σ H1 fun vs H2 => sp (x :: (vs ++ dvs)) H2 Q E
def xExpr (te : TEX) : TSX := fun D E σ H => te σ H (fun _ H1 => D.nx σ H1) (E σ)
def xSet (i : Nat) (te : TEX) : TSX := fun D E σ H => te σ H (fun v H1 => D.nx (σ.set i (some v)) H1) (E σ)
def xRet (te : TEX) : TSX := fun D E σ H => te σ H D.rt (E σ)
def xOf (t : TS) : TSX := fun D _ σ H => t D σ H
def xSeq (t u : TSX) : TSX := fun D E σ H => t { D with nx := u D E } E σ H
def xIf (c : TT) (t u : TSX) : TSX := fun D E σ H => c σ H fun b H1 => if b = true then t D E σ H1 else u D E σ H1
end

/-! ### the suite of an except clause -/
abbrev Cx.sup (X : Cx) (a : Addr) : Cx := { X with A := X.A.mark (some (.ref a)), calm := false, xe := fun _ _ => False }
section
variable {X : Cx} {pins : List (Addr × Obj)} {σ : List (Option V)} {H : Hp} {s : Shared} {a : Addr}
/-- an exception that was caught, as a thing -/
def excO (a : Addr) (C : Value) (d : Option Addr) : HO := .ext fun h => ∃ o vs, h.get? a = some o ∧ o.cls = C ∧ o.dict = d ∧ o.data = .fields vs
end

/-! ### try .. except -/
abbrev TH := Addr → Value → Option Addr → Ends → St → Hp → Prop
def PH (X : Cx) (hs : List ExceptHandler) (t : TH) : Prop :=
  ∀ (pins : List (Addr × Obj)) (s : Shared) (σ : St) (H : Hp) (D : Ends) (a : Addr) (C : Value) (d : Option Addr), Lies X pins σ H s a C d → t a C d D σ H → wpAny (model X.prog X.w) X.A (handleBy (.ref a) X.env hs) (SP X pins D) X.xe s
section
variable {X : Cx} {pos np : Pos} {T : Str} {tc : Value} {b₀ : Stmt} {suite : List Stmt} {rest : List ExceptHandler} {ts : TS} {tr : TH}
def hNever : TH := fun _ _ _ _ _ _ => False
/-- the class that an except clause names -/
def NameC (X : Cx) (T : Str) (c : Value) : Prop := X.mg T = some c ∨ (X.mg T = none ∧ bootBuiltins T = some c ∧ T ≠ "__name__")
def hTest (K : PySem.W.Frag) (tc : Value) (ts : TS) (tr : TH) : TH := fun a C d D σ H => ∃ b, PySem.W.exmOne K C tc = some b ∧ if b = true then ts D σ H else tr a C d D σ H
/-- except T as n: .. -/
def hTestAs (K : PySem.W.Frag) (tc : Value) (j : Nat) (ts : TS) (tr : TH) : TH := fun a C d D σ H => ∃ b, PySem.W.exmOne K C tc = some b ∧
  if b = true then ts { nx := fun σ' H' => D.nx (σ'.set j none) H', rt := D.rt, bk := fun σ' H' => D.bk (σ'.set j none) H', ct := fun σ' H' => D.ct (σ'.set j none) H' } (σ.set j (some (.ref a))) (upd H a (excO a C d)) else tr a C d D σ H
def tTry (tb : TSX) (to : TS) (th : TH) : TS := fun D σ H => tb { D with nx := to D } (fun σ' C d H' => ∀ a, H' a = none → th a C d D σ' H') σ H
end

/-! ### isinstance of an exception -/
structure ExcK (K : PySem.W.Frag) (C : Addr) : Prop where
  ga : PySem.W.findIn K (.ref C) "__getattribute__" = some (some (.builtin "BaseException.__getattribute__"))
  gn : PySem.W.findIn K (.ref C) "__getattr__" = some none
  bx : PySem.W.mroIn K C (.type "BaseException") = some true
  ob : PySem.W.mroIn K C (.type "object") = some true
  ca : PySem.W.findIn K (.ref C) "__class__" = some (some (.builtin "object.__class__"))
  hn : PySem.W.specialIn K (.builtin "object.__class__") "__get__" = some (some (.builtin "getset_descriptor.__get__"))
  tk : PySem.W.takesIn K (.builtin "object.__class__") = some true
  cl : (PySem.W.clsIn K C).isSome = true
end L2

set_option Elab.async false
set_option linter.all false
set_option maxHeartbeats 1000000
namespace L2
open PySem PySem.Spec PyProof.Rows
section
variable {X : Cx}
/-! is, of truths -/
end
end L2

set_option Elab.async false
set_option linter.all false
set_option maxRecDepth 100000
set_option maxHeartbeats 1000000
namespace L2
open PySem PySem.Spec PyProof.Rows

/-! ### an attribute of an exception of an own class -/
section
variable {prog : Program} {w : World} {A : Around} {E : Value → Shared → Prop} {s : Shared} {K : PySem.W.Frag} {x D : Addr} {ox : Obj} {odo : Option Obj} {name : Str}
end
/-! ### isinstance -/
section
variable {X : Cx}
end
end L2

set_option maxHeartbeats 1000000
namespace Mq
theorem times_low {p q : Q2} (hp : 1 ≤ p.2) (hq : 1 ≤ q.2) : Low (times p q) := red_low (mul_ne hp hq)
theorem times_bd {n m : Nat} {p q : Q2} (h : Bd n p) (g : Bd m q) (hp : 1 ≤ p.2) (hq : 1 ≤ q.2) : Bd (n + m) (times p q) := by
  have k := red_le (t := p.1 * q.1) (mul_ne hp hq)
  exact ⟨(h.a.mul g.a).le k.1, (h.b.mul g.b).le k.2⟩
end Mq

set_option Elab.async false
set_option linter.all false
set_option maxHeartbeats 1000000
namespace L2
open PySem PySem.Spec PyProof.Rows
/-- no whole number -/
def NW (K : PySem.W.Frag) (H : Hp) (x : V) : Prop := ∃ t, TyOf K H x t ∧ NotWhole t
/-- what fraction refuses -/
def BadF (K : PySem.W.Frag) (H : Hp) (x y : V) : Prop := NW K H x ∨ (∃ t, x = .int t) ∧ (NW K H y ∨ y = .int 0)
def spFracX (K : PySem.W.Frag) (CN : Addr) : Sp := fun vs H Q E => ∃ x y, vs = [x, y] ∧
  ((∃ (t b : Int) (n : Nat), x = .int t ∧ y = .int b ∧ b ≠ 0 ∧ Mq.B n b ∧ n ≤ 9000 ∧ NewF H Q (Mq.red t b)) ∨ (BadF K H x y ∧ E (.ref CN) none H))
def spOver (K : PySem.W.Frag) (CN : Addr) : Sp := fun vs H Q E => ∃ (a b : Addr) (p q : Mq.Q2) (n m : Nat), vs = [.ref a, .ref b] ∧ Fq K H a p ∧ Fq K H b q ∧ 1 ≤ p.2 ∧ 1 ≤ q.2 ∧ Mq.Bd n p ∧ Mq.Bd m q ∧ n + m + 1 ≤ 9000 ∧
  ((q.1 ≠ 0 ∧ NewF H Q (Mq.over p q)) ∨ (q.1 = 0 ∧ E (.ref CN) none H))
def spUnder (K : PySem.W.Frag) : Sp := fun vs H Q _ => ∃ (a b : Addr) (p q : Mq.Q2) (n m : Nat), vs = [.ref a, .ref b] ∧ Fq K H a p ∧ Fq K H b q ∧ Mq.Bd n p ∧ Mq.Bd m q ∧ n + m + 1 ≤ 9000 ∧ Q (.bl (decide (p.1 * q.2 < q.1 * p.2))) H
/-- _law_pick -/
def pickN (ns : List Int) (k : Nat) : Int := ns.getD k 0
def spPick (K : PySem.W.Frag) : Sp := fun vs H Q _ => ∃ (a : Addr) (ns : List Int) (j : Int) (k : Nat), vs = [.ref a, .int j] ∧ j = (k : Int) ∧ SqL K H a (ns.map V.int) ∧ ns.length ≤ 63 ∧ ∀ H', Same H H' → Q (.int (pickN ns k)) H'
end L2

set_option Elab.async false
set_option linter.all false
set_option maxRecDepth 100000
set_option maxHeartbeats 2000000
namespace L2
open PySem PySem.Spec PyProof.Rows
/-! ### isinstance of what is read: tracked, frozen, or an object of the module -/
inductive TyQ (K : PySem.W.Frag) (H : Hp) : V → Value → Prop where
  | of {x : V} {t : Value} (h : TyOf K H x t) : TyQ K H x t
  | tup {a : Addr} {xs : List V} (h : SqT K H a xs) : TyQ K H (.ref a) (.type "tuple")
  | lst {a : Addr} {xs : List V} (h : SqL K H a xs) : TyQ K H (.ref a) (.type "list")
section
variable {X : Cx} {pins : List (Addr × Obj)} {σ : St} {H : Hp} {s : Shared} {A : Around} {E : Value → Shared → Prop} {Q : Value → Shared → Prop} {c : Value} {b : Bool}
theorem isinst_okQ {x : V} {u t : Value} (I : Inv X pins σ H s) (rx : RelV x u) (ty : TyQ X.K H x t) (e : PySem.W.kitOne X.K t c = some b) (h : ∀ tk, Q (.bool b) { s with toks := tk }) :
    wpAny (model X.prog X.w) A (call (.builtin "isinstance") [u, c]) Q E s := by
  cases ty with
  | of ty => exact isinst_ok I rx ty e h
  | @tup a xs ht =>
    cases (show u = Value.ref a from rx)
    obtain ⟨its, _, p, _⟩ := I.tuple ht
    obtain ⟨o, h1, h2, _⟩ := p
    exact PySem.W.kia_one PySem.W.kitx_tuple I.kIn ⟨o, h1, h2⟩ e (fun z => nomatch z) h
  | @lst a xs ht =>
    cases (show u = Value.ref a from rx)
    obtain ⟨its, _, p, _⟩ := I.list ht
    obtain ⟨o, h1, h2, _⟩ := p.isList
    exact PySem.W.kia_one PySem.W.kitx_list I.kIn ⟨_, h1, h2⟩ e (fun z => nomatch z) h
end
section
variable {X : Cx}
theorem call_isiQ : CallR X (.builtin "isinstance") (fun xs H Q => ∃ x n t b, xs = [x, .ty n] ∧ TyQ X.K H x t ∧ PySem.W.kitOne X.K t (.type n) = some b ∧ Q (.bl b) H) := by
  intro pins s σ H vs us Q I rv h
  obtain ⟨x, n, t, b, rfl, ty, e, q⟩ := h
  obtain ⟨u, u2, rfl, r1, r2⟩ := vals2 rv
  cases (show u2 = Value.type n from r2)
  exact isinst_okQ I r1 ty e fun tk => ⟨.bl b, H, I.tok tk, rfl, q⟩
/-- isinstance(name in slot i, T) -/
theorem pe_isiQ {i : Nat} {x T : Str} {T' : String} {p1 p2 p3 pos : Pos} (hN : X.N[i]? = some x) (hv : Vis X.env.scope x) (b : X.mg "isinstance" = none) (b2 : X.mg T = none) (g1 : Gl X "isinstance") (g2 : Gl X T) (hT : bootBuiltins T = some (.type T'))
    (hd : (x == ("__debug__" : Str)) = false := by decide) (hcd : (x == ("__classdict__" : Str)) = false := by decide) (hTn : T ≠ "__name__" := by decide) (hTd : (T == ("__debug__" : Str)) = false := by decide)
    (he : starEach [.Name x p2, .Name T p3] X.env = (false, eval (.Name x p2) X.env) :: starEach [.Name T p3] X.env := by rfl)
    (he2 : starEach [.Name T p3] X.env = (false, eval (.Name T p3) X.env) :: starEach [] X.env := by rfl) (hpl : (backTo pos (starEach [.Name T p3] X.env)).any (·.1) = false := by rfl) :
    PE X (.Call (.Name "isinstance" p1) [.Name x p2, .Name T p3] [] pos) (fun σ H Q => ∃ v t b, σ[i]? = some (some v) ∧ TyQ X.K H v t ∧ PySem.W.kitOne X.K t (.type T') = some b ∧ Q (.bl b) H) := by
  have h := pe_callB (X := X) (pos := pos) (p := p1) call_isiQ g1 b PyProof.Rows.boot_isinstance (pa_cons (pe_var (i := i) (pos := p2) hN hv hd hcd) (pa_cons (pe_bltn (v := .ty T') (pos := p3) g2 b2 hT rfl hTn hTd) pa_nil he2) he) (by decide) (by decide) he hpl
  intro pins s σ H Q I q
  obtain ⟨v, t, bb, h1, h2, h3, h4⟩ := q
  exact h pins s σ H Q I ⟨v, h1, v, T', t, bb, rfl, h2, h3, h4⟩
end
/-! ### lists that stay while another one changes -/
theorem SqT.upd {K : PySem.W.Frag} {H : Hp} {a l : Addr} {xs ys : List V} {o : HO} (h : SqT K H a xs) (hl : H l = some (.lst ys)) : SqT K (L2.upd H l o) a xs := by
  rcases h with (h | ⟨u, h⟩) | h
  · exact .inl (.inl (by rw [upd_ne (ne_of h hl (fun z => by cases z))]; exact h))
  · exact .inl (.inr ⟨u, by rw [upd_ne (ne_of h hl (fun z => by cases z))]; exact h⟩)
  · exact .inr h
/-! ### ints as data -/
theorem cut_ints (ns : List Int) (lo hi : Option Int) : ∃ ms : List Int, cutV (ns.map V.int) lo hi = ms.map V.int ∧ ms.length ≤ ns.length := by
  refine ⟨(ns.drop (HT.sIx (ns.map V.int).length 0 lo)).take (HT.sIx (ns.map V.int).length (ns.map V.int).length hi - HT.sIx (ns.map V.int).length 0 lo), ?_, ?_⟩
  · unfold cutV; rw [List.map_take, List.map_drop]
  · rw [List.length_take, List.length_drop]; omega
/-- a block with two names of its own -/
theorem keep2 {fr : List Nat} {σ : St} {x y : V} : (((σC 2 fr σ).set 0 (some x)).set 1 (some y)).length = (σC 2 fr σ).length ∧ ∀ (i : Nat) v, (σC 2 fr σ)[i]? = some (some v) → (((σC 2 fr σ).set 0 (some x)).set 1 (some y))[i]? = some (some v) := by
  refine ⟨by simp, fun i v h => ?_⟩
  match i with
  | 0 => unfold σC at h; simp at h
  | 1 => unfold σC at h; simp at h
  | k + 2 => rw [List.getElem?_set_ne (by omega), List.getElem?_set_ne (by omega)]; exact h
theorem B_of {n : Nat} {i : Int} (lo : -(2 ^ n : Int) < i) (hi : i < 2 ^ n) : Mq.B n i := by
  unfold Mq.B
  have e : ((2 ^ n : Nat) : Int) = 2 ^ n := by simp
  omega
theorem ixN_nat {n k : Nat} (h : k < n) : ixN n (k : Int) = some k := by
  unfold ixN
  rw [if_pos (by omega), if_pos (by omega)]
  simp
end L2

set_option Elab.async false
set_option linter.all false
set_option maxRecDepth 100000
set_option maxHeartbeats 2000000
namespace L2
open PySem PySem.Spec PyProof.Rows
/-! ### texts -/
section
variable {X : Cx} {tg : Expr}
/-- str of an int of any size that the limit lets through -/
def rStrI : List V → Hp → VK → Prop := fun xs H Q => ∃ i n, xs = [.int i] ∧ Bt n i ∧ n ≤ 12900 ∧ Q (.str (Str.ofString (toString i))) H
def CPowB (i j : Int) : Prop := 0 ≤ j ∧ ∃ n, Bt n i ∧ n * j.toNat ≤ 2 ^ 27
/-- int(text) -/
def rIntT : List V → Hp → VK → Prop := fun xs H Q => ∃ x n, xs = [.str x] ∧ intText? x = some n ∧ x.length ≤ 640 ∧ Q (.int n) H
/-- x.partition(y) -/
def rPart : V → List V → Hp → VK → Prop := fun x vs H Q => ∃ a b, x = .str a ∧ vs = [.str b] ∧ b.length ≠ 0 ∧ a.length ≤ sizeLine ∧
  ∀ p, H p = none → Q (.ref p) (upd H p (.tup [.str (Txt.partition a b).1, .str (Txt.partition a b).2.1, .str (Txt.partition a b).2.2]))
/-- x[lo:hi] of a text -/
def rSlS : V → Option Int → Option Int → Hp → VK → Prop := fun x lo hi H Q => ∃ a, x = .str a ∧ a.length ≤ sizeLine ∧ Q (.str (Txt.slice a lo hi)) H
/-- the signs of a text -/
def Its (x : Str) : It := ⟨fun i _ => i < x.cps.size, fun i H v H' => H' = H ∧ ∃ c, x.cps[i]? = some c ∧ v = .str ⟨#[c]⟩, fun i _ => x.cps.size ≤ i⟩
def iStr (tl : TE) : TI := fun σ H R => tl σ H fun x H1 => ∃ a, x = .str a ∧ R (Its a) H1
/-- all(list of truths) -/
def rAll (K : PySem.W.Frag) : List V → Hp → VK → Prop := fun xs H Q => ∃ (p : Addr) (bs : List Bool), xs = [.ref p] ∧ SqL K H p (bs.map V.bl) ∧ Q (.bl (bs.all id)) H
theorem call_all (hc : X.calm = true) : CallR X (.builtin "all") (rAll X.K) := by
  intro pins s σ H xs us Q I r h
  obtain ⟨p, bs, rfl, hq, q⟩ := h
  obtain ⟨u, rfl, rx⟩ := vals1 r
  cases rx
  obtain ⟨its, rv, pl, hz⟩ := I.list hq
  have hlen : its.toArray.size = bs.length := by rw [List.size_toArray, ← rv.length, List.length_map]
  have hne : p ≠ s.heap.objs.size := by
    obtain ⟨o, e, _⟩ := pl.isList
    exact Nat.ne_of_lt (Heap.lt_size e)
  refine call_all_walk (wpAny_pyIter_list pl.isList ?_)
  refine ⟨s.heap.objs.size, _, _, _, _, _, fun i => bs.getD i false, rfl, Walks.list (by exact I.ok.hd hc) s.heap.objs.size p hne its.toArray, ⟨⟨_, Heap.get?_push_size _ rfl, rfl, rfl⟩, ?_⟩, ?_, ?_⟩
  · obtain ⟨o, e, c⟩ := pl.isList
    exact ⟨o, Heap.get?_push_of_some _ e, c⟩
  · intro i v s' Q' E' hv q'
    have hv' : its[i]? = some v := by simpa using hv
    have hi : i < its.length := (List.getElem?_eq_some_iff.mp hv').1
    have hb : (bs.map V.bl)[i]? = some (.bl (bs.getD i false)) := by
      rw [List.getElem?_map, List.getElem?_eq_getElem (by rw [← hlen]; simpa using hi)]
      simp [List.getD, List.getElem?_eq_getElem (show i < bs.length by rw [← hlen]; simpa using hi)]
    obtain ⟨u, hu, ru⟩ := rv.get hb
    have e : u = v := by rw [hv'] at hu; cases hu; rfl
    subst e
    cases ru
    exact wpAny_truthy_bool q'
  · intro h' tk kk
    have e : (List.range its.toArray.size).all (fun i => bs.getD i false) = bs.all id := by
      rw [hlen, Bool.eq_iff_iff, List.all_eq_true, List.all_eq_true]
      constructor
      · intro z b hb
        obtain ⟨i, hi, rfl⟩ := List.getElem_of_mem hb
        have := z i (List.mem_range.mpr hi)
        simpa [List.getD, List.getElem?_eq_getElem hi] using this
      · intro z i hi
        have hi' := List.mem_range.mp hi
        have := z bs[i] (List.getElem_mem hi')
        simpa [List.getD, List.getElem?_eq_getElem hi'] using this
    rw [e]
    refine ⟨.bl _, H, I.kept (t' := tk) fun b o hb => ?_, rfl, q⟩
    have hb2 : b ≠ s.heap.objs.size := Nat.ne_of_lt (Heap.lt_size hb)
    exact kk b o (by simpa using hb2) (Heap.get?_push_of_some _ hb)
end
end L2

set_option Elab.async false
set_option linter.all false
set_option maxRecDepth 100000
set_option maxHeartbeats 2000000
namespace L2
open PySem PySem.Spec PyProof.Rows
section
variable {X : Cx}
end
/-! ### methods by the object's class -/
def tMethD {ι : Type} (C : ι → Addr) (m : Str) (sp : ι → Sp) (dvs : List V) (E : XK) (ta : TE) (t : TA) : TE := fun σ H Q => ta σ H fun x H1 => ∃ i a dx fs, x = .ref a ∧ H1 a = some (.ins (C i) dx fs) ∧ fs.lookup m = none ∧
  t σ H1 fun vs H2 => sp i (x :: (vs ++ dvs)) H2 Q E
section
variable {X : Cx} {ι : Type} {C f : ι → Addr} {fd : ι → FuncData} {sp : ι → Sp} {m : Str} {CX : CXT} {k : Nat} {ps : List Str} {ds : List Value} {dvs : List V} {E : XK} {o e : Expr} {es : List Expr} {ta : TE} {t : TA} {apos pos : Pos}
theorem pe_methD0 {pl : Sem Bool} (he : PE X o ta) (c : ∀ i, Cls X.K (C i)) (hm : ∀ i, Meth X.K (C i) m (f i)) (F : ∀ i, FnOk X.prog X.w X.K X.mg X.base CX k (f i) (fd i) ps (sp i)) (hr : Room k X.A) (hb : ∀ i, Binds X.K (fd i) ps ds) (hd : Vals dvs ds) (hx : Passes CX X E)
    (ht : eval (.Call (.Attribute o m apos) [] [] pos) X.env = (do
      let ov ← eval o X.env
      standAt apos.atName
      let (f, first) ← holding [ov] (getMethod ov m pl)
      callWith pos f first (backTo pos (starEach [] X.env)) (backToKw pos (keywordEach [] X.env))) := by rfl) :
    PE X (.Call (.Attribute o m apos) [] [] pos) (tMethD C m sp dvs E ta tNil) := by
  intro pins s σ H Q I h
  refine PySem.W.methodCall_KW (pl := pl) (thn (he pins s σ H _ I h) fun u s1 ⟨x, H1, I1, rx, i, a, dx, fs, ex, ea, l, q⟩ => ?_) ht
  subst ex
  obtain rfl : u = Value.ref a := rx
  refine getmeth_ok I1 ea (c i) (hm i) l ?_
  exact PySem.W.callWith_K0 (first := [.ref a]) I1.kIn (hm i).kp (run_fn (us := [.ref a]) (vs := [.ref a]) (F i) hr (hb i) hd hx I1 (.cons rfl .nil) q)
end
/-! ### rows -/
inductive Kd where
  | pc | pu | ho
  deriving DecidableEq
def Kd.wd : Kd → Str
  | .pc => "piece"
  | .pu => "push"
  | .ho => "hold"
def Kd.cn : Kd → Str
  | .pc => "Piece"
  | .pu => "Push"
  | .ho => "Hold"
theorem Kd.wd_inj {k j : Kd} (h : k.wd = j.wd) : k = j := by
  cases k <;> cases j <;> first | rfl | exact absurd h (by decide +kernel)
theorem fsg : ¬ (("start" : Str) = "goal") := by decide +kernel
theorem fsz : ¬ (("start" : Str) = "size") := by decide +kernel
theorem fgz : ¬ (("goal" : Str) = "size") := by decide +kernel
/-- a row's fields -/
def rflds (s g z : V) : List (Str × V) := putF "size" z (putF "goal" g (putF "start" s []))
theorem rflds_start (s g z : V) : (rflds s g z).lookup ("start" : Str) = some s := by
  unfold rflds
  rw [lookup_putF, if_neg fsz, lookup_putF, if_neg fsg, lookup_putF, if_pos rfl]
theorem rflds_goal (s g z : V) : (rflds s g z).lookup ("goal" : Str) = some g := by
  unfold rflds
  rw [lookup_putF, if_neg fgz, lookup_putF, if_pos rfl]
theorem rflds_size (s g z : V) : (rflds s g z).lookup ("size" : Str) = some z := by
  unfold rflds
  rw [lookup_putF, if_pos rfl]
theorem rflds_no (s g z : V) {m : Str} (h1 : ¬ m = "start") (h2 : ¬ m = "goal") (h3 : ¬ m = "size") : (rflds s g z).lookup m = none := by
  unfold rflds
  rw [lookup_putF, if_neg h3, lookup_putF, if_neg h2, lookup_putF, if_neg h1]
  rfl
/-- a row stands at x -/
def Rw (CK : Kd → Addr) (H : Hp) (x : Addr) (k : Kd) (s g z : V) : Prop := ∃ dx, H x = some (.ins (CK k) dx (rflds s g z))
theorem Rw.same {CK : Kd → Addr} {H H' : Hp} {x : Addr} {k : Kd} {s g z : V} (e : Same H H') (h : Rw CK H x k s g z) : Rw CK H' x k s g z := let ⟨dx, q⟩ := h; ⟨dx, e _ _ q⟩
/-- what the text says of the rows' classes -/
structure RT (K : PySem.W.Frag) (mg : Str → Option Value) (CR : Addr) (CK : Kd → Addr) : Prop where
  cl : ∀ k, Cls K (CK k)
  nS : ∀ k, NoAttr K (CK k) "start"
  nG : ∀ k, NoAttr K (CK k) "goal"
  nZ : ∀ k, NoAttr K (CK k) "size"
  t1 : ∀ k, PySem.W.findIn K (.ref (CK k)) "__class__" = some (some (.builtin "object.__class__"))
  t2 : PySem.W.specialIn K (.builtin "object.__class__") "__get__" = some (some (.builtin "getset_descriptor.__get__"))
  t3 : PySem.W.takesIn K (.builtin "object.__class__") = some true
  t4 : ∀ k, PySem.W.mroIn K (CK k) (.type "object") = some true
  isR : ∀ k, PySem.W.kitOne K (.ref (CK k)) (.ref CR) = some true
  isK : ∀ k j, PySem.W.kitOne K (.ref (CK k)) (.ref (CK j)) = some (decide (k = j))
  mR : mg "Row" = some (.ref CR)
  mK : ∀ k, mg (Kd.cn k) = some (.ref (CK k))
section
variable {K : PySem.W.Frag} {mg : Str → Option Value} {CR : Addr} {CK : Kd → Addr} {H : Hp} {x : Addr} {k : Kd} {s g z : V}
/-- a new row and its dict -/
theorem Rw.new {C x dx : Addr} {fs : List (Str × V)} (h1 : H x = none) (h2 : H dx = none) (ne : dx ≠ x) : Same H (L2.upd (L2.upd H dx (.own x)) x (.ins C dx fs)) := fun b o e => by
  rw [upd_ne (ne_of_none e h1), upd_ne (ne_of_none e h2)]; exact e
end
/-- __init__ of a row -/
def spRInit (CK : Kd → Addr) : Sp := fun vs H Q _ => ∃ (x dx : Addr) (k : Kd) (s g z : V), vs = [.ref x, s, g, z] ∧ H x = some (.ins (CK k) dx []) ∧ Q .non (upd H x (.ins (CK k) dx (rflds s g z)))
def spWord (k : Kd) : Sp := fun vs H Q _ => ∃ x, vs = [x] ∧ Q (.str k.wd) H
def spJoins (k : Kd) : Sp := fun vs H Q _ => ∃ x, vs = [x] ∧ Q (.bl (decide (k ≠ .pu))) H
def spRTold (CK : Kd → Addr) : Sp := fun vs H Q _ => ∃ (x : Addr) (k : Kd) (s g z : V), vs = [.ref x] ∧ Rw CK H x k s g z ∧ ∀ t, H t = none → Q (.ref t) (upd H t (.tup [.str k.wd, s, g, z]))
/-- no word of a row -/
def NoWd (K : PySem.W.Frag) (H : Hp) (v : V) : Prop := (∃ y : Str, v = .str y ∧ ∀ k : Kd, y ≠ k.wd) ∨ ∃ t, TyQ K H v t ∧ PySem.W.kitOne K t (.type "str") = some false
/-- a new row -/
def NewR (CK : Kd → Addr) (H : Hp) (Q : VK) (k : Kd) (s g z : V) : Prop := ∀ x H', Same H H' → H x = none → Rw CK H' x k s g z → Q (.ref x) H'
def spRowOf (K : PySem.W.Frag) (CK : Kd → Addr) (CN : Addr) : Sp := fun vs H Q E => ∃ (t : Addr) (v s g z : V), vs = [.ref t] ∧ SqT K H t [v, s, g, z] ∧ ((∃ k : Kd, v = .str k.wd ∧ NewR CK H Q k s g z) ∨ (NoWd K H v ∧ E (.ref CN) none H))
end L2
namespace L2
open PySem PySem.Spec PyProof.Rows
/-- == of two that are the same data -/
theorem rd_eqS {K : PySem.W.Frag} {H : Hp} {x y : V} {d : PyData} {neg : Bool} {Q : VK} (h1 : DatV K H x d) (h2 : DatV K H y d) (hl : d.canLay0 = true) (hd : d.depth ≤ 16) (z : Q (.bl (!neg)) H) : rDat K neg x y H Q := by
  refine ⟨d, d, h1, h2, hl, hl, by omega, ?_⟩
  have e : PyData.eqv d d = true := PySem.SeqAt.eqv_refl _ hl
  rw [e]
  cases neg <;> exact z
/-- a row's tuple as data -/
def rd4 (w : Str) (i j : Int) (p : Mq.Q2) : PyData := .tuple [.str w, .int i, .int j, qd p]
theorem Kd.lay (k : Kd) : (PyData.str k.wd).canLay0 = true := by cases k <;> decide +kernel
theorem ifT {c : Bool} {A B : Prop} (h : c = true) (x : A) : if c = true then A else B := by rw [if_pos h]; exact x
theorem ifF {c : Bool} {A B : Prop} (h : c = false) (x : B) : if c = true then A else B := by rw [if_neg (by rw [h]; decide)]; exact x
theorem dec_wd (k j : Kd) : decide (V.str k.wd = V.str j.wd) = decide (k = j) := by
  by_cases h : k = j
  · subst h; simp
  · rw [decide_eq_false h]
    exact decide_eq_false fun z => h (Kd.wd_inj (V.str.inj z))
end L2
namespace L2
open PySem PySem.Spec PyProof.Rows
end L2
namespace L2
theorem all3 {p : Kd → Prop} (a : p .pc) (b : p .pu) (c : p .ho) : ∀ k, p k := fun k => by cases k <;> assumption
theorem kit_self (K : PySem.W.Frag) (t : PySem.Value) : PySem.W.kitOne K t t = some true := by unfold PySem.W.kitOne; rw [if_pos (beq_self_eq_true _)]
def kd3 {α : Type} (a b c : α) : Kd → α
  | .pc => a
  | .pu => b
  | .ho => c
end L2

set_option maxHeartbeats 1000000
namespace Mq
/-! streams led round -/
def neg (p : Q2) : Q2 := (-p.1, p.2)
/-- way 1 or -1 -/
def Way (w : Int) : Prop := w = 1 ∨ w = -1
def addAt (ps : List Q2) (k : Nat) (a : Q2) : List Q2 := ps.set k (plus (ps.getD k (0, 1)) a)
def AllLow (ps : List Q2) : Prop := ∀ p ∈ ps, Low p
def ledS (am : Q2) (ps : List Q2) (r : Q2) : List Q2 := addAt ps r.1.toNat (times (r.2, 1) am)
def led (ps rg : List Q2) (am : Q2) : List Q2 := rg.foldl (ledS am) ps
def RingOk (n : Nat) (rg : List Q2) : Prop := ∀ r ∈ rg, 0 ≤ r.1 ∧ r.1 < n ∧ Way r.2
end Mq

set_option linter.all false
namespace Mq
/-! the worth of a pair, as a rational number -/
def val (p : Q2) : Rat := (p.1 : Rat) / (p.2 : Rat)
theorem cast_ne {b : Int} (h : b ≠ 0) : (b : Rat) ≠ 0 := fun e => h (Rat.intCast_inj.mp (by simpa using e))
theorem val_eq_div {p : Q2} {t b : Int} (hp : p.2 ≠ 0) (hb : b ≠ 0) (h : p.1 * b = t * p.2) : val p = (t : Rat) / (b : Rat) := by
  unfold val
  have h1 := cast_ne hp
  have h2 := cast_ne hb
  have h3 : (p.1 : Rat) * (b : Rat) = (t : Rat) * (p.2 : Rat) := by rw [← Rat.intCast_mul, ← Rat.intCast_mul, h]
  grind
theorem val_red {t b : Int} (hb : b ≠ 0) : val (red t b) = (t : Rat) / (b : Rat) := by
  have := (red_low (t := t) hb).pos
  exact val_eq_div (by omega) hb (red_cross hb)
theorem low_ext {p q : Q2} (hp : Low p) (hq : Low q) (h : val p = val q) : p = q := by
  refine low_same hp hq ?_
  have p1 := cast_ne (show p.2 ≠ 0 by have := hp.pos; omega)
  have q1 := cast_ne (show q.2 ≠ 0 by have := hq.pos; omega)
  unfold val at h
  have : (p.1 : Rat) * (q.2 : Rat) = (q.1 : Rat) * (p.2 : Rat) := by grind
  rw [← Rat.intCast_mul, ← Rat.intCast_mul] at this
  exact Rat.intCast_inj.mp this
theorem val_plus {p q : Q2} (hp : 1 ≤ p.2) (hq : 1 ≤ q.2) : val (plus p q) = val p + val q := by
  have p1 := cast_ne (show p.2 ≠ 0 by omega)
  have q1 := cast_ne (show q.2 ≠ 0 by omega)
  unfold plus
  rw [val_red (mul_ne hp hq), Rat.intCast_add, Rat.intCast_mul, Rat.intCast_mul, Rat.intCast_mul]
  unfold val
  grind
theorem val_times {p q : Q2} (hp : 1 ≤ p.2) (hq : 1 ≤ q.2) : val (times p q) = val p * val q := by
  have p1 := cast_ne (show p.2 ≠ 0 by omega)
  have q1 := cast_ne (show q.2 ≠ 0 by omega)
  unfold times
  rw [val_red (mul_ne hp hq), Rat.intCast_mul, Rat.intCast_mul]
  unfold val
  grind
theorem val01 : val (0, 1) = 0 := by unfold val; simp; grind
/-- positive fractions -/
structure Ps (p : Q2) : Prop where
  low : Low p
  pos : 0 < p.1
theorem red_pos {t b : Int} (ht : 0 < t) (hb : 0 < b) : 0 < (red t b).1 := by
  have h1 := red_cross (t := t) (b := b) (by omega)
  have h2 := (red_low (t := t) (b := b) (by omega)).pos
  have h3 : 0 < t * (red t b).2 := Int.mul_pos ht (by omega)
  rw [← h1] at h3
  exact Int.pos_of_mul_pos_left h3 (by omega)
theorem red_ps {t b : Int} (ht : 0 < t) (hb : 0 < b) : Ps (red t b) := ⟨red_low (by omega), red_pos ht hb⟩
/-- the sum of numbers -/
def rsum : List Rat → Rat
  | [] => 0
  | x :: l => x + rsum l
theorem rsum_app (a b : List Rat) : rsum (a ++ b) = rsum a + rsum b := by
  induction a with
  | nil => simp [rsum]; grind
  | cons x l ih => simp only [List.cons_append, rsum, ih]; grind
theorem val_foldl : ∀ {l : List Q2} {p : Q2}, 1 ≤ p.2 → Pos l → val (l.foldl plus p) = val p + rsum (l.map val)
  | [], p, _, _ => by simp [rsum]; grind
  | q :: l, p, hp, h => by
    have hq := h q (by simp)
    rw [List.foldl_cons, val_foldl (plus_low hp hq).pos (fun f hf => h f (List.mem_cons_of_mem _ hf)), val_plus hp hq]
    simp only [List.map_cons, rsum]
    grind
theorem val_tot {l : List Q2} (h : Pos l) : val (tot l) = rsum (l.map val) := by
  unfold tot
  rw [val_foldl (by decide) h, val01]
  grind
/-- sums over the first numbers -/
def rs (n : Nat) (F : Nat → Rat) : Rat := match n with
  | 0 => 0
  | n + 1 => rs n F + F n
end Mq

set_option linter.all false
namespace Mq
/-! stars and meshes -/
abbrev z0 : Q2 := (0, 1)
def inv (p : Q2) : Q2 := (p.2, p.1)
def most (ls : List Q2) : Q2 := tot (ls.map inv)
def drawn (ls hs : List Q2) : Q2 := tot (List.zipWith over hs ls)
def middle (ls hs : List Q2) : Q2 := over (drawn ls hs) (most ls)
def intoLegs (ls hs : List Q2) : List Q2 := List.zipWith (fun h l => over (minus h (middle ls hs)) l) hs ls
abbrev Row := Nat × Nat × Q2
def stepM (hs sent : List Q2) (r : Row) : List Q2 :=
  let f := over (minus (hs.getD r.1 z0) (hs.getD r.2.1 z0)) r.2.2
  let s1 := sent.set r.1 (tot [sent.getD r.1 z0, f])
  s1.set r.2.1 (minus (s1.getD r.2.1 z0) f)
def intoMesh (ms : List Row) (hs : List Q2) : List Q2 := ms.foldl (stepM hs) (List.replicate hs.length z0)
structure RowOk (n c : Nat) (r : Row) : Prop where
  i : r.1 < n
  j : r.2.1 < n
  ne : r.1 ≠ r.2.1
  ps : Ps r.2.2
  bd : Bd c r.2.2
def flow (hs : List Q2) (r : Row) : Q2 := over (minus (hs.getD r.1 z0) (hs.getD r.2.1 z0)) r.2.2
def sg (k : Nat) (r : Row) (x : Rat) : Rat := if k = r.1 then x else if k = r.2.1 then -x else 0
/-- the sums over pairs -/
def A (n : Nat) (c : Nat → Nat → Rat) : Rat := rs n fun i => rs (n - (i + 1)) fun t => c i (i + 1 + t)
/-- the mesh of a star -/
def shares (ls : List Q2) : Q2 := tot (ls.map (over (1, 1)))
def meshRow (ls : List Q2) (i t : Nat) : Row := (i, i + 1 + t, times (times (ls.getD i z0) (ls.getD (i + 1 + t) z0)) (shares ls))
def meshRows (ls : List Q2) (i : Nat) : List Row := (List.range (ls.length - (i + 1))).map (meshRow ls i)
def meshUpTo (ls : List Q2) (k : Nat) : List Row := (List.range k).flatMap (meshRows ls)
def meshOf (ls : List Q2) : List Row := meshUpTo ls ls.length
def AllPs (ls : List Q2) : Prop := ∀ p ∈ ls, Ps p
/-! the star of a mesh of three -/
def starOf (a b c : Q2) : List Q2 := [over (times c a) (tot [a, b, c]), over (times a b) (tot [a, b, c]), over (times b c) (tot [a, b, c])]
def tri (a b c : Q2) : List Row := [(0, 1, a), (1, 2, b), (2, 0, c)]
end Mq

set_option Elab.async false
set_option linter.all false
set_option maxRecDepth 100000
namespace L2
open PySem PySem.Spec PyProof.Rows

/-! ### lists of pairs as tables -/
section
variable {κ : Type} [DecidableEq κ]
def valV (kvs : List (κ × V)) (k : κ) : Option V := (kvs.find? fun kv => decide (kv.1 = k)).map (·.2)
/-- in its place, or at the end -/
def putK (kvs : List (κ × V)) (k : κ) (v : V) : List (κ × V) :=
  if (kvs.any fun kv => decide (kv.1 = k)) = true then kvs.map (fun kv => if kv.1 = k then (kv.1, v) else kv) else kvs ++ [(k, v)]
def dropK (kvs : List (κ × V)) (k : κ) : List (κ × V) := kvs.filter fun kv => decide (kv.1 ≠ k)

theorem valV_pos {p : κ × V} {r : List (κ × V)} {k : κ} (e : p.1 = k) : valV (p :: r) k = some p.2 := by simp [valV, List.find?_cons, e]
theorem valV_neg {p : κ × V} {r : List (κ × V)} {k : κ} (e : ¬ p.1 = k) : valV (p :: r) k = valV r k := by simp [valV, List.find?_cons, e]
theorem valV_any (k : κ) : ∀ kvs : List (κ × V), (kvs.any fun kv => decide (kv.1 = k)) = (valV kvs k).isSome
  | [] => rfl
  | p :: r => by
    rw [List.any_cons]
    by_cases e : p.1 = k
    · simp only [valV_pos e, decide_eq_true e, Bool.true_or, Option.isSome_some]
    · rw [valV_neg e, decide_eq_false e, Bool.false_or]; exact valV_any k r
theorem length_putK (kvs : List (κ × V)) (k : κ) (v : V) : (putK kvs k v).length ≤ kvs.length + 1 := by
  unfold putK
  split
  · rw [List.length_map]; omega
  · rw [List.length_append, List.length_cons, List.length_nil]; omega
theorem RelO.isSome_eq {o : Option V} {u : Option Value} (r : RelO o u) : o.isSome = u.isSome := by
  cases o with
  | none => cases u with
    | none => rfl
    | some _ => exact (show False from r).elim
  | some _ => cases u with
    | none => exact (show False from r).elim
    | some _ => rfl
theorem RelO.getD {o : Option V} {u : Option Value} {d : V} {d' : Value} (r : RelO o u) (rd : RelV d d') : RelV (o.getD d) (u.getD d') := by
  cases o with
  | none => cases u with
    | none => exact rd
    | some _ => exact (show False from r).elim
  | some _ => cases u with
    | none => exact (show False from r).elim
    | some _ => exact r

/-- raw tables of the same keys -/
theorem KV.val {kvs : List (κ × V)} {vs : List (κ × Value)} (r : KV kvs vs) (k : κ) : RelO (valV kvs k) (valueAt vs k) := by
  unfold KV at r
  induction r with
  | nil => exact True.intro
  | @cons p q ps qs h t ih =>
    obtain ⟨h1, h2⟩ := h
    by_cases e : p.1 = k
    · have e' : q.1 = k := h1.symm.trans e
      have b : valueAt (q :: qs) k = some q.2 := by simp [valueAt, List.find?_cons, e']
      rw [valV_pos e, b]; exact h2
    · have e' : ¬ q.1 = k := fun z => e (h1.trans z)
      have b : valueAt (q :: qs) k = valueAt qs k := by simp [valueAt, List.find?_cons, e']
      rw [valV_neg e, b]; exact ih
theorem KV.any {kvs : List (κ × V)} {vs : List (κ × Value)} (r : KV kvs vs) (k : κ) : (kvs.any fun kv => decide (kv.1 = k)) = vs.any fun kv => decide (kv.1 = k) := by
  unfold KV at r
  induction r with
  | nil => rfl
  | cons h t ih => rw [List.any_cons, List.any_cons, ih, h.1]
theorem KV.repl {kvs : List (κ × V)} {vs : List (κ × Value)} (r : KV kvs vs) (k : κ) {y : V} {u : Value} (ry : RelV y u) :
    KV (kvs.map fun kv => if kv.1 = k then (kv.1, y) else kv) (vs.map fun kv => if kv.1 = k then (kv.1, u) else kv) := by
  unfold KV at r ⊢
  induction r with
  | nil => exact .nil
  | @cons p q ps qs h t ih =>
    rw [List.map_cons, List.map_cons]
    refine .cons ?_ ih
    obtain ⟨h1, h2⟩ := h
    by_cases e : p.1 = k
    · rw [if_pos e, if_pos (h1.symm.trans e)]; exact ⟨h1, ry⟩
    · rw [if_neg e, if_neg (fun z => e (h1.trans z))]; exact ⟨h1, h2⟩
theorem KV.put {kvs : List (κ × V)} {vs : List (κ × Value)} (r : KV kvs vs) (k : κ) {y : V} {u : Value} (ry : RelV y u) : KV (putK kvs k y) (stored vs k u) := by
  unfold putK stored
  rw [r.any k]
  by_cases e : (vs.any fun kv => decide (kv.1 = k)) = true
  · rw [if_pos e, if_pos e]; exact r.repl k ry
  · rw [if_neg e, if_neg e]; exact Paired.snoc r ⟨rfl, ry⟩
theorem KV.length {kvs : List (κ × V)} {vs : List (κ × Value)} (r : KV kvs vs) : kvs.length = vs.length := Paired.length r
end


/-! ### a tracked dict, its keys ints and texts or tuples of these -/
theorem kV_is {P : Program} {w : World} {k : Key} {u : Value} (r : RelV (kV k) u) : (mixKind P w).is k u = true := by
  cases k with
  | inl i => obtain ⟨t, e⟩ := (show ∃ t, u = Value.int i t from r); subst e; exact mixKind_int P w i t
  | inr x => obtain ⟨t, e⟩ := (show ∃ t, u = Value.str x t from r); subst e; exact mixKind_str P w x t
theorem items_are {P : Program} {w : World} : ∀ {ks : List Key} {us : List Value}, Vals (ks.map kV) us → ItemsAre (mixKind P w) ks us
  | [], _, r => by rw [List.map_nil] at r; cases r; exact .nil
  | k :: ks, _, r => by
    rw [List.map_cons] at r
    cases r with
    | cons h t => exact .cons (kV_is h) (items_are t)

/-- raw entries of a dict with tuple keys -/
abbrev KT (H : Hp) : List (List Key × V) → List (List Key × Addr × Value) → Prop := Paired fun p q => p.1 = q.1 ∧ H q.2.1 = some (.tup (p.1.map kV)) ∧ RelV p.2 q.2.2
theorem KT.val {H : Hp} {kvs : List (List Key × V)} {xs : List (List Key × Addr × Value)} (r : KT H kvs xs) (k : List Key) : RelO (valV kvs k) ((atKey xs k).map (·.2)) := by
  induction r with
  | nil => exact True.intro
  | @cons p q ps qs h t ih =>
    obtain ⟨h1, _, h2⟩ := h
    by_cases e : p.1 = k
    · have e' : q.1 = k := h1.symm.trans e
      have b : atKey (q :: qs) k = some q.2 := by simp [atKey, List.find?_cons, e']
      rw [valV_pos e, b]; exact h2
    · have e' : ¬ q.1 = k := fun z => e (h1.trans z)
      have b : atKey (q :: qs) k = atKey qs k := by simp [atKey, List.find?_cons, e']
      rw [valV_neg e, b]; exact ih
theorem KT.repl {H : Hp} {kvs : List (List Key × V)} {xs : List (List Key × Addr × Value)} (r : KT H kvs xs) (k : List Key) {y : V} {u : Value} (ry : RelV y u) :
    KT H (kvs.map fun kv => if kv.1 = k then (kv.1, y) else kv) (xs.map (putAt k u)) := by
  induction r with
  | nil => exact .nil
  | @cons p q ps qs h t ih =>
    rw [List.map_cons, List.map_cons]
    refine .cons ?_ ih
    obtain ⟨h1, h2, h3⟩ := h
    unfold putAt
    by_cases e : p.1 = k
    · rw [if_pos e, if_pos (h1.symm.trans e)]; exact ⟨h1, h2, ry⟩
    · rw [if_neg e, if_neg (fun z => e (h1.trans z))]; exact ⟨h1, h2, h3⟩
theorem KT.put {H : Hp} {kvs : List (List Key × V)} {xs : List (List Key × Addr × Value)} (r : KT H kvs xs) (k : List Key) {b : Addr} {y : V} {u : Value} (hb : H b = some (.tup (k.map kV))) (ry : RelV y u) :
    KT H (putK kvs k y) (storedH xs k b u) := by
  have e : (kvs.any fun kv => decide (kv.1 = k)) = (atKey xs k).isSome := by
    rw [valV_any, (r.val k).isSome_eq, Option.isSome_map]
  unfold putK storedH
  rw [e]
  by_cases q : (atKey xs k).isSome = true
  · rw [if_pos q, if_pos q]; exact r.repl k ry
  · rw [if_neg q, if_neg q]; exact Paired.snoc r ⟨rfl, hb, ry⟩
theorem KT.keeps {H H' : Hp} {kvs : List (List Key × V)} {xs : List (List Key × Addr × Value)} (r : KT H kvs xs) (ht : ∀ b ys, H b = some (.tup ys) → H' b = some (.tup ys)) : KT H' kvs xs :=
  Paired.mapP r fun _ _ z => ⟨z.1, ht _ _ z.2.1, z.2.2⟩

section
variable {P : Program} {w : World} {H : Hp} {h : Heap} {a : Addr}
theorem rd_of {u : HO} (ok : HOk P w H h) (e : Rd H a u) : ObjOk P w H h a u := e.ok ok
theorem dk_rd {kvs : List (Key × V)} (ok : HOk P w H h) (e : Rd H a (.dK kvs)) : kvs.length ≤ sizeLine ∧ (a == sysModules) = false ∧ ∃ vs, KV kvs vs ∧ h.DictOf (mixKind P w) a vs :=
  show ObjOk P w H h a (.dK kvs) from rd_of ok e
theorem dk_of {kvs : List (Key × V)} (ok : HOk P w H h) (e : H a = some (.dK kvs)) : kvs.length ≤ sizeLine ∧ (a == sysModules) = false ∧ ∃ vs, KV kvs vs ∧ h.DictOf (mixKind P w) a vs := dk_rd ok (.inl e)
/-- a tracked tuple of ints and texts is a key -/
theorem key_of {ks : List Key} (ok : HOk P w H h) (e : H a = some (.tup (ks.map kV))) : (tupleKind (mixKind P w)).is h ks a := by
  obtain ⟨_, its, r, o, h1, h2, n, h3⟩ := (show ObjOk P w H h a (.tup (ks.map kV)) from ok a _ e)
  exact ⟨o, its.toArray, n, h1, h2, h3, by simpa using items_are r⟩
theorem dt_rd {kvs : List (List Key × V)} (ok : HOk P w H h) (e : Rd H a (.dT kvs)) : kvs.length ≤ sizeLine ∧ (a == sysModules) = false ∧
    ∃ xs, KT H kvs xs ∧ h.DictOfH (tupleKind (mixKind P w)) a xs := by
  obtain ⟨z, y, xs, r, o, es, ep, h1, h2, h3, h4, h5⟩ := (show ObjOk P w H h a (.dT kvs) from rd_of ok e)
  refine ⟨z, y, xs, r, o, es, ep, h1, h2, h3, h4, fun x hx => ?_, h5⟩
  have all : ∀ {l : List (List Key × V)} {m : List (List Key × Addr × Value)}, KT H l m → ∀ x ∈ m, (tupleKind (mixKind P w)).is h x.1 x.2.1 := by
    intro l m q
    induction q with
    | nil => intro x hx; exact nomatch hx
    | @cons p q ps qs hq t ih =>
      intro x hx
      rcases List.mem_cons.mp hx with e | hx
      · subst e
        exact key_of ok (by rw [← hq.1]; exact hq.2.1)
      · exact ih x hx
  exact all r x hx
theorem dt_of {kvs : List (List Key × V)} (ok : HOk P w H h) (e : H a = some (.dT kvs)) : kvs.length ≤ sizeLine ∧ (a == sysModules) = false ∧
    ∃ xs, KT H kvs xs ∧ h.DictOfH (tupleKind (mixKind P w)) a xs := dt_rd ok (.inl e)
end

/-- what the dict at a holds at the key y -/
def DGet (H : Hp) (a : Addr) (y : V) (r : Option V) : Prop :=
  (∃ kvs k, Rd H a (.dK kvs) ∧ y = kV k ∧ r = valV kvs k) ∨ ∃ kvs k b, Rd H a (.dT kvs) ∧ y = .ref b ∧ H b = some (.tup (k.map kV)) ∧ r = valV kvs k
/-- the heap behind a[y] = v -/
def DPut (H : Hp) (a : Addr) (y v : V) (H' : Hp) : Prop :=
  (∃ kvs k, H a = some (.dK kvs) ∧ y = kV k ∧ kvs.length < sizeLine ∧ H' = upd H a (.dK (putK kvs k v))) ∨
  ∃ kvs k b, H a = some (.dT kvs) ∧ y = .ref b ∧ H b = some (.tup (k.map kV)) ∧ kvs.length < sizeLine ∧ H' = upd H a (.dT (putK kvs k v))
theorem DGet.k {H : Hp} {a : Addr} {kvs : List (Key × V)} {k : Key} (e : H a = some (.dK kvs)) : DGet H a (kV k) (valV kvs k) := .inl ⟨kvs, k, .inl e, rfl, rfl⟩
theorem DPut.k {H : Hp} {a : Addr} {kvs : List (Key × V)} {k : Key} {v : V} (e : H a = some (.dK kvs)) (hl : kvs.length < sizeLine) : DPut H a (kV k) v (upd H a (.dK (putK kvs k v))) := .inl ⟨kvs, k, e, rfl, hl, rfl⟩
section
variable {X : Cx} {pins : List (Addr × Obj)} {σ : St} {H : Hp} {s : Shared} {a : Addr} {y v : V} {u r : Value} {o : Option V} {A : Around} {E : Value → Shared → Prop}

theorem Inv.big (I : Inv X pins σ H s) : sysModules < s.heap.objs.size := by
  have h : mainGlobals < s.heap.objs.size := (I.mod.glob.keeps I.bk).lt
  exact Nat.lt_trans (by decide) h

/-- d[y], there -/
theorem d_getItem {Q : Value → Shared → Prop} (hu : A.units + 1 < cLine) (I : Inv X pins σ H s) (g : DGet H a y (some v)) (ry : RelV y u) (h : ∀ w' s', Inv X pins σ H s' → RelV v w' → Q w' s') :
    wpAny (model X.prog X.w) A (getItem (.ref a) u) Q E s := by
  rcases g with ⟨kvs, k, e, ey, l⟩ | ⟨kvs, k, b, e, ey, eb, l⟩
  · subst ey
    obtain ⟨z, hd, vs, rel, dd⟩ := dk_rd I.hok e
    obtain ⟨w', hw, rw'⟩ := RelO.some_of (v := v) (o := valueAt vs k) (by rw [l]; exact rel.val k)
    exact wpAny_getItem_of (kV_is ry) dd.mapOf hw (h w' _ (I.tok _) rw')
  · subst ey
    cases (show u = Value.ref b from ry)
    obtain ⟨z, hd, xs, rel, dd⟩ := dt_rd I.hok e
    obtain ⟨w', hw, rw'⟩ := RelO.some_of (v := v) (o := (atKey xs k).map (·.2)) (by rw [l]; exact rel.val k)
    obtain ⟨p, hp, hp2⟩ := Option.map_eq_some_iff.mp hw
    refine wpAny_getItem_heap (tupleKind_room_in1 hu) (key_of I.hok eb) dd hp ?_
    rw [hp2]
    exact h w' _ (I.tok _) rw'
/-- y in d -/
theorem d_in {Q : Value → Shared → Prop} (hu : A.units + 1 < cLine) (I : Inv X pins σ H s) (g : DGet H a y o) (ry : RelV y u) (h : ∀ s', Inv X pins σ H s' → Q (.bool o.isSome) s') :
    wpAny (model X.prog X.w) A (compareOp .In u (.ref a)) Q E s := by
  rcases g with ⟨kvs, k, e, ey, l⟩ | ⟨kvs, k, b, e, ey, eb, l⟩
  · subst ey
    obtain ⟨z, hd, vs, rel, dd⟩ := dk_rd I.hok e
    refine wpAny_in_of (kV_is ry) hd dd.mapOf ?_
    rw [← (rel.val k).isSome_eq, ← l]
    exact h _ (I.tok _)
  · subst ey
    cases (show u = Value.ref b from ry)
    obtain ⟨z, hd, xs, rel, dd⟩ := dt_rd I.hok e
    refine wpAny_in_heap (tupleKind_room_in1 hu) (key_of I.hok eb) hd dd ?_
    have q := (rel.val k).isSome_eq
    rw [Option.isSome_map] at q
    rw [← q, ← l]
    exact h _ (I.tok _)
theorem d_notIn {Q : Value → Shared → Prop} (hu : A.units + 1 < cLine) (I : Inv X pins σ H s) (g : DGet H a y o) (ry : RelV y u) (h : ∀ s', Inv X pins σ H s' → Q (.bool (!o.isSome)) s') :
    wpAny (model X.prog X.w) A (compareOp .NotIn u (.ref a)) Q E s := by
  rcases g with ⟨kvs, k, e, ey, l⟩ | ⟨kvs, k, b, e, ey, eb, l⟩
  · subst ey
    obtain ⟨z, hd, vs, rel, dd⟩ := dk_rd I.hok e
    refine wpAny_notIn_of (kV_is ry) hd dd.mapOf ?_
    rw [← (rel.val k).isSome_eq, ← l]
    exact h _ (I.tok _)
  · subst ey
    cases (show u = Value.ref b from ry)
    obtain ⟨z, hd, xs, rel, dd⟩ := dt_rd I.hok e
    refine wpAny_notIn_heap (tupleKind_room_in1 hu) (key_of I.hok eb) hd dd ?_
    have q := (rel.val k).isSome_eq
    rw [Option.isSome_map] at q
    rw [← q, ← l]
    exact h _ (I.tok _)
/-- a dict's object is replaced -/
theorem d_write {h' : Heap} {t' : Nat} {ob : HO} (I : Inv X pins σ H s) (mu : Mut (H a)) (hs : Heap.SameBut a s.heap h') (he : ∃ q, h'.get? a = some q) (new : ObjOk X.prog X.w (upd H a ob) h' a ob) :
    Inv X pins σ (upd H a ob) { s with heap := h', toks := t' } :=
  I.write (x := a) (e := a) mu (.inl rfl) (fun b q hb z => (hs.2 b hb).trans z) he new
theorem dk_new {P : Program} {w : World} {H' : Hp} {h' : Heap} {kvs : List (Key × V)} {vs : List (Key × Value)} (z : kvs.length ≤ sizeLine) (hd : (a == sysModules) = false) (rel : KV kvs vs) (dd : h'.DictOf (mixKind P w) a vs) :
    ObjOk P w H' h' a (.dK kvs) := ⟨z, hd, vs, rel, dd⟩
/-- d[y] = v -/
theorem d_setItem {H' : Hp} {Q : Unit → Shared → Prop} (hu : A.units + 1 < cLine) (I : Inv X pins σ H s) (g : DPut H a y v H') (ry : RelV y u) (rv : RelV v r) (h : ∀ s', Inv X pins σ H' s' → Q () s') :
    wpAny (model X.prog X.w) A (setItem (.ref a) u r) Q E s := by
  rcases g with ⟨kvs, k, e, ey, l, eH⟩ | ⟨kvs, k, b, e, ey, eb, l, eH⟩
  · subst ey eH
    obtain ⟨z, hd, vs, rel, dd⟩ := dk_of I.hok e
    have hz : vs.length ≤ sizeLine := by rw [← rel.length]; exact z
    have hl : (putK kvs k v).length ≤ sizeLine := by have := length_putK kvs k v; omega
    refine wpAny_setItem_pairs (hsz := hz) (kV_is ry) dd fun h' dd' hs => h _ ?_
    have he : ∃ q, h'.get? a = some q := let ⟨q, _, _, hq, _⟩ := dd'; ⟨q, hq⟩
    exact d_write I (by rw [e]; exact True.intro) hs he (dk_new hl hd (rel.put k rv) dd')
  · subst ey eH
    cases (show u = Value.ref b from ry)
    obtain ⟨z, hd, xs, rel, dd⟩ := dt_of I.hok e
    have hz : xs.length ≤ sizeLine := by rw [← Paired.length rel]; exact z
    have hl : (putK kvs k v).length ≤ sizeLine := by have := length_putK kvs k v; omega
    refine wpAny_setItem_heap (hsz := hz) (tupleKind_room_in1 hu) (key_of I.hok eb) dd fun h' dd' hs => h _ ?_
    obtain ⟨q, es, ep, hq, h2, h3, h4, _, h5⟩ := dd'
    refine d_write I (by rw [e]; exact True.intro) hs ⟨q, hq⟩ ⟨hl, hd, _, (rel.put k eb rv).keeps fun c ys ec => ?_, q, es, ep, hq, h2, h3, h4, h5⟩
    rw [upd_ne (ne_of ec e (fun z => nomatch z))]
    exact ec
end

section
variable {X : Cx} {pins : List (Addr × Obj)} {σ : St} {H : Hp} {s : Shared} {a : Addr} {kvs : List (Key × V)} {k : Key} {u : Value} {A : Around} {E : Value → Shared → Prop}
/-- len(d) -/
theorem d_len {Q : Value → Shared → Prop} (I : Inv X pins σ H s) (e : Rd H a (.dK kvs)) (h : ∀ t s', Inv X pins σ H s' → Q (.int kvs.length t) s') : wpAny (model X.prog X.w) A (call (.builtin "len") [.ref a]) Q E s := by
  obtain ⟨z, hd, vs, rel, dd⟩ := dk_rd I.hok e
  refine call_len_dict hd dd (by rw [← rel.length]; rw [sizeLine_eq] at z; omega) ?_
  rw [← rel.length]
  exact h _ _ (I.tok _)
end


/-! ### readings and rules -/
/-- the element of a subscription, not a slice -/
def NoSl (i : Expr) : Prop := ∀ ov iv, subscripted i false ov iv = operate [ov, iv] (getItem ov iv)
theorem subD_of {prog : Program} {w : World} {A : Around} {E : Value → Shared → Prop} {s : Shared} {env : Env} {value slice : Expr} {pos : Pos} {T id : String} {Q : Value → Shared → Prop}
    (hl : typeLookup (.type T) "__getitem__" = pure (some (.builtin id))) (hs : NoSl slice)
    (h : wpAny (model prog w) A (eval value env) (fun o s₁ => wpAny (model prog w) A (eval slice env) (fun i s₂ => s₂.TypeIs o T ∧ wpAny (model prog w) A (getItem o i) Q E s₂) E s₁) E s) :
    wpAny (model prog w) A (eval (.Subscript value slice pos) env) Q E s := by
  refine Subscript_ (wpAny_mono h (fun o s₁ h₁ => wpAny_mono h₁ (fun i s₂ h₂ => ?_) fun _ _ x => x) fun _ _ x => x)
  obtain ⟨hT, h₂⟩ := h₂
  unfold subscriptTail
  refine wpAny_bind ?_
  rw [getitemInPython_of_ne hT.not_modules]
  refine wpAny_bind (wpAny_specialOf hT hl ?_)
  have fin : wpAny (model prog w) A (subscripted slice false o i) (fun r s₃ => wpAny (model prog w) A (letTemporaryGo value o r >>= fun _ => pure r) Q E s₃) E s₂ := by
    rw [hs o i]
    exact wpAny_operating (wpAny_mono h₂ (fun r s₃ h₃ => wpAny_bind (wpAny_letTemporaryGo (wpAny_pure h₃))) fun _ _ x => x)
  first
    | exact wpAny_pure (wpAny_bind fin)
    | exact wpAny_bind (wpAny_pure (wpAny_bind fin))
    | exact wpAny_bind fin

theorem dict_typeIs {X : Cx} {pins : List (Addr × Obj)} {σ : St} {H : Hp} {s : Shared} {a : Addr} {y : V} {o : Option V} (I : Inv X pins σ H s) (g : DGet H a y o) : s.TypeIs (.ref a) "dict" := by
  rcases g with ⟨kvs, k, e, _, _⟩ | ⟨kvs, k, b, e, _, _, _⟩
  · obtain ⟨_, _, vs, _, dd⟩ := dk_rd I.hok e
    exact dd.typeIs
  · obtain ⟨_, _, xs, _, dd⟩ := dt_rd I.hok e
    exact dd.typeIs
/-- d[y] -/
def tDGet (td ty : TE) : TE := fun σ H Q => td σ H fun x H1 => ty σ H1 fun y H2 => ∃ a v, x = .ref a ∧ DGet H2 a y (some v) ∧ Q v H2
/-- y in d, y not in d -/
def tDIn (ty td : TE) : TE := fun σ H Q => ty σ H fun y H1 => td σ H1 fun x H2 => ∃ a o, x = .ref a ∧ DGet H2 a y o ∧ Q (.bl o.isSome) H2
def tDNotIn (ty td : TE) : TE := fun σ H Q => ty σ H fun y H1 => td σ H1 fun x H2 => ∃ a o, x = .ref a ∧ DGet H2 a y o ∧ Q (.bl (!o.isSome)) H2
/-- d[y] = v -/
def sDPut (td ty tv : TE) : TS := fun D σ H => tv σ H fun v H1 => td σ H1 fun x H2 => ty σ H2 fun y H3 => ∃ a H4, x = .ref a ∧ DPut H3 a y v H4 ∧ D.nx σ H4
/-- d[y] op= v -/
def sDAug (td ty tv : TE) (rd : V → V → Hp → VK → Prop) : TS := fun D σ H => td σ H fun x H1 => ty σ H1 fun y H2 => ∃ a v, x = .ref a ∧ DGet H2 a y (some v) ∧
  tv σ H2 fun y2 H3 => rd v y2 H3 fun z H4 => ∃ H5, DPut H4 a y z H5 ∧ D.nx σ H5
/-- del d[y] -/
def sDDel (td ty : TE) : TS := fun D σ H => td σ H fun x H1 => ty σ H1 fun y H2 => ∃ a kvs k, x = .ref a ∧ H2 a = some (.dK kvs) ∧ y = kV k ∧ (valV kvs k).isSome = true ∧ D.nx σ (upd H2 a (.dK (dropK kvs k)))

section
variable {X : Cx} {o i e value : Expr} {pos pos' tpos : Pos} {td ty tv : TE}
theorem pe_dget (hu : X.A.units + 1 < cLine) (ho : PE X o td) (hi : PE X i ty) (hs : NoSl i) : PE X (.Subscript o i pos) (tDGet td ty) := by
  intro pins s σ H Q I h
  refine subD_of PySem.F.slot_dict_getitem.lookup hs (thn (ho pins s σ H _ I h) fun u s1 ⟨x, H1, I1, rx, q1⟩ => thn (hi pins s1 σ H1 _ I1 q1) fun iv s2 ⟨y, H2, I2, ry, a, v, ex, g, q2⟩ => ?_)
  subst ex
  obtain rfl : u = Value.ref a := rx
  exact ⟨dict_typeIs I2 g, d_getItem hu I2 g ry fun w' s3 I3 rw' => ⟨v, H2, I3, rw', q2⟩⟩
theorem pc_din (hu : X.A.units + 1 < cLine) (hi : PE X i ty) (ho : PE X o td) : PC X .In i o (tDIn ty td) := by
  intro pins s σ H Q I h
  refine thn (hi pins s σ H _ I h) fun iv s1 ⟨y, H1, I1, ry, q1⟩ => thn (ho pins s1 σ H1 _ I1 q1) fun u s2 ⟨x, H2, I2, rx, a, ov, ex, g, q2⟩ => ?_
  subst ex
  obtain rfl : u = Value.ref a := rx
  exact d_in hu I2 g ry fun s3 I3 => ⟨.bl ov.isSome, H2, I3, rfl, q2⟩
theorem pc_dnotin (hu : X.A.units + 1 < cLine) (hi : PE X i ty) (ho : PE X o td) : PC X .NotIn i o (tDNotIn ty td) := by
  intro pins s σ H Q I h
  refine thn (hi pins s σ H _ I h) fun iv s1 ⟨y, H1, I1, ry, q1⟩ => thn (ho pins s1 σ H1 _ I1 q1) fun u s2 ⟨x, H2, I2, rx, a, ov, ex, g, q2⟩ => ?_
  subst ex
  obtain rfl : u = Value.ref a := rx
  exact d_notIn hu I2 g ry fun s3 I3 => ⟨.bl (!ov.isSome), H2, I3, rfl, q2⟩
theorem ps_dput (hu : X.A.units + 1 < cLine) (ho : PE X o td) (hi : PE X i ty) (hv : PE X value tv) (hs : swapsWith value (some (.Subscript o i pos')) pos.line X.env = pure false) :
    PS X (.Assign [.Subscript o i pos'] value pos) (sDPut td ty tv) := by
  intro pins s σ H D I h
  refine wpAny_Assign_Subscript (thn (hv pins s σ H _ I h) fun r s1 ⟨v, H1, I1, rv, q1⟩ => thn (ho pins s1 σ H1 _ I1 q1) fun u s2 ⟨x, H2, I2, rx, q2⟩ => thn (hi pins s2 σ H2 _ I2 q2) fun iv s3 ⟨y, H3, I3, ry, a, H4, ex, g, q3⟩ => ?_) hs
  subst ex
  obtain rfl : u = Value.ref a := rx
  exact d_setItem hu I3 g ry rv fun s4 I4 => ⟨σ, H4, I4, q3⟩
end


/-! ### displays -/
theorem dk_empty {P : Program} {w : World} {H : Hp} (h : Heap) (hb : sysModules < h.objs.size) : ObjOk P w H (h.push { cls := .type "dict", data := .dict #[] }) h.objs.size (.dK []) :=
  ⟨Nat.zero_le _, beq_eq_false_iff_ne.mpr (Ne.symm (Nat.ne_of_lt hb)), [], .nil, Heap.DictOf.new h⟩
/-- {}, to be a dict of the kind that is wanted -/
def tDNewK : TE := fun _ H Q => ∀ p, H p = none → Q (.ref p) (upd H p (.dK []))
def tDNewT : TE := fun _ H Q => ∀ p, H p = none → Q (.ref p) (upd H p (.dT []))
section
variable {X : Cx} {pos : Pos}
theorem pe_dnewK : PE X (.Dict [] [] pos) tDNewK := fun pins s σ H Q I h =>
  wpAny_Dict_empty ⟨.ref s.heap.objs.size, _, I.laid (a := s.heap.objs.size) (o := .dK []) (t' := s.toks) (fun _ _ q => Heap.get?_push_of_some _ q) (Nat.le_refl _) (dk_empty s.heap I.big), rfl, h _ (I.hok.fresh (Nat.le_refl _))⟩
end

/-- the pairs of a display, from the left -/
def tPairs : List (TE × TE) → St → Hp → (List (V × V) → Hp → Prop) → Prop
  | [], _, H, Q => Q [] H
  | (tk, tv) :: r, σ, H, Q => tk σ H fun x H1 => tv σ H1 fun y H2 => tPairs r σ H2 fun ps H3 => Q ((x, y) :: ps) H3
abbrev VV : List (V × V) → List (Value × Value) → Prop := Paired fun p q => RelV p.1 q.1 ∧ RelV p.2 q.2
def PPs (X : Cx) (pos : Pos) (keys : List (Option Expr)) (values : List Expr) (trs : List (TE × TE)) : Prop :=
  ∀ (pins : List (Addr × Obj)) (s : Shared) (σ : St) (H : Hp) (Q : List (V × V) → Hp → Prop), Inv X pins σ H s → tPairs trs σ H Q →
    wpAny (model X.prog X.w) X.A (evalPairs (pairTrees keys values X.env pos)) (fun vs s' => ∃ ps H', Inv X pins σ H' s' ∧ VV ps vs ∧ Q ps H') X.xe s
theorem pps_nil {X : Cx} {pos : Pos} : PPs X pos [] [] [] := fun pins s σ H Q I h => pairTrees_nil_walk ⟨[], H, I, .nil, h⟩
theorem pps_cons {X : Cx} {pos : Pos} {k v : Expr} {ks : List (Option Expr)} {vs : List Expr} {tk tv : TE} {trs : List (TE × TE)} (hk : PE X k tk) (hv : PE X v tv) (hr : PPs X pos ks vs trs) :
    PPs X pos (some k :: ks) (v :: vs) ((tk, tv) :: trs) := fun pins s σ H Q I h =>
  pairTrees_cons_walk (thn (hk pins s σ H _ I h) fun u s1 ⟨x, H1, I1, rx, q1⟩ => thn (hv pins s1 σ H1 _ I1 q1) fun w2 s2 ⟨y, H2, I2, ry, q2⟩ =>
    thn (hr pins s2 σ H2 _ I2 q2) fun ws s3 ⟨ps, H3, I3, rel, q3⟩ => ⟨(x, y) :: ps, H3, I3, .cons ⟨rx, ry⟩ rel, q3⟩)

def mergeK (kvs more : List (Key × V)) : List (Key × V) := more.foldl (fun acc kv => putK acc kv.1 kv.2) kvs
theorem KV.merge : ∀ {more : List (Key × V)} {rs : List (Key × Value)} {kvs : List (Key × V)} {vs : List (Key × Value)}, KV more rs → KV kvs vs → KV (mergeK kvs more) (merged vs rs) := by
  intro more rs kvs vs r
  unfold KV at r
  induction r generalizing kvs vs with
  | nil => intro q; exact q
  | @cons p q ps qs h t ih =>
    intro r0
    have e : KV (putK kvs p.1 p.2) (stored vs q.1 q.2) := by
      have := r0.put p.1 h.2
      rw [← h.1]; exact this
    exact ih e
theorem length_mergeK : ∀ (more kvs : List (Key × V)), (mergeK kvs more).length ≤ kvs.length + more.length
  | [], kvs => by show kvs.length ≤ kvs.length + 0; omega
  | p :: r, kvs => by
    have h1 := length_mergeK r (putK kvs p.1 p.2)
    have h2 := length_putK kvs p.1 p.2
    show (mergeK (putK kvs p.1 p.2) r).length ≤ _
    rw [List.length_cons]; omega
theorem carries_of {P : Program} {w : World} : ∀ {kvs : List (Key × V)} {ws : List (Value × Value)}, VV (kvs.map fun kv => (kV kv.1, kv.2)) ws → ∃ rs, Carries (mixKind P w) ws rs ∧ KV kvs rs
  | [], _, r => by rw [List.map_nil] at r; cases r; exact ⟨[], True.intro, .nil⟩
  | p :: kvs, _, r => by
    rw [List.map_cons] at r
    cases r with
    | @cons a b as bs h t =>
      obtain ⟨rs, c, q⟩ := carries_of (P := P) (w := w) t
      obtain ⟨b1, b2⟩ := b
      exact ⟨(p.1, b2) :: rs, ⟨kV_is h.1, rfl, c⟩, .cons ⟨rfl, h.2⟩ q⟩
/-- {k: v, ..} with keys ints and texts; the new dict stands empty while the pairs are made -/
def tDisp (trs : List (TE × TE)) : TE := fun σ H Q => ∀ p, H p = none → tPairs trs σ (upd H p (.dK [])) fun ps H2 => H2 p = some (.dK []) ∧ ∃ kvs : List (Key × V), ps = kvs.map (fun kv => (kV kv.1, kv.2)) ∧ kvs.length ≤ 15 ∧ Q (.ref p) (upd H2 p (.dK (mergeK [] kvs)))
theorem pe_disp {X : Cx} {pos : Pos} {keys : List (Option Expr)} {values : List Expr} {trs : List (TE × TE)} (h : PPs X pos keys values trs) (hall : keys.all (·.isSome) = true) (hl : keys.length = values.length) (h0 : keys ≠ [])
    (h15 : keys.length ≤ 15) : PE X (.Dict keys values pos) (tDisp trs) := by
  intro pins s σ H Q I q
  have hn := I.hok.fresh (Nat.le_refl s.heap.objs.size)
  have I1 := I.laid (a := s.heap.objs.size) (o := .dK []) (h' := s.heap.push { cls := .type "dict", data := .dict #[] }) (t' := s.toks) (fun _ _ q => Heap.get?_push_of_some _ q) (Nat.le_refl _) (dk_empty s.heap I.big)
  refine wpAny_Dict_walk (knd := mixKind X.prog X.w) hall hl h0 h15 (thn (h pins _ σ _ _ I1 (q _ hn)) fun ws s2 ⟨ps, H2, I2, rel, e, kvs, ep, lk, q2⟩ => ?_)
  subst ep
  obtain ⟨rs, c, rk⟩ := carries_of (P := X.prog) (w := X.w) rel
  obtain ⟨z, hd, vs0, r0, dd⟩ := dk_of I2.hok e
  cases r0
  refine ⟨rs, c, dd, fun h' dd' hs => ⟨.ref s.heap.objs.size, _, ?_, rfl, q2⟩⟩
  have hz : (mergeK [] kvs).length ≤ sizeLine := by
    have h1 := length_mergeK kvs []
    rw [List.length_nil] at h1
    rw [sizeLine_eq]; omega
  have he : ∃ q, h'.get? s.heap.objs.size = some q := let ⟨q, _, _, hq, _⟩ := dd'; ⟨q, hq⟩
  exact d_write I2 (by rw [e]; exact True.intro) hs he (dk_new hz hd (rk.merge .nil) dd')


/-! ### methods -/
/-- a method call o.m(e) of a built-in, with one argument: what must be seen of the text -/
structure M1 (X : Cx) (o : Expr) (m : Str) (apos : Pos) (e : Expr) (cpos : Pos) : Prop where
  base : attributeBase o m X.env (eval o X.env) = eval o X.env
  few : ((backTo cpos (starEach [e] X.env)).all (fun x => !x.1) && (backToKw cpos (keywordEach [] X.env)).all (fun x => x.1.isSome)
    && decide (([e] : List Expr).length + ([] : List Keyword).length + (if ([] : List Keyword).isEmpty then 0 else 1) < 30)) = true
  line : (apos.endLine == cpos.line) = true
  trees : backTo cpos (starEach [e] X.env) = [(false, eval e X.env)]
structure M2 (X : Cx) (o : Expr) (m : Str) (apos : Pos) (e f : Expr) (cpos : Pos) : Prop where
  base : attributeBase o m X.env (eval o X.env) = eval o X.env
  few : ((backTo cpos (starEach [e, f] X.env)).all (fun x => !x.1) && (backToKw cpos (keywordEach [] X.env)).all (fun x => x.1.isSome)
    && decide (([e, f] : List Expr).length + ([] : List Keyword).length + (if ([] : List Keyword).isEmpty then 0 else 1) < 30)) = true
  line : (apos.endLine == cpos.line) = true
  trees : backTo cpos (starEach [e, f] X.env) = [(false, eval e X.env), (false, eval f X.env)]

/-- a is a dict, whatever its keys -/
def IsD (H : Hp) (a : Addr) : Prop := (∃ kvs, Rd H a (.dK kvs)) ∨ ∃ kvs, Rd H a (.dT kvs)
theorem isD_at {X : Cx} {pins : List (Addr × Obj)} {σ : St} {H : Hp} {s : Shared} {a : Addr} (I : Inv X pins σ H s) (d : IsD H a) :
    s.TypeIs (.ref a) "dict" ∧ (∀ b, Value.ref a = .ref b → ∃ ob, s.heap.get? b = some ob ∧ ob.dict = none) ∧ (a == sysModules) = false := by
  rcases d with ⟨kvs, e⟩ | ⟨kvs, e⟩
  · obtain ⟨_, hd, vs, _, dd⟩ := dk_rd I.hok e
    refine ⟨dd.typeIs, fun b q => ?_, hd⟩
    cases q
    obtain ⟨ob, _, _, h1, h2, _⟩ := dd
    exact ⟨ob, h1, h2.2.1⟩
  · obtain ⟨_, hd, xs, _, dd⟩ := dt_rd I.hok e
    refine ⟨dd.typeIs, fun b q => ?_, hd⟩
    cases q
    obtain ⟨ob, _, _, h1, h2, _⟩ := dd
    exact ⟨ob, h1, h2.2.1⟩

section
variable {X : Cx} {pins : List (Addr × Obj)} {σ : St} {H : Hp} {s : Shared} {a : Addr} {y d : V} {u r : Value} {o : Option V} {A : Around} {E : Value → Shared → Prop}
/-- d.get(y) -/
theorem d_get1 {Q : Value → Shared → Prop} (hu : A.units + 1 < cLine) (I : Inv X pins σ H s) (g : DGet H a y o) (ry : RelV y u) (h : ∀ w' s', Inv X pins σ H s' → RelV (o.getD .non) w' → Q w' s') :
    wpAny (model X.prog X.w) A (call (.builtin "dict.get") [.ref a, u]) Q E s := by
  rcases g with ⟨kvs, k, e, ey, l⟩ | ⟨kvs, k, b, e, ey, eb, l⟩
  · subst ey
    obtain ⟨z, hd, vs, rel, dd⟩ := dk_rd I.hok e
    refine call_meetsIn PySem.F.slot_dict_get dd.typeIs PySem.F.entry_dict_get (PySem.F.args_dict_get_2 _ _) (meets_dict_get (mixKind X.prog X.w) a (kV_is ry) hd) ⟨_, dd.mapOf, h _ _ (I.tok _) ?_⟩
    rw [l]
    exact (rel.val k).getD rfl
  · subst ey
    cases (show u = Value.ref b from ry)
    obtain ⟨z, hd, xs, rel, dd⟩ := dt_rd I.hok e
    refine call_meetsIn PySem.F.slot_dict_get dd.typeIs PySem.F.entry_dict_get (PySem.F.args_dict_get_2 _ _) (meetsH_dict_get (tupleKind (mixKind X.prog X.w)) a b hd) ⟨tupleKind_room_in1 hu, k, xs, key_of I.hok eb, dd, h _ _ (I.tok _) ?_⟩
    rw [l]
    exact (rel.val k).getD rfl
end

def tDGet1 (td ty : TE) : TE := fun σ H Q => td σ H fun x H1 => ∃ a, x = .ref a ∧ IsD H1 a ∧ ty σ H1 fun y H2 => ∃ o, DGet H2 a y o ∧ Q (o.getD .non) H2
def tDGet2 (td ty tx : TE) : TE := fun σ H Q => td σ H fun x H1 => ∃ a, x = .ref a ∧ IsD H1 a ∧ ty σ H1 fun y H2 => tx σ H2 fun z H3 => ∃ o, DGet H3 a y o ∧ Q (o.getD z) H3
/-- d.pop(k): there; d.pop(k, x): there or not -/
def tDPop1 (td ty : TE) : TE := fun σ H Q => td σ H fun x H1 => ∃ a, x = .ref a ∧ IsD H1 a ∧ ty σ H1 fun y H2 => ∃ kvs k v, H2 a = some (.dK kvs) ∧ y = kV k ∧ valV kvs k = some v ∧ Q v (upd H2 a (.dK (dropK kvs k)))
def tDPop2 (td ty tx : TE) : TE := fun σ H Q => td σ H fun x H1 => ∃ a, x = .ref a ∧ IsD H1 a ∧ ty σ H1 fun y H2 => tx σ H2 fun z H3 => ∃ kvs k, H3 a = some (.dK kvs) ∧ y = kV k ∧
  (∀ v, valV kvs k = some v → Q v (upd H3 a (.dK (dropK kvs k)))) ∧ (valV kvs k = none → Q z H3)
section
variable {X : Cx} {o e f : Expr} {apos cpos : Pos} {td ty tx : TE}
theorem pe_dget1 (hu : X.A.units + 1 < cLine) (ho : PE X o td) (he : PE X e ty) (m : M1 X o "get" apos e cpos) : PE X (.Call (.Attribute o "get" apos) [e] [] cpos) (tDGet1 td ty) := by
  intro pins s σ H Q I h
  refine wpAny_Call_method m.base m.few m.line PySem.F.plainAttrs_dict PySem.F.slot_dict_get PySem.F.type_dict_get (thn (ho pins s σ H _ I h) fun u s1 ⟨x, H1, I1, rx, a, ex, d, q1⟩ => ?_)
  subst ex
  obtain rfl : u = Value.ref a := rx
  obtain ⟨t1, t2, _⟩ := isD_at I1 d
  refine ⟨t1, t2, ?_⟩
  rw [m.trees]
  refine Calls.callWith_builtin rfl (Calls.evalArgs_plain (Calls.spliced_cons (thn (he pins s1 σ H1 _ I1 q1) fun iv s2 ⟨y, H2, I2, ry, ov, g, q2⟩ => Calls.spliced_nil ?_)))
  exact d_get1 hu I2 g ry fun w' s3 I3 rw' => ⟨_, H2, I3, rw', q2⟩
end

/-! ### dict(d): a copy -/
section
variable {X : Cx} {pins : List (Addr × Obj)} {σ : St} {H : Hp} {s : Shared} {a : Addr} {kvs : List (Key × V)} {A : Around} {E : Value → Shared → Prop}
end


section
variable {X : Cx} {pins : List (Addr × Obj)} {σ : St} {H : Hp} {s : Shared} {a : Addr} {y : V} {u : Value} {A : Around} {E : Value → Shared → Prop}
end
end L2

namespace L2
open PySem PySem.Spec PyProof.Rows
section
variable {X : Cx}
/-- len of a dict -/
theorem call_lenD : CallR X (.builtin "len") (fun xs H Q => ∃ a kvs, xs = [V.ref a] ∧ H a = some (.dK kvs) ∧ Q (.int kvs.length) H) := by
  intro pins s σ H xs us Q I r h
  obtain ⟨a, kvs, rfl, ha, q⟩ := h
  obtain ⟨u, rfl, ru⟩ := vals1 r
  cases ru
  exact d_len I (.inl ha) fun t s' I' => ⟨.int kvs.length, H, I', ⟨t, rfl⟩, q⟩
end
/-! ### a dict's pairs: keys that differ -/
section
variable {κ : Type} [DecidableEq κ]
end
end L2

set_option Elab.async false
set_option linter.all false
set_option maxRecDepth 100000
set_option maxHeartbeats 2000000
namespace Mq
end Mq
namespace L2
open PySem PySem.Spec PyProof.Rows
def trn : Kd → Mq.Q2 → Mq.Q2
  | .pc, p => p
  | _, p => Mq.neg p
def strm : Kd → Mq.Q2 → Mq.Q2 → Mq.Q2 → Mq.Q2
  | .pc, u, _, p => Mq.over u p
  | .pu, _, _, p => p
  | .ho, _, v, _ => v
def spTurn (K : PySem.W.Frag) (CK : Kd → Addr) (k : Kd) : Sp := fun vs H Q _ => ∃ (x z : Addr) (s g : V) (p : Mq.Q2) (n : Nat), vs = [.ref x] ∧ Rw CK H x k s g (.ref z) ∧ Fq K H z p ∧ Mq.Low p ∧ Mq.Bd n p ∧ n + 10 ≤ 9000 ∧
  ∀ x' z' H', Same H H' → H x' = none → Rw CK H' x' k g s (.ref z') → Fq K H' z' (trn k p) → Q (.ref x') H'
def spStream (K : PySem.W.Frag) (CK : Kd → Addr) (k : Kd) : Sp := fun vs H Q _ => ∃ (x z a h : Addr) (s g : V) (p u v : Mq.Q2) (n m : Nat), vs = [.ref x, .ref a, .ref h] ∧ Rw CK H x k s g (.ref z) ∧ Fq K H z p ∧ Fq K H a u ∧ Fq K H h v ∧ 1 ≤ p.2 ∧ 1 ≤ u.2 ∧ Mq.Bd n p ∧ Mq.Bd m u ∧ n + m + 1 ≤ 9000 ∧ (k = .pc → p.1 ≠ 0) ∧
  ∀ r H', Same H H' → Fq K H' r (strm k u v p) → Q (.ref r) H'
def spAtL (K : PySem.W.Frag) (CK : Kd → Addr) : Sp := fun vs H Q _ => ∃ (x l : Addr) (k : Kd) (i j : Int) (z v w : V) (xs : List V), vs = [.ref x, .ref l] ∧ Rw CK H x k (.int i) (.int j) z ∧ SqL K H l xs ∧ atI xs i = some v ∧ atI xs j = some w ∧ NewR CK H Q k v w z
def spAtD (K : PySem.W.Frag) (CK : Kd → Addr) : Sp := fun vs H Q _ => ∃ (x l : Addr) (k : Kd) (i j : Int) (z v w : V) (kvs : List (Key × V)), vs = [.ref x, .ref l] ∧ Rw CK H x k (.int i) (.int j) z ∧ H l = some (.dK kvs) ∧ valV kvs (Sum.inl i : Key) = some v ∧ valV kvs (Sum.inl j : Key) = some w ∧ NewR CK H Q k v w z
/-- a module's own tuple of two numbers -/
theorem Fq.mod {K : PySem.W.Frag} {a : Addr} {d : Option Addr} {n : Nat} {sl : Array (Option Value)} {i j : Int} {t u : Tok} (l : K.lookup a = some ⟨.type "tuple", d, .seq #[.int i t, .int j u] n, sl⟩) (H : Hp) : Fq K H a (i, j) :=
  .inr ⟨_, _, _, l, rfl, rfl, (by show 2 ≤ sizeLine; decide), .cons ⟨_, rfl⟩ (.cons ⟨_, rfl⟩ .nil)⟩
end L2

set_option Elab.async false
set_option linter.all false
set_option maxRecDepth 100000
set_option maxHeartbeats 2000000
namespace L2
open PySem PySem.Spec PyProof.Rows
/-! ### nets -/
abbrev RD := Kd × Int × Int × Mq.Q2
/-- tuples of rows -/
inductive Rts (K : PySem.W.Frag) (H : Hp) : List V → List RD → Prop where
  | nil : Rts K H [] []
  | cons {t z : Addr} {k : Kd} {i j : Int} {p : Mq.Q2} {xs : List V} {ds : List RD} (h : SqT K H t [.str k.wd, .int i, .int j, .ref z]) (f : Fq K H z p) (q : Rts K H xs ds) : Rts K H (.ref t :: xs) ((k, i, j, p) :: ds)
section
variable {K : PySem.W.Frag} {H H' : Hp}
theorem Rts.same (e : Same H H') : ∀ {xs : List V} {ds : List RD}, Rts K H xs ds → Rts K H' xs ds
  | _, _, .nil => .nil
  | _, _, .cons h f q => .cons (e.seqT h) (e.fq f) (Rts.same e q)
theorem Rts.length : ∀ {xs : List V} {ds : List RD}, Rts K H xs ds → xs.length = ds.length
  | _, _, .nil => rfl
  | _, _, .cons _ _ q => by simp [Rts.length q]
theorem Rts.app : ∀ {xs ys : List V} {ds es : List RD}, Rts K H xs ds → Rts K H ys es → Rts K H (xs ++ ys) (ds ++ es)
  | _, _, _, _, .nil, r => r
  | _, _, _, _, .cons h f q, r => .cons h f (Rts.app q r)
theorem Rts.at : ∀ {xs : List V} {ds : List RD} {q : Nat} {d : RD}, Rts K H xs ds → ds[q]? = some d → ∃ t z, xs[q]? = some (.ref t) ∧ SqT K H t [.str d.1.wd, .int d.2.1, .int d.2.2.1, .ref z] ∧ Fq K H z d.2.2.2
  | _, _, _, _, .nil, h => by simp at h
  | _, _, 0, _, .cons h f _, e => by simp at e; subst e; exact ⟨_, _, rfl, h, f⟩
  | _, _, i + 1, _, .cons _ _ q, e => by simpa using Rts.at q (by simpa using e)
theorem Rts.set {t z : Addr} {k : Kd} {i j : Int} {p : Mq.Q2} (h : SqT K H t [.str k.wd, .int i, .int j, .ref z]) (f : Fq K H z p) : ∀ {xs : List V} {ds : List RD} (q : Nat), Rts K H xs ds → Rts K H (xs.set q (.ref t)) (ds.set q (k, i, j, p))
  | _, _, _, .nil => .nil
  | _, _, 0, .cons _ _ q => .cons h f q
  | _, _, n + 1, .cons a b q => .cons a b (Rts.set h f n q)
theorem Rts.upd {l : Addr} {ys : List V} {o : HO} (hl : H l = some (.lst ys)) : ∀ {xs : List V} {ds : List RD}, Rts K H xs ds → Rts K (L2.upd H l o) xs ds
  | _, _, .nil => .nil
  | _, _, .cons h f q => .cons (h.upd hl) (f.upd hl) (Rts.upd hl q)
def rdd (d : RD) : PyData := rd4 d.1.wd d.2.1 d.2.2.1 d.2.2.2
end
/-- all but the object at l is as it was -/
def SameX (l : Addr) (H H' : Hp) : Prop := ∀ b o, H b = some o → b ≠ l → H' b = some o
theorem Same.x {l : Addr} {H H' : Hp} (s : Same H H') : SameX l H H' := fun b o h _ => s b o h
theorem SameX.write {l : Addr} {H H1 : Hp} {o : HO} (a : SameX l H H1) : SameX l H (upd H1 l o) := fun c u h n => by rw [upd_ne n]; exact a c u h n
section
variable {K : PySem.W.Frag} {H H' : Hp} {l : Addr}
theorem SameX.seqT {a : Addr} {xs ys : List V} (hl : H l = some (.lst ys)) (e : SameX l H H') (h : SqT K H a xs) : SqT K H' a xs := by
  rcases h with (h | ⟨u, h⟩) | h
  · exact .inl (.inl (e _ _ h (ne_of h hl (fun z => by cases z))))
  · exact .inl (.inr ⟨u, e _ _ h (ne_of h hl (fun z => by cases z))⟩)
  · exact .inr h
theorem SameX.rts {ys : List V} (hl : H l = some (.lst ys)) (e : SameX l H H') : ∀ {xs : List V} {ds : List RD}, Rts K H xs ds → Rts K H' xs ds
  | _, _, .nil => .nil
  | _, _, .cons h f q => .cons (e.seqT hl h) (e.seqT hl f) (SameX.rts hl e q)
end
theorem fpk : ¬ (("point_count" : Str) = "kept") := by decide +kernel
/-- a net's fields -/
def nflds (m : Int) (l : Addr) : List (Str × V) := putF "kept" (.ref l) (putF "point_count" (.int m) [])
theorem nflds_pc (m : Int) (l : Addr) : (nflds m l).lookup ("point_count" : Str) = some (.int m) := by
  unfold nflds
  rw [lookup_putF, if_neg fpk, lookup_putF, if_pos rfl]
theorem nflds_kept (m : Int) (l : Addr) : (nflds m l).lookup ("kept" : Str) = some (.ref l) := by
  unfold nflds
  rw [lookup_putF, if_pos rfl]
theorem nflds_no (m : Int) (l : Addr) {x : Str} (h1 : ¬ x = "point_count") (h2 : ¬ x = "kept") : (nflds m l).lookup x = none := by
  unfold nflds
  rw [lookup_putF, if_neg h2, lookup_putF, if_neg h1]
  rfl
/-- a good row for m points -/
def RdOk (m : Int) (d : RD) : Prop := 0 ≤ d.2.1 ∧ d.2.1 < m ∧ 0 ≤ d.2.2.1 ∧ d.2.2.1 < m ∧ Mq.Low d.2.2.2 ∧ (d.1 = .pc → 0 < d.2.2.2.1) ∧ Mq.Bd 100 d.2.2.2
/-- a net stands at n, its rows in the list at l -/
structure NetAt (CN : Addr) (K : PySem.W.Frag) (H : Hp) (n l : Addr) (m : Int) (ds : List RD) : Prop where
  ob : ∃ dx, H n = some (.ins CN dx (nflds m l))
  ls : ∃ ts, H l = some (.lst ts) ∧ Rts K H ts ds
theorem NetAt.same {CN : Addr} {K : PySem.W.Frag} {H H' : Hp} {n l : Addr} {m : Int} {ds : List RD} (e : Same H H') (h : NetAt CN K H n l m ds) : NetAt CN K H' n l m ds :=
  let ⟨⟨dx, a⟩, ts, b, c⟩ := h; ⟨⟨dx, e _ _ a⟩, ts, e _ _ b, c.same e⟩
theorem NetAt.x {CN : Addr} {K : PySem.W.Frag} {H H' : Hp} {n l q : Addr} {m : Int} {ds : List RD} {ys : List V} (hq : H q = some (.lst ys)) (e : SameX q H H') (ne : l ≠ q) (h : NetAt CN K H n l m ds) : NetAt CN K H' n l m ds :=
  let ⟨⟨dx, a⟩, ts, b, c⟩ := h; ⟨⟨dx, e _ _ a (ne_of a hq (fun z => by cases z))⟩, ts, e _ _ b ne, e.rts hq c⟩
/-- what the text says of the class Net -/
structure NT (K : PySem.W.Frag) (mg : Str → Option Value) (CN : Addr) : Prop where
  cl : Cls K CN
  nP : NoAttr K CN "point_count"
  nK : NoAttr K CN "kept"
  t1 : PySem.W.findIn K (.ref CN) "__class__" = some (some (.builtin "object.__class__"))
  t2 : PySem.W.specialIn K (.builtin "object.__class__") "__get__" = some (some (.builtin "getset_descriptor.__get__"))
  t3 : PySem.W.takesIn K (.builtin "object.__class__") = some true
  t4 : PySem.W.mroIn K CN (.type "object") = some true
  mN : mg "Net" = some (.ref CN)
/-! promises, the good ways -/
def spRowOfG (K : PySem.W.Frag) (CK : Kd → Addr) : Sp := fun vs H Q _ => ∃ (t : Addr) (v s g z : V), vs = [.ref t] ∧ SqT K H t [v, s, g, z] ∧ ∃ k : Kd, v = .str k.wd ∧ NewR CK H Q k s g z
def spIsF (K : PySem.W.Frag) : Sp := fun vs H Q _ => ∃ (a : Addr) (p : Mq.Q2), vs = [.ref a] ∧ Fq K H a p ∧ Mq.Low p ∧ Q (.bl true) H
def spPS (K : PySem.W.Frag) : Sp := fun vs H Q _ => ∃ (a : Addr) (p : Mq.Q2) (n : Nat), vs = [.ref a] ∧ Fq K H a p ∧ Mq.Low p ∧ 0 < p.1 ∧ Mq.Bd n p ∧ n ≤ 8000 ∧ Q (.bl true) H
def spNB : Sp := fun vs H Q _ => ∃ i b : Int, vs = [.int i, .int b] ∧ 0 ≤ i ∧ i < b ∧ Q (.bl true) H
def spRS (K : PySem.W.Frag) : Sp := fun vs H Q _ => ∃ (k : Kd) (z : Addr) (p : Mq.Q2), vs = [.str k.wd, .ref z] ∧ Fq K H z p ∧ Mq.Low p ∧ (k = .pc → 0 < p.1) ∧ Mq.Bd 100 p ∧ Q .non H
def spNInit (CN : Addr) : Sp := fun vs H Q _ => ∃ (n dx : Addr) (m : Int), vs = [.ref n, .int m] ∧ H n = some (.ins CN dx []) ∧ 1 ≤ m ∧ m ≤ 20 ∧ ∀ l H', H l = none → (∀ b o, H b = some o → b ≠ n → H' b = some o) → H' n = some (.ins CN dx (nflds m l)) → H' l = some (.lst []) → Q .non H'
def spMany (CN : Addr) (K : PySem.W.Frag) : Sp := fun vs H Q _ => ∃ (n l : Addr) (m : Int) (ds : List RD), vs = [.ref n] ∧ NetAt CN K H n l m ds ∧ Q (.int m) H
def spCount (CN : Addr) (K : PySem.W.Frag) : Sp := fun vs H Q _ => ∃ (n l : Addr) (m : Int) (ds : List RD), vs = [.ref n] ∧ NetAt CN K H n l m ds ∧ Q (.int ds.length) H
def spNTold (CN : Addr) (K : PySem.W.Frag) : Sp := fun vs H Q _ => ∃ (n l : Addr) (m : Int) (ds : List RD), vs = [.ref n] ∧ NetAt CN K H n l m ds ∧ ∀ a ts H', Same H H' → H a = none → H' a = some (.lst ts) → Rts K H' ts ds → Q (.ref a) H'
def spAdd (CN : Addr) (K : PySem.W.Frag) (CK : Kd → Addr) : Sp := fun vs H Q _ => ∃ (n l x z : Addr) (m : Int) (ds : List RD) (k : Kd) (i j : Int) (p : Mq.Q2), vs = [.ref n, .ref x] ∧ NetAt CN K H n l m ds ∧ Rw CK H x k (.int i) (.int j) (.ref z) ∧ Fq K H z p ∧ RdOk m (k, i, j, p) ∧ ds.length < 40 ∧
  ∀ H', SameX l H H' → NetAt CN K H' n l m (ds ++ [(k, i, j, p)]) → Q (.int ds.length) H'
def spChange (CN : Addr) (K : PySem.W.Frag) : Sp := fun vs H Q _ => ∃ (n l z : Addr) (m q : Int) (ds : List RD) (k : Kd) (i j : Int) (p0 p : Mq.Q2), vs = [.ref n, .int q, .ref z] ∧ NetAt CN K H n l m ds ∧ 0 ≤ q ∧ ds[q.toNat]? = some (k, i, j, p0) ∧ Fq K H z p ∧ Mq.Low p ∧ (k = .pc → 0 < p.1) ∧ Mq.Bd 100 p ∧
  ∀ H', SameX l H H' → NetAt CN K H' n l m (ds.set q.toNat (k, i, j, p)) → Q .non H'
def spCopy (CN : Addr) (K : PySem.W.Frag) : Sp := fun vs H Q _ => ∃ (n l : Addr) (m : Int) (ds : List RD), vs = [.ref n] ∧ NetAt CN K H n l m ds ∧ 1 ≤ m ∧ m ≤ 20 ∧ ∀ n' l' H', Same H H' → H n' = none → H l' = none → NetAt CN K H' n' l' m ds → Q (.ref n') H'
end L2

set_option Elab.async false
set_option linter.all false
set_option maxRecDepth 100000
set_option maxHeartbeats 2000000
namespace L2
open PySem PySem.Spec PyProof.Rows
/-! ### several nets beside one another, each with a list of its rows -/
def SameXX (l r : Addr) (H H' : Hp) : Prop := ∀ b o, H b = some o → b ≠ l → b ≠ r → H' b = some o
section
variable {K : PySem.W.Frag} {H H' : Hp} {l r : Addr} {as bs : List V}
end
structure NR where
  n : Addr
  l : Addr
  r : Addr
  m : Int
  ds : List RD
structure Grp (CN : Addr) (K : PySem.W.Frag) (H : Hp) (N R : Addr) (rs : List NR) : Prop where
  hN : H N = some (.lst (rs.map fun x => V.ref x.n))
  hR : H R = some (.lst (rs.map fun x => V.ref x.r))
  nr : N ≠ R
  net : ∀ (q : Nat) (x : NR), rs[q]? = some x → NetAt CN K H x.n x.l x.m x.ds
  row : ∀ (q : Nat) (x : NR), rs[q]? = some x → ∃ us, H x.r = some (.lst us) ∧ Rts K H us x.ds
  own : ∀ (q : Nat) (x : NR), rs[q]? = some x → x.l ≠ x.r ∧ x.l ≠ N ∧ x.l ≠ R ∧ x.r ≠ N ∧ x.r ≠ R
  two : ∀ (q w : Nat) (y x : NR), rs[q]? = some y → rs[w]? = some x → q ≠ w → y.l ≠ x.l ∧ y.l ≠ x.r ∧ y.r ≠ x.r
section
variable {CN : Addr} {K : PySem.W.Frag} {H H' : Hp} {N R : Addr} {rs : List NR}
end
/-! a text of statements parted: what lies behind the first k is kept closed -/
theorem cut1 {a1 u : TS} {D : Ends} {σ : St} {H : Hp} (P : St → Hp → Prop) (h1 : ∀ X : St → Hp → Prop, (∀ σ' H', P σ' H' → X σ' H') → (a1) { D with nx := X } σ H) (h2 : ∀ σ' H', P σ' H' → u D σ' H') : (tSeq a1 (u)) D σ H := h1 _ h2
theorem cut2 {a1 a2 u : TS} {D : Ends} {σ : St} {H : Hp} (P : St → Hp → Prop) (h1 : ∀ X : St → Hp → Prop, (∀ σ' H', P σ' H' → X σ' H') → (tSeq a1 (a2)) { D with nx := X } σ H) (h2 : ∀ σ' H', P σ' H' → u D σ' H') : (tSeq a1 (tSeq a2 (u))) D σ H := h1 _ h2
theorem cut3 {a1 a2 a3 u : TS} {D : Ends} {σ : St} {H : Hp} (P : St → Hp → Prop) (h1 : ∀ X : St → Hp → Prop, (∀ σ' H', P σ' H' → X σ' H') → (tSeq a1 (tSeq a2 (a3))) { D with nx := X } σ H) (h2 : ∀ σ' H', P σ' H' → u D σ' H') : (tSeq a1 (tSeq a2 (tSeq a3 (u)))) D σ H := h1 _ h2
theorem cut4 {a1 a2 a3 a4 u : TS} {D : Ends} {σ : St} {H : Hp} (P : St → Hp → Prop) (h1 : ∀ X : St → Hp → Prop, (∀ σ' H', P σ' H' → X σ' H') → (tSeq a1 (tSeq a2 (tSeq a3 (a4)))) { D with nx := X } σ H) (h2 : ∀ σ' H', P σ' H' → u D σ' H') : (tSeq a1 (tSeq a2 (tSeq a3 (tSeq a4 (u))))) D σ H := h1 _ h2
theorem cut_intsN (ns : List Int) (lo hi : Option Int) : ∃ ms : List Int, cutV (ns.map V.int) lo hi = ms.map V.int :=
  ⟨(ns.drop (HT.sIx (ns.map V.int).length 0 lo)).take (HT.sIx (ns.map V.int).length (ns.map V.int).length hi - HT.sIx (ns.map V.int).length 0 lo), by unfold cutV; rw [List.map_take, List.map_drop]⟩
end L2

set_option Elab.async false
set_option linter.all false
set_option maxRecDepth 100000
set_option maxHeartbeats 4000000
namespace L2
open PySem PyProof.Rows
end L2

set_option Elab.async false
set_option linter.all false
set_option maxRecDepth 100000
set_option maxHeartbeats 2000000
namespace L2
open PySem PySem.Spec PyProof.Rows
/-! ### C(e, ..) that may raise -/
section
variable {X : Cx} {k : Nat} {f C : Addr} {fd : FuncData} {ps : List Str} {sp : Sp} {dvs : List V} {ds : List Value} {x : Str} {p pos : Pos} {e : Expr} {es : List Expr} {t : TA}
def xMake (C : Addr) (sp : Sp) (dvs : List V) (t : TA) : TEX := fun σ H Q E => t σ H fun vs H1 => ∀ x dx, H1 x = none → H1 dx = none → dx ≠ x →
  sp (.ref x :: (vs ++ dvs)) (upd (upd H1 dx (.own x)) x (.ins C dx [])) (fun v H2 => v = .non ∧ Q (.ref x) H2) E
end
/-- a weaker promise -/
theorem FnOk.weak {P : Program} {w : World} {K : PySem.W.Frag} {mg : Str → Option Value} {base : Heap} {CX : CXT} {k : Nat} {f : Addr} {fd : FuncData} {ps : List Str} {sp sp' : Sp} (F : FnOk P w K mg base CX k f fd ps sp) (h : ∀ vs H Q E, sp' vs H Q E → sp vs H Q E) : FnOk P w K mg base CX k f fd ps sp' :=
  ⟨fun vs H Q E q => F.len vs H Q E (h _ _ _ _ q), fun A outer s H args us vs Q E hr he hb hv hs => F.run A outer s H args us vs Q E hr he hb hv (h _ _ _ _ hs)⟩
/-! ### nets, with their refusals -/
abbrev PtOk (m i j : Int) : Prop := 0 ≤ i ∧ i < m ∧ 0 ≤ j ∧ j < m
/-- no number of points -/
def BadM (K : PySem.W.Frag) (H : Hp) (v : V) : Prop := (∃ m : Int, v = .int m ∧ (m < 1 ∨ 20 < m)) ∨ ∃ t, TyOf K H v t ∧ NotWhole t
def spIsF2 (K : PySem.W.Frag) : Sp := fun vs H Q _ => ∃ (a : Addr) (p : Mq.Q2), vs = [.ref a] ∧ Fq K H a p ∧ ((Mq.Low p ∧ Q (.bl true) H) ∨ (1 ≤ p.2 ∧ Mq.gc p.1 p.2 ≠ 1 ∧ Q (.bl false) H))
def spNBB : Sp := fun vs H Q _ => ∃ i b : Int, vs = [.int i, .int b] ∧ Q (.bl (decide (0 ≤ i ∧ i < b))) H
def spRSX (K : PySem.W.Frag) (CZ : Addr) : Sp := fun vs H Q E => ∃ (k : Kd) (z : Addr) (p : Mq.Q2), vs = [.str k.wd, .ref z] ∧ Fq K H z p ∧ ((Mq.Low p ∧ (k = .pc → 0 < p.1) ∧ Mq.Bd 100 p ∧ Q .non H) ∨ (1 ≤ p.2 ∧ Mq.gc p.1 p.2 ≠ 1 ∧ E (.ref CZ) none H))
def spRPX (K : PySem.W.Frag) (CP : Addr) : Sp := fun vs H Q E => ∃ (l : Addr) (i j m : Int), vs = [.ref l, .int m] ∧ SqL K H l [.int i, .int j] ∧ ((PtOk m i j ∧ ∀ H', Same H H' → Q .non H') ∨ (¬ PtOk m i j ∧ ∀ H', Same H H' → E (.ref CP) none H'))
def spNInitX (CN : Addr) (K : PySem.W.Frag) (CP : Addr) : Sp := fun vs H Q E => ∃ (n dx : Addr) (v : V), vs = [.ref n, v] ∧ H n = some (.ins CN dx []) ∧ ((∃ m : Int, v = .int m ∧ 1 ≤ m ∧ m ≤ 20 ∧ ∀ l H', H l = none → (∀ b o, H b = some o → b ≠ n → H' b = some o) → H' n = some (.ins CN dx (nflds m l)) → H' l = some (.lst []) → Q .non H') ∨ (BadM K H v ∧ E (.ref CP) none H))
def spAddX (CN : Addr) (K : PySem.W.Frag) (CK : Kd → Addr) (CP CZ CT : Addr) : Sp := fun vs H Q E => ∃ (n l x z : Addr) (m : Int) (ds : List RD) (k : Kd) (i j : Int) (p : Mq.Q2), vs = [.ref n, .ref x] ∧ NetAt CN K H n l m ds ∧ Rw CK H x k (.int i) (.int j) (.ref z) ∧ Fq K H z p ∧
  ((RdOk m (k, i, j, p) ∧ ds.length < 40 ∧ ∀ H', SameX l H H' → NetAt CN K H' n l m (ds ++ [(k, i, j, p)]) → Q (.int ds.length) H') ∨
   (¬ PtOk m i j ∧ ∀ H', Same H H' → E (.ref CP) none H') ∨
   (PtOk m i j ∧ 1 ≤ p.2 ∧ Mq.gc p.1 p.2 ≠ 1 ∧ ∀ H', Same H H' → E (.ref CZ) none H') ∨
   (RdOk m (k, i, j, p) ∧ 40 ≤ ds.length ∧ ∀ H', Same H H' → E (.ref CT) none H'))
end L2

set_option Elab.async false
set_option linter.all false
set_option maxRecDepth 100000
set_option maxHeartbeats 2000000
namespace L2
open PySem PySem.Spec PyProof.Rows
/-! ### nets, whatever they are handed -/
/-- a number below m, or none -/
inductive Pn (K : PySem.W.Frag) (H : Hp) (m : Int) : V → Option Int → Prop where
  | ok {i : Int} (h0 : 0 ≤ i) (h1 : i < m) : Pn K H m (.int i) (some i)
  | no {i : Int} (h : ¬ (0 ≤ i ∧ i < m)) : Pn K H m (.int i) none
  | ty {v : V} {t : Value} (h : TyOf K H v t) (n : NotWhole t) : Pn K H m v none
/-- a fraction, or none -/
inductive Zv (K : PySem.W.Frag) (H : Hp) : V → Option Mq.Q2 → Prop where
  | fr {u : Addr} {p : Mq.Q2} (h : Fq K H u p) (l : Mq.Low p) : Zv K H (.ref u) (some p)
  | ty {v : V} {t : Value} (h : TyQ K H v t) (n : PySem.W.kitOne K t (.type "tuple") = some false) : Zv K H v none
  | len {u : Addr} {x y z : V} (h : SqT K H u [x, y, z]) : Zv K H (.ref u) none
  | n0 {u : Addr} {x y : V} {t : Value} (h : SqT K H u [x, y]) (ty : TyOf K H x t) (n : NotWhole t) : Zv K H (.ref u) none
  | n1 {u : Addr} {i : Int} {y : V} {t : Value} (h : SqT K H u [.int i, y]) (ty : TyOf K H y t) (n : NotWhole t) : Zv K H (.ref u) none
  | fb {u : Addr} {p : Mq.Q2} (h : Fq K H u p) (c : p.2 < 1 ∨ (1 ≤ p.2 ∧ Mq.gc p.1 p.2 ≠ 1)) : Zv K H (.ref u) none
/-- is it a size for a row of this kind? -/
def okz (k : Kd) (o : Option Mq.Q2) : Bool := match o with
  | none => false
  | some p => match k with
    | .pc => decide (0 < p.1)
    | _ => true
abbrev Bz (o : Option Mq.Q2) : Prop := ∀ p, o = some p → Mq.Bd 100 p
def spNBV (K : PySem.W.Frag) : Sp := fun vs H Q _ => ∃ (v : V) (b : Int) (o : Option Int), vs = [v, .int b] ∧ Pn K H b v o ∧ Q (.bl o.isSome) H
def spRPV (K : PySem.W.Frag) (CP : Addr) : Sp := fun vs H Q E => ∃ (l : Addr) (s g : V) (m : Int) (o1 o2 : Option Int), vs = [.ref l, .int m] ∧ SqL K H l [s, g] ∧ Pn K H m s o1 ∧ Pn K H m g o2 ∧ ((o1.isSome && o2.isSome) = true → ∀ H', Same H H' → Q .non H') ∧ ((o1.isSome && o2.isSome) = false → ∀ H', Same H H' → E (.ref CP) none H')
def spRNV (K : PySem.W.Frag) (CR : Addr) : Sp := fun vs H Q E => ∃ (v : V) (c : Int) (o : Option Int), vs = [v, .int c] ∧ Pn K H c v o ∧ (o.isSome = true → Q .non H) ∧ (o.isSome = false → E (.ref CR) none H)
def spIsFV (K : PySem.W.Frag) : Sp := fun vs H Q _ => ∃ (v : V) (o : Option Mq.Q2), vs = [v] ∧ Zv K H v o ∧ Q (.bl o.isSome) H
def spPSV (K : PySem.W.Frag) : Sp := fun vs H Q _ => ∃ (v : V) (o : Option Mq.Q2), vs = [v] ∧ Zv K H v o ∧ Bz o ∧ Q (.bl (okz .pc o)) H
def spRSV (K : PySem.W.Frag) (CZ : Addr) : Sp := fun vs H Q E => ∃ (k : Kd) (v : V) (o : Option Mq.Q2), vs = [.str k.wd, v] ∧ Zv K H v o ∧ Bz o ∧ (okz k o = true → Q .non H) ∧ (okz k o = false → E (.ref CZ) none H)
def spAddV (CN : Addr) (K : PySem.W.Frag) (CK : Kd → Addr) (CP CZ : Addr) : Sp := fun vs H Q E => ∃ (n l x : Addr) (m : Int) (ds : List RD) (k : Kd) (s g z : V) (o1 o2 : Option Int) (oz : Option Mq.Q2), vs = [.ref n, .ref x] ∧ NetAt CN K H n l m ds ∧ Rw CK H x k s g z ∧ Pn K H m s o1 ∧ Pn K H m g o2 ∧ Zv K H z oz ∧ Bz oz ∧ ds.length < 40 ∧
  ((o1.isSome && o2.isSome) = false → ∀ H', Same H H' → E (.ref CP) none H') ∧
  ((o1.isSome && o2.isSome) = true → okz k oz = false → ∀ H', Same H H' → E (.ref CZ) none H') ∧
  ∀ i j p, o1 = some i → o2 = some j → oz = some p → okz k oz = true → ∀ H', SameX l H H' → NetAt CN K H' n l m (ds ++ [(k, i, j, p)]) → Q (.int ds.length) H'
def spChangeV (CN : Addr) (K : PySem.W.Frag) (CR CZ : Addr) : Sp := fun vs H Q E => ∃ (n l : Addr) (m : Int) (ds : List RD) (v z : V) (o : Option Int) (oz : Option Mq.Q2), vs = [.ref n, v, z] ∧ NetAt CN K H n l m ds ∧ Pn K H ds.length v o ∧ Zv K H z oz ∧ Bz oz ∧
  (o = none → E (.ref CR) none H) ∧
  ∀ q d, o = some q → ds[q.toNat]? = some d → (okz d.1 oz = false → E (.ref CZ) none H) ∧
    ∀ p, oz = some p → okz d.1 oz = true → ∀ H', SameX l H H' → NetAt CN K H' n l m (ds.set q.toNat (d.1, d.2.1, d.2.2.1, p)) → Q .non H'
/-- row objects with their data -/
inductive Robs (CK : Kd → Addr) (K : PySem.W.Frag) (H : Hp) : List V → List RD → Prop where
  | nil : Robs CK K H [] []
  | cons {x z : Addr} {k : Kd} {i j : Int} {p : Mq.Q2} {xs : List V} {ds : List RD} (h : Rw CK H x k (.int i) (.int j) (.ref z)) (f : Fq K H z p) (q : Robs CK K H xs ds) : Robs CK K H (.ref x :: xs) ((k, i, j, p) :: ds)
section
variable {CK : Kd → Addr} {K : PySem.W.Frag} {H H' : Hp}
theorem Robs.same (e : Same H H') : ∀ {xs : List V} {ds : List RD}, Robs CK K H xs ds → Robs CK K H' xs ds
  | _, _, .nil => .nil
  | _, _, .cons h f q => .cons (h.same e) (e.fq f) (Robs.same e q)
theorem Robs.length : ∀ {xs : List V} {ds : List RD}, Robs CK K H xs ds → xs.length = ds.length
  | _, _, .nil => rfl
  | _, _, .cons _ _ q => by simp [Robs.length q]
theorem Robs.app : ∀ {xs ys : List V} {ds es : List RD}, Robs CK K H xs ds → Robs CK K H ys es → Robs CK K H (xs ++ ys) (ds ++ es)
  | _, _, _, _, .nil, r => r
  | _, _, _, _, .cons h f q, r => .cons h f (Robs.app q r)
theorem Robs.at : ∀ {xs : List V} {ds : List RD} {q : Nat} {d : RD}, Robs CK K H xs ds → ds[q]? = some d → ∃ x z, xs[q]? = some (.ref x) ∧ Rw CK H x d.1 (.int d.2.1) (.int d.2.2.1) (.ref z) ∧ Fq K H z d.2.2.2
  | _, _, _, _, .nil, h => by simp at h
  | _, _, 0, _, .cons h f _, e => by simp at e; subst e; exact ⟨_, _, rfl, h, f⟩
  | _, _, i + 1, _, .cons _ _ q, e => by simpa using Robs.at q (by simpa using e)
theorem Robs.upd {l : Addr} {ys : List V} {o : HO} (hl : H l = some (.lst ys)) : ∀ {xs : List V} {ds : List RD}, Robs CK K H xs ds → Robs CK K (L2.upd H l o) xs ds
  | _, _, .nil => .nil
  | _, _, .cons (h := h) f q => by
    obtain ⟨dx, e⟩ := h
    exact .cons ⟨dx, by rw [upd_ne (ne_of e hl (fun z => by cases z))]; exact e⟩ (f.upd hl) (Robs.upd hl q)
end
def spRows (CN : Addr) (K : PySem.W.Frag) (CK : Kd → Addr) : Sp := fun vs H Q _ => ∃ (n l : Addr) (m : Int) (ds : List RD), vs = [.ref n] ∧ NetAt CN K H n l m ds ∧ ds.length ≤ 100 ∧ ∀ a xs H', Same H H' → H a = none → H' a = some (.lst xs) → Robs CK K H' xs ds → Q (.ref a) H'
end L2

set_option Elab.async false
set_option linter.all false
set_option maxRecDepth 100000
set_option maxHeartbeats 2000000
namespace L2
open PySem PySem.Spec PyProof.Rows
/-! ### a comprehension whose name is read by one within it: the name lies in a cell of the block's own -/
section
variable {M : Model} {A : Around} {E : Value → Shared → Prop} {s : Shared}
end
abbrev compEnv1 (scope : Scope) (cl : List (Str × Addr)) (x0 : Str) (C : Addr) (env : Env) : Env := { compEnvC scope cl C env with cells := (x0, C + 1) :: cl }
structure CompOk1 (X : Cx) (scope : Scope) (cl : List (Str × Addr)) (x0 : Str) (Nc : List Str) (nl : Nat) (fr : List Nat) : Prop where
  clos : closureFor scope X.env = pure cl
  kind : scope.kind = .function
  names : ∀ y ∈ scope.names, y.2 = .local → scope.names.lookup y.1 = some .local
  one : ∀ n, cellsFrom n scope.names cl = (x0, n) :: cl
  psh : ∀ h, pushCells h scope.names = h.push { cls := .type "cell", data := .cell none }
  nin : cl.lookup x0 = none
  sub : ∀ x c, cl.lookup x = some c → X.env.cells.lookup x = some c
  has : ∀ C x, (relabel scope X.env).names.lookup x = some .cell ∨ (relabel scope X.env).names.lookup x = some .free → ∃ c, ((x0, C) :: cl).lookup x = some c
  len : Nc.length = nl + fr.length
  tail : ∀ i n, Nc[nl + i]? = some n → ∃ j, fr[i]? = some j ∧ X.N[j]? = some n ∧ X.env.kindOf n = some .cell ∧ cl.lookup n = X.env.cells.lookup n ∧ ((relabel scope X.env).names.lookup n = some .cell ∨ (relabel scope X.env).names.lookup n = some .free)
abbrev compCx1 (X : Cx) (scope : Scope) (cl : List (Str × Addr)) (x0 : Str) (Nc : List Str) (C : Addr) (s3 : Shared) (H3 : Hp) (fp : List Addr) (pins : List (Addr × Obj)) : Cx :=
  { X with N := Nc, s₀ := s3, H₀ := H3, env := compEnv1 scope cl x0 C X.env, outer := X.stack, ex := fp, fn := fun x => x == x0, pn := X.pn ++ pins, xe := fun _ _ => False }
section
variable {X : Cx} {scope : Scope} {cl : List (Str × Addr)} {x0 : Str} {Nc : List Str} {nl : Nat} {fr : List Nat} {pins : List (Addr × Obj)} {σ : St} {H3 : Hp} {s3 : Shared} {fp : List Addr} {h4 : Heap} {tk : Nat}
end
section
variable {X : Cx} {scope : Scope} {cl : List (Str × Addr)} {x0 : Str} {Nc : List Str} {nl : Nat} {fr : List Nat} {elt tg iter : Expr} {ifs : List Expr} {pos : Pos} {wi : TI} {g : TG} {tt : TT} {te : TE}
end
end L2

set_option Elab.async false
set_option linter.all false
set_option maxRecDepth 100000
set_option maxHeartbeats 2000000
namespace L2
open PySem PySem.Spec PyProof.Rows
section
variable {X : Cx}
def isum : List Int → Int
  | [] => 0
  | n :: l => n + isum l
/-- sum(list of numbers) -/
def rSum (K : PySem.W.Frag) : List V → Hp → VK → Prop := fun xs H Q => ∃ (p : Addr) (ns : List Int), xs = [.ref p] ∧ SqL K H p (ns.map V.int) ∧ Q (.int (isum ns)) H
end
end L2
namespace L2
open PySem PySem.Spec PyProof.Rows
end L2
namespace L2
open PySem PySem.Spec PyProof.Rows
end L2
namespace L2
open PySem PySem.Spec PyProof.Rows
theorem call_list_ofK {X : Cx} {K : PySem.W.Frag} (h : X.K = K) : CallR X (.type "list") (fun xs H Q => ∃ p ys, xs = [.ref p] ∧ (SqL K H p ys ∨ SqT K H p ys) ∧ ∀ l, H l = none → Q (.ref l) (upd H l (.lst ys))) := by subst h; exact call_list_of
end L2

set_option Elab.async false
set_option linter.all false
set_option maxRecDepth 100000
set_option maxHeartbeats 2000000
namespace L2
open PySem PySem.Spec PyProof.Rows
/-! ### for i, x in enumerate(xs) -/
def Ite (K : PySem.W.Frag) (a : Addr) : It :=
  ⟨fun i H => ∃ xs x, SqL K H a xs ∧ xs[i]? = some x,
   fun i H v H' => ∃ T x, v = .ref T ∧ H T = none ∧ H' = upd H T (.tup [.int (i : Int), x]) ∧ ∀ xs, SqL K H a xs → xs[i]? = some x,
   fun i H => ∃ xs, SqL K H a xs ∧ xs.length ≤ i⟩
def EnumTn (e it l : Addr) (i : Nat) (h : Heap) : Prop := e ≠ it ∧ (∃ old, IsEnum h e it (i : Int) old) ∧ h.IsListIter it l i
theorem turn_enum {P : Program} {w : World} {K : PySem.W.Frag} {elts : List Expr} {kk : Nat} {tpos : Pos} (e it l : Addr) :
    Turn P w K (.Tuple elts kk tpos) (Ite K l) [e, it] e (EnumTn e it l) where
  mem := by simp
  obj := fun i h st b hb => by
    obtain ⟨ne, ⟨old, he⟩, ⟨o1, e1, c1, d1⟩⟩ := st
    simp only [List.mem_cons, List.not_mem_nil, or_false] at hb
    rcases hb with rfl | rfl
    · exact ⟨_, he, fun v q => by cases q⟩
    · exact ⟨o1, e1, fun v q => by rw [d1] at q; cases q⟩
  keep := fun i h h' st k => by
    obtain ⟨ne, ⟨old, he⟩, ⟨o1, e1, c1, d1⟩⟩ := st
    exact ⟨ne, ⟨old, k _ (by simp) _ he⟩, ⟨o1, k _ (by simp) _ e1, c1, d1⟩⟩
  item := by
    intro X hP hw hK hc i pins s σ H E I hf st hg
    subst hP hw hK
    obtain ⟨ne, ⟨old, he⟩, t1⟩ := st
    obtain ⟨xs, x, hx, ex⟩ := hg
    obtain ⟨its1, rv1, p1, z1⟩ := I.list hx
    obtain ⟨u1, hu1, ru1⟩ := rv1.get ex
    refine wpAny_pyNext_enum_item he t1 p1.isList (x := u1) (by simpa using hu1) ne fun h' g1 g2 g3 g4 kk' => ?_
    have hn : H s.heap.objs.size = none := I.hok.fresh (Nat.le_refl _)
    have lt : ∀ b ∈ [e, it], b < s.heap.objs.size := fun b hb => by
      simp only [List.mem_cons, List.not_mem_nil, or_false] at hb
      obtain ⟨o1, e1, _⟩ := t1
      rcases hb with rfl | rfl
      · exact Heap.lt_size he
      · exact Heap.lt_size e1
    have I1 : Inv X pins σ (upd H s.heap.objs.size (.tup [.int (i : Int), x])) { s with heap := s.heap.push { cls := .type "tuple", data := .seq #[.int i s.toks, u1] }, toks := s.toks + 1 } :=
      I.laid (t' := s.toks + 1) (fun b o e => Heap.get?_push_of_some _ e) (Nat.le_refl _) (show ObjOk X.prog X.w _ _ _ (.tup [.int (i : Int), x]) from ⟨by show 2 ≤ sizeLine; decide, [.int i s.toks, u1], .cons ⟨_, rfl⟩ (.cons ru1 .nil), IsTup.new _ _⟩)
    have hf1 : ∀ b ∈ [e, it], FpOk X pins (upd H s.heap.objs.size (.tup [.int (i : Int), x])) b := fun b hb => ⟨by rw [upd_ne (Nat.ne_of_lt (lt b hb))]; exact (hf b hb).1, (hf b hb).2⟩
    have k1 : ∀ b o, b ∉ [e, it] → (s.heap.push { cls := .type "tuple", data := .seq #[.int i s.toks, u1] }).get? b = some o → h'.get? b = some o := fun b o nb e => by
      simp only [List.mem_cons, List.not_mem_nil, or_false, not_or] at nb
      by_cases hb : b = s.heap.objs.size
      · subst hb
        rw [Heap.get?_push_size _ rfl] at e
        cases e
        exact g3
      · have e0 : s.heap.get? b = some o := by rw [Heap.get?_push_ne _ _ _ hb] at e; exact e
        exact kk' b o nb.1 nb.2 e0
    have I2 : Inv X pins σ (upd H s.heap.objs.size (.tup [.int (i : Int), x])) { s with heap := h', toks := s.toks + 1 } := Inv.turnedL (s := { s with heap := s.heap.push { cls := .type "tuple", data := .seq #[.int i s.toks, u1] }, toks := s.toks + 1 }) (t' := s.toks + 1) I1 k1 hf1
    refine ⟨_, rfl, wpAny_letOwnedTupleGo_enum (s := { s with heap := h', toks := s.toks + 1 }) g1 fun h2 q1 q2 => ?_⟩
    have kz : ∀ b o, b ≠ e → h'.get? b = some o → h2.get? b = some o := fun b o nb e => (q2.2 b nb).trans e
    have I3 : Inv X pins σ (upd H s.heap.objs.size (.tup [.int (i : Int), x])) { s with heap := h2, toks := s.toks + 1 } := Inv.turnedL (s := { s with heap := h', toks := s.toks + 1 }) (t' := s.toks + 1) (fp := [e]) I2 (fun b o nb e => kz b o (by simpa using nb) e) fun b hb => hf1 b (by simp at hb; simp [hb])
    obtain ⟨o3, e3, c3, d3⟩ := g2
    refine ⟨.ref s.heap.objs.size, _, I3, rfl, ⟨_, x, rfl, hn, rfl, fun xs' h1 => ?_⟩, ⟨ne, ⟨_, q1⟩, ⟨o3, kz _ _ ne.symm e3, c3, d3⟩⟩, fun b hb => (hf1 b hb).1⟩
    rw [I.list_inj h1 hx]
    exact ex
  done := by
    intro X hP hw hK hc i pins s σ H E I hf st hg
    subst hP hw hK
    obtain ⟨ne, ⟨old, he⟩, t1⟩ := st
    obtain ⟨xs, hx, hor⟩ := hg
    obtain ⟨its1, rv1, p1, z1⟩ := I.list hx
    have l1' := rv1.length
    refine wpAny_pyNext_enum_end (I.ok.hd hc) he t1 p1.isList (by simp; omega) fun h' kk' => ⟨rfl, ?_⟩
    refine I.turnedL (t' := s.toks) (fun b o nb e => ?_) hf
    simp only [List.mem_cons, List.not_mem_nil, or_false, not_or] at nb
    exact kk' b o nb.2 e
  self := fun A i s Q E st h => by
    obtain ⟨ne, ⟨old, he⟩, t1⟩ := st
    exact wpAny_pyIter_enum he h
section
variable {X : Cx}
def iEnum (K : PySem.W.Frag) (ta : TA) : TI := fun σ H R => ta σ H fun vs H1 => ∃ a, vs = [.ref a] ∧ (∃ xs, SqL K H1 a xs) ∧ R (Ite K a) H1
theorem pi_enum {e1 : Expr} {ta : TA} {p pos : Pos} {elts : List Expr} {kk : Nat} {tpos : Pos} (hg : Gl X "enumerate") (hm : X.mg "enumerate" = none) (hv : bootBuiltins "enumerate" = some (.type "enumerate")) (ha : PA X [e1] ta)
    (hs : starEach [e1] X.env = (false, eval e1 X.env) :: starEach [] X.env := by rfl) (hpl : (backTo pos (starEach [] X.env)).any (·.1) = false := by rfl) : PI X (.Tuple elts kk tpos) (.Call (.Name "enumerate" p) [e1] [] pos) (iEnum X.K ta) := by
  intro pins s σ H R I h
  refine Call_ (ld_blt I hg hm hv (PyProof.Rows.callWith_type1 (thn (ha pos pins s σ H _ I h) fun us s1 ⟨vs, H1, I1, r1, q1⟩ => ?_) hs hpl))
  obtain ⟨a, rfl, ⟨xs, hx⟩, q⟩ := q1
  obtain ⟨u, rfl, ra⟩ := vals1 r1
  cases (show u = Value.ref a from ra)
  obtain ⟨its1, rv1, p1, z1⟩ := I1.list hx
  have la : a < s1.heap.objs.size := by obtain ⟨o, e, _⟩ := p1.isList; exact Heap.lt_size e
  refine call_enumerate_list p1.isList fun h' g1 g2 g3 kk' => ?_
  refine wpAny_pyIter_enum g1 ?_
  refine ⟨s1.heap.objs.size + 1, [s1.heap.objs.size + 1, s1.heap.objs.size], _, Ite X.K a, H1, rfl, I1.kept (t' := s1.toks) kk', turn_enum _ _ a, ⟨?_, ⟨_, g1⟩, g2⟩, fun c hc => ?_, q⟩
  · exact Nat.succ_ne_self _
  · have hle : s1.heap.objs.size ≤ c := by
      simp only [List.mem_cons, List.not_mem_nil, or_false] at hc
      rcases hc with rfl | rfl <;> first | exact Nat.le_add_right _ _ | exact Nat.le_refl _
    exact I1.fpOk hle (I1.hok.fresh hle)
theorem for_enum {K : PySem.W.Frag} {a : Addr} {xs : List V} {g : TG} {tb : TS} {D : Ends} {σ : St} {H : Hp} (Pv : Nat → St → Hp → Prop) (h0 : Pv 0 σ H) (hl : ∀ i σ H, i ≤ xs.length → Pv i σ H → SqL K H a xs)
    (hs : ∀ i x σ H T, xs[i]? = some x → Pv i σ H → H T = none → g (.ref T) σ (upd H T (.tup [.int (i : Int), x])) fun σ2 H2 => tb { D with nx := Pv (i + 1), ct := Pv (i + 1), bk := D.nx } σ2 H2) (hd : ∀ σ H, Pv xs.length σ H → D.nx σ H) :
    ∃ W : Nat → Nat → St → Hp → Prop, (∃ m, W 0 m σ H) ∧ ∀ i m σ H, W i m σ H →
      ((Ite K a).stop i H ∧ D.nx σ H) ∨ ((Ite K a).go i H ∧ ∃ N : St → Hp → Prop, (∀ σ' H', N σ' H' → ∃ m', m' < m ∧ W (i + 1) m' σ' H') ∧ ∀ x H', (Ite K a).yld i H x H' → g x σ H' fun σ2 H2 => tb { D with nx := N, ct := N, bk := D.nx } σ2 H2) := by
  refine ⟨fun i m σ H => m = xs.length - i ∧ i ≤ xs.length ∧ Pv i σ H, ⟨_, rfl, Nat.zero_le _, h0⟩, ?_⟩
  rintro i m σ H ⟨rfl, hi, p⟩
  have qx := hl i σ H hi p
  by_cases hlt : i < xs.length
  · refine .inr ⟨⟨xs, xs[i], qx, by simp [hlt]⟩, Pv (i + 1), fun σ' H' p' => ⟨xs.length - (i + 1), by omega, rfl, hlt, p'⟩, fun v H' z => ?_⟩
    obtain ⟨T, x, rfl, hT, rfl, hh⟩ := z
    exact hs i x σ H T (hh xs qx) p hT
  · have e : i = xs.length := by omega
    subst e
    exact .inl ⟨⟨xs, qx, Nat.le_refl _⟩, hd σ H p⟩
end
end L2

set_option Elab.async false
set_option linter.all false
set_option maxRecDepth 100000
set_option maxHeartbeats 2000000
namespace L2
open PySem PySem.Spec PyProof.Rows
section
variable {X : Cx} {pins : List (Addr × Obj)} {σ : St} {H : Hp} {s : Shared} {a : Addr} {k : Key} {kvs : List (Key × V)} {u r : Value} {z : V} {A : Around} {E : Value → Shared → Prop}
end
def tDSetD (td ty tx : TE) : TE := fun σ H Q => td σ H fun x H1 => ∃ a, x = .ref a ∧ IsD H1 a ∧ ty σ H1 fun y H2 => tx σ H2 fun z H3 => ∃ kvs k, H3 a = some (.dK kvs) ∧ y = kV k ∧ kvs.length < sizeLine ∧
  (∀ v, valV kvs k = some v → Q v H3) ∧ (valV kvs k = none → Q z (upd H3 a (.dK (putK kvs k z))))
section
variable {X : Cx} {o e f : Expr} {apos cpos : Pos} {td ty tx : TE}
end
/-- list(d.values()) -/
def tVals (td : TE) : TE := fun σ H Q => td σ H fun x H1 => ∃ a kvs, x = .ref a ∧ H1 a = some (.dK kvs) ∧ ∀ l, H1 l = none → Q (.ref l) (upd H1 l (.lst (kvs.map (·.2))))
section
variable {X : Cx} {o : Expr} {apos cpos pos p : Pos} {td : TE}
end
/-- list(range(n)) -/
def tLRange (ta : TA) : TE := fun σ H Q => ta σ H fun vs H1 => ∃ n : Nat, vs = [.int (n : Int)] ∧ n ≤ 1000 ∧ ∀ l, H1 l = none → Q (.ref l) (upd H1 l (.lst ((List.range n).map fun (i : Nat) => V.int (i : Int))))
section
variable {X : Cx} {a : Expr} {p p2 pos pos2 : Pos} {ta : TA}
end
end L2

set_option Elab.async false
set_option linter.all false
set_option maxHeartbeats 1000000
namespace L2
open PySem PySem.Spec PyProof.Rows
/-! marks: the same just where points hang together -/
def jn (ms : List Int) (s g : Nat) : List Int := ms.map fun x => if x = ms.getD g 0 then ms.getD s 0 else x
def mks0 (m : Nat) : List Int := (List.range m).map fun (i : Nat) => (i : Int)
def mstep (ms : List Int) (d : RD) : List Int := if d.1 = .pu then ms else jn ms d.2.1.toNat d.2.2.1.toNat
def mks (m : Nat) (ds : List RD) : List Int := ds.foldl mstep (mks0 m)
def mk (m : Nat) (ds : List RD) (p : Nat) : Int := (mks m ds).getD p 0
theorem mks_snoc (m : Nat) (ds : List RD) (d : RD) : mks m (ds ++ [d]) = mstep (mks m ds) d := by unfold mks; rw [List.foldl_append]; rfl
theorem mstep_len (ms : List Int) (d : RD) : (mstep ms d).length = ms.length := by
  unfold mstep
  split
  · rfl
  · unfold jn; rw [List.length_map]
theorem foldm_len : ∀ (ds : List RD) (ms : List Int), (ds.foldl mstep ms).length = ms.length
  | [], _ => rfl
  | d :: ds, ms => by show (ds.foldl mstep (mstep ms d)).length = _; rw [foldm_len ds, mstep_len]
theorem mks_len (m : Nat) (ds : List RD) : (mks m ds).length = m := by unfold mks mks0; rw [foldm_len, List.length_map, List.length_range]
theorem getD_map {ms : List Int} {f : Int → Int} {p : Nat} (h : p < ms.length) : (ms.map f).getD p 0 = f (ms.getD p 0) := by
  rw [List.getD_eq_getElem?_getD, List.getElem?_map, List.getD_eq_getElem?_getD, List.getElem?_eq_getElem h]; rfl
theorem mk_nil {m p : Nat} (h : p < m) : mk m [] p = (p : Int) := by
  show (mks0 m).getD p 0 = _
  unfold mks0
  rw [List.getD_eq_getElem?_getD, List.getElem?_map, List.getElem?_range h]; rfl
theorem mk_push {m : Nat} {ds : List RD} {d : RD} (hk : d.1 = .pu) (p : Nat) : mk m (ds ++ [d]) p = mk m ds p := by
  unfold mk
  rw [mks_snoc]
  unfold mstep
  rw [if_pos hk]
theorem mk_join {m : Nat} {ds : List RD} {d : RD} (hk : d.1 ≠ .pu) {p : Nat} (hp : p < m) : mk m (ds ++ [d]) p = if mk m ds p = mk m ds d.2.2.1.toNat then mk m ds d.2.1.toNat else mk m ds p := by
  unfold mk
  rw [mks_snoc]
  unfold mstep
  rw [if_neg hk]
  unfold jn
  rw [getD_map (by rw [mks_len]; exact hp)]
/-- points hang together -/
inductive Cn (ds : List RD) : Nat → Nat → Prop where
  | refl (p : Nat) : Cn ds p p
  | row {d : RD} (h : d ∈ ds) (hk : d.1 ≠ .pu) : Cn ds d.2.1.toNat d.2.2.1.toNat
  | symm {p q : Nat} (h : Cn ds p q) : Cn ds q p
  | trans {p q r : Nat} (h : Cn ds p q) (g : Cn ds q r) : Cn ds p r
theorem Cn.mono {ds es : List RD} (h : ∀ d ∈ ds, d ∈ es) {p q : Nat} (c : Cn ds p q) : Cn es p q := by
  induction c with
  | refl p => exact .refl p
  | row hd hk => exact .row (h _ hd) hk
  | symm _ ih => exact .symm ih
  | trans _ _ a b => exact .trans a b
theorem mk_sound {m : Nat} : ∀ (n : Nat) (ds : List RD), ds.length = n → (∀ d ∈ ds, PtOk (m : Int) d.2.1 d.2.2.1) → ∀ p q, p < m → q < m → mk m ds p = mk m ds q → Cn ds p q
  | 0, ds, hl, _, p, q, hp, hq, e => by
    have : ds = [] := List.length_eq_zero_iff.mp hl
    subst this
    rw [mk_nil hp, mk_nil hq] at e
    have : p = q := by omega
    subst this
    exact .refl p
  | n + 1, ds, hl, pt, p, q, hp, hq, e => by
    obtain ⟨es, d, rfl⟩ : ∃ es d, ds = es ++ [d] := ⟨ds.dropLast, ds.getLast (by intro z; rw [z] at hl; cases hl), (List.dropLast_concat_getLast _).symm⟩
    have le : es.length = n := by rw [List.length_append] at hl; simpa using hl
    have ih := mk_sound n es le (fun x hx => pt x (List.mem_append_left _ hx))
    have up : ∀ {a b : Nat}, Cn es a b → Cn (es ++ [d]) a b := fun c => c.mono fun x hx => List.mem_append_left _ hx
    by_cases hk : d.1 = .pu
    · rw [mk_push hk, mk_push hk] at e
      exact up (ih p q hp hq e)
    · obtain ⟨i0, i1, j0, j1⟩ := pt d (by simp)
      have hs : d.2.1.toNat < m := by omega
      have hg : d.2.2.1.toNat < m := by omega
      have rw' : Cn (es ++ [d]) d.2.1.toNat d.2.2.1.toNat := .row (by simp) hk
      rw [mk_join hk hp, mk_join hk hq] at e
      by_cases a : mk m es p = mk m es d.2.2.1.toNat
      · have cp := up (ih _ _ hp hg a)
        rw [if_pos a] at e
        by_cases b : mk m es q = mk m es d.2.2.1.toNat
        · exact cp.trans (up (ih _ _ hq hg b)).symm
        · rw [if_neg b] at e
          exact cp.trans (rw'.symm.trans (up (ih _ _ hs hq e)))
      · rw [if_neg a] at e
        by_cases b : mk m es q = mk m es d.2.2.1.toNat
        · rw [if_pos b] at e
          exact (up (ih _ _ hp hs e)).trans (rw'.trans (up (ih _ _ hq hg b)).symm)
        · rw [if_neg b] at e
          exact up (ih _ _ hp hq e)
theorem mk_rows {m : Nat} : ∀ (n : Nat) (ds : List RD), ds.length = n → (∀ d ∈ ds, PtOk (m : Int) d.2.1 d.2.2.1) → ∀ d ∈ ds, d.1 ≠ .pu → mk m ds d.2.1.toNat = mk m ds d.2.2.1.toNat
  | 0, ds, hl, _, d, hd, _ => by
    have : ds = [] := List.length_eq_zero_iff.mp hl
    rw [this] at hd; cases hd
  | n + 1, ds, hl, pt, x, hx, hkx => by
    obtain ⟨es, d, rfl⟩ : ∃ es d, ds = es ++ [d] := ⟨ds.dropLast, ds.getLast (by intro z; rw [z] at hl; cases hl), (List.dropLast_concat_getLast _).symm⟩
    have le : es.length = n := by rw [List.length_append] at hl; simpa using hl
    obtain ⟨i0, i1, j0, j1⟩ := pt x hx
    have hs : x.2.1.toNat < m := by omega
    have hg : x.2.2.1.toNat < m := by omega
    by_cases hk : d.1 = .pu
    · rw [mk_push hk, mk_push hk]
      rcases List.mem_append.mp hx with z | z
      · exact mk_rows n es le (fun y hy => pt y (List.mem_append_left _ hy)) x z hkx
      · have : x = d := by simpa using z
        rw [this] at hkx
        exact absurd hk hkx
    · rw [mk_join hk hs, mk_join hk hg]
      rcases List.mem_append.mp hx with z | z
      · have ih := mk_rows n es le (fun y hy => pt y (List.mem_append_left _ hy)) x z hkx
        rw [ih]
      · have : x = d := by simpa using z
        subst this
        rw [if_pos rfl]
        by_cases c : mk m es x.2.1.toNat = mk m es x.2.2.1.toNat
        · rw [if_pos c]
        · rw [if_neg c]
/-- a relation that the rows keep is kept along all that hangs together -/
theorem Cn.ind {ds : List RD} {R : Nat → Nat → Prop} (r : ∀ p, R p p) (s : ∀ p q, R p q → R q p) (t : ∀ p q x, R p q → R q x → R p x) (h : ∀ d ∈ ds, d.1 ≠ .pu → R d.2.1.toNat d.2.2.1.toNat) {p q : Nat} (c : Cn ds p q) : R p q := by
  induction c with
  | refl p => exact r p
  | row hd hk => exact h _ hd hk
  | symm _ ih => exact s _ _ ih
  | trans _ _ a b => exact t _ _ _ a b
theorem mk_cn {m : Nat} {ds : List RD} (pt : ∀ d ∈ ds, PtOk (m : Int) d.2.1 d.2.2.1) {p q : Nat} (hp : p < m) (hq : q < m) : mk m ds p = mk m ds q ↔ Cn ds p q :=
  ⟨mk_sound _ ds rfl pt p q hp hq, fun c => Cn.ind (R := fun a b => mk m ds a = mk m ds b) (fun _ => rfl) (fun _ _ e => e.symm) (fun _ _ _ a b => a.trans b) (fun d hd hk => mk_rows _ ds rfl pt d hd hk) c⟩
/-! groups by their marks, in the order of their first points -/
def addp (G : List (Int × List Int)) (k p : Int) : List (Int × List Int) := if G.any (fun e => decide (e.1 = k)) then G.map (fun e => if e.1 = k then (e.1, e.2 ++ [p]) else e) else G ++ [(k, [p])]
def grp (F : Nat → Int) : Nat → List (Int × List Int)
  | 0 => []
  | n + 1 => addp (grp F n) (F n) (n : Int)
def mem (F : Nat → Int) (n : Nat) (k : Int) : List Int := ((List.range n).filter fun q => decide (F q = k)).map fun (q : Nat) => (q : Int)
def firsts (F : Nat → Int) (n : Nat) : List Nat := (List.range n).filter fun p => (List.range p).all fun q => decide (F q ≠ F p)
end L2

set_option Elab.async false
set_option linter.all false
set_option maxHeartbeats 1000000
namespace L2
open PySem PySem.Spec PyProof.Rows
/-! a dict of new lists, by marks -/
inductive Gd (H0 H : Hp) : List (Key × V) → List (Int × List Int) → List Addr → Prop where
  | nil : Gd H0 H [] [] []
  | cons {a : Addr} {k : Int} {ps : List Int} {kvs : List (Key × V)} {G : List (Int × List Int)} {as : List Addr} (n : H0 a = none) (h : H a = some (.lst (ps.map V.int))) (r : Gd H0 H kvs G as) : Gd H0 H ((Sum.inl k, .ref a) :: kvs) ((k, ps) :: G) (a :: as)
section
variable {H0 H H' : Hp} {kvs : List (Key × V)} {G : List (Int × List Int)} {as : List Addr}
end
/-- lists of points, new -/
structure Ils (H0 H : Hp) (us : List V) (X : List (List Int)) : Prop where
  l : us.length = X.length
  r : ∀ (i : Nat) (x : V) (ps : List Int), us[i]? = some x → X[i]? = some ps → ∃ a : Addr, x = .ref a ∧ H0 a = none ∧ H a = some (.lst (ps.map V.int))
end L2

set_option Elab.async false
set_option linter.all false
set_option maxHeartbeats 1000000
namespace L2
open PySem PySem.Spec PyProof.Rows
/-! points reached, as a dict -/
def rch (S : List Nat) : List (Key × V) := S.map fun (p : Nat) => ((Sum.inl (p : Int) : Key), V.bl true)
theorem rch_any (p : Nat) : ∀ S : List Nat, ((rch S).any fun kv => decide (kv.1 = Sum.inl (p : Int))) = decide (p ∈ S)
  | [] => by simp [rch]
  | q :: S => by
    have ih := rch_any p S
    show (decide ((Sum.inl (q : Int) : Key) = Sum.inl (p : Int)) || (rch S).any fun kv => decide (kv.1 = Sum.inl (p : Int))) = _
    rw [ih]
    by_cases h : q = p
    · subst h; simp
    · have h1 : ¬ ((Sum.inl (q : Int) : Key) = Sum.inl (p : Int)) := fun z => h (Int.ofNat.inj (Sum.inl.inj z))
      have h2 : p ≠ q := fun z => h z.symm
      rw [decide_eq_false h1, Bool.false_or]
      exact decide_eq_decide.mpr ⟨fun z => List.mem_cons_of_mem _ z, fun z => (List.mem_cons.mp z).resolve_left h2⟩
theorem rch_val (p : Nat) (S : List Nat) : valV (rch S) (Sum.inl (p : Int)) = if p ∈ S then some (.bl true) else none := by
  unfold rch
  induction S with
  | nil => rfl
  | cons q S ih =>
    rw [List.map_cons]
    by_cases h : q = p
    · subst h; rw [valV_pos rfl, if_pos (List.mem_cons_self ..)]
    · rw [valV_neg (fun z => h (Int.ofNat.inj (Sum.inl.inj z))), ih]
      have h2 : p ≠ q := fun z => h z.symm
      by_cases c : p ∈ S
      · rw [if_pos c, if_pos (List.mem_cons_of_mem _ c)]
      · rw [if_neg c, if_neg (fun z => by rcases List.mem_cons.mp z with z | z; exact h2 z; exact c z)]
def addS (S : List Nat) (p : Nat) : List Nat := if p ∈ S then S else S ++ [p]
theorem rch_put (p : Nat) (S : List Nat) : putK (rch S) (Sum.inl (p : Int)) (.bl true) = rch (addS S p) := by
  unfold putK addS
  rw [rch_any]
  by_cases c : p ∈ S
  · rw [decide_eq_true c, if_pos rfl, if_pos c]
    unfold rch
    rw [List.map_map]
    refine List.map_congr_left fun q _ => ?_
    show (if (Sum.inl (q : Int) : Key) = Sum.inl (p : Int) then (Sum.inl (q : Int), V.bl true) else (Sum.inl (q : Int), V.bl true)) = _
    split <;> rfl
  · rw [decide_eq_false c, if_neg (by simp), if_neg c]
    unfold rch
    rw [List.map_append]; rfl
theorem nd_le : ∀ {m : Nat} {S : List Nat}, S.Nodup → (∀ p ∈ S, p < m) → S.length ≤ m
  | 0, [], _, _ => Nat.le_refl _
  | 0, p :: S, _, h => absurd (h p (List.mem_cons_self ..)) (Nat.not_lt_zero _)
  | m + 1, S, nd, h => by
    have e := nd_le (m := m) (S := S.erase m) (nd.erase m) (fun p hp => by
      have h1 := h p (List.mem_of_mem_erase hp)
      have h2 : p ≠ m := fun z => by rw [z] at hp; exact (List.Nodup.not_mem_erase nd) hp
      omega)
    have := List.length_erase_le (a := m) (l := S)
    have h3 : S.length ≤ (S.erase m).length + 1 := by
      rw [List.length_erase]; split <;> omega
    omega
/-- what is closed under the rows and hangs together with its first -/
theorem grown_iff {m : Nat} {ds : List RD} {f : Nat} {S : List Nat} (pt : ∀ d ∈ ds, PtOk (m : Int) d.2.1 d.2.2.1) (hf : f < m) (h1 : f ∈ S) (h2 : ∀ p ∈ S, p < m ∧ mk m ds p = mk m ds f)
    (h3 : ∀ d ∈ ds, d.1 ≠ .pu → (d.2.1.toNat ∈ S ↔ d.2.2.1.toNat ∈ S)) {p : Nat} (hp : p < m) : p ∈ S ↔ mk m ds p = mk m ds f := by
  refine ⟨fun h => (h2 p h).2, fun h => ?_⟩
  exact (Cn.ind (R := fun a b => a ∈ S ↔ b ∈ S) (fun _ => Iff.rfl) (fun _ _ e => e.symm) (fun _ _ _ a b => a.trans b) h3 ((mk_cn pt hf hp).mp h.symm)).mp h1
end L2

set_option Elab.async false
set_option linter.all false
set_option maxHeartbeats 2000000
namespace L2
open PySem PySem.Spec PyProof.Rows
/-! ways along rows, as they are gone -/
abbrev Stp := Nat × Int
abbrev Br := Nat × Nat × Nat
def stF (es : List Br) (p : Nat) : List (Stp × Nat) := es.filterMap fun e => if e.2.1 = p then some ((e.1, 1), e.2.2) else if e.2.2 = p then some ((e.1, -1), e.2.1) else none
abbrev WS := List (Nat × List Stp)
def wkeys (w : WS) : List Nat := w.map (·.1)
def wget : WS → Nat → Option (List Stp)
  | [], _ => none
  | e :: w, p => if e.1 = p then some e.2 else wget w p
theorem wget_some {p : Nat} {st : List Stp} : ∀ {w : WS}, wget w p = some st → (p, st) ∈ w
  | [], h => by cases h
  | e :: w, h => by
    unfold wget at h
    by_cases c : e.1 = p
    · rw [if_pos c] at h
      cases h
      obtain ⟨a, b⟩ := e
      have c : a = p := c
      subst c
      exact List.mem_cons_self ..
    · rw [if_neg c] at h
      exact List.mem_cons_of_mem _ (wget_some h)
theorem wget_in {p : Nat} : ∀ {w : WS}, p ∈ wkeys w → ∃ st, wget w p = some st
  | [], h => by cases h
  | e :: w, h => by
    unfold wget
    by_cases c : e.1 = p
    · rw [if_pos c]; exact ⟨_, rfl⟩
    · rw [if_neg c]
      rcases List.mem_cons.mp h with z | z
      · exact absurd z.symm c
      · exact wget_in z
theorem wget_none {p : Nat} : ∀ {w : WS}, p ∉ wkeys w → wget w p = none
  | [], _ => rfl
  | e :: w, h => by
    unfold wget
    rw [if_neg (fun z => h (by rw [← z]; exact List.mem_cons_self ..))]
    exact wget_none fun z => h (List.mem_cons_of_mem _ z)
theorem wget_iff {w : WS} {p : Nat} : (wget w p).isSome = true ↔ p ∈ wkeys w := by
  by_cases c : p ∈ wkeys w
  · obtain ⟨st, e⟩ := wget_in c
    rw [e]; exact ⟨fun _ => c, fun _ => rfl⟩
  · rw [wget_none c]; exact ⟨fun z => (by cases z), fun z => absurd z c⟩
def inF (p : Nat) (s : WS × List Nat) (t : Stp × Nat) : WS × List Nat := if t.2 ∈ wkeys s.1 then s else (s.1 ++ [(t.2, (wget s.1 p).getD [] ++ [t.1])], s.2 ++ [t.2])
def stepF (es : List Br) (s : WS × List Nat) : WS × List Nat := if s.2 = [] then s else (stF es (s.2.getLastD 0)).foldl (inF (s.2.getLastD 0)) (s.1, s.2.dropLast)
def iterF (es : List Br) (b : Nat) : Nat → WS × List Nat
  | 0 => ([(b, [])], [b])
  | n + 1 => stepF es (iterF es b n)
def wayF (es : List Br) (b e : Nat) : Option (List Stp) := wget (iterF es b 60).1 e
def Goes (es : List Br) (s : Stp) (p q : Nat) : Prop := ∃ u v, (s.1, u, v) ∈ es ∧ ((s.2 = 1 ∧ p = u ∧ q = v) ∨ (s.2 = -1 ∧ p = v ∧ q = u))
inductive Pt (es : List Br) (b : Nat) : List Stp → Nat → List Nat → Prop where
  | nil : Pt es b [] b [b]
  | snoc {st : List Stp} {p q : Nat} {pts : List Nat} {s : Stp} (h : Pt es b st p pts) (g : Goes es s p q) (n : q ∉ pts) : Pt es b (st ++ [s]) q (pts ++ [q])
theorem stF_goes {es : List Br} {p : Nat} {t : Stp × Nat} (h : t ∈ stF es p) : Goes es t.1 p t.2 := by
  unfold stF at h
  obtain ⟨e, he, ht⟩ := List.mem_filterMap.mp h
  by_cases c1 : e.2.1 = p
  · rw [if_pos c1] at ht
    cases ht
    exact ⟨e.2.1, e.2.2, he, .inl ⟨rfl, c1.symm, rfl⟩⟩
  · rw [if_neg c1] at ht
    by_cases c2 : e.2.2 = p
    · rw [if_pos c2] at ht
      cases ht
      exact ⟨e.2.1, e.2.2, he, .inr ⟨rfl, c2.symm, rfl⟩⟩
    · rw [if_neg c2] at ht; cases ht
theorem goes_stF {es : List Br} {p q : Nat} {s : Stp} (h : Goes es s p q) : q = p ∨ ∃ t ∈ stF es p, t.2 = q := by
  obtain ⟨u, v, he, h⟩ := h
  by_cases c : q = p
  · exact .inl c
  refine .inr ?_
  rcases h with ⟨_, rfl, rfl⟩ | ⟨_, rfl, rfl⟩
  · refine ⟨((s.1, 1), q), List.mem_filterMap.mpr ⟨_, he, ?_⟩, rfl⟩
    rw [if_pos rfl]
  · refine ⟨((s.1, -1), q), List.mem_filterMap.mpr ⟨_, he, ?_⟩, rfl⟩
    rw [if_neg c, if_pos rfl]
/-- what holds between the steps -/
structure WI (es : List Br) (b : Nat) (s : WS × List Nat) : Prop where
  nd : (wkeys s.1).Nodup
  kb : b ∈ wkeys s.1
  pt : ∀ x st, (x, st) ∈ s.1 → ∃ pts, Pt es b st x pts ∧ ∀ y ∈ pts, y ∈ wkeys s.1
  q : ∀ x ∈ s.2, x ∈ wkeys s.1
  cl : ∀ x ∈ wkeys s.1, x ∉ s.2 → ∀ t y, Goes es t x y → y ∈ wkeys s.1
theorem wi_start (es : List Br) (b : Nat) : WI es b ([(b, [])], [b]) := by
  refine ⟨by simp [wkeys], by simp [wkeys], fun x st h => ?_, fun x h => ?_, fun x h n => ?_⟩
  · have : (x, st) = (b, []) := by simpa using h
    cases this
    exact ⟨[b], .nil, fun y hy => by simpa [wkeys] using hy⟩
  · simpa [wkeys] using h
  · have : x = b := by simpa [wkeys] using h
    exact absurd (by simp [this]) n
theorem wk_app (w : WS) (x : Nat) (st : List Stp) : wkeys (w ++ [(x, st)]) = wkeys w ++ [x] := by unfold wkeys; rw [List.map_append]; rfl
/-- within a step: the point that was taken is still to be closed -/
structure WJ (es : List Br) (b p : Nat) (T : List (Stp × Nat)) (s : WS × List Nat) : Prop where
  nd : (wkeys s.1).Nodup
  kb : b ∈ wkeys s.1
  kp : p ∈ wkeys s.1
  pt : ∀ x st, (x, st) ∈ s.1 → ∃ pts, Pt es b st x pts ∧ ∀ y ∈ pts, y ∈ wkeys s.1
  q : ∀ x ∈ s.2, x ∈ wkeys s.1
  cl : ∀ x ∈ wkeys s.1, x ∉ s.2 → x ≠ p → ∀ t y, Goes es t x y → y ∈ wkeys s.1
  t : ∀ t ∈ T, t.2 ∈ wkeys s.1
theorem wj_in {es : List Br} {b p : Nat} {T : List (Stp × Nat)} {s : WS × List Nat} {t : Stp × Nat} (h : WJ es b p T s) (g : Goes es t.1 p t.2) : WJ es b p (T ++ [t]) (inF p s t) := by
  unfold inF
  by_cases c : t.2 ∈ wkeys s.1
  · rw [if_pos c]
    refine { h with t := fun u hu => ?_ }
    rcases List.mem_append.mp hu with z | z
    · exact h.t u z
    · have : u = t := by simpa using z
      rw [this]; exact c
  · rw [if_neg c]
    obtain ⟨sp, ep⟩ := wget_in h.kp
    rw [ep]
    have up : ∀ {x : Nat}, x ∈ wkeys s.1 → x ∈ wkeys (s.1 ++ [(t.2, sp ++ [t.1])]) := fun hx => by rw [wk_app]; exact List.mem_append_left _ hx
    have me : t.2 ∈ wkeys (s.1 ++ [(t.2, sp ++ [t.1])]) := by rw [wk_app]; simp
    refine ⟨?_, up h.kb, up h.kp, fun x st hx => ?_, fun x hx => ?_, fun x hx nx np => ?_, fun u hu => ?_⟩
    · show (wkeys (s.1 ++ [(t.2, sp ++ [t.1])])).Nodup
      rw [wk_app, List.nodup_append]
      refine ⟨h.nd, by simp, fun x hx y hy z => ?_⟩
      have : y = t.2 := by simpa using hy
      exact c (by rw [← this, ← z]; exact hx)
    · rcases List.mem_append.mp hx with z | z
      · obtain ⟨pts, h1, h2⟩ := h.pt x st z
        exact ⟨pts, h1, fun y hy => up (h2 y hy)⟩
      · have : (x, st) = (t.2, sp ++ [t.1]) := by simpa using z
        cases this
        obtain ⟨pts, h1, h2⟩ := h.pt p sp (wget_some ep)
        refine ⟨pts ++ [t.2], .snoc h1 g (fun z => c (h2 _ z)), fun y hy => ?_⟩
        rcases List.mem_append.mp hy with z | z
        · exact up (h2 y z)
        · have : y = t.2 := by simpa using z
          rw [this]; exact me
    · rcases List.mem_append.mp hx with z | z
      · exact up (h.q x z)
      · have : x = t.2 := by simpa using z
        rw [this]; exact me
    · have hx' : x ∈ wkeys s.1 := by
        have hx2 : x ∈ wkeys (s.1 ++ [(t.2, sp ++ [t.1])]) := hx
        rw [wk_app] at hx2
        rcases List.mem_append.mp hx2 with z | z
        · exact z
        · exact absurd (List.mem_append_right _ z) nx
      intro t' y hg
      exact up (h.cl x hx' (fun z => nx (List.mem_append_left _ z)) np t' y hg)
    · rcases List.mem_append.mp hu with z | z
      · exact up (h.t u z)
      · have : u = t := by simpa using z
        rw [this]; exact me
theorem wj_fold {es : List Br} {b p : Nat} : ∀ (U T : List (Stp × Nat)) {s : WS × List Nat}, WJ es b p T s → (∀ t ∈ U, Goes es t.1 p t.2) → WJ es b p (T ++ U) (U.foldl (inF p) s)
  | [], T, s, h, _ => by rw [List.append_nil]; exact h
  | u :: U, T, s, h, g => by
    have := wj_fold U (T ++ [u]) (wj_in h (g u (by simp))) fun t ht => g t (List.mem_cons_of_mem _ ht)
    rw [List.append_assoc] at this
    exact this
theorem last_in {q : List Nat} (h : q ≠ []) : q.getLastD 0 ∈ q ∧ q = q.dropLast ++ [q.getLastD 0] := by
  have e : q.getLastD 0 = q.getLast h := by rw [List.getLastD_eq_getLast?, List.getLast?_eq_some_getLast h]; rfl
  rw [e]
  exact ⟨List.getLast_mem h, (List.dropLast_concat_getLast h).symm⟩
theorem wi_begin {es : List Br} {b : Nat} {s : WS × List Nat} (h : WI es b s) (hq : s.2 ≠ []) : WJ es b (s.2.getLastD 0) [] (s.1, s.2.dropLast) := by
  obtain ⟨m, e⟩ := last_in hq
  refine ⟨h.nd, h.kb, h.q _ m, h.pt, fun x hx => h.q x (List.dropLast_subset _ hx), fun x hx nx np => h.cl x hx fun z => ?_, fun t ht => by cases ht⟩
  rw [e] at z
  rcases List.mem_append.mp z with z | z
  · exact nx z
  · exact np (by simpa using z)
theorem wi_end {es : List Br} {b p : Nat} {s : WS × List Nat} (h : WJ es b p (stF es p) s) : WI es b s := by
  refine ⟨h.nd, h.kb, h.pt, h.q, fun x hx nx t y hg => ?_⟩
  by_cases c : x = p
  · subst c
    rcases goes_stF hg with z | ⟨u, hu, e⟩
    · rw [z]; exact hx
    · rw [← e]; exact h.t u hu
  · exact h.cl x hx nx c t y hg
theorem wi_step {es : List Br} {b : Nat} {s : WS × List Nat} (h : WI es b s) : WI es b (stepF es s) := by
  unfold stepF
  by_cases c : s.2 = []
  · rw [if_pos c]; exact h
  · rw [if_neg c]
    have := wj_fold (stF es (s.2.getLastD 0)) [] (wi_begin h c) fun t ht => stF_goes ht
    rw [List.nil_append] at this
    exact wi_end this
theorem wi_iter (es : List Br) (b : Nat) : ∀ n, WI es b (iterF es b n)
  | 0 => wi_start es b
  | n + 1 => wi_step (wi_iter es b n)
/-! how long it goes -/
def muF (s : WS × List Nat) : Nat := 2 * (20 - s.1.length) + s.2.length
structure Ptm (m : Nat) (es : List Br) : Prop where
  p : ∀ e ∈ es, e.2.1 < m ∧ e.2.2 < m
theorem pt_lt {m : Nat} {es : List Br} {b : Nat} (h : Ptm m es) (hb : b < m) {st : List Stp} {x : Nat} {pts : List Nat} (p : Pt es b st x pts) : x < m := by
  cases p with
  | nil => exact hb
  | snoc _ g _ =>
    obtain ⟨u, v, he, g⟩ := g
    have := h.p _ he
    rcases g with ⟨_, _, rfl⟩ | ⟨_, _, rfl⟩
    · exact this.2
    · exact this.1
theorem key_lt {m : Nat} {es : List Br} {b : Nat} (h : Ptm m es) (hb : b < m) {w : WS} (pt : ∀ x st, (x, st) ∈ w → ∃ pts, Pt es b st x pts ∧ ∀ y ∈ pts, y ∈ wkeys w) : ∀ x ∈ wkeys w, x < m := fun x hx => by
  obtain ⟨st, e⟩ := wget_in hx
  obtain ⟨pts, p, _⟩ := pt x st (wget_some e)
  exact pt_lt h hb p
theorem wk_le {m : Nat} {es : List Br} {b : Nat} (h : Ptm m es) (hb : b < m) {w : WS} (nd : (wkeys w).Nodup) (pt : ∀ x st, (x, st) ∈ w → ∃ pts, Pt es b st x pts ∧ ∀ y ∈ pts, y ∈ wkeys w) : w.length ≤ m := by
  have := nd_le nd (key_lt h hb pt)
  unfold wkeys at this
  rwa [List.length_map] at this
theorem mu_in {es : List Br} {b p m : Nat} {T : List (Stp × Nat)} {s : WS × List Nat} {t : Stp × Nat} (hm : Ptm m es) (hb : b < m) (h20 : m ≤ 20) (h : WJ es b p T s) (g : Goes es t.1 p t.2) : muF (inF p s t) ≤ muF s := by
  have h' := wj_in h g
  have le := wk_le hm hb h'.nd h'.pt
  unfold inF at le ⊢
  by_cases c : t.2 ∈ wkeys s.1
  · rw [if_pos c]; exact Nat.le_refl _
  · rw [if_neg c] at le ⊢
    unfold muF
    simp only [List.length_append, List.length_cons, List.length_nil] at le ⊢
    omega
theorem mu_fold {es : List Br} {b p m : Nat} (hm : Ptm m es) (hb : b < m) (h20 : m ≤ 20) : ∀ (U T : List (Stp × Nat)) {s : WS × List Nat}, WJ es b p T s → (∀ t ∈ U, Goes es t.1 p t.2) → muF (U.foldl (inF p) s) ≤ muF s
  | [], _, _, _, _ => Nat.le_refl _
  | u :: U, T, s, h, g => Nat.le_trans (mu_fold hm hb h20 U (T ++ [u]) (wj_in h (g u (by simp))) fun t ht => g t (List.mem_cons_of_mem _ ht)) (mu_in hm hb h20 h (g u (by simp)))
theorem mu_begin {s : WS × List Nat} (h : s.2 ≠ []) : muF (s.1, s.2.dropLast) + 1 = muF s := by
  have : 0 < s.2.length := List.length_pos_iff.mpr h
  show 2 * (20 - s.1.length) + s.2.dropLast.length + 1 = 2 * (20 - s.1.length) + s.2.length
  rw [List.length_dropLast]
  omega
theorem mu_step {es : List Br} {b m : Nat} {s : WS × List Nat} (hm : Ptm m es) (hb : b < m) (h20 : m ≤ 20) (h : WI es b s) (hq : s.2 ≠ []) : muF (stepF es s) + 1 ≤ muF s := by
  unfold stepF
  rw [if_neg hq]
  have := mu_fold hm hb h20 (stF es (s.2.getLastD 0)) [] (wi_begin h hq) fun t ht => stF_goes ht
  have e := mu_begin hq
  omega
theorem iter_done {es : List Br} {b : Nat} {i : Nat} (h : (iterF es b i).2 = []) : ∀ n, iterF es b (i + n) = iterF es b i
  | 0 => rfl
  | n + 1 => by
    show stepF es (iterF es b (i + n)) = _
    rw [iter_done h n]
    unfold stepF
    rw [if_pos h]
theorem iter_60 {es : List Br} {b i : Nat} (h : (iterF es b i).2 = []) (hi : i ≤ 60) : (iterF es b 60).1 = (iterF es b i).1 := by
  have := iter_done h (60 - i)
  rw [show i + (60 - i) = 60 by omega] at this
  rw [this]
/-- it comes to an end -/
theorem iter_ends {es : List Br} {b m : Nat} (hm : Ptm m es) (hb : b < m) (h20 : m ≤ 20) : ∀ n, (iterF es b n).2 = [] ∨ n + muF (iterF es b n) ≤ 39
  | 0 => .inr (by show 0 + (2 * (20 - 1) + 1) ≤ 39; omega)
  | n + 1 => by
    by_cases c : (iterF es b n).2 = []
    · refine .inl ?_
      show (stepF es (iterF es b n)).2 = []
      unfold stepF
      rw [if_pos c]; exact c
    · rcases iter_ends hm hb h20 n with z | z
      · exact absurd z c
      · have := mu_step hm hb h20 (wi_iter es b n) c
        refine .inr ?_
        show n + 1 + muF (stepF es (iterF es b n)) ≤ 39
        omega
theorem iter_end {es : List Br} {b m : Nat} (hm : Ptm m es) (hb : b < m) (h20 : m ≤ 20) : (iterF es b 60).2 = [] := by
  rcases iter_ends hm hb h20 60 with z | z
  · exact z
  · omega
/-! what a way is -/
def rowsB (es : List Br) : List RD := es.map fun e => (.pc, (e.2.1 : Int), (e.2.2 : Int), (0, 1))
theorem rowsB_pt {m : Nat} {es : List Br} (h : Ptm m es) : ∀ d ∈ rowsB es, PtOk (m : Int) d.2.1 d.2.2.1 := fun d hd => by
  obtain ⟨e, he, rfl⟩ := List.mem_map.mp hd
  have := h.p e he
  exact ⟨by show (0 : Int) ≤ (e.2.1 : Int); omega, by show ((e.2.1 : Nat) : Int) < m; omega, by show (0 : Int) ≤ (e.2.2 : Int); omega, by show ((e.2.2 : Nat) : Int) < m; omega⟩
theorem goes_mk {m : Nat} {es : List Br} (h : Ptm m es) {s : Stp} {p q : Nat} (g : Goes es s p q) : mk m (rowsB es) q = mk m (rowsB es) p := by
  obtain ⟨u, v, he, g⟩ := g
  have e := mk_rows _ (rowsB es) rfl (rowsB_pt h) (.pc, (u : Int), (v : Int), (0, 1)) (List.mem_map.mpr ⟨_, he, rfl⟩) (by intro z; cases z)
  rw [Int.toNat_natCast, Int.toNat_natCast] at e
  rcases g with ⟨_, rfl, rfl⟩ | ⟨_, rfl, rfl⟩
  · exact e.symm
  · exact e
theorem pt_mk {m : Nat} {es : List Br} {b : Nat} (h : Ptm m es) {st : List Stp} {x : Nat} {pts : List Nat} (p : Pt es b st x pts) : mk m (rowsB es) x = mk m (rowsB es) b := by
  induction p with
  | nil => rfl
  | snoc _ g _ ih => rw [goes_mk h g, ih]
theorem way_iff {m : Nat} {es : List Br} {b e : Nat} (h : Ptm m es) (h20 : m ≤ 20) (hb : b < m) (he : e < m) : (wayF es b e).isSome = true ↔ mk m (rowsB es) e = mk m (rowsB es) b := by
  have wi := wi_iter es b 60
  have q0 := iter_end h hb h20
  unfold wayF
  rw [wget_iff]
  refine grown_iff (rowsB_pt h) hb wi.kb (fun p hp => ⟨key_lt h hb wi.pt p hp, ?_⟩) (fun d hd _ => ?_) he
  · obtain ⟨st, e'⟩ := wget_in hp
    obtain ⟨pts, pp, _⟩ := wi.pt p st (wget_some e')
    exact pt_mk h pp
  · obtain ⟨a, ha, rfl⟩ := List.mem_map.mp hd
    show ((a.2.1 : Int).toNat ∈ _ ↔ (a.2.2 : Int).toNat ∈ _)
    rw [Int.toNat_natCast, Int.toNat_natCast]
    exact ⟨fun z => wi.cl _ z (by rw [q0]; simp) (a.1, 1) _ ⟨a.2.1, a.2.2, ha, .inl ⟨rfl, rfl, rfl⟩⟩, fun z => wi.cl _ z (by rw [q0]; simp) (a.1, -1) _ ⟨a.2.1, a.2.2, ha, .inr ⟨rfl, rfl, rfl⟩⟩⟩
/-- points one behind the other -/
structure Chain (es : List Br) (b e : Nat) (st : List Stp) (pts : List Nat) : Prop where
  l : pts.length = st.length + 1
  hb : pts[0]? = some b
  he : pts[st.length]? = some e
  g : ∀ i s, st[i]? = some s → ∃ p q, pts[i]? = some p ∧ pts[i + 1]? = some q ∧ Goes es s p q
  n : (st.map (·.1)).Nodup
theorem pt_ends {es : List Br} {b x : Nat} {st : List Stp} {pts : List Nat} (p : Pt es b st x pts) : ∀ s ∈ st, ∃ y z, y ∈ pts ∧ z ∈ pts ∧ Goes es s y z := by
  induction p with
  | nil => intro s h; cases h
  | @snoc st p q pts s h g n ih =>
    intro t ht
    rcases List.mem_append.mp ht with z | z
    · obtain ⟨y, z', h1, h2, h3⟩ := ih t z
      exact ⟨y, z', List.mem_append_left _ h1, List.mem_append_left _ h2, h3⟩
    · have : t = s := by simpa using z
      subst this
      refine ⟨p, q, List.mem_append_left _ ?_, by simp, g⟩
      cases h with
      | nil => simp
      | snoc _ _ _ => simp
theorem wpt_chain {es : List Br} {b x : Nat} {st : List Stp} {pts : List Nat} (ne : (es.map (·.1)).Nodup) (p : Pt es b st x pts) : Chain es b x st pts := by
  induction p with
  | nil => exact ⟨rfl, rfl, rfl, fun i s h => by simp at h, by simp⟩
  | @snoc st p q pts s h g n ih =>
    have l := ih.l
    refine ⟨by rw [List.length_append, List.length_append, l]; rfl, ?_, ?_, fun i t ht => ?_, ?_⟩
    · rw [List.getElem?_append_left (by omega)]; exact ih.hb
    · rw [List.length_append, List.getElem?_append_right (by simp; omega)]
      simp only [List.length_cons, List.length_nil]
      rw [show st.length + (0 + 1) - pts.length = 0 by omega]; rfl
    · by_cases c : i < st.length
      · rw [List.getElem?_append_left c] at ht
        obtain ⟨y, z, h1, h2, h3⟩ := ih.g i t ht
        exact ⟨y, z, by rw [List.getElem?_append_left (by omega)]; exact h1, by rw [List.getElem?_append_left (by omega)]; exact h2, h3⟩
      · have hi : i = st.length := by
          have := (List.getElem?_eq_some_iff.mp ht).1
          simp only [List.length_append, List.length_cons, List.length_nil] at this
          omega
        subst hi
        rw [List.getElem?_append_right (Nat.le_refl _), Nat.sub_self] at ht
        have : s = t := by simpa using ht
        subst this
        refine ⟨p, q, by rw [List.getElem?_append_left (by omega)]; exact ih.he, ?_, g⟩
        rw [List.getElem?_append_right (by omega), show st.length + 1 - pts.length = 0 by omega]; rfl
    · rw [List.map_append, List.nodup_append]
      refine ⟨ih.n, by simp, fun a ha c hc z => ?_⟩
      have hc : c = s.1 := by simpa using hc
      obtain ⟨t, ht, et⟩ := List.mem_map.mp ha
      obtain ⟨y, w, h1, h2, u', v', he', g'⟩ := pt_ends h t ht
      obtain ⟨u, v, he, g⟩ := g
      have same : (t.1, u', v') = (s.1, u, v) := by
        have key : ∀ {l : List Br}, (l.map (·.1)).Nodup → ∀ {a c : Br}, a ∈ l → c ∈ l → a.1 = c.1 → a = c := fun {l} => by
          induction l with
          | nil => intro _ a c h; cases h
          | cons x l ih =>
            intro nd a c ha hc e
            rw [List.map_cons, List.nodup_cons] at nd
            rcases List.mem_cons.mp ha with rfl | z1 <;> rcases List.mem_cons.mp hc with rfl | z2
            · rfl
            · exact absurd (List.mem_map.mpr ⟨c, z2, e.symm⟩) nd.1
            · exact absurd (List.mem_map.mpr ⟨a, z1, e⟩) nd.1
            · exact ih nd.2 z1 z2 e
        exact key ne he' he (by show t.1 = s.1; rw [et, z, hc])
      have e1 : u' = u := by injection same with _ e; injection e
      have e2 : v' = v := by injection same with _ e; injection e
      subst e1; subst e2
      rcases g with ⟨_, rfl, rfl⟩ | ⟨_, rfl, rfl⟩ <;> rcases g' with ⟨_, rfl, rfl⟩ | ⟨_, rfl, rfl⟩
      · exact n h2
      · exact n h1
      · exact n h1
      · exact n h2
theorem way_chain {es : List Br} {b e : Nat} {st : List Stp} (ne : (es.map (·.1)).Nodup) (h : wayF es b e = some st) : ∃ pts, Chain es b e st pts := by
  obtain ⟨pts, p, _⟩ := (wi_iter es b 60).pt e st (wget_some h)
  exact ⟨pts, wpt_chain ne p⟩
theorem chain_len {m : Nat} {es : List Br} {b e : Nat} {st : List Stp} (hm : Ptm m es) (hb : b < m) (h : wayF es b e = some st) : st.length < m := by
  obtain ⟨pts, p, k⟩ := (wi_iter es b 60).pt e st (wget_some h)
  have l : pts.length = st.length + 1 := by
    clear h
    induction p with
    | nil => rfl
    | snoc h g n ih => rw [List.length_append, List.length_append, ih fun y hy => k y (List.mem_append_left _ hy)]; rfl
  have nd : pts.Nodup := by
    clear h k l
    induction p with
    | nil => simp
    | snoc h g n ih =>
      rw [List.nodup_append]
      refine ⟨ih, by simp, fun x hx y hy z => n ?_⟩
      rw [List.mem_singleton] at hy
      rw [← hy, ← z]; exact hx
  have := nd_le nd fun y hy => key_lt hm hb (wi_iter es b 60).pt y (k y hy)
  omega
/-! rings -/
abbrev Sk := Kd × Nat × Nat
def skl (ds : List RD) : List Sk := ds.map fun d => (d.1, d.2.1.toNat, d.2.2.1.toNat)
/-- the branches and the rings so far -/
abbrev RS := List Br × List (Nat × List Stp)
def ringS (W : Kd → Bool) (s : RS) (k : Nat) (d : Sk) : RS := if W d.1 then (match wayF s.1 d.2.2 d.2.1 with
  | none => (s.1 ++ [(k, d.2.1, d.2.2)], s.2)
  | some st => (s.1, s.2 ++ [(k, (k, 1) :: st)])) else s
def ringF (W : Kd → Bool) (sk : List Sk) : Nat → RS
  | 0 => ([], [])
  | n + 1 => match sk[n]? with
    | none => ringF W sk n
    | some d => ringS W (ringF W sk n) n d
theorem ringF_succ {W : Kd → Bool} {sk : List Sk} {n : Nat} {d : Sk} (h : sk[n]? = some d) : ringF W sk (n + 1) = ringS W (ringF W sk n) n d := by
  show (match sk[n]? with | none => ringF W sk n | some d => ringS W (ringF W sk n) n d) = _
  rw [h]
structure RI (W : Kd → Bool) (sk : List Sk) (m n : Nat) (s : RS) : Prop where
  pt : Ptm m s.1
  nd : (s.1.map (·.1)).Nodup
  lt : ∀ e ∈ s.1, e.1 < n
  at_ : ∀ e ∈ s.1, ∃ k, sk[e.1]? = some (k, e.2.1, e.2.2)
  rl : s.2.length ≤ n
  r : ∀ c ∈ s.2, c.1 < n ∧ ∃ k u v st pts, sk[c.1]? = some (k, u, v) ∧ c.2 = (c.1, 1) :: st ∧ (∀ t ∈ st, t.1 < c.1 ∧ t.1 ∈ s.1.map (·.1)) ∧ Chain s.1 v u st pts ∧ st.length < m
theorem Chain.mono {es es' : List Br} {b e : Nat} {st : List Stp} {pts : List Nat} (h : Chain es b e st pts) (hs : ∀ x ∈ es, x ∈ es') : Chain es' b e st pts :=
  { h with g := fun i s hi => let ⟨p, q, h1, h2, u, v, h3, h4⟩ := h.g i s hi; ⟨p, q, h1, h2, u, v, hs _ h3, h4⟩ }
theorem chain_in {es : List Br} {b e : Nat} {st : List Stp} {pts : List Nat} (h : Chain es b e st pts) : ∀ t ∈ st, t.1 ∈ es.map (·.1) := fun t ht => by
  obtain ⟨i, hi⟩ := List.getElem?_of_mem ht
  obtain ⟨p, q, _, _, u, v, h3, _⟩ := h.g i t hi
  exact List.mem_map.mpr ⟨_, h3, rfl⟩
theorem ringF_ok {W : Kd → Bool} {sk : List Sk} {m : Nat} (hm : ∀ d ∈ sk, d.2.1 < m ∧ d.2.2 < m) : ∀ n, n ≤ sk.length → RI W sk m n (ringF W sk n)
  | 0, _ => ⟨⟨fun e h => (by cases h)⟩, (by show ([] : List Nat).Nodup; simp), fun e h => (by cases h), fun e h => (by cases h), Nat.le_refl _, fun c h => (by cases h)⟩
  | n + 1, hn => by
    have ih := ringF_ok (W := W) hm n (by omega)
    have hd : sk[n]? = some sk[n] := List.getElem?_eq_getElem (by omega)
    rw [ringF_succ hd]
    have pm := hm _ (List.mem_of_getElem? hd)
    generalize sk[n] = d at hd pm
    generalize ringF W sk n = s at ih
    unfold ringS
    by_cases hw : W d.1 = true
    · rw [if_pos hw]
      cases hy : wayF s.1 d.2.2 d.2.1 with
      | none =>
        show RI W sk m (n + 1) (s.1 ++ [(n, d.2.1, d.2.2)], s.2)
        refine ⟨⟨fun e he => ?_⟩, ?_, fun e he => ?_, fun e he => ?_, by have := ih.rl; show s.2.length ≤ n + 1; omega, fun c hc => ?_⟩
        · rcases List.mem_append.mp he with z | z
          · exact ih.pt.p e z
          · have : e = (n, d.2.1, d.2.2) := by simpa using z
            rw [this]; exact pm
        · show ((s.1 ++ [(n, d.2.1, d.2.2)]).map (·.1)).Nodup
          rw [List.map_append, List.nodup_append]
          refine ⟨ih.nd, by simp, fun x hx y hy z => ?_⟩
          have : y = n := by simpa using hy
          obtain ⟨e, he, ee⟩ := List.mem_map.mp hx
          have := ih.lt e he
          omega
        · rcases List.mem_append.mp he with z | z
          · have := ih.lt e z; omega
          · have : e = (n, d.2.1, d.2.2) := by simpa using z
            rw [this]; exact Nat.lt_succ_self n
        · rcases List.mem_append.mp he with z | z
          · exact ih.at_ e z
          · have : e = (n, d.2.1, d.2.2) := by simpa using z
            rw [this]; exact ⟨d.1, hd⟩
        · obtain ⟨h1, k, u, v, st, pts, h2, h3, h4, h5, h6⟩ := ih.r c hc
          refine ⟨by omega, k, u, v, st, pts, h2, h3, fun t ht => ⟨(h4 t ht).1, ?_⟩, h5.mono fun x hx => List.mem_append_left _ hx, h6⟩
          show t.1 ∈ (s.1 ++ [(n, d.2.1, d.2.2)]).map (·.1)
          rw [List.map_append]; exact List.mem_append_left _ (h4 t ht).2
      | some st =>
        show RI W sk m (n + 1) (s.1, s.2 ++ [(n, (n, 1) :: st)])
        refine ⟨ih.pt, ih.nd, fun e he => Nat.lt_succ_of_lt (ih.lt e he), ih.at_, by have := ih.rl; show (s.2 ++ [(n, (n, 1) :: st)]).length ≤ n + 1; rw [List.length_append]; simp only [List.length_cons, List.length_nil]; omega, fun c hc => ?_⟩
        rcases List.mem_append.mp hc with z | z
        · obtain ⟨h1, r⟩ := ih.r c z
          exact ⟨by omega, r⟩
        · have : c = (n, (n, 1) :: st) := by simpa using z
          subst this
          obtain ⟨pts, ch⟩ := way_chain ih.nd hy
          refine ⟨Nat.lt_succ_self n, d.1, d.2.1, d.2.2, st, pts, hd, rfl, fun t ht => ?_, ch, chain_len ih.pt pm.2 hy⟩
          have ti := chain_in ch t ht
          obtain ⟨e, he, ee⟩ := List.mem_map.mp ti
          have := ih.lt e he
          exact ⟨by show t.1 < n; omega, ti⟩
    · rw [if_neg hw]
      exact ⟨ih.pt, ih.nd, fun e he => Nat.lt_succ_of_lt (ih.lt e he), ih.at_, by have := ih.rl; omega, fun c hc => let ⟨h1, r⟩ := ih.r c hc; ⟨by omega, r⟩⟩
/-- a ring is closed just where the marks are the same -/
theorem ringS_mk {W : Kd → Bool} {sk : List Sk} {m n : Nat} {s : RS} {d : Sk} (h20 : m ≤ 20) (h : RI W sk m n s) (hd : d.2.1 < m ∧ d.2.2 < m) (hw : W d.1 = true) : (mk 20 (rowsB s.1) d.2.1 = mk 20 (rowsB s.1) d.2.2 ∧ ∃ st, ringS W s n d = (s.1, s.2 ++ [(n, (n, 1) :: st)])) ∨ (mk 20 (rowsB s.1) d.2.1 ≠ mk 20 (rowsB s.1) d.2.2 ∧ ringS W s n d = (s.1 ++ [(n, d.2.1, d.2.2)], s.2)) := by
  have p20 : Ptm 20 s.1 := ⟨fun e he => by have := h.pt.p e he; omega⟩
  have iff := way_iff (b := d.2.2) (e := d.2.1) p20 (Nat.le_refl _) (by omega) (by omega)
  unfold ringS
  rw [if_pos hw]
  cases hy : wayF s.1 d.2.2 d.2.1 with
  | none =>
    rw [hy] at iff
    exact .inr ⟨fun z => (by have := iff.mpr z; cases this), rfl⟩
  | some st =>
    rw [hy] at iff
    exact .inl ⟨iff.mp rfl, st, rfl⟩
end L2

set_option Elab.async false
set_option linter.all false
set_option maxHeartbeats 2000000
namespace L2
open PySem PySem.Spec PyProof.Rows
/-! on the heap -/
theorem SqT.updD {K : PySem.W.Frag} {H : Hp} {a l : Addr} {xs : List V} {kvs : List (Key × V)} {o : HO} (h : SqT K H a xs) (hl : H l = some (.dK kvs)) : SqT K (L2.upd H l o) a xs := by
  rcases h with (h | ⟨u, h⟩) | h
  · exact .inl (.inl (by rw [upd_ne (ne_of h hl (fun z => by cases z))]; exact h))
  · exact .inl (.inr ⟨u, by rw [upd_ne (ne_of h hl (fun z => by cases z))]; exact h⟩)
  · exact .inr h
/-- a list of steps -/
inductive Sts (K : PySem.W.Frag) (H : Hp) : List V → List Stp → Prop where
  | nil : Sts K H [] []
  | cons {t : Addr} {n : Nat} {w : Int} {xs : List V} {st : List Stp} (h : SqT K H t [.int (n : Int), .int w]) (q : Sts K H xs st) : Sts K H (.ref t :: xs) ((n, w) :: st)
section
variable {K : PySem.W.Frag} {H H' : Hp}
theorem Sts.same (e : Same H H') : ∀ {xs : List V} {st : List Stp}, Sts K H xs st → Sts K H' xs st
  | _, _, .nil => .nil
  | _, _, .cons h q => .cons (e.seqT h) (Sts.same e q)
theorem Sts.length : ∀ {xs : List V} {st : List Stp}, Sts K H xs st → xs.length = st.length
  | _, _, .nil => rfl
  | _, _, .cons _ q => by simp [Sts.length q]
theorem Sts.app : ∀ {xs ys : List V} {st su : List Stp}, Sts K H xs st → Sts K H ys su → Sts K H (xs ++ ys) (st ++ su)
  | _, _, _, _, .nil, r => r
  | _, _, _, _, .cons h q, r => .cons h (Sts.app q r)
theorem Sts.get : ∀ {xs : List V} {st : List Stp} {i : Nat} {x : V}, Sts K H xs st → xs[i]? = some x → ∃ t s, x = .ref t ∧ st[i]? = some s ∧ SqT K H t [.int (s.1 : Int), .int s.2]
  | _, _, _, _, .nil, h => by simp at h
  | _, _, 0, _, .cons h _, e => by simp at e; subst e; exact ⟨_, _, rfl, rfl, h⟩
  | _, _, i + 1, _, .cons _ q, e => by simpa using Sts.get q (by simpa using e)
theorem Sts.upd {l : Addr} {ys : List V} {o : HO} (hl : H l = some (.lst ys)) : ∀ {xs : List V} {st : List Stp}, Sts K H xs st → Sts K (L2.upd H l o) xs st
  | _, _, .nil => .nil
  | _, _, .cons h q => .cons (SqT.upd h hl) (Sts.upd hl q)
theorem Sts.updD {l : Addr} {kvs : List (Key × V)} {o : HO} (hl : H l = some (.dK kvs)) : ∀ {xs : List V} {st : List Stp}, Sts K H xs st → Sts K (L2.upd H l o) xs st
  | _, _, .nil => .nil
  | _, _, .cons h q => .cons (SqT.updD h hl) (Sts.updD hl q)
end
/-- what steps_from tells -/
inductive Sds (K : PySem.W.Frag) (H : Hp) : List V → List (Stp × Nat) → Prop where
  | nil : Sds K H [] []
  | cons {t s : Addr} {n x : Nat} {w : Int} {xs : List V} {st : List (Stp × Nat)} (h : SqT K H t [.ref s, .int (x : Int)]) (g : SqT K H s [.int (n : Int), .int w]) (q : Sds K H xs st) : Sds K H (.ref t :: xs) (((n, w), x) :: st)
section
variable {K : PySem.W.Frag} {H H' : Hp}
theorem Sds.same (e : Same H H') : ∀ {xs : List V} {st : List (Stp × Nat)}, Sds K H xs st → Sds K H' xs st
  | _, _, .nil => .nil
  | _, _, .cons h g q => .cons (e.seqT h) (e.seqT g) (Sds.same e q)
theorem Sds.length : ∀ {xs : List V} {st : List (Stp × Nat)}, Sds K H xs st → xs.length = st.length
  | _, _, .nil => rfl
  | _, _, .cons _ _ q => by simp [Sds.length q]
theorem Sds.app : ∀ {xs ys : List V} {st su : List (Stp × Nat)}, Sds K H xs st → Sds K H ys su → Sds K H (xs ++ ys) (st ++ su)
  | _, _, _, _, .nil, r => r
  | _, _, _, _, .cons h g q, r => .cons h g (Sds.app q r)
theorem Sds.get : ∀ {xs : List V} {st : List (Stp × Nat)} {i : Nat} {x : V}, Sds K H xs st → xs[i]? = some x → ∃ t u s, x = .ref t ∧ st[i]? = some s ∧ SqT K H t [.ref u, .int (s.2 : Int)] ∧ SqT K H u [.int (s.1.1 : Int), .int s.1.2]
  | _, _, _, _, .nil, h => by simp at h
  | _, _, 0, _, .cons h g _, e => by simp at e; subst e; exact ⟨_, _, _, rfl, rfl, h, g⟩
  | _, _, i + 1, _, .cons _ _ q, e => by simpa using Sds.get q (by simpa using e)
theorem Sds.upd {l : Addr} {ys : List V} {o : HO} (hl : H l = some (.lst ys)) : ∀ {xs : List V} {st : List (Stp × Nat)}, Sds K H xs st → Sds K (L2.upd H l o) xs st
  | _, _, .nil => .nil
  | _, _, .cons h g q => .cons (SqT.upd h hl) (SqT.upd g hl) (Sds.upd hl q)
theorem Sds.updD {l : Addr} {kvs : List (Key × V)} {o : HO} (hl : H l = some (.dK kvs)) : ∀ {xs : List V} {st : List (Stp × Nat)}, Sds K H xs st → Sds K (L2.upd H l o) xs st
  | _, _, .nil => .nil
  | _, _, .cons h g q => .cons (SqT.updD h hl) (SqT.updD g hl) (Sds.updD hl q)
end
/-- the dict of ways; none of its lists stands in H0, none is the one at W -/
inductive Wys (K : PySem.W.Frag) (H0 : Hp) (W : Addr) (H : Hp) : List (Key × V) → WS → Prop where
  | nil : Wys K H0 W H [] []
  | cons {a : Addr} {x : Nat} {xs : List V} {st : List Stp} {kvs : List (Key × V)} {w : WS} (n : H0 a = none) (nw : a ≠ W) (h : H a = some (.lst xs)) (f : Sts K H xs st) (q : Wys K H0 W H kvs w) : Wys K H0 W H ((Sum.inl (x : Int), .ref a) :: kvs) ((x, st) :: w)
section
variable {K : PySem.W.Frag} {H0 H H' : Hp} {W : Addr}
theorem Wys.same (e : Same H H') : ∀ {kvs : List (Key × V)} {w : WS}, Wys K H0 W H kvs w → Wys K H0 W H' kvs w
  | _, _, .nil => .nil
  | _, _, .cons n nw h f q => .cons n nw (e _ _ h) (f.same e) (Wys.same e q)
theorem Wys.updW {ys : List V} {o : HO} (hl : H W = some (.lst ys)) : ∀ {kvs : List (Key × V)} {w : WS}, Wys K H0 W H kvs w → Wys K H0 W (L2.upd H W o) kvs w
  | _, _, .nil => .nil
  | _, _, .cons n nw h f q => .cons n nw (by rw [upd_ne nw]; exact h) (f.upd hl) (Wys.updW hl q)
theorem Wys.updD {D : Addr} {kv : List (Key × V)} {o : HO} (hl : H D = some (.dK kv)) : ∀ {kvs : List (Key × V)} {w : WS}, Wys K H0 W H kvs w → Wys K H0 W (L2.upd H D o) kvs w
  | _, _, .nil => .nil
  | _, _, .cons n nw h f q => .cons n nw (by rw [upd_ne (ne_of h hl (fun z => by cases z))]; exact h) (f.updD hl) (Wys.updD hl q)
theorem Wys.length : ∀ {kvs : List (Key × V)} {w : WS}, Wys K H0 W H kvs w → kvs.length = w.length
  | _, _, .nil => rfl
  | _, _, .cons _ _ _ _ q => by simp [Wys.length q]
theorem Wys.snoc {a : Addr} {x : Nat} {xs : List V} {st : List Stp} (n : H0 a = none) (nw : a ≠ W) (h : H a = some (.lst xs)) (f : Sts K H xs st) : ∀ {kvs : List (Key × V)} {w : WS}, Wys K H0 W H kvs w → Wys K H0 W H (kvs ++ [(Sum.inl (x : Int), .ref a)]) (w ++ [(x, st)])
  | _, _, .nil => .cons n nw h f .nil
  | _, _, .cons n' nw' h' f' q => .cons n' nw' h' f' (Wys.snoc n nw h f q)
theorem Wys.none_ {p : Nat} : ∀ {kvs : List (Key × V)} {w : WS}, Wys K H0 W H kvs w → p ∉ wkeys w → valV kvs (Sum.inl (p : Int)) = none ∧ (kvs.any fun kv => decide (kv.1 = Sum.inl (p : Int))) = false
  | _, _, .nil, _ => ⟨rfl, rfl⟩
  | _, _, .cons (x := x) (kvs := kvs) (w := w) n nw h f q, hp => by
    have hx : x ≠ p := fun z => hp (by rw [← z]; exact List.mem_cons_self ..)
    obtain ⟨h1, h2⟩ := Wys.none_ q fun z => hp (List.mem_cons_of_mem _ z)
    refine ⟨by rw [valV_neg (fun z => hx (Int.ofNat.inj (Sum.inl.inj z)))]; exact h1, ?_⟩
    rw [List.any_cons, h2]
    have e : decide ((Sum.inl (x : Int) : Key) = Sum.inl (p : Int)) = false := decide_eq_false fun z => hx (Int.ofNat.inj (Sum.inl.inj z))
    show (decide ((Sum.inl (x : Int) : Key) = Sum.inl (p : Int)) || false) = false
    rw [e]; rfl
theorem Wys.some_ {p : Nat} : ∀ {kvs : List (Key × V)} {w : WS}, Wys K H0 W H kvs w → p ∈ wkeys w → ∃ a xs st, valV kvs (Sum.inl (p : Int)) = some (.ref a) ∧ wget w p = some st ∧ H0 a = none ∧ a ≠ W ∧ H a = some (.lst xs) ∧ Sts K H xs st
  | _, _, .nil, h => by cases h
  | _, _, .cons (a := a) (x := x) (xs := xs) (st := st) (kvs := kvs) (w := w) n nw h f q, hp => by
    by_cases c : x = p
    · subst c
      exact ⟨a, xs, st, by rw [valV_pos rfl], by unfold wget; rw [if_pos rfl], n, nw, h, f⟩
    · have hp' : p ∈ wkeys w := by
        rcases List.mem_cons.mp hp with z | z
        · exact absurd z.symm c
        · exact z
      obtain ⟨a', xs', st', h1, h2, r⟩ := Wys.some_ q hp'
      exact ⟨a', xs', st', by rw [valV_neg (fun z => c (Int.ofNat.inj (Sum.inl.inj z)))]; exact h1, by unfold wget; rw [if_neg c]; exact h2, r⟩
theorem Wys.isSome {p : Nat} {kvs : List (Key × V)} {w : WS} (h : Wys K H0 W H kvs w) : (valV kvs (Sum.inl (p : Int))).isSome = decide (p ∈ wkeys w) := by
  by_cases c : p ∈ wkeys w
  · obtain ⟨a, xs, st, e, _⟩ := h.some_ c
    rw [e, decide_eq_true c]; rfl
  · rw [(h.none_ c).1, decide_eq_false c]; rfl
end
/-- rings told: lists that are new -/
structure Rgs (K : PySem.W.Frag) (H0 H : Hp) (us : List V) (X : List (List Stp)) : Prop where
  l : us.length = X.length
  r : ∀ (i : Nat) (x : V) (st : List Stp), us[i]? = some x → X[i]? = some st → ∃ (a : Addr) (xs : List V), x = .ref a ∧ H0 a = none ∧ H a = some (.lst xs) ∧ Sts K H xs st
theorem Rgs.nil {K : PySem.W.Frag} {H0 H : Hp} : Rgs K H0 H [] [] := ⟨rfl, fun i x st h => by simp at h⟩
theorem Rgs.same {K : PySem.W.Frag} {H0 H H' : Hp} {us : List V} {X : List (List Stp)} (e : Same H H') (f : Rgs K H0 H us X) : Rgs K H0 H' us X := ⟨f.l, fun i x st h1 h2 => let ⟨a, xs, e1, n, h, s⟩ := f.r i x st h1 h2; ⟨a, xs, e1, n, e _ _ h, s.same e⟩⟩
theorem Rgs.snoc {K : PySem.W.Frag} {H0 H : Hp} {us : List V} {X : List (List Stp)} {a : Addr} {xs : List V} {st : List Stp} (f : Rgs K H0 H us X) (n : H0 a = none) (h : H a = some (.lst xs)) (s : Sts K H xs st) : Rgs K H0 H (us ++ [.ref a]) (X ++ [st]) := by
  refine ⟨by rw [List.length_append, List.length_append, f.l]; rfl, fun i x qs h1 h2 => ?_⟩
  have l := f.l
  by_cases c : i < us.length
  · rw [List.getElem?_append_left c] at h1
    rw [List.getElem?_append_left (by omega)] at h2
    exact f.r i x qs h1 h2
  · have hi : i = us.length := by
      have := (List.getElem?_eq_some_iff.mp h1).1
      rw [List.length_append] at this
      simp only [List.length_cons, List.length_nil] at this
      omega
    subst hi
    rw [List.getElem?_append_right (Nat.le_refl _), Nat.sub_self] at h1
    rw [List.getElem?_append_right (by omega), show us.length - X.length = 0 by omega] at h2
    cases h1
    cases h2
    exact ⟨a, xs, rfl, n, h, s⟩
theorem Rgs.updO {K : PySem.W.Frag} {H0 H : Hp} {us : List V} {X : List (List Stp)} {l : Addr} {ys : List V} {o : HO} (f : Rgs K H0 H us X) (hl : H l = some (.lst ys)) (n : ∀ x ∈ us, x ≠ .ref l) : Rgs K H0 (upd H l o) us X := ⟨f.l, fun i x st h1 h2 => let ⟨a, xs, e1, n1, h, s⟩ := f.r i x st h1 h2; ⟨a, xs, e1, n1, by rw [upd_ne (fun z => n x (List.mem_of_getElem? h1) (by rw [e1, z]))]; exact h, s.upd hl⟩⟩
/-! promises -/
def BrOk (ds : List RD) (es : List Br) : Prop := ∀ e ∈ es, ∃ d, ds[e.1]? = some d ∧ d.2.1 = (e.2.1 : Int) ∧ d.2.2.1 = (e.2.2 : Int)
def spSteps (K : PySem.W.Frag) (CK : Kd → Addr) : Sp := fun vs H Q _ => ∃ (a b : Addr) (xs : List V) (ds : List RD) (es : List Br) (p : Nat), vs = [.ref a, .ref b, .int (p : Int)] ∧ SqL K H a xs ∧ Robs CK K H xs ds ∧ SqL K H b (es.map fun e => V.int (e.1 : Int)) ∧ BrOk ds es ∧ es.length ≤ 100 ∧ ∀ l ys H', Same H H' → H l = none → H' l = some (.lst ys) → Sds K H' ys (stF es p) → Q (.ref l) H'
def spWay (K : PySem.W.Frag) (CK : Kd → Addr) : Sp := fun vs H Q _ => ∃ (a b : Addr) (xs : List V) (ds : List RD) (es : List Br) (m f t : Nat), vs = [.ref a, .ref b, .int (f : Int), .int (t : Int)] ∧ SqL K H a xs ∧ Robs CK K H xs ds ∧ SqL K H b (es.map fun e => V.int (e.1 : Int)) ∧ BrOk ds es ∧ es.length ≤ 100 ∧ Ptm m es ∧ m ≤ 20 ∧ f < m ∧
  (wayF es f t = none → ∀ H', Same H H' → Q .non H') ∧ ∀ st, wayF es f t = some st → ∀ l ys H', Same H H' → H l = none → H' l = some (.lst ys) → Sts K H' ys st → Q (.ref l) H'
/-- which words are wanted -/
inductive Wds (K : PySem.W.Frag) (H : Hp) : V → (Kd → Bool) → Prop where
  | non : Wds K H .non (fun k => decide (k ≠ .pu))
  | seq {a : Addr} {ws : List V} (h : SqL K H a ws) (f : ws.all flatV = true) : Wds K H (.ref a) (fun k => inV (.str k.wd) ws)
def spRings (CN : Addr) (K : PySem.W.Frag) : Sp := fun vs H Q _ => ∃ (n l : Addr) (v : V) (m : Nat) (ds : List RD) (W : Kd → Bool), vs = [.ref n, v] ∧ NetAt CN K H n l (m : Int) ds ∧ (∀ d ∈ ds, PtOk (m : Int) d.2.1 d.2.2.1) ∧ m ≤ 20 ∧ ds.length ≤ 40 ∧ Wds K H v W ∧ ∀ r us H', Same H H' → H r = none → H' r = some (.lst us) → Rgs K H H' us ((ringF W (skl ds) ds.length).2.map (·.2)) → (∀ x ∈ us, x ≠ .ref r) → Q (.ref r) H'
end L2

set_option Elab.async false
set_option linter.all false
set_option maxHeartbeats 1000000
namespace Mq
/-- fractions of so many bits, each with its own; the sum of the bits, and one for each -/
inductive Wt : List Q2 → Nat → Prop where
  | nil : Wt [] 0
  | cons {p : Q2} {ps : List Q2} {n w : Nat} (h : Bd n p) (q : Wt ps w) : Wt (p :: ps) (n + 1 + w)
theorem Wt.at : ∀ {ps : List Q2} {w i : Nat} {p : Q2}, Wt ps w → ps[i]? = some p → ∃ w' n, Wt (ps.take i) w' ∧ Bd n p ∧ w' + n + 1 ≤ w
  | _, _, _, _, .nil, h => by simp at h
  | _, _, 0, _, .cons (n := n) h q, e => by
    simp at e; subst e
    exact ⟨0, n, .nil, h, by omega⟩
  | _, _, i + 1, _, .cons (n := n) h q, e => by
    obtain ⟨w', n', a, b, c⟩ := Wt.at q (by simpa using e)
    exact ⟨n + 1 + w', n', .cons h a, b, by omega⟩
theorem Wt.fold : ∀ {ps : List Q2} {w k : Nat} {p : Q2}, Wt ps w → Pos ps → 1 ≤ p.2 → Bd k p → Bd (k + w) (ps.foldl plus p)
  | _, _, _, _, .nil, _, _, h => h
  | _, _, k, p, .cons (p := q) (n := n) (w := w) h r, hp, p1, b => by
    have q1 := hp q (by simp)
    have := Wt.fold r (fun x hx => hp x (List.mem_cons_of_mem _ hx)) (plus_low p1 q1).pos (plus_bd b h p1 q1)
    exact this.mono (by omega)
theorem Wt.tot {ps : List Q2} {w : Nat} (h : Wt ps w) (hp : Pos ps) : Bd (1 + w) (tot ps) := h.fold hp (by decide) ⟨show (0 : Nat) < 2 ^ 1 by decide, show (1 : Nat) < 2 ^ 1 by decide⟩
end Mq
namespace L2
open PySem PySem.Spec PyProof.Rows
abbrev RE := RD × Mq.Q2
def flF (hp : List Mq.Q2) (d : RD) : Mq.Q2 := Mq.minus (hp.getD d.2.1.toNat (0, 1)) (hp.getD d.2.2.1.toNat (0, 1))
def gW (e : RE) : Mq.Q2 := Mq.times e.1.2.2.2 (Mq.times e.2 e.2)
def gH (e : RE) : Mq.Q2 := Mq.times e.1.2.2.2 e.2
def gS (hp : List Mq.Q2) (d : RD) : Mq.Q2 := Mq.over (Mq.times (flF hp d) (flF hp d)) d.2.2.2
def gP (hp : List Mq.Q2) (d : RD) : Mq.Q2 := Mq.times d.2.2.2 (flF hp d)
def offF (hp : List Mq.Q2) (e : RE) : Mq.Q2 := Mq.minus e.2 (Mq.over (flF hp e.1) e.1.2.2.2)
def gG (hp : List Mq.Q2) (e : RE) : Mq.Q2 := Mq.times e.1.2.2.2 (Mq.times (offF hp e) (offF hp e))
def selE (k : Kd) (l : List RE) : List RE := l.filter fun e => decide (e.1.1 = k)
def selD (k : Kd) (l : List RD) : List RD := l.filter fun d => decide (d.1 = k)
def wasteF (l : List RE) : Mq.Q2 := Mq.tot ((selE .pc l).map gW)
def heldF (l : List RE) : Mq.Q2 := Mq.tot ((selE .ho l).map gH)
def priceF (l : List RE) : Mq.Q2 := Mq.plus (wasteF l) (Mq.times (2, 1) (heldF l))
def gapF (hp : List Mq.Q2) (l : List RE) : Mq.Q2 := Mq.tot ((selE .pc l).map (gG hp))
def pushF (hp : List Mq.Q2) (ds : List RD) : Mq.Q2 := Mq.minus (0, 1) (Mq.tot ((selD .pu ds).map (gP hp)))
def strainF (hp : List Mq.Q2) (ds : List RD) : Mq.Q2 := Mq.minus (Mq.tot ((selD .pc ds).map (gS hp))) (Mq.times (2, 1) (pushF hp ds))
/-- tuples of a row and a number -/
inductive Rss (CK : Kd → Addr) (K : PySem.W.Frag) (H : Hp) : List V → List RE → Prop where
  | nil : Rss CK K H [] []
  | cons {t x z s : Addr} {k : Kd} {i j : Int} {p q : Mq.Q2} {xs : List V} {es : List RE} (ht : SqT K H t [.ref x, .ref s]) (h : Rw CK H x k (.int i) (.int j) (.ref z)) (f : Fq K H z p) (fs : Fq K H s q) (r : Rss CK K H xs es) : Rss CK K H (.ref t :: xs) (((k, i, j, p), q) :: es)
section
variable {CK : Kd → Addr} {K : PySem.W.Frag} {H H' : Hp}
end
structure StA (K : PySem.W.Frag) (H : Hp) (b : Addr) (ys : List V) (ss : List Mq.Q2) (n : Nat) : Prop where
  s : SqL K H b ys
  f : Fqs K H ys ss
  l : ss.length = n
  b : ∀ s ∈ ss, Mq.Low s ∧ Mq.Bd 100 s
def spTotW (K : PySem.W.Frag) : Sp := fun vs H Q _ => ∃ (a : Addr) (xs : List V) (ps : List Mq.Q2) (w : Nat), vs = [.ref a] ∧ SqL K H a xs ∧ Fqs K H xs ps ∧ Mq.Pos ps ∧ Mq.Wt ps w ∧ w + 1 ≤ 9000 ∧ ∀ r H', Same H H' → Fq K H' r (Mq.tot ps) → Q (.ref r) H'
def spTwice (K : PySem.W.Frag) : Sp := fun vs H Q _ => ∃ (a : Addr) (p : Mq.Q2) (n : Nat), vs = [.ref a] ∧ Fq K H a p ∧ 1 ≤ p.2 ∧ Mq.Bd n p ∧ n + 10 ≤ 9000 ∧ NewF H Q (Mq.times (2, 1) p)
def spDiv1 (K : PySem.W.Frag) : Sp := fun vs H Q _ => ∃ (a b : Addr) (p q : Mq.Q2) (n m : Nat), vs = [.ref a, .ref b] ∧ Fq K H a p ∧ Fq K H b q ∧ 1 ≤ p.2 ∧ 1 ≤ q.2 ∧ 0 < q.1 ∧ Mq.Bd n p ∧ Mq.Bd m q ∧ n + m + 1 ≤ 9000 ∧ NewF H Q (Mq.over p q)
def spFallW (K : PySem.W.Frag) (CK : Kd → Addr) : Sp := fun vs H Q _ => ∃ (x a : Addr) (d : RD) (z : V) (xs : List V) (hp : List Mq.Q2) (n : Nat), vs = [.ref x, .ref a] ∧ Rw CK H x d.1 (.int d.2.1) (.int d.2.2.1) z ∧ StA K H a xs hp n ∧ PtOk (n : Int) d.2.1 d.2.2.1 ∧ NewF H Q (flF hp d)
def spRowsOfW (CN : Addr) (K : PySem.W.Frag) (CK : Kd → Addr) : Sp := fun vs H Q _ => ∃ (n l : Addr) (m : Int) (ds : List RD) (k : Kd), vs = [.ref n, .str k.wd] ∧ NetAt CN K H n l m ds ∧ ds.length ≤ 100 ∧ ∀ a xs H', Same H H' → H' a = some (.lst xs) → Robs CK K H' xs (selD k ds) → Q (.ref a) H'
def spWithS (CN : Addr) (K : PySem.W.Frag) (CK : Kd → Addr) : Sp := fun vs H Q _ => ∃ (n l b : Addr) (m : Int) (ds : List RD) (k : Kd) (ys : List V) (ss : List Mq.Q2), vs = [.ref n, .str k.wd, .ref b] ∧ NetAt CN K H n l m ds ∧ ds.length ≤ 100 ∧ StA K H b ys ss ds.length ∧ ∀ a zs H', Same H H' → H' a = some (.lst zs) → Rss CK K H' zs (selE k (ds.zip ss)) → Q (.ref a) H'
def spSumS (CN : Addr) (K : PySem.W.Frag) (k : Kd) (g : RE → Mq.Q2) : Sp := fun vs H Q _ => ∃ (n l b : Addr) (m : Nat) (ds : List RD) (ys : List V) (ss : List Mq.Q2) (w : Nat), vs = [.ref n, .ref b] ∧ NetAt CN K H n l (m : Int) ds ∧ ds.length ≤ 100 ∧ (∀ d ∈ ds, RdOk (m : Int) d) ∧ StA K H b ys ss ds.length ∧ Mq.Wt ((selE k (ds.zip ss)).map g) w ∧ w ≤ 8990 ∧ ∀ r H', Same H H' → Fq K H' r (Mq.tot ((selE k (ds.zip ss)).map g)) → Q (.ref r) H'
def spPriceW (CN : Addr) (K : PySem.W.Frag) : Sp := fun vs H Q _ => ∃ (n l b : Addr) (m : Nat) (ds : List RD) (ys : List V) (ss : List Mq.Q2) (w1 w2 : Nat), vs = [.ref n, .ref b] ∧ NetAt CN K H n l (m : Int) ds ∧ ds.length ≤ 100 ∧ (∀ d ∈ ds, RdOk (m : Int) d) ∧ StA K H b ys ss ds.length ∧ Mq.Wt ((selE .pc (ds.zip ss)).map gW) w1 ∧ Mq.Wt ((selE .ho (ds.zip ss)).map gH) w2 ∧ w1 + w2 ≤ 8900 ∧ NewF H Q (priceF (ds.zip ss))
def spPushT (CN : Addr) (K : PySem.W.Frag) : Sp := fun vs H Q _ => ∃ (n l a : Addr) (m : Nat) (ds : List RD) (xs : List V) (hp : List Mq.Q2) (w : Nat), vs = [.ref n, .ref a] ∧ NetAt CN K H n l (m : Int) ds ∧ ds.length ≤ 100 ∧ (∀ d ∈ ds, RdOk (m : Int) d) ∧ StA K H a xs hp m ∧ Mq.Wt ((selD .pu ds).map (gP hp)) w ∧ w ≤ 8900 ∧ NewF H Q (pushF hp ds)
def spStrain (CN : Addr) (K : PySem.W.Frag) : Sp := fun vs H Q _ => ∃ (n l a : Addr) (m : Nat) (ds : List RD) (xs : List V) (hp : List Mq.Q2) (w1 w2 : Nat), vs = [.ref n, .ref a] ∧ NetAt CN K H n l (m : Int) ds ∧ ds.length ≤ 100 ∧ (∀ d ∈ ds, RdOk (m : Int) d) ∧ StA K H a xs hp m ∧ Mq.Wt ((selD .pc ds).map (gS hp)) w1 ∧ Mq.Wt ((selD .pu ds).map (gP hp)) w2 ∧ w1 + w2 ≤ 8900 ∧ NewF H Q (strainF hp ds)
def spGapW (CN : Addr) (K : PySem.W.Frag) : Sp := fun vs H Q _ => ∃ (n l b a : Addr) (m : Nat) (ds : List RD) (ys xs : List V) (ss hp : List Mq.Q2) (w : Nat), vs = [.ref n, .ref b, .ref a] ∧ NetAt CN K H n l (m : Int) ds ∧ ds.length ≤ 100 ∧ (∀ d ∈ ds, RdOk (m : Int) d) ∧ StA K H b ys ss ds.length ∧ StA K H a xs hp m ∧ Mq.Wt ((selE .pc (ds.zip ss)).map (gG hp)) w ∧ w ≤ 8990 ∧ ∀ r H', Same H H' → Fq K H' r (gapF hp (ds.zip ss)) → Q (.ref r) H'
section
variable {m n : Nat} {hp : List Mq.Q2} {d : RD} {e : RE}
end
end L2

set_option Elab.async false
set_option linter.all false
set_option maxRecDepth 100000
set_option maxHeartbeats 4000000
namespace K32
open PySem L2
def top (i : Nat) : Stmt := PySem.Challenge.pw_ohmyard_k32_rings.main.body.getD i (.Pass ⟨0, 0, 0, 0⟩)
section
variable {P : Program} {w : World} {K : PySem.W.Frag} {mg : Str → Option Value} {base : Heap} {f g1 g2 g3 g4 g5 g6 g7 g8 : Addr} {fd gd1 gd2 gd3 gd4 gd5 gd6 gd7 gd8 : FuncData} {CX : CXT}
abbrev sWhole : Stmt := top 11
theorem scWhole : FnScope ["thing"] ["thing"] (defScope sWhole) := ⟨rfl, rfl, rfl, by decide +kernel, rfl, by decide +kernel, by decide +kernel⟩
theorem ok_whole {dV : Value} (F : FunD K "is_whole" "is_whole" sWhole dV f fd) (b : Bl mg) : FnOk P w K mg base CX 1 f fd ["thing"] (spWhole K) := by
  refine F.ok scWhole (fun vs H Q E h => ?_) (fun cdv A outer s H vs Q E hr h => ?_)
  · obtain ⟨x, rfl, _⟩ := h
    rfl
  obtain ⟨x, rfl, h⟩ := h
  refine ⟨_, pss_one (ps_ret (pe_and (pe_isiQ (i := 0) rfl (Or.inl rfl) b.isi b.int rfl rfl PyProof.Rows.boot_int) (pe_one (pe_not (pe_isiQ (i := 0) rfl (Or.inl rfl) b.isi b.bool rfl rfl PyProof.Rows.boot_bool))))), ?_⟩
  rcases h with ⟨i, rfl, q⟩ | ⟨t, ty, nw, q⟩
  · exact ⟨_, _, _, rfl, .of (.int i), rfl, _, rfl, iteT ⟨_, _, false, rfl, .of (.int i), (by with_unfolding_all rfl), _, rfl, q⟩⟩
  · rcases nw with rfl | rfl | rfl | rfl | rfl
    · exact ⟨_, _, true, rfl, .of ty, (by with_unfolding_all rfl), _, rfl, iteT ⟨_, _, _, rfl, .of ty, rfl, _, rfl, q⟩⟩
    all_goals exact ⟨_, _, false, rfl, .of ty, (by with_unfolding_all rfl), _, rfl, iteF q⟩
abbrev sGc : Stmt := top 13
theorem scGc : FnScope ["one", "other", "rest"] ["one", "other"] (defScope sGc) := ⟨rfl, rfl, rfl, by decide +kernel, rfl, by decide +kernel, by decide +kernel⟩
theorem ok_gc {dV : Value} (F : FunD K "greatest_common" "greatest_common" sGc dV f fd) (b : Bl mg) : FnOk P w K mg base CX 1 f fd ["one", "other"] spGc := by
  refine F.ok scGc (fun vs H Q E h => ?_) (fun cdv A outer s H vs Q E hr h => ?_)
  · obtain ⟨x, y, rfl, _⟩ := h
    rfl
  obtain ⟨x, y, rfl, q⟩ := h
  refine ⟨_, pss_cons (ps_while PassesOwn.never (pt_cmpR op_ne (pv 1) pe_int (nomark _)) (pss_cons (ps_set (i := 2) scGc.nd rfl (Or.inl rfl) (pe_op op_modN (pv 0) (pv 1)))
    (pss_cons (ps_set (i := 0) scGc.nd rfl (Or.inl rfl) (pv 1)) (pss_one (ps_set (i := 1) scGc.nd rfl (Or.inl rfl) (pv 2))))))
    (pss_one (ps_ret (pe_callB call_abs rfl b.abs PyProof.Rows.boot_abs (pa_cons (pv 0) pa_nil)))), ?_⟩
  refine while_by (fun σ H' => H' = H ∧ ∃ u v z, σ = [some (.int u), some (.int v), z] ∧ Mq.gc u v = Mq.gc x y) (fun σ _ => match σ with | [_, some (.int v), _] => v.natAbs | _ => 0) ⟨rfl, x, y, none, rfl, rfl⟩ ?_ ?_
  · rintro σ H' ⟨rfl, u, v, z, rfl, e⟩
    refine ⟨_, rfl, rfl, _, rfl, ?_⟩
    refine ite2 (fun c => ?_) (fun c => ?_)
    · have hv : v ≠ 0 := by intro q; subst q; simp at c
      refine ⟨_, rfl, _, rfl, _, _, rfl, rfl, hv, _, rfl, _, rfl, ⟨rfl, v, Int.fmod u v, _, rfl, (Mq.gc_step u v).trans e⟩, Mq.fmod_less hv⟩
    · have hv : v = 0 := by
        simp at c
        exact c
      subst hv
      refine ⟨_, rfl, _, rfl, ?_⟩
      rw [← Mq.gc_zero, e]
      exact q
  · rintro σ H Q Q' m ⟨v, h1, h2, k, h3, h4⟩
    exact ⟨v, h1, h2, k, h3, m _ _ h4⟩
abbrev sUnder : Stmt := top 17
theorem scUnder : FnScope ["one", "other"] ["one", "other"] (defScope sUnder) := ⟨rfl, rfl, rfl, by decide +kernel, rfl, by decide +kernel, by decide +kernel⟩
theorem ok_under {dV : Value} (F : FunD K "under" "under" sUnder dV f fd) : FnOk P w K mg base CX 1 f fd ["one", "other"] (spUnder K) := by
  refine F.ok scUnder (fun vs H Q E h => ?_) (fun cdv A outer s H vs Q E hr h => ?_)
  · obtain ⟨a, b, p, q, n, m, rfl, _⟩ := h
    rfl
  obtain ⟨a, b, p, q, n, m, rfl, ha, hb, bp, bq, hn, z⟩ := h
  refine ⟨_, pss_one (ps_ret (pe_cmpR op_lt (pe_op op_mulB (pe_ix ix_tup (pv 0) pe_int (fun _ _ => rfl)) (pe_ix ix_tup (pv 1) pe_int (fun _ _ => rfl))) (pe_op op_mulB (pe_ix ix_tup (pv 1) pe_int (fun _ _ => rfl)) (pe_ix ix_tup (pv 0) pe_int (fun _ _ => rfl))) (nomark _))), ?_⟩
  exact rd_ix0 rfl ha (rd_ix1 rfl hb (rd_mulB bp.a bq.b (by omega) (by omega) (rd_ix0 rfl hb (rd_ix1 rfl ha (rd_mulB bq.a bp.b (by omega) (by omega) ⟨_, _, rfl, rfl, z⟩)))))
abbrev sFrac : Stmt := top 14
theorem scFrac : FnScope ["top", "bottom", "shared"] ["top", "bottom"] (defScope sFrac) := ⟨rfl, rfl, rfl, by decide +kernel, rfl, by decide +kernel, by decide +kernel⟩
theorem ok_frac {dV : Value} (F : FunD K "fraction" "fraction" sFrac dV f fd)
    (G1 : FnOk P w K mg base CX0 1 g1 gd1 ["thing"] (spWhole K)) (b1 : Binds K gd1 ["thing"] []) (k1 : PySem.W.keepIn K (.ref g1) = true) (m1 : mg "is_whole" = some (.ref g1))
    (G2 : FnOk P w K mg base CX0 1 g2 gd2 ["one", "other"] spGc) (b2 : Binds K gd2 ["one", "other"] []) (k2 : PySem.W.keepIn K (.ref g2) = true) (m2 : mg "greatest_common" = some (.ref g2)) :
    FnOk P w K mg base CX 2 f fd ["top", "bottom"] spFrac := by
  refine F.ok scFrac (fun vs H Q E h => ?_) (fun cdv A outer s H vs Q E hr h => ?_)
  · obtain ⟨t, b, n, rfl, _⟩ := h
    rfl
  obtain ⟨t, b, n, rfl, hb, hB, hn, q⟩ := h
  refine ⟨_, pss_cons (ps_if (PW.pt (pw_or (pt_not (pt_val (pe_call G1 hr rfl m1 k1 b1 .nil pass0 (pa_cons (pv 0) pa_nil)))) (pw_or (pt_not (pt_val (pe_call G1 hr rfl m1 k1 b1 .nil pass0 (pa_cons (pv 1) pa_nil)))) (pw_or1 (pt_cmpR op_eq (pv 1) pe_int (nomark _)))))) pss_never pss_nil)
    (pss_cons (ps_set (i := 2) scFrac.nd rfl (Or.inl rfl) (pe_call G2 hr rfl m2 k2 b2 .nil pass0 (pa_cons (pv 0) (pa_cons (pv 1) pa_nil))))
    (pss_cons (ps_if (pt_cmpR op_lt (pv 1) pe_int (nomark _)) (pss_one (ps_set (i := 2) scFrac.nd rfl (Or.inl rfl) (pe_un un_neg (pv 2)))) pss_nil)
    (pss_one (ps_ret (pe_tup (pa_cons (pe_op op_fdivB (pv 0) (pv 2)) (pa_cons (pe_op op_fdivB (pv 1) (pv 2)) pa_nil))))))), ?_⟩
  have hd := Mq.dvr_ne (t := t) hb
  have hdB : Mq.B n (Mq.dvr t b) := hB.le (Mq.dvr_le hb)
  have c0 : decide (V.int b = V.int 0) = false := decide_eq_false (fun z => hb (by cases z; rfl))
  refine ⟨_, rfl, _, rfl, .inl ⟨t, rfl, _, rfl, iteF ⟨_, rfl, _, rfl, .inl ⟨b, rfl, _, rfl, iteF ⟨_, rfl, rfl, _, rfl, ?_⟩⟩⟩⟩⟩
  rw [c0]
  refine iteF ⟨_, rfl, _, rfl, t, b, rfl, ?_⟩
  refine ⟨_, rfl, _, _, rfl, rfl, _, rfl, ?_⟩
  refine ite2 (fun c => ?_) (fun c => ?_)
  · have hlt : b < 0 := of_decide_eq_true c
    have e : Mq.dvr t b = -Mq.gc t b := by unfold Mq.dvr; rw [if_pos hlt]
    rw [e] at hd hdB
    have q' : NewF H Q (t.fdiv (-Mq.gc t b), b.fdiv (-Mq.gc t b)) := by
      have z := q
      unfold Mq.red at z
      rw [e] at z
      exact z
    refine ⟨_, rfl, _, rfl, ?_⟩
    refine ⟨_, rfl, _, rfl, ?_⟩
    refine rd_fdivB hd hdB hn ⟨_, rfl, _, rfl, rd_fdivB hd hdB hn ⟨by show 2 ≤ sizeLine; decide, fun p hp => ?_⟩⟩
    exact q' p _ (same_new hp _) upd_same
  · have hlt : ¬ b < 0 := fun z => c (decide_eq_true z)
    have e : Mq.dvr t b = Mq.gc t b := by unfold Mq.dvr; rw [if_neg hlt]
    rw [e] at hd hdB
    have q' : NewF H Q (t.fdiv (Mq.gc t b), b.fdiv (Mq.gc t b)) := by
      have z := q
      unfold Mq.red at z
      rw [e] at z
      exact z
    refine ⟨_, rfl, _, rfl, ?_⟩
    refine rd_fdivB hd hdB hn ⟨_, rfl, _, rfl, rd_fdivB hd hdB hn ⟨by show 2 ≤ sizeLine; decide, fun p hp => ?_⟩⟩
    exact q' p _ (same_new hp _) upd_same
abbrev sPlus : Stmt := top 15
theorem scPlus : FnScope ["one", "other"] ["one", "other"] (defScope sPlus) := ⟨rfl, rfl, rfl, by decide +kernel, rfl, by decide +kernel, by decide +kernel⟩
theorem ok_plus {dV : Value} (F : FunD K "plus" "plus" sPlus dV f fd)
    (G1 : FnOk P w K mg base CX0 2 g1 gd1 ["top", "bottom"] spFrac) (b1 : Binds K gd1 ["top", "bottom"] []) (k1 : PySem.W.keepIn K (.ref g1) = true) (m1 : mg "fraction" = some (.ref g1)) :
    FnOk P w K mg base CX 3 f fd ["one", "other"] (spTwo K Mq.plus) := by
  refine F.ok scPlus (fun vs H Q E h => ?_) (fun cdv A outer s H vs Q E hr h => ?_)
  · obtain ⟨a, b, p, q, n, m, rfl, _⟩ := h
    rfl
  obtain ⟨a, b, p, q, n, m, rfl, ha, hb, lp, lq, bp, bq, hn, z⟩ := h
  refine ⟨_, pss_one (ps_ret (pe_call G1 hr rfl m1 k1 b1 .nil pass0 (pa_cons
    (pe_op op_add (pe_op op_mulB (pe_ix ix_tup (pv 0) pe_int (fun _ _ => rfl)) (pe_ix ix_tup (pv 1) pe_int (fun _ _ => rfl))) (pe_op op_mulB (pe_ix ix_tup (pv 1) pe_int (fun _ _ => rfl)) (pe_ix ix_tup (pv 0) pe_int (fun _ _ => rfl))))
    (pa_cons (pe_op op_mulB (pe_ix ix_tup (pv 0) pe_int (fun _ _ => rfl)) (pe_ix ix_tup (pv 1) pe_int (fun _ _ => rfl))) pa_nil)))), ?_⟩
  refine rd_ix0 rfl ha (rd_ix1 rfl hb (rd_mulB bp.a bq.b (by omega) (by omega) (rd_ix0 rfl hb (rd_ix1 rfl ha (rd_mulB bq.a bp.b (by omega) (by omega) ⟨_, _, rfl, rfl, ?_⟩)))))
  refine rd_ix1 rfl ha (rd_ix1 rfl hb (rd_mulB bp.b bq.b (by omega) (by omega) ⟨_, _, n + m, rfl, Mq.mul_ne lp lq, bp.b.mul bq.b, by omega, z⟩))
abbrev sTimes : Stmt := top 16
theorem scTimes : FnScope ["one", "other"] ["one", "other"] (defScope sTimes) := ⟨rfl, rfl, rfl, by decide +kernel, rfl, by decide +kernel, by decide +kernel⟩
theorem ok_times {dV : Value} (F : FunD K "times" "times" sTimes dV f fd)
    (G1 : FnOk P w K mg base CX0 2 g1 gd1 ["top", "bottom"] spFrac) (b1 : Binds K gd1 ["top", "bottom"] []) (k1 : PySem.W.keepIn K (.ref g1) = true) (m1 : mg "fraction" = some (.ref g1)) :
    FnOk P w K mg base CX 3 f fd ["one", "other"] (spTwo K Mq.times) := by
  refine F.ok scTimes (fun vs H Q E h => ?_) (fun cdv A outer s H vs Q E hr h => ?_)
  · obtain ⟨a, b, p, q, n, m, rfl, _⟩ := h
    rfl
  obtain ⟨a, b, p, q, n, m, rfl, ha, hb, lp, lq, bp, bq, hn, z⟩ := h
  refine ⟨_, pss_one (ps_ret (pe_call G1 hr rfl m1 k1 b1 .nil pass0 (pa_cons
    (pe_op op_mulB (pe_ix ix_tup (pv 0) pe_int (fun _ _ => rfl)) (pe_ix ix_tup (pv 1) pe_int (fun _ _ => rfl)))
    (pa_cons (pe_op op_mulB (pe_ix ix_tup (pv 0) pe_int (fun _ _ => rfl)) (pe_ix ix_tup (pv 1) pe_int (fun _ _ => rfl))) pa_nil)))), ?_⟩
  refine rd_ix0 rfl ha (rd_ix0 rfl hb (rd_mulB bp.a bq.a (by omega) (by omega) ?_))
  refine rd_ix1 rfl ha (rd_ix1 rfl hb (rd_mulB bp.b bq.b (by omega) (by omega) ⟨_, _, n + m, rfl, Mq.mul_ne lp lq, bp.b.mul bq.b, by omega, z⟩))
variable {CR : Addr} {CK : Kd → Addr} {fW fJ fT fS : Kd → Addr} {fdW fdJ fdT fdS : Kd → FuncData}
abbrev sRInit : Stmt := inClass (top 26) 0
theorem scRInit : FnScope ["self", "start", "goal", "size"] ["self", "start", "goal", "size"] (defScope sRInit) := ⟨rfl, rfl, rfl, by decide +kernel, rfl, by decide +kernel, by decide +kernel⟩
theorem ok_rinit {dV : Value} (F : FunD K "__init__" "Row.__init__" sRInit dV f fd) (T : RT K mg CR CK) : FnOk P w K mg base CX 1 f fd ["self", "start", "goal", "size"] (spRInit CK) := by
  refine F.ok scRInit (fun vs H Q E h => ?_) (fun cdv A outer s H vs Q E hr h => ?_)
  · obtain ⟨x, dx, k, s, g, z, rfl, _⟩ := h
    rfl
  obtain ⟨x, dx, k, s, g, z, rfl, hx, q⟩ := h
  refine ⟨_, (pss_cons (ps_fld (pv 0) (pv 1) rfl) (pss_cons (ps_fld (pv 0) (pv 2) rfl) (pss_one (ps_fld (pv 0) (pv 3) rfl)))), ?_⟩
  have l1 := length_putF ("start" : Str) s []
  have l2 := length_putF ("goal" : Str) g (putF "start" s [])
  simp only [List.length_nil] at l1
  refine ⟨_, rfl, _, rfl, x, CK k, dx, [], rfl, hx, T.cl k, T.nS k, (by show 0 < 1000; decide), ?_⟩
  refine ⟨_, rfl, _, rfl, x, CK k, dx, _, rfl, upd_same, T.cl k, T.nG k, by omega, ?_⟩
  refine ⟨_, rfl, _, rfl, x, CK k, dx, _, rfl, upd_same, T.cl k, T.nZ k, by omega, ?_⟩
  rw [upd_upd, upd_upd]
  exact q
abbrev sWord_pc : Stmt := inClass (top 27) 0
theorem scWord_pc : FnScope ["self"] ["self"] (defScope sWord_pc) := ⟨rfl, rfl, rfl, by decide +kernel, rfl, by decide +kernel, by decide +kernel⟩
theorem ok_word_pc {dV : Value} (F : FunD K "word" "Piece.word" sWord_pc dV f fd) : FnOk P w K mg base CX 1 f fd ["self"] (spWord .pc) := by
  refine F.ok scWord_pc (fun vs H Q E h => ?_) (fun cdv A outer s H vs Q E hr h => ?_)
  · obtain ⟨x, rfl, _⟩ := h
    rfl
  obtain ⟨x, rfl, q⟩ := h
  exact ⟨_, (pss_one (ps_ret pe_str)), q⟩
abbrev sWord_pu : Stmt := inClass (top 28) 0
theorem scWord_pu : FnScope ["self"] ["self"] (defScope sWord_pu) := ⟨rfl, rfl, rfl, by decide +kernel, rfl, by decide +kernel, by decide +kernel⟩
theorem ok_word_pu {dV : Value} (F : FunD K "word" "Push.word" sWord_pu dV f fd) : FnOk P w K mg base CX 1 f fd ["self"] (spWord .pu) := by
  refine F.ok scWord_pu (fun vs H Q E h => ?_) (fun cdv A outer s H vs Q E hr h => ?_)
  · obtain ⟨x, rfl, _⟩ := h
    rfl
  obtain ⟨x, rfl, q⟩ := h
  exact ⟨_, (pss_one (ps_ret pe_str)), q⟩
abbrev sWord_ho : Stmt := inClass (top 29) 0
theorem scWord_ho : FnScope ["self"] ["self"] (defScope sWord_ho) := ⟨rfl, rfl, rfl, by decide +kernel, rfl, by decide +kernel, by decide +kernel⟩
theorem ok_word_ho {dV : Value} (F : FunD K "word" "Hold.word" sWord_ho dV f fd) : FnOk P w K mg base CX 1 f fd ["self"] (spWord .ho) := by
  refine F.ok scWord_ho (fun vs H Q E h => ?_) (fun cdv A outer s H vs Q E hr h => ?_)
  · obtain ⟨x, rfl, _⟩ := h
    rfl
  obtain ⟨x, rfl, q⟩ := h
  exact ⟨_, (pss_one (ps_ret pe_str)), q⟩
abbrev sRTold : Stmt := inClass (top 26) 1
theorem scRTold : FnScope ["self"] ["self"] (defScope sRTold) := ⟨rfl, rfl, rfl, by decide +kernel, rfl, by decide +kernel, by decide +kernel⟩
theorem ok_rtold {dV : Value} (F : FunD K "told" "Row.told" sRTold dV f fd) (T : RT K mg CR CK)
    (GW : ∀ k, FnOk P w K mg base CX0 1 (fW k) (fdW k) ["self"] (spWord k)) (bW : ∀ k, Binds K (fdW k) ["self"] []) (mW : ∀ k, Meth K (CK k) "word" (fW k)) : FnOk P w K mg base CX 2 f fd ["self"] (spRTold CK) := by
  refine F.ok scRTold (fun vs H Q E h => ?_) (fun cdv A outer s H vs Q E hr h => ?_)
  · obtain ⟨x, k, s, g, z, rfl, _⟩ := h
    rfl
  obtain ⟨x, k, s, g, z, rfl, ⟨dx, hx⟩, q⟩ := h
  refine ⟨_, (pss_one (ps_ret (pe_tup (pa_cons (pe_methD0 (pv 0) T.cl mW GW hr bW .nil pass0) (pa_cons (pe_fld (pv 0) rfl) (pa_cons (pe_fld (pv 0) rfl) (pa_cons (pe_fld (pv 0) rfl) pa_nil))))))), ?_⟩
  refine ⟨_, rfl, k, x, dx, _, rfl, hx, (rflds_no _ _ _ (by decide +kernel) (by decide +kernel) (by decide +kernel)), _, rfl, ?_⟩
  refine ⟨_, rfl, x, CK k, dx, _, _, rfl, hx, T.cl k, T.nS k, rflds_start _ _ _, ?_⟩
  refine ⟨_, rfl, x, CK k, dx, _, _, rfl, hx, T.cl k, T.nG k, rflds_goal _ _ _, ?_⟩
  refine ⟨_, rfl, x, CK k, dx, _, _, rfl, hx, T.cl k, T.nZ k, rflds_size _ _ _, ?_⟩
  exact ⟨by show 4 ≤ sizeLine; decide, q⟩
abbrev sRowOf : Stmt := top 30
theorem scRowOf : FnScope ["told", "word"] ["told"] (defScope sRowOf) := ⟨rfl, rfl, rfl, by decide +kernel, rfl, by decide +kernel, by decide +kernel⟩
theorem ok_rowof {dV : Value} {gI : Addr} {gdI : FuncData} (F : FunD K "row_of" "row_of" sRowOf dV f fd) (T : RT K mg CR CK) (b : Bl mg) (ms : mg "str" = none)
    (GI : FnOk P w K mg base CX0 1 gI gdI ["self", "start", "goal", "size"] (spRInit CK)) (bI : Binds K gdI ["self", "start", "goal", "size"] []) (MK : ∀ k, Mk K (CK k) gI) : FnOk P w K mg base CX 3 f fd ["told"] (spRowOfG K CK) := by
  refine F.ok scRowOf (fun vs H Q E h => ?_) (fun cdv A outer s H vs Q E hr h => ?_)
  · obtain ⟨t, v, s, g, z, rfl, _⟩ := h
    rfl
  obtain ⟨t, v, s, g, z, rfl, hT, k, rfl, q⟩ := h
  refine ⟨_, (pss_cons (ps_set (i := 1) scRowOf.nd rfl (Or.inl rfl) (pe_ix ix_tup (pv 0) pe_int (fun _ _ => rfl)))
    (pss_cons (ps_if (PW.pt (pw_and (pt_val (pe_isiQ (i := 1) rfl (Or.inl rfl) b.isi ms rfl rfl PyProof.Rows.boot_str)) (pw_and1 (pt_cmpR op_eq (pv 1) pe_str (nomark _))))) (pss_one (ps_ret (pe_make (MK .pc) GI hr rfl (T.mK .pc) bI .nil pass0 (pa_cons (pe_ix ix_tup (pv 0) pe_int (fun _ _ => rfl)) (pa_cons (pe_ix ix_tup (pv 0) pe_int (fun _ _ => rfl)) (pa_cons (pe_ix ix_tup (pv 0) pe_int (fun _ _ => rfl)) pa_nil)))))) pss_nil)
    (pss_cons (ps_if (PW.pt (pw_and (pt_val (pe_isiQ (i := 1) rfl (Or.inl rfl) b.isi ms rfl rfl PyProof.Rows.boot_str)) (pw_and1 (pt_cmpR op_eq (pv 1) pe_str (nomark _))))) (pss_one (ps_ret (pe_make (MK .pu) GI hr rfl (T.mK .pu) bI .nil pass0 (pa_cons (pe_ix ix_tup (pv 0) pe_int (fun _ _ => rfl)) (pa_cons (pe_ix ix_tup (pv 0) pe_int (fun _ _ => rfl)) (pa_cons (pe_ix ix_tup (pv 0) pe_int (fun _ _ => rfl)) pa_nil)))))) pss_nil)
    (pss_cons (ps_if (PW.pt (pw_and (pt_val (pe_isiQ (i := 1) rfl (Or.inl rfl) b.isi ms rfl rfl PyProof.Rows.boot_str)) (pw_and1 (pt_cmpR op_eq (pv 1) pe_str (nomark _))))) (pss_one (ps_ret (pe_make (MK .ho) GI hr rfl (T.mK .ho) bI .nil pass0 (pa_cons (pe_ix ix_tup (pv 0) pe_int (fun _ _ => rfl)) (pa_cons (pe_ix ix_tup (pv 0) pe_int (fun _ _ => rfl)) (pa_cons (pe_ix ix_tup (pv 0) pe_int (fun _ _ => rfl)) pa_nil)))))) pss_nil)
    (pss_one ps_never))))), ?_⟩
  cases k
  · refine cut2 (fun _ _ => False) (fun X _ => ?_) (fun _ _ h => h.elim)
    refine ⟨_, rfl, t, _, 0, _, rfl, rfl, hT, rfl, ?_⟩
    exact ⟨_, _, true, rfl, .of (.str _), rfl, _, rfl, iteT ⟨_, rfl, rfl, _, rfl, ifT (dec_wd .pc .pc) ⟨_, rfl, t, _, 1, s, rfl, rfl, hT, rfl, _, rfl, t, _, 2, g, rfl, rfl, hT, rfl, _, rfl, t, _, 3, z, rfl, rfl, hT, rfl, fun x dx h1 h2 ne => ⟨x, dx, .pc, s, g, z, rfl, upd_same, rfl, by rw [upd_upd]; exact q x _ (Rw.new h1 h2 ne) h1 ⟨dx, upd_same⟩⟩⟩⟩⟩
  · refine cut3 (fun _ _ => False) (fun X _ => ?_) (fun _ _ h => h.elim)
    refine ⟨_, rfl, t, _, 0, _, rfl, rfl, hT, rfl, ?_⟩
    exact ⟨_, _, true, rfl, .of (.str _), rfl, _, rfl, iteT ⟨_, rfl, rfl, _, rfl, ifF (dec_wd .pu .pc) (⟨_, _, true, rfl, .of (.str _), rfl, _, rfl, iteT ⟨_, rfl, rfl, _, rfl, ifT (dec_wd .pu .pu) ⟨_, rfl, t, _, 1, s, rfl, rfl, hT, rfl, _, rfl, t, _, 2, g, rfl, rfl, hT, rfl, _, rfl, t, _, 3, z, rfl, rfl, hT, rfl, fun x dx h1 h2 ne => ⟨x, dx, .pu, s, g, z, rfl, upd_same, rfl, by rw [upd_upd]; exact q x _ (Rw.new h1 h2 ne) h1 ⟨dx, upd_same⟩⟩⟩⟩⟩)⟩⟩
  · refine cut4 (fun _ _ => False) (fun X _ => ?_) (fun _ _ h => h.elim)
    refine ⟨_, rfl, t, _, 0, _, rfl, rfl, hT, rfl, ?_⟩
    exact ⟨_, _, true, rfl, .of (.str _), rfl, _, rfl, iteT ⟨_, rfl, rfl, _, rfl, ifF (dec_wd .ho .pc) (⟨_, _, true, rfl, .of (.str _), rfl, _, rfl, iteT ⟨_, rfl, rfl, _, rfl, ifF (dec_wd .ho .pu) (⟨_, _, true, rfl, .of (.str _), rfl, _, rfl, iteT ⟨_, rfl, rfl, _, rfl, ifT (dec_wd .ho .ho) ⟨_, rfl, t, _, 1, s, rfl, rfl, hT, rfl, _, rfl, t, _, 2, g, rfl, rfl, hT, rfl, _, rfl, t, _, 3, z, rfl, rfl, hT, rfl, fun x dx h1 h2 ne => ⟨x, dx, .ho, s, g, z, rfl, upd_same, rfl, by rw [upd_upd]; exact q x _ (Rw.new h1 h2 ne) h1 ⟨dx, upd_same⟩⟩⟩⟩⟩)⟩⟩)⟩⟩
abbrev sIsF : Stmt := top 12
theorem scIsF : FnScope ["thing"] ["thing"] (defScope sIsF) := ⟨rfl, rfl, rfl, by decide +kernel, rfl, by decide +kernel, by decide +kernel⟩
theorem ok_isf {dV : Value} (F : FunD K "is_fraction" "is_fraction" sIsF dV f fd)
    (b : Bl mg) (ml : mg "len" = none) (mt : mg "tuple" = none)
    (G1 : FnOk P w K mg base CX0 1 g1 gd1 ["thing"] (spWhole K)) (b1 : Binds K gd1 ["thing"] []) (k1 : PySem.W.keepIn K (.ref g1) = true) (m1 : mg "is_whole" = some (.ref g1))
    (G2 : FnOk P w K mg base CX0 1 g2 gd2 ["one", "other"] spGc) (b2 : Binds K gd2 ["one", "other"] []) (k2 : PySem.W.keepIn K (.ref g2) = true) (m2 : mg "greatest_common" = some (.ref g2)) :
    FnOk P w K mg base CX 2 f fd ["thing"] (spIsFV K) := by
  refine F.ok scIsF (fun vs H Q E h => ?_) (fun cdv A outer s H vs Q E hr h => ?_)
  · obtain ⟨v, o, rfl, hz, q⟩ := h
    rfl
  obtain ⟨v, o, rfl, hz, q⟩ := h
  refine ⟨_, (pss_cons (ps_if (PW.pt (pw_or (pt_not (pt_val (pe_isiQ (i := 0) rfl (Or.inl rfl) b.isi mt rfl rfl PyProof.Rows.boot_tuple))) (pw_or1 (pt_cmpR op_ne (pe_callB call_len_seq rfl ml PySem.boot_len (pa_cons (pv 0) pa_nil)) pe_int (nomark _))))) (pss_one (ps_ret pe_bl)) pss_nil)
    (pss_cons (ps_if (PW.pt (pw_or (pt_not (pt_val (pe_call G1 hr rfl m1 k1 b1 .nil pass0 (pa_cons (pe_ix ix_tup (pv 0) pe_int (fun _ _ => rfl)) pa_nil)))) (pw_or1 (pt_not (pt_val (pe_call G1 hr rfl m1 k1 b1 .nil pass0 (pa_cons (pe_ix ix_tup (pv 0) pe_int (fun _ _ => rfl)) pa_nil))))))) (pss_one (ps_ret pe_bl)) pss_nil)
    (pss_one (ps_ret (pe_and (pe_cmpR op_ge (pe_ix ix_tup (pv 0) pe_int (fun _ _ => rfl)) pe_int (nomark _)) (pe_one (pe_cmpR op_eq (pe_call G2 hr rfl m2 k2 b2 .nil pass0 (pa_cons (pe_ix ix_tup (pv 0) pe_int (fun _ _ => rfl)) (pa_cons (pe_ix ix_tup (pv 0) pe_int (fun _ _ => rfl)) pa_nil))) pe_int (nomark _)))))))), ?_⟩
  cases hz with
  | fr fa hp =>
    refine ⟨_, _, true, rfl, .tup fa, rfl, _, rfl, iteF ⟨_, rfl, _, _, rfl, .inr fa, rfl, _, rfl, iteF ?_⟩⟩
    refine rd_ix0 rfl fa ⟨_, rfl, .inl ⟨_, rfl, _, rfl, iteF (rd_ix1 rfl fa ⟨_, rfl, .inl ⟨_, rfl, _, rfl, iteF ?_⟩⟩)⟩⟩
    have h1 := hp.pos
    refine rd_ix1 rfl fa ⟨_, _, rfl, rfl, _, rfl, ifT (decide_eq_true (by omega)) (rd_ix0 rfl fa (rd_ix1 rfl fa ⟨_, _, rfl, rfl, ?_⟩))⟩
    rw [hp.one]
    exact q
  | ty h n => exact ⟨_, _, false, rfl, h, n, _, rfl, iteT q⟩
  | len h => exact ⟨_, _, true, rfl, .tup h, rfl, _, rfl, iteF ⟨_, rfl, _, _, rfl, .inr h, rfl, _, rfl, iteT q⟩⟩
  | n0 h ty n =>
    refine ⟨_, _, true, rfl, .tup h, rfl, _, rfl, iteF ⟨_, rfl, _, _, rfl, .inr h, rfl, _, rfl, iteF ?_⟩⟩
    exact ⟨_, rfl, _, _, 0, _, rfl, rfl, h, rfl, _, rfl, .inr ⟨_, ty, n, _, rfl, iteT q⟩⟩
  | n1 h ty n =>
    refine ⟨_, _, true, rfl, .tup h, rfl, _, rfl, iteF ⟨_, rfl, _, _, rfl, .inr h, rfl, _, rfl, iteF ?_⟩⟩
    exact ⟨_, rfl, _, _, 0, _, rfl, rfl, h, rfl, _, rfl, .inl ⟨_, rfl, _, rfl, iteF ⟨_, rfl, _, _, 1, _, rfl, rfl, h, rfl, _, rfl, .inr ⟨_, ty, n, _, rfl, iteT q⟩⟩⟩⟩
  | fb fa c =>
    refine ⟨_, _, true, rfl, .tup fa, rfl, _, rfl, iteF ⟨_, rfl, _, _, rfl, .inr fa, rfl, _, rfl, iteF ?_⟩⟩
    refine rd_ix0 rfl fa ⟨_, rfl, .inl ⟨_, rfl, _, rfl, iteF (rd_ix1 rfl fa ⟨_, rfl, .inl ⟨_, rfl, _, rfl, iteF ?_⟩⟩)⟩⟩
    rcases c with c | ⟨c, d⟩
    · exact rd_ix1 rfl fa ⟨_, _, rfl, rfl, _, rfl, ifF (decide_eq_false (by omega)) q⟩
    · refine rd_ix1 rfl fa ⟨_, _, rfl, rfl, _, rfl, ifT (decide_eq_true c) (rd_ix0 rfl fa (rd_ix1 rfl fa ⟨_, _, rfl, rfl, ?_⟩))⟩
      rw [decide_eq_false (fun e => d (by injection e))]
      exact q
abbrev sPS : Stmt := top 31
theorem scPS : FnScope ["thing"] ["thing"] (defScope sPS) := ⟨rfl, rfl, rfl, by decide +kernel, rfl, by decide +kernel, by decide +kernel⟩
theorem ok_ps {dV : Value} (F : FunD K "is_piece_size" "is_piece_size" sPS dV f fd)
    {aN : Addr} (fN : ∀ H, Fq K H aN (0, 1)) (mNO : mg "NOUGHT" = some (.ref aN))
    (G1 : FnOk P w K mg base CX0 2 g1 gd1 ["thing"] (spIsF K)) (b1 : Binds K gd1 ["thing"] []) (k1 : PySem.W.keepIn K (.ref g1) = true) (m1 : mg "is_fraction" = some (.ref g1))
    (G2 : FnOk P w K mg base CX0 1 g2 gd2 ["one", "other"] (spUnder K)) (b2 : Binds K gd2 ["one", "other"] []) (k2 : PySem.W.keepIn K (.ref g2) = true) (m2 : mg "under" = some (.ref g2)) :
    FnOk P w K mg base CX 3 f fd ["thing"] (spPS K) := by
  refine F.ok scPS (fun vs H Q E h => ?_) (fun cdv A outer s H vs Q E hr h => ?_)
  · obtain ⟨a, p, n, rfl, fa, hp, h0, hb, hn, q⟩ := h
    rfl
  obtain ⟨a, p, n, rfl, fa, hp, h0, hb, hn, q⟩ := h
  have r1 := hr.mono (show 1 ≤ 2 by omega)
  refine ⟨_, (pss_one (ps_ret (pe_and (pe_call G1 hr rfl m1 k1 b1 .nil pass0 (pa_cons (pv 0) pa_nil)) (pe_one (pe_call G2 r1 rfl m2 k2 b2 .nil pass0 (pa_cons (pe_glob (v := .ref aN) rfl mNO rfl) (pa_cons (pv 0) pa_nil))))))), ?_⟩
  refine ⟨_, rfl, a, p, rfl, fa, hp, _, rfl, iteT ⟨_, rfl, aN, a, _, p, 1, n, rfl, fN _, fa, ⟨show (0 : Nat) < 2 ^ 1 by decide, show (1 : Nat) < 2 ^ 1 by decide⟩, hb, by omega, ?_⟩⟩
  rw [decide_eq_true (show (0 : Int) * p.2 < p.1 * 1 by omega)]
  exact q
abbrev sNB : Stmt := top 36
theorem scNB : FnScope ["thing", "bound"] ["thing", "bound"] (defScope sNB) := ⟨rfl, rfl, rfl, by decide +kernel, rfl, by decide +kernel, by decide +kernel⟩
theorem ok_nb {dV : Value} (F : FunD K "is_number_below" "is_number_below" sNB dV f fd)
    (G1 : FnOk P w K mg base CX0 1 g1 gd1 ["thing"] (spWhole K)) (b1 : Binds K gd1 ["thing"] []) (k1 : PySem.W.keepIn K (.ref g1) = true) (m1 : mg "is_whole" = some (.ref g1)) :
    FnOk P w K mg base CX 2 f fd ["thing", "bound"] spNB := by
  refine F.ok scNB (fun vs H Q E h => ?_) (fun cdv A outer s H vs Q E hr h => ?_)
  · obtain ⟨i, b', rfl, h0, h1, q⟩ := h
    rfl
  obtain ⟨i, b', rfl, h0, h1, q⟩ := h
  refine ⟨_, (pss_one (ps_ret (pe_and (pe_call G1 hr rfl m1 k1 b1 .nil pass0 (pa_cons (pv 0) pa_nil)) (pe_and (pe_cmpR op_ge (pv 0) pe_int (nomark _)) (pe_one (pe_cmpR op_lt (pv 0) (pv 1) (nomark _))))))), ?_⟩
  refine ⟨_, rfl, _, rfl, .inl ⟨i, rfl, _, rfl, iteT ⟨_, rfl, _, _, rfl, rfl, _, rfl, ifT (decide_eq_true h0) ⟨_, rfl, _, rfl, _, _, rfl, rfl, ?_⟩⟩⟩⟩
  show Q (.bl (decide (i < b'))) H
  rw [decide_eq_true h1]
  exact q
abbrev sRS : Stmt := top 39
theorem scRS : FnScope ["word", "size"] ["word", "size"] (defScope sRS) := ⟨rfl, rfl, rfl, by decide +kernel, rfl, by decide +kernel, by decide +kernel⟩
theorem ok_rs {dV : Value} (F : FunD K "refuse_size" "refuse_size" sRS dV f fd)
    (G1 : FnOk P w K mg base CX0 2 g1 gd1 ["thing"] (spIsF K)) (b1 : Binds K gd1 ["thing"] []) (k1 : PySem.W.keepIn K (.ref g1) = true) (m1 : mg "is_fraction" = some (.ref g1))
    (G2 : FnOk P w K mg base CX0 3 g2 gd2 ["thing"] (spPS K)) (b2 : Binds K gd2 ["thing"] []) (k2 : PySem.W.keepIn K (.ref g2) = true) (m2 : mg "is_piece_size" = some (.ref g2)) :
    FnOk P w K mg base CX 4 f fd ["word", "size"] (spRS K) := by
  refine F.ok scRS (fun vs H Q E h => ?_) (fun cdv A outer s H vs Q E hr h => ?_)
  · obtain ⟨k, z, p, rfl, fz, hp, h0, hb, q⟩ := h
    rfl
  obtain ⟨k, z, p, rfl, fz, hp, h0, hb, q⟩ := h
  have r2 := hr.mono (show 2 ≤ 3 by omega)
  refine ⟨_, (pss_cons (ps_if (pt_not (pt_val (pe_call G1 r2 rfl m1 k1 b1 .nil pass0 (pa_cons (pv 1) pa_nil)))) (pss_one ps_never) pss_nil)
    (pss_one (ps_if (PW.pt (pw_and (pt_cmpR op_eq (pv 0) pe_str (nomark _)) (pw_and1 (pt_not (pt_val (pe_call G2 hr rfl m2 k2 b2 .nil pass0 (pa_cons (pv 1) pa_nil))))))) (pss_one ps_never) pss_nil))), ?_⟩
  refine ⟨_, rfl, z, p, rfl, fz, hp, _, rfl, iteF ?_⟩
  cases k
  · exact ⟨_, rfl, rfl, _, rfl, ifT (dec_wd .pc .pc) ⟨_, rfl, z, p, 100, rfl, fz, hp, h0 rfl, hb, by omega, _, rfl, iteF q⟩⟩
  · exact ⟨_, rfl, rfl, _, rfl, ifF (dec_wd .pu .pc) (iteF q)⟩
  · exact ⟨_, rfl, rfl, _, rfl, ifF (dec_wd .ho .pc) (iteF q)⟩
theorem nd_point_many : (["point", "many"] : List Str).Nodup := by decide +kernel
def spRP (K : PySem.W.Frag) : Sp := fun vs H Q _ => ∃ (l : Addr) (i j m : Int), vs = [.ref l, .int m] ∧ SqL K H l [.int i, .int j] ∧ 0 ≤ i ∧ i < m ∧ 0 ≤ j ∧ j < m ∧ ∀ H', Same H H' → Q .non H'
def spRN : Sp := fun vs H Q _ => ∃ k c : Int, vs = [.int k, .int c] ∧ 0 ≤ k ∧ k < c ∧ Q .non H
abbrev sRP : Stmt := top 37
theorem scRP : FnScope ["some", "many"] ["some", "many"] (defScope sRP) := ⟨rfl, rfl, rfl, by decide +kernel, rfl, by decide +kernel, by decide +kernel⟩
theorem ok_rp {dV : Value} (F : FunD K "refuse_points" "refuse_points" sRP dV f fd)
    (ma : mg "all" = none)
    (G1 : FnOk P w K mg base CX0 2 g1 gd1 ["thing", "bound"] spNB) (b1 : Binds K gd1 ["thing", "bound"] []) (k1 : PySem.W.keepIn K (.ref g1) = true) (m1 : mg "is_number_below" = some (.ref g1)) :
    FnOk P w K mg base CX 3 f fd ["some", "many"] (spRP K) := by
  refine F.ok scRP (fun vs H Q E h => ?_) (fun cdv A outer s H vs Q E hr h => ?_)
  · obtain ⟨l, i, j, m, rfl, hl, i0, i1, j0, j1, q⟩ := h
    rfl
  obtain ⟨l, i, j, m, rfl, hl, i0, i1, j0, j1, q⟩ := h
  refine ⟨_, (pss_one (ps_if (pt_not (pt_val (pe_callB (call_all rfl) rfl ma PyProof.Rows.boot_all (pa_cons (pe_comp (nl := 1) (fr := [1]) (Nc := ["point", "many"]) (cl := [("many", s.heap.objs.size + 1)]) rfl ⟨rfl, rfl, by decide +kernel, by decide +kernel, fun x c h => h, has_of rfl, rfl, fun i n h => match i, h with | 0, h => by cases h; exact ⟨1, rfl, rfl, rfl, rfl, .inl rfl⟩ | k + 1, h => by rw [show 1 + (k + 1) = k + 2 by omega] at h; cases h⟩
        (pi_list (pv 0)) (fun C s3 H3 fp pins => (pg_name (i := 0) nd_point_many rfl (Or.inl rfl))) (fun C s3 H3 fp pins => pif_nil)
        (fun C s3 H3 fp pins => (pe_call G1 hr rfl m1 k1 b1 .nil pass0 (pa_cons (pv 0) (pa_cons (pv 1) pa_nil))))) pa_nil)))) (pss_one ps_never) pss_nil)), ?_⟩
  refine ⟨_, rfl, l, rfl, ⟨_, hl⟩, fun D hD => ?_⟩
  have sD := same_new hD (.lst [])
  refine comp_list (xs := [.int i, .int j]) (fun k zs H' => Same H H' ∧ H' D = some (.lst zs) ∧ zs = (List.replicate k true).map V.bl) ⟨sD, upd_same, rfl⟩ (fun k zs H' h => h.2.1) (fun k zs H' _ h => h.1.seq hl) ?_ ?_
  · rintro k zs x H1 hx ⟨s1, e1, rfl⟩ C hC
    have hk : k < 2 := (List.getElem?_eq_some_iff.mp hx).1
    obtain ⟨y, rfl, y0, y1⟩ : ∃ y, x = .int y ∧ 0 ≤ y ∧ y < m := by
      rcases List.mem_cons.mp (List.mem_of_getElem? hx) with z | z
      · exact ⟨i, z, i0, i1⟩
      · exact ⟨j, by simpa using z, j0, j1⟩
    refine ⟨keep1.1, keep1.2, iteT ?_⟩
    refine ⟨_, rfl, _, rfl, y, m, rfl, y0, y1, e1, small1000 (by rw [List.length_map, List.length_replicate]; omega), hC _ _ ⟨s1.change hD, upd_same, ?_⟩⟩
    rw [List.replicate_succ', List.map_append]; rfl
  · rintro zs H1 ⟨s1, e1, rfl⟩
    refine ⟨D, _, rfl, SqL.of e1, _, rfl, ifF ?_ ?_⟩
    · simp
    · exact q _ s1
abbrev sRN : Stmt := top 38
theorem scRN : FnScope ["k", "count"] ["k", "count"] (defScope sRN) := ⟨rfl, rfl, rfl, by decide +kernel, rfl, by decide +kernel, by decide +kernel⟩
theorem ok_rn {dV : Value} (F : FunD K "refuse_number" "refuse_number" sRN dV f fd)
    (G1 : FnOk P w K mg base CX0 2 g1 gd1 ["thing", "bound"] spNB) (b1 : Binds K gd1 ["thing", "bound"] []) (k1 : PySem.W.keepIn K (.ref g1) = true) (m1 : mg "is_number_below" = some (.ref g1)) :
    FnOk P w K mg base CX 3 f fd ["k", "count"] spRN := by
  refine F.ok scRN (fun vs H Q E h => ?_) (fun cdv A outer s H vs Q E hr h => ?_)
  · obtain ⟨k, c, rfl, u0, u1, q⟩ := h
    rfl
  obtain ⟨k, c, rfl, u0, u1, q⟩ := h
  refine ⟨_, (pss_one (ps_if (pt_not (pt_val (pe_call G1 hr rfl m1 k1 b1 .nil pass0 (pa_cons (pv 0) (pa_cons (pv 1) pa_nil))))) (pss_one ps_never) pss_nil)), ?_⟩
  exact ⟨_, rfl, _, rfl, k, c, rfl, u0, u1, _, rfl, iteF q⟩
abbrev sNInit : Stmt := inClass (top 35) 0
theorem scNInit : FnScope ["self", "many"] ["self", "many"] (defScope sNInit) := ⟨rfl, rfl, rfl, by decide +kernel, rfl, by decide +kernel, by decide +kernel⟩
theorem ok_ninit {dV : Value} {CN : Addr} (F : FunD K "__init__" "Net.__init__" sNInit dV f fd) (NTx : NT K mg CN)
    {tM : Tok} (mMP : mg "MOST_POINTS" = some (.int 20 tM))
    (G1 : FnOk P w K mg base CX0 1 g1 gd1 ["thing"] (spWhole K)) (b1 : Binds K gd1 ["thing"] []) (k1 : PySem.W.keepIn K (.ref g1) = true) (m1 : mg "is_whole" = some (.ref g1)) : FnOk P w K mg base CX 2 f fd ["self", "many"] (spNInit CN) := by
  refine F.ok scNInit (fun vs H Q E h => ?_) (fun cdv A outer s H vs Q E hr h => ?_)
  · obtain ⟨n, dx, m, rfl, hn, h1, h20, q⟩ := h
    rfl
  obtain ⟨n, dx, m, rfl, hn, h1, h20, q⟩ := h
  refine ⟨_, (pss_cons (ps_if (PW.pt (pw_or (pt_not (pt_val (pe_call G1 hr rfl m1 k1 b1 .nil pass0 (pa_cons (pv 1) pa_nil)))) (pw_or (pt_cmpR op_lt (pv 1) pe_int (nomark _)) (pw_or1 (pt_cmpR op_gt (pv 1) (pe_glob (v := .int 20) rfl mMP ⟨_, rfl⟩) (nomark _)))))) (pss_one ps_never) pss_nil)
    (pss_cons (ps_fld (pv 0) (pv 1) rfl)
    (pss_one (ps_fld (pv 0) (pe_lst pa_nil) rfl)))), ?_⟩
  refine ⟨_, rfl, _, rfl, .inl ⟨m, rfl, _, rfl, iteF ⟨_, rfl, _, _, rfl, rfl, _, rfl, ifF (decide_eq_false (by omega)) ⟨_, rfl, _, _, rfl, rfl, _, rfl, ifF (decide_eq_false (by omega)) ?_⟩⟩⟩⟩
  refine ⟨_, rfl, _, rfl, n, CN, dx, [], rfl, hn, NTx.cl, NTx.nP, (by show 0 < 1000; decide), ?_⟩
  refine ⟨by show 0 ≤ sizeLine; decide, fun l hl => ?_⟩
  have nl : n ≠ l := fun z => by subst z; rw [upd_same] at hl; cases hl
  have hl0 : H l = none := by rw [upd_ne (Ne.symm nl)] at hl; exact hl
  have l1 := length_putF ("point_count" : Str) (.int m) []
  simp only [List.length_nil] at l1
  refine ⟨_, rfl, n, CN, dx, putF "point_count" (.int m) [], rfl, by rw [upd_ne nl]; exact upd_same, NTx.cl, NTx.nK, by omega, ?_⟩
  refine q l _ hl0 (fun b o e hb => ?_) upd_same (by rw [upd_ne (Ne.symm nl)]; exact upd_same)
  rw [upd_ne hb, upd_ne (ne_of_none e hl0), upd_ne hb]
  exact e
abbrev sMany : Stmt := inClass (top 35) 1
abbrev sCount : Stmt := inClass (top 35) 2
abbrev sNTold : Stmt := inClass (top 35) 6
abbrev sAdd : Stmt := inClass (top 35) 3
theorem scAdd : FnScope ["self", "row", "told"] ["self", "row"] (defScope sAdd) := ⟨rfl, rfl, rfl, by decide +kernel, rfl, by decide +kernel, by decide +kernel⟩
theorem ok_add {dV : Value} {CN : Addr} (F : FunD K "add" "Net.add" sAdd dV f fd) (NTx : NT K mg CN)
    {tR : Tok} (mMR : mg "MOST_ROWS" = some (.int 40 tR)) (ml : mg "len" = none) {gT : Addr} {gdT : FuncData} (T : RT K mg CR CK) (GT : FnOk P w K mg base CX0 2 gT gdT ["self"] (spRTold CK)) (bT : Binds K gdT ["self"] []) (mT : ∀ k, Meth K (CK k) "told" gT)
    (G1 : FnOk P w K mg base CX0 3 g1 gd1 ["some", "many"] (spRP K)) (b1 : Binds K gd1 ["some", "many"] []) (k1 : PySem.W.keepIn K (.ref g1) = true) (m1 : mg "refuse_points" = some (.ref g1))
    (G2 : FnOk P w K mg base CX0 4 g2 gd2 ["word", "size"] (spRS K)) (b2 : Binds K gd2 ["word", "size"] []) (k2 : PySem.W.keepIn K (.ref g2) = true) (m2 : mg "refuse_size" = some (.ref g2)) : FnOk P w K mg base CX 5 f fd ["self", "row"] (spAdd CN K CK) := by
  refine F.ok scAdd (fun vs H Q E h => ?_) (fun cdv A outer s H vs Q E hr h => ?_)
  · obtain ⟨n, l, x, z, m, ds, k, i, j, p, rfl, ⟨⟨dx, hn⟩, ts, hl, hR⟩, rw, fz, ⟨i0, i1, j0, j1, lp, h0, bp⟩, h40, q⟩ := h
    rfl
  obtain ⟨n, l, x, z, m, ds, k, i, j, p, rfl, ⟨⟨dx, hn⟩, ts, hl, hR⟩, rw, fz, ⟨i0, i1, j0, j1, lp, h0, bp⟩, h40, q⟩ := h
  have r2 := hr.mono (show 2 ≤ 4 by omega)
  have r3 := hr.mono (show 3 ≤ 4 by omega)
  refine ⟨_, (pss_cons (ps_set (i := 2) scAdd.nd rfl (Or.inl rfl) (pe_methD0 (f := fun _ => gT) (fd := fun _ => gdT) (sp := fun _ => spRTold CK) (pv 1) T.cl mT (fun _ => GT) r2 (fun _ => bT) .nil pass0))
    (pss_cons (ps_expr (pe_call G1 r3 rfl m1 k1 b1 .nil pass0 (pa_cons (pe_lst (pa_cons (pe_ix ix_tup (pv 2) pe_int (fun _ _ => rfl)) (pa_cons (pe_ix ix_tup (pv 2) pe_int (fun _ _ => rfl)) pa_nil))) (pa_cons (pe_fld (pv 0) rfl) pa_nil))))
    (pss_cons (ps_expr (pe_call G2 hr rfl m2 k2 b2 .nil pass0 (pa_cons (pe_ix ix_tup (pv 2) pe_int (fun _ _ => rfl)) (pa_cons (pe_ix ix_tup (pv 2) pe_int (fun _ _ => rfl)) pa_nil))))
    (pss_cons (ps_if (pt_cmpR op_ge (pe_callB call_len_seq rfl ml PySem.boot_len (pa_cons (pe_fld (pv 0) rfl) pa_nil)) (pe_glob (v := .int 40) rfl mMR ⟨_, rfl⟩) (nomark _)) (pss_one ps_never) pss_nil)
    (pss_cons (ps_expr (pe_bm PySem.F.plainAttrs_list PySem.F.slot_list_append PySem.F.type_list_append mt_append (pe_fld (pv 0) rfl) (pa_cons (pv 2) pa_nil)))
    (pss_one (ps_ret (pe_op op_sub (pe_callB call_len_seq rfl ml PySem.boot_len (pa_cons (pe_fld (pv 0) rfl) pa_nil)) pe_int)))))))), ?_⟩
  obtain ⟨dr, hx⟩ := id rw
  have len := hR.length
  refine ⟨_, rfl, k, x, dr, _, rfl, hx, (rflds_no _ _ _ (by decide +kernel) (by decide +kernel) (by decide +kernel)), x, k, _, _, _, rfl, rw, fun t ht => ?_⟩
  have st := same_new ht (.tup [.str k.wd, .int i, .int j, .ref z])
  have et : SqT K (upd H t (.tup [.str k.wd, .int i, .int j, .ref z])) t [.str k.wd, .int i, .int j, .ref z] := SqT.of upd_same
  generalize upd H t (.tup [.str k.wd, .int i, .int j, .ref z]) = H1a at st et ⊢
  have hn1 := st _ _ hn
  have hl1 := st _ _ hl
  refine ⟨_, rfl, t, _, 1, _, rfl, rfl, et, rfl, _, rfl, t, _, 2, _, rfl, rfl, et, rfl, by show 2 ≤ sizeLine; decide, fun lq hlq => ?_⟩
  have sq := same_new hlq (.lst [.int i, .int j])
  have eq : upd H1a lq (.lst [.int i, .int j]) lq = some (.lst [.int i, .int j]) := upd_same
  generalize upd H1a lq (.lst [.int i, .int j]) = H1b at sq eq ⊢
  have hnb := sq _ _ hn1
  refine ⟨_, rfl, n, CN, dx, _, _, rfl, hnb, NTx.cl, NTx.nP, nflds_pc _ _, lq, i, j, m, rfl, SqL.of eq, i0, i1, j0, j1, fun H1 sc => ?_⟩
  have sqc := sq.trans sc
  have st := st.trans sqc
  have et := sqc.seqT et
  have hn1 := sqc _ _ hn1
  have hl1 := sqc _ _ hl1
  refine ⟨_, rfl, t, _, 0, _, rfl, rfl, et, rfl, _, rfl, t, _, 3, _, rfl, rfl, et, rfl, k, z, p, rfl, st.fq fz, lp, h0, bp, ?_⟩
  refine ⟨_, rfl, n, CN, dx, _, _, rfl, hn1, NTx.cl, NTx.nK, nflds_kept _ _, l, ts, rfl, .inl (SqL.of hl1), _, _, rfl, rfl, _, rfl, ifF (decide_eq_false (by omega)) ?_⟩
  refine ⟨_, rfl, n, CN, dx, _, _, rfl, hn1, NTx.cl, NTx.nK, nflds_kept _ _, .inl ⟨rfl, _, SqL.of hl1⟩, _, rfl, l, ts, .ref t, rfl, rfl, hl1, small1000 (by omega), ?_⟩
  have nn : n ≠ l := ne_of hn1 hl1 (fun z => by cases z)
  have hn2 : upd H1 l (.lst (ts ++ [.ref t])) n = some (.ins CN dx (nflds m l)) := by rw [upd_ne nn]; exact hn1
  have hl2 : upd H1 l (.lst (ts ++ [.ref t])) l = some (.lst (ts ++ [.ref t])) := upd_same
  refine ⟨_, rfl, n, CN, dx, _, _, rfl, hn2, NTx.cl, NTx.nK, nflds_kept _ _, l, _, rfl, .inl (SqL.of hl2), _, _, rfl, rfl, ?_⟩
  show Q (.int (((ts ++ [V.ref t]).length : Int) - 1)) _
  rw [List.length_append, List.length_singleton, len, show (((ds.length + 1 : Nat) : Int) - 1) = (ds.length : Int) by omega]
  refine q _ (st.x.write) ⟨⟨dx, hn2⟩, _, hl2, Rts.upd hl1 ((hR.same st).app (.cons et (st.fq fz) .nil))⟩
abbrev sChange : Stmt := inClass (top 35) 4
theorem scChange : FnScope ["self", "k", "size", "old"] ["self", "k", "size"] (defScope sChange) := ⟨rfl, rfl, rfl, by decide +kernel, rfl, by decide +kernel, by decide +kernel⟩
theorem ok_change {dV : Value} {CN : Addr} (F : FunD K "change" "Net.change" sChange dV f fd) (NTx : NT K mg CN)
    (ml : mg "len" = none)
    (G1 : FnOk P w K mg base CX0 3 g1 gd1 ["k", "count"] spRN) (b1 : Binds K gd1 ["k", "count"] []) (k1 : PySem.W.keepIn K (.ref g1) = true) (m1 : mg "refuse_number" = some (.ref g1))
    (G2 : FnOk P w K mg base CX0 4 g2 gd2 ["word", "size"] (spRS K)) (b2 : Binds K gd2 ["word", "size"] []) (k2 : PySem.W.keepIn K (.ref g2) = true) (m2 : mg "refuse_size" = some (.ref g2)) : FnOk P w K mg base CX 5 f fd ["self", "k", "size"] (spChange CN K) := by
  refine F.ok scChange (fun vs H Q E h => ?_) (fun cdv A outer s H vs Q E hr h => ?_)
  · obtain ⟨n, l, z, m, q', ds, k, i, j, p0, p, rfl, ⟨⟨dx, hn⟩, ts, hl, hR⟩, q0, hq, fz, lp, h0, bp, q⟩ := h
    rfl
  obtain ⟨n, l, z, m, q', ds, k, i, j, p0, p, rfl, ⟨⟨dx, hn⟩, ts, hl, hR⟩, q0, hq, fz, lp, h0, bp, q⟩ := h
  have r2 := hr.mono (show 3 ≤ 4 by omega)
  refine ⟨_, (pss_cons (ps_expr (pe_call G1 r2 rfl m1 k1 b1 .nil pass0 (pa_cons (pv 1) (pa_cons (pe_callB call_len_seq rfl ml PySem.boot_len (pa_cons (pe_fld (pv 0) rfl) pa_nil)) pa_nil))))
    (pss_cons (ps_set (i := 3) scChange.nd rfl (Or.inl rfl) (pe_ix ix_list (pe_fld (pv 0) rfl) (pv 1) (fun _ _ => rfl)))
    (pss_cons (ps_expr (pe_call G2 hr rfl m2 k2 b2 .nil pass0 (pa_cons (pe_ix ix_tup (pv 3) pe_int (fun _ _ => rfl)) (pa_cons (pv 2) pa_nil))))
    (pss_one (ps_asg (pe_tup (pa_cons (pe_ix ix_tup (pv 3) pe_int (fun _ _ => rfl)) (pa_cons (pe_ix ix_tup (pv 3) pe_int (fun _ _ => rfl)) (pa_cons (pe_ix ix_tup (pv 3) pe_int (fun _ _ => rfl)) (pa_cons (pv 2) pa_nil))))) (pg_sub (pe_fld (pv 0) rfl) (pv 1) set_list)))))), ?_⟩
  have len := hR.length
  have lt : q'.toNat < ds.length := (List.getElem?_eq_some_iff.mp hq).1
  obtain ⟨t, z0, et, ht, _⟩ := hR.at hq
  have at_ : atI ts q' = some (.ref t) := by
    have := atI_nat et
    rwa [show ((q'.toNat : Nat) : Int) = q' by omega] at this
  have ix_ : ixN ts.length q' = some q'.toNat := by
    have := ixN_nat (n := ts.length) (k := q'.toNat) (by omega)
    rwa [show ((q'.toNat : Nat) : Int) = q' by omega] at this
  refine ⟨_, rfl, _, rfl, n, CN, dx, _, _, rfl, hn, NTx.cl, NTx.nK, nflds_kept _ _, l, ts, rfl, .inl (SqL.of hl), q', _, rfl, q0, by omega, ?_⟩
  refine ⟨_, rfl, n, CN, dx, _, _, rfl, hn, NTx.cl, NTx.nK, nflds_kept _ _, _, rfl, l, ts, q', _, rfl, rfl, SqL.of hl, at_, ?_⟩
  refine ⟨_, rfl, t, _, 0, _, rfl, rfl, ht, rfl, _, rfl, k, z, p, rfl, fz, lp, h0, bp, ?_⟩
  refine ⟨_, rfl, t, _, 0, _, rfl, rfl, ht, rfl, _, rfl, t, _, 1, _, rfl, rfl, ht, rfl, _, rfl, t, _, 2, _, rfl, rfl, ht, rfl, _, rfl, by show 4 ≤ sizeLine; decide, fun u hu => ?_⟩
  have su := same_new hu (.tup [.str k.wd, .int i, .int j, .ref z])
  have eu : SqT K (upd H u (.tup [.str k.wd, .int i, .int j, .ref z])) u [.str k.wd, .int i, .int j, .ref z] := SqT.of upd_same
  generalize upd H u (.tup [.str k.wd, .int i, .int j, .ref z]) = H1 at su eu ⊢
  have hn1 := su _ _ hn
  have hl1 := su _ _ hl
  refine ⟨_, rfl, n, CN, dx, _, _, rfl, hn1, NTx.cl, NTx.nK, nflds_kept _ _, _, rfl, l, ts, q', q'.toNat, rfl, rfl, hl1, ix_, ?_⟩
  have nn : n ≠ l := ne_of hn1 hl1 (fun z => by cases z)
  refine q _ (su.x.write) ⟨⟨dx, by rw [upd_ne nn]; exact hn1⟩, _, upd_same, Rts.upd hl1 (Rts.set eu (su.fq fz) _ (hR.same su))⟩
theorem nd_told : (["told"] : List Str).Nodup := by decide +kernel
abbrev sRows : Stmt := inClass (top 35) 5
theorem scRows : FnScope ["self"] ["self"] (defScope sRows) := ⟨rfl, rfl, rfl, by decide +kernel, rfl, by decide +kernel, by decide +kernel⟩
theorem ok_rows {dV : Value} {CN : Addr} (F : FunD K "rows" "Net.rows" sRows dV f fd) (NTx : NT K mg CN)
    (G1 : FnOk P w K mg base CX0 3 g1 gd1 ["told"] (spRowOfG K CK)) (b1 : Binds K gd1 ["told"] []) (k1 : PySem.W.keepIn K (.ref g1) = true) (m1 : mg "row_of" = some (.ref g1)) : FnOk P w K mg base CX 4 f fd ["self"] (spRows CN K CK) := by
  refine F.ok scRows (fun vs H Q E h => ?_) (fun cdv A outer s H vs Q E hr h => ?_)
  · obtain ⟨n, l, m, ds, rfl, ⟨⟨dx, hn⟩, ts, hl, hR⟩, h100, q⟩ := h
    rfl
  obtain ⟨n, l, m, ds, rfl, ⟨⟨dx, hn⟩, ts, hl, hR⟩, h100, q⟩ := h
  refine ⟨_, (pss_one (ps_ret (pe_comp (nl := 1) (fr := []) (Nc := ["told"]) (cl := []) rfl ⟨rfl, rfl, by decide +kernel, by decide +kernel, fun x c h => (by cases h), has_of rfl, rfl, fun i n h => (by simp at h)⟩
        (pi_list (pe_fld (pv 0) rfl)) (fun C s3 H3 fp pins => (pg_name (i := 0) nd_told rfl (Or.inl rfl))) (fun C s3 H3 fp pins => pif_nil)
        (fun C s3 H3 fp pins => (pe_call G1 hr rfl m1 k1 b1 .nil pass0 (pa_cons (pv 0) pa_nil)))))), ?_⟩
  have len := hR.length
  refine ⟨_, rfl, n, CN, dx, _, _, rfl, hn, NTx.cl, NTx.nK, nflds_kept _ _, l, rfl, ⟨_, SqL.of hl⟩, fun D hD => ?_⟩
  have sD := same_new hD (.lst [])
  refine comp_list (xs := ts) (fun i zs H' => Same H H' ∧ H' D = some (.lst zs) ∧ Robs CK K H' zs (ds.take i)) ⟨sD, upd_same, .nil⟩ (fun i zs H' h => h.2.1) (fun i zs H' _ h => h.1.seq (SqL.of hl)) ?_ ?_
  · rintro i zs x H1 hx ⟨s1, e1, R1⟩ C hC
    have hi : i < ds.length := by
      have := (List.getElem?_eq_some_iff.mp hx).1
      omega
    obtain ⟨⟨k, u, v, p⟩, hd⟩ : ∃ d, ds[i]? = some d := ⟨_, List.getElem?_eq_getElem hi⟩
    obtain ⟨t, z, et, ht, fz⟩ := hR.at hd
    have ex : x = .ref t := by rw [et] at hx; exact (Option.some.inj hx).symm
    subst ex
    have lz := R1.length
    rw [List.length_take] at lz
    refine ⟨keep1.1, keep1.2, iteT ?_⟩
    refine ⟨_, rfl, t, _, _, _, _, rfl, s1.seqT ht, k, rfl, fun y H2 s2 ny rw => ?_⟩
    have e2 := s2 _ _ e1
    refine ⟨e2, small1000 (by omega), hC _ _ ⟨(s1.trans s2).change hD, upd_same, ?_⟩⟩
    rw [List.take_add_one, hd]
    exact Robs.upd e2 ((R1.same s2).app (.cons rw ((s1.trans s2).fq fz) .nil))
  · rintro zs H1 ⟨s1, e1, R1⟩
    rw [len, List.take_length] at R1
    exact q D zs H1 s1 hD e1 R1
theorem isf_good {g : Addr} {gd : FuncData} (F : FnOk P w K mg base CX0 2 g gd ["thing"] (spIsFV K)) : FnOk P w K mg base CX0 2 g gd ["thing"] (spIsF K) :=
  F.weak fun vs H Q E h => by
    obtain ⟨a, p, rfl, f, l, q⟩ := h
    exact ⟨_, some p, rfl, .fr f l, q⟩
theorem pe_fldK {X : Cx} {K : PySem.W.Frag} {e : Expr} {f : Str} {pos : Pos} {ta : TE} (h : X.K = K) (he : PE X e ta) (hb : attributeBase e f X.env (eval e X.env) = eval e X.env) : PE X (.Attribute e f pos) (tFld K ta f) := by subst h; exact pe_fld he hb
abbrev sTotal : Stmt := top 18
theorem scTotal : FnScope ["some", "so_far", "one"] ["some"] (defScope sTotal) := ⟨rfl, rfl, rfl, by decide +kernel, rfl, by decide +kernel, by decide +kernel⟩
theorem ok_total {dV : Value} {aN : Addr} (F : FunD K "total" "total" sTotal dV f fd) (fN : ∀ H, Fq K H aN (0, 1)) (mNO : mg "NOUGHT" = some (.ref aN))
    (G2 : FnOk P w K mg base CX0 3 g2 gd2 ["one", "other"] (spTwo K Mq.plus)) (b2 : Binds K gd2 ["one", "other"] []) (k2 : PySem.W.keepIn K (.ref g2) = true) (m2 : mg "plus" = some (.ref g2)) :
    FnOk P w K mg base CX 4 f fd ["some"] (spTotW K) := by
  refine F.ok scTotal (fun vs H Q E h => ?_) (fun cdv A outer s H vs Q E hr h => ?_)
  · obtain ⟨a, xs, ps, w0, rfl, _⟩ := h
    rfl
  obtain ⟨a, xs, ps, w0, rfl, hS, hF, hP, hW, hn, z⟩ := h
  refine ⟨_, pss_cons (ps_set (i := 1) scTotal.nd rfl (Or.inl rfl) (pe_glob (v := .ref aN) rfl mNO rfl))
    (pss_cons (ps_for PassesOwn.never rfl (pi_list (pv 0)) (pg_name (i := 2) scTotal.nd rfl (Or.inl rfl)) (pss_one (ps_set (i := 1) scTotal.nd rfl (Or.inl rfl) (pe_call G2 hr rfl m2 k2 b2 .nil pass0 (pa_cons (pv 1) (pa_cons (pv 2) pa_nil))))))
    (pss_one (ps_ret (pv 1)))), ?_⟩
  have hl := hF.length
  refine ⟨_, rfl, a, rfl, ⟨_, hS⟩, ?_⟩
  refine for_list (xs := xs) (fun i σ H' => Same H H' ∧ ∃ r y, σ = [some (.ref a), some (.ref r), y] ∧ Fq K H' r (Mq.tot (ps.take i))) ⟨Same.refl H, aN, none, rfl, fN H⟩ (fun i σ H' _ h => h.1.seq hS) ?_ ?_
  · rintro i x σ H' hx ⟨sH, r, y, rfl, er⟩
    obtain ⟨ap, p, rfl, hp, fp⟩ := hF.get hx
    have hi : i < ps.length := (List.getElem?_eq_some_iff.mp hp).1
    have mem : p ∈ ps := List.mem_of_getElem? hp
    have pt : Mq.Pos (ps.take i) := fun f hf => hP f (List.mem_of_mem_take hf)
    obtain ⟨w', n, hw', bn, hle⟩ := hW.at hp
    have bt := hw'.tot pt
    refine ⟨_, rfl, _, rfl, r, ap, Mq.tot (ps.take i), p, _, n, rfl, er, sH.fq fp, (Mq.tot_low pt).pos, hP p mem, bt, bn, by omega, fun a1 H1 s1 e1 => ?_⟩
    refine ⟨sH.trans s1, a1, _, rfl, ?_⟩
    have ee : ps.take (i + 1) = ps.take i ++ [p] := by rw [List.take_add_one, hp]; rfl
    have et : Mq.tot (ps.take (i + 1)) = Mq.plus (Mq.tot (ps.take i)) p := by
      rw [ee]
      unfold Mq.tot
      rw [List.foldl_append]
      rfl
    rw [et]
    exact Fq.of e1
  · rintro σ H' ⟨sH, r, y, rfl, er⟩
    refine ⟨_, rfl, ?_⟩
    refine z r H' sH ?_
    rw [hl, List.take_length] at er
    exact er
end
end K32

set_option Elab.async false
set_option linter.all false
set_option maxRecDepth 100000
set_option maxHeartbeats 4000000
namespace K32
open PySem L2
section
variable {P : Program} {w : World} {K : PySem.W.Frag} {mg : Str → Option Value} {base : Heap} {f g1 g2 g3 g4 g5 g6 g7 g8 : Addr} {fd gd1 gd2 gd3 gd4 gd5 gd6 gd7 gd8 : FuncData} {CX : CXT}
variable {CR : Addr} {CK : Kd → Addr} {fW fJ fT fS : Kd → Addr} {fdW fdJ fdT fdS : Kd → FuncData}
theorem sub_nil {ec : List (Str × Addr)} : ∀ (x : Str) (c : Addr), ([] : List (Str × Addr)).lookup x = some c → ec.lookup x = some c := fun _ _ h => by cases h
theorem sub_cons {ec cl : List (Str × Addr)} {a : Str} {d : Addr} (h : ec.lookup a = some d) (r : ∀ x c, cl.lookup x = some c → ec.lookup x = some c) : ∀ x c, ((a, d) :: cl).lookup x = some c → ec.lookup x = some c := fun x c e => by
  rw [List.lookup_cons] at e
  cases q : x == a with
  | true => rw [q] at e; rw [eq_of_beq q, h]; exact e
  | false => rw [q] at e; exact r x c e
theorem ix_listK {X : Cx} {K : PySem.W.Frag} (h : X.K = K) : IxR X (rIxL K) := by subst h; exact ix_list
abbrev sSteps : Stmt := top 23
theorem scSteps : FnScope ["rows", "numbers", "point", "steps", "number", "row"] ["rows", "numbers", "point"] (defScope sSteps) := ⟨rfl, rfl, rfl, by decide +kernel, rfl, by decide +kernel, by decide +kernel⟩
theorem ok_steps {dV : Value} (F : FunD K "steps_from" "steps_from" sSteps dV f fd)
    (T : RT K mg CR CK) :
    FnOk P w K mg base CX 1 f fd ["rows", "numbers", "point"] (spSteps K CK) := by
  refine F.ok scSteps (fun vs H Q E h => ?_) (fun cdv A outer s H vs Q E hr h => ?_)
  · obtain ⟨a, b, xs, ds, es, p, rfl, hA, Rb, hB, hE, h100, q⟩ := h
    rfl
  obtain ⟨a, b, xs, ds, es, p, rfl, hA, Rb, hB, hE, h100, q⟩ := h
  refine ⟨_, (pss_cons (ps_set (i := 3) scSteps.nd rfl (Or.inl rfl) (pe_lst pa_nil))
    (pss_cons (ps_for PassesOwn.never rfl (pi_list (pv 1)) (pg_name (i := 4) scSteps.nd rfl (Or.inl rfl))
      (pss_cons (ps_set (i := 5) scSteps.nd rfl (Or.inl rfl) (pe_ix ix_list (pv 0) (pv 4) (fun _ _ => rfl)))
    (pss_one (ps_if (pt_cmpR op_eq (pe_fld (pv 5) rfl) (pv 2) (nomark _)) (pss_one (ps_expr (pe_bm PySem.F.plainAttrs_list PySem.F.slot_list_append PySem.F.type_list_append mt_append (pv 3) (pa_cons (pe_tup (pa_cons (pe_tup (pa_cons (pv 4) (pa_cons pe_int pa_nil))) (pa_cons (pe_fld (pv 5) rfl) pa_nil))) pa_nil)))) (pss_one (ps_if (pt_cmpR op_eq (pe_fld (pv 5) rfl) (pv 2) (nomark _)) (pss_one (ps_expr (pe_bm PySem.F.plainAttrs_list PySem.F.slot_list_append PySem.F.type_list_append mt_append (pv 3) (pa_cons (pe_tup (pa_cons (pe_tup (pa_cons (pv 4) (pa_cons (pe_un un_neg pe_int) pa_nil))) (pa_cons (pe_fld (pv 5) rfl) pa_nil))) pa_nil)))) pss_nil))))))
    (pss_one (ps_ret (pv 3))))), ?_⟩
  refine ⟨by show 0 ≤ sizeLine; decide, fun l hl => ?_⟩
  have s1 := same_new hl (.lst [])
  have e1 : upd H l (.lst []) l = some (.lst []) := upd_same
  generalize upd H l (.lst []) = H1 at s1 e1 ⊢
  refine ⟨_, rfl, b, rfl, ⟨_, s1.seq hB⟩, ?_⟩
  refine for_list (xs := es.map fun (e : Br) => V.int ((e.1 : Nat) : Int)) (fun i σ H' => Same H H' ∧ ∃ (ys : List V) (z4 z5 : Option V), σ = [some (.ref a), some (.ref b), some (.int (p : Int)), some (.ref l), z4, z5] ∧ H' l = some (.lst ys) ∧ Sds K H' ys (stF (es.take i) p)) ⟨s1, [], none, none, rfl, e1, .nil⟩ (fun i σ H' _ h => h.1.seq hB) ?_ ?_
  · rintro i x σ H2 hx ⟨s2, ys, z4, z5, rfl, e2, S2⟩
    rw [List.getElem?_map] at hx
    obtain ⟨e, he, rfl⟩ := Option.map_eq_some_iff.mp hx
    have hi : i < es.length := (List.getElem?_eq_some_iff.mp he).1
    obtain ⟨⟨k, u, v, q'⟩, hd, eu, ev⟩ := hE e (List.mem_of_getElem? he)
    have eu : u = (e.2.1 : Int) := eu
    have ev : v = (e.2.2 : Int) := ev
    subst eu
    subst ev
    obtain ⟨y, z, ey, rw0, fz⟩ := Rb.at hd
    have rw2 := rw0.same s2
    obtain ⟨dx, hx2⟩ := id rw2
    have at_ : atI xs (e.1 : Int) = some (.ref y) := atI_nat ey
    have ly : ys.length ≤ es.length := by
      have h1 := S2.length
      have h2 : (stF (es.take i) p).length ≤ (es.take i).length := List.length_filterMap_le _ _
      rw [List.length_take] at h2
      omega
    refine ⟨_, rfl, _, rfl, a, xs, _, _, rfl, rfl, s2.seq hA, at_, ?_⟩
    refine ⟨_, rfl, y, CK _, _, _, _, rfl, hx2, T.cl _, T.nS _, rflds_start _ _ _, _, rfl, rfl, _, rfl, ?_⟩
    by_cases c1 : e.2.1 = p
    · have tk : stF (es.take (i + 1)) p = stF (es.take i) p ++ [((e.1, 1), e.2.2)] := by
        unfold stF
        rw [List.take_add_one, he, List.filterMap_append]
        show _ ++ [e].filterMap _ = _
        rw [List.filterMap_cons, if_pos c1]; rfl
      refine ifT (decide_eq_true (by rw [c1])) ?_
      refine ⟨_, rfl, .inl ⟨rfl, _, SqL.of e2⟩, _, rfl, by show 2 ≤ sizeLine; decide, fun u hu' => ?_⟩
      have su := same_new hu' (.tup [.int (e.1 : Int), .int (1)])
      have eu : SqT K (upd H2 u (.tup [.int (e.1 : Int), .int (1)])) u [.int (e.1 : Int), .int (1)] := SqT.of upd_same
      generalize upd H2 u (.tup [.int (e.1 : Int), .int (1)]) = H3 at su eu ⊢
      obtain ⟨dx3, hx3⟩ := id (rw2.same su)
      refine ⟨_, rfl, y, CK _, _, _, _, rfl, hx3, T.cl _, T.nG _, rflds_goal _ _ _, by show 2 ≤ sizeLine; decide, fun t ht => ?_⟩
      rw [show (k, (e.2.1 : Int), (e.2.2 : Int), q').2.2.1 = (e.2.2 : Int) from rfl]
      have st := same_new ht (.tup [.ref u, .int (e.2.2 : Int)])
      have et : SqT K (upd H3 t (.tup [.ref u, .int (e.2.2 : Int)])) t [.ref u, .int (e.2.2 : Int)] := SqT.of upd_same
      generalize upd H3 t (.tup [.ref u, .int (e.2.2 : Int)]) = H4 at st et ⊢
      have s24 := su.trans st
      have e4 := s24 _ _ e2
      refine ⟨l, _, _, rfl, rfl, e4, small1000 (by omega), ⟨(s2.trans s24).change hl, _, _, _, rfl, upd_same, ?_⟩⟩
      rw [tk]
      exact Sds.upd e4 ((S2.same s24).app (.cons et (st.seqT eu) .nil))
    · refine ifF (decide_eq_false (fun z => c1 (by have : (e.2.1 : Int) = (p : Int) := by injection z
                                                   omega))) ?_
      refine ⟨_, rfl, y, CK _, _, _, _, rfl, hx2, T.cl _, T.nG _, rflds_goal _ _ _, _, rfl, rfl, _, rfl, ?_⟩
      by_cases c2 : e.2.2 = p
      · have tk : stF (es.take (i + 1)) p = stF (es.take i) p ++ [((e.1, -1), e.2.1)] := by
          unfold stF
          rw [List.take_add_one, he, List.filterMap_append]
          show _ ++ [e].filterMap _ = _
          rw [List.filterMap_cons, if_neg c1, if_pos c2]; rfl
        refine ifT (decide_eq_true (by rw [c2])) ?_
        refine ⟨_, rfl, .inl ⟨rfl, _, SqL.of e2⟩, _, rfl, _, rfl, by show 2 ≤ sizeLine; decide, fun u hu' => ?_⟩
        have su := same_new hu' (.tup [.int (e.1 : Int), .int (-1)])
        have eu : SqT K (upd H2 u (.tup [.int (e.1 : Int), .int (-1)])) u [.int (e.1 : Int), .int (-1)] := SqT.of upd_same
        generalize upd H2 u (.tup [.int (e.1 : Int), .int (-1)]) = H3 at su eu ⊢
        obtain ⟨dx3, hx3⟩ := id (rw2.same su)
        refine ⟨_, rfl, y, CK _, _, _, _, rfl, hx3, T.cl _, T.nS _, rflds_start _ _ _, by show 2 ≤ sizeLine; decide, fun t ht => ?_⟩
        rw [show (k, (e.2.1 : Int), (e.2.2 : Int), q').2.1 = (e.2.1 : Int) from rfl]
        have st := same_new ht (.tup [.ref u, .int (e.2.1 : Int)])
        have et : SqT K (upd H3 t (.tup [.ref u, .int (e.2.1 : Int)])) t [.ref u, .int (e.2.1 : Int)] := SqT.of upd_same
        generalize upd H3 t (.tup [.ref u, .int (e.2.1 : Int)]) = H4 at st et ⊢
        have s24 := su.trans st
        have e4 := s24 _ _ e2
        refine ⟨l, _, _, rfl, rfl, e4, small1000 (by omega), ⟨(s2.trans s24).change hl, _, _, _, rfl, upd_same, ?_⟩⟩
        rw [tk]
        exact Sds.upd e4 ((S2.same s24).app (.cons et (st.seqT eu) .nil))
      · have tk : stF (es.take (i + 1)) p = stF (es.take i) p := by
          unfold stF
          rw [List.take_add_one, he, List.filterMap_append]
          show _ ++ [e].filterMap _ = _
          rw [List.filterMap_cons, if_neg c1, if_neg c2]; simp
        refine ifF (decide_eq_false (fun z => c2 (by have : (e.2.2 : Int) = (p : Int) := by injection z
                                                     omega))) ⟨s2, ys, _, _, rfl, e2, ?_⟩
        rw [tk]; exact S2
  rintro σ H2 ⟨s2, ys, z4, z5, rfl, e2, S2⟩
  rw [List.length_map, List.take_length] at S2
  exact ⟨_, rfl, q l ys H2 s2 hl e2 S2⟩
end
end K32

set_option Elab.async false
set_option linter.all false
set_option maxRecDepth 100000
set_option maxHeartbeats 4000000
namespace K32
open PySem L2
section
variable {P : Program} {w : World} {K : PySem.W.Frag} {mg : Str → Option Value} {base : Heap} {f g1 g2 g3 g4 g5 g6 g7 g8 : Addr} {fd gd1 gd2 gd3 gd4 gd5 gd6 gd7 gd8 : FuncData} {CX : CXT}
variable {CR : Addr} {CK : Kd → Addr} {fW fJ fT fS : Kd → Addr} {fdW fdJ fdT fdS : Kd → FuncData}
theorem pt_len {m : Nat} {es : List Br} {b : Nat} (hm : Ptm m es) (hb : b < m) (h20 : m ≤ 20) {w : WS} (nd : (wkeys w).Nodup) (pt : ∀ x st, (x, st) ∈ w → ∃ pts, Pt es b st x pts ∧ ∀ y ∈ pts, y ∈ wkeys w) {st : List Stp} {x : Nat} {pts : List Nat} (p : Pt es b st x pts) (k : ∀ y ∈ pts, y ∈ wkeys w) : st.length ≤ 20 := by
  have l : pts.length = st.length + 1 := by
    induction p with
    | nil => rfl
    | snoc h g n ih => rw [List.length_append, List.length_append, ih fun y hy => k y (List.mem_append_left _ hy)]; rfl
  have nd' : pts.Nodup := by
    clear k l
    induction p with
    | nil => simp
    | snoc h g n ih =>
      rw [List.nodup_append]
      refine ⟨ih, by simp, fun x hx y hy z => n ?_⟩
      rw [List.mem_singleton] at hy
      rw [← hy, ← z]; exact hx
  have := nd_le nd' fun y hy => key_lt hm hb pt y (k y hy)
  omega
theorem muS_le {es : List Br} {b p m j : Nat} {T : List (Stp × Nat)} {s : WS × List Nat} (hm : Ptm m es) (hb : b < m) (h20 : m ≤ 20) (h : WJ es b p [] s) (g : ∀ t ∈ T, Goes es t.1 p t.2) : ((T.take j).foldl (inF p) s).2.length ≤ muF s := by
  have := mu_fold hm hb h20 (T.take j) [] h fun t ht => g t (List.mem_of_mem_take ht)
  unfold muF at this ⊢
  omega
def muW (σ : St) (H : Hp) : Nat := match σ with
  | [_, _, _, _, some (.ref D), some (.ref W), _, _] => match H D, H W with
    | some (.dK kvs), some (.lst q) => 2 * (20 - kvs.length) + q.length
    | _, _ => 0
  | _ => 0
theorem muW_eq {H : Hp} {D W : Addr} {kvs : List (Key × V)} {q : List V} {a b c d e f : Option V} (h : H D = some (.dK kvs)) (g : H W = some (.lst q)) : muW [a, b, c, d, some (.ref D), some (.ref W), e, f] H = 2 * (20 - kvs.length) + q.length := by
  show (match H D, H W with | some (.dK kvs), some (.lst q) => 2 * (20 - kvs.length) + q.length | _, _ => 0) = _
  rw [h, g]
theorem map_last {q : List Nat} (h : q ≠ []) : (q.map fun (p : Nat) => V.int (p : Int))[((q.map fun (p : Nat) => V.int (p : Int))).length - 1]? = some (.int ((q.getLastD 0 : Nat) : Int)) ∧ (q.map fun (p : Nat) => V.int (p : Int)).dropLast = (q.dropLast.map fun (p : Nat) => V.int (p : Int)) := by
  obtain ⟨_, e⟩ := last_in h
  generalize q.getLastD 0 = x at e
  generalize q.dropLast = r at e
  subst e
  rw [List.map_append]
  simp
abbrev sWay : Stmt := top 22
theorem scWay : FnScope ["rows", "numbers", "begin", "end", "ways", "waiting", "point", "step"] ["rows", "numbers", "begin", "end"] (defScope sWay) := ⟨rfl, rfl, rfl, by decide +kernel, rfl, by decide +kernel, by decide +kernel⟩
theorem ok_way {dV : Value} (F : FunD K "way_along" "way_along" sWay dV f fd)
    (ml : mg "len" = none)
    (G1 : FnOk P w K mg base CX0 1 g1 gd1 ["rows", "numbers", "point"] (spSteps K CK)) (b1 : Binds K gd1 ["rows", "numbers", "point"] []) (k1 : PySem.W.keepIn K (.ref g1) = true) (m1 : mg "steps_from" = some (.ref g1)) :
    FnOk P w K mg base CX 2 f fd ["rows", "numbers", "begin", "end"] (spWay K CK) := by
  refine F.ok scWay (fun vs H Q E h => ?_) (fun cdv A outer s H vs Q E hr h => ?_)
  · obtain ⟨a, b, xs, ds, es, m, f, t, rfl, hA, Rb, hB, hE, h100, hm, h20, hf, qN, qS⟩ := h
    rfl
  obtain ⟨a, b, xs, ds, es, m, f, t, rfl, hA, Rb, hB, hE, h100, hm, h20, hf, qN, qS⟩ := h
  refine ⟨_, (pss_cons (ps_set (i := 4) scWay.nd rfl (Or.inl rfl) (pe_disp (pps_cons (pv 2) (pe_lst pa_nil) pps_nil) rfl rfl (by simp) (by decide)))
    (pss_cons (ps_set (i := 5) scWay.nd rfl (Or.inl rfl) (pe_lst (pa_cons (pv 2) pa_nil)))
    (pss_cons (ps_while PassesOwn.never (pt_cmpR op_gt (pe_callB call_len_seq rfl ml PySem.boot_len (pa_cons (pv 5) pa_nil)) pe_int (nomark _))
      (pss_cons (ps_set (i := 6) scWay.nd rfl (Or.inl rfl) (pe_bm0 PySem.F.plainAttrs_list PySem.F.slot_list_pop PySem.F.type_list_pop mt_pop (pv 5)))
      (pss_one (ps_for PassesOwn.never rfl (pi_list (pe_call G1 hr rfl m1 k1 b1 .nil pass0 (pa_cons (pv 0) (pa_cons (pv 1) (pa_cons (pv 6) pa_nil))))) (pg_name (i := 7) scWay.nd rfl (Or.inl rfl))
        (pss_one (ps_if (pt_cmp (pc_dnotin (hu_of hr) (pe_ix ix_tup (pv 7) pe_int (fun _ _ => rfl)) (pv 4)))
          (pss_cons (ps_dput (hu_of hr) (pv 4) (pe_ix ix_tup (pv 7) pe_int (fun _ _ => rfl)) (pe_op op_cat (pe_dget (hu_of hr) (pv 4) (pv 6) (fun _ _ => rfl)) (pe_lst (pa_cons (pe_ix ix_tup (pv 7) pe_int (fun _ _ => rfl)) pa_nil))) rfl)
          (pss_one (ps_expr (pe_bm PySem.F.plainAttrs_list PySem.F.slot_list_append PySem.F.type_list_append mt_append (pv 5) (pa_cons (pe_ix ix_tup (pv 7) pe_int (fun _ _ => rfl)) pa_nil)))))
          pss_nil))))))
    (pss_one (ps_ret (pe_dget1 (hu_of hr) (pv 4) (pv 3) ⟨rfl, rfl, rfl, rfl⟩)))))), ?_⟩
  refine fun D hD => ?_
  have sD := same_new hD (.dK [])
  have eD : upd H D (.dK []) D = some (.dK []) := upd_same
  generalize upd H D (.dK []) = H1 at sD eD ⊢
  refine ⟨_, rfl, by show 0 ≤ sizeLine; decide, fun L hL => ?_⟩
  have nLD : L ≠ D := Ne.symm (ne_of_none eD hL)
  have nL : H L = none := sD.free hL
  have sL := same_new hL (.lst [])
  have eL : upd H1 L (.lst []) L = some (.lst []) := upd_same
  generalize upd H1 L (.lst []) = H2 at sL eL ⊢
  refine ⟨sL _ _ eD, [((Sum.inl (f : Int) : Key), V.ref L)], rfl, by show 1 ≤ 15; decide, ?_⟩
  have s3 : Same H (upd H2 D (.dK (mergeK [] [((Sum.inl (f : Int) : Key), V.ref L)]))) := (sD.trans sL).change hD
  have e3 : upd H2 D (.dK (mergeK [] [((Sum.inl (f : Int) : Key), V.ref L)])) D = some (.dK [((Sum.inl (f : Int) : Key), V.ref L)]) := upd_same
  have eL3 : upd H2 D (.dK (mergeK [] [((Sum.inl (f : Int) : Key), V.ref L)])) L = some (.lst []) := by rw [upd_ne nLD]; exact eL
  generalize upd H2 D (.dK (mergeK [] [((Sum.inl (f : Int) : Key), V.ref L)])) = H3 at s3 e3 eL3 ⊢
  refine ⟨_, rfl, by show 1 ≤ sizeLine; decide, fun W hW => ?_⟩
  have nLW : L ≠ W := ne_of_none eL3 hW
  have nDW : D ≠ W := ne_of_none e3 hW
  have nW : H W = none := s3.free hW
  have sW := same_new hW (.lst [.int (f : Int)])
  have eW : upd H3 W (.lst [.int (f : Int)]) W = some (.lst [.int (f : Int)]) := upd_same
  generalize upd H3 W (.lst [.int (f : Int)]) = H4 at sW eW ⊢
  have s4 := s3.trans sW
  have w4 : Wys K H W H4 [((Sum.inl (f : Int) : Key), V.ref L)] (iterF es f 0).1 := .cons nL nLW (sW _ _ eL3) .nil .nil
  refine while_by (fun σ H' => Same H H' ∧ ∃ (i : Nat) (kvs : List (Key × V)) (z6 z7 : Option V), σ = [some (.ref a), some (.ref b), some (.int (f : Int)), some (.int (t : Int)), some (.ref D), some (.ref W), z6, z7] ∧ H' D = some (.dK kvs) ∧ H' W = some (.lst ((iterF es f i).2.map fun (p : Nat) => V.int (p : Int))) ∧ Wys K H W H' kvs (iterF es f i).1 ∧ i ≤ 40) muW ⟨s4, 0, _, none, none, rfl, sW _ _ e3, eW, w4, by omega⟩ ?_ ?_
  · rintro σ H5 ⟨s5, i, kvs, z6, z7, rfl, e5, q5, w5, hi⟩
    have lk := w5.length
    have wi := wi_iter es f i
    have le20 := wk_le hm hf wi.nd wi.pt
    refine ⟨_, rfl, W, _, rfl, .inl (SqL.of q5), _, _, rfl, rfl, _, rfl, ?_⟩
    by_cases hq : (iterF es f i).2 = []
    · -- it ends
      rw [hq] at q5
      refine ifF (by rw [hq]; rfl) ?_
      have e60 := iter_60 hq (by omega)
      refine ⟨_, rfl, D, rfl, .inl ⟨kvs, .inl e5⟩, _, rfl, _, DGet.k (k := Sum.inl (t : Int)) e5, ?_⟩
      by_cases c : t ∈ wkeys (iterF es f i).1
      · obtain ⟨l, ys, st, ev, eg, nl, _, hl, f'⟩ := w5.some_ c
        rw [ev]
        refine qS st ?_ l ys H5 s5 nl hl f'
        unfold wayF
        rw [e60]; exact eg
      · rw [(w5.none_ c).1]
        refine qN ?_ H5 s5
        unfold wayF
        rw [e60]; exact wget_none c
    · have mu0 := muW_eq (a := some (.ref a)) (b := some (.ref b)) (c := some (.int (f : Int))) (d := some (.int (t : Int))) (e := z6) (f := z7) e5 q5
      have hi39 : i + muF (iterF es f i) ≤ 39 := by
        rcases iter_ends hm hf h20 i with z | z
        · exact absurd z hq
        · exact z
      have stp : iterF es f (i + 1) = (stF es ((iterF es f i).2.getLastD 0)).foldl (inF ((iterF es f i).2.getLastD 0)) ((iterF es f i).1, (iterF es f i).2.dropLast) := by
        show stepF es (iterF es f i) = _
        unfold stepF
        rw [if_neg hq]
      have mstep := mu_step hm hf h20 wi hq
      have mstep : muF (iterF es f (i + 1)) + 1 ≤ muF (iterF es f i) := mstep
      have wj0 := wi_begin wi hq
      have pk := wj0.kp
      obtain ⟨ml1, ml2⟩ := map_last hq
      generalize hp : (iterF es f i).2.getLastD 0 = p at *
      have ll : 0 < ((iterF es f i).2.map fun (p : Nat) => V.int (p : Int)).length := by rw [List.length_map]; exact List.length_pos_iff.mpr hq
      refine ifT (by show decide (0 < ((((iterF es f i).2.map fun (p : Nat) => V.int (p : Int)).length : Nat) : Int)) = true; exact decide_eq_true (by omega)) ?_
      refine ⟨_, rfl, .inl ⟨rfl, _, SqL.of q5⟩, W, _, _, rfl, rfl, q5, ml1, ?_⟩
      rw [ml2]
      have s6 : Same H (upd H5 W (.lst ((iterF es f i).2.dropLast.map fun (p : Nat) => V.int (p : Int)))) := s5.change nW
      have e6 : upd H5 W (.lst ((iterF es f i).2.dropLast.map fun (p : Nat) => V.int (p : Int))) D = some (.dK kvs) := by rw [upd_ne nDW]; exact e5
      have q6 : upd H5 W (.lst ((iterF es f i).2.dropLast.map fun (p : Nat) => V.int (p : Int))) W = some (.lst ((iterF es f i).2.dropLast.map fun (p : Nat) => V.int (p : Int))) := upd_same
      have w6 := w5.updW (o := .lst ((iterF es f i).2.dropLast.map fun (p : Nat) => V.int (p : Int))) q5
      generalize upd H5 W (.lst ((iterF es f i).2.dropLast.map fun (p : Nat) => V.int (p : Int))) = H6 at s6 e6 q6 w6 ⊢
      refine ⟨_, rfl, _, rfl, _, rfl, a, b, xs, ds, es, p, rfl, s6.seq hA, Rb.same s6, s6.seq hB, hE, h100, fun l ys H7 s7 nl el S7 => ?_⟩
      have s07 := s6.trans s7
      have nlW : l ≠ W := Ne.symm (ne_of_none q6 nl)
      have nlD : l ≠ D := Ne.symm (ne_of_none e6 nl)
      have nlH : H l = none := s6.free nl
      have lys := S7.length
      refine ⟨l, rfl, ⟨_, SqL.of el⟩, ?_⟩
      refine for_list (xs := ys) (fun j σ H' => Same H H' ∧ H' l = some (.lst ys) ∧ Sds K H' ys (stF es p) ∧ ∃ (kvs : List (Key × V)) (z7 : Option V), σ = [some (.ref a), some (.ref b), some (.int (f : Int)), some (.int (t : Int)), some (.ref D), some (.ref W), some (.int (p : Int)), z7] ∧ H' D = some (.dK kvs) ∧ H' W = some (.lst ((((stF es p).take j).foldl (inF p) ((iterF es f i).1, (iterF es f i).2.dropLast)).2.map fun (p : Nat) => V.int (p : Int))) ∧ Wys K H W H' kvs (((stF es p).take j).foldl (inF p) ((iterF es f i).1, (iterF es f i).2.dropLast)).1) ⟨s07, el, S7, kvs, z7, rfl, s7 _ _ e6, s7 _ _ q6, w6.same s7⟩ (fun j σ H' _ h => SqL.of h.2.1) ?_ ?_
      · rintro j x σ H8 hx ⟨s8, el8, S8, kv8, z7', rfl, e8, q8, w8⟩
        obtain ⟨tt, u, s, rfl, es', hT, hU⟩ := S8.get hx
        have hj : j < (stF es p).length := (List.getElem?_eq_some_iff.mp es').1
        have gs : Goes es s.1 p s.2 := stF_goes (List.mem_of_getElem? es')
        have wj := wj_fold ((stF es p).take j) [] wj0 fun z hz => stF_goes (List.mem_of_mem_take hz)
        have fold1 : ((stF es p).take (j + 1)).foldl (inF p) ((iterF es f i).1, (iterF es f i).2.dropLast) = inF p (((stF es p).take j).foldl (inF p) ((iterF es f i).1, (iterF es f i).2.dropLast)) s := by
          rw [List.take_add_one, es', List.foldl_append]; rfl
        rw [fold1]
        have wj' := wj_in wj gs
        have le8 := wk_le hm hf wj.nd wj.pt
        have lS := muS_le hm hf h20 wj0 (j := j) (T := stF es p) (fun z hz => stF_goes hz)
        have mb := mu_begin hq
        generalize ((stF es p).take j).foldl (inF p) ((iterF es f i).1, (iterF es f i).2.dropLast) = S at q8 w8 wj wj' le8 lS ⊢
        have lS2 : S.2.length ≤ 100 := by omega
        have lk8 := w8.length
        obtain ⟨⟨sn, sw⟩, sx⟩ := s
        have hT : SqT K H8 tt [.ref u, .int (sx : Int)] := hT
        refine ⟨_, rfl, tt, _, 1, _, rfl, rfl, hT, rfl, _, rfl, D, _, rfl, DGet.k (k := Sum.inl (sx : Int)) e8, _, rfl, ?_⟩
        by_cases c : sx ∈ wkeys S.1
        · refine ifF (by rw [w8.isSome, decide_eq_true c]; rfl) ⟨s8, el8, S8, kv8, _, rfl, e8, ?_, ?_⟩
          · show H8 W = some (.lst ((inF p S ((sn, sw), sx)).2.map fun (p : Nat) => V.int (p : Int)))
            unfold inF
            rw [if_pos c]; exact q8
          · show Wys K H W H8 kv8 (inF p S ((sn, sw), sx)).1
            unfold inF
            rw [if_pos c]; exact w8
        · refine ifT (by rw [w8.isSome, decide_eq_false c]; rfl) ?_
          obtain ⟨ap, xp, sp, ev, eg, nap, nwp, hap, fp⟩ := w8.some_ wj.kp
          have lsp := fp.length
          have lsp2 : sp.length ≤ 20 := by
            obtain ⟨pts, pt1, pt2⟩ := wj.pt p sp (wget_some eg)
            exact pt_len hm hf h20 wj.nd wj.pt pt1 pt2
          refine ⟨_, rfl, _, rfl, D, .ref ap, rfl, (by have := DGet.k (k := Sum.inl (p : Int)) e8; rw [ev] at this; exact this), ?_⟩
          refine ⟨_, rfl, tt, _, 0, _, rfl, rfl, hT, rfl, by show 1 ≤ sizeLine; decide, fun L1 hL1 => ?_⟩
          have s9 := same_new hL1 (.lst [.ref u])
          have e9 : upd H8 L1 (.lst [.ref u]) L1 = some (.lst [.ref u]) := upd_same
          generalize upd H8 L1 (.lst [.ref u]) = H9 at s9 e9 ⊢
          refine ⟨ap, L1, _, _, rfl, rfl, s9 _ _ hap, e9, by rw [sizeLine_eq]; simp only [List.length_cons, List.length_nil]; omega, fun C hC => ?_⟩
          have nC8 : H8 C = none := s9.free hC
          have sA := same_new hC (.lst (xp ++ [.ref u]))
          have eA : upd H9 C (.lst (xp ++ [.ref u])) C = some (.lst (xp ++ [.ref u])) := upd_same
          generalize upd H9 C (.lst (xp ++ [.ref u])) = HA at sA eA ⊢
          have s8A := s9.trans sA
          have nCW : C ≠ W := Ne.symm (ne_of_none q8 nC8)
          have nCD : C ≠ D := Ne.symm (ne_of_none e8 nC8)
          have eDA := s8A _ _ e8
          refine ⟨_, rfl, _, rfl, tt, _, 1, _, rfl, rfl, s8A.seqT hT, rfl, D, _, rfl, DPut.k (k := Sum.inl (sx : Int)) eDA (by rw [sizeLine_eq]; omega), ?_⟩
          have put : putK kv8 (Sum.inl (sx : Int)) (.ref C) = kv8 ++ [(Sum.inl (sx : Int), .ref C)] := by unfold putK; rw [if_neg (by rw [(w8.none_ c).2]; simp)]
          rw [put]
          have eB : upd HA D (.dK (kv8 ++ [(Sum.inl (sx : Int), .ref C)])) D = some (.dK (kv8 ++ [(Sum.inl (sx : Int), .ref C)])) := upd_same
          have qB : upd HA D (.dK (kv8 ++ [(Sum.inl (sx : Int), .ref C)])) W = some (.lst (S.2.map fun (p : Nat) => V.int (p : Int))) := by rw [upd_ne (Ne.symm nDW)]; exact s8A _ _ q8
          have sB : Same H (upd HA D (.dK (kv8 ++ [(Sum.inl (sx : Int), .ref C)]))) := (s8.trans s8A).change hD
          have wB : Wys K H W (upd HA D (.dK (kv8 ++ [(Sum.inl (sx : Int), .ref C)]))) (kv8 ++ [(Sum.inl (sx : Int), .ref C)]) (S.1 ++ [(sx, sp ++ [(sn, sw)])]) :=
            Wys.snoc (s8.free nC8) nCW (by rw [upd_ne nCD]; exact eA) (((fp.same s8A).app (.cons (s8A.seqT hU) .nil)).updD eDA) ((w8.same s8A).updD eDA)
          have elB : upd HA D (.dK (kv8 ++ [(Sum.inl (sx : Int), .ref C)])) l = some (.lst ys) := by rw [upd_ne nlD]; exact s8A _ _ el8
          have SB := (S8.same s8A).updD (o := .dK (kv8 ++ [(Sum.inl (sx : Int), .ref C)])) eDA
          have hTB := SqT.updD (o := .dK (kv8 ++ [(Sum.inl (sx : Int), .ref C)])) (s8A.seqT hT) eDA
          generalize upd HA D (.dK (kv8 ++ [(Sum.inl (sx : Int), .ref C)])) = HB at eB qB sB wB elB SB hTB ⊢
          refine ⟨_, rfl, .inl ⟨rfl, _, SqL.of qB⟩, _, rfl, tt, _, 1, _, rfl, rfl, hTB, rfl, W, _, _, rfl, rfl, qB, small1000 (by rw [List.length_map]; omega), ?_⟩
          have inE : inF p S ((sn, sw), sx) = (S.1 ++ [(sx, sp ++ [(sn, sw)])], S.2 ++ [sx]) := by
            unfold inF
            rw [if_neg c, eg]; rfl
          rw [inE]
          refine ⟨sB.change nW, by rw [upd_ne nlW]; exact elB, SB.upd qB, _, _, rfl, by rw [upd_ne nDW]; exact eB, ?_, wB.updW qB⟩
          rw [upd_same, List.map_append]; rfl
      · rintro σ H8 ⟨s8, el8, S8, kv8, z7', rfl, e8, q8, w8⟩
        rw [lys, List.take_length, ← stp] at q8 w8
        have lk8 := w8.length
        refine ⟨⟨s8, i + 1, kv8, _, _, rfl, e8, q8, w8, by omega⟩, ?_⟩
        rw [mu0, muW_eq e8 q8, List.length_map, List.length_map, lk, lk8]
        unfold muF at mstep
        omega
  · rintro σ H Q Q' mono ⟨v, h1, p', ys, h2, h3, i, j, h4, h5, k, h6, h7⟩
    exact ⟨v, h1, p', ys, h2, h3, i, j, h4, h5, k, h6, mono _ _ h7⟩
end
end K32

set_option Elab.async false
set_option linter.all false
set_option maxRecDepth 100000
set_option maxHeartbeats 4000000
namespace K32
open PySem L2
section
variable {P : Program} {w : World} {K : PySem.W.Frag} {mg : Str → Option Value} {base : Heap} {f g1 g2 g3 g4 g5 g6 g7 g8 : Addr} {fd gd1 gd2 gd3 gd4 gd5 gd6 gd7 gd8 : FuncData} {CX : CXT}
variable {CR : Addr} {CK : Kd → Addr} {fW fJ fT fS : Kd → Addr} {fdW fdJ fdT fdS : Kd → FuncData}
theorem sk_at {ds : List RD} {i : Nat} {d : RD} (h : ds[i]? = some d) : (skl ds)[i]? = some (d.1, d.2.1.toNat, d.2.2.1.toNat) := by unfold skl; rw [List.getElem?_map, h]; rfl
theorem sk_len (ds : List RD) : (skl ds).length = ds.length := by unfold skl; rw [List.length_map]
theorem sk_lt {m : Nat} {ds : List RD} (pt : ∀ d ∈ ds, PtOk (m : Int) d.2.1 d.2.2.1) : ∀ d ∈ skl ds, d.2.1 < m ∧ d.2.2 < m := fun d hd => by
  obtain ⟨e, he, rfl⟩ := List.mem_map.mp hd
  obtain ⟨i0, i1, j0, j1⟩ := pt e he
  exact ⟨by show e.2.1.toNat < m; omega, by show e.2.2.1.toNat < m; omega⟩
theorem brok_of {W : Kd → Bool} {m n : Nat} {ds : List RD} {s : RS} (pt : ∀ d ∈ ds, PtOk (m : Int) d.2.1 d.2.2.1) (h : RI W (skl ds) m n s) : BrOk ds s.1 := fun e he => by
  obtain ⟨k, hk⟩ := h.at_ e he
  have hl : e.1 < ds.length := by have := (List.getElem?_eq_some_iff.mp hk).1; rwa [sk_len] at this
  have hd : ds[e.1]? = some ds[e.1] := List.getElem?_eq_getElem hl
  rw [sk_at hd] at hk
  obtain ⟨i0, i1, j0, j1⟩ := pt _ (List.mem_of_getElem? hd)
  refine ⟨_, hd, ?_, ?_⟩
  · have : ds[e.1].2.1.toNat = e.2.1 := by injection hk with z; injection z with _ z; injection z
    omega
  · have : ds[e.1].2.2.1.toNat = e.2.2 := by injection hk with z; injection z with _ z; injection z
    omega
theorem br_len {W : Kd → Bool} {sk : List Sk} : ∀ n, (ringF W sk n).1.length ≤ n
  | 0 => Nat.le_refl _
  | n + 1 => by
    have ih := br_len (W := W) (sk := sk) n
    cases h : sk[n]? with
    | none => show (match sk[n]? with | none => ringF W sk n | some d => ringS W (ringF W sk n) n d).1.length ≤ n + 1; rw [h]; show (ringF W sk n).1.length ≤ n + 1; omega
    | some d =>
      rw [ringF_succ h]
      generalize ringF W sk n = s at ih
      unfold ringS
      split
      · split
        · show (s.1 ++ [(n, d.2.1, d.2.2)]).length ≤ n + 1
          rw [List.length_append]; simp only [List.length_cons, List.length_nil]; omega
        · show s.1.length ≤ n + 1; omega
      · omega
/-- the words that are asked for -/
def WdA (K : PySem.W.Frag) (H : Hp) (v : V) (W : Kd → Bool) : Prop := ∃ (p : Addr) (ws : List V), v = .ref p ∧ (SqL K H p ws ∨ SqT K H p ws) ∧ ws.all flatV = true ∧ ∀ k : Kd, inV (.str k.wd) ws = W k
theorem WdA.same {K : PySem.W.Frag} {H H' : Hp} {v : V} {W : Kd → Bool} (e : Same H H') (h : WdA K H v W) : WdA K H' v W := by
  obtain ⟨p, ws, h1, h2, h3⟩ := h
  refine ⟨p, ws, h1, ?_, h3⟩
  rcases h2 with z | z
  · exact .inl (e.seq z)
  · exact .inr (e.seqT z)
theorem joinW (k : Kd) : inV (.str k.wd) [.str "piece", .str "hold"] = decide (k ≠ .pu) := by cases k <;> decide
abbrev sRings : Stmt := top 21
theorem scRings : FnScope ["net", "words", "wanted", "rows", "branches", "found", "number", "row", "back"] ["net", "words"] (defScope sRings) := ⟨rfl, rfl, rfl, by decide +kernel, rfl, by decide +kernel, by decide +kernel⟩
theorem ok_rings {dV : Value} (F : FunD K "rings" "rings" sRings dV f fd)
    {CN aJ : Addr} (NTx : NT K mg CN) (T : RT K mg CR CK) (men : mg "enumerate" = none) (fJ : ∀ H, SqT K H aJ [.str "piece", .str "hold"]) (mJO : mg "JOINING_WORDS" = some (.ref aJ))
    (GW : ∀ k, FnOk P w K mg base CX0 1 (fW k) (fdW k) ["self"] (spWord k)) (bW : ∀ k, Binds K (fdW k) ["self"] []) (mW : ∀ k, Meth K (CK k) "word" (fW k))
    {gRo : Addr} {gdRo : FuncData} (GRo : FnOk P w K mg base CX0 4 gRo gdRo ["self"] (spRows CN K CK)) (bRo : Binds K gdRo ["self"] []) (mRo : Meth K CN "rows" gRo)
    (G1 : FnOk P w K mg base CX0 2 g1 gd1 ["rows", "numbers", "begin", "end"] (spWay K CK)) (b1 : Binds K gd1 ["rows", "numbers", "begin", "end"] []) (k1 : PySem.W.keepIn K (.ref g1) = true) (m1 : mg "way_along" = some (.ref g1)) :
    FnOk P w K mg base CX 5 f fd ["net", "words"] (spRings CN K) := by
  refine F.ok scRings (fun vs H Q E h => ?_) (fun cdv A outer s H vs Q E hr h => ?_)
  · obtain ⟨n, l, v, m, ds, W, rfl, nt, pt, h20, h40, hW, q⟩ := h
    rfl
  obtain ⟨n, l, v, m, ds, W, rfl, nt, pt, h20, h40, hW, q⟩ := h
  have r1 := hr.mono (show 1 ≤ 4 by omega)
  have r2 := hr.mono (show 2 ≤ 4 by omega)
  refine ⟨_, (pss_cons (ps_set (i := 2) scRings.nd rfl (Or.inl rfl) (pe_ifExp (pt_cmp (pc_isN (pv 1))) (pe_glob (v := .ref aJ) rfl mJO rfl) (pv 1)))
    (pss_cons (ps_set (i := 3) scRings.nd rfl (Or.inl rfl) (pe_meth0 (pv 0) NTx.cl mRo GRo hr bRo .nil pass0))
    (pss_cons (ps_set (i := 4) scRings.nd rfl (Or.inl rfl) (pe_lst pa_nil))
    (pss_cons (ps_set (i := 5) scRings.nd rfl (Or.inl rfl) (pe_lst pa_nil))
    (pss_cons (ps_for PassesOwn.never rfl (pi_enum rfl men rfl (pa_cons (pv 3) pa_nil)) (pg_tup rfl (pgs_cons (pg_name (i := 6) scRings.nd rfl (Or.inl rfl)) (pgs_cons (pg_name (i := 7) scRings.nd rfl (Or.inl rfl)) pgs_nil)))
      (pss_one (ps_if (pt_cmpR op_in_seq (pe_methD0 (pv 7) T.cl mW GW r1 bW .nil pass0) (pv 2) rfl) (pss_cons (ps_set (i := 8) scRings.nd rfl (Or.inl rfl) (pe_call G1 r2 rfl m1 k1 b1 .nil pass0 (pa_cons (pv 3) (pa_cons (pv 4) (pa_cons (pe_fld (pv 7) rfl) (pa_cons (pe_fld (pv 7) rfl) pa_nil))))))
    (pss_one (ps_if (pt_cmp (pc_isN (pv 8))) (pss_one (ps_expr (pe_bm PySem.F.plainAttrs_list PySem.F.slot_list_append PySem.F.type_list_append mt_append (pv 4) (pa_cons (pv 6) pa_nil)))) (pss_one (ps_expr (pe_bm PySem.F.plainAttrs_list PySem.F.slot_list_append PySem.F.type_list_append mt_append (pv 5) (pa_cons (pe_op op_cat (pe_lst (pa_cons (pe_tup (pa_cons (pv 6) (pa_cons pe_int pa_nil))) pa_nil)) (pv 8)) pa_nil))))))) pss_nil)))
    (pss_one (ps_ret (pv 5)))))))), ?_⟩
  refine cut1 (fun σ' H' => H' = H ∧ ∃ wv, σ' = [some (.ref n), some v, some wv, none, none, none, none, none, none] ∧ WdA K H wv W) (fun X hX => ?_) ?_
  · cases hW with
    | non => exact ⟨_, rfl, _, rfl, ifT rfl (hX _ _ ⟨rfl, _, rfl, aJ, _, rfl, .inr (fJ H), rfl, joinW⟩)⟩
    | @seq a ws h f => exact ⟨_, rfl, _, rfl, ifF rfl ⟨_, rfl, hX _ _ ⟨rfl, _, rfl, a, _, rfl, .inl h, f, fun _ => rfl⟩⟩⟩
  rintro σ' H' ⟨hH', wv, rfl, hw⟩
  subst hH'
  obtain ⟨dx, hn⟩ := nt.ob
  refine ⟨_, rfl, n, dx, _, rfl, hn, nflds_no _ _ (by decide +kernel) (by decide +kernel), n, l, _, ds, rfl, nt, by omega, fun a xs H1 s1 na ea Rb => ?_⟩
  have lxs := Rb.length
  refine ⟨by show 0 ≤ sizeLine; decide, fun B hB => ?_⟩
  have nB : H' B = none := s1.free hB
  have sB := same_new hB (.lst [])
  have eB : upd H1 B (.lst []) B = some (.lst []) := upd_same
  generalize upd H1 B (.lst []) = H2 at sB eB ⊢
  refine ⟨by show 0 ≤ sizeLine; decide, fun F hF => ?_⟩
  have nF : H' F = none := (s1.trans sB).free hF
  have nBF : B ≠ F := ne_of_none eB hF
  have sF := same_new hF (.lst [])
  have eF : upd H2 F (.lst []) F = some (.lst []) := upd_same
  generalize upd H2 F (.lst []) = H3 at sF eF ⊢
  have s3 := s1.trans (sB.trans sF)
  have ea3 := (sB.trans sF) _ _ ea
  have naB : a ≠ B := ne_of_none ea hB
  have naF : a ≠ F := ne_of_none (sB _ _ ea) hF
  have sk := sk_len ds
  have slt := sk_lt pt
  have s13 := sB.trans sF
  refine ⟨_, rfl, a, rfl, ⟨_, SqL.of ea3⟩, ?_⟩
  have nB1 : H1 B = none := hB
  have nF1 : H1 F = none := sB.free hF
  refine for_enum (xs := xs) (fun i σ HH => Same H1 HH ∧ ∃ (us : List V) (z6 z7 z8 : Option V), σ = [some (.ref n), some v, some wv, some (.ref a), some (.ref B), some (.ref F), z6, z7, z8] ∧ HH B = some (.lst ((ringF W (skl ds) i).1.map fun (e : Br) => V.int ((e.1 : Nat) : Int))) ∧ HH F = some (.lst us) ∧ Rgs K H' HH us ((ringF W (skl ds) i).2.map (·.2)) ∧ ∀ x ∈ us, x ≠ .ref F ∧ x ≠ .ref B) ⟨s13, [], none, none, none, rfl, sF _ _ eB, eF, .nil, fun x hx => (by cases hx)⟩ (fun i σ HH _ h => h.1.seq (SqL.of ea)) ?_ ?_
  · rintro i x σ H4 T2 hx ⟨s4, us, z6, z7, z8, rfl, eB4, eF4, G4, nx4⟩ hT
    have hi : i < ds.length := by
      have := (List.getElem?_eq_some_iff.mp hx).1
      omega
    obtain ⟨⟨k0, u, v0, p0⟩, hd⟩ : ∃ d, ds[i]? = some d := ⟨_, List.getElem?_eq_getElem hi⟩
    obtain ⟨y, z, ey, rw0, fz0⟩ := Rb.at hd
    have ex : x = .ref y := by rw [ey] at hx; exact (Option.some.inj hx).symm
    subst ex
    obtain ⟨u0, u1, v1, v2⟩ : PtOk (m : Int) u v0 := pt _ (List.mem_of_getElem? hd)
    obtain ⟨uN, rfl⟩ : ∃ n : Nat, u = (n : Int) := ⟨u.toNat, by omega⟩
    obtain ⟨vN, rfl⟩ : ∃ n : Nat, v0 = (n : Int) := ⟨v0.toNat, by omega⟩
    have skd : (skl ds)[i]? = some (k0, uN, vN) := by
      have := sk_at hd
      rwa [show ((k0, (uN : Int), (vN : Int), p0) : RD).2.1.toNat = uN from Int.toNat_natCast uN, show ((k0, (uN : Int), (vN : Int), p0) : RD).2.2.1.toNat = vN from Int.toNat_natCast vN] at this
    have ri := ringF_ok (W := W) slt i (by omega)
    have bo := brok_of pt ri
    have bl' := br_len (W := W) (sk := skl ds) i
    have gl := G4.l
    rw [List.length_map] at gl
    have rl := ri.rl
    have succ := ringF_succ (W := W) skd
    generalize ringF W (skl ds) i = S at eB4 G4 ri bo bl' gl rl succ
    have sT := same_new hT (.tup [.int (i : Int), .ref y])
    refine ⟨T2, _, rfl, SqT.of upd_same, rfl, _, _, rfl, _, _, rfl, rfl, ?_⟩
    have nT1 : H1 T2 = none := s4.free hT
    generalize upd H4 T2 (.tup [.int (i : Int), .ref y]) = H5 at sT ⊢
    have s5 := s4.trans sT
    have eB5 := sT _ _ eB4
    have eF5 := sT _ _ eF4
    have G5 := G4.same sT
    obtain ⟨dr, hy⟩ := id (rw0.same s5)
    obtain ⟨pw, ws, ew, hws, fl, hinv⟩ := hw.same (s1.trans s5)
    refine ⟨_, rfl, k0, y, dr, _, rfl, hy, (rflds_no _ _ _ (by decide +kernel) (by decide +kernel) (by decide +kernel)), _, rfl, _, rfl, pw, ws, ew, hws, rfl, fl, _, rfl, ?_⟩
    have hin : inV (.str k0.wd) ws = W k0 := hinv k0
    by_cases hk : W k0 = true
    · refine ifT (by show (if false = true then _ else inV (V.str k0.wd) ws) = true; rw [if_neg (by decide), hin]; exact hk) ?_
      refine ⟨_, rfl, _, rfl, _, rfl, y, CK _, _, _, _, rfl, hy, T.cl _, T.nG _, rflds_goal _ _ _, _, rfl, y, CK _, _, _, _, rfl, hy, T.cl _, T.nS _, rflds_start _ _ _, a, B, xs, ds, S.1, m, vN, uN, rfl, s5.seq (SqL.of ea), Rb.same s5, SqL.of eB5, bo, by omega, ri.pt, h20, by omega, fun hnone H6 s6 => ?_, fun st hst l' ys H6 s6 nl el S6 => ?_⟩
      · refine ⟨_, rfl, _, rfl, ifT rfl ?_⟩
        have eB6 := s6 _ _ eB5
        have s06 := s5.trans s6
        refine ⟨_, rfl, .inl ⟨rfl, _, SqL.of eB6⟩, _, rfl, B, _, _, rfl, rfl, eB6, small1000 (by rw [List.length_map]; omega), ?_⟩
        have eS : ringS W S i (k0, uN, vN) = (S.1 ++ [(i, uN, vN)], S.2) := by
          unfold ringS
          rw [if_pos hk, hnone]
        rw [succ, eS]
        refine ⟨s06.change nB1, us, _, _, _, rfl, ?_, by rw [upd_ne (Ne.symm nBF)]; exact s6 _ _ eF5, (G5.same s6).updO eB6 (fun x hx => (nx4 x hx).2), nx4⟩
        rw [upd_same, List.map_append]; rfl
      · refine ⟨_, rfl, _, rfl, ifF rfl ?_⟩
        have eF6 := s6 _ _ eF5
        have s06 := s5.trans s6
        refine ⟨_, rfl, .inl ⟨rfl, _, SqL.of eF6⟩, _, rfl, by show 2 ≤ sizeLine; decide, fun t ht => ?_⟩
        have st7 := same_new ht (.tup [.int (i : Int), .int 1])
        have et : SqT K (upd H6 t (.tup [.int (i : Int), .int 1])) t [.int (i : Int), .int 1] := SqT.of upd_same
        generalize upd H6 t (.tup [.int (i : Int), .int 1]) = H7 at st7 et ⊢
        refine ⟨by show 1 ≤ sizeLine; decide, fun L1 hL1 => ?_⟩
        have s8 := same_new hL1 (.lst [.ref t])
        have e8 : upd H7 L1 (.lst [.ref t]) L1 = some (.lst [.ref t]) := upd_same
        generalize upd H7 L1 (.lst [.ref t]) = H8 at s8 e8 ⊢
        have lst' := chain_len ri.pt (show vN < m by omega) hst
        have lys := S6.length
        refine ⟨_, rfl, L1, l', _, _, rfl, rfl, e8, (st7.trans s8) _ _ el, by rw [sizeLine_eq]; simp only [List.length_cons, List.length_nil]; omega, fun C hC => ?_⟩
        have nC8 : H8 C = none := hC
        have s9 := same_new hC (.lst ([.ref t] ++ ys))
        have e9 : upd H8 C (.lst ([.ref t] ++ ys)) C = some (.lst ([.ref t] ++ ys)) := upd_same
        generalize upd H8 C (.lst ([.ref t] ++ ys)) = H9 at s9 e9 ⊢
        have s69 := st7.trans (s8.trans s9)
        have eF9 := s69 _ _ eF6
        have s09 := s06.trans s69
        have nCF : C ≠ F := Ne.symm (ne_of_none ((st7.trans s8) _ _ eF6) nC8)
        have nCB : C ≠ B := Ne.symm (ne_of_none ((st7.trans s8) _ _ (s6 _ _ eB5)) nC8)
        refine ⟨F, _, _, rfl, rfl, eF9, small1000 (by omega), ?_⟩
        have eS : ringS W S i (k0, uN, vN) = (S.1, S.2 ++ [(i, (i, 1) :: st)]) := by
          unfold ringS
          rw [if_pos hk, hst]
        rw [succ, eS]
        have SC : Sts K H9 ([.ref t] ++ ys) ((i, 1) :: st) := .cons ((s8.trans s9).seqT et) (S6.same s69)
        refine ⟨s09.change nF1, us ++ [.ref C], _, _, _, rfl, by rw [upd_ne nBF]; exact s69 _ _ (s6 _ _ eB5), upd_same, ?_, fun x hx => ?_⟩
        · rw [List.map_append]
          have G9 := ((G5.same s6).same s69).snoc (((s1.trans s06).trans (st7.trans s8)).free nC8) e9 SC
          refine G9.updO eF9 fun x hx => ?_
          rcases List.mem_append.mp hx with z | z
          · exact (nx4 x z).1
          · have : x = .ref C := by simpa using z
            rw [this]; exact fun z => nCF (by injection z)
        · rcases List.mem_append.mp hx with z | z
          · exact nx4 x z
          · have : x = .ref C := by simpa using z
            rw [this]; exact ⟨fun z => nCF (by injection z), fun z => nCB (by injection z)⟩
    · refine ifF (by show (if false = true then _ else inV (V.str k0.wd) ws) = false; rw [if_neg (by decide), hin]; simpa using hk) ?_
      have eS : ringS W S i (k0, uN, vN) = S := by
        unfold ringS
        rw [if_neg hk]
      rw [succ, eS]
      exact ⟨s5, us, _, _, _, rfl, eB5, eF5, G5, nx4⟩
  rintro σ H4 ⟨s4, us, z6, z7, z8, rfl, eB4, eF4, G4, nx4⟩
  rw [lxs] at G4
  exact ⟨_, rfl, q F us H4 (s1.trans s4) nF eF4 G4 fun x hx => (nx4 x hx).1⟩
end
end K32

set_option Elab.async false
set_option linter.all false
namespace L2
open PySem PySem.Spec PyProof.Rows
section
variable {X : Cx}
/-- a number is no truth -/
theorem op_isnotI : OpR X (compareOp .IsNot) (fun x y H Q => ∃ i b, x = .int i ∧ y = .bl b ∧ Q (.bl true) H) := by
  intro pins s σ H x y v u Q I rx ry h
  obtain ⟨i, b, rfl, rfl, q⟩ := h
  obtain ⟨t, rfl⟩ := rx
  cases ry
  unfold compareOp
  exact wpAny_pure ⟨.bl true, H, I, rfl, q⟩
end
end L2

set_option Elab.async false
set_option linter.all false
set_option maxRecDepth 100000
set_option maxHeartbeats 4000000
namespace K32
open PySem L2
section
variable {P : Program} {w : World} {K : PySem.W.Frag} {mg : Str → Option Value} {base : Heap} {f g1 g2 g3 g4 g5 g6 g7 g8 : Addr} {fd gd1 gd2 gd3 gd4 gd5 gd6 gd7 gd8 : FuncData} {CX : CXT}
variable {CR : Addr} {CK : Kd → Addr} {fW fJ fT fS : Kd → Addr} {fdW fdJ fdT fdS : Kd → FuncData}
def term1 (ds : List RD) (s : Stp) : Mq.Q2 := Mq.times (Mq.red s.2 1) (ds.getD s.1 (.pc, 0, 0, (0, 1))).2.2.2
def spRSum (CN : Addr) (K : PySem.W.Frag) : Sp := fun vs H Q _ => ∃ (n l b : Addr) (m : Int) (ds : List RD) (xs : List V) (st : List Stp), vs = [.ref n, .ref b] ∧ NetAt CN K H n l m ds ∧ ds.length ≤ 100 ∧ (∀ d ∈ ds, Mq.Low d.2.2.2 ∧ Mq.Bd 30 d.2.2.2) ∧ SqL K H b xs ∧ Sts K H xs st ∧ st.length ≤ 21 ∧ (∀ s ∈ st, s.1 < ds.length ∧ (s.2 = 1 ∨ s.2 = -1)) ∧ ∀ a H', Same H H' → Fq K H' a (Mq.tot (st.map (term1 ds))) → Q (.ref a) H'
theorem w_low {w : Int} (h : w = 1 ∨ w = -1) : Mq.red w 1 = (w, 1) ∧ Mq.Low (w, 1) ∧ Mq.Bd 1 (w, 1) := by
  rcases h with rfl | rfl
  · exact ⟨by decide +kernel, ⟨by decide, by decide⟩, ⟨show (1 : Nat) < 2 ^ 1 by decide, show (1 : Nat) < 2 ^ 1 by decide⟩⟩
  · exact ⟨by decide +kernel, ⟨by decide, by decide⟩, ⟨show (1 : Nat) < 2 ^ 1 by decide, show (1 : Nat) < 2 ^ 1 by decide⟩⟩
theorem term_ok {ds : List RD} {s : Stp} (hK : ∀ d ∈ ds, Mq.Low d.2.2.2 ∧ Mq.Bd 30 d.2.2.2) (h : s.1 < ds.length ∧ (s.2 = 1 ∨ s.2 = -1)) : Mq.Low (term1 ds s) ∧ Mq.Bd 40 (term1 ds s) := by
  obtain ⟨e, l, b⟩ := w_low h.2
  have hd : ds[s.1]? = some ds[s.1] := List.getElem?_eq_getElem h.1
  have eg : ds.getD s.1 (.pc, 0, 0, (0, 1)) = ds[s.1] := by rw [List.getD_eq_getElem?_getD, hd]; rfl
  obtain ⟨l2, b2⟩ := hK _ (List.mem_of_getElem? hd)
  unfold term1
  rw [e, eg]
  exact ⟨Mq.times_low l.pos l2.pos, (Mq.times_bd b b2 l.pos l2.pos).mono (by omega)⟩
theorem terms_wt {ds : List RD} (hK : ∀ d ∈ ds, Mq.Low d.2.2.2 ∧ Mq.Bd 30 d.2.2.2) : ∀ {st : List Stp}, (∀ s ∈ st, s.1 < ds.length ∧ (s.2 = 1 ∨ s.2 = -1)) → Mq.Wt (st.map (term1 ds)) (41 * st.length)
  | [], _ => .nil
  | s :: st, h => by
    have ih := terms_wt hK (st := st) fun x hx => h x (List.mem_cons_of_mem _ hx)
    have := Mq.Wt.cons (term_ok hK (h s (by simp))).2 ih
    rw [List.length_cons, show 41 * (st.length + 1) = 40 + 1 + 41 * st.length by omega]
    exact this
theorem terms_pos {ds : List RD} {st : List Stp} (hK : ∀ d ∈ ds, Mq.Low d.2.2.2 ∧ Mq.Bd 30 d.2.2.2) (h : ∀ s ∈ st, s.1 < ds.length ∧ (s.2 = 1 ∨ s.2 = -1)) : Mq.Pos (st.map (term1 ds)) := fun p hp => by
  obtain ⟨s, hs, rfl⟩ := List.mem_map.mp hp
  exact (term_ok hK (h s hs)).1.pos
theorem nd_number_way_rows : (["number", "way", "rows"] : List Str).Nodup := by decide +kernel
abbrev sRSum : Stmt := top 24
theorem scRSum : FnScope ["net", "ring", "rows"] ["net", "ring"] (defScope sRSum) := ⟨rfl, rfl, rfl, by decide +kernel, rfl, by decide +kernel, by decide +kernel⟩
theorem ok_rsum {dV : Value} (F : FunD K "ring_sum" "ring_sum" sRSum dV f fd)
    {CN : Addr} {ds3 : List Value} (NTx : NT K mg CN) (T : RT K mg CR CK)
    {gRo : Addr} {gdRo : FuncData} (GRo : FnOk P w K mg base CX0 4 gRo gdRo ["self"] (spRows CN K CK)) (bRo : Binds K gdRo ["self"] []) (mRo : Meth K CN "rows" gRo)
    (G1 : FnOk P w K mg base CX0 4 g1 gd1 ["some"] (spTotW K)) (b1 : Binds K gd1 ["some"] []) (k1 : PySem.W.keepIn K (.ref g1) = true) (m1 : mg "total" = some (.ref g1))
    (G2 : FnOk P w K mg base CX0 3 g2 gd2 ["one", "other"] (spTwo K Mq.times)) (b2 : Binds K gd2 ["one", "other"] []) (k2 : PySem.W.keepIn K (.ref g2) = true) (m2 : mg "times" = some (.ref g2))
    (G3 : FnOk P w K mg base CX0 2 g3 gd3 ["top", "bottom"] spFrac) (bd3 : Binds K gd3 ["top", "bottom"] ds3) (d3 : Vals [.int 1] ds3) (k3 : PySem.W.keepIn K (.ref g3) = true) (m3 : mg "fraction" = some (.ref g3)) :
    FnOk P w K mg base CX 5 f fd ["net", "ring"] (spRSum CN K) := by
  refine F.ok scRSum (fun vs H Q E h => ?_) (fun cdv A outer s H vs Q E hr h => ?_)
  · obtain ⟨n, l, b, m, ds, xs, st, rfl, nt, h100, hK, hB, hS, h21, hst, q⟩ := h
    rfl
  obtain ⟨n, l, b, m, ds, xs, st, rfl, nt, h100, hK, hB, hS, h21, hst, q⟩ := h
  have r2 := hr.mono (show 2 ≤ 4 by omega)
  have r3 := hr.mono (show 3 ≤ 4 by omega)
  refine ⟨_, (pss_cons (ps_set (i := 2) scRSum.nd rfl (Or.inr rfl) (pe_meth0 (pv 0) NTx.cl mRo GRo hr bRo .nil pass0))
    (pss_one (ps_ret (pe_call G1 hr rfl m1 k1 b1 .nil pass0 (pa_cons (pe_comp (nl := 2) (fr := [2]) (Nc := ["number", "way", "rows"]) (cl := [("rows", s.heap.objs.size + 1)]) (g := (gTup K 2 (gCons (gName 0) (gCons (gName 1) gNil)))) rfl ⟨rfl, rfl, by decide +kernel, by decide +kernel, fun x c h => h, has_of rfl, rfl, fun i n h => match i, h with | 0, h => by cases h; exact ⟨2, rfl, rfl, rfl, rfl, .inl rfl⟩ | k + 1, h => by rw [show 2 + (k + 1) = k + 3 by omega] at h; cases h⟩
        (pi_list (pv 1)) (fun C s3 H3 fp pins => (pg_tup rfl (pgs_cons (pg_name (i := 0) nd_number_way_rows rfl (Or.inl rfl)) (pgs_cons (pg_name (i := 1) nd_number_way_rows rfl (Or.inl rfl)) pgs_nil)))) (fun C s3 H3 fp pins => pif_nil)
        (fun C s3 H3 fp pins => (pe_call G2 r3 rfl m2 k2 b2 .nil pass0 (pa_cons (pe_call G3 r2 rfl m3 k3 bd3 d3 pass0 (pa_cons (pv 1) pa_nil)) (pa_cons (pe_fldK (K := K) rfl (pe_ix (ix_listK (K := K) rfl) (pv 2) (pv 0) (fun _ _ => rfl)) rfl) pa_nil))))) pa_nil))))), ?_⟩
  obtain ⟨dx, hn⟩ := nt.ob
  refine ⟨_, rfl, n, dx, _, rfl, hn, nflds_no _ _ (by decide +kernel) (by decide +kernel), n, l, _, ds, rfl, nt, h100, fun a ys H1 s1 na ea Rb => ?_⟩
  have lx := hS.length
  refine ⟨_, rfl, b, rfl, ⟨_, s1.seq hB⟩, fun D hD => ?_⟩
  have sD := same_new hD (.lst [])
  refine comp_list (xs := xs) (fun i zs H' => Same H1 H' ∧ H' D = some (.lst zs) ∧ Fqs K H' zs ((st.take i).map (term1 ds))) ⟨sD, upd_same, .nil⟩ (fun i zs H' h => h.2.1) (fun i zs H' _ h => (s1.trans h.1).seq hB) ?_ ?_
  · rintro i zs x H2 hx ⟨s2, e2, F2⟩ C hC
    obtain ⟨tt, s, rfl, es, hT⟩ := (hS.same (s1.trans s2)).get hx
    have hi : i < st.length := (List.getElem?_eq_some_iff.mp es).1
    obtain ⟨hlt, hw⟩ := hst s (List.mem_of_getElem? es)
    have hd : ds[s.1]? = some ds[s.1] := List.getElem?_eq_getElem hlt
    obtain ⟨y, z, ey, rw0, fz⟩ := Rb.at hd
    obtain ⟨dr, hy⟩ := id (rw0.same s2)
    have at_ : atI ys (s.1 : Int) = some (.ref y) := atI_nat ey
    obtain ⟨er, lw, bw⟩ := w_low hw
    obtain ⟨lp, bp⟩ := hK _ (List.mem_of_getElem? hd)
    have lz := F2.length
    rw [List.length_map, List.length_take] at lz
    refine ⟨tt, _, rfl, hT, rfl, _, _, rfl, _, _, rfl, rfl, keep2.1, keep2.2, iteT ?_⟩
    refine ⟨_, rfl, s.2, 1, 1, rfl, by decide, by show (1 : Nat) < 2 ^ 1; decide, by omega, fun u H3 s3 e3 => ?_⟩
    rw [er] at e3
    refine ⟨_, rfl, _, rfl, a, ys, _, _, rfl, rfl, SqL.of ((s2.trans s3) _ _ ea), at_, ?_⟩
    obtain ⟨dr3, hy3⟩ := id (rw0.same (s2.trans s3))
    refine ⟨y, CK _, _, _, _, rfl, hy3, T.cl _, T.nZ _, rflds_size _ _ _, u, z, (s.2, 1), _, 1, 30, rfl, Fq.of e3, (s2.trans s3).fq fz, lw.pos, lp.pos, bw, bp, by omega, fun v H4 s4 e4 => ?_⟩
    have s24 := s3.trans s4
    have e24 := s24 _ _ e2
    refine ⟨e24, small1000 (by omega), hC _ _ ⟨(s2.trans s24).change hD, upd_same, ?_⟩⟩
    have ee : (st.take (i + 1)).map (term1 ds) = (st.take i).map (term1 ds) ++ [Mq.times (s.2, 1) ds[s.1].2.2.2] := by
      rw [List.take_add_one, es, List.map_append]
      show _ ++ [term1 ds s] = _
      unfold term1
      rw [er, List.getD_eq_getElem?_getD, hd]; rfl
    rw [ee]
    exact ((F2.same s24).app (.cons (Fq.of e4) .nil)).upd e24
  rintro zs H2 ⟨s2, e2, F2⟩
  rw [lx, List.take_length] at F2
  refine ⟨D, zs, _, 41 * st.length, rfl, SqL.of e2, F2, terms_pos hK hst, terms_wt hK hst, by omega, fun r H3 s3 f3 => q r H3 (s1.trans (s2.trans s3)) f3⟩
def spLowP : Sp := fun vs H Q _ => ∃ (t b : Int) (n : Nat), vs = [.int t, .int b] ∧ 0 < b ∧ Mq.B n b ∧ n ≤ 9000 ∧ NewF H Q (Mq.red t b)
theorem dvr_pos {t b : Int} (h : 0 < b) : Mq.dvr t b = Mq.gc t b := by unfold Mq.dvr; rw [if_neg (by omega)]
def spNth (K : PySem.W.Frag) : Sp := fun vs H Q _ => ∃ (a : Addr) (ns : List Int) (j : Int) (k : Nat), vs = [.ref a, .int j] ∧ j = (k : Int) ∧ SqL K H a (ns.map V.int) ∧ ns.length ≤ 63 ∧ k ≤ 63 ∧ ∀ i H', Same H H' → Q (.int i) H'
abbrev sNth : Stmt := top 41
theorem scNth : FnScope ["_law_script", "_law_k", "_law_cell"] ["_law_script", "_law_k"] (defScope sNth) := ⟨rfl, rfl, rfl, by decide +kernel, rfl, by decide +kernel, by decide +kernel⟩
theorem ok_nth {dV : Value} (F : FunD K "_law_nth" "_law_nth" sNth dV f fd) :
    FnOk P w K mg base CX 1 f fd ["_law_script", "_law_k"] (spNth K) := by
  refine F.ok scNth (fun vs H Q E h => ?_) (fun cdv A outer s H vs Q E hr h => ?_)
  · obtain ⟨a, ns, j, k, rfl, hj, hS, h63, hk, q⟩ := h
    rfl
  obtain ⟨a, ns, j, k, rfl, hj, hS, h63, hk, q⟩ := h
  refine ⟨_, (pss_cons (ps_for PassesOwn.never rfl (pi_list (pe_slice sl_list (pv 0) (po_some (pv 1)) (po_some (pe_op op_add (pv 1) pe_int)))) (pg_name (i := 2) scNth.nd rfl (Or.inl rfl))
      (pss_one (ps_ret (pv 2))))
    (pss_one (ps_ret (pe_op op_mod (pe_op op_mulB (pe_op op_mul pe_int (pv 1)) (pv 1)) pe_int)))), ?_⟩
  refine ⟨_, rfl, _, rfl, j, rfl, _, rfl, _, _, rfl, rfl, j + 1, rfl, a, _, rfl, hS, fun l hl => ?_⟩
  have s1 := same_new hl (.lst (cutV (ns.map V.int) (some j) (some (j + 1))))
  have e1 : upd H l (.lst (cutV (ns.map V.int) (some j) (some (j + 1)))) l = some (.lst (cutV (ns.map V.int) (some j) (some (j + 1)))) := upd_same
  obtain ⟨ms, em, lm⟩ := cut_ints ns (some j) (some (j + 1))
  rw [em] at e1 s1 ⊢
  generalize upd H l (.lst (ms.map V.int)) = H1 at e1 s1 ⊢
  refine ⟨l, rfl, ⟨_, SqL.of e1⟩, ?_⟩
  refine for_list (xs := ms.map V.int) (fun i σ H' => H' = H1 ∧ ∃ z, σ = [some (.ref a), some (.int j), z]) ⟨rfl, none, rfl⟩ (fun i σ H' _ h => by rw [h.1]; exact SqL.of e1) ?_ ?_
  · rintro i x σ H' hx ⟨rfl, z, rfl⟩
    obtain ⟨c, rfl⟩ : ∃ c, x = .int c := by
      rw [List.getElem?_map] at hx
      cases hm : ms[i]? with
      | none => rw [hm] at hx; cases hx
      | some c => rw [hm] at hx; cases hx; exact ⟨c, rfl⟩
    exact ⟨_, rfl, q c _ s1⟩
  · rintro σ H' ⟨rfl, z, rfl⟩
    refine ⟨_, rfl, _, _, rfl, rfl, Or.inl ⟨by decide, by decide⟩, _, rfl, rd_mulB (n := 40) (m := 40) (B_of (by omega) (by omega)) (B_of (by omega) (by omega)) (by omega) (by omega) ⟨_, _, rfl, rfl, (show (0 : Int) < 1009 by decide), q _ _ s1⟩⟩
abbrev sDiv : Stmt := top 42
theorem scDiv : FnScope ["_law_one", "_law_other"] ["_law_one", "_law_other"] (defScope sDiv) := ⟨rfl, rfl, rfl, by decide +kernel, rfl, by decide +kernel, by decide +kernel⟩
theorem ok_div {dV : Value} (F : FunD K "_law_divisor" "_law_divisor" sDiv dV f fd)
    (b : Bl mg) :
    FnOk P w K mg base CX 1 f fd ["_law_one", "_law_other"] spGc := by
  refine F.ok scDiv (fun vs H Q E h => ?_) (fun cdv A outer s H vs Q E hr h => ?_)
  · obtain ⟨x, y, rfl, q⟩ := h
    rfl
  obtain ⟨x, y, rfl, q⟩ := h
  refine ⟨_, (pss_cons (ps_while PassesOwn.never (pt_cmpR op_ne (pv 1) pe_int (nomark _)) (pss_one (ps_par (i := 0) (j := 1) rfl scDiv.nd rfl rfl (by decide) rfl rfl (pa_cons (pv 1) (pa_cons (pe_op op_modN (pv 0) (pv 1)) pa_nil)) rfl)))
    (pss_one (ps_ret (pe_callB call_abs rfl b.abs PyProof.Rows.boot_abs (pa_cons (pv 0) pa_nil))))), ?_⟩
  refine while_by (fun σ H' => H' = H ∧ ∃ u v, σ = [some (.int u), some (.int v)] ∧ Mq.gc u v = Mq.gc x y) (fun σ _ => match σ with | [_, some (.int v)] => v.natAbs | _ => 0) ⟨rfl, x, y, rfl, rfl⟩ ?_ ?_
  · rintro σ H' ⟨rfl, u, v, rfl, e⟩
    refine ⟨_, rfl, rfl, _, rfl, ?_⟩
    refine ite2 (fun c => ?_) (fun c => ?_)
    · have hv : v ≠ 0 := by intro q; subst q; simp at c
      refine ⟨_, rfl, _, rfl, _, rfl, _, _, rfl, rfl, hv, _, _, rfl, ⟨rfl, v, Int.fmod u v, rfl, (Mq.gc_step u v).trans e⟩, Mq.fmod_less hv⟩
    · have hv : v = 0 := by
        simp at c
        exact c
      subst hv
      refine ⟨_, rfl, _, rfl, ?_⟩
      rw [← Mq.gc_zero, e]
      exact q
  · rintro σ H Q Q' m ⟨v, h1, h2, k, h3, h4⟩
    exact ⟨v, h1, h2, k, h3, m _ _ h4⟩
abbrev sLowest : Stmt := top 43
theorem scLowest : FnScope ["_law_top", "_law_bottom", "_law_part"] ["_law_top", "_law_bottom"] (defScope sLowest) := ⟨rfl, rfl, rfl, by decide +kernel, rfl, by decide +kernel, by decide +kernel⟩
theorem ok_lowest {dV : Value} (F : FunD K "_law_lowest" "_law_lowest" sLowest dV f fd)
    (G1 : FnOk P w K mg base CX0 1 g1 gd1 ["_law_one", "_law_other"] spGc) (b1 : Binds K gd1 ["_law_one", "_law_other"] []) (k1 : PySem.W.keepIn K (.ref g1) = true) (m1 : mg "_law_divisor" = some (.ref g1)) :
    FnOk P w K mg base CX 2 f fd ["_law_top", "_law_bottom"] spLowP := by
  refine F.ok scLowest (fun vs H Q E h => ?_) (fun cdv A outer s H vs Q E hr h => ?_)
  · obtain ⟨t, b', n, rfl, hb, hB, hn, q⟩ := h
    rfl
  obtain ⟨t, b', n, rfl, hb, hB, hn, q⟩ := h
  refine ⟨_, (pss_cons (ps_set (i := 2) scLowest.nd rfl (Or.inl rfl) (pe_call G1 hr rfl m1 k1 b1 .nil pass0 (pa_cons (pv 0) (pa_cons (pv 1) pa_nil))))
    (pss_one (ps_ret (pe_tup (pa_cons (pe_op op_fdivB (pv 0) (pv 2)) (pa_cons (pe_op op_fdivB (pv 1) (pv 2)) pa_nil)))))), ?_⟩
  have hd := Mq.dvr_ne (t := t) (show b' ≠ 0 by omega)
  have hdB : Mq.B n (Mq.dvr t b') := hB.le (Mq.dvr_le (by omega))
  have e := dvr_pos (t := t) hb
  rw [e] at hd hdB
  have q' : NewF H Q (t.fdiv (Mq.gc t b'), b'.fdiv (Mq.gc t b')) := by
    have z := q
    unfold Mq.red at z
    rw [e] at z
    exact z
  refine ⟨_, rfl, _, rfl, t, b', rfl, ?_⟩
  refine ⟨_, rfl, _, rfl, rd_fdivB hd hdB hn ⟨_, rfl, _, rfl, rd_fdivB hd hdB hn ⟨by show 2 ≤ sizeLine; decide, fun p hp => ?_⟩⟩⟩
  exact q' p _ (same_new hp _) upd_same
def spIs (K : PySem.W.Frag) : Sp := fun vs H Q _ => ∃ (a : Addr) (p : Mq.Q2), vs = [.ref a] ∧ Fq K H a p ∧ Mq.Low p ∧ Q (.bl true) H
abbrev sIs : Stmt := top 44
theorem scIs : FnScope ["_law_found", "_law_number"] ["_law_found"] (defScope sIs) := ⟨rfl, rfl, rfl, by decide +kernel, rfl, by decide +kernel, by decide +kernel⟩
theorem ok_is {dV : Value} (F : FunD K "_law_is" "_law_is" sIs dV f fd)
    (b : Bl mg) (ml : mg "len" = none) (mt : mg "tuple" = none)
    (G1 : FnOk P w K mg base CX0 1 g1 gd1 ["_law_one", "_law_other"] spGc) (b1 : Binds K gd1 ["_law_one", "_law_other"] []) (k1 : PySem.W.keepIn K (.ref g1) = true) (m1 : mg "_law_divisor" = some (.ref g1)) :
    FnOk P w K mg base CX 2 f fd ["_law_found"] (spIs K) := by
  refine F.ok scIs (fun vs H Q E h => ?_) (fun cdv A outer s H vs Q E hr h => ?_)
  · obtain ⟨a, p, rfl, fa, hp, q⟩ := h
    rfl
  obtain ⟨a, p, rfl, fa, hp, q⟩ := h
  refine ⟨_, (pss_cons (ps_if (PW.pt (pw_or (pt_not (pt_val (pe_isiQ (i := 0) rfl (Or.inl rfl) b.isi mt rfl rfl PyProof.Rows.boot_tuple))) (pw_or1 (pt_cmpR op_ne (pe_callB call_len_seq rfl ml PySem.boot_len (pa_cons (pv 0) pa_nil)) pe_int (nomark _))))) (pss_one (ps_ret pe_bl)) pss_nil)
    (pss_cons (ps_for PassesOwn.never rfl (pi_tup (pv 0)) (pg_name (i := 1) scIs.nd rfl (Or.inl rfl))
      (pss_one (ps_if (PW.pt (pw_or (pt_not (pt_val (pe_isiQ (i := 1) rfl (Or.inl rfl) b.isi b.int rfl rfl PyProof.Rows.boot_int))) (pw_or1 (pt_val (pe_isiQ (i := 1) rfl (Or.inl rfl) b.isi b.bool rfl rfl PyProof.Rows.boot_bool))))) (pss_one (ps_ret pe_bl)) pss_nil)))
    (pss_one (ps_ret (pe_and (pe_cmpR op_gt (pe_ix ix_tup (pv 0) pe_int (fun _ _ => rfl)) pe_int (nomark _)) (pe_one (pe_cmpR op_eq (pe_call G1 hr rfl m1 k1 b1 .nil pass0 (pa_cons (pe_ix ix_tup (pv 0) pe_int (fun _ _ => rfl)) (pa_cons (pe_ix ix_tup (pv 0) pe_int (fun _ _ => rfl)) pa_nil))) pe_int (nomark _)))))))), ?_⟩
  refine ⟨_, _, true, rfl, .tup fa, rfl, _, rfl, iteF ⟨_, rfl, a, _, rfl, .inr fa, rfl, _, rfl, iteF ?_⟩⟩
  refine ⟨_, rfl, a, rfl, ⟨_, fa⟩, ?_⟩
  refine for_tup (xs := [.int p.1, .int p.2]) (fun i σ H' => H' = H ∧ ∃ z, σ = [some (.ref a), z]) ⟨rfl, none, rfl⟩ (fun i σ H' _ h => by rw [h.1]; exact fa) ?_ ?_
  · rintro i x σ H' hx ⟨rfl, z, rfl⟩
    have hint : ∃ j, x = .int j := by
      match i, hx with
      | 0, h => exact ⟨p.1, by simpa using h.symm⟩
      | 1, h => exact ⟨p.2, by simpa using h.symm⟩
      | n + 2, h => simp at h
    obtain ⟨j, rfl⟩ := hint
    exact ⟨_, _, true, rfl, .of (.int j), rfl, _, rfl, iteF ⟨_, _, false, rfl, .of (.int j), (by with_unfolding_all rfl), _, rfl, iteF ⟨rfl, _, rfl⟩⟩⟩
  · rintro σ H' ⟨rfl, z, rfl⟩
    have h1 := hp.pos
    refine rd_ix1 rfl fa ⟨_, _, rfl, rfl, _, rfl, ifT (decide_eq_true (show p.2 > 0 by omega)) (rd_ix0 rfl fa (rd_ix1 rfl fa ⟨_, _, rfl, rfl, ?_⟩))⟩
    rw [hp.one]
    exact q
theorem em_lo (x : Int) {m : Int} (h : 0 < m) : 0 ≤ x % m := Int.emod_nonneg x (by omega)
theorem em_hi (x : Int) {m : Int} (h : 0 < m) : x % m < m := Int.emod_lt_of_pos x h
def bits (fr : Bool) : Nat := if fr then 30 else 4
def spSize : Sp := fun vs H Q _ => ∃ (c : Int) (fr : Bool), vs = [.int c, .bl fr] ∧ ∀ p, Mq.Ps p → Mq.Bd (bits fr) p → NewF H Q p
def spAmount : Sp := fun vs H Q _ => ∃ (c : Int) (fr : Bool), vs = [.int c, .bl fr] ∧ ∀ p, Mq.Low p → Mq.Bd (bits fr) p → NewF H Q p
theorem size_fin {H : Hp} {Q : VK} {fr : Bool} (q : ∀ p, Mq.Ps p → Mq.Bd (bits fr) p → NewF H Q p) {t b : Int} (h1 : 0 < t) (h2 : t < 2 ^ bits fr) (h3 : 0 < b) (h4 : b < 2 ^ bits fr) : spLowP [.int t, .int b] H Q E0 := by
  have bT : Mq.B (bits fr) t := B_of (by have : (0 : Int) < 2 ^ bits fr := Int.pow_pos (by decide); omega) h2
  have bB : Mq.B (bits fr) b := B_of (by have : (0 : Int) < 2 ^ bits fr := Int.pow_pos (by decide); omega) h4
  have le := Mq.red_le (t := t) (show b ≠ 0 by omega)
  exact ⟨t, b, bits fr, rfl, h3, bB, by unfold bits; split <;> omega, q _ (Mq.red_ps h1 h3) ⟨bT.le le.1, bB.le le.2⟩⟩
theorem amount_fin {H : Hp} {Q : VK} {fr : Bool} (q : ∀ p, Mq.Low p → Mq.Bd (bits fr) p → NewF H Q p) {t b : Int} (h1 : -(2 ^ bits fr) < t) (h2 : t < 2 ^ bits fr) (h3 : 0 < b) (h4 : b < 2 ^ bits fr) : spLowP [.int t, .int b] H Q E0 := by
  have bT : Mq.B (bits fr) t := B_of h1 h2
  have bB : Mq.B (bits fr) b := B_of (by have : (0 : Int) < 2 ^ bits fr := Int.pow_pos (by decide); omega) h4
  have le := Mq.red_le (t := t) (show b ≠ 0 by omega)
  exact ⟨t, b, bits fr, rfl, h3, bB, by unfold bits; split <;> omega, q _ (Mq.red_low (by omega)) ⟨bT.le le.1, bB.le le.2⟩⟩
abbrev sSize : Stmt := top 48
theorem scSize : FnScope ["_law_cell", "_law_far"] ["_law_cell", "_law_far"] (defScope sSize) := ⟨rfl, rfl, rfl, by decide +kernel, rfl, by decide +kernel, by decide +kernel⟩
theorem ok_size {dV : Value} (F : FunD K "_law_size" "_law_size" sSize dV f fd)
    (G1 : FnOk P w K mg base CX0 2 g1 gd1 ["_law_top", "_law_bottom"] spLowP) (b1 : Binds K gd1 ["_law_top", "_law_bottom"] []) (k1 : PySem.W.keepIn K (.ref g1) = true) (m1 : mg "_law_lowest" = some (.ref g1)) :
    FnOk P w K mg base CX 3 f fd ["_law_cell", "_law_far"] spSize := by
  refine F.ok scSize (fun vs H Q E h => ?_) (fun cdv A outer s H vs Q E hr h => ?_)
  · obtain ⟨c, fr, rfl, q⟩ := h
    rfl
  obtain ⟨c, fr, rfl, q⟩ := h
  refine ⟨_, (pss_cons (ps_if (pt_val (pv 1)) (pss_one (ps_ret (pe_call G1 hr rfl m1 k1 b1 .nil pass0 (pa_cons (pe_op op_add pe_int (pe_op op_mod (pe_op op_mul (pv 0) pe_int) pe_int)) (pa_cons (pe_op op_add pe_int (pe_op op_mod (pe_op op_mul (pv 0) pe_int) pe_int)) pa_nil))))) pss_nil)
    (pss_one (ps_ret (pe_call G1 hr rfl m1 k1 b1 .nil pass0 (pa_cons (pe_op op_add pe_int (pe_op op_mod (pe_op op_mod (pe_op op_mul (pv 0) pe_int) pe_int) pe_int)) (pa_cons (pe_op op_add pe_int (pe_op op_mod (pe_op op_mod (pe_op op_mul (pv 0) pe_int) pe_int) pe_int)) pa_nil)))))), ?_⟩
  refine ⟨_, rfl, _, rfl, ?_⟩
  cases fr
  · refine iteF ⟨_, rfl, _, _, rfl, rfl, Or.inr ⟨by decide, by decide⟩, _, _, rfl, rfl, (show (0 : Int) < 10007 by decide), _, _, rfl, rfl, (show (0 : Int) < 9 by decide), _, _, rfl, rfl, _, rfl, _, _, rfl, rfl, Or.inr ⟨by decide, by decide⟩, _, _, rfl, rfl, (show (0 : Int) < 31 by decide), _, _, rfl, rfl, (show (0 : Int) < 4 by decide), _, _, rfl, rfl, ?_⟩
    have a1 := em_lo (c * 48271 % 10007) (show (0 : Int) < 9 by decide)
    have a2 := em_hi (c * 48271 % 10007) (show (0 : Int) < 9 by decide)
    have b1 := em_lo (c * 16807 % 31) (show (0 : Int) < 4 by decide)
    have b2 := em_hi (c * 16807 % 31) (show (0 : Int) < 4 by decide)
    exact size_fin q (by omega) (by show _ < (16 : Int); omega) (by omega) (by show _ < (16 : Int); omega)
  · refine iteT ⟨_, rfl, _, _, rfl, rfl, Or.inr ⟨by decide, by decide⟩, _, _, rfl, rfl, (show (0 : Int) < 999999937 by decide), _, _, rfl, rfl, _, rfl, _, _, rfl, rfl, Or.inr ⟨by decide, by decide⟩, _, _, rfl, rfl, (show (0 : Int) < 999999929 by decide), _, _, rfl, rfl, ?_⟩
    have a1 := em_lo (c * 48271) (show (0 : Int) < 999999937 by decide)
    have a2 := em_hi (c * 48271) (show (0 : Int) < 999999937 by decide)
    have b1 := em_lo (c * 69621) (show (0 : Int) < 999999929 by decide)
    have b2 := em_hi (c * 69621) (show (0 : Int) < 999999929 by decide)
    exact size_fin q (by omega) (by show _ < (1073741824 : Int); omega) (by omega) (by show _ < (1073741824 : Int); omega)
abbrev sAmount : Stmt := top 49
theorem scAmount : FnScope ["_law_cell", "_law_far"] ["_law_cell", "_law_far"] (defScope sAmount) := ⟨rfl, rfl, rfl, by decide +kernel, rfl, by decide +kernel, by decide +kernel⟩
theorem ok_amount {dV : Value} (F : FunD K "_law_amount" "_law_amount" sAmount dV f fd)
    (G1 : FnOk P w K mg base CX0 2 g1 gd1 ["_law_top", "_law_bottom"] spLowP) (b1 : Binds K gd1 ["_law_top", "_law_bottom"] []) (k1 : PySem.W.keepIn K (.ref g1) = true) (m1 : mg "_law_lowest" = some (.ref g1)) :
    FnOk P w K mg base CX 3 f fd ["_law_cell", "_law_far"] spAmount := by
  refine F.ok scAmount (fun vs H Q E h => ?_) (fun cdv A outer s H vs Q E hr h => ?_)
  · obtain ⟨c, fr, rfl, q⟩ := h
    rfl
  obtain ⟨c, fr, rfl, q⟩ := h
  refine ⟨_, (pss_cons (ps_if (pt_val (pv 1)) (pss_one (ps_ret (pe_call G1 hr rfl m1 k1 b1 .nil pass0 (pa_cons (pe_op op_sub (pe_op op_mod (pe_op op_mul (pv 0) pe_int) pe_int) pe_int) (pa_cons (pe_op op_add pe_int (pe_op op_mod (pe_op op_mul (pv 0) pe_int) pe_int)) pa_nil))))) pss_nil)
    (pss_one (ps_ret (pe_call G1 hr rfl m1 k1 b1 .nil pass0 (pa_cons (pe_op op_sub (pe_op op_mod (pe_op op_mod (pe_op op_mul (pv 0) pe_int) pe_int) pe_int) pe_int) (pa_cons (pe_op op_add pe_int (pe_op op_mod (pe_op op_mod (pe_op op_mul (pv 0) pe_int) pe_int) pe_int)) pa_nil)))))), ?_⟩
  refine ⟨_, rfl, _, rfl, ?_⟩
  cases fr
  · refine iteF ⟨_, rfl, _, _, rfl, rfl, Or.inr ⟨by decide, by decide⟩, _, _, rfl, rfl, (show (0 : Int) < 10009 by decide), _, _, rfl, rfl, (show (0 : Int) < 19 by decide), _, _, rfl, rfl, _, rfl, _, _, rfl, rfl, Or.inr ⟨by decide, by decide⟩, _, _, rfl, rfl, (show (0 : Int) < 37 by decide), _, _, rfl, rfl, (show (0 : Int) < 3 by decide), _, _, rfl, rfl, ?_⟩
    have a1 := em_lo (c * 69621 % 10009) (show (0 : Int) < 19 by decide)
    have a2 := em_hi (c * 69621 % 10009) (show (0 : Int) < 19 by decide)
    have b1 := em_lo (c * 16807 % 37) (show (0 : Int) < 3 by decide)
    have b2 := em_hi (c * 16807 % 37) (show (0 : Int) < 3 by decide)
    exact amount_fin q (by show -(16 : Int) < _; omega) (by show _ < (16 : Int); omega) (by omega) (by show _ < (16 : Int); omega)
  · refine iteT ⟨_, rfl, _, _, rfl, rfl, Or.inr ⟨by decide, by decide⟩, _, _, rfl, rfl, (show (0 : Int) < 1999999973 by decide), _, _, rfl, rfl, _, rfl, _, _, rfl, rfl, Or.inr ⟨by decide, by decide⟩, _, _, rfl, rfl, (show (0 : Int) < 999999893 by decide), _, _, rfl, rfl, ?_⟩
    have a1 := em_lo (c * 69621) (show (0 : Int) < 1999999973 by decide)
    have a2 := em_hi (c * 69621) (show (0 : Int) < 1999999973 by decide)
    have b1 := em_lo (c * 48271) (show (0 : Int) < 999999893 by decide)
    have b2 := em_hi (c * 48271) (show (0 : Int) < 999999893 by decide)
    exact amount_fin q (by show -(1073741824 : Int) < _; omega) (by show _ < (1073741824 : Int); omega) (by omega) (by show _ < (1073741824 : Int); omega)
def spNet32 (CN : Addr) (K : PySem.W.Frag) : Sp := fun vs H Q _ => ∃ (m : Int) (r : Addr) (us : List V) (ds : List RD), vs = [.int m, .ref r] ∧ 1 ≤ m ∧ m ≤ 20 ∧ SqL K H r us ∧ Rts K H us ds ∧ (∀ d ∈ ds, RdOk m d) ∧ ds.length ≤ 40 ∧ ∀ n l H', Same H H' → H l = none → NetAt CN K H' n l m ds → Q (.ref n) H'
abbrev sNet32 : Stmt := top 47
theorem scNet32 : FnScope ["_law_many", "_law_rows_here", "_law_net_here", "_law_row"] ["_law_many", "_law_rows_here"] (defScope sNet32) := ⟨rfl, rfl, rfl, by decide +kernel, rfl, by decide +kernel, by decide +kernel⟩
theorem ok_net32 {dV : Value} (F : FunD K "_law_net" "_law_net" sNet32 dV f fd)
    {CN : Addr} (NTx : NT K mg CN)
    {gAd : Addr} {gdAd : FuncData} (GAd : FnOk P w K mg base CX0 5 gAd gdAd ["self", "row"] (spAdd CN K CK)) (bAd : Binds K gdAd ["self", "row"] []) (mAd : Meth K CN "add" gAd)
    {gNI : Addr} {gdNI : FuncData} (GNI : FnOk P w K mg base CX0 2 gNI gdNI ["self", "many"] (spNInit CN)) (bNI : Binds K gdNI ["self", "many"] []) (MN : Mk K CN gNI)
    (G1 : FnOk P w K mg base CX0 3 g1 gd1 ["told"] (spRowOfG K CK)) (b1 : Binds K gd1 ["told"] []) (k1 : PySem.W.keepIn K (.ref g1) = true) (m1 : mg "row_of" = some (.ref g1)) :
    FnOk P w K mg base CX 6 f fd ["_law_many", "_law_rows_here"] (spNet32 CN K) := by
  refine F.ok scNet32 (fun vs H Q E h => ?_) (fun cdv A outer s H vs Q E hr h => ?_)
  · obtain ⟨m, r, us, ds, rfl, hm1, hm20, hU, hR, hK, h40, q⟩ := h
    rfl
  obtain ⟨m, r, us, ds, rfl, hm1, hm20, hU, hR, hK, h40, q⟩ := h
  have r3 := hr.mono (show 3 ≤ 5 by omega)
  refine ⟨_, (pss_cons (ps_set (i := 2) scNet32.nd rfl (Or.inl rfl) (pe_make MN GNI r3 rfl NTx.mN bNI .nil pass0 (pa_cons (pv 0) pa_nil)))
    (pss_cons (ps_for PassesOwn.never rfl (pi_list (pv 1)) (pg_name (i := 3) scNet32.nd rfl (Or.inl rfl))
      (pss_one (ps_expr (pe_meth (pv 2) NTx.cl mAd GAd hr bAd .nil pass0 (pa_cons (pe_call G1 r3 rfl m1 k1 b1 .nil pass0 (pa_cons (pv 3) pa_nil)) pa_nil)))))
    (pss_one (ps_ret (pv 2))))), ?_⟩
  have lus := hR.length
  refine ⟨_, rfl, fun n dx h1 h2 ne => ⟨n, dx, m, rfl, upd_same, hm1, hm20, fun l H2 nl keep hn hl => ⟨rfl, ?_⟩⟩⟩
  have s2 : Same H H2 := fun b o e => keep b o (by rw [upd_ne (ne_of_none e h1), upd_ne (ne_of_none e h2)]; exact e) (ne_of_none e h1)
  have hl0 : H l = none := by
    cases o : H l with
    | none => rfl
    | some o' =>
      have : (upd (upd H dx (.own n)) n (.ins CN dx [])) l = some o' := by rw [upd_ne (ne_of_none o h1), upd_ne (ne_of_none o h2)]; exact o
      rw [this] at nl; cases nl
  refine ⟨_, rfl, r, rfl, ⟨_, s2.seq hU⟩, ?_⟩
  refine for_list (xs := us) (fun i σ H' => Same H H' ∧ NetAt CN K H' n l m (ds.take i) ∧ ∃ z, σ = [some (.int m), some (.ref r), some (.ref n), z]) ⟨s2, ⟨⟨dx, hn⟩, [], hl, .nil⟩, none, rfl⟩ (fun i σ H' _ h => h.1.seq hU) ?_ ?_
  · rintro i x σ H3 hx ⟨s3, N3, z, rfl⟩
    have hi : i < ds.length := by
      have := (List.getElem?_eq_some_iff.mp hx).1
      omega
    obtain ⟨⟨k, u, v, p⟩, hd⟩ : ∃ d, ds[i]? = some d := ⟨_, List.getElem?_eq_getElem hi⟩
    obtain ⟨t, z', et, hT, fz⟩ := hR.at hd
    have ex : x = .ref t := by rw [et] at hx; exact (Option.some.inj hx).symm
    subst ex
    obtain ⟨dn, hn3⟩ := N3.ob
    have lt : (ds.take i).length ≤ ds.length := by rw [List.length_take]; omega
    refine ⟨_, rfl, n, dn, _, rfl, hn3, nflds_no _ _ (by decide +kernel) (by decide +kernel), _, rfl, t, _, _, _, _, rfl, s3.seqT hT, k, rfl, fun y H4 s4 ny rw => ?_⟩
    refine ⟨n, l, y, z', m, ds.take i, k, u, v, p, rfl, N3.same s4, rw, (s3.trans s4).fq fz, hK _ (List.mem_of_getElem? hd), by rw [List.length_take]; omega, fun H5 x5 N5 => ?_⟩
    refine ⟨fun b o e => x5 _ _ ((s3.trans s4) _ _ e) (ne_of_none e hl0), ?_, _, rfl⟩
    rw [List.take_add_one, hd]
    exact N5
  · rintro σ H3 ⟨s3, N3, z, rfl⟩
    rw [lus, List.take_length] at N3
    exact ⟨_, rfl, q n l H3 s3 hl0 N3⟩
theorem at5 {r : Int} (h0 : 0 ≤ r) (h5 : r < 5) : ∃ k : Kd, atI [V.str "piece", .str "push", .str "hold", .str "piece", .str "hold"] r = some (.str k.wd) := by
  have : r = 0 ∨ r = 1 ∨ r = 2 ∨ r = 3 ∨ r = 4 := by omega
  rcases this with rfl | rfl | rfl | rfl | rfl
  · exact ⟨.pc, rfl⟩
  · exact ⟨.pu, rfl⟩
  · exact ⟨.ho, rfl⟩
  · exact ⟨.pc, rfl⟩
  · exact ⟨.ho, rfl⟩
theorem cut_le38 (xs : List V) (j : Int) (h0 : 0 ≤ j) (h : j ≤ 38) : (cutV xs (some 4) (some (4 + j))).length ≤ 38 := by
  obtain ⟨n, rfl⟩ : ∃ n : Nat, j = (n : Int) := ⟨j.toNat, by omega⟩
  unfold cutV
  have h1 : HT.sIx xs.length xs.length (some (4 + (n : Int))) = min (4 + n) xs.length := by
    have e : (4 + (n : Int)) = ((4 + n : Nat) : Int) := by omega
    simp only [HT.sIx]
    split <;> omega
  have h2 : HT.sIx xs.length 0 (some 4) = min 4 xs.length := by simp [HT.sIx]
  rw [h1, h2, List.length_take, List.length_drop]
  omega
theorem dw_pc (k : Kd) : decide (V.str k.wd = V.str "piece") = decide (k = .pc) := dec_wd k .pc
def RdK (m : Nat) (d : RD) : Prop := RdOk (m : Int) d ∧ Mq.Bd 30 d.2.2.2
def spRows32 (K : PySem.W.Frag) : Sp := fun vs H Q _ => ∃ (a : Addr) (ns : List Int) (m : Nat) (fr : Bool), vs = [.ref a, .int (m : Int), .bl fr] ∧ SqL K H a (ns.map V.int) ∧ ns.length ≤ 63 ∧ 1 ≤ m ∧ m ≤ 20 ∧ ∀ r us ds H', Same H H' → H r = none → H' r = some (.lst us) → Rts K H' us ds → (∀ d ∈ ds, RdK m d) → ds.length ≤ 38 → Q (.ref r) H'
abbrev sRows32 : Stmt := top 52
theorem scRows32 : FnScope ["_law_script", "_law_many", "_law_far", "_law_rows_here", "_law_cell", "_law_word", "_law_size_here"] ["_law_script", "_law_many", "_law_far"] (defScope sRows32) := ⟨rfl, rfl, rfl, by decide +kernel, rfl, by decide +kernel, by decide +kernel⟩
theorem ok_rows32 {dV : Value} (F : FunD K "_law_rows" "_law_rows" sRows32 dV f fd)
    (G1 : FnOk P w K mg base CX0 1 g1 gd1 ["_law_script", "_law_k"] (spNth K)) (b1 : Binds K gd1 ["_law_script", "_law_k"] []) (k1 : PySem.W.keepIn K (.ref g1) = true) (m1 : mg "_law_nth" = some (.ref g1))
    (G2 : FnOk P w K mg base CX0 3 g2 gd2 ["_law_cell", "_law_far"] spSize) (b2 : Binds K gd2 ["_law_cell", "_law_far"] []) (k2 : PySem.W.keepIn K (.ref g2) = true) (m2 : mg "_law_size" = some (.ref g2))
    (G3 : FnOk P w K mg base CX0 3 g3 gd3 ["_law_cell", "_law_far"] spAmount) (b3 : Binds K gd3 ["_law_cell", "_law_far"] []) (k3 : PySem.W.keepIn K (.ref g3) = true) (m3 : mg "_law_amount" = some (.ref g3)) :
    FnOk P w K mg base CX 4 f fd ["_law_script", "_law_many", "_law_far"] (spRows32 K) := by
  refine F.ok scRows32 (fun vs H Q E h => ?_) (fun cdv A outer s H vs Q E hr h => ?_)
  · obtain ⟨a, ns, m, fr, rfl, hS, h63, hm1, hm20, q⟩ := h
    rfl
  obtain ⟨a, ns, m, fr, rfl, hS, h63, hm1, hm20, q⟩ := h
  have r1 := hr.mono (show 1 ≤ 3 by omega)
  refine ⟨_, (pss_cons (ps_set (i := 3) scRows32.nd rfl (Or.inl rfl) (pe_lst pa_nil))
    (pss_cons (ps_for PassesOwn.never rfl (pi_list (pe_slice sl_list (pv 0) (po_some pe_int) (po_some (pe_op op_add pe_int (pe_op op_mod (pe_call G1 r1 rfl m1 k1 b1 .nil pass0 (pa_cons (pv 0) (pa_cons pe_int pa_nil))) pe_int))))) (pg_name (i := 4) scRows32.nd rfl (Or.inl rfl))
      (pss_cons (ps_set (i := 5) scRows32.nd rfl (Or.inl rfl) (pe_ix ix_list (pe_lst (pa_cons pe_str (pa_cons pe_str (pa_cons pe_str (pa_cons pe_str (pa_cons pe_str pa_nil)))))) (pe_op op_mod (pv 4) pe_int) (fun _ _ => rfl)))
    (pss_cons (ps_set (i := 6) scRows32.nd rfl (Or.inl rfl) (pe_call G2 hr rfl m2 k2 b2 .nil pass0 (pa_cons (pv 4) (pa_cons (pv 2) pa_nil))))
    (pss_cons (ps_if (pt_cmpR op_ne (pv 5) pe_str (nomark _)) (pss_one (ps_set (i := 6) scRows32.nd rfl (Or.inl rfl) (pe_call G3 hr rfl m3 k3 b3 .nil pass0 (pa_cons (pv 4) (pa_cons (pv 2) pa_nil))))) pss_nil)
    (pss_one (ps_expr (pe_bm PySem.F.plainAttrs_list PySem.F.slot_list_append PySem.F.type_list_append mt_append (pv 3) (pa_cons (pe_tup (pa_cons (pv 5) (pa_cons (pe_op op_modN (pe_op op_fdiv (pv 4) pe_int) (pv 1)) (pa_cons (pe_op op_modN (pe_op op_mod (pe_op op_mul (pv 4) pe_int) pe_int) (pv 1)) (pa_cons (pv 6) pa_nil))))) pa_nil))))))))
    (pss_one (ps_ret (pv 3))))), ?_⟩
  have bb : bits fr ≤ 30 := by cases fr <;> decide
  refine ⟨by show 0 ≤ sizeLine; decide, fun r hr0 => ?_⟩
  have s1 := same_new hr0 (.lst [])
  have e1 : upd H r (.lst []) r = some (.lst []) := upd_same
  generalize upd H r (.lst []) = H1 at s1 e1 ⊢
  refine ⟨_, rfl, 4, rfl, _, rfl, a, ns, 1, 1, rfl, rfl, s1.seq hS, h63, by omega, fun v H2 s2 => ?_⟩
  have s02 := s1.trans s2
  have f0 := Int.emod_nonneg v (show (39 : Int) ≠ 0 by decide)
  have f9 := Int.emod_lt_of_pos v (show (0 : Int) < 39 by decide)
  refine ⟨_, _, rfl, rfl, (show (0 : Int) < 39 by decide), _, _, rfl, rfl, 4 + v % 39, rfl, a, _, rfl, s02.seq hS, fun C hC => ?_⟩
  have c38 := cut_le38 (ns.map V.int) (v % 39) f0 (by omega)
  obtain ⟨ms, em⟩ := cut_intsN ns (some 4) (some (4 + v % 39))
  rw [em] at c38 ⊢
  rw [List.length_map] at c38
  have s3 := same_new hC (.lst (ms.map V.int))
  have eC : upd H2 C (.lst (ms.map V.int)) C = some (.lst (ms.map V.int)) := upd_same
  have nCr : C ≠ r := Ne.symm (ne_of_none (s2 _ _ e1) hC)
  have e3 := s3 _ _ (s2 _ _ e1)
  generalize upd H2 C (.lst (ms.map V.int)) = H3 at s3 eC e3 ⊢
  refine ⟨C, rfl, ⟨_, SqL.of eC⟩, ?_⟩
  refine for_list (xs := ms.map V.int) (fun n σ H' => Same H H' ∧ H' C = some (.lst (ms.map V.int)) ∧ ∃ (us : List V) (ds : List RD) (z4 z5 z6 : Option V), σ = [some (.ref a), some (.int (m : Int)), some (.bl fr), some (.ref r), z4, z5, z6] ∧ H' r = some (.lst us) ∧ Rts K H' us ds ∧ (∀ d ∈ ds, RdK m d) ∧ ds.length = n) ⟨s02.trans s3, eC, [], [], none, none, none, rfl, e3, .nil, (fun d hd => by cases hd), rfl⟩ (fun n σ H' _ h => SqL.of h.2.1) ?_ ?_
  · rintro n x σ H4 hx ⟨s4, eC4, us, ds, z4, z5, z6, rfl, er, hR, hK, hlen⟩
    have hn : n < 38 := by
      have := (List.getElem?_eq_some_iff.mp hx).1
      rw [List.length_map] at this
      omega
    obtain ⟨c, rfl⟩ : ∃ c, x = .int c := by
      rw [List.getElem?_map] at hx
      cases hm : ms[n]? with
      | none => rw [hm] at hx; cases hx
      | some c => rw [hm] at hx; cases hx; exact ⟨c, rfl⟩
    have lus := hR.length
    refine ⟨by show 5 ≤ sizeLine; decide, fun L hL => ?_⟩
    have s5 := same_new hL (.lst [V.str "piece", .str "push", .str "hold", .str "piece", .str "hold"])
    have e5 : upd H4 L (.lst [V.str "piece", .str "push", .str "hold", .str "piece", .str "hold"]) L = some (.lst [V.str "piece", .str "push", .str "hold", .str "piece", .str "hold"]) := upd_same
    generalize upd H4 L (.lst [V.str "piece", .str "push", .str "hold", .str "piece", .str "hold"]) = H5 at s5 e5 ⊢
    obtain ⟨k, ek⟩ := at5 (Int.emod_nonneg c (show (5 : Int) ≠ 0 by decide)) (Int.emod_lt_of_pos c (show (0 : Int) < 5 by decide))
    refine ⟨_, rfl, _, _, rfl, rfl, (show (0 : Int) < 5 by decide), L, _, _, _, rfl, rfl, SqL.of e5, ek, ?_⟩
    refine ⟨_, rfl, _, rfl, c, fr, rfl, fun p hp bp z H6 s6 e6 => ?_⟩
    have fz : Fq K H6 z p := Fq.of e6
    refine (fun (hrest : ∀ (z6 : Option V) (zz : Addr) (p : Mq.Q2) (Hx : Hp), z6 = some (.ref zz) → Same H6 Hx → Fq K Hx zz p → Mq.Low p ∧ (k = .pc → 0 < p.1) ∧ Mq.Bd 30 p → PySem.W.KIN.Hid ((?T : Option V → Hp → Prop) z6 Hx)) => ?main) ?rest
    case main =>
      by_cases hk : k = .pc
      · refine ⟨_, rfl, rfl, _, rfl, ifF (by show (!decide (V.str k.wd = V.str "piece")) = false; rw [dw_pc, decide_eq_true hk]; rfl) ?_⟩
        show tSeq _ _ _ [some (.ref a), some (.int (m : Int)), some (.bl fr), some (.ref r), some (.int c), some (.str k.wd), some (.ref z)] H6
        generalize h6 : (some (V.ref z) : Option V) = z6
        exact (hrest z6 z p H6 h6.symm (Same.refl _) fz ⟨hp.low, fun _ => hp.pos, bp.mono bb⟩).out
      · refine ⟨_, rfl, rfl, _, rfl, ifT (by show (!decide (V.str k.wd = V.str "piece")) = true; rw [dw_pc, decide_eq_false hk]; rfl) ?_⟩
        refine ⟨_, rfl, _, rfl, c, fr, rfl, fun p' hp' bp' zz H7 s7 e7 => ?_⟩
        show tSeq _ _ _ [some (.ref a), some (.int (m : Int)), some (.bl fr), some (.ref r), some (.int c), some (.str k.wd), some (.ref zz)] H7
        generalize h6 : (some (V.ref zz) : Option V) = z6
        exact (hrest z6 zz p' H7 h6.symm s7 (Fq.of e7) ⟨hp', fun h => absurd h hk, bp'.mono bb⟩).out
    case rest =>
    intro z6' zz p' H7 h6 s7 f7 hq
    subst h6
    refine ⟨?_⟩
    have s47 := s5.trans (s6.trans s7)
    have er7 := s47 _ _ er
    have m0 : (m : Int) ≠ 0 := by omega
    have mp : 0 < (m : Int) := by omega
    have b1 := Int.fmod_nonneg_of_pos (a := c / 5) mp
    have b2 := Int.fmod_lt_of_pos (c / 5) mp
    have b3 := Int.fmod_nonneg_of_pos (a := c * 40692 % 10037) mp
    have b4 := Int.fmod_lt_of_pos (c * 40692 % 10037) mp
    refine ⟨_, rfl, .inl ⟨rfl, _, SqL.of er7⟩, _, rfl, _, rfl, _, _, rfl, rfl, ⟨by decide, by decide⟩, _, rfl, _, _, rfl, rfl, m0, _, rfl, _, _, rfl, rfl, Or.inr ⟨by decide, by decide⟩, _, _, rfl, rfl, (show (0 : Int) < 10037 by decide), _, rfl, _, _, rfl, rfl, m0, _, rfl, by show 4 ≤ sizeLine; decide, fun t ht => ?_⟩
    have s8 := same_new ht (.tup [.str k.wd, .int (Int.fmod (c / 5) m), .int (Int.fmod (c * 40692 % 10037) m), .ref zz])
    have et : SqT K (upd H7 t (.tup [.str k.wd, .int (Int.fmod (c / 5) m), .int (Int.fmod (c * 40692 % 10037) m), .ref zz])) t [.str k.wd, .int (Int.fmod (c / 5) m), .int (Int.fmod (c * 40692 % 10037) m), .ref zz] := SqT.of upd_same
    generalize upd H7 t (.tup [.str k.wd, .int (Int.fmod (c / 5) m), .int (Int.fmod (c * 40692 % 10037) m), .ref zz]) = H8 at s8 et ⊢
    have er8 := s8 _ _ er7
    have s48 := s47.trans s8
    refine ⟨r, us, .ref t, rfl, rfl, er8, small1000 (by omega), ?_⟩
    refine ⟨(s4.trans s48).change hr0, by rw [upd_ne nCr]; exact s48 _ _ eC4, us ++ [.ref t], ds ++ [(k, Int.fmod (c / 5) m, Int.fmod (c * 40692 % 10037) m, p')], _, _, _, rfl, upd_same, Rts.upd er8 ((hR.same s48).app (.cons et (s8.fq f7) .nil)), fun d hd => ?_, by rw [List.length_append, hlen]; rfl⟩
    rcases List.mem_append.mp hd with z | z
    · exact hK d z
    · have : d = (k, Int.fmod (c / 5) m, Int.fmod (c * 40692 % 10037) m, p') := by simpa using z
      rw [this]
      exact ⟨⟨b1, b2, b3, b4, hq.1, hq.2.1, hq.2.2.mono (by omega)⟩, hq.2.2⟩
  rintro σ H4 ⟨s4, -, us, ds, z4, z5, z6, rfl, er, hR, hK, hlen⟩
  rw [List.length_map] at hlen
  exact ⟨_, rfl, q r us ds H4 s4 hr0 er hR hK (by omega)⟩
end
end K32

set_option Elab.async false
set_option linter.all false
set_option maxRecDepth 100000
set_option maxHeartbeats 4000000
namespace K32
open PySem L2
section
variable {P : Program} {w : World} {K : PySem.W.Frag} {mg : Str → Option Value} {base : Heap} {f g1 g2 g3 g4 g5 g6 g7 g8 : Addr} {fd gd1 gd2 gd3 gd4 gd5 gd6 gd7 gd8 : FuncData} {CX : CXT}
variable {CR : Addr} {CK : Kd → Addr} {fW fJ fT fS : Kd → Addr} {fdW fdJ fdT fdS : Kd → FuncData}
def spAsked (CN : Addr) (K : PySem.W.Frag) : Sp := fun vs H Q _ => ∃ (n l : Addr) (v : V) (m : Nat) (ds : List RD) (W : Kd → Bool) (br : Bool), vs = [.ref n, v, .bl br] ∧ NetAt CN K H n l (m : Int) ds ∧ (∀ d ∈ ds, PtOk (m : Int) d.2.1 d.2.2.1) ∧ m ≤ 20 ∧ ds.length ≤ 40 ∧ Wds K H v W ∧ ∀ r us H', Same H H' → H r = none → H' r = some (.lst us) → Rgs K H H' us ((ringF W (skl ds) ds.length).2.map (·.2)) → (∀ x ∈ us, x ≠ .ref r) → Q (.ref r) H'
abbrev sAsked : Stmt := top 53
theorem scAsked : FnScope ["_law_net_here", "_law_words", "_law_bare"] ["_law_net_here", "_law_words", "_law_bare"] (defScope sAsked) := ⟨rfl, rfl, rfl, by decide +kernel, rfl, by decide +kernel, by decide +kernel⟩
theorem ok_asked {dV : Value} (F : FunD K "_law_asked" "_law_asked" sAsked dV f fd)
    {CN : Addr} {ds1 : List Value} (b1 : Binds K gd1 ["net", "words"] [])
    (G1 : FnOk P w K mg base CX0 5 g1 gd1 ["net", "words"] (spRings CN K)) (bd1 : Binds K gd1 ["net", "words"] ds1) (d1 : Vals [.non] ds1) (k1 : PySem.W.keepIn K (.ref g1) = true) (m1 : mg "rings" = some (.ref g1)) :
    FnOk P w K mg base CX 6 f fd ["_law_net_here", "_law_words", "_law_bare"] (spAsked CN K) := by
  refine F.ok scAsked (fun vs H Q E h => ?_) (fun cdv A outer s H vs Q E hr h => ?_)
  · obtain ⟨n, l, v, m, ds, W, br, rfl, nt, pt, h20, h40, hW, q⟩ := h
    rfl
  obtain ⟨n, l, v, m, ds, W, br, rfl, nt, pt, h20, h40, hW, q⟩ := h
  refine ⟨_, (pss_cons (ps_if (PW.pt (pw_and (pt_cmp (pc_isN (pv 1))) (pw_and1 (pt_val (pv 2))))) (pss_one (ps_ret (pe_call G1 hr rfl m1 k1 bd1 d1 pass0 (pa_cons (pv 0) pa_nil)))) pss_nil)
    (pss_one (ps_ret (pe_call G1 hr rfl m1 k1 b1 .nil pass0 (pa_cons (pv 0) (pa_cons (pv 1) pa_nil)))))), ?_⟩
  cases hW with
  | non =>
    refine ⟨_, rfl, _, rfl, ifT rfl ⟨_, rfl, _, rfl, ?_⟩⟩
    cases br with
    | true => exact ifT rfl ⟨_, rfl, n, l, .non, m, ds, _, rfl, nt, pt, h20, h40, .non, q⟩
    | false => exact ifF rfl ⟨_, rfl, _, rfl, n, l, .non, m, ds, _, rfl, nt, pt, h20, h40, .non, q⟩
  | @seq a ws h f =>
    exact ⟨_, rfl, _, rfl, ifF rfl (ifF rfl ⟨_, rfl, _, rfl, n, l, .ref a, m, ds, _, rfl, nt, pt, h20, h40, .seq h f, q⟩)⟩
def spClosers (K : PySem.W.Frag) : Sp := fun vs H Q _ => ∃ (r wa : Addr) (us ws : List V) (ds : List RD) (m : Nat) (W : Kd → Bool), vs = [.ref r, .ref wa] ∧ SqL K H r us ∧ Rts K H us ds ∧ (∀ d ∈ ds, PtOk (m : Int) d.2.1 d.2.2.1) ∧ m ≤ 20 ∧ ds.length ≤ 40 ∧ SqL K H wa ws ∧ ws.all flatV = true ∧ (∀ k : Kd, inV (.str k.wd) ws = W k) ∧ ∀ t F C H', Same H H' → SqT K H' t [.ref F, .ref C] → H' F = some (.dK (rch ((ringF W (skl ds) ds.length).1.map (·.1)))) → H' C = some (.lst ((ringF W (skl ds) ds.length).2.map fun c => V.int (c.1 : Int))) → Q (.ref t) H'
theorem rowsB_snoc (es : List Br) (e : Br) : rowsB (es ++ [e]) = rowsB es ++ [(.pc, (e.2.1 : Int), (e.2.2 : Int), (0, 1))] := by unfold rowsB; rw [List.map_append]; rfl
theorem mks_br (es : List Br) (i u v : Nat) : mks 20 (rowsB (es ++ [(i, u, v)])) = jn (mks 20 (rowsB es)) u v := by
  rw [rowsB_snoc, mks_snoc]
  unfold mstep
  rw [if_neg (by intro z; cases z)]
  show jn _ (u : Int).toNat (v : Int).toNat = _
  rw [Int.toNat_natCast, Int.toNat_natCast]
theorem nd_k : (["_law_k"] : List Str).Nodup := by decide +kernel
theorem nd_mark_start_old_marks : (["_law_mark", "_law_start", "_law_old", "_law_marks"] : List Str).Nodup := by decide +kernel
abbrev sClosers : Stmt := top 50
theorem scClosers : FnScope ["_law_rows_here", "_law_words", "_law_marks", "_law_forest", "_law_closers_here", "_law_k", "_law_word", "_law_start", "_law_goal", "_law_size_here", "_law_old"] ["_law_rows_here", "_law_words"] (defScope sClosers) := ⟨rfl, rfl, rfl, by decide +kernel, rfl, by decide +kernel, by decide +kernel⟩
theorem ok_closers {dV : Value} (F : FunD K "_law_closers" "_law_closers" sClosers dV f fd)
    (mr : mg "range" = none) (ml : mg "len" = none) :
    FnOk P w K mg base CX 1 f fd ["_law_rows_here", "_law_words"] (spClosers K) := by
  refine F.ok scClosers (fun vs H Q E h => ?_) (fun cdv A outer s H vs Q E hr h => ?_)
  · obtain ⟨r, wa, us, ws, ds, m, W, rfl, hU, hR, pt, h20, h40, hA, fl, hW, q⟩ := h
    rfl
  obtain ⟨r, wa, us, ws, ds, m, W, rfl, hU, hR, pt, h20, h40, hA, fl, hW, q⟩ := h
  have hu := hr.units
  refine ⟨_, (pss_cons (ps_set (i := 2) scClosers.nd rfl (Or.inr rfl) (pe_comp (nl := 1) (fr := []) (Nc := ["_law_k"]) (cl := []) rfl ⟨rfl, rfl, by decide +kernel, by decide +kernel, fun x c h => (by cases h), has_of rfl, rfl, fun i n h => (by simp at h)⟩
        (pi_range1 rfl mr (pa_cons pe_int pa_nil)) (fun C s3 H3 fp pins => (pg_name (i := 0) nd_k rfl (Or.inl rfl))) (fun C s3 H3 fp pins => pif_nil)
        (fun C s3 H3 fp pins => (pv 0))))
    (pss_cons (ps_set (i := 3) scClosers.nd rfl (Or.inl rfl) pe_dnewK)
    (pss_cons (ps_set (i := 4) scClosers.nd rfl (Or.inl rfl) (pe_lst pa_nil))
    (pss_cons (ps_for PassesOwn.never rfl (pi_range1 rfl mr (pa_cons (pe_callB call_len_seq rfl ml PySem.boot_len (pa_cons (pv 0) pa_nil)) pa_nil)) (pg_name (i := 5) scClosers.nd rfl (Or.inl rfl))
      (pss_cons (ps_asg (pe_ix ix_list (pv 0) (pv 5) (fun _ _ => rfl)) (pg_tup rfl (pgs_cons (pg_name (i := 6) scClosers.nd rfl (Or.inl rfl)) (pgs_cons (pg_name (i := 7) scClosers.nd rfl (Or.inr rfl)) (pgs_cons (pg_name (i := 8) scClosers.nd rfl (Or.inl rfl)) (pgs_cons (pg_name (i := 9) scClosers.nd rfl (Or.inl rfl)) pgs_nil))))))
    (pss_one (ps_if (PW.pt (pw_and (pt_cmpR op_in_seq (pv 6) (pv 1) rfl) (pw_and1 (pt_cmpR op_eq (pe_ix ix_list (pv 2) (pv 7) (fun _ _ => rfl)) (pe_ix ix_list (pv 2) (pv 8) (fun _ _ => rfl)) (nomark _))))) (pss_one (ps_expr (pe_bm PySem.F.plainAttrs_list PySem.F.slot_list_append PySem.F.type_list_append mt_append (pv 4) (pa_cons (pv 5) pa_nil)))) (pss_one (ps_if (pt_cmpR op_in_seq (pv 6) (pv 1) rfl) (pss_cons (ps_dput (hu_of hr) (pv 3) (pv 5) pe_bl rfl)
    (pss_cons (ps_set (i := 10) scClosers.nd rfl (Or.inr rfl) (pe_ix ix_list (pv 2) (pv 8) (fun _ _ => rfl)))
    (pss_one (ps_set (i := 2) scClosers.nd rfl (Or.inr rfl) (pe_comp (nl := 1) (fr := [7, 10, 2]) (Nc := ["_law_mark", "_law_start", "_law_old", "_law_marks"]) (cl := [("_law_start", s.heap.objs.size + 2), ("_law_old", s.heap.objs.size + 3), ("_law_marks", s.heap.objs.size + 1)]) rfl ⟨rfl, rfl, by decide +kernel, by decide +kernel, (sub_cons rfl (sub_cons rfl (sub_cons rfl (sub_nil)))), has_of rfl, rfl, fun i n h => match i, h with | 0, h => by cases h; exact ⟨7, rfl, rfl, rfl, rfl, .inl rfl⟩ | 1, h => by cases h; exact ⟨10, rfl, rfl, rfl, rfl, .inl rfl⟩ | 2, h => by cases h; exact ⟨2, rfl, rfl, rfl, rfl, .inl rfl⟩ | k + 3, h => by rw [show 1 + (k + 3) = k + 4 by omega] at h; cases h⟩
        (pi_list (pv 2)) (fun C s3 H3 fp pins => (pg_name (i := 0) nd_mark_start_old_marks rfl (Or.inl rfl))) (fun C s3 H3 fp pins => pif_nil)
        (fun C s3 H3 fp pins => (pe_ifExp (pt_cmpR op_eq (pv 0) (pv 2) (nomark _)) (pe_ix (ix_listK (K := K) rfl) (pv 3) (pv 1) (fun _ _ => rfl)) (pv 0)))))))) pss_nil))))))
    (pss_one (ps_ret (pe_tup (pa_cons (pv 3) (pa_cons (pv 4) pa_nil))))))))), ?_⟩
  have lus := hR.length
  have sk := sk_len ds
  have slt := sk_lt pt
  -- marks
  refine ⟨20, rfl, by decide, by decide, fun M hM => ?_⟩
  have sM := same_new hM (.lst [])
  refine comp_range (n := 20) (fun i zs H' => Same H H' ∧ H' M = some (.lst zs) ∧ zs = (List.range i).map fun (j : Nat) => V.int (j : Int)) ⟨sM, upd_same, rfl⟩ (fun i zs H' h => h.2.1) ?_ ?_
  · rintro i zs H1 hi ⟨s1, e1, rfl⟩ C hC
    refine ⟨keep1.1, keep1.2, iteT ⟨_, rfl, e1, small1000 (by rw [List.length_map, List.length_range]; omega), hC _ _ ⟨s1.change hM, upd_same, ?_⟩⟩⟩
    rw [List.range_succ, List.map_append, Int.zero_add]; rfl
  rintro zs H1 ⟨s1, e1, rfl⟩
  have e1 : H1 M = some (.lst ((mks 20 (rowsB [])).map V.int)) := by
    rw [e1]
    show _ = some (HO.lst ((mks0 20).map V.int))
    unfold mks0
    rw [List.map_map]; rfl
  -- forest, closers
  refine fun F hF => ?_
  have nF : H F = none := s1.free hF
  have sF := same_new hF (.dK [])
  have eF : upd H1 F (.dK []) F = some (.dK []) := upd_same
  generalize upd H1 F (.dK []) = H2 at sF eF ⊢
  refine ⟨by show 0 ≤ sizeLine; decide, fun C hC => ?_⟩
  have nC : H C = none := (s1.trans sF).free hC
  have nFC : F ≠ C := ne_of_none eF hC
  have nMC : M ≠ C := ne_of_none (sF _ _ e1) hC
  have sC := same_new hC (.lst [])
  have eC : upd H2 C (.lst []) C = some (.lst []) := upd_same
  generalize upd H2 C (.lst []) = H3 at sC eC ⊢
  have s3 := s1.trans (sF.trans sC)
  refine ⟨_, rfl, r, us, rfl, .inl (s3.seq hU), (us.length : Int), rfl, by omega, by omega, ?_⟩
  rw [Int.toNat_natCast]
  refine for_range (fun i σ H' => Same H H' ∧ ∃ (M : Addr) (z5 z6 z7 z8 z9 z10 : Option V), σ = [some (.ref r), some (.ref wa), some (.ref M), some (.ref F), some (.ref C), z5, z6, z7, z8, z9, z10] ∧ M ≠ C ∧ H' M = some (.lst ((mks 20 (rowsB (ringF W (skl ds) i).1)).map V.int)) ∧ H' F = some (.dK (rch ((ringF W (skl ds) i).1.map (·.1)))) ∧ H' C = some (.lst ((ringF W (skl ds) i).2.map fun c => V.int (c.1 : Int)))) ⟨s3, M, none, none, none, none, none, none, rfl, nMC, (sF.trans sC) _ _ e1, sC _ _ eF, eC⟩ ?_ ?_
  · rintro i σ H4 hi ⟨s4, M, z5, z6, z7, z8, z9, z10, rfl, nMC, eM, eF4, eC4⟩
    have hi' : i < ds.length := by omega
    obtain ⟨⟨k, u, v, p⟩, hd⟩ : ∃ d, ds[i]? = some d := ⟨_, List.getElem?_eq_getElem hi'⟩
    obtain ⟨t, z, et, hT, fz⟩ := (hR.same s4).at hd
    have at_ : atI us (0 + (i : Int)) = some (.ref t) := by rw [Int.zero_add]; exact atI_nat et
    obtain ⟨u0, u1, v1, v2⟩ : PtOk (m : Int) u v := pt _ (List.mem_of_getElem? hd)
    obtain ⟨uN, rfl⟩ : ∃ n : Nat, u = (n : Int) := ⟨u.toNat, by omega⟩
    obtain ⟨vN, rfl⟩ : ∃ n : Nat, v = (n : Int) := ⟨v.toNat, by omega⟩
    have skd : (skl ds)[i]? = some (k, uN, vN) := by
      have := sk_at hd
      rwa [show ((k, (uN : Int), (vN : Int), p) : RD).2.1.toNat = uN from Int.toNat_natCast uN, show ((k, (uN : Int), (vN : Int), p) : RD).2.2.1.toNat = vN from Int.toNat_natCast vN] at this
    have ri := ringF_ok (W := W) slt i (by omega)
    have bl' := br_len (W := W) (sk := skl ds) i
    have succ := ringF_succ (W := W) skd
    generalize ringF W (skl ds) i = S at eM eF4 eC4 ri bl' succ
    refine ⟨_, rfl, _, rfl, r, us, _, _, rfl, rfl, s4.seq hU, at_, t, _, rfl, hT, rfl, _, _, rfl, _, _, rfl, _, _, rfl, _, _, rfl, rfl, ?_⟩
    have ml20 : (mks 20 (rowsB S.1)).length = 20 := mks_len _ _
    have gi : ∀ {j : Nat}, j < 20 → atI ((mks 20 (rowsB S.1)).map V.int) (j : Int) = some (.int (mk 20 (rowsB S.1) j)) := fun {j} h => atI_nat (by unfold mk; rw [List.getElem?_map, List.getElem?_eq_getElem (by omega), List.getD_eq_getElem?_getD, List.getElem?_eq_getElem (by omega)]; rfl)
    have hu20 : uN < 20 := by omega
    have hv20 : vN < 20 := by omega
    have hin : inV (.str k.wd) ws = W k := hW k
    refine ⟨_, rfl, _, rfl, wa, ws, rfl, .inl (s4.seq hA), rfl, fl, _, rfl, ?_⟩
    have lS2 : S.2.length ≤ 40 := by have := ri.rl; omega
    by_cases hk : W k = true
    · refine ifT (by show (if false = true then _ else inV (V.str k.wd) ws) = true; rw [if_neg (by decide), hin]; exact hk) ?_
      refine ⟨_, rfl, _, rfl, M, _, _, _, rfl, rfl, SqL.of eM, gi hu20, ?_⟩
      refine ⟨_, rfl, _, rfl, M, _, _, _, rfl, rfl, SqL.of eM, gi hv20, rfl, _, rfl, ?_⟩
      rcases ringS_mk h20 ri (d := (k, uN, vN)) ⟨by show uN < m; omega, by show vN < m; omega⟩ hk with ⟨same, st, eS⟩ | ⟨diff, eS⟩
      · refine ifT (decide_eq_true (by rw [show mk 20 (rowsB S.1) uN = mk 20 (rowsB S.1) vN from same])) ?_
        refine ⟨_, rfl, .inl ⟨rfl, _, SqL.of eC4⟩, _, rfl, C, _, _, rfl, rfl, eC4, small1000 (by rw [List.length_map]; omega), ?_⟩
        rw [succ, eS]
        refine ⟨s4.change nC, M, _, _, _, _, _, _, rfl, nMC, by rw [upd_ne nMC]; exact eM, by rw [upd_ne nFC]; exact eF4, ?_⟩
        rw [upd_same, List.map_append, Int.zero_add]; rfl
      · have diff : mk 20 (rowsB S.1) uN ≠ mk 20 (rowsB S.1) vN := diff
        refine ifF (decide_eq_false fun z => diff (by injection z)) ?_
        refine ⟨_, rfl, _, rfl, wa, ws, rfl, .inl (s4.seq hA), rfl, fl, _, rfl, ?_⟩
        refine ifT (by show (if false = true then _ else inV (V.str k.wd) ws) = true; rw [if_neg (by decide), hin]; exact hk) ?_
        -- forest[k] = True
        refine ⟨_, rfl, _, rfl, F, _, rfl, DPut.k (k := Sum.inl (0 + (i : Int))) eF4 (by unfold rch; rw [List.length_map, List.length_map, sizeLine_eq]; omega), ?_⟩
        rw [Int.zero_add]
        have niS : i ∉ S.1.map (·.1) := fun z => by
          obtain ⟨e, he, ee⟩ := List.mem_map.mp z
          have := ri.lt e he
          omega
        rw [rch_put, show addS (S.1.map (·.1)) i = S.1.map (·.1) ++ [i] from if_neg niS]
        have s5 : Same H (upd H4 F (.dK (rch (S.1.map (·.1) ++ [i])))) := s4.change nF
        have nMF : M ≠ F := ne_of eM eF4 (fun z => by cases z)
        have eM5 : upd H4 F (.dK (rch (S.1.map (·.1) ++ [i]))) M = some (.lst ((mks 20 (rowsB S.1)).map V.int)) := by rw [upd_ne nMF]; exact eM
        have eC5 : upd H4 F (.dK (rch (S.1.map (·.1) ++ [i]))) C = some (.lst (S.2.map fun c => V.int (c.1 : Int))) := by rw [upd_ne (Ne.symm nFC)]; exact eC4
        have eF5 : upd H4 F (.dK (rch (S.1.map (·.1) ++ [i]))) F = some (.dK (rch (S.1.map (·.1) ++ [i]))) := upd_same
        generalize upd H4 F (.dK (rch (S.1.map (·.1) ++ [i]))) = H5 at s5 eM5 eC5 eF5 ⊢
        refine ⟨_, rfl, _, rfl, M, _, _, _, rfl, rfl, SqL.of eM5, gi hv20, ?_⟩
        -- marks
        refine ⟨_, rfl, M, rfl, ⟨_, SqL.of eM5⟩, fun D hD => ?_⟩
        have sD := same_new hD (.lst [])
        refine comp_list (xs := (mks 20 (rowsB S.1)).map V.int) (fun j zs H' => Same H5 H' ∧ H' D = some (.lst zs) ∧ zs = ((jn (mks 20 (rowsB S.1)) uN vN).take j).map V.int) ⟨sD, upd_same, rfl⟩ (fun j zs H' h => h.2.1) (fun j zs H' _ h => h.1.seq (SqL.of eM5)) ?_ ?_
        · rintro j zs x H6 hx' ⟨s6, e6, rfl⟩ CC hCC
          rw [List.getElem?_map] at hx'
          obtain ⟨c, hc, rfl⟩ := Option.map_eq_some_iff.mp hx'
          have hj : j < (mks 20 (rowsB S.1)).length := (List.getElem?_eq_some_iff.mp hc).1
          have ej : (jn (mks 20 (rowsB S.1)) uN vN)[j]? = some (if c = mk 20 (rowsB S.1) vN then mk 20 (rowsB S.1) uN else c) := by unfold jn mk; rw [List.getElem?_map, hc]; rfl
          refine ⟨keep1.1, keep1.2, iteT ?_⟩
          refine ⟨_, rfl, _, rfl, rfl, _, rfl, ?_⟩
          by_cases h : c = mk 20 (rowsB S.1) vN
          · rw [if_pos h] at ej
            refine ifT (decide_eq_true (by rw [h])) ⟨_, rfl, _, rfl, M, _, _, _, rfl, rfl, SqL.of (s6 _ _ eM5), gi hu20, e6, small1000 (by rw [List.length_map, List.length_take]; omega), hCC _ _ ⟨s6.change hD, upd_same, ?_⟩⟩
            rw [List.take_add_one, ej, List.map_append]; rfl
          · rw [if_neg h] at ej
            refine ifF (decide_eq_false (fun z => h (by injection z))) ⟨_, rfl, e6, small1000 (by rw [List.length_map, List.length_take]; omega), hCC _ _ ⟨s6.change hD, upd_same, ?_⟩⟩
            rw [List.take_add_one, ej, List.map_append]; rfl
        · rintro zs H6 ⟨s6, e6, rfl⟩
          have lj : (jn (mks 20 (rowsB S.1)) uN vN).length = (mks 20 (rowsB S.1)).length := by unfold jn; rw [List.length_map]
          rw [List.length_map, ← lj, List.take_length] at e6
          have nDC : D ≠ C := Ne.symm (ne_of_none eC5 hD)
          rw [succ, eS]
          refine ⟨s5.trans s6, D, _, _, _, _, _, _, rfl, nDC, by rw [e6, mks_br], ?_, s6 _ _ eC5⟩
          rw [s6 _ _ eF5, List.map_append]; rfl
    · have hkf : W k = false := by simpa using hk
      refine ifF (by show (if false = true then _ else inV (V.str k.wd) ws) = false; rw [if_neg (by decide), hin]; exact hkf) (ifF rfl ?_)
      refine ⟨_, rfl, _, rfl, wa, ws, rfl, .inl (s4.seq hA), rfl, fl, _, rfl, ?_⟩
      refine ifF (by show (if false = true then _ else inV (V.str k.wd) ws) = false; rw [if_neg (by decide), hin]; exact hkf) ?_
      have eS : ringS W S i (k, uN, vN) = S := by
        unfold ringS
        rw [if_neg hk]
      rw [succ, eS]
      exact ⟨s4, M, _, _, _, _, _, _, rfl, nMC, eM, eF4, eC4⟩
  rintro σ H4 ⟨s4, M, z5, z6, z7, z8, z9, z10, rfl, nMC, eM, eF4, eC4⟩
  rw [lus] at eF4 eC4
  refine ⟨_, rfl, _, rfl, by show 2 ≤ sizeLine; decide, fun t ht => ?_⟩
  have sT := same_new ht (.tup [.ref F, .ref C])
  exact q t F C _ (s4.trans sT) (SqT.of upd_same) (sT _ _ eF4) (sT _ _ eC4)
end
end K32

set_option Elab.async false
set_option linter.all false
set_option maxRecDepth 100000
set_option maxHeartbeats 4000000
namespace K32
open PySem L2
section
variable {P : Program} {w : World} {K : PySem.W.Frag} {mg : Str → Option Value} {base : Heap} {f g1 g2 g3 g4 g5 g6 g7 g8 : Addr} {fd gd1 gd2 gd3 gd4 gd5 gd6 gd7 gd8 : FuncData} {CX : CXT}
variable {CR : Addr} {CK : Kd → Addr} {fW fJ fT fS : Kd → Addr} {fdW fdJ fdT fdS : Kd → FuncData}
def spAnInt : Sp := fun vs H Q _ => ∃ i : Int, vs = [.int i] ∧ Q (.bl true) H
abbrev sAnInt : Stmt := top 46
theorem scAnInt : FnScope ["_law_found"] ["_law_found"] (defScope sAnInt) := ⟨rfl, rfl, rfl, by decide +kernel, rfl, by decide +kernel, by decide +kernel⟩
theorem ok_anint {dV : Value} (F : FunD K "_law_an_int" "_law_an_int" sAnInt dV f fd)
    (b : Bl mg) :
    FnOk P w K mg base CX 1 f fd ["_law_found"] spAnInt := by
  refine F.ok scAnInt (fun vs H Q E h => ?_) (fun cdv A outer s H vs Q E hr h => ?_)
  · obtain ⟨i, rfl, q⟩ := h
    rfl
  obtain ⟨i, rfl, q⟩ := h
  refine ⟨_, (pss_one (ps_ret (pe_and (pe_isiQ (i := 0) rfl (Or.inl rfl) b.isi b.int rfl rfl PyProof.Rows.boot_int) (pe_and (pe_cmpR op_isnotI (pv 0) pe_bl (nomark _)) (pe_one (pe_cmpR op_isnotI (pv 0) pe_bl (nomark _))))))), ?_⟩
  exact ⟨_, _, true, rfl, .of (.int i), rfl, _, rfl, iteT ⟨_, rfl, i, _, rfl, rfl, _, rfl, iteT ⟨_, rfl, i, _, rfl, rfl, q⟩⟩⟩
/-- a ring as it must be -/
structure RgOk (ds : List RD) (ks : List Nat) (k : Nat) (ring : List Stp) : Prop where
  e : ∃ (kd : Kd) (u v : Nat) (p : Mq.Q2) (st : List Stp) (es : List Br) (pts : List Nat), ds[k]? = some (kd, (u : Int), (v : Int), p) ∧ ring = (k, 1) :: st ∧ (∀ t ∈ st, t.1 < k ∧ t.1 ∈ ks) ∧ BrOk ds es ∧ Chain es v u st pts ∧ st.length ≤ 20
def spRing (K : PySem.W.Frag) : Sp := fun vs H Q _ => ∃ (x r F : Addr) (k : Nat) (xs us : List V) (ds : List RD) (ks : List Nat) (ring : List Stp), vs = [.ref x, .int (k : Int), .ref r, .ref F] ∧ SqL K H x xs ∧ Sts K H xs ring ∧ SqL K H r us ∧ Rts K H us ds ∧ H F = some (.dK (rch ks)) ∧ RgOk ds ks k ring ∧ ∀ H', Same H H' → Q (.bl true) H'
theorem rch_len (S : List Nat) : (rch S).length = S.length := by unfold rch; rw [List.length_map]
theorem bx (w : Nat) (S : List Nat) : (if w ∈ S then some (V.bl true) else none : Option V).isSome = decide (w ∈ S) := by by_cases c : w ∈ S <;> simp [c]
theorem take_nums {ring : List Stp} {j : Nat} {s : Stp} (nd : (ring.map (·.1)).Nodup) (h : ring[j]? = some s) : s.1 ∉ (ring.take j).map (·.1) ∧ (ring.take (j + 1)).map (·.1) = addS ((ring.take j).map (·.1)) s.1 := by
  have n : s.1 ∉ (ring.take j).map (·.1) := fun z => by
    have e : ring = ring.take j ++ s :: ring.drop (j + 1) := by
      obtain ⟨hl, he⟩ := List.getElem?_eq_some_iff.mp h
      rw [← he, ← List.drop_eq_getElem_cons hl, List.take_append_drop]
    rw [e, List.map_append, List.nodup_append] at nd
    exact nd.2.2 _ z _ (by simp) rfl
  refine ⟨n, ?_⟩
  unfold addS
  rw [if_neg n, List.take_add_one, h, List.map_append]; rfl
abbrev sRing : Stmt := top 51
theorem scRing : FnScope ["_law_found", "_law_closer", "_law_rows_here", "_law_forest", "_law_at", "_law_seen", "_law_step", "_law_number", "_law_way", "_law_here", "_law_there"] ["_law_found", "_law_closer", "_law_rows_here", "_law_forest"] (defScope sRing) := ⟨rfl, rfl, rfl, by decide +kernel, rfl, by decide +kernel, by decide +kernel⟩
theorem ok_ring {dV : Value} (F : FunD K "_law_ring" "_law_ring" sRing dV f fd)
    (b : Bl mg) (ml : mg "len" = none) (mli : mg "list" = none) (mt : mg "tuple" = none)
    (G1 : FnOk P w K mg base CX0 1 g1 gd1 ["_law_found"] spAnInt) (b1 : Binds K gd1 ["_law_found"] []) (k1 : PySem.W.keepIn K (.ref g1) = true) (m1 : mg "_law_an_int" = some (.ref g1)) :
    FnOk P w K mg base CX 2 f fd ["_law_found", "_law_closer", "_law_rows_here", "_law_forest"] (spRing K) := by
  refine F.ok scRing (fun vs H Q E h => ?_) (fun cdv A outer s H vs Q E hr h => ?_)
  · obtain ⟨x, r, F, k, xs, us, ds, ks, ring, rfl, hX, hS, hU, hR, eF, ⟨kd, u, v, p, st, es, pts, hd, hring, hlt, bo, ch, h20⟩, q⟩ := h
    rfl
  obtain ⟨x, r, F, k, xs, us, ds, ks, ring, rfl, hX, hS, hU, hR, eF, ⟨kd, u, v, p, st, es, pts, hd, hring, hlt, bo, ch, h20⟩, q⟩ := h
  have hu := hr.units
  refine ⟨_, (pss_cons (ps_if (PW.pt (pw_or (pt_not (pt_val (pe_isiQ (i := 0) rfl (Or.inl rfl) b.isi mli rfl rfl PyProof.Rows.boot_list))) (pw_or1 (pt_cmpR op_eq (pe_callB call_len_seq rfl ml PySem.boot_len (pa_cons (pv 0) pa_nil)) pe_int (nomark _))))) (pss_one (ps_ret pe_bl)) pss_nil)
    (pss_cons (ps_set (i := 4) scRing.nd rfl (Or.inl rfl) (pe_ix ix_tup (pe_ix ix_list (pv 2) (pv 1) (fun _ _ => rfl)) pe_int (fun _ _ => rfl)))
    (pss_cons (ps_set (i := 5) scRing.nd rfl (Or.inl rfl) pe_dnewK)
    (pss_cons (ps_for PassesOwn.never rfl (pi_list (pv 0)) (pg_name (i := 6) scRing.nd rfl (Or.inl rfl))
      (pss_cons (ps_if (PW.pt (pw_or (pt_not (pt_val (pe_isiQ (i := 6) rfl (Or.inl rfl) b.isi mt rfl rfl PyProof.Rows.boot_tuple))) (pw_or (pt_cmpR op_ne (pe_callB call_len_seq rfl ml PySem.boot_len (pa_cons (pv 6) pa_nil)) pe_int (nomark _)) (pw_or (pt_not (pt_val (pe_call G1 hr rfl m1 k1 b1 .nil pass0 (pa_cons (pe_ix ix_tup (pv 6) pe_int (fun _ _ => rfl)) pa_nil)))) (pw_or1 (pt_not (pt_val (pe_call G1 hr rfl m1 k1 b1 .nil pass0 (pa_cons (pe_ix ix_tup (pv 6) pe_int (fun _ _ => rfl)) pa_nil))))))))) (pss_one (ps_ret pe_bl)) pss_nil)
    (pss_cons (ps_asg (pv 6) (pg_tup rfl (pgs_cons (pg_name (i := 7) scRing.nd rfl (Or.inl rfl)) (pgs_cons (pg_name (i := 8) scRing.nd rfl (Or.inl rfl)) pgs_nil))))
    (pss_cons (ps_if (PW.pt (pw_or (PW.pt (pw_and (pt_cmpR op_eq (pe_callB call_lenD rfl ml PySem.boot_len (pa_cons (pv 5) pa_nil)) pe_int (nomark _)) (pw_and1 (pt_cmpR (op_neD hu) (pv 6) (pe_tup (pa_cons (pv 1) (pa_cons pe_int pa_nil))) (nomark _))))) (pw_or (pt_cmp (pc_din (hu_of hr) (pv 7) (pv 5))) (pw_or1 (PW.pt (pw_and (pt_cmpR op_ne (pv 8) pe_int (nomark _)) (pw_and1 (pt_cmpR op_ne (pv 8) (pe_un un_neg pe_int) (nomark _))))))))) (pss_one (ps_ret pe_bl)) pss_nil)
    (pss_cons (ps_if (PW.pt (pw_and (pt_cmpR op_gt (pe_callB call_lenD rfl ml PySem.boot_len (pa_cons (pv 5) pa_nil)) pe_int (nomark _)) (pw_and1 (PW.pt (pw_or (pt_cmpR op_ge (pv 7) (pv 1) (nomark _)) (pw_or1 (pt_cmp (pc_dnotin (hu_of hr) (pv 7) (pv 3))))))))) (pss_one (ps_ret pe_bl)) pss_nil)
    (pss_cons (ps_dput (hu_of hr) (pv 5) (pv 7) pe_bl rfl)
    (pss_cons (ps_asg (pe_slice sl_tup (pe_ix ix_list (pv 2) (pv 7) (fun _ _ => rfl)) (po_some pe_int) (po_some pe_int)) (pg_tup rfl (pgs_cons (pg_name (i := 9) scRing.nd rfl (Or.inl rfl)) (pgs_cons (pg_name (i := 10) scRing.nd rfl (Or.inl rfl)) pgs_nil))))
    (pss_cons (ps_if (pt_cmpR op_eq (pv 8) (pe_un un_neg pe_int) (nomark _)) (pss_one (ps_par (i := 9) (j := 10) rfl scRing.nd rfl rfl (by decide) rfl rfl (pa_cons (pv 10) (pa_cons (pv 9) pa_nil)) rfl)) pss_nil)
    (pss_cons (ps_if (pt_cmpR op_ne (pv 9) (pv 4) (nomark _)) (pss_one (ps_ret pe_bl)) pss_nil)
    (pss_one (ps_set (i := 4) scRing.nd rfl (Or.inl rfl) (pv 10))))))))))))
    (pss_one (ps_ret (pe_cmpR op_eq (pv 4) (pe_ix ix_tup (pe_ix ix_list (pv 2) (pv 1) (fun _ _ => rfl)) pe_int (fun _ _ => rfl)) (nomark _)))))))), ?_⟩
  have lx := hS.length
  have lring : ring.length = st.length + 1 := by rw [hring]; rfl
  have lus := hR.length
  have hk : k < ds.length := (List.getElem?_eq_some_iff.mp hd).1
  obtain ⟨t0, z0, et0, hT0, fz0⟩ := hR.at hd
  have at0 : atI us (k : Int) = some (.ref t0) := atI_nat et0
  have nd : (ring.map (·.1)).Nodup := by
    rw [hring, List.map_cons, List.nodup_cons]
    refine ⟨fun z => ?_, ch.n⟩
    obtain ⟨s, hs, e⟩ := List.mem_map.mp z
    have e : s.1 = k := e
    have := (hlt s hs).1
    omega
  refine ⟨_, _, true, rfl, .lst hX, rfl, _, rfl, iteF ⟨_, rfl, x, _, rfl, .inl hX, rfl, _, rfl, ?_⟩⟩
  refine ifF (by show decide (V.int (xs.length : Int) = V.int 0) = false; exact decide_eq_false fun z => by injection z with z; omega) ?_
  refine ⟨_, rfl, _, rfl, r, us, _, _, rfl, rfl, hU, at0, t0, _, 1, _, rfl, rfl, hT0, rfl, ?_⟩
  refine fun D hD => ?_
  have s1 := same_new hD (.dK [])
  have eD : upd H D (.dK []) D = some (.dK []) := upd_same
  generalize upd H D (.dK []) = H1 at s1 eD ⊢
  have pos : ∀ j, j ≤ ring.length → ∃ q, (u :: pts)[j]? = some q := fun j hj => ⟨_, List.getElem?_eq_getElem (by rw [List.length_cons, ch.l]; omega)⟩
  refine ⟨_, rfl, x, rfl, ⟨_, s1.seq hX⟩, ?_⟩
  refine for_list (xs := xs) (fun j σ H' => Same H H' ∧ j ≤ ring.length ∧ ∃ (a : Nat) (z6 z7 z8 z9 z10 : Option V), σ = [some (.ref x), some (.int (k : Int)), some (.ref r), some (.ref F), some (.int (a : Int)), some (.ref D), z6, z7, z8, z9, z10] ∧ (u :: pts)[j]? = some a ∧ H' D = some (.dK (rch ((ring.take j).map (·.1))))) ⟨s1, Nat.zero_le _, u, none, none, none, none, none, rfl, rfl, eD⟩ (fun j σ H' _ h => h.1.seq hX) ?_ ?_
  · rintro j xx σ H2 hx ⟨s2, hjl, a, z6, z7, z8, z9, z10, rfl, ea, e2⟩
    obtain ⟨tt, s, rfl, es', hT⟩ := (hS.same s2).get hx
    have hj : j < ring.length := (List.getElem?_eq_some_iff.mp es').1
    obtain ⟨nin, tk⟩ := take_nums nd es'
    have lD : ((ring.take j).map (·.1)).length = j := by rw [List.length_map, List.length_take]; omega
    -- the row that is gone along
    have go : ∃ (kd' : Kd) (u' v' : Nat) (p' : Mq.Q2) (nx : Nat), ds[s.1]? = some (kd', (u' : Int), (v' : Int), p') ∧ (u :: pts)[j + 1]? = some nx ∧ ((s.2 = 1 ∧ a = u' ∧ nx = v') ∨ (s.2 = -1 ∧ a = v' ∧ nx = u')) ∧ (j = 0 → s = (k, 1)) ∧ (0 < j → s.1 < k ∧ s.1 ∈ ks) := by
      rw [hring] at es'
      cases j with
      | zero =>
        have e : (k, (1 : Int)) = s := by simpa using es'
        subst e
        have ea : u = a := by simpa using ea
        exact ⟨kd, u, v, p, v, hd, by show pts[0]? = some v; exact ch.hb, .inl ⟨rfl, ea.symm, rfl⟩, fun _ => rfl, fun h => absurd h (Nat.lt_irrefl _)⟩
      | succ j =>
        have es' : st[j]? = some s := by simpa using es'
        have ea : pts[j]? = some a := by simpa using ea
        obtain ⟨pp, qq, h1, h2, u', v', h3, h4⟩ := ch.g j s es'
        have : pp = a := by rw [h1] at ea; exact Option.some.inj ea
        subst this
        obtain ⟨⟨kd', i', j', p'⟩, hd', e1, e2⟩ := bo _ h3
        have e1 : i' = (u' : Int) := e1
        have e2 : j' = (v' : Int) := e2
        subst e1; subst e2
        exact ⟨kd', u', v', p', qq, hd', by show pts[j + 1]? = some qq; exact h2, h4, fun h => absurd h (Nat.succ_ne_zero _), fun _ => hlt s (List.mem_of_getElem? es')⟩
    obtain ⟨kd', u', v', p', nx, hd', enx, hgo, h0, h1⟩ := go
    obtain ⟨t1, z1, et1, hT1, fz1⟩ := (hR.same s2).at hd'
    have at1 : atI us (s.1 : Int) = some (.ref t1) := atI_nat et1
    -- it is a tuple of two numbers
    refine ⟨_, _, true, rfl, .tup hT, rfl, _, rfl, iteF ⟨_, rfl, tt, _, rfl, .inr hT, rfl, _, rfl, iteF ?_⟩⟩
    refine ⟨_, rfl, tt, _, 0, _, rfl, rfl, hT, rfl, (s.1 : Int), rfl, _, rfl, iteF ?_⟩
    refine ⟨_, rfl, tt, _, 1, _, rfl, rfl, hT, rfl, s.2, rfl, _, rfl, iteF ?_⟩
    refine ⟨_, rfl, tt, _, rfl, hT, rfl, _, _, rfl, _, _, rfl, rfl, ?_⟩
    -- the first condition
    dsimp only
    refine cut1 (fun σ' H' => Same H2 H' ∧ σ' = [some (.ref x), some (.int (k : Int)), some (.ref r), some (.ref F), some (.int (a : Int)), some (.ref D), some (.ref tt), some (.int (s.1 : Int)), some (.int s.2), z9, z10]) (fun X hX' => ?_) ?_
    · refine ⟨_, rfl, D, _, rfl, e2, rfl, _, rfl, ?_⟩
      have wayok : s.2 = 1 ∨ s.2 = -1 := by rcases hgo with ⟨h, _⟩ | ⟨h, _⟩ <;> simp [h]
      rw [rch_len, lD]
      by_cases hj0 : j = 0
      · subst hj0
        refine iteT ?_
        have hs := h0 rfl
        refine ⟨_, rfl, _, rfl, by show 2 ≤ sizeLine; decide, fun t2 ht2 => ?_⟩
        have s3 := same_new ht2 (.tup [.int (k : Int), .int 1])
        have f2 : Fq K (upd H2 t2 (.tup [.int (k : Int), .int 1])) t2 ((k : Int), 1) := Fq.of upd_same
        generalize upd H2 t2 (.tup [.int (k : Int), .int 1]) = H3 at s3 f2 ⊢
        have f1 : Fq K H3 tt ((k : Int), 1) := by
          have := s3.seqT hT
          rw [hs] at this
          exact this
        refine rd_eqF f1 f2 ⟨_, rfl, ?_⟩
        rw [decide_eq_true rfl]
        refine iteF ?_
        refine ⟨_, rfl, _, rfl, D, _, rfl, DGet.k (k := Sum.inl (s.1 : Int)) (s3 _ _ e2), _, rfl, ?_⟩
        rw [rch_val, bx, decide_eq_false nin]
        refine iteF ?_
        refine ⟨_, rfl, rfl, _, rfl, ?_⟩
        rcases wayok with h | h
        · rw [h]
          exact iteF (iteF (hX' _ _ ⟨s3, by rw [h]; rfl⟩))
        · rw [h]
          refine iteT ⟨_, rfl, _, rfl, rfl, _, rfl, iteF (hX' _ _ ⟨s3, by rw [h]; rfl⟩)⟩
      · have s3 := Same.refl H2
        refine ifF (by show decide (V.int (j : Int) = V.int 0) = false; exact decide_eq_false fun z => hj0 (by injection z with z; omega)) ?_
        refine iteF ?_
        refine ⟨_, rfl, _, rfl, D, _, rfl, DGet.k (k := Sum.inl (s.1 : Int)) (s3 _ _ e2), _, rfl, ?_⟩
        rw [rch_val, bx, decide_eq_false nin]
        refine iteF ?_
        refine ⟨_, rfl, rfl, _, rfl, ?_⟩
        rcases wayok with h | h
        · rw [h]
          exact iteF (iteF (hX' _ _ ⟨s3, by rw [h]; rfl⟩))
        · rw [h]
          refine iteT ⟨_, rfl, _, rfl, rfl, _, rfl, iteF (hX' _ _ ⟨s3, by rw [h]; rfl⟩)⟩
    rintro σ' H3 ⟨s3, rfl⟩
    have e3 := s3 _ _ e2
    have eF3 := (s2.trans s3) _ _ eF
    have nFD : F ≠ D := fun z => by rw [z, hD] at eF; cases eF
    refine cut1 (fun σ' H' => H' = H3 ∧ σ' = [some (.ref x), some (.int (k : Int)), some (.ref r), some (.ref F), some (.int (a : Int)), some (.ref D), some (.ref tt), some (.int (s.1 : Int)), some (.int s.2), z9, z10]) (fun X hX' => ?_) ?_
    · refine ⟨_, rfl, D, _, rfl, e3, _, _, rfl, rfl, _, rfl, ?_⟩
      rw [rch_len, lD]
      by_cases hj0 : j = 0
      · exact ifF (by show decide ((0 : Int) < (j : Int)) = false; exact decide_eq_false (by omega)) (iteF (hX' _ _ ⟨rfl, rfl⟩))
      · obtain ⟨hlk, hks⟩ := h1 (by omega)
        refine ifT (by show decide ((0 : Int) < (j : Int)) = true; exact decide_eq_true (by omega)) ?_
        refine ⟨_, rfl, _, rfl, _, _, rfl, rfl, _, rfl, ?_⟩
        refine ifF (by exact decide_eq_false (by omega)) ?_
        refine ⟨_, rfl, _, rfl, F, _, rfl, DGet.k (k := Sum.inl (s.1 : Int)) eF3, _, rfl, ?_⟩
        rw [rch_val, bx, decide_eq_true hks]
        exact iteF (hX' _ _ ⟨rfl, rfl⟩)
    rintro σ' H' ⟨hH', rfl⟩
    subst hH'
    -- seen
    refine ⟨_, rfl, _, rfl, D, _, rfl, DPut.k (k := Sum.inl (s.1 : Int)) e3 (by rw [rch_len, lD, sizeLine_eq]; omega), ?_⟩
    rw [rch_put, ← tk]
    have s4 : Same H (upd H' D (.dK (rch ((ring.take (j + 1)).map (·.1))))) := (s2.trans s3).change hD
    have e4 : upd H' D (.dK (rch ((ring.take (j + 1)).map (·.1)))) D = some (.dK (rch ((ring.take (j + 1)).map (·.1)))) := upd_same
    generalize upd H' D (.dK (rch ((ring.take (j + 1)).map (·.1)))) = H4 at s4 e4 ⊢
    obtain ⟨t1, z1, et1, hT1, fz1⟩ := (hR.same s4).at hd'
    have at1 : atI us (s.1 : Int) = some (.ref t1) := atI_nat et1
    refine ⟨_, rfl, _, rfl, r, us, _, _, rfl, rfl, s4.seq hU, at1, 1, rfl, 3, rfl, t1, _, rfl, hT1, (fun h => absurd (show HT.sIx 4 0 (some 1) = 0 from h.1) (by decide)), fun p5 hp5 => ?_⟩
    have ec : cutV [.str ((kd', (u' : Int), (v' : Int), p') : RD).1.wd, .int ((kd', (u' : Int), (v' : Int), p') : RD).2.1, .int ((kd', (u' : Int), (v' : Int), p') : RD).2.2.1, .ref z1] (some 1) (some 3) = [.int (u' : Int), .int (v' : Int)] := rfl
    rw [ec]
    have s5 := same_new hp5 (.tup [.int (u' : Int), .int (v' : Int)])
    have e5 : SqT K (upd H4 p5 (.tup [.int (u' : Int), .int (v' : Int)])) p5 [.int (u' : Int), .int (v' : Int)] := SqT.of upd_same
    generalize upd H4 p5 (.tup [.int (u' : Int), .int (v' : Int)]) = H5 at s5 e5 ⊢
    refine ⟨p5, _, rfl, e5, rfl, _, _, rfl, _, _, rfl, rfl, ?_⟩
    refine ⟨_, rfl, _, rfl, rfl, _, rfl, ?_⟩
    rcases hgo with ⟨hw, rfl, rfl⟩ | ⟨hw, rfl, rfl⟩
    · refine ifF (by rw [hw]; rfl) ?_
      refine ⟨_, rfl, _, rfl, rfl, _, rfl, ifF (by show (!decide (V.int (a : Int) = V.int (a : Int))) = false; rw [decide_eq_true rfl]; rfl) ?_⟩
      exact ⟨_, rfl, s4.trans s5, hj, nx, _, _, _, _, _, rfl, enx, s5 _ _ e4⟩
    · refine ifT (by rw [hw]; rfl) ?_
      refine ⟨_, rfl, _, rfl, _, _, rfl, ?_⟩
      refine ⟨_, rfl, _, rfl, rfl, _, rfl, ifF (by show (!decide (V.int (a : Int) = V.int (a : Int))) = false; rw [decide_eq_true rfl]; rfl) ?_⟩
      exact ⟨_, rfl, s4.trans s5, hj, nx, _, _, _, _, _, rfl, enx, s5 _ _ e4⟩
  rintro σ H2 ⟨s2, hjl, a, z6, z7, z8, z9, z10, rfl, ea, e2⟩
  have ea' : a = u := by
    rw [lx, lring] at ea
    have h : pts[st.length]? = some a := by simpa using ea
    rw [ch.he] at h
    exact (Option.some.inj h).symm
  obtain ⟨t1, z1, et1, hT1, fz1⟩ := (hR.same s2).at hd
  refine ⟨_, rfl, _, rfl, _, rfl, r, us, _, _, rfl, rfl, s2.seq hU, at0, t0, _, 1, _, rfl, rfl, s2.seqT hT0, rfl, rfl, ?_⟩
  rw [ea']
  have : decide (V.int (u : Int) = V.int (u : Int)) = true := decide_eq_true rfl
  show Q (.bl (decide (V.int (u : Int) = V.int (u : Int)))) H2
  rw [this]
  exact q H2 s2
end
end K32

set_option Elab.async false
set_option linter.all false
set_option maxRecDepth 100000
set_option maxHeartbeats 4000000
namespace K32
open PySem L2
section
variable {P : Program} {w : World} {K : PySem.W.Frag} {mg : Str → Option Value} {base : Heap} {f g1 g2 g3 g4 g5 g6 g7 g8 : Addr} {fd gd1 gd2 gd3 gd4 gd5 gd6 gd7 gd8 : FuncData} {CX : CXT}
variable {CR : Addr} {CK : Kd → Addr} {fW fJ fT fS : Kd → Addr} {fdW fdJ fdT fdS : Kd → FuncData}
def szOf (ds : List RD) (s : Stp) : Mq.Q2 := (ds.getD s.1 (.pc, 0, 0, (0, 1))).2.2.2
def stT (ds : List RD) (a : Int × Int) (s : Stp) : Int × Int := (a.1 * (szOf ds s).2 + s.2 * (szOf ds s).1 * a.2, a.2 * (szOf ds s).2)
def sumT (ds : List RD) (st : List Stp) : Int × Int := st.foldl (stT ds) (0, 1)
theorem sumT_snoc (ds : List RD) (st : List Stp) (s : Stp) : sumT ds (st ++ [s]) = stT ds (sumT ds st) s := by unfold sumT; rw [List.foldl_append]; rfl
def StOk (ds : List RD) (st : List Stp) : Prop := ∀ s ∈ st, s.1 < ds.length ∧ (s.2 = 1 ∨ s.2 = -1)
abbrev SzOk (ds : List RD) : Prop := ∀ d ∈ ds, Mq.Low d.2.2.2 ∧ Mq.Bd 30 d.2.2.2
theorem sz_at {ds : List RD} {s : Stp} (hK : SzOk ds) (h : s.1 < ds.length) : Mq.Low (szOf ds s) ∧ Mq.Bd 30 (szOf ds s) := by
  have hd : ds[s.1]? = some ds[s.1] := List.getElem?_eq_getElem h
  have eg : ds.getD s.1 (.pc, 0, 0, (0, 1)) = ds[s.1] := by rw [List.getD_eq_getElem?_getD, hd]; rfl
  unfold szOf
  rw [eg]
  exact hK _ (List.mem_of_getElem? hd)
theorem B_add {n : Nat} {a b : Int} (h1 : Mq.B n a) (h2 : Mq.B n b) : Mq.B (n + 1) (a + b) := by
  unfold Mq.B at h1 h2 ⊢
  have : (2 : Nat) ^ (n + 1) = 2 * 2 ^ n := by rw [Nat.pow_succ]; omega
  omega
theorem w_B {w : Int} (h : w = 1 ∨ w = -1) : Mq.B 1 w := by
  rcases h with rfl | rfl
  · exact show (1 : Nat) < 2 ^ 1 by decide
  · exact show (1 : Nat) < 2 ^ 1 by decide
theorem sumT_ok {ds : List RD} (hK : SzOk ds) : ∀ (n : Nat) {st : List Stp}, st.length = n → StOk ds st → 1 ≤ (sumT ds st).2 ∧ Mq.B (2 + 33 * n) (sumT ds st).1 ∧ Mq.B (2 + 33 * n) (sumT ds st).2 ∧ ((sumT ds st).1 : Rat) / ((sumT ds st).2 : Rat) = Mq.rsum ((st.map (term1 ds)).map Mq.val)
  | 0, st, hl, _ => by
    have : st = [] := List.length_eq_zero_iff.mp hl
    subst this
    refine ⟨show (1 : Int) ≤ 1 by decide, show (0 : Nat) < 2 ^ 2 by decide, show (1 : Nat) < 2 ^ 2 by decide, ?_⟩
    show ((0 : Int) : Rat) / ((1 : Int) : Rat) = 0
    simp; grind
  | n + 1, st, hl, h => by
    obtain ⟨su, s, rfl⟩ : ∃ su s, st = su ++ [s] := ⟨st.dropLast, st.getLast (by intro z; rw [z] at hl; simp at hl), (List.dropLast_concat_getLast _).symm⟩
    have hq : su.length = n := by simpa using hl
    obtain ⟨b1, b2, b3, b4⟩ := sumT_ok hK n hq fun x hx => h x (List.mem_append.mpr (.inl hx))
    obtain ⟨hs1, hs2⟩ := h s (by simp)
    obtain ⟨lz, bz⟩ := sz_at hK hs1
    obtain ⟨er, lw, _⟩ := w_low hs2
    rw [sumT_snoc]
    have zp := lz.pos
    have vt : Mq.val (term1 ds s) = (s.2 : Rat) * Mq.val (szOf ds s) := by
      show Mq.val (Mq.times (Mq.red s.2 1) (szOf ds s)) = _
      rw [er, Mq.val_times lw.pos lz.pos]
      show Mq.val (s.2, 1) * _ = _
      unfold Mq.val
      simp
      grind
    refine ⟨?_, ?_, ?_, ?_⟩
    · show 1 ≤ (sumT ds su).2 * (szOf ds s).2
      have := Int.mul_pos (show 0 < (sumT ds su).2 by omega) (show 0 < (szOf ds s).2 by omega)
      omega
    · show Mq.B (2 + 33 * (n + 1)) ((sumT ds su).1 * (szOf ds s).2 + s.2 * (szOf ds s).1 * (sumT ds su).2)
      have e1 : Mq.B (2 + 33 * n + 31) ((sumT ds su).1 * (szOf ds s).2) := (b2.mul bz.b).mono (by omega)
      have e2 : Mq.B (2 + 33 * n + 31) (s.2 * (szOf ds s).1 * (sumT ds su).2) := (((w_B hs2).mul bz.a).mul b3).mono (by omega)
      exact (B_add e1 e2).mono (by omega)
    · show Mq.B (2 + 33 * (n + 1)) ((sumT ds su).2 * (szOf ds s).2)
      exact (b3.mul bz.b).mono (by omega)
    · rw [List.map_append, List.map_append, Mq.rsum_app, ← b4]
      show ((((sumT ds su).1 * (szOf ds s).2 + s.2 * (szOf ds s).1 * (sumT ds su).2 : Int)) : Rat) / (((sumT ds su).2 * (szOf ds s).2 : Int) : Rat) = _ + Mq.rsum [Mq.val (term1 ds s)]
      have n1 := Mq.cast_ne (show (sumT ds su).2 ≠ 0 by omega)
      have n2 := Mq.cast_ne (show (szOf ds s).2 ≠ 0 by omega)
      show _ = _ + (Mq.val (term1 ds s) + 0)
      rw [vt, Rat.intCast_add, Rat.intCast_mul, Rat.intCast_mul, Rat.intCast_mul, Rat.intCast_mul]
      unfold Mq.val
      grind
theorem sumT_tot {ds : List RD} {st : List Stp} (hK : SzOk ds) (h : StOk ds st) : Mq.red (sumT ds st).1 (sumT ds st).2 = Mq.tot (st.map (term1 ds)) ∧ Mq.Low (Mq.tot (st.map (term1 ds))) := by
  obtain ⟨b1, _, _, b4⟩ := sumT_ok hK _ rfl h
  have ps := terms_pos hK h
  have lt := Mq.tot_low ps
  refine ⟨Mq.low_ext (Mq.red_low (by omega)) lt ?_, lt⟩
  rw [Mq.val_red (by omega), b4, Mq.val_tot ps]
/-- rings as they are asked for again -/
def Fnd (K : PySem.W.Frag) (H : Hp) (ds : List RD) (fs : List V) : Prop := ∀ x ∈ fs, ∃ (a : Addr) (xs : List V) (st : List Stp), x = .ref a ∧ SqL K H a xs ∧ Sts K H xs st ∧ st.length ≤ 21 ∧ StOk ds st
def spSums (CN : Addr) (K : PySem.W.Frag) : Sp := fun vs H Q _ => ∃ (n l fd r : Addr) (m : Int) (ds : List RD) (fs us : List V), vs = [.ref n, .ref fd, .ref r] ∧ NetAt CN K H n l m ds ∧ ds.length ≤ 100 ∧ SzOk ds ∧ SqL K H fd fs ∧ Fnd K H ds fs ∧ SqL K H r us ∧ Rts K H us ds ∧ ∀ H', Same H H' → Q (.bl true) H'
def sdd (st : List Stp) : PyData := .list (st.map fun s => .tuple [.int (s.1 : Int), .int s.2])
theorem sts_dat {K : PySem.W.Frag} {H : Hp} : ∀ {xs : List V} {st : List Stp}, Sts K H xs st → DatVs K H xs (st.map fun s => .tuple [.int (s.1 : Int), .int s.2])
  | _, _, .nil => .nil
  | _, _, .cons h q => .cons (.tup h (.cons (.int _) (.cons (.int _) .nil))) (sts_dat q)
theorem sdd_lay0 : ∀ st : List Stp, PyData.canLayAll0 (st.map fun s => PyData.tuple [.int (s.1 : Int), .int s.2]) = true
  | [] => rfl
  | s :: st => by
    show ((PyData.tuple [.int (s.1 : Int), .int s.2]).canLay0 && PyData.canLayAll0 (st.map fun s => PyData.tuple [.int (s.1 : Int), .int s.2])) = true
    rw [sdd_lay0 st]; rfl
theorem sdd_lay (st : List Stp) : (sdd st).canLay0 = true := sdd_lay0 st
theorem sdd_dep0 : ∀ st : List Stp, PyData.depthAll (st.map fun s => PyData.tuple [.int (s.1 : Int), .int s.2]) ≤ 3
  | [] => by simp [PyData.depthAll]
  | s :: st => by
    have b := sdd_dep0 st
    have a : (PyData.tuple [.int (s.1 : Int), .int s.2]).depth ≤ 3 := by simp [PyData.depth, PyData.depthAll]
    simp only [List.map_cons, PyData.depthAll]
    omega
theorem sdd_dep (st : List Stp) : (sdd st).depth ≤ 5 := by
  have := sdd_dep0 st
  unfold sdd
  simp only [PyData.depth]
  omega
abbrev sSums : Stmt := top 54
theorem scSums : FnScope ["_law_net_here", "_law_found", "_law_rows_here", "_law_ring_here", "_law_top", "_law_bottom", "_law_number", "_law_way", "_law_size_here", "_law_handed", "_law_shown"] ["_law_net_here", "_law_found", "_law_rows_here"] (defScope sSums) := ⟨rfl, rfl, rfl, by decide +kernel, rfl, by decide +kernel, by decide +kernel⟩
theorem ok_sums {dV : Value} (F : FunD K "_law_sums" "_law_sums" sSums dV f fd)
    {CN : Addr} (mli : mg "list" = none)
    (G1 : FnOk P w K mg base CX0 5 g1 gd1 ["net", "ring"] (spRSum CN K)) (b1 : Binds K gd1 ["net", "ring"] []) (k1 : PySem.W.keepIn K (.ref g1) = true) (m1 : mg "ring_sum" = some (.ref g1))
    (G2 : FnOk P w K mg base CX0 2 g2 gd2 ["_law_found"] (spIs K)) (b2 : Binds K gd2 ["_law_found"] []) (k2 : PySem.W.keepIn K (.ref g2) = true) (m2 : mg "_law_is" = some (.ref g2))
    (G3 : FnOk P w K mg base CX0 2 g3 gd3 ["_law_top", "_law_bottom"] spLowP) (b3 : Binds K gd3 ["_law_top", "_law_bottom"] []) (k3 : PySem.W.keepIn K (.ref g3) = true) (m3 : mg "_law_lowest" = some (.ref g3)) :
    FnOk P w K mg base CX 6 f fd ["_law_net_here", "_law_found", "_law_rows_here"] (spSums CN K) := by
  refine F.ok scSums (fun vs H Q E h => ?_) (fun cdv A outer s H vs Q E hr h => ?_)
  · obtain ⟨n, l, fd0, r, m, ds, fs, us, rfl, nt, h100, hK, hF, fnd, hU, hR, q⟩ := h
    rfl
  obtain ⟨n, l, fd0, r, m, ds, fs, us, rfl, nt, h100, hK, hF, fnd, hU, hR, q⟩ := h
  have hu := hr.units
  have r2 := hr.mono (show 2 ≤ 5 by omega)
  refine ⟨_, (pss_cons (ps_for PassesOwn.never rfl (pi_list (pv 1)) (pg_name (i := 3) scSums.nd rfl (Or.inl rfl))
      (pss_cons (ps_set (i := 4) scSums.nd rfl (Or.inl rfl) pe_int)
    (pss_cons (ps_set (i := 5) scSums.nd rfl (Or.inl rfl) pe_int)
    (pss_cons (ps_for PassesOwn.never rfl (pi_list (pv 3)) (pg_tup rfl (pgs_cons (pg_name (i := 6) scSums.nd rfl (Or.inl rfl)) (pgs_cons (pg_name (i := 7) scSums.nd rfl (Or.inl rfl)) pgs_nil)))
      (pss_cons (ps_set (i := 8) scSums.nd rfl (Or.inl rfl) (pe_ix ix_tup (pe_ix ix_list (pv 2) (pv 6) (fun _ _ => rfl)) pe_int (fun _ _ => rfl)))
    (pss_cons (ps_set (i := 4) scSums.nd rfl (Or.inl rfl) (pe_op op_add (pe_op op_mulB (pv 4) (pe_ix ix_tup (pv 8) pe_int (fun _ _ => rfl))) (pe_op op_mulB (pe_op op_mulB (pv 7) (pe_ix ix_tup (pv 8) pe_int (fun _ _ => rfl))) (pv 5))))
    (pss_one (ps_set (i := 5) scSums.nd rfl (Or.inl rfl) (pe_op op_mulB (pv 5) (pe_ix ix_tup (pv 8) pe_int (fun _ _ => rfl))))))))
    (pss_cons (ps_set (i := 9) scSums.nd rfl (Or.inl rfl) (pe_callTy call_list_of rfl mli PyProof.Rows.boot_list (pa_cons (pv 3) pa_nil)))
    (pss_cons (ps_set (i := 10) scSums.nd rfl (Or.inl rfl) (pe_call G1 hr rfl m1 k1 b1 .nil pass0 (pa_cons (pv 0) (pa_cons (pv 9) pa_nil))))
    (pss_one (ps_if (PW.pt (pw_or (pt_not (pt_val (pe_call G2 r2 rfl m2 k2 b2 .nil pass0 (pa_cons (pv 10) pa_nil)))) (pw_or (pt_cmpR (op_neD hu) (pv 10) (pe_call G3 r2 rfl m3 k3 b3 .nil pass0 (pa_cons (pv 4) (pa_cons (pv 5) pa_nil))) (nomark _)) (pw_or1 (pt_cmpR (op_neD hu) (pv 9) (pv 3) (nomark _)))))) (pss_one (ps_ret pe_bl)) pss_nil))))))))
    (pss_one (ps_ret pe_bl))), ?_⟩
  refine ⟨_, rfl, fd0, rfl, ⟨_, hF⟩, ?_⟩
  refine for_list (xs := fs) (fun i σ H' => Same H H' ∧ ∃ z3 z4 z5 z6 z7 z8 z9 z10 : Option V, σ = [some (.ref n), some (.ref fd0), some (.ref r), z3, z4, z5, z6, z7, z8, z9, z10]) ⟨Same.refl _, none, none, none, none, none, none, none, none, rfl⟩ (fun i σ H' _ h => h.1.seq hF) ?_ ?_
  · rintro i x σ H1 hx ⟨s1, z3, z4, z5, z6, z7, z8, z9, z10, rfl⟩
    obtain ⟨a, xs, st, rfl, hA, hS, h21, hst⟩ := fnd x (List.mem_of_getElem? hx)
    have lx := hS.length
    refine ⟨_, rfl, a, rfl, ⟨_, s1.seq hA⟩, ?_⟩
    refine for_list (xs := xs) (fun j σ H' => H' = H1 ∧ ∃ z6 z7 z8 : Option V, σ = [some (.ref n), some (.ref fd0), some (.ref r), some (.ref a), some (.int (sumT ds (st.take j)).1), some (.int (sumT ds (st.take j)).2), z6, z7, z8, z9, z10]) ⟨rfl, z6, z7, z8, rfl⟩ (fun j σ H' _ h => by rw [h.1]; exact s1.seq hA) ?_ ?_
    · rintro j y σ H2 hy ⟨rfl, z6, z7, z8, rfl⟩
      obtain ⟨tt, s, rfl, es, hT⟩ := (hS.same s1).get hy
      have hj : j < st.length := (List.getElem?_eq_some_iff.mp es).1
      obtain ⟨hs1, hs2⟩ := hst s (List.mem_of_getElem? es)
      obtain ⟨lz, bz⟩ := sz_at hK hs1
      have hd : ds[s.1]? = some ds[s.1] := List.getElem?_eq_getElem hs1
      obtain ⟨t1, z, et1, hT1, fz⟩ := (hR.same s1).at hd
      have at1 : atI us (s.1 : Int) = some (.ref t1) := atI_nat et1
      have fz : Fq K H2 z (szOf ds s) := by
        have eg : ds.getD s.1 (.pc, 0, 0, (0, 1)) = ds[s.1] := by rw [List.getD_eq_getElem?_getD, hd]; rfl
        unfold szOf
        rw [eg]; exact fz
      have tk : st.take (j + 1) = st.take j ++ [s] := by rw [List.take_add_one, es]; rfl
      obtain ⟨_, c2, c3, _⟩ := sumT_ok hK j (show (st.take j).length = j by rw [List.length_take]; omega) fun x hx => hst x (List.mem_of_mem_take hx)
      refine ⟨tt, _, rfl, hT, rfl, _, _, rfl, _, _, rfl, rfl, ?_⟩
      refine ⟨_, rfl, _, rfl, r, us, _, _, rfl, rfl, s1.seq hU, at1, t1, _, 3, _, rfl, rfl, hT1, rfl, ?_⟩
      refine ⟨_, rfl, rd_ix1 rfl fz (rd_mulB c2 bz.b (by omega) (by omega) ⟨_, rfl, rd_ix0 rfl fz (rd_mulB (w_B hs2) bz.a (by omega) (by omega) ⟨_, rfl, rd_mulB ((w_B hs2).mul bz.a) c3 (by omega) (by omega) ⟨_, _, rfl, rfl, ?_⟩⟩)⟩)⟩
      refine ⟨_, rfl, rd_ix1 rfl fz (rd_mulB c3 bz.b (by omega) (by omega) ?_)⟩
      rw [tk, sumT_snoc]
      exact ⟨rfl, _, _, _, rfl⟩
    rintro σ H2 ⟨rfl, z6, z7, z8, rfl⟩
    rw [lx, List.take_length]
    obtain ⟨d1, d2, d3, _⟩ := sumT_ok hK _ rfl hst
    obtain ⟨eT, lT⟩ := sumT_tot hK hst
    generalize sumT ds st = TT at d1 d2 d3 eT ⊢
    -- handed
    refine ⟨_, rfl, a, xs, rfl, .inl (s1.seq hA), fun h hh => ?_⟩
    have s3 := same_new hh (.lst xs)
    have e3 : upd H2 h (.lst xs) h = some (.lst xs) := upd_same
    generalize upd H2 h (.lst xs) = H3 at s3 e3 ⊢
    have s03 := s1.trans s3
    refine ⟨_, rfl, _, rfl, n, l, h, m, ds, xs, st, rfl, nt.same s03, h100, hK, SqL.of e3, hS.same s03, h21, hst, fun v H4 s4 f4 => ?_⟩
    refine ⟨_, rfl, v, _, rfl, f4, lT, _, rfl, iteF ?_⟩
    refine ⟨_, rfl, _, rfl, _, rfl, _, _, 2 + 33 * st.length, rfl, by omega, d3, by omega, fun w' H5 s5 e5 => ?_⟩
    rw [eT] at e5
    refine rd_eqF (s5.fq f4) (Fq.of e5) ⟨_, rfl, ?_⟩
    rw [decide_eq_true rfl]
    refine iteF ?_
    have s35 := s4.trans s5
    refine ⟨_, rfl, _, rfl, rd_eqS (d := sdd st) (.lst (SqL.of (s35 _ _ e3)) (sts_dat (hS.same (s03.trans s35)))) (.lst ((s03.trans s35).seq hA) (sts_dat (hS.same (s03.trans s35)))) (sdd_lay st) (by have := sdd_dep st; omega) ⟨_, rfl, iteF ?_⟩⟩
    exact ⟨s03.trans s35, _, _, _, _, _, _, _, _, rfl⟩
  rintro σ H1 ⟨s1, z3, z4, z5, z6, z7, z8, z9, z10, rfl⟩
  exact q H1 s1
end
end K32

set_option Elab.async false
set_option linter.all false
set_option maxHeartbeats 1000000
namespace L2
open PySem PySem.Spec PyProof.Rows
/-! matrices of lists that are changed in place -/
def rzl (ps : List Mq.Q2) (j : Nat) (a : Mq.Q2) : List Mq.Q2 := ps.set j (Mq.plus (ps.getD j (0, 1)) a)
def mget (M : List (List Mq.Q2)) (i j : Nat) : Mq.Q2 := (M.getD i []).getD j (0, 1)
def rz (M : List (List Mq.Q2)) (i j : Nat) (a : Mq.Q2) : List (List Mq.Q2) := M.set i (rzl (M.getD i []) j a)
structure MxB (M : List (List Mq.Q2)) (h w n : Nat) : Prop where
  h : M.length = h
  w : ∀ ps ∈ M, ps.length = w
  l : ∀ ps ∈ M, ∀ p ∈ ps, Mq.Low p ∧ Mq.Bd n p
/-- the same for one list -/
structure LnB (R : List Mq.Q2) (w n : Nat) : Prop where
  w : R.length = w
  l : ∀ p ∈ R, Mq.Low p ∧ Mq.Bd n p
/-! on the heap -/
def SX (as : List Addr) (H H' : Hp) : Prop := ∀ b o, H b = some o → b ∉ as → H' b = some o
theorem Same.sx {as : List Addr} {H H' : Hp} (s : Same H H') : SX as H H' := fun b o e _ => s b o e
def Lsts (as : List Addr) (H : Hp) : Prop := ∀ a ∈ as, ∃ xs, H a = some (.lst xs)
theorem SX.seqT {K : PySem.W.Frag} {as : List Addr} {H H' : Hp} (hl : Lsts as H) (e : SX as H H') {a : Addr} {xs : List V} (h : SqT K H a xs) : SqT K H' a xs := by
  have nx : ∀ {o : HO}, H a = some o → (∀ ys, o ≠ .lst ys) → a ∉ as := fun ho n z => by
    obtain ⟨ys, hy⟩ := hl a z
    rw [hy] at ho
    exact n ys (Option.some.inj ho).symm
  rcases h with (h | ⟨u, h⟩) | h
  · exact .inl (.inl (e _ _ h (nx h fun ys z => by cases z)))
  · exact .inl (.inr ⟨u, e _ _ h (nx h fun ys z => by cases z)⟩)
  · exact .inr h
structure Mx (K : PySem.W.Frag) (H : Hp) (D : Addr) (as : List Addr) (M : List (List Mq.Q2)) : Prop where
  d : H D = some (.lst (as.map V.ref))
  n : as.Nodup
  nd : D ∉ as
  la : as.length = M.length
  r : ∀ (i : Nat) (a : Addr) (ps : List Mq.Q2), as[i]? = some a → M[i]? = some ps → ∃ xs, H a = some (.lst xs) ∧ Fqs K H xs ps
/-! the equations -/
def hcol (k : Kd) : Nat := if k = .ho then 1 else 0
def en (M : List (List Mq.Q2)) (d : RD) (c : Nat) (a : Mq.Q2) : List (List Mq.Q2) := rz (rz M d.2.1.toNat c a) d.2.2.1.toNat c (Mq.minus (0, 1) a)
def dl (s g x : Nat) : Rat := (if s = x then 1 else 0) - (if g = x then 1 else 0)
/-- what a row brings to the matrix, h being the next hold's column -/
def cM (d : RD) (h x y : Nat) : Rat := match d.1 with
  | .pc => dl d.2.1.toNat d.2.2.1.toNat x * dl d.2.1.toNat d.2.2.1.toNat y * (1 / Mq.val d.2.2.2)
  | .pu => 0
  | .ho => dl d.2.1.toNat d.2.2.1.toNat x * (if h = y then 1 else 0) + (if h = x then 1 else 0) * dl d.2.1.toNat d.2.2.1.toNat y
def cR (d : RD) (h x : Nat) : Rat := match d.1 with
  | .pc => 0
  | .pu => - dl d.2.1.toNat d.2.2.1.toNat x * Mq.val d.2.2.2
  | .ho => if h = x then Mq.val d.2.2.2 else 0
def eqM : Nat → List RD → Nat → Nat → Rat
  | _, [], _, _ => 0
  | h, d :: ds, x, y => cM d h x y + eqM (h + hcol d.1) ds x y
def eqR : Nat → List RD → Nat → Rat
  | _, [], _ => 0
  | h, d :: ds, x => cR d h x + eqR (h + hcol d.1) ds x
def hds' (ds : List RD) : Nat := (selD .ho ds).length
def hM (M : List (List Mq.Q2)) (d : RD) (c : Nat) : List (List Mq.Q2) := rz (rz (en M d c (1, 1)) c d.2.1.toNat (1, 1)) c d.2.2.1.toNat (Mq.minus (0, 1) (1, 1))
def pM (M : List (List Mq.Q2)) (d : RD) : List (List Mq.Q2) := en (en M d d.2.1.toNat (Mq.over (1, 1) d.2.2.2)) d d.2.2.1.toNat (Mq.minus (0, 1) (Mq.over (1, 1) d.2.2.2))
def pR (rs : List Mq.Q2) (d : RD) : List Mq.Q2 := rzl (rzl rs d.2.1.toNat (Mq.minus (0, 1) d.2.2.2)) d.2.2.1.toNat d.2.2.2
def spRaise (K : PySem.W.Frag) : Sp := fun vs H Q _ => ∃ (l z : Addr) (j : Nat) (xs : List V) (ps : List Mq.Q2) (a : Mq.Q2) (n m : Nat), vs = [.ref l, .int (j : Int), .ref z] ∧ H l = some (.lst xs) ∧ Fqs K H xs ps ∧ j < ps.length ∧ 1 ≤ (ps.getD j (0, 1)).2 ∧ Mq.Bd n (ps.getD j (0, 1)) ∧ Fq K H z a ∧ 1 ≤ a.2 ∧ Mq.Bd m a ∧ n + m + 1 ≤ 9000 ∧ ∀ v H1, Same H H1 → Fq K H1 v (Mq.plus (ps.getD j (0, 1)) a) → Q .non (upd H1 l (.lst (xs.set j (.ref v))))
def spEnter (K : PySem.W.Frag) (CK : Kd → Addr) : Sp := fun vs H Q _ => ∃ (D x z : Addr) (zz : V) (as : List Addr) (M : List (List Mq.Q2)) (d : RD) (w n k c : Nat) (a : Mq.Q2), vs = [.ref D, .ref x, .int (c : Int), .ref z] ∧ Mx K H D as M ∧ MxB M w w n ∧ Rw CK H x d.1 (.int d.2.1) (.int d.2.2.1) zz ∧ PtOk (w : Int) d.2.1 d.2.2.1 ∧ c < w ∧ Fq K H z a ∧ Mq.Low a ∧ Mq.Bd k a ∧ n + 2 * k + 4 ≤ 9000 ∧ ∀ H', SX as H H' → Mx K H' D as (en M d c a) → Q .non H'
def spEnterP (K : PySem.W.Frag) (CK : Kd → Addr) : Sp := fun vs H Q _ => ∃ (D x zz : Addr) (as : List Addr) (M : List (List Mq.Q2)) (d : RD) (w n k : Nat), vs = [.ref D, .ref x] ∧ Mx K H D as M ∧ MxB M w w n ∧ Rw CK H x d.1 (.int d.2.1) (.int d.2.2.1) (.ref zz) ∧ Fq K H zz d.2.2.2 ∧ PtOk (w : Int) d.2.1 d.2.2.1 ∧ Mq.Low d.2.2.2 ∧ 0 < d.2.2.2.1 ∧ Mq.Bd k d.2.2.2 ∧ n + 4 * k + 20 ≤ 9000 ∧ ∀ H', SX as H H' → Mx K H' D as (pM M d) → Q .non H'
def spEnterU (K : PySem.W.Frag) (CK : Kd → Addr) : Sp := fun vs H Q _ => ∃ (R x zz : Addr) (ys : List V) (rs : List Mq.Q2) (d : RD) (w n k : Nat), vs = [.ref R, .ref x] ∧ H R = some (.lst ys) ∧ Fqs K H ys rs ∧ LnB rs w n ∧ Rw CK H x d.1 (.int d.2.1) (.int d.2.2.1) (.ref zz) ∧ Fq K H zz d.2.2.2 ∧ PtOk (w : Int) d.2.1 d.2.2.1 ∧ Mq.Low d.2.2.2 ∧ Mq.Bd k d.2.2.2 ∧ n + 4 * k + 20 ≤ 9000 ∧ ∀ ys' H', SX [R] H H' → H' R = some (.lst ys') → Fqs K H' ys' (pR rs d) → Q .non H'
def spEnterH (K : PySem.W.Frag) (CK : Kd → Addr) : Sp := fun vs H Q _ => ∃ (D R x zz : Addr) (as : List Addr) (M : List (List Mq.Q2)) (ys : List V) (rs : List Mq.Q2) (d : RD) (w n c : Nat), vs = [.ref D, .ref R, .ref x, .int (c : Int)] ∧ Mx K H D as M ∧ MxB M w w n ∧ H R = some (.lst ys) ∧ Fqs K H ys rs ∧ rs.length = w ∧ R ≠ D ∧ R ∉ as ∧ Rw CK H x d.1 (.int d.2.1) (.int d.2.2.1) (.ref zz) ∧ Fq K H zz d.2.2.2 ∧ PtOk (w : Int) d.2.1 d.2.2.1 ∧ c < w ∧ n + 20 ≤ 9000 ∧ ∀ ys' H', SX (R :: as) H H' → Mx K H' D as (hM M d c) → H' R = some (.lst ys') → Fqs K H' ys' (rs.set c d.2.2.2) → Q .non H'
/-- what is told: lists that are new -/
structure Fms (K : PySem.W.Frag) (H0 H : Hp) (us : List V) (X : List (List Mq.Q2)) : Prop where
  l : us.length = X.length
  r : ∀ (i : Nat) (x : V) (ps : List Mq.Q2), us[i]? = some x → X[i]? = some ps → ∃ (a : Addr) (xs : List V), x = .ref a ∧ H0 a = none ∧ H a = some (.lst xs) ∧ Fqs K H xs ps
structure EqOk (m : Nat) (ds : List RD) (N : Nat) (X : List (List Mq.Q2)) (Y : List Mq.Q2) : Prop where
  x : MxB X (m - 1 + hds' ds) (m - 1 + hds' ds) N
  y : LnB Y (m - 1 + hds' ds) N
  vx : ∀ i j, Mq.val (mget X i j) = eqM m ds (i + 1) (j + 1)
  vy : ∀ i, Mq.val (Y.getD i (0, 1)) = eqR m ds (i + 1)
def spEqs (CN : Addr) (K : PySem.W.Frag) : Sp := fun vs H Q _ => ∃ (n l : Addr) (m k : Nat) (ds : List RD), vs = [.ref n] ∧ NetAt CN K H n l (m : Int) ds ∧ (∀ d ∈ ds, RdOk (m : Int) d ∧ Mq.Bd k d.2.2.2) ∧ 1 ≤ m ∧ m ≤ 20 ∧ ds.length ≤ 40 ∧ (4 * k + 20) * ds.length + 4 * k + 30 ≤ 8900 ∧
  ∀ t p r us ys X Y H', Same H H' → H' t = some (.tup [.ref p, .ref r]) → H p = none → H r = none → H' p = some (.lst us) → H' r = some (.lst ys) → Fms K H H' us X → Fqs K H' ys Y → (∀ x ∈ us, x ≠ .ref p ∧ x ≠ .ref r) → EqOk m ds ((4 * k + 20) * ds.length + 1) X Y → Q (.ref t) H'
end L2

set_option Elab.async false
set_option linter.all false
set_option maxRecDepth 100000
set_option maxHeartbeats 2000000
namespace L2
open PySem PySem.Spec PyProof.Rows
/-! ### written lists of unlike things: kept closed while a term of rules is made -/
inductive CEx where
  | c (k : Const) (n : Nat) (p : Pos)
  | neg (i : Int) (n : Nat) (p q : Pos)
def CEx.ex : CEx → Expr
  | .c k n p => .Constant k n p
  | .neg i n p q => .UnaryOp .USub (.Constant (.int i) n p) q
def ctV : Const → V
  | .bool b => .bl b
  | .int i => .int i
  | .str x => .str x
  | _ => .non
def ctOk : Const → Bool
  | .none => true
  | .bool _ => true
  | .int _ => true
  | .str _ => true
  | _ => false
def CEx.v : CEx → V
  | .c k _ _ => ctV k
  | .neg i _ _ _ => .int (-i)
def CEx.te : CEx → TE
  | .c k _ _ => fun _ H Q => ctOk k = true ∧ Q (ctV k) H
  | .neg i _ _ _ => tC (.int (-i))
theorem CEx.pe (X : Cx) : ∀ c : CEx, PE X c.ex c.te
  | .c k n p => fun pins s σ H Q I h => by
    obtain ⟨ok, q⟩ := h
    cases k with
    | none => exact pe_non pins s σ H Q I q
    | bool b => exact pe_bl pins s σ H Q I q
    | int i => exact pe_int pins s σ H Q I q
    | str x => exact pe_str pins s σ H Q I q
    | float _ => cases ok
    | complex _ _ => cases ok
    | bytes _ => cases ok
    | ellipsis => cases ok
  | .neg i n p q' => fun pins s σ H Q I h => pe_un un_neg pe_int pins s σ H Q I ⟨i, rfl, h⟩
theorem CEx.st (e : CEx) (es : List Expr) (env : Env) : starEach (e.ex :: es) env = (false, eval e.ex env) :: starEach es env := by cases e <;> rfl
def tCExs : List CEx → TA
  | [] => tNil
  | c :: l => tCons c.te (tCExs l)
theorem pa_ces (X : Cx) : ∀ l : List CEx, PA X (l.map CEx.ex) (tCExs l)
  | [] => pa_nil
  | c :: l => pa_cons (CEx.pe X c) (pa_ces X l) (CEx.st c _ _)
inductive El where
  | e (c : CEx)
  | tup (l : List CEx) (n : Nat) (p : Pos)
  | lst (l : List CEx) (p : Pos)
def El.ex : El → Expr
  | .e c => c.ex
  | .tup l n p => .Tuple (l.map CEx.ex) n p
  | .lst l p => .List (l.map CEx.ex) p
def El.te : El → TE
  | .e c => c.te
  | .tup l _ _ => tTup (tCExs l)
  | .lst l _ => tLst (tCExs l)
theorem El.pe (X : Cx) : ∀ e : El, PE X e.ex e.te
  | .e c => CEx.pe X c
  | .tup l n p => pe_tup (pa_ces X l)
  | .lst l p => pe_lst (pa_ces X l)
theorem El.st (e : El) (es : List Expr) (env : Env) : starEach (e.ex :: es) env = (false, eval e.ex env) :: starEach es env := by
  cases e with
  | e c => exact CEx.st c es env
  | tup l n p => rfl
  | lst l p => rfl
def tEls : List El → TA
  | [] => tNil
  | e :: l => tCons e.te (tEls l)
theorem pa_els (X : Cx) : ∀ l : List El, PA X (l.map El.ex) (tEls l)
  | [] => pa_nil
  | e :: l => pa_cons (El.pe X e) (pa_els X l) (El.st e _ _)
def CEx.of : Expr → CEx
  | .Constant k n p => .c k n p
  | .UnaryOp _ (.Constant (.int i) n p) q => .neg i n p q
  | _ => .c .ellipsis 0 ⟨0, 0, 0, 0⟩
def El.of : Expr → El
  | .Tuple l n p => .tup (l.map CEx.of) n p
  | .List l p => .lst (l.map CEx.of) p
  | x => El.e (CEx.of x)
/-- parts of a text -/
def stIfT : Stmt → Expr
  | .If t _ _ _ => t
  | _ => .Constant .none 0 ⟨0, 0, 0, 0⟩
def stIfB : Stmt → List Stmt
  | .If _ b _ _ => b
  | _ => []
def stIfP : Stmt → Pos
  | .If _ _ _ p => p
  | _ => ⟨0, 0, 0, 0⟩
def stRet : Stmt → Expr
  | .Return (some e) _ => e
  | _ => .Constant .none 0 ⟨0, 0, 0, 0⟩
def stRetP : Stmt → Pos
  | .Return _ p => p
  | _ => ⟨0, 0, 0, 0⟩
def stVal : Stmt → Expr
  | .Assign _ e _ => e
  | _ => .Constant .none 0 ⟨0, 0, 0, 0⟩
def stTgs : Stmt → List Expr
  | .Assign t _ _ => t
  | _ => []
def stAsgP : Stmt → Pos
  | .Assign _ _ p => p
  | _ => ⟨0, 0, 0, 0⟩
def exSubV : Expr → Expr
  | .Subscript e _ _ => e
  | e => e
def exSubI : Expr → Expr
  | .Subscript _ i _ => i
  | e => e
def exSubP : Expr → Pos
  | .Subscript _ _ p => p
  | _ => ⟨0, 0, 0, 0⟩
def exLst : Expr → List Expr
  | .List l _ => l
  | _ => []
def exLstP : Expr → Pos
  | .List _ p => p
  | _ => ⟨0, 0, 0, 0⟩
end L2

set_option Elab.async false
set_option linter.all false
set_option maxRecDepth 100000
set_option maxHeartbeats 4000000
namespace K32
open PySem L2
section
variable {P : Program} {w : World} {K : PySem.W.Frag} {mg : Str → Option Value} {base : Heap} {f g1 g2 g3 g4 g5 g6 g7 g8 g9 g10 : Addr} {fd gd1 gd2 gd3 gd4 gd5 gd6 gd7 gd8 gd9 gd10 : FuncData} {CX : CXT}
variable {CR : Addr} {CK : Kd → Addr} {fW fJ fT fS : Kd → Addr} {fdW fdJ fdT fdS : Kd → FuncData}
def spLaw (K : PySem.W.Frag) : Sp := fun vs H Q _ => ∃ (a : Addr) (ns : List Int), vs = [.ref a] ∧ SqL K H a (ns.map V.int) ∧ ns.length ≤ 63 ∧ ∀ H', Q (.bl true) H'
def wds (ks : List Kd) : List V := ks.map fun k => V.str k.wd
/-- one of the menu -/
def WV (H0 H : Hp) (x : V) : Prop := x = .non ∨ ∃ (a : Addr) (ks : List Kd), x = .ref a ∧ H a = some (.lst (wds ks)) ∧ ks.length ≤ 3 ∧ H0 a = none
theorem WV.same {H0 H H' : Hp} {x : V} (e : Same H H') (h : WV H0 H x) : WV H0 H' x := by
  rcases h with h | ⟨a, ks, h1, h2, h3⟩
  · exact .inl h
  · exact .inr ⟨a, ks, h1, e _ _ h2, h3⟩
def tMenu : TA := (tCons (fun _ H Q => true = true ∧ Q .non H) (tCons (tLst (tCons (fun _ H Q => true = true ∧ Q (.str "hold") H) tNil)) (tCons (tLst (tCons (fun _ H Q => true = true ∧ Q (.str "piece") H) tNil)) (tCons (tLst (tCons (fun _ H Q => true = true ∧ Q (.str "push") H) tNil)) (tCons (tLst (tCons (fun _ H Q => true = true ∧ Q (.str "hold") H) (tCons (fun _ H Q => true = true ∧ Q (.str "piece") H) tNil))) (tCons (tLst (tCons (fun _ H Q => true = true ∧ Q (.str "push") H) (tCons (fun _ H Q => true = true ∧ Q (.str "piece") H) tNil))) (tCons (tLst (tCons (fun _ H Q => true = true ∧ Q (.str "push") H) (tCons (fun _ H Q => true = true ∧ Q (.str "hold") H) (tCons (fun _ H Q => true = true ∧ Q (.str "piece") H) tNil)))) (tCons (tLst tNil) tNil))))))))
theorem menu_rd {σ : St} {H : Hp} {Q : VK} (h : ∀ M vs H', Same H H' → H' M = some (.lst vs) → vs.length = 8 → (∀ x ∈ vs, WV H H' x) → Q (.ref M) H') : tLst tMenu σ H Q := by
  refine ⟨rfl, ?_⟩
  refine ⟨rfl, by show 1 ≤ sizeLine; decide, fun L1 hL1 => ?_⟩
  have n1 : H L1 = none := hL1
  have s1 := same_new hL1 (.lst [.str "hold"])
  have e1 : upd H L1 (.lst [.str "hold"]) L1 = some (.lst (wds [.ho])) := upd_same
  generalize upd H L1 (.lst [.str "hold"]) = H1 at s1 e1 ⊢
  have u1 : Same H H1 := s1
  refine ⟨rfl, by show 1 ≤ sizeLine; decide, fun L2 hL2 => ?_⟩
  have n2 : H L2 = none := u1.free hL2
  have s2 := same_new hL2 (.lst [.str "piece"])
  have e2 : upd H1 L2 (.lst [.str "piece"]) L2 = some (.lst (wds [.pc])) := upd_same
  generalize upd H1 L2 (.lst [.str "piece"]) = H2 at s2 e2 ⊢
  have u2 : Same H H2 := u1.trans s2
  refine ⟨rfl, by show 1 ≤ sizeLine; decide, fun L3 hL3 => ?_⟩
  have n3 : H L3 = none := u2.free hL3
  have s3 := same_new hL3 (.lst [.str "push"])
  have e3 : upd H2 L3 (.lst [.str "push"]) L3 = some (.lst (wds [.pu])) := upd_same
  generalize upd H2 L3 (.lst [.str "push"]) = H3 at s3 e3 ⊢
  have u3 : Same H H3 := u2.trans s3
  refine ⟨rfl, rfl, by show 2 ≤ sizeLine; decide, fun L4 hL4 => ?_⟩
  have n4 : H L4 = none := u3.free hL4
  have s4 := same_new hL4 (.lst [.str "hold", .str "piece"])
  have e4 : upd H3 L4 (.lst [.str "hold", .str "piece"]) L4 = some (.lst (wds [.ho, .pc])) := upd_same
  generalize upd H3 L4 (.lst [.str "hold", .str "piece"]) = H4 at s4 e4 ⊢
  have u4 : Same H H4 := u3.trans s4
  refine ⟨rfl, rfl, by show 2 ≤ sizeLine; decide, fun L5 hL5 => ?_⟩
  have n5 : H L5 = none := u4.free hL5
  have s5 := same_new hL5 (.lst [.str "push", .str "piece"])
  have e5 : upd H4 L5 (.lst [.str "push", .str "piece"]) L5 = some (.lst (wds [.pu, .pc])) := upd_same
  generalize upd H4 L5 (.lst [.str "push", .str "piece"]) = H5 at s5 e5 ⊢
  have u5 : Same H H5 := u4.trans s5
  refine ⟨rfl, rfl, rfl, by show 3 ≤ sizeLine; decide, fun L6 hL6 => ?_⟩
  have n6 : H L6 = none := u5.free hL6
  have s6 := same_new hL6 (.lst [.str "push", .str "hold", .str "piece"])
  have e6 : upd H5 L6 (.lst [.str "push", .str "hold", .str "piece"]) L6 = some (.lst (wds [.pu, .ho, .pc])) := upd_same
  generalize upd H5 L6 (.lst [.str "push", .str "hold", .str "piece"]) = H6 at s6 e6 ⊢
  have u6 : Same H H6 := u5.trans s6
  refine ⟨by show 0 ≤ sizeLine; decide, fun L7 hL7 => ?_⟩
  have n7 : H L7 = none := u6.free hL7
  have s7 := same_new hL7 (.lst [])
  have e7 : upd H6 L7 (.lst []) L7 = some (.lst (wds [])) := upd_same
  generalize upd H6 L7 (.lst []) = H7 at s7 e7 ⊢
  have u7 : Same H H7 := u6.trans s7
  refine ⟨by show 8 ≤ sizeLine; decide, fun M hM => ?_⟩
  have s8 := same_new hM (.lst [.non, .ref L1, .ref L2, .ref L3, .ref L4, .ref L5, .ref L6, .ref L7])
  have t7 := s8
  have t6 := s7.trans t7
  have t5 := s6.trans t6
  have t4 := s5.trans t5
  have t3 := s4.trans t4
  have t2 := s3.trans t3
  have t1 := s2.trans t2
  refine h M _ _ (s1.trans t1) upd_same rfl fun x hx => ?_
  simp only [List.mem_cons, List.not_mem_nil, or_false] at hx
  rcases hx with rfl | rfl | rfl | rfl | rfl | rfl | rfl | rfl
  · exact .inl rfl
  · exact .inr ⟨L1, _, rfl, t1 _ _ e1, by decide, n1⟩
  · exact .inr ⟨L2, _, rfl, t2 _ _ e2, by decide, n2⟩
  · exact .inr ⟨L3, _, rfl, t3 _ _ e3, by decide, n3⟩
  · exact .inr ⟨L4, _, rfl, t4 _ _ e4, by decide, n4⟩
  · exact .inr ⟨L5, _, rfl, t5 _ _ e5, by decide, n5⟩
  · exact .inr ⟨L6, _, rfl, t6 _ _ e6, by decide, n6⟩
  · exact .inr ⟨L7, _, rfl, t7 _ _ e7, by decide, n7⟩
/-- the words, and those that are handed in -/
inductive HW (H0 H : Hp) : V → V → (Kd → Bool) → Prop where
  | non : HW H0 H .non .non (fun k => decide (k ≠ .pu))
  | seq {a b : Addr} {ks : List Kd} (h : H a = some (.lst (wds ks))) (g : H b = some (.lst (wds ks))) (l : ks.length ≤ 3) (na : H0 a = none) (nb : H0 b = none) : HW H0 H (.ref a) (.ref b) (fun k => inV (.str k.wd) (wds ks))
theorem HW.same {H0 H H' : Hp} {x y : V} {W : Kd → Bool} (e : Same H H') (h : HW H0 H x y W) : HW H0 H' x y W := by
  cases h with
  | non => exact .non
  | seq h g l na nb => exact .seq (e _ _ h) (e _ _ g) l na nb
theorem HW.sx {as : List Addr} {H0 H H' : Hp} {x y : V} {W : Kd → Bool} (e : SX as H H') (n : ∀ a ∈ as, H0 a ≠ none) (h : HW H0 H x y W) : HW H0 H' x y W := by
  cases h with
  | non => exact .non
  | seq h g l na nb => exact .seq (e _ _ h fun z => n _ z na) (e _ _ g fun z => n _ z nb) l na nb
theorem wds_flat : ∀ ks : List Kd, (wds ks).all flatV = true
  | [] => rfl
  | k :: ks => by
    show (flatV (V.str k.wd) && (wds ks).all flatV) = true
    rw [wds_flat ks]; rfl
theorem HW.wds {K : PySem.W.Frag} {H0 H : Hp} {x y : V} {W : Kd → Bool} (h : HW H0 H x y W) : Wds K H y W := by
  cases h with
  | non => exact .non
  | seq h g l na nb => exact .seq (SqL.of g) (wds_flat _)
theorem wds_dat {K : PySem.W.Frag} {H : Hp} : ∀ ks : List Kd, DatVs K H (wds ks) (ks.map fun k => .str k.wd)
  | [] => .nil
  | k :: ks => .cons (.str _) (wds_dat ks)
theorem wds_lay : ∀ ks : List Kd, PyData.canLayAll0 (ks.map fun k => PyData.str k.wd) = true
  | [] => rfl
  | k :: ks => by
    show ((PyData.str k.wd).canLay0 && PyData.canLayAll0 (ks.map fun k => PyData.str k.wd)) = true
    rw [wds_lay ks, Kd.lay]; rfl
theorem wds_dep : ∀ ks : List Kd, PyData.depthAll (ks.map fun k => PyData.str k.wd) ≤ 1
  | [] => by simp [PyData.depthAll]
  | k :: ks => by
    have := wds_dep ks
    simp only [List.map_cons, PyData.depthAll, PyData.depth]
    omega
theorem HW.eq {K : PySem.W.Frag} {H0 H : Hp} {x y : V} {W : Kd → Bool} {neg : Bool} {Q : VK} (h : HW H0 H x y W) (z : Q (.bl (!neg)) H) : rDat K neg y x H Q := by
  cases h with
  | non => exact rd_eqS .non .non rfl (by simp [PyData.depth]) z
  | @seq a b ks h g l na nb => exact rd_eqS (d := PyData.list (ks.map fun (k : Kd) => PyData.str k.wd)) (.lst (SqL.of g) (wds_dat ks)) (.lst (SqL.of h) (wds_dat ks)) (wds_lay ks) (by have := wds_dep ks; simp only [PyData.depth]; omega) z
theorem rg_ok {W : Kd → Bool} {m n : Nat} {ds : List RD} {s : RS} (h20 : m ≤ 20) (pt : ∀ d ∈ ds, PtOk (m : Int) d.2.1 d.2.2.1) (h : RI W (skl ds) m n s) : ∀ c ∈ s.2, RgOk ds (s.1.map (·.1)) c.1 c.2 ∧ c.2.length ≤ 21 ∧ StOk ds c.2 := fun c hc => by
  obtain ⟨hn, k, u, v, st, pts, h1, h2, h3, h4, h5⟩ := h.r c hc
  have hl : c.1 < ds.length := by have := (List.getElem?_eq_some_iff.mp h1).1; rwa [sk_len] at this
  have hd : ds[c.1]? = some ds[c.1] := List.getElem?_eq_getElem hl
  have bo := brok_of pt h
  rw [sk_at hd] at h1
  obtain ⟨i0, i1, j0, j1⟩ := pt _ (List.mem_of_getElem? hd)
  have e1 : ds[c.1].2.1.toNat = u := by injection h1 with z; injection z with _ z; injection z
  have e2 : ds[c.1].2.2.1.toNat = v := by injection h1 with z; injection z with _ z; injection z
  have hd' : ds[c.1]? = some (ds[c.1].1, (u : Int), (v : Int), ds[c.1].2.2.2) := by
    rw [hd, ← e1, ← e2, Int.toNat_of_nonneg i0, Int.toNat_of_nonneg j0]
  refine ⟨⟨ds[c.1].1, u, v, _, st, s.1, pts, hd', h2, h3, bo, h4, by omega⟩, by rw [h2, List.length_cons]; omega, fun t ht => ?_⟩
  rw [h2] at ht
  rcases List.mem_cons.mp ht with rfl | z
  · exact ⟨hl, .inl rfl⟩
  · have := (h3 t z).1
    refine ⟨by omega, ?_⟩
    obtain ⟨i, hi⟩ := List.getElem?_of_mem z
    obtain ⟨p, q, _, _, u', v', _, g⟩ := h4.g i t hi
    rcases g with ⟨h, _⟩ | ⟨h, _⟩
    · exact .inl h
    · exact .inr h
theorem rgs_fnd {K : PySem.W.Frag} {H0 H : Hp} {us : List V} {R : List (Nat × List Stp)} {ds : List RD} (g : Rgs K H0 H us (R.map (·.2))) (h : ∀ c ∈ R, c.2.length ≤ 21 ∧ StOk ds c.2) : Fnd K H ds us := fun x hx => by
  obtain ⟨i, hi⟩ := List.getElem?_of_mem hx
  have hl : i < R.length := by have := (List.getElem?_eq_some_iff.mp hi).1; rw [g.l, List.length_map] at this; exact this
  have hc : R[i]? = some R[i] := List.getElem?_eq_getElem hl
  obtain ⟨a, xs, e1, _, e2, s⟩ := g.r i x R[i].2 hi (by rw [List.getElem?_map, hc]; rfl)
  obtain ⟨h1, h2⟩ := h _ (List.mem_of_getElem? hc)
  exact ⟨a, xs, _, e1, SqL.of e2, s, h1, h2⟩
theorem rgs_dat {K : PySem.W.Frag} {H0 H : Hp} : ∀ {us : List V} {X : List (List Stp)}, Rgs K H0 H us X → DatVs K H us (X.map sdd)
  | [], [], _ => .nil
  | [], _ :: _, h => by have := h.l; simp at this
  | _ :: _, [], h => by have := h.l; simp at this
  | x :: us, st :: X, h => by
    obtain ⟨a, xs, rfl, _, ha, s⟩ := h.r 0 x st rfl rfl
    exact .cons (.lst (SqL.of ha) (sts_dat s)) (rgs_dat ⟨by have := h.l; simpa using this, fun i y qs h1 h2 => h.r (i + 1) y qs (by simpa using h1) (by simpa using h2)⟩)
theorem rgs_lay : ∀ X : List (List Stp), PyData.canLayAll0 (X.map sdd) = true
  | [] => rfl
  | st :: X => by
    show ((sdd st).canLay0 && PyData.canLayAll0 (X.map sdd)) = true
    rw [sdd_lay, rgs_lay X]; rfl
theorem rgs_dep : ∀ X : List (List Stp), PyData.depthAll (X.map sdd) ≤ 6
  | [] => by simp [PyData.depthAll]
  | st :: X => by
    have b := rgs_dep X
    have a := sdd_dep st
    simp only [List.map_cons, PyData.depthAll]
    omega
theorem rgs_eq {K : PySem.W.Frag} {HA HB H : Hp} {a b : Addr} {us vs : List V} {X : List (List Stp)} {neg : Bool} {Q : VK} (h1 : SqL K H a us) (h2 : SqL K H b vs) (g1 : Rgs K HA H us X) (g2 : Rgs K HB H vs X) (z : Q (.bl (!neg)) H) : rDat K neg (.ref a) (.ref b) H Q :=
  rd_eqS (d := .list (X.map sdd)) (.lst h1 (rgs_dat g1)) (.lst h2 (rgs_dat g2)) (rgs_lay X) (by have := rgs_dep X; simp only [PyData.depth]; omega) z
theorem Rgs.sx {K : PySem.W.Frag} {as : List Addr} {H0 H H' : Hp} {us : List V} {X : List (List Stp)} (hl : Lsts as H) (e : SX as H H') (n : ∀ a ∈ as, H0 a ≠ none) (g : Rgs K H0 H us X) : Rgs K H0 H' us X := ⟨g.l, fun i x st h1 h2 => by
  obtain ⟨a, xs, e1, na, ha, s⟩ := g.r i x st h1 h2
  refine ⟨a, xs, e1, na, e _ _ ha fun z => n a z na, ?_⟩
  clear ha h1 h2
  induction s with
  | nil => exact .nil
  | cons h q ih => exact .cons (e.seqT hl h) ih⟩
theorem skl_set {ds : List RD} {w : Nat} {k : Kd} {i j : Int} {p q : Mq.Q2} (h : ds[w]? = some (k, i, j, p)) : skl (ds.set w (k, i, j, q)) = skl ds := by
  refine List.ext_getElem? fun n => ?_
  unfold skl
  rw [List.getElem?_map, List.getElem?_map, List.getElem?_set]
  by_cases c : w = n
  · subst c
    have hl := (List.getElem?_eq_some_iff.mp h).1
    rw [if_pos rfl, if_pos hl, h]; rfl
  · rw [if_neg c]
end
end K32

set_option Elab.async false
set_option linter.all false
set_option maxRecDepth 100000
set_option maxHeartbeats 4000000
namespace K32
open PySem L2
section
variable {P : Program} {w : World} {K : PySem.W.Frag} {mg : Str → Option Value} {base : Heap} {f g1 g2 g3 g4 g5 g6 g7 g8 g9 g10 : Addr} {fd gd1 gd2 gd3 gd4 gd5 gd6 gd7 gd8 gd9 gd10 : FuncData} {CX : CXT}
variable {CR : Addr} {CK : Kd → Addr} {fW fJ fT fS : Kd → Addr} {fdW fdJ fdT fdS : Kd → FuncData}
theorem nd_ring_here : (["_law_ring_here"] : List Str).Nodup := by decide +kernel
abbrev sLaw : Stmt := top 55
theorem scLaw : FnScope ["_law_script", "_law_many", "_law_far", "_law_rows_here", "_law_net_here", "_law_menu", "_law_words", "_law_handed", "_law_bare", "_law_found", "_law_forest", "_law_closers_here", "_law_ring_here", "_law_closer", "_law_kept", "_law_at", "_law_size_here", "_law_spoiled", "_law_same"] ["_law_script"] (defScope sLaw) := ⟨rfl, rfl, rfl, by decide +kernel, rfl, by decide +kernel, by decide +kernel⟩
@[irreducible] def md4 : Stmt := (defBody sLaw).getD 4 (.Pass ⟨0, 0, 0, 0⟩)
def md0 : Stmt := (defBody sLaw).getD 0 (.Pass ⟨0, 0, 0, 0⟩)
def md1 : Stmt := (defBody sLaw).getD 1 (.Pass ⟨0, 0, 0, 0⟩)
def md2 : Stmt := (defBody sLaw).getD 2 (.Pass ⟨0, 0, 0, 0⟩)
def md3 : Stmt := (defBody sLaw).getD 3 (.Pass ⟨0, 0, 0, 0⟩)
def md5 : Stmt := (defBody sLaw).getD 5 (.Pass ⟨0, 0, 0, 0⟩)
def md6 : Stmt := (defBody sLaw).getD 6 (.Pass ⟨0, 0, 0, 0⟩)
def md7 : Stmt := (defBody sLaw).getD 7 (.Pass ⟨0, 0, 0, 0⟩)
def md8 : Stmt := (defBody sLaw).getD 8 (.Pass ⟨0, 0, 0, 0⟩)
def md9 : Stmt := (defBody sLaw).getD 9 (.Pass ⟨0, 0, 0, 0⟩)
def md10 : Stmt := (defBody sLaw).getD 10 (.Pass ⟨0, 0, 0, 0⟩)
def md11 : Stmt := (defBody sLaw).getD 11 (.Pass ⟨0, 0, 0, 0⟩)
def md12 : Stmt := (defBody sLaw).getD 12 (.Pass ⟨0, 0, 0, 0⟩)
def md13 : Stmt := (defBody sLaw).getD 13 (.Pass ⟨0, 0, 0, 0⟩)
def md14 : Stmt := (defBody sLaw).getD 14 (.Pass ⟨0, 0, 0, 0⟩)
def md15 : Stmt := (defBody sLaw).getD 15 (.Pass ⟨0, 0, 0, 0⟩)
def md16 : Stmt := (defBody sLaw).getD 16 (.Pass ⟨0, 0, 0, 0⟩)
def md17 : Stmt := (defBody sLaw).getD 17 (.Pass ⟨0, 0, 0, 0⟩)
def md18 : Stmt := (defBody sLaw).getD 18 (.Pass ⟨0, 0, 0, 0⟩)
def md19 : Stmt := (defBody sLaw).getD 19 (.Pass ⟨0, 0, 0, 0⟩)
theorem md_eq : defBody sLaw = [md0, md1, md2, md3, md4, md5, md6, md7, md8, md9, md10, md11, md12, md13, md14, md15, md16, md17, md18, md19] := by unfold md4; rfl
theorem md4_ex : ∃ (q p2 p : Pos) (l : List El), md4 = .Assign [.Name "_law_menu" q] (.List (l.map El.ex) p2) p ∧ tEls l = tMenu := by
  unfold md4
  exact ⟨_, _, _, [El.e (.c .none _ _), .lst [.c (.str "hold") _ _] _, .lst [.c (.str "piece") _ _] _, .lst [.c (.str "push") _ _] _, .lst [.c (.str "hold") _ _, .c (.str "piece") _ _] _, .lst [.c (.str "push") _ _, .c (.str "piece") _ _] _, .lst [.c (.str "push") _ _, .c (.str "hold") _ _, .c (.str "piece") _ _] _, .lst [] _], rfl, rfl⟩
theorem menu_asg {b : TS} {D : Ends} {σ : St} {H : Hp} (h : ∀ M vs H', Same H H' → H' M = some (.lst vs) → vs.length = 8 → (∀ x ∈ vs, WV H H' x) → b D (σ.set 5 (some (.ref M))) H') : (tSeq (tAsg (tLst tMenu) (gName 5)) b) D σ H := by
  unfold tSeq tAsg gName
  exact menu_rd fun M vs H' s e l w => h M vs H' s e l w
theorem ok_law {dV : Value} (F : FunD K "law" "law" sLaw dV f fd)
    {CN : Addr} (NTx : NT K mg CN) (ml : mg "len" = none) (mli : mg "list" = none) (mz : mg "zip" = none) (b : Bl mg)
    {gCh : Addr} {gdCh : FuncData} (GCh : FnOk P w K mg base CX0 5 gCh gdCh ["self", "k", "size"] (spChange CN K)) (bCh : Binds K gdCh ["self", "k", "size"] []) (mCh : Meth K CN "change" gCh)
    (G1 : FnOk P w K mg base CX0 1 g1 gd1 ["_law_script", "_law_k"] (spNth K)) (b1 : Binds K gd1 ["_law_script", "_law_k"] []) (k1 : PySem.W.keepIn K (.ref g1) = true) (m1 : mg "_law_nth" = some (.ref g1))
    (G2 : FnOk P w K mg base CX0 4 g2 gd2 ["_law_script", "_law_many", "_law_far"] (spRows32 K)) (b2 : Binds K gd2 ["_law_script", "_law_many", "_law_far"] []) (k2 : PySem.W.keepIn K (.ref g2) = true) (m2 : mg "_law_rows" = some (.ref g2))
    (G3 : FnOk P w K mg base CX0 6 g3 gd3 ["_law_many", "_law_rows_here"] (spNet32 CN K)) (b3 : Binds K gd3 ["_law_many", "_law_rows_here"] []) (k3 : PySem.W.keepIn K (.ref g3) = true) (m3 : mg "_law_net" = some (.ref g3))
    (G4 : FnOk P w K mg base CX0 6 g4 gd4 ["_law_net_here", "_law_words", "_law_bare"] (spAsked CN K)) (b4 : Binds K gd4 ["_law_net_here", "_law_words", "_law_bare"] []) (k4 : PySem.W.keepIn K (.ref g4) = true) (m4 : mg "_law_asked" = some (.ref g4))
    (G5 : FnOk P w K mg base CX0 1 g5 gd5 ["_law_rows_here", "_law_words"] (spClosers K)) (b5 : Binds K gd5 ["_law_rows_here", "_law_words"] []) (k5 : PySem.W.keepIn K (.ref g5) = true) (m5 : mg "_law_closers" = some (.ref g5))
    (G6 : FnOk P w K mg base CX0 2 g6 gd6 ["_law_found", "_law_closer", "_law_rows_here", "_law_forest"] (spRing K)) (b6 : Binds K gd6 ["_law_found", "_law_closer", "_law_rows_here", "_law_forest"] []) (k6 : PySem.W.keepIn K (.ref g6) = true) (m6 : mg "_law_ring" = some (.ref g6))
    (G7 : FnOk P w K mg base CX0 6 g7 gd7 ["_law_net_here", "_law_found", "_law_rows_here"] (spSums CN K)) (b7 : Binds K gd7 ["_law_net_here", "_law_found", "_law_rows_here"] []) (k7 : PySem.W.keepIn K (.ref g7) = true) (m7 : mg "_law_sums" = some (.ref g7))
    (G8 : FnOk P w K mg base CX0 3 g8 gd8 ["_law_cell", "_law_far"] spSize) (b8 : Binds K gd8 ["_law_cell", "_law_far"] []) (k8 : PySem.W.keepIn K (.ref g8) = true) (m8 : mg "_law_size" = some (.ref g8)) :
    FnOk P w K mg base CX 7 f fd ["_law_script"] (spLaw K) := by
  refine F.ok scLaw (fun vs H Q E h => ?_) (fun cdv A outer s H vs Q E hr h => ?_)
  · obtain ⟨a, ns, rfl, hS, h63, q⟩ := h
    rfl
  obtain ⟨a, ns, rfl, hS, h63, q⟩ := h
  have hu := hr.units
  have r1 := hr.mono (show 1 ≤ 6 by omega)
  have r2 := hr.mono (show 2 ≤ 6 by omega)
  have r3 := hr.mono (show 3 ≤ 6 by omega)
  have r4 := hr.mono (show 4 ≤ 6 by omega)
  have r5 := hr.mono (show 5 ≤ 6 by omega)
  rw [md_eq]
  obtain ⟨q1, q2, q3, l4, e4, eo4⟩ := md4_ex
  rw [e4]
  refine ⟨_, (pss_cons (ps_set (i := 1) scLaw.nd rfl (Or.inl rfl) (pe_op op_add pe_int (pe_op op_mod (pe_call G1 r1 rfl m1 k1 b1 .nil pass0 (pa_cons (pv 0) (pa_cons pe_int pa_nil))) pe_int)))
    (pss_cons (ps_set (i := 2) scLaw.nd rfl (Or.inl rfl) (pe_cmpR op_eq (pe_op op_mod (pe_call G1 r1 rfl m1 k1 b1 .nil pass0 (pa_cons (pv 0) (pa_cons pe_int pa_nil))) pe_int) pe_int (nomark _)))
    (pss_cons (ps_set (i := 3) scLaw.nd rfl (Or.inl rfl) (pe_call G2 r4 rfl m2 k2 b2 .nil pass0 (pa_cons (pv 0) (pa_cons (pv 1) (pa_cons (pv 2) pa_nil)))))
    (pss_cons (ps_set (i := 4) scLaw.nd rfl (Or.inl rfl) (pe_call G3 hr rfl m3 k3 b3 .nil pass0 (pa_cons (pv 1) (pa_cons (pv 3) pa_nil))))
    (pss_cons (ps_set (i := 5) scLaw.nd rfl (Or.inl rfl) (pe_lst (pa_els _ l4)))
    (pss_cons (ps_set (i := 6) scLaw.nd rfl (Or.inl rfl) (pe_ix ix_list (pv 5) (pe_op op_mod (pe_op op_fdiv (pe_call G1 r1 rfl m1 k1 b1 .nil pass0 (pa_cons (pv 0) (pa_cons pe_int pa_nil))) pe_int) pe_int) (fun _ _ => rfl)))
    (pss_cons (ps_set (i := 7) scLaw.nd rfl (Or.inl rfl) (pv 6))
    (pss_cons (ps_if (pt_cmp (pc_notN (pv 6))) (pss_one (ps_set (i := 7) scLaw.nd rfl (Or.inl rfl) (pe_callTy call_list_of rfl mli PyProof.Rows.boot_list (pa_cons (pv 6) pa_nil)))) pss_nil)
    (pss_cons (ps_set (i := 8) scLaw.nd rfl (Or.inl rfl) (pe_cmpR op_eq (pe_op op_mod (pe_op op_fdiv (pe_call G1 r1 rfl m1 k1 b1 .nil pass0 (pa_cons (pv 0) (pa_cons pe_int pa_nil))) pe_int) pe_int) pe_int (nomark _)))
    (pss_cons (ps_set (i := 9) scLaw.nd rfl (Or.inl rfl) (pe_call G4 hr rfl m4 k4 b4 .nil pass0 (pa_cons (pv 4) (pa_cons (pv 7) (pa_cons (pv 8) pa_nil)))))
    (pss_cons (ps_asg (pe_call G5 r1 rfl m5 k5 b5 .nil pass0 (pa_cons (pv 3) (pa_cons (pe_ifExp (pt_cmp (pc_notN (pv 6))) (pv 6) (pe_lst (pa_cons pe_str (pa_cons pe_str pa_nil)))) pa_nil))) (pg_tup rfl (pgs_cons (pg_name (i := 10) scLaw.nd rfl (Or.inl rfl)) (pgs_cons (pg_name (i := 11) scLaw.nd rfl (Or.inl rfl)) pgs_nil))))
    (pss_cons (ps_if (PW.pt (pw_or (pt_not (pt_val (pe_isiQ (i := 9) rfl (Or.inl rfl) b.isi mli rfl rfl PyProof.Rows.boot_list))) (pw_or (pt_cmpR op_ne (pe_callB call_len_seq rfl ml PySem.boot_len (pa_cons (pv 9) pa_nil)) (pe_callB call_len_seq rfl ml PySem.boot_len (pa_cons (pv 11) pa_nil)) (nomark _)) (pw_or1 (pt_cmpR (op_neD hu) (pv 7) (pv 6) (nomark _)))))) (pss_one (ps_ret pe_bl)) pss_nil)
    (pss_cons (ps_for PassesOwn.never rfl (pi_zip rfl mz rfl (pa_cons (pv 9) (pa_cons (pv 11) pa_nil))) (pg_tup rfl (pgs_cons (pg_name (i := 12) scLaw.nd rfl (Or.inl rfl)) (pgs_cons (pg_name (i := 13) scLaw.nd rfl (Or.inl rfl)) pgs_nil)))
      (pss_one (ps_if (pt_not (pt_val (pe_call G6 r2 rfl m6 k6 b6 .nil pass0 (pa_cons (pv 12) (pa_cons (pv 13) (pa_cons (pv 3) (pa_cons (pv 10) pa_nil))))))) (pss_one (ps_ret pe_bl)) pss_nil)))
    (pss_cons (ps_setC (i := 14) (nl := 1) (fr := []) (Nc := ["_law_ring_here"]) (cl := []) scLaw.nd rfl rfl rfl ⟨rfl, rfl, by decide +kernel, by decide +kernel, fun x c h => (by cases h), has_of rfl, rfl, fun i n h => (by simp at h)⟩
        (pi_list (pv 9)) (fun C s3 H3 fp pins => (pg_name (i := 0) nd_ring_here rfl (Or.inl rfl))) (fun C s3 H3 fp pins => pif_nil)
        (fun C s3 H3 fp pins => (pe_callTy (call_list_ofK (K := K) rfl) rfl mli PyProof.Rows.boot_list (pa_cons (pv 0) pa_nil))) rfl)
    (pss_cons (ps_if (pt_not (pt_val (pe_call G7 hr rfl m7 k7 b7 .nil pass0 (pa_cons (pv 4) (pa_cons (pv 9) (pa_cons (pv 3) pa_nil)))))) (pss_one (ps_ret pe_bl)) pss_nil)
    (pss_cons (ps_if (pt_cmpR op_gt (pe_callB call_len_seq rfl ml PySem.boot_len (pa_cons (pv 3) pa_nil)) pe_int (nomark _)) (pss_cons (ps_set (i := 15) scLaw.nd rfl (Or.inl rfl) (pe_op op_mod (pe_call G1 r1 rfl m1 k1 b1 .nil pass0 (pa_cons (pv 0) (pa_cons pe_int pa_nil))) (pe_callB call_len_seq rfl ml PySem.boot_len (pa_cons (pv 3) pa_nil))))
    (pss_cons (ps_set (i := 16) scLaw.nd rfl (Or.inl rfl) (pe_call G8 r3 rfl m8 k8 b8 .nil pass0 (pa_cons (pe_op op_fdiv (pe_call G1 r1 rfl m1 k1 b1 .nil pass0 (pa_cons (pv 0) (pa_cons pe_int pa_nil))) pe_int) (pa_cons (pv 2) pa_nil))))
    (pss_cons (ps_expr (pe_meth (pv 4) NTx.cl mCh GCh r5 bCh .nil pass0 (pa_cons (pv 15) (pa_cons (pv 16) pa_nil))))
    (pss_one (ps_asg (pe_op op_catT (pe_slice sl_tup (pe_ix ix_list (pv 3) (pv 15) (fun _ _ => rfl)) po_none (po_some pe_int)) (pe_tup (pa_cons (pv 16) pa_nil))) (pg_sub (pv 3) (pv 15) set_list)))))) pss_nil)
    (pss_cons (ps_set (i := 17) scLaw.nd rfl (Or.inl rfl) (pe_call G4 hr rfl m4 k4 b4 .nil pass0 (pa_cons (pv 4) (pa_cons (pv 7) (pa_cons (pv 8) pa_nil)))))
    (pss_cons (ps_set (i := 18) scLaw.nd rfl (Or.inl rfl) (pe_cmpR (op_eqD hu) (pv 17) (pv 14) (nomark _)))
    (pss_cons (ps_for PassesOwn.never rfl (pi_list (pv 17)) (pg_name (i := 12) scLaw.nd rfl (Or.inl rfl))
      (pss_one (ps_expr (pe_bm PySem.F.plainAttrs_list PySem.F.slot_list_append PySem.F.type_list_append mt_append (pv 12) (pa_cons (pe_tup (pa_cons pe_int (pa_cons pe_int pa_nil))) pa_nil)))))
    (pss_one (ps_ret (pe_and (pv 18) (pe_and (pe_call G7 hr rfl m7 k7 b7 .nil pass0 (pa_cons (pv 4) (pa_cons (pv 9) (pa_cons (pv 3) pa_nil)))) (pe_and (pe_cmpR (op_eqD hu) (pe_call G4 hr rfl m4 k4 b4 .nil pass0 (pa_cons (pv 4) (pa_cons (pv 7) (pa_cons (pe_not (pv 8)) pa_nil)))) (pv 14) (nomark _)) (pe_one (pe_cmpR (op_eqD hu) (pv 9) (pv 14) (nomark _))))))))))))))))))))))))))), ?_⟩
  rw [eo4]
  -- many, far, rows, net
  refine ⟨_, rfl, a, ns, 0, 0, rfl, rfl, hS, h63, by omega, fun v H1 s1 => ⟨_, _, rfl, rfl, (show (0 : Int) < 8 by decide), _, _, rfl, rfl, ?_⟩⟩
  have f0 := Int.emod_nonneg v (show (8 : Int) ≠ 0 by decide)
  have f9 := Int.emod_lt_of_pos v (show (0 : Int) < 8 by decide)
  obtain ⟨M, hM⟩ : ∃ M : Nat, 1 + v % 8 = (M : Int) := ⟨(1 + v % 8).toNat, by omega⟩
  show tSeq _ _ _ [some (.ref a), some (.int (1 + v % 8)), none, none, none, none, none, none, none, none, none, none, none, none, none, none, none, none, none] H1
  rw [hM]
  have hM1 : 1 ≤ M := by omega
  have hM8 : M ≤ 8 := by omega
  clear f0 f9 hM
  refine ⟨_, rfl, a, ns, 2, 2, rfl, rfl, s1.seq hS, h63, by omega, fun v2 H2 s2 => ⟨_, _, rfl, rfl, (show (0 : Int) < 3 by decide), rfl, ?_⟩⟩
  obtain ⟨fr, hfr⟩ : ∃ fr : Bool, decide (V.int (v2 % 3) = V.int 1) = fr := ⟨_, rfl⟩
  show tSeq _ _ _ [some (.ref a), some (.int (M : Int)), some (.bl (decide (V.int (v2 % 3) = V.int 1))), none, none, none, none, none, none, none, none, none, none, none, none, none, none, none, none] H2
  rw [hfr]
  have s02 := s1.trans s2
  refine ⟨_, rfl, _, rfl, _, rfl, a, ns, M, fr, rfl, s02.seq hS, h63, hM1, by omega, fun r us ds H3 s3 nr er hR hK h38 => ?_⟩
  have s03 := s02.trans s3
  refine ⟨_, rfl, _, rfl, (M : Int), r, us, ds, rfl, by omega, by omega, SqL.of er, hR, (fun d hd => (hK d hd).1), by omega, fun n l H4 s4 nl nt => ?_⟩
  have nrl : r ≠ l := ne_of_none er nl
  have er4 := s4 _ _ er
  have hR4 := hR.same s4
  have s04 := s03.trans s4
  have lus := hR.length
  have pt : ∀ d ∈ ds, PtOk (M : Int) d.2.1 d.2.2.1 := fun d hd => by
    have := (hK d hd).1
    exact ⟨this.1, this.2.1, this.2.2.1, this.2.2.2.1⟩
  have szk : SzOk ds := fun d hd => ⟨(hK d hd).1.2.2.2.2.1, (hK d hd).2⟩
  clear er hR s1 s2 s02 s03 hfr
  -- menu, words
  dsimp only
  refine cut2 (fun σ' H' => Same H4 H' ∧ ∃ mv wv, σ' = [some (.ref a), some (.int (M : Int)), some (.bl fr), some (.ref r), some (.ref n), mv, some wv, none, none, none, none, none, none, none, none, none, none, none, none] ∧ WV H4 H' wv) (fun X hX => ?_) ?_
  · refine menu_asg fun MM vs H5 s5 eM l8 hW => ?_
    refine ⟨_, rfl, _, rfl, a, ns, 2, 2, rfl, rfl, (s04.trans s5).seq hS, h63, by omega, fun v3 H6 s6 => ?_⟩
    refine ⟨_, _, rfl, rfl, ⟨by decide, by decide⟩, _, _, rfl, rfl, (show (0 : Int) < 8 by decide), ?_⟩
    have g0 := Int.emod_nonneg (v3 / 3) (show (8 : Int) ≠ 0 by decide)
    have g9 := Int.emod_lt_of_pos (v3 / 3) (show (0 : Int) < 8 by decide)
    obtain ⟨ix, hix⟩ : ∃ ix : Nat, v3 / 3 % 8 = (ix : Int) := ⟨(v3 / 3 % 8).toNat, by omega⟩
    have hl : ix < vs.length := by omega
    have av : atI vs (v3 / 3 % 8) = some vs[ix] := by rw [hix]; exact atI_nat (List.getElem?_eq_getElem hl)
    refine ⟨MM, vs, _, _, rfl, rfl, SqL.of (s6 _ _ eM), av, ?_⟩
    exact hX _ _ ⟨s5.trans s6, some (.ref MM), vs[ix], rfl, (hW _ (List.getElem_mem hl)).same s6⟩
  rintro σ' H5 ⟨s5, mv, wv, rfl, hwv⟩
  -- handed
  refine cut2 (fun σ' H' => Same H5 H' ∧ ∃ hv W, σ' = [some (.ref a), some (.int (M : Int)), some (.bl fr), some (.ref r), some (.ref n), mv, some wv, some hv, none, none, none, none, none, none, none, none, none, none, none] ∧ HW H4 H' wv hv W) (fun X hX => ?_) ?_
  · refine ⟨_, rfl, ?_⟩
    rcases hwv with rfl | ⟨aw, ks, rfl, hw, lk, naw⟩
    · exact ⟨_, rfl, _, rfl, ifF rfl (hX _ _ ⟨Same.refl _, .non, _, rfl, .non⟩)⟩
    · refine ⟨_, rfl, _, rfl, ifT rfl ⟨_, rfl, aw, _, rfl, .inl (SqL.of hw), fun b hb => ?_⟩⟩
      have sb := same_new hb (.lst (wds ks))
      exact hX _ _ ⟨sb, .ref b, _, rfl, .seq (sb _ _ hw) upd_same lk naw (s5.free hb)⟩
  rintro σ' H6 ⟨s6, hv, W, rfl, hw⟩
  have s46 := s5.trans s6
  have s06 := s04.trans s46
  clear s5 s6 hwv
  -- bare
  refine ⟨_, rfl, a, ns, 2, 2, rfl, rfl, s06.seq hS, h63, by omega, fun v4 H7 s7 => ⟨_, _, rfl, rfl, ⟨by decide, by decide⟩, _, _, rfl, rfl, (show (0 : Int) < 2 by decide), rfl, ?_⟩⟩
  obtain ⟨br, hbr⟩ : ∃ br : Bool, decide (V.int (v4 / 24 % 2) = V.int 0) = br := ⟨_, rfl⟩
  show tSeq _ _ _ [some (.ref a), some (.int (M : Int)), some (.bl fr), some (.ref r), some (.ref n), mv, some wv, some hv, some (.bl (decide (V.int (v4 / 24 % 2) = V.int 0))), none, none, none, none, none, none, none, none, none, none] H7
  rw [hbr]
  have s47 := s46.trans s7
  have s07 := s06.trans s7
  have hw7 := hw.same s7
  clear hw s46 s06 hbr
  -- found
  refine ⟨_, rfl, _, rfl, _, rfl, n, l, hv, M, ds, W, br, rfl, nt.same s47, pt, by omega, by omega, hw7.wds, fun f0 fs H8 s8 nf0 ef0 G8 nfx => ?_⟩
  have s48 := s47.trans s8
  have s08 := s07.trans s8
  have hw8 := hw7.same s8
  have ri := ringF_ok (W := W) (sk_lt pt) ds.length (by rw [sk_len]; exact Nat.le_refl _)
  have rg := rg_ok (by omega) pt ri
  have rl := ri.rl
  obtain ⟨RG, hRG⟩ : ∃ RG, RG = ringF W (skl ds) ds.length := ⟨_, rfl⟩
  rw [← hRG] at G8 ri rg rl
  have lfs := G8.l
  rw [List.length_map] at lfs
  -- closers
  dsimp only
  refine cut1 (fun σ' H' => Same H8 H' ∧ ∃ F C, σ' = [some (.ref a), some (.int (M : Int)), some (.bl fr), some (.ref r), some (.ref n), mv, some wv, some hv, some (.bl br), some (.ref f0), some (.ref F), some (.ref C), none, none, none, none, none, none, none] ∧ H' F = some (.dK (rch (RG.1.map (·.1)))) ∧ H' C = some (.lst (RG.2.map fun c => V.int (c.1 : Int)))) (fun X hX => ?_) ?_
  · have fin : ∀ (wa : Addr) (ws : List V) (H9 : Hp), Same H8 H9 → SqL K H9 wa ws → ws.all flatV = true → (∀ k : Kd, inV (.str k.wd) ws = W k) → spClosers K [.ref r, .ref wa] H9 (fun x H' => ∃ t F C, x = .ref t ∧ Same H9 H' ∧ SqT K H' t [.ref F, .ref C] ∧ H' F = some (.dK (rch (RG.1.map (·.1)))) ∧ H' C = some (.lst (RG.2.map fun c => V.int (c.1 : Int)))) E0 := fun wa ws H9 s9 h1 h2 h3 =>
      ⟨r, wa, us, ws, ds, M, W, rfl, SqL.of ((s48.trans s9) _ _ er4), hR4.same (s48.trans s9), pt, by omega, by omega, h1, h2, h3, fun t F C H' s' hT eF eC => ⟨t, F, C, rfl, s', hT, by rw [hRG]; exact eF, by rw [hRG]; exact eC⟩⟩
    cases hw8 with
    | non =>
      refine ⟨_, rfl, _, rfl, _, rfl, ifF rfl ⟨by show 2 ≤ sizeLine; decide, fun L hL => ?_⟩⟩
      have sL := same_new hL (.lst [.str "piece", .str "hold"])
      have eL : upd H8 L (.lst [.str "piece", .str "hold"]) L = some (.lst [.str "piece", .str "hold"]) := upd_same
      generalize upd H8 L (.lst [.str "piece", .str "hold"]) = H9 at sL eL ⊢
      refine ⟨r, L, us, _, ds, M, _, rfl, SqL.of ((s48.trans sL) _ _ er4), hR4.same (s48.trans sL), pt, by omega, by omega, SqL.of eL, rfl, joinW, fun t F C H' s' hT eF eC => ?_⟩
      exact ⟨t, _, rfl, hT, rfl, _, _, rfl, _, _, rfl, rfl, hX _ _ ⟨sL.trans s', F, C, rfl, by rw [hRG]; exact eF, by rw [hRG]; exact eC⟩⟩
    | @seq aw bw ks h g lk naw nbw =>
      refine ⟨_, rfl, _, rfl, _, rfl, ifT rfl ⟨_, rfl, ?_⟩⟩
      refine ⟨r, aw, us, _, ds, M, _, rfl, SqL.of (s48 _ _ er4), hR4.same s48, pt, by omega, by omega, SqL.of h, wds_flat _, fun _ => rfl, fun t F C H' s' hT eF eC => ?_⟩
      exact ⟨t, _, rfl, hT, rfl, _, _, rfl, _, _, rfl, rfl, hX _ _ ⟨s', F, C, rfl, by rw [hRG]; exact eF, by rw [hRG]; exact eC⟩⟩
  rintro σ' H9 ⟨s9, F, C, rfl, eF, eC⟩
  have s49 := s48.trans s9
  have s09 := s08.trans s9
  have hw9 := hw8.same s9
  have G9 := G8.same s9
  have ef9 := s9 _ _ ef0
  -- the check
  refine cut1 (fun σ' H' => H' = H9 ∧ σ' = [some (.ref a), some (.int (M : Int)), some (.bl fr), some (.ref r), some (.ref n), mv, some wv, some hv, some (.bl br), some (.ref f0), some (.ref F), some (.ref C), none, none, none, none, none, none, none]) (fun X hX => ?_) ?_
  · refine ⟨_, _, true, rfl, .lst (SqL.of ef9), rfl, _, rfl, iteF ⟨_, rfl, f0, _, rfl, .inl (SqL.of ef9), _, rfl, C, _, rfl, .inl (SqL.of eC), rfl, _, rfl, ?_⟩⟩
    refine ifF (by show (!decide (V.int (fs.length : Int) = V.int (((RG.2.map fun c => V.int (c.1 : Int)).length : Nat) : Int))) = false; rw [List.length_map, lfs, decide_eq_true rfl]; rfl) ?_
    refine ⟨_, rfl, _, rfl, hw9.eq ⟨_, rfl, iteF (hX _ _ ⟨rfl, rfl⟩)⟩⟩
  rintro σ' H' ⟨hH', rfl⟩
  subst hH'
  -- each ring
  refine cut1 (fun σ' H2 => Same H' H2 ∧ ∃ z12 z13, σ' = [some (.ref a), some (.int (M : Int)), some (.bl fr), some (.ref r), some (.ref n), mv, some wv, some hv, some (.bl br), some (.ref f0), some (.ref F), some (.ref C), z12, z13, none, none, none, none, none]) (fun X hX => ?_) ?_
  · refine ⟨_, rfl, _, rfl, f0, C, rfl, ⟨_, SqL.of ef9⟩, ⟨_, SqL.of eC⟩, ?_⟩
    refine for_zip (xs := fs) (ys := RG.2.map fun c => V.int (c.1 : Int)) (fun i σ H2 => Same H' H2 ∧ ∃ z12 z13, σ = [some (.ref a), some (.int (M : Int)), some (.bl fr), some (.ref r), some (.ref n), mv, some wv, some hv, some (.bl br), some (.ref f0), some (.ref F), some (.ref C), z12, z13, none, none, none, none, none]) ⟨Same.refl _, none, none, rfl⟩ (fun i σ H2 _ h => ⟨h.1.seq (SqL.of ef9), h.1.seq (SqL.of eC)⟩) ?_ ?_
    · rintro i x y σ H2 T2 hx hy ⟨s2, z12, z13, rfl⟩ hT
      rw [List.getElem?_map] at hy
      obtain ⟨c, hc, rfl⟩ := Option.map_eq_some_iff.mp hy
      have G2 := G9.same s2
      obtain ⟨ra, rx, rfl, _, era, Sra⟩ := G2.r i x c.2 hx (by rw [List.getElem?_map, hc]; rfl)
      have sT := same_new hT (.tup [.ref ra, .int (c.1 : Int)])
      refine ⟨T2, _, rfl, SqT.of upd_same, rfl, _, _, rfl, _, _, rfl, rfl, ?_⟩
      generalize upd H2 T2 (.tup [.ref ra, .int (c.1 : Int)]) = H3' at sT ⊢
      have s23 := s2.trans sT
      refine ⟨_, rfl, _, rfl, _, rfl, _, rfl, ra, r, F, c.1, rx, us, ds, _, c.2, rfl, SqL.of (sT _ _ era), Sra.same sT, SqL.of ((s49.trans s23) _ _ er4), hR4.same (s49.trans s23), s23 _ _ eF, (rg c (List.mem_of_getElem? hc)).1, fun H4' s4' => ⟨_, rfl, iteF ⟨s23.trans s4', _, _, rfl⟩⟩⟩
    · rintro σ H2 ⟨s2, z12, z13, rfl⟩
      exact hX _ _ ⟨s2, z12, z13, rfl⟩
  rintro σ' HA ⟨sA, z12, z13, rfl⟩
  have s4A := s49.trans sA
  have s0A := s09.trans sA
  have hwA := hw9.same sA
  have GA := G9.same sA
  have efA := sA _ _ ef9
  -- kept
  refine cut1 (fun σ' H2 => Same HA H2 ∧ ∃ KP ks, σ' = [some (.ref a), some (.int (M : Int)), some (.bl fr), some (.ref r), some (.ref n), mv, some wv, some hv, some (.bl br), some (.ref f0), some (.ref F), some (.ref C), z12, z13, some (.ref KP), none, none, none, none] ∧ HA KP = none ∧ H2 KP = some (.lst ks) ∧ Rgs K HA H2 ks (RG.2.map (·.2))) (fun X hX => ?_) ?_
  · refine ⟨_, rfl, f0, rfl, ⟨_, SqL.of efA⟩, fun KP hKP => ?_⟩
    have sK := same_new hKP (.lst [])
    refine comp_list (xs := fs) (fun i zs H2 => Same HA H2 ∧ H2 KP = some (.lst zs) ∧ Rgs K HA H2 zs ((RG.2.map (·.2)).take i) ∧ ∀ x ∈ zs, x ≠ .ref KP) ⟨sK, upd_same, by rw [List.take_zero]; exact .nil, fun x hx => by cases hx⟩ (fun i zs H2 h => h.2.1) (fun i zs H2 _ h => h.1.seq (SqL.of efA)) ?_ ?_
    · rintro i zs x H2 hx ⟨s2, e2, G2, n2⟩ C' hC'
      have hi : i < RG.2.length := by have := (List.getElem?_eq_some_iff.mp hx).1; omega
      have hc : RG.2[i]? = some RG.2[i] := List.getElem?_eq_getElem hi
      have hc2 : (RG.2.map (·.2))[i]? = some RG.2[i].2 := by rw [List.getElem?_map, hc]; rfl
      obtain ⟨ra, rx, rfl, _, era, Sra⟩ := (GA.same s2).r i x _ hx hc2
      have lz := G2.l
      rw [List.length_take, List.length_map] at lz
      refine ⟨keep1.1, keep1.2, iteT ?_⟩
      refine ⟨_, rfl, ra, rx, rfl, .inl (SqL.of era), fun L hL => ?_⟩
      have sL := same_new hL (.lst rx)
      have eL : upd H2 L (.lst rx) L = some (.lst rx) := upd_same
      generalize upd H2 L (.lst rx) = H3' at sL eL ⊢
      have e23 := sL _ _ e2
      have nLK : L ≠ KP := Ne.symm (ne_of_none e2 hL)
      refine ⟨e23, small1000 (by omega), hC' _ _ ⟨(s2.trans sL).change hKP, upd_same, ?_, fun y hy => ?_⟩⟩
      · rw [List.take_add_one, hc2]
        refine ((G2.same sL).snoc (s2.free hL) eL (Sra.same sL)).updO e23 fun y hy => ?_
        rcases List.mem_append.mp hy with z | z
        · exact n2 y z
        · have : y = .ref L := by simpa using z
          rw [this]; exact fun z => nLK (by injection z)
      · rcases List.mem_append.mp hy with z | z
        · exact n2 y z
        · have : y = .ref L := by simpa using z
          rw [this]; exact fun z => nLK (by injection z)
    · rintro zs H2 ⟨s2, e2, G2, n2⟩
      rw [lfs, show RG.2.length = (RG.2.map (·.2)).length by rw [List.length_map], List.take_length] at G2
      exact hX _ _ ⟨s2, KP, zs, rfl, hKP, e2, G2⟩
  rintro σ' HB ⟨sB, KP, ks, rfl, nKP, eKP, GK⟩
  have s4B := s4A.trans sB
  have s0B := s0A.trans sB
  have hwB := hwA.same sB
  have GB := GA.same sB
  have efB := sB _ _ efA
  have sums : ∀ c ∈ RG.2, c.2.length ≤ 21 ∧ StOk ds c.2 := fun c hc => (rg c hc).2
  -- sums
  refine cut1 (fun σ' H2 => Same HB H2 ∧ σ' = [some (.ref a), some (.int (M : Int)), some (.bl fr), some (.ref r), some (.ref n), mv, some wv, some hv, some (.bl br), some (.ref f0), some (.ref F), some (.ref C), z12, z13, some (.ref KP), none, none, none, none]) (fun X hX => ?_) ?_
  · exact ⟨_, rfl, _, rfl, _, rfl, n, l, f0, r, M, ds, fs, us, rfl, nt.same s4B, by omega, szk, SqL.of efB, rgs_fnd GB sums, SqL.of (s4B _ _ er4), hR4.same s4B, fun H2 s2 => ⟨_, rfl, iteF (hX _ _ ⟨s2, rfl⟩)⟩⟩
  rintro σ' HC ⟨sC, rfl⟩
  have s4C := s4B.trans sC
  have s0C := s0B.trans sC
  have hwC := hwB.same sC
  have GC := GB.same sC
  have GKC := GK.same sC
  have efC := sC _ _ efB
  have eKC := sC _ _ eKP
  have erC := s4C _ _ er4
  have hRC := hR4.same s4C
  have ntC := nt.same s4C
  obtain ⟨tl4, hl4, _⟩ := id nt.ls
  obtain ⟨tlC, hlC, _⟩ := id ntC.ls
  have lsts : Lsts [l, r] HC := fun x hx => by
    rcases List.mem_cons.mp hx with z | z
    · rw [z]; exact ⟨_, hlC⟩
    · have : x = r := by simpa using z
      rw [this]; exact ⟨_, erC⟩
  have old4 : ∀ x ∈ [l, r], H4 x ≠ none := fun x hx => by
    rcases List.mem_cons.mp hx with z | z
    · rw [z, hl4]; exact fun z => by cases z
    · have : x = r := by simpa using z
      rw [this, er4]; exact fun z => by cases z
  have oldOf : ∀ {HX : Hp}, Same H4 HX → ∀ x ∈ [l, r], HX x ≠ none := fun {HX} sx x hx z => old4 x hx (sx.free z)
  -- the change
  refine cut1 (fun σ' H2 => ∃ ds' us' z15 z16, σ' = [some (.ref a), some (.int (M : Int)), some (.bl fr), some (.ref r), some (.ref n), mv, some wv, some hv, some (.bl br), some (.ref f0), some (.ref F), some (.ref C), z12, z13, some (.ref KP), z15, z16, none, none] ∧ skl ds' = skl ds ∧ ds'.length = ds.length ∧ (∀ d ∈ ds', RdK M d) ∧ NetAt CN K H2 n l (M : Int) ds' ∧ H2 r = some (.lst us') ∧ Rts K H2 us' ds' ∧ SX [l, r] HC H2) (fun X hX => ?_) ?_
  · refine ⟨_, rfl, r, us, rfl, .inl (SqL.of erC), _, _, rfl, rfl, _, rfl, ?_⟩
    by_cases hlen : us.length = 0
    · exact ifF (by show decide ((0 : Int) < (us.length : Int)) = false; exact decide_eq_false (by omega)) (hX _ _ ⟨ds, us, _, _, rfl, rfl, rfl, hK, ntC, erC, hRC, Same.sx (Same.refl _)⟩)
    refine ifT (by show decide ((0 : Int) < (us.length : Int)) = true; exact decide_eq_true (by omega)) ?_
    refine ⟨_, rfl, a, ns, 3, 3, rfl, rfl, s0C.seq hS, h63, by omega, fun v5 HD sD => ⟨_, rfl, r, us, rfl, .inl (SqL.of (sD _ _ erC)), _, _, rfl, rfl, (show (0 : Int) < (us.length : Int) by omega), ?_⟩⟩
    have w0 := Int.emod_nonneg v5 (show (us.length : Int) ≠ 0 by omega)
    have w1 := Int.emod_lt_of_pos v5 (show (0 : Int) < (us.length : Int) by omega)
    obtain ⟨w', hw'⟩ : ∃ w' : Nat, v5 % (us.length : Int) = (w' : Int) := ⟨(v5 % (us.length : Int)).toNat, by omega⟩
    have wl : w' < ds.length := by omega
    show tSeq _ _ _ [some (.ref a), some (.int (M : Int)), some (.bl fr), some (.ref r), some (.ref n), mv, some wv, some hv, some (.bl br), some (.ref f0), some (.ref F), some (.ref C), z12, z13, some (.ref KP), some (.int (v5 % (us.length : Int))), none, none, none] HD
    rw [hw']
    clear w0 w1 hw'
    refine ⟨_, rfl, a, ns, 3, 3, rfl, rfl, (s0C.trans sD).seq hS, h63, by omega, fun v6 HE sE => ⟨_, _, rfl, rfl, ⟨by decide, by decide⟩, _, rfl, _, fr, rfl, fun p hp bp z HF sF eFz => ?_⟩⟩
    have sCF := sD.trans (sE.trans sF)
    have bb : bits fr ≤ 30 := by cases fr <;> decide
    have fz : Fq K HF z p := Fq.of eFz
    obtain ⟨⟨k0, i0, j0, p0⟩, hd⟩ : ∃ d, ds[w']? = some d := ⟨_, List.getElem?_eq_getElem wl⟩
    have ntF := ntC.same sCF
    obtain ⟨dn, hn⟩ := ntF.ob
    obtain ⟨tlF, hlF, _⟩ := id ntF.ls
    refine ⟨_, rfl, n, dn, _, rfl, hn, nflds_no _ _ (by decide +kernel) (by decide +kernel), _, rfl, _, rfl, n, l, z, (M : Int), (w' : Int), ds, k0, i0, j0, p0, p, rfl, ntF, by omega, (by rw [Int.toNat_natCast]; exact hd), fz, hp.low, (fun _ => hp.pos), (bp.mono bb).mono (by omega), fun HG xG NG => ?_⟩
    rw [Int.toNat_natCast] at NG
    have erG := xG _ _ (sCF _ _ erC) nrl
    have hRG' := SameX.rts hlF xG (hRC.same sCF)
    have fzG : Fq K HG z p := xG.seqT hlF fz
    obtain ⟨t, zz, et, hT, fzz⟩ := hRG'.at hd
    have AT : atI us (w' : Int) = some (.ref t) := atI_nat et
    have hT : SqT K HG t [.str k0.wd, .int i0, .int j0, .ref zz] := hT
    refine ⟨_, rfl, _, rfl, r, us, _, _, rfl, rfl, SqL.of erG, AT, 3, rfl, t, _, rfl, hT, (fun h => absurd (show HT.sIx 4 4 (some 3) = 4 from h.2) (by decide)), fun p5 hp5 => ?_⟩
    have ec : cutV [.str k0.wd, .int i0, .int j0, .ref zz] none (some 3) = [.str k0.wd, .int i0, .int j0] := rfl
    rw [ec]
    have sH := same_new hp5 (.tup [.str k0.wd, .int i0, .int j0])
    have eH : SqT K (upd HG p5 (.tup [.str k0.wd, .int i0, .int j0])) p5 [.str k0.wd, .int i0, .int j0] := SqT.of upd_same
    generalize upd HG p5 (.tup [.str k0.wd, .int i0, .int j0]) = HH at sH eH ⊢
    refine ⟨_, rfl, by show 1 ≤ sizeLine; decide, fun t1 ht1 => ?_⟩
    have sL := same_new ht1 (.tup [.ref z])
    have eL : SqT K (upd HH t1 (.tup [.ref z])) t1 [.ref z] := SqT.of upd_same
    generalize upd HH t1 (.tup [.ref z]) = HL at sL eL ⊢
    refine ⟨p5, t1, _, _, rfl, rfl, sL.seqT eH, eL, by simp, by show 4 ≤ sizeLine; decide, (fun z => by cases z), fun _ t8 ht8 => ?_⟩
    have sM := same_new ht8 (.tup ([.str k0.wd, .int i0, .int j0] ++ [.ref z]))
    have eM : SqT K (upd HL t8 (.tup ([.str k0.wd, .int i0, .int j0] ++ [.ref z]))) t8 [.str k0.wd, .int i0, .int j0, .ref z] := SqT.of upd_same
    generalize upd HL t8 (.tup ([.str k0.wd, .int i0, .int j0] ++ [.ref z])) = HM at sM eM ⊢
    have sGM := sH.trans (sL.trans sM)
    have erM := sGM _ _ erG
    refine ⟨_, rfl, _, rfl, r, us, _, w', rfl, rfl, erM, ixN_nat (by omega), ?_⟩
    have xr : SameX r HM (upd HM r (.lst (us.set w' (.ref t8)))) := fun b o e nb => by rw [upd_ne nb]; exact e
    obtain ⟨rd, _⟩ := hK _ (List.mem_of_getElem? hd)
    refine hX _ _ ⟨ds.set w' (k0, i0, j0, p), us.set w' (.ref t8), _, _, rfl, skl_set hd, List.length_set .., fun d hd' => ?_, NetAt.x erM xr (Ne.symm nrl) (NG.same sGM), upd_same, Rts.upd erM (Rts.set eM (sGM.fq fzG) _ (hRG'.same sGM)), fun b o hb nb => ?_⟩
    · rcases List.mem_or_eq_of_mem_set hd' with z | z
      · exact hK d z
      · rw [z]; exact ⟨⟨rd.1, rd.2.1, rd.2.2.1, rd.2.2.2.1, hp.low, (fun _ => hp.pos), (bp.mono bb).mono (by omega)⟩, bp.mono bb⟩
    · have nbl : b ≠ l := fun z => nb (by rw [z]; simp)
      have nbr : b ≠ r := fun z => nb (by rw [z]; simp)
      exact xr _ _ (sGM _ _ (xG _ _ (sCF _ _ hb) nbl)) nbr
  rintro σ' HD ⟨ds', us', z15, z16, rfl, skE, lenE, hK', ntD, erD, hRD, sx⟩
  have lus' := hRD.length
  have pt' : ∀ d ∈ ds', PtOk (M : Int) d.2.1 d.2.2.1 := fun d hd => by
    have := (hK' d hd).1
    exact ⟨this.1, this.2.1, this.2.2.1, this.2.2.2.1⟩
  have szk' : SzOk ds' := fun d hd => ⟨(hK' d hd).1.2.2.2.2.1, (hK' d hd).2⟩
  have hwD := hwC.sx sx old4
  have GD := Rgs.sx lsts sx (oldOf s47) GC
  have GKD := Rgs.sx lsts sx (oldOf s4A) GKC
  have nf : f0 ∉ [l, r] := fun z => oldOf s47 f0 z nf0
  have nK : KP ∉ [l, r] := fun z => oldOf s4A KP z nKP
  have efD := sx _ _ efC nf
  have eKD := sx _ _ eKC nK
  have sums' : ∀ c ∈ RG.2, c.2.length ≤ 21 ∧ StOk ds' c.2 := fun c hc => ⟨(sums c hc).1, fun t ht => by rw [lenE]; exact (sums c hc).2 t ht⟩
  have ringE : ringF W (skl ds') ds'.length = RG := by rw [skE, lenE, hRG]
  clear sx lsts hwC GC GKC efC eKC erC hRC ntC
  -- spoiled, same
  refine cut2 (fun σ' H2 => Same HD H2 ∧ ∃ SP sps, σ' = [some (.ref a), some (.int (M : Int)), some (.bl fr), some (.ref r), some (.ref n), mv, some wv, some hv, some (.bl br), some (.ref f0), some (.ref F), some (.ref C), z12, z13, some (.ref KP), z15, z16, some (.ref SP), some (.bl true)] ∧ HD SP = none ∧ H2 SP = some (.lst sps) ∧ Rgs K HD H2 sps (RG.2.map (·.2)) ∧ ∀ x ∈ sps, x ≠ .ref SP) (fun X hX => ?_) ?_
  · refine ⟨_, rfl, _, rfl, _, rfl, n, l, hv, M, ds', W, br, rfl, ntD, pt', by omega, by omega, hwD.wds, fun SP sps HE sE nSP eSP GS nSx => ?_⟩
    rw [ringE] at GS
    refine ⟨_, rfl, _, rfl, rgs_eq (SqL.of eSP) (SqL.of (sE _ _ eKD)) GS (GKD.same sE) ?_⟩
    exact hX _ _ ⟨sE, SP, sps, rfl, nSP, eSP, GS, nSx⟩
  rintro σ' HE ⟨sE, SP, sps, rfl, nSP, eSP, GS, nSx⟩
  have lsp := GS.l
  rw [List.length_map] at lsp
  -- they are spoiled
  refine cut1 (fun σ' H2 => Same HD H2 ∧ ∃ z12, σ' = [some (.ref a), some (.int (M : Int)), some (.bl fr), some (.ref r), some (.ref n), mv, some wv, some hv, some (.bl br), some (.ref f0), some (.ref F), some (.ref C), z12, z13, some (.ref KP), z15, z16, some (.ref SP), some (.bl true)]) (fun X hX => ?_) ?_
  · refine ⟨_, rfl, SP, rfl, ⟨_, SqL.of eSP⟩, ?_⟩
    refine for_list (xs := sps) (fun i σ H2 => Same HD H2 ∧ H2 SP = some (.lst sps) ∧ (∀ x ∈ sps, ∃ (b : Addr) (ls : List V), x = .ref b ∧ HD b = none ∧ H2 b = some (.lst ls) ∧ ls.length ≤ 100 + i) ∧ ∃ z12, σ = [some (.ref a), some (.int (M : Int)), some (.bl fr), some (.ref r), some (.ref n), mv, some wv, some hv, some (.bl br), some (.ref f0), some (.ref F), some (.ref C), z12, z13, some (.ref KP), z15, z16, some (.ref SP), some (.bl true)]) ⟨sE, eSP, fun x hx => ?_, z12, rfl⟩ (fun i σ H2 _ h => SqL.of h.2.1) ?_ ?_
    · obtain ⟨i, hi⟩ := List.getElem?_of_mem hx
      have hl : i < RG.2.length := by have := (List.getElem?_eq_some_iff.mp hi).1; omega
      have hc : RG.2[i]? = some RG.2[i] := List.getElem?_eq_getElem hl
      obtain ⟨b', ls, e1, nb, eb, Sb⟩ := GS.r i x _ hi (by rw [List.getElem?_map, hc]; rfl)
      have := (sums _ (List.mem_of_getElem? hc)).1
      exact ⟨b', ls, e1, nb, eb, by rw [Sb.length]; show RG.2[i].2.length ≤ 100 + 0; omega⟩
    · rintro i x σ H2 hx ⟨s2, e2, al, z12, rfl⟩
      have hi : i < sps.length := (List.getElem?_eq_some_iff.mp hx).1
      have mx := List.mem_of_getElem? hx
      obtain ⟨b', ls, rfl, nb, eb, lb⟩ := al x mx
      refine ⟨_, rfl, .inl ⟨rfl, _, SqL.of eb⟩, by show 2 ≤ sizeLine; decide, fun t1 ht1 => ?_⟩
      have s3 := same_new ht1 (.tup [.int 0, .int 1])
      generalize upd H2 t1 (.tup [.int 0, .int 1]) = H3' at s3 ⊢
      have eb3 := s3 _ _ eb
      refine ⟨b', ls, .ref t1, rfl, rfl, eb3, by rw [sizeLine_eq]; omega, ?_⟩
      have nbS : b' ≠ SP := fun z => nSx _ mx (by rw [z])
      refine ⟨(s2.trans s3).change nb, by rw [upd_ne (Ne.symm nbS)]; exact s3 _ _ e2, fun y hy => ?_, _, rfl⟩
      obtain ⟨b2, ls2, e1, n2, e3, l3⟩ := al y hy
      by_cases c : b2 = b'
      · subst c
        refine ⟨b2, ls ++ [.ref t1], e1, n2, upd_same, ?_⟩
        rw [List.length_append]
        simp only [List.length_cons, List.length_nil]
        omega
      · exact ⟨b2, ls2, e1, n2, by rw [upd_ne c]; exact s3 _ _ e3, by omega⟩
    · rintro σ H2 ⟨s2, _, _, z12, rfl⟩
      exact hX _ _ ⟨s2, z12, rfl⟩
  rintro σ' HF ⟨sF, z12, rfl⟩
  -- told
  refine ⟨_, rfl, _, rfl, iteT ?_⟩
  refine ⟨_, rfl, _, rfl, _, rfl, n, l, f0, r, M, ds', fs, us', rfl, ntD.same sF, by omega, szk', SqL.of (sF _ _ efD), rgs_fnd (GD.same sF) sums', SqL.of (sF _ _ erD), hRD.same sF, fun HG sG => ⟨_, rfl, iteT ?_⟩⟩
  have sDG := sF.trans sG
  refine ⟨_, rfl, _, rfl, _, rfl, _, rfl, n, l, hv, M, ds', W, !br, rfl, ntD.same sDG, pt', by omega, by omega, (hwD.same sDG).wds, fun SQ sqs HH sH nSQ eSQ GQ nQx => ?_⟩
  rw [ringE] at GQ
  have sDH := sDG.trans sH
  refine ⟨_, rfl, rgs_eq (SqL.of eSQ) (SqL.of (sDH _ _ eKD)) GQ (GKD.same sDH) ⟨_, rfl, iteT ?_⟩⟩
  refine ⟨_, rfl, _, rfl, rgs_eq (SqL.of (sDH _ _ efD)) (SqL.of (sDH _ _ eKD)) (GD.same sDH) (GKD.same sDH) ?_⟩
  exact q _
end
end K32

set_option Elab.async false
set_option linter.all false
namespace L2
open PySem PySem.W
/-- the goal that z_head leaves, from the one that k_head leaves -/
theorem walkX_of {q : Program} {loose : List Str} {XP : (Str → Option Value) → Heap → Prop} {K : Params → PySem.W.Frag} {bs : List Addr} {n t : Nat} {r : RowW} {d : DefRec} {kwd : List (Str × Expr)} {run : Value → List Value → Sem Value}
    (e : ∀ P, bs = (K P).map (·.1)) (h : WalkO q loose XP (fun w h => (K w.params).In h) r d kwd run) : WalkX q loose XP (PySem.W.X.obsZ bs) (PySem.W.X.valZ K n t) r d kwd run :=
  fun w s₀ s₁ mg mb G y a o pm cd doc dV kV h1 h2 h3 h4 h5 h6 args vals as' L => h w s₀ s₁ mg mb G (InK.keeps w _ _ (PySem.W.X.z_facts e y).2.1 L.keeps) a o pm cd doc dV kV h1 h2 h3 h4 h5 h6 args vals as'
end L2

set_option Elab.async false
set_option linter.all false
set_option maxRecDepth 100000
set_option maxHeartbeats 4000000
namespace K32
open PySem L2
/-! the program's top -/
theorem all_mk {l : PySem.W.OpenLaw} {w : World} {K : PySem.W.Frag} {h : Heap} {mg : Str → Option Value} {fa : Addr} (X : K.In h) (G : h.Ns mainGlobals mg) (hfa : mg "law" = some (.ref fa))
    {c_Row : Addr}
    {c_Piece : Addr}
    {c_Push : Addr}
    {c_Hold : Addr}
    {c_Net : Addr}
    {f1 : Addr} {od1 an1 : Option Addr} {sl1 : Array (Option Value)} {oc1 kV1 dc1 pm1 cd1 ct1 : Value}
    {f2 : Addr} {od2 an2 : Option Addr} {sl2 : Array (Option Value)} {oc2 kV2 dc2 pm2 cd2 ct2 : Value}
    {f3 : Addr} {od3 an3 : Option Addr} {sl3 : Array (Option Value)} {oc3 kV3 dc3 pm3 cd3 ct3 : Value}
    {f4 : Addr} {od4 an4 : Option Addr} {sl4 : Array (Option Value)} {oc4 kV4 dc4 pm4 cd4 ct4 : Value}
    {T4 : Addr} {oT4 : Value} {dT4 : Option Addr} {nT4 : Nat} {sT4 : Array (Option Value)} {tk4 : Tok}
    {f5 : Addr} {od5 an5 : Option Addr} {sl5 : Array (Option Value)} {oc5 kV5 dc5 pm5 cd5 ct5 : Value}
    {f6 : Addr} {od6 an6 : Option Addr} {sl6 : Array (Option Value)} {oc6 kV6 dc6 pm6 cd6 ct6 : Value}
    {f7 : Addr} {od7 an7 : Option Addr} {sl7 : Array (Option Value)} {oc7 kV7 dc7 pm7 cd7 ct7 : Value}
    {f8 : Addr} {od8 an8 : Option Addr} {sl8 : Array (Option Value)} {oc8 kV8 dc8 pm8 cd8 ct8 : Value}
    {f9 : Addr} {od9 an9 : Option Addr} {sl9 : Array (Option Value)} {oc9 kV9 dc9 pm9 cd9 ct9 : Value}
    {f10 : Addr} {od10 an10 : Option Addr} {sl10 : Array (Option Value)} {oc10 kV10 dc10 pm10 cd10 ct10 : Value}
    {f11 : Addr} {od11 an11 : Option Addr} {sl11 : Array (Option Value)} {oc11 kV11 dc11 pm11 cd11 ct11 : Value}
    {f12 : Addr} {od12 an12 : Option Addr} {sl12 : Array (Option Value)} {oc12 kV12 dc12 pm12 cd12 ct12 : Value}
    {f13 : Addr} {od13 an13 : Option Addr} {sl13 : Array (Option Value)} {oc13 kV13 dc13 pm13 cd13 ct13 : Value}
    {f14 : Addr} {od14 an14 : Option Addr} {sl14 : Array (Option Value)} {oc14 kV14 dc14 pm14 cd14 ct14 : Value}
    {f15 : Addr} {od15 an15 : Option Addr} {sl15 : Array (Option Value)} {oc15 kV15 dc15 pm15 cd15 ct15 : Value}
    {f16 : Addr} {od16 an16 : Option Addr} {sl16 : Array (Option Value)} {oc16 kV16 dc16 pm16 cd16 ct16 : Value}
    {f17 : Addr} {od17 an17 : Option Addr} {sl17 : Array (Option Value)} {oc17 kV17 dc17 pm17 cd17 ct17 : Value}
    {f18 : Addr} {od18 an18 : Option Addr} {sl18 : Array (Option Value)} {oc18 kV18 dc18 pm18 cd18 ct18 : Value}
    {f19 : Addr} {od19 an19 : Option Addr} {sl19 : Array (Option Value)} {oc19 kV19 dc19 pm19 cd19 ct19 : Value}
    {f20 : Addr} {od20 an20 : Option Addr} {sl20 : Array (Option Value)} {oc20 kV20 dc20 pm20 cd20 ct20 : Value}
    {f21 : Addr} {od21 an21 : Option Addr} {sl21 : Array (Option Value)} {oc21 kV21 dc21 pm21 cd21 ct21 : Value}
    {f22 : Addr} {od22 an22 : Option Addr} {sl22 : Array (Option Value)} {oc22 kV22 dc22 pm22 cd22 ct22 : Value}
    {f23 : Addr} {od23 an23 : Option Addr} {sl23 : Array (Option Value)} {oc23 kV23 dc23 pm23 cd23 ct23 : Value}
    {f24 : Addr} {od24 an24 : Option Addr} {sl24 : Array (Option Value)} {oc24 kV24 dc24 pm24 cd24 ct24 : Value}
    {f25 : Addr} {od25 an25 : Option Addr} {sl25 : Array (Option Value)} {oc25 kV25 dc25 pm25 cd25 ct25 : Value}
    {f26 : Addr} {od26 an26 : Option Addr} {sl26 : Array (Option Value)} {oc26 kV26 dc26 pm26 cd26 ct26 : Value}
    {T26 : Addr} {oT26 : Value} {dT26 : Option Addr} {nT26 : Nat} {sT26 : Array (Option Value)}
    {f27 : Addr} {od27 an27 : Option Addr} {sl27 : Array (Option Value)} {oc27 kV27 dc27 pm27 cd27 ct27 : Value}
    {f28 : Addr} {od28 an28 : Option Addr} {sl28 : Array (Option Value)} {oc28 kV28 dc28 pm28 cd28 ct28 : Value}
    {f29 : Addr} {od29 an29 : Option Addr} {sl29 : Array (Option Value)} {oc29 kV29 dc29 pm29 cd29 ct29 : Value}
    {f30 : Addr} {od30 an30 : Option Addr} {sl30 : Array (Option Value)} {oc30 kV30 dc30 pm30 cd30 ct30 : Value}
    {f31 : Addr} {od31 an31 : Option Addr} {sl31 : Array (Option Value)} {oc31 kV31 dc31 pm31 cd31 ct31 : Value}
    {f32 : Addr} {od32 an32 : Option Addr} {sl32 : Array (Option Value)} {oc32 kV32 dc32 pm32 cd32 ct32 : Value}
    {f33 : Addr} {od33 an33 : Option Addr} {sl33 : Array (Option Value)} {oc33 kV33 dc33 pm33 cd33 ct33 : Value}
    {f34 : Addr} {od34 an34 : Option Addr} {sl34 : Array (Option Value)} {oc34 kV34 dc34 pm34 cd34 ct34 : Value}
    {f35 : Addr} {od35 an35 : Option Addr} {sl35 : Array (Option Value)} {oc35 kV35 dc35 pm35 cd35 ct35 : Value}
    {f36 : Addr} {od36 an36 : Option Addr} {sl36 : Array (Option Value)} {oc36 kV36 dc36 pm36 cd36 ct36 : Value}
    {f37 : Addr} {od37 an37 : Option Addr} {sl37 : Array (Option Value)} {oc37 kV37 dc37 pm37 cd37 ct37 : Value}
    {f38 : Addr} {od38 an38 : Option Addr} {sl38 : Array (Option Value)} {oc38 kV38 dc38 pm38 cd38 ct38 : Value}
    {f39 : Addr} {od39 an39 : Option Addr} {sl39 : Array (Option Value)} {oc39 kV39 dc39 pm39 cd39 ct39 : Value}
    {f40 : Addr} {od40 an40 : Option Addr} {sl40 : Array (Option Value)} {oc40 kV40 dc40 pm40 cd40 ct40 : Value}
    {f41 : Addr} {od41 an41 : Option Addr} {sl41 : Array (Option Value)} {oc41 kV41 dc41 pm41 cd41 ct41 : Value}
    {aN : Addr} {dN : Option Addr} {nN : Nat} {sN : Array (Option Value)} {t0 t1 : Tok}
    {aJ : Addr} {dJ : Option Addr} {nJ : Nat} {sJ : Array (Option Value)} {tj0 tj1 : Tok}
    {tM : Tok}
    {tR : Tok}
    (y_Row : PySem.W.nsIn K mainGlobals "Row" = some (some (.ref c_Row)))
    (y_Piece : PySem.W.nsIn K mainGlobals "Piece" = some (some (.ref c_Piece)))
    (y_Push : PySem.W.nsIn K mainGlobals "Push" = some (some (.ref c_Push)))
    (y_Hold : PySem.W.nsIn K mainGlobals "Hold" = some (some (.ref c_Hold)))
    (y_Net : PySem.W.nsIn K mainGlobals "Net" = some (some (.ref c_Net)))
    (a1 : PySem.W.nsIn K mainGlobals "is_whole" = some (some (.ref f1)))
    (l1 : K.lookup f1 = some ⟨oc1, od1, .func (PySem.W.fnOf "is_whole" "is_whole" (defArgs sWhole) (defBody sWhole) (defScope sWhole) .none kV1 dc1 pm1 an1 cd1 ct1), sl1⟩) (c1 : PySem.W.codeIn K cd1 "is_whole" = true) (k1 : PySem.W.keepIn K (.ref f1) = true)
    (a2 : PySem.W.nsIn K mainGlobals "greatest_common" = some (some (.ref f2)))
    (l2 : K.lookup f2 = some ⟨oc2, od2, .func (PySem.W.fnOf "greatest_common" "greatest_common" (defArgs sGc) (defBody sGc) (defScope sGc) .none kV2 dc2 pm2 an2 cd2 ct2), sl2⟩) (c2 : PySem.W.codeIn K cd2 "greatest_common" = true) (k2 : PySem.W.keepIn K (.ref f2) = true)
    (a3 : PySem.W.nsIn K mainGlobals "under" = some (some (.ref f3)))
    (l3 : K.lookup f3 = some ⟨oc3, od3, .func (PySem.W.fnOf "under" "under" (defArgs sUnder) (defBody sUnder) (defScope sUnder) .none kV3 dc3 pm3 an3 cd3 ct3), sl3⟩) (c3 : PySem.W.codeIn K cd3 "under" = true) (k3 : PySem.W.keepIn K (.ref f3) = true)
    (a4 : PySem.W.nsIn K mainGlobals "fraction" = some (some (.ref f4)))
    (l4 : K.lookup f4 = some ⟨oc4, od4, .func (PySem.W.fnOf "fraction" "fraction" (defArgs sFrac) (defBody sFrac) (defScope sFrac) (.ref T4) kV4 dc4 pm4 an4 cd4 ct4), sl4⟩) (c4 : PySem.W.codeIn K cd4 "fraction" = true) (k4 : PySem.W.keepIn K (.ref f4) = true)
    (lt4 : K.lookup T4 = some ⟨oT4, dT4, .seq #[.int 1 tk4] nT4, sT4⟩)
    (a5 : PySem.W.nsIn K mainGlobals "plus" = some (some (.ref f5)))
    (l5 : K.lookup f5 = some ⟨oc5, od5, .func (PySem.W.fnOf "plus" "plus" (defArgs sPlus) (defBody sPlus) (defScope sPlus) .none kV5 dc5 pm5 an5 cd5 ct5), sl5⟩) (c5 : PySem.W.codeIn K cd5 "plus" = true) (k5 : PySem.W.keepIn K (.ref f5) = true)
    (a6 : PySem.W.nsIn K mainGlobals "times" = some (some (.ref f6)))
    (l6 : K.lookup f6 = some ⟨oc6, od6, .func (PySem.W.fnOf "times" "times" (defArgs sTimes) (defBody sTimes) (defScope sTimes) .none kV6 dc6 pm6 an6 cd6 ct6), sl6⟩) (c6 : PySem.W.codeIn K cd6 "times" = true) (k6 : PySem.W.keepIn K (.ref f6) = true)
    (a7 : PySem.W.nsIn K mainGlobals "total" = some (some (.ref f7)))
    (l7 : K.lookup f7 = some ⟨oc7, od7, .func (PySem.W.fnOf "total" "total" (defArgs sTotal) (defBody sTotal) (defScope sTotal) .none kV7 dc7 pm7 an7 cd7 ct7), sl7⟩) (c7 : PySem.W.codeIn K cd7 "total" = true) (k7 : PySem.W.keepIn K (.ref f7) = true)
    (a8 : PySem.W.nsIn K mainGlobals "is_fraction" = some (some (.ref f8)))
    (l8 : K.lookup f8 = some ⟨oc8, od8, .func (PySem.W.fnOf "is_fraction" "is_fraction" (defArgs sIsF) (defBody sIsF) (defScope sIsF) .none kV8 dc8 pm8 an8 cd8 ct8), sl8⟩) (c8 : PySem.W.codeIn K cd8 "is_fraction" = true) (k8 : PySem.W.keepIn K (.ref f8) = true)
    (a9_0 : PySem.W.findIn K (.ref c_Piece) "__init__" = some (some (.ref f9)))
    (a9_1 : PySem.W.findIn K (.ref c_Push) "__init__" = some (some (.ref f9)))
    (a9_2 : PySem.W.findIn K (.ref c_Hold) "__init__" = some (some (.ref f9)))
    (i9 : PySem.W.isFn K (.ref f9) = true)
    (l9 : K.lookup f9 = some ⟨oc9, od9, .func (PySem.W.fnOf "__init__" "Row.__init__" (defArgs sRInit) (defBody sRInit) (defScope sRInit) .none kV9 dc9 pm9 an9 cd9 ct9), sl9⟩) (c9 : PySem.W.codeIn K cd9 "Row.__init__" = true) (k9 : PySem.W.keepIn K (.ref f9) = true)
    (a10_0 : PySem.W.findIn K (.ref c_Piece) "word" = some (some (.ref f10)))
    (i10 : PySem.W.isFn K (.ref f10) = true)
    (l10 : K.lookup f10 = some ⟨oc10, od10, .func (PySem.W.fnOf "word" "Piece.word" (defArgs sWord_pc) (defBody sWord_pc) (defScope sWord_pc) .none kV10 dc10 pm10 an10 cd10 ct10), sl10⟩) (c10 : PySem.W.codeIn K cd10 "Piece.word" = true) (k10 : PySem.W.keepIn K (.ref f10) = true)
    (a11_0 : PySem.W.findIn K (.ref c_Push) "word" = some (some (.ref f11)))
    (i11 : PySem.W.isFn K (.ref f11) = true)
    (l11 : K.lookup f11 = some ⟨oc11, od11, .func (PySem.W.fnOf "word" "Push.word" (defArgs sWord_pu) (defBody sWord_pu) (defScope sWord_pu) .none kV11 dc11 pm11 an11 cd11 ct11), sl11⟩) (c11 : PySem.W.codeIn K cd11 "Push.word" = true) (k11 : PySem.W.keepIn K (.ref f11) = true)
    (a12_0 : PySem.W.findIn K (.ref c_Hold) "word" = some (some (.ref f12)))
    (i12 : PySem.W.isFn K (.ref f12) = true)
    (l12 : K.lookup f12 = some ⟨oc12, od12, .func (PySem.W.fnOf "word" "Hold.word" (defArgs sWord_ho) (defBody sWord_ho) (defScope sWord_ho) .none kV12 dc12 pm12 an12 cd12 ct12), sl12⟩) (c12 : PySem.W.codeIn K cd12 "Hold.word" = true) (k12 : PySem.W.keepIn K (.ref f12) = true)
    (a13_0 : PySem.W.findIn K (.ref c_Piece) "told" = some (some (.ref f13)))
    (a13_1 : PySem.W.findIn K (.ref c_Push) "told" = some (some (.ref f13)))
    (a13_2 : PySem.W.findIn K (.ref c_Hold) "told" = some (some (.ref f13)))
    (i13 : PySem.W.isFn K (.ref f13) = true)
    (l13 : K.lookup f13 = some ⟨oc13, od13, .func (PySem.W.fnOf "told" "Row.told" (defArgs sRTold) (defBody sRTold) (defScope sRTold) .none kV13 dc13 pm13 an13 cd13 ct13), sl13⟩) (c13 : PySem.W.codeIn K cd13 "Row.told" = true) (k13 : PySem.W.keepIn K (.ref f13) = true)
    (a14 : PySem.W.nsIn K mainGlobals "row_of" = some (some (.ref f14)))
    (l14 : K.lookup f14 = some ⟨oc14, od14, .func (PySem.W.fnOf "row_of" "row_of" (defArgs sRowOf) (defBody sRowOf) (defScope sRowOf) .none kV14 dc14 pm14 an14 cd14 ct14), sl14⟩) (c14 : PySem.W.codeIn K cd14 "row_of" = true) (k14 : PySem.W.keepIn K (.ref f14) = true)
    (a15 : PySem.W.nsIn K mainGlobals "is_piece_size" = some (some (.ref f15)))
    (l15 : K.lookup f15 = some ⟨oc15, od15, .func (PySem.W.fnOf "is_piece_size" "is_piece_size" (defArgs sPS) (defBody sPS) (defScope sPS) .none kV15 dc15 pm15 an15 cd15 ct15), sl15⟩) (c15 : PySem.W.codeIn K cd15 "is_piece_size" = true) (k15 : PySem.W.keepIn K (.ref f15) = true)
    (a16 : PySem.W.nsIn K mainGlobals "is_number_below" = some (some (.ref f16)))
    (l16 : K.lookup f16 = some ⟨oc16, od16, .func (PySem.W.fnOf "is_number_below" "is_number_below" (defArgs sNB) (defBody sNB) (defScope sNB) .none kV16 dc16 pm16 an16 cd16 ct16), sl16⟩) (c16 : PySem.W.codeIn K cd16 "is_number_below" = true) (k16 : PySem.W.keepIn K (.ref f16) = true)
    (a17 : PySem.W.nsIn K mainGlobals "refuse_size" = some (some (.ref f17)))
    (l17 : K.lookup f17 = some ⟨oc17, od17, .func (PySem.W.fnOf "refuse_size" "refuse_size" (defArgs sRS) (defBody sRS) (defScope sRS) .none kV17 dc17 pm17 an17 cd17 ct17), sl17⟩) (c17 : PySem.W.codeIn K cd17 "refuse_size" = true) (k17 : PySem.W.keepIn K (.ref f17) = true)
    (a18 : PySem.W.nsIn K mainGlobals "refuse_points" = some (some (.ref f18)))
    (l18 : K.lookup f18 = some ⟨oc18, od18, .func (PySem.W.fnOf "refuse_points" "refuse_points" (defArgs sRP) (defBody sRP) (defScope sRP) .none kV18 dc18 pm18 an18 cd18 ct18), sl18⟩) (c18 : PySem.W.codeIn K cd18 "refuse_points" = true) (k18 : PySem.W.keepIn K (.ref f18) = true)
    (a19 : PySem.W.nsIn K mainGlobals "refuse_number" = some (some (.ref f19)))
    (l19 : K.lookup f19 = some ⟨oc19, od19, .func (PySem.W.fnOf "refuse_number" "refuse_number" (defArgs sRN) (defBody sRN) (defScope sRN) .none kV19 dc19 pm19 an19 cd19 ct19), sl19⟩) (c19 : PySem.W.codeIn K cd19 "refuse_number" = true) (k19 : PySem.W.keepIn K (.ref f19) = true)
    (a20_0 : PySem.W.findIn K (.ref c_Net) "__init__" = some (some (.ref f20)))
    (i20 : PySem.W.isFn K (.ref f20) = true)
    (l20 : K.lookup f20 = some ⟨oc20, od20, .func (PySem.W.fnOf "__init__" "Net.__init__" (defArgs sNInit) (defBody sNInit) (defScope sNInit) .none kV20 dc20 pm20 an20 cd20 ct20), sl20⟩) (c20 : PySem.W.codeIn K cd20 "Net.__init__" = true) (k20 : PySem.W.keepIn K (.ref f20) = true)
    (a21_0 : PySem.W.findIn K (.ref c_Net) "add" = some (some (.ref f21)))
    (i21 : PySem.W.isFn K (.ref f21) = true)
    (l21 : K.lookup f21 = some ⟨oc21, od21, .func (PySem.W.fnOf "add" "Net.add" (defArgs sAdd) (defBody sAdd) (defScope sAdd) .none kV21 dc21 pm21 an21 cd21 ct21), sl21⟩) (c21 : PySem.W.codeIn K cd21 "Net.add" = true) (k21 : PySem.W.keepIn K (.ref f21) = true)
    (a22_0 : PySem.W.findIn K (.ref c_Net) "change" = some (some (.ref f22)))
    (i22 : PySem.W.isFn K (.ref f22) = true)
    (l22 : K.lookup f22 = some ⟨oc22, od22, .func (PySem.W.fnOf "change" "Net.change" (defArgs sChange) (defBody sChange) (defScope sChange) .none kV22 dc22 pm22 an22 cd22 ct22), sl22⟩) (c22 : PySem.W.codeIn K cd22 "Net.change" = true) (k22 : PySem.W.keepIn K (.ref f22) = true)
    (a23_0 : PySem.W.findIn K (.ref c_Net) "rows" = some (some (.ref f23)))
    (i23 : PySem.W.isFn K (.ref f23) = true)
    (l23 : K.lookup f23 = some ⟨oc23, od23, .func (PySem.W.fnOf "rows" "Net.rows" (defArgs sRows) (defBody sRows) (defScope sRows) .none kV23 dc23 pm23 an23 cd23 ct23), sl23⟩) (c23 : PySem.W.codeIn K cd23 "Net.rows" = true) (k23 : PySem.W.keepIn K (.ref f23) = true)
    (a24 : PySem.W.nsIn K mainGlobals "steps_from" = some (some (.ref f24)))
    (l24 : K.lookup f24 = some ⟨oc24, od24, .func (PySem.W.fnOf "steps_from" "steps_from" (defArgs sSteps) (defBody sSteps) (defScope sSteps) .none kV24 dc24 pm24 an24 cd24 ct24), sl24⟩) (c24 : PySem.W.codeIn K cd24 "steps_from" = true) (k24 : PySem.W.keepIn K (.ref f24) = true)
    (a25 : PySem.W.nsIn K mainGlobals "way_along" = some (some (.ref f25)))
    (l25 : K.lookup f25 = some ⟨oc25, od25, .func (PySem.W.fnOf "way_along" "way_along" (defArgs sWay) (defBody sWay) (defScope sWay) .none kV25 dc25 pm25 an25 cd25 ct25), sl25⟩) (c25 : PySem.W.codeIn K cd25 "way_along" = true) (k25 : PySem.W.keepIn K (.ref f25) = true)
    (a26 : PySem.W.nsIn K mainGlobals "rings" = some (some (.ref f26)))
    (l26 : K.lookup f26 = some ⟨oc26, od26, .func (PySem.W.fnOf "rings" "rings" (defArgs sRings) (defBody sRings) (defScope sRings) (.ref T26) kV26 dc26 pm26 an26 cd26 ct26), sl26⟩) (c26 : PySem.W.codeIn K cd26 "rings" = true) (k26 : PySem.W.keepIn K (.ref f26) = true)
    (lt26 : K.lookup T26 = some ⟨oT26, dT26, .seq #[.none] nT26, sT26⟩)
    (a27 : PySem.W.nsIn K mainGlobals "ring_sum" = some (some (.ref f27)))
    (l27 : K.lookup f27 = some ⟨oc27, od27, .func (PySem.W.fnOf "ring_sum" "ring_sum" (defArgs sRSum) (defBody sRSum) (defScope sRSum) .none kV27 dc27 pm27 an27 cd27 ct27), sl27⟩) (c27 : PySem.W.codeIn K cd27 "ring_sum" = true) (k27 : PySem.W.keepIn K (.ref f27) = true)
    (a28 : PySem.W.nsIn K mainGlobals "_law_nth" = some (some (.ref f28)))
    (l28 : K.lookup f28 = some ⟨oc28, od28, .func (PySem.W.fnOf "_law_nth" "_law_nth" (defArgs sNth) (defBody sNth) (defScope sNth) .none kV28 dc28 pm28 an28 cd28 ct28), sl28⟩) (c28 : PySem.W.codeIn K cd28 "_law_nth" = true) (k28 : PySem.W.keepIn K (.ref f28) = true)
    (a29 : PySem.W.nsIn K mainGlobals "_law_divisor" = some (some (.ref f29)))
    (l29 : K.lookup f29 = some ⟨oc29, od29, .func (PySem.W.fnOf "_law_divisor" "_law_divisor" (defArgs sDiv) (defBody sDiv) (defScope sDiv) .none kV29 dc29 pm29 an29 cd29 ct29), sl29⟩) (c29 : PySem.W.codeIn K cd29 "_law_divisor" = true) (k29 : PySem.W.keepIn K (.ref f29) = true)
    (a30 : PySem.W.nsIn K mainGlobals "_law_lowest" = some (some (.ref f30)))
    (l30 : K.lookup f30 = some ⟨oc30, od30, .func (PySem.W.fnOf "_law_lowest" "_law_lowest" (defArgs sLowest) (defBody sLowest) (defScope sLowest) .none kV30 dc30 pm30 an30 cd30 ct30), sl30⟩) (c30 : PySem.W.codeIn K cd30 "_law_lowest" = true) (k30 : PySem.W.keepIn K (.ref f30) = true)
    (a31 : PySem.W.nsIn K mainGlobals "_law_is" = some (some (.ref f31)))
    (l31 : K.lookup f31 = some ⟨oc31, od31, .func (PySem.W.fnOf "_law_is" "_law_is" (defArgs sIs) (defBody sIs) (defScope sIs) .none kV31 dc31 pm31 an31 cd31 ct31), sl31⟩) (c31 : PySem.W.codeIn K cd31 "_law_is" = true) (k31 : PySem.W.keepIn K (.ref f31) = true)
    (a32 : PySem.W.nsIn K mainGlobals "_law_an_int" = some (some (.ref f32)))
    (l32 : K.lookup f32 = some ⟨oc32, od32, .func (PySem.W.fnOf "_law_an_int" "_law_an_int" (defArgs sAnInt) (defBody sAnInt) (defScope sAnInt) .none kV32 dc32 pm32 an32 cd32 ct32), sl32⟩) (c32 : PySem.W.codeIn K cd32 "_law_an_int" = true) (k32 : PySem.W.keepIn K (.ref f32) = true)
    (a33 : PySem.W.nsIn K mainGlobals "_law_net" = some (some (.ref f33)))
    (l33 : K.lookup f33 = some ⟨oc33, od33, .func (PySem.W.fnOf "_law_net" "_law_net" (defArgs sNet32) (defBody sNet32) (defScope sNet32) .none kV33 dc33 pm33 an33 cd33 ct33), sl33⟩) (c33 : PySem.W.codeIn K cd33 "_law_net" = true) (k33 : PySem.W.keepIn K (.ref f33) = true)
    (a34 : PySem.W.nsIn K mainGlobals "_law_size" = some (some (.ref f34)))
    (l34 : K.lookup f34 = some ⟨oc34, od34, .func (PySem.W.fnOf "_law_size" "_law_size" (defArgs sSize) (defBody sSize) (defScope sSize) .none kV34 dc34 pm34 an34 cd34 ct34), sl34⟩) (c34 : PySem.W.codeIn K cd34 "_law_size" = true) (k34 : PySem.W.keepIn K (.ref f34) = true)
    (a35 : PySem.W.nsIn K mainGlobals "_law_amount" = some (some (.ref f35)))
    (l35 : K.lookup f35 = some ⟨oc35, od35, .func (PySem.W.fnOf "_law_amount" "_law_amount" (defArgs sAmount) (defBody sAmount) (defScope sAmount) .none kV35 dc35 pm35 an35 cd35 ct35), sl35⟩) (c35 : PySem.W.codeIn K cd35 "_law_amount" = true) (k35 : PySem.W.keepIn K (.ref f35) = true)
    (a36 : PySem.W.nsIn K mainGlobals "_law_closers" = some (some (.ref f36)))
    (l36 : K.lookup f36 = some ⟨oc36, od36, .func (PySem.W.fnOf "_law_closers" "_law_closers" (defArgs sClosers) (defBody sClosers) (defScope sClosers) .none kV36 dc36 pm36 an36 cd36 ct36), sl36⟩) (c36 : PySem.W.codeIn K cd36 "_law_closers" = true) (k36 : PySem.W.keepIn K (.ref f36) = true)
    (a37 : PySem.W.nsIn K mainGlobals "_law_ring" = some (some (.ref f37)))
    (l37 : K.lookup f37 = some ⟨oc37, od37, .func (PySem.W.fnOf "_law_ring" "_law_ring" (defArgs sRing) (defBody sRing) (defScope sRing) .none kV37 dc37 pm37 an37 cd37 ct37), sl37⟩) (c37 : PySem.W.codeIn K cd37 "_law_ring" = true) (k37 : PySem.W.keepIn K (.ref f37) = true)
    (a38 : PySem.W.nsIn K mainGlobals "_law_rows" = some (some (.ref f38)))
    (l38 : K.lookup f38 = some ⟨oc38, od38, .func (PySem.W.fnOf "_law_rows" "_law_rows" (defArgs sRows32) (defBody sRows32) (defScope sRows32) .none kV38 dc38 pm38 an38 cd38 ct38), sl38⟩) (c38 : PySem.W.codeIn K cd38 "_law_rows" = true) (k38 : PySem.W.keepIn K (.ref f38) = true)
    (a39 : PySem.W.nsIn K mainGlobals "_law_asked" = some (some (.ref f39)))
    (l39 : K.lookup f39 = some ⟨oc39, od39, .func (PySem.W.fnOf "_law_asked" "_law_asked" (defArgs sAsked) (defBody sAsked) (defScope sAsked) .none kV39 dc39 pm39 an39 cd39 ct39), sl39⟩) (c39 : PySem.W.codeIn K cd39 "_law_asked" = true) (k39 : PySem.W.keepIn K (.ref f39) = true)
    (a40 : PySem.W.nsIn K mainGlobals "_law_sums" = some (some (.ref f40)))
    (l40 : K.lookup f40 = some ⟨oc40, od40, .func (PySem.W.fnOf "_law_sums" "_law_sums" (defArgs sSums) (defBody sSums) (defScope sSums) .none kV40 dc40 pm40 an40 cd40 ct40), sl40⟩) (c40 : PySem.W.codeIn K cd40 "_law_sums" = true) (k40 : PySem.W.keepIn K (.ref f40) = true)
    (a41 : PySem.W.nsIn K mainGlobals "law" = some (some (.ref f41)))
    (l41 : K.lookup f41 = some ⟨oc41, od41, .func (PySem.W.fnOf "law" "law" (defArgs sLaw) (defBody sLaw) (defScope sLaw) .none kV41 dc41 pm41 an41 cd41 ct41), sl41⟩) (c41 : PySem.W.codeIn K cd41 "law" = true) (k41 : PySem.W.keepIn K (.ref f41) = true)
    (v_NOUGHT : PySem.W.nsIn K mainGlobals "NOUGHT" = some (some (.ref aN)))
    (v_JOINING_WORDS : PySem.W.nsIn K mainGlobals "JOINING_WORDS" = some (some (.ref aJ)))
    (v_MOST_POINTS : PySem.W.nsIn K mainGlobals "MOST_POINTS" = some (some (.int 20 tM)))
    (v_MOST_ROWS : PySem.W.nsIn K mainGlobals "MOST_ROWS" = some (some (.int 40 tR)))
    (lN : K.lookup aN = some ⟨.type "tuple", dN, .seq #[.int 0 t0, .int 1 t1] nN, sN⟩)
    (lJ : K.lookup aJ = some ⟨.type "tuple", dJ, .seq #[.str "piece" tj0, .str "hold" tj1] nJ, sJ⟩)
    (pg_Piece : PySem.W.plainGet K c_Piece Str.empty = true)
    (hd_Piece : PySem.W.hasDictIn K c_Piece = true)
    (po_Piece : PySem.W.plainOver K c_Piece = true)
    (sa_Piece : PySem.W.findIn K (.ref c_Piece) "__setattr__" = some (some (.builtin "object.__setattr__")))
    (mk_Piece : PySem.W.makesIn K c_Piece = true)
    (kc_Piece : PySem.W.keepIn K (.ref c_Piece) = true)
    (t1_Piece : PySem.W.findIn K (.ref c_Piece) "__class__" = some (some (.builtin "object.__class__")))
    (t4_Piece : PySem.W.mroIn K c_Piece (.type "object") = some true)
    (na_Piece_start : PySem.W.findIn K (.ref c_Piece) "start" = some none)
    (na_Piece_goal : PySem.W.findIn K (.ref c_Piece) "goal" = some none)
    (na_Piece_size : PySem.W.findIn K (.ref c_Piece) "size" = some none)
    (pg_Push : PySem.W.plainGet K c_Push Str.empty = true)
    (hd_Push : PySem.W.hasDictIn K c_Push = true)
    (po_Push : PySem.W.plainOver K c_Push = true)
    (sa_Push : PySem.W.findIn K (.ref c_Push) "__setattr__" = some (some (.builtin "object.__setattr__")))
    (mk_Push : PySem.W.makesIn K c_Push = true)
    (kc_Push : PySem.W.keepIn K (.ref c_Push) = true)
    (t1_Push : PySem.W.findIn K (.ref c_Push) "__class__" = some (some (.builtin "object.__class__")))
    (t4_Push : PySem.W.mroIn K c_Push (.type "object") = some true)
    (na_Push_start : PySem.W.findIn K (.ref c_Push) "start" = some none)
    (na_Push_goal : PySem.W.findIn K (.ref c_Push) "goal" = some none)
    (na_Push_size : PySem.W.findIn K (.ref c_Push) "size" = some none)
    (pg_Hold : PySem.W.plainGet K c_Hold Str.empty = true)
    (hd_Hold : PySem.W.hasDictIn K c_Hold = true)
    (po_Hold : PySem.W.plainOver K c_Hold = true)
    (sa_Hold : PySem.W.findIn K (.ref c_Hold) "__setattr__" = some (some (.builtin "object.__setattr__")))
    (mk_Hold : PySem.W.makesIn K c_Hold = true)
    (kc_Hold : PySem.W.keepIn K (.ref c_Hold) = true)
    (t1_Hold : PySem.W.findIn K (.ref c_Hold) "__class__" = some (some (.builtin "object.__class__")))
    (t4_Hold : PySem.W.mroIn K c_Hold (.type "object") = some true)
    (na_Hold_start : PySem.W.findIn K (.ref c_Hold) "start" = some none)
    (na_Hold_goal : PySem.W.findIn K (.ref c_Hold) "goal" = some none)
    (na_Hold_size : PySem.W.findIn K (.ref c_Hold) "size" = some none)
    (tt2 : PySem.W.specialIn K (.builtin "object.__class__") "__get__" = some (some (.builtin "getset_descriptor.__get__")))
    (tt3 : PySem.W.takesIn K (.builtin "object.__class__") = some true)
    (isR_Piece : PySem.W.kitOne K (.ref c_Piece) (.ref c_Row) = some true)
    (isR_Push : PySem.W.kitOne K (.ref c_Push) (.ref c_Row) = some true)
    (isR_Hold : PySem.W.kitOne K (.ref c_Hold) (.ref c_Row) = some true)
    (isK_Piece_Push : PySem.W.kitOne K (.ref c_Piece) (.ref c_Push) = some false)
    (isK_Piece_Hold : PySem.W.kitOne K (.ref c_Piece) (.ref c_Hold) = some false)
    (isK_Push_Piece : PySem.W.kitOne K (.ref c_Push) (.ref c_Piece) = some false)
    (isK_Push_Hold : PySem.W.kitOne K (.ref c_Push) (.ref c_Hold) = some false)
    (isK_Hold_Piece : PySem.W.kitOne K (.ref c_Hold) (.ref c_Piece) = some false)
    (isK_Hold_Push : PySem.W.kitOne K (.ref c_Hold) (.ref c_Push) = some false)
    (pg_Net : PySem.W.plainGet K c_Net Str.empty = true)
    (hd_Net : PySem.W.hasDictIn K c_Net = true)
    (po_Net : PySem.W.plainOver K c_Net = true)
    (sa_Net : PySem.W.findIn K (.ref c_Net) "__setattr__" = some (some (.builtin "object.__setattr__")))
    (mk_Net : PySem.W.makesIn K c_Net = true)
    (kc_Net : PySem.W.keepIn K (.ref c_Net) = true)
    (t1_Net : PySem.W.findIn K (.ref c_Net) "__class__" = some (some (.builtin "object.__class__")))
    (t4_Net : PySem.W.mroIn K c_Net (.type "object") = some true)
    (na_Net_point_count : PySem.W.findIn K (.ref c_Net) "point_count" = some none)
    (na_Net_kept : PySem.W.findIn K (.ref c_Net) "kept" = some none)
    (z1 : PySem.W.nsIn K mainGlobals "isinstance" = some none)
    (z2 : PySem.W.nsIn K mainGlobals "int" = some none)
    (z3 : PySem.W.nsIn K mainGlobals "bool" = some none)
    (z4 : PySem.W.nsIn K mainGlobals "abs" = some none)
    (z5 : PySem.W.nsIn K mainGlobals "len" = some none)
    (z6 : PySem.W.nsIn K mainGlobals "range" = some none)
    (z7 : PySem.W.nsIn K mainGlobals "str" = some none)
    (z8 : PySem.W.nsIn K mainGlobals "tuple" = some none)
    (z9 : PySem.W.nsIn K mainGlobals "list" = some none)
    (z10 : PySem.W.nsIn K mainGlobals "all" = some none)
    (z11 : PySem.W.nsIn K mainGlobals "zip" = some none)
    (z12 : PySem.W.nsIn K mainGlobals "enumerate" = some none) :
    ∃ fd : FuncData, (∀ (s : Shared) (v : Value), BindsTo s fd ⟨[v], []⟩ [("_law_script", v)]) ∧ ∀ base : Heap, K.In base → base.Ns mainGlobals mg → FnOk l.prog w K mg base CX0 7 fa fd ["_law_script"] (spLaw K) := by
  have e := hfa.symm.trans (PySem.W.mg_of X G a41)
  cases e
  have mc_Row := PySem.W.mg_of X G y_Row
  have mc_Piece := PySem.W.mg_of X G y_Piece
  have mc_Push := PySem.W.mg_of X G y_Push
  have mc_Hold := PySem.W.mg_of X G y_Hold
  have mc_Net := PySem.W.mg_of X G y_Net
  have F1 := fund_mk (st := sWhole) l1 c1 k1
  have m1 := PySem.W.mg_of X G a1
  have b1 := F1.binds (ps := ["thing"]) fun _ _ _ _ _ _ us hl => match us, hl with | [_], _ => rfl
  have F2 := fund_mk (st := sGc) l2 c2 k2
  have m2 := PySem.W.mg_of X G a2
  have b2 := F2.binds (ps := ["one", "other"]) fun _ _ _ _ _ _ us hl => match us, hl with | [_, _], _ => rfl
  have F3 := fund_mk (st := sUnder) l3 c3 k3
  have m3 := PySem.W.mg_of X G a3
  have b3 := F3.binds (ps := ["one", "other"]) fun _ _ _ _ _ _ us hl => match us, hl with | [_, _], _ => rfl
  have F4 := fund_mk (st := sFrac) l4 c4 k4
  have m4 := PySem.W.mg_of X G a4
  have b4 : Binds K _ ["top", "bottom"] [] := fun s us XX hl => match us, hl with | [_, _], _ => PySem.W.binds_K (fd := PySem.W.fnOf "fraction" "fraction" (defArgs sFrac) (defBody sFrac) (defScope sFrac) (.ref T4) kV4 dc4 pm4 an4 cd4 ct4) XX rfl lt4 rfl rfl rfl
  have bd4 : Binds K _ ["top", "bottom"] [.int 1 tk4] := fun s us XX hl => match us, (show us.length = 1 by simp at hl; omega) with | [_], _ => PySem.W.binds_K (fd := PySem.W.fnOf "fraction" "fraction" (defArgs sFrac) (defBody sFrac) (defScope sFrac) (.ref T4) kV4 dc4 pm4 an4 cd4 ct4) XX rfl lt4 rfl rfl rfl
  have F5 := fund_mk (st := sPlus) l5 c5 k5
  have m5 := PySem.W.mg_of X G a5
  have b5 := F5.binds (ps := ["one", "other"]) fun _ _ _ _ _ _ us hl => match us, hl with | [_, _], _ => rfl
  have F6 := fund_mk (st := sTimes) l6 c6 k6
  have m6 := PySem.W.mg_of X G a6
  have b6 := F6.binds (ps := ["one", "other"]) fun _ _ _ _ _ _ us hl => match us, hl with | [_, _], _ => rfl
  have F7 := fund_mk (st := sTotal) l7 c7 k7
  have m7 := PySem.W.mg_of X G a7
  have b7 := F7.binds (ps := ["some"]) fun _ _ _ _ _ _ us hl => match us, hl with | [_], _ => rfl
  have F8 := fund_mk (st := sIsF) l8 c8 k8
  have m8 := PySem.W.mg_of X G a8
  have b8 := F8.binds (ps := ["thing"]) fun _ _ _ _ _ _ us hl => match us, hl with | [_], _ => rfl
  have F9 := fund_mk (st := sRInit) l9 c9 k9
  have b9 := F9.binds (ps := ["self", "start", "goal", "size"]) fun _ _ _ _ _ _ us hl => match us, hl with | [_, _, _, _], _ => rfl
  have F10 := fund_mk (st := sWord_pc) l10 c10 k10
  have b10 := F10.binds (ps := ["self"]) fun _ _ _ _ _ _ us hl => match us, hl with | [_], _ => rfl
  have F11 := fund_mk (st := sWord_pu) l11 c11 k11
  have b11 := F11.binds (ps := ["self"]) fun _ _ _ _ _ _ us hl => match us, hl with | [_], _ => rfl
  have F12 := fund_mk (st := sWord_ho) l12 c12 k12
  have b12 := F12.binds (ps := ["self"]) fun _ _ _ _ _ _ us hl => match us, hl with | [_], _ => rfl
  have F13 := fund_mk (st := sRTold) l13 c13 k13
  have b13 := F13.binds (ps := ["self"]) fun _ _ _ _ _ _ us hl => match us, hl with | [_], _ => rfl
  have F14 := fund_mk (st := sRowOf) l14 c14 k14
  have m14 := PySem.W.mg_of X G a14
  have b14 := F14.binds (ps := ["told"]) fun _ _ _ _ _ _ us hl => match us, hl with | [_], _ => rfl
  have F15 := fund_mk (st := sPS) l15 c15 k15
  have m15 := PySem.W.mg_of X G a15
  have b15 := F15.binds (ps := ["thing"]) fun _ _ _ _ _ _ us hl => match us, hl with | [_], _ => rfl
  have F16 := fund_mk (st := sNB) l16 c16 k16
  have m16 := PySem.W.mg_of X G a16
  have b16 := F16.binds (ps := ["thing", "bound"]) fun _ _ _ _ _ _ us hl => match us, hl with | [_, _], _ => rfl
  have F17 := fund_mk (st := sRS) l17 c17 k17
  have m17 := PySem.W.mg_of X G a17
  have b17 := F17.binds (ps := ["word", "size"]) fun _ _ _ _ _ _ us hl => match us, hl with | [_, _], _ => rfl
  have F18 := fund_mk (st := sRP) l18 c18 k18
  have m18 := PySem.W.mg_of X G a18
  have b18 := F18.binds (ps := ["some", "many"]) fun _ _ _ _ _ _ us hl => match us, hl with | [_, _], _ => rfl
  have F19 := fund_mk (st := sRN) l19 c19 k19
  have m19 := PySem.W.mg_of X G a19
  have b19 := F19.binds (ps := ["k", "count"]) fun _ _ _ _ _ _ us hl => match us, hl with | [_, _], _ => rfl
  have F20 := fund_mk (st := sNInit) l20 c20 k20
  have b20 := F20.binds (ps := ["self", "many"]) fun _ _ _ _ _ _ us hl => match us, hl with | [_, _], _ => rfl
  have F21 := fund_mk (st := sAdd) l21 c21 k21
  have b21 := F21.binds (ps := ["self", "row"]) fun _ _ _ _ _ _ us hl => match us, hl with | [_, _], _ => rfl
  have F22 := fund_mk (st := sChange) l22 c22 k22
  have b22 := F22.binds (ps := ["self", "k", "size"]) fun _ _ _ _ _ _ us hl => match us, hl with | [_, _, _], _ => rfl
  have F23 := fund_mk (st := sRows) l23 c23 k23
  have b23 := F23.binds (ps := ["self"]) fun _ _ _ _ _ _ us hl => match us, hl with | [_], _ => rfl
  have F24 := fund_mk (st := sSteps) l24 c24 k24
  have m24 := PySem.W.mg_of X G a24
  have b24 := F24.binds (ps := ["rows", "numbers", "point"]) fun _ _ _ _ _ _ us hl => match us, hl with | [_, _, _], _ => rfl
  have F25 := fund_mk (st := sWay) l25 c25 k25
  have m25 := PySem.W.mg_of X G a25
  have b25 := F25.binds (ps := ["rows", "numbers", "begin", "end"]) fun _ _ _ _ _ _ us hl => match us, hl with | [_, _, _, _], _ => rfl
  have F26 := fund_mk (st := sRings) l26 c26 k26
  have m26 := PySem.W.mg_of X G a26
  have b26 : Binds K _ ["net", "words"] [] := fun s us XX hl => match us, hl with | [_, _], _ => PySem.W.binds_K (fd := PySem.W.fnOf "rings" "rings" (defArgs sRings) (defBody sRings) (defScope sRings) (.ref T26) kV26 dc26 pm26 an26 cd26 ct26) XX rfl lt26 rfl rfl rfl
  have bd26 : Binds K _ ["net", "words"] [.none] := fun s us XX hl => match us, (show us.length = 1 by simp at hl; omega) with | [_], _ => PySem.W.binds_K (fd := PySem.W.fnOf "rings" "rings" (defArgs sRings) (defBody sRings) (defScope sRings) (.ref T26) kV26 dc26 pm26 an26 cd26 ct26) XX rfl lt26 rfl rfl rfl
  have F27 := fund_mk (st := sRSum) l27 c27 k27
  have m27 := PySem.W.mg_of X G a27
  have b27 := F27.binds (ps := ["net", "ring"]) fun _ _ _ _ _ _ us hl => match us, hl with | [_, _], _ => rfl
  have F28 := fund_mk (st := sNth) l28 c28 k28
  have m28 := PySem.W.mg_of X G a28
  have b28 := F28.binds (ps := ["_law_script", "_law_k"]) fun _ _ _ _ _ _ us hl => match us, hl with | [_, _], _ => rfl
  have F29 := fund_mk (st := sDiv) l29 c29 k29
  have m29 := PySem.W.mg_of X G a29
  have b29 := F29.binds (ps := ["_law_one", "_law_other"]) fun _ _ _ _ _ _ us hl => match us, hl with | [_, _], _ => rfl
  have F30 := fund_mk (st := sLowest) l30 c30 k30
  have m30 := PySem.W.mg_of X G a30
  have b30 := F30.binds (ps := ["_law_top", "_law_bottom"]) fun _ _ _ _ _ _ us hl => match us, hl with | [_, _], _ => rfl
  have F31 := fund_mk (st := sIs) l31 c31 k31
  have m31 := PySem.W.mg_of X G a31
  have b31 := F31.binds (ps := ["_law_found"]) fun _ _ _ _ _ _ us hl => match us, hl with | [_], _ => rfl
  have F32 := fund_mk (st := sAnInt) l32 c32 k32
  have m32 := PySem.W.mg_of X G a32
  have b32 := F32.binds (ps := ["_law_found"]) fun _ _ _ _ _ _ us hl => match us, hl with | [_], _ => rfl
  have F33 := fund_mk (st := sNet32) l33 c33 k33
  have m33 := PySem.W.mg_of X G a33
  have b33 := F33.binds (ps := ["_law_many", "_law_rows_here"]) fun _ _ _ _ _ _ us hl => match us, hl with | [_, _], _ => rfl
  have F34 := fund_mk (st := sSize) l34 c34 k34
  have m34 := PySem.W.mg_of X G a34
  have b34 := F34.binds (ps := ["_law_cell", "_law_far"]) fun _ _ _ _ _ _ us hl => match us, hl with | [_, _], _ => rfl
  have F35 := fund_mk (st := sAmount) l35 c35 k35
  have m35 := PySem.W.mg_of X G a35
  have b35 := F35.binds (ps := ["_law_cell", "_law_far"]) fun _ _ _ _ _ _ us hl => match us, hl with | [_, _], _ => rfl
  have F36 := fund_mk (st := sClosers) l36 c36 k36
  have m36 := PySem.W.mg_of X G a36
  have b36 := F36.binds (ps := ["_law_rows_here", "_law_words"]) fun _ _ _ _ _ _ us hl => match us, hl with | [_, _], _ => rfl
  have F37 := fund_mk (st := sRing) l37 c37 k37
  have m37 := PySem.W.mg_of X G a37
  have b37 := F37.binds (ps := ["_law_found", "_law_closer", "_law_rows_here", "_law_forest"]) fun _ _ _ _ _ _ us hl => match us, hl with | [_, _, _, _], _ => rfl
  have F38 := fund_mk (st := sRows32) l38 c38 k38
  have m38 := PySem.W.mg_of X G a38
  have b38 := F38.binds (ps := ["_law_script", "_law_many", "_law_far"]) fun _ _ _ _ _ _ us hl => match us, hl with | [_, _, _], _ => rfl
  have F39 := fund_mk (st := sAsked) l39 c39 k39
  have m39 := PySem.W.mg_of X G a39
  have b39 := F39.binds (ps := ["_law_net_here", "_law_words", "_law_bare"]) fun _ _ _ _ _ _ us hl => match us, hl with | [_, _, _], _ => rfl
  have F40 := fund_mk (st := sSums) l40 c40 k40
  have m40 := PySem.W.mg_of X G a40
  have b40 := F40.binds (ps := ["_law_net_here", "_law_found", "_law_rows_here"]) fun _ _ _ _ _ _ us hl => match us, hl with | [_, _, _], _ => rfl
  have F41 := fund_mk (st := sLaw) l41 c41 k41
  have m41 := PySem.W.mg_of X G a41
  have b41 := F41.binds (ps := ["_law_script"]) fun _ _ _ _ _ _ us hl => match us, hl with | [_], _ => rfl
  have mv_NOUGHT := PySem.W.mg_of X G v_NOUGHT
  have mv_JOINING_WORDS := PySem.W.mg_of X G v_JOINING_WORDS
  have mv_MOST_POINTS := PySem.W.mg_of X G v_MOST_POINTS
  have mv_MOST_ROWS := PySem.W.mg_of X G v_MOST_ROWS
  have n_isinstance := PySem.W.mg_none_of X G z1
  have n_int := PySem.W.mg_none_of X G z2
  have n_bool := PySem.W.mg_none_of X G z3
  have n_abs := PySem.W.mg_none_of X G z4
  have n_len := PySem.W.mg_none_of X G z5
  have n_range := PySem.W.mg_none_of X G z6
  have n_str := PySem.W.mg_none_of X G z7
  have n_tuple := PySem.W.mg_none_of X G z8
  have n_list := PySem.W.mg_none_of X G z9
  have n_all := PySem.W.mg_none_of X G z10
  have n_zip := PySem.W.mg_none_of X G z11
  have n_enumerate := PySem.W.mg_none_of X G z12
  refine ⟨PySem.W.fnOf "law" "law" (defArgs sLaw) (defBody sLaw) (defScope sLaw) .none kV41 dc41 pm41 an41 cd41 ct41, fun s v => .of_eq rfl, fun base _ _ => ?_⟩
  have bl : Bl mg := ⟨n_isinstance, n_int, n_bool, n_abs⟩
  have T : RT K mg c_Row (kd3 c_Piece c_Push c_Hold) := ⟨all3 ⟨pg_Piece, hd_Piece, po_Piece, sa_Piece⟩ ⟨pg_Push, hd_Push, po_Push, sa_Push⟩ ⟨pg_Hold, hd_Hold, po_Hold, sa_Hold⟩, all3 na_Piece_start na_Push_start na_Hold_start, all3 na_Piece_goal na_Push_goal na_Hold_goal, all3 na_Piece_size na_Push_size na_Hold_size, all3 t1_Piece t1_Push t1_Hold, tt2, tt3, all3 t4_Piece t4_Push t4_Hold, all3 isR_Piece isR_Push isR_Hold, all3 (all3 (kit_self _ _) isK_Piece_Push isK_Piece_Hold) (all3 isK_Push_Piece (kit_self _ _) isK_Push_Hold) (all3 isK_Hold_Piece isK_Hold_Push (kit_self _ _)), mc_Row, all3 mc_Piece mc_Push mc_Hold⟩
  have fN : ∀ H, Fq K H aN (0, 1) := Fq.mod lN
  have fJ : ∀ H, SqT K H aJ [.str "piece", .str "hold"] := fun H => .inr ⟨_, _, _, lJ, rfl, rfl, (by show 2 ≤ sizeLine; decide), .cons ⟨_, rfl⟩ (.cons ⟨_, rfl⟩ .nil)⟩
  have NTx : NT K mg c_Net := ⟨⟨pg_Net, hd_Net, po_Net, sa_Net⟩, na_Net_point_count, na_Net_kept, t1_Net, tt2, tt3, t4_Net, mc_Net⟩
  have R1 := ok_whole (P := l.prog) (w := w) (K := K) (mg := mg) (base := base) (CX := CX0) F1 bl
  have R2 := ok_gc (P := l.prog) (w := w) (K := K) (mg := mg) (base := base) (CX := CX0) F2 bl
  have R3 := ok_under (P := l.prog) (w := w) (K := K) (mg := mg) (base := base) (CX := CX0) F3 
  have R4 := ok_frac (P := l.prog) (w := w) (K := K) (mg := mg) (base := base) (CX := CX0) F4  R1 b1 k1 m1 R2 b2 k2 m2
  have R5 := ok_plus (P := l.prog) (w := w) (K := K) (mg := mg) (base := base) (CX := CX0) F5  R4 b4 k4 m4
  have R6 := ok_times (P := l.prog) (w := w) (K := K) (mg := mg) (base := base) (CX := CX0) F6  R4 b4 k4 m4
  have R7 := ok_total (P := l.prog) (w := w) (K := K) (mg := mg) (base := base) (CX := CX0) F7 fN mv_NOUGHT R5 b5 k5 m5
  have R8 := ok_isf (P := l.prog) (w := w) (K := K) (mg := mg) (base := base) (CX := CX0) F8 bl n_len n_tuple R1 b1 k1 m1 R2 b2 k2 m2
  have R9 := ok_rinit (P := l.prog) (w := w) (K := K) (mg := mg) (base := base) (CX := CX0) F9 T
  have R10 := ok_word_pc (P := l.prog) (w := w) (K := K) (mg := mg) (base := base) (CX := CX0) F10 
  have R11 := ok_word_pu (P := l.prog) (w := w) (K := K) (mg := mg) (base := base) (CX := CX0) F11 
  have R12 := ok_word_ho (P := l.prog) (w := w) (K := K) (mg := mg) (base := base) (CX := CX0) F12 
  have GW : ∀ k, FnOk l.prog w K mg base CX0 1 (kd3 f10 f11 f12 k) (kd3 _ _ _ k) ["self"] (spWord k) := all3 (R10) (R11) (R12)
  have bW : ∀ k, Binds K (kd3 _ _ _ k) ["self"] [] := all3 (b10) (b11) (b12)
  have mW : ∀ k, Meth K (kd3 c_Piece c_Push c_Hold k) "word" (kd3 f10 f11 f12 k) := all3 (⟨a10_0, i10, k10⟩) (⟨a11_0, i11, k11⟩) (⟨a12_0, i12, k12⟩)
  have R13 := ok_rtold (P := l.prog) (w := w) (K := K) (mg := mg) (base := base) (CX := CX0) F13 T GW bW mW
  have mT : ∀ k, Meth K (kd3 c_Piece c_Push c_Hold k) "told" f13 := all3 (⟨a13_0, i13, k13⟩) (⟨a13_1, i13, k13⟩) (⟨a13_2, i13, k13⟩)
  have MK : ∀ k, Mk K (kd3 c_Piece c_Push c_Hold k) f9 := all3 (⟨mk_Piece, a9_0, i9, kc_Piece⟩) (⟨mk_Push, a9_1, i9, kc_Push⟩) (⟨mk_Hold, a9_2, i9, kc_Hold⟩)
  have R14 := ok_rowof (P := l.prog) (w := w) (K := K) (mg := mg) (base := base) (CX := CX0) F14 T bl n_str R9 b9 MK
  have R15 := ok_ps (P := l.prog) (w := w) (K := K) (mg := mg) (base := base) (CX := CX0) F15 fN mv_NOUGHT (isf_good R8) b8 k8 m8 R3 b3 k3 m3
  have R16 := ok_nb (P := l.prog) (w := w) (K := K) (mg := mg) (base := base) (CX := CX0) F16  R1 b1 k1 m1
  have R17 := ok_rs (P := l.prog) (w := w) (K := K) (mg := mg) (base := base) (CX := CX0) F17 (isf_good R8) b8 k8 m8 R15 b15 k15 m15
  have R18 := ok_rp (P := l.prog) (w := w) (K := K) (mg := mg) (base := base) (CX := CX0) F18 n_all R16 b16 k16 m16
  have R19 := ok_rn (P := l.prog) (w := w) (K := K) (mg := mg) (base := base) (CX := CX0) F19  R16 b16 k16 m16
  have R20 := ok_ninit (P := l.prog) (w := w) (K := K) (mg := mg) (base := base) (CX := CX0) F20 NTx mv_MOST_POINTS R1 b1 k1 m1
  have R21 := ok_add (P := l.prog) (w := w) (K := K) (mg := mg) (base := base) (CX := CX0) F21 NTx mv_MOST_ROWS n_len T R13 b13 mT R18 b18 k18 m18 R17 b17 k17 m17
  have R22 := ok_change (P := l.prog) (w := w) (K := K) (mg := mg) (base := base) (CX := CX0) F22 NTx n_len R19 b19 k19 m19 R17 b17 k17 m17
  have R23 := ok_rows (P := l.prog) (w := w) (K := K) (mg := mg) (base := base) (CX := CX0) F23 NTx R14 b14 k14 m14
  have MN : Mk K c_Net f20 := ⟨mk_Net, a20_0, i20, kc_Net⟩
  have R24 := ok_steps (P := l.prog) (w := w) (K := K) (mg := mg) (base := base) (CX := CX0) F24 T
  have R25 := ok_way (P := l.prog) (w := w) (K := K) (mg := mg) (base := base) (CX := CX0) F25 n_len R24 b24 k24 m24
  have R26 := ok_rings (P := l.prog) (w := w) (K := K) (mg := mg) (base := base) (CX := CX0) F26 NTx T n_enumerate fJ mv_JOINING_WORDS GW bW mW R23 b23 ⟨a23_0, i23, k23⟩ R25 b25 k25 m25
  have R27 := ok_rsum (P := l.prog) (w := w) (K := K) (mg := mg) (base := base) (CX := CX0) F27 NTx T R23 b23 ⟨a23_0, i23, k23⟩ R7 b7 k7 m7 R6 b6 k6 m6 R4 bd4 (.cons ⟨_, rfl⟩ .nil) k4 m4
  have R28 := ok_nth (P := l.prog) (w := w) (K := K) (mg := mg) (base := base) (CX := CX0) F28 
  have R29 := ok_div (P := l.prog) (w := w) (K := K) (mg := mg) (base := base) (CX := CX0) F29 bl
  have R30 := ok_lowest (P := l.prog) (w := w) (K := K) (mg := mg) (base := base) (CX := CX0) F30  R29 b29 k29 m29
  have R31 := ok_is (P := l.prog) (w := w) (K := K) (mg := mg) (base := base) (CX := CX0) F31 bl n_len n_tuple R29 b29 k29 m29
  have R32 := ok_anint (P := l.prog) (w := w) (K := K) (mg := mg) (base := base) (CX := CX0) F32 bl
  have R33 := ok_net32 (P := l.prog) (w := w) (K := K) (mg := mg) (base := base) (CX := CX0) F33 NTx R21 b21 ⟨a21_0, i21, k21⟩ R20 b20 MN R14 b14 k14 m14
  have R34 := ok_size (P := l.prog) (w := w) (K := K) (mg := mg) (base := base) (CX := CX0) F34  R30 b30 k30 m30
  have R35 := ok_amount (P := l.prog) (w := w) (K := K) (mg := mg) (base := base) (CX := CX0) F35  R30 b30 k30 m30
  have R36 := ok_closers (P := l.prog) (w := w) (K := K) (mg := mg) (base := base) (CX := CX0) F36 n_range n_len
  have R37 := ok_ring (P := l.prog) (w := w) (K := K) (mg := mg) (base := base) (CX := CX0) F37 bl n_len n_list n_tuple R32 b32 k32 m32
  have R38 := ok_rows32 (P := l.prog) (w := w) (K := K) (mg := mg) (base := base) (CX := CX0) F38  R28 b28 k28 m28 R34 b34 k34 m34 R35 b35 k35 m35
  have R39 := ok_asked (P := l.prog) (w := w) (K := K) (mg := mg) (base := base) (CX := CX0) F39 b26 R26 bd26 (.cons rfl .nil) k26 m26
  have R40 := ok_sums (P := l.prog) (w := w) (K := K) (mg := mg) (base := base) (CX := CX0) F40 n_list R27 b27 k27 m27 R31 b31 k31 m31 R30 b30 k30 m30
  exact ok_law (P := l.prog) (w := w) (K := K) (mg := mg) (base := base) (CX := CX0) F41 NTx n_len n_list n_zip bl R22 b22 ⟨a22_0, i22, k22⟩ R28 b28 k28 m28 R38 b38 k38 m38 R33 b33 k33 m33 R39 b39 k39 m39 R36 b36 k36 m36 R37 b37 k37 m37 R40 b40 k40 m40 R34 b34 k34 m34
theorem walk {l : PySem.W.OpenLaw} {q : Program} {loose : List Str} {XP : (Str → Option Value) → Heap → Prop} {YP : World → Heap → Prop} {d : DefRec} {K : Params → PySem.W.Frag} (hn : l.most = some 63) (hdf : d.params.defaults = [])
    (hY : ∀ (w : World) (h : Heap), YP w h → (K w.params).In h)
    (F : ∀ (w : World) (mg : Str → Option Value) (fa : Addr) (h : Heap), (K w.params).In h → h.Ns mainGlobals mg → mg d.name = some (.ref fa) →
      ∃ fd : FuncData, (∀ (s : Shared) (u : Value), BindsTo s fd ⟨[u], []⟩ [("_law_script", u)]) ∧ ∀ base : Heap, (K w.params).In base → base.Ns mainGlobals mg → FnOk l.prog w (K w.params) mg base CX0 7 fa fd ["_law_script"] (spLaw (K w.params))) :
    PySem.W.WalkO q loose XP YP l.row.toRowW d [] (fun f vs => PySem.call f vs) :=
  L2.walk_of (n := 63) (k := 7) (x := "_law_script") (CX := fun _ => CX0) (sp := fun w => spLaw (K w.params)) hn (by decide) hdf ⟨rfl, by decide, by decide⟩ hY F (fun _ _ a ns hl _ hS => ⟨a, ns, rfl, hS, hl, fun _ => rfl⟩) fun _ _ _ _ _ z => z
end K32
def PySem.W.Fast.tw15135526629947940640 : Nat := 0
def PySem.W.Fast.tw12089387572784531770 : Nat := 0
def PySem.W.Fast.tw7522135801107262422 : Nat := 0
def PySem.W.Fast.tw17431405511364413958 : Nat := 0
def PySem.W.Fast.tw1082492024289166573 : Nat := 0
def PySem.W.Fast.tw115660482461461582 : Nat := 0
def PySem.W.Fast.tw13282875097048648409 : Nat := 0
def PySem.W.Fast.tw4786162601331688055 : Nat := 0
def PySem.W.Fast.tw8789217568399965094 : Nat := 0
def PySem.W.Fast.tw3900947988431024235 : Nat := 0
def PySem.W.Fast.tw7105845260453635402 : Nat := 0
def PySem.W.Fast.tw18390145064688605562 : Nat := 0
def PySem.W.Fast.tw4850621019148957130 : Nat := 0
def PySem.W.Fast.tw15967976087397468669 : Nat := 0
def PySem.W.Fast.tw4512324880969684026 : Nat := 0
def PySem.W.Fast.tw7325063647321789767 : Nat := 0
def PySem.W.Fast.tw9050634527244240285 : Nat := 0
def PySem.W.Fast.tw2747939081592204068 : Nat := 0
def PySem.W.Fast.tw7826876306632820384 : Nat := 0
open PySem PySem.W PyProof.Rows
set_option maxRecDepth 100000 in
set_option maxHeartbeats 0 in
theorem PySem.Challenge.cw_ohmyard_k32_rings_holds : PySem.Challenge.rw_ohmyard_k32_rings.Holds := by
  w_on; o_law; z_head; (case hw => w_witness2)
  k_fill
  refine L2.walkX_of (fun _ => by kernel_rfl) (K32.walk (l := PySem.Challenge.rw_ohmyard_k32_rings) rfl rfl (fun w h Y => Y) ?F)
  case F =>
    intro w mg fa h KX G hmg
    refine' K32.all_mk KX G hmg ?y_Row ?y_Piece ?y_Push ?y_Hold ?y_Net ?a1 ?l1 ?c1 ?k1 ?a2 ?l2 ?c2 ?k2 ?a3 ?l3 ?c3 ?k3 ?a4 ?l4 ?c4 ?k4 ?lt4 ?a5 ?l5 ?c5 ?k5 ?a6 ?l6 ?c6 ?k6 ?a7 ?l7 ?c7 ?k7 ?a8 ?l8 ?c8 ?k8 ?a9_0 ?a9_1 ?a9_2 ?i9 ?l9 ?c9 ?k9 ?a10_0 ?i10 ?l10 ?c10 ?k10 ?a11_0 ?i11 ?l11 ?c11 ?k11 ?a12_0 ?i12 ?l12 ?c12 ?k12 ?a13_0 ?a13_1 ?a13_2 ?i13 ?l13 ?c13 ?k13 ?a14 ?l14 ?c14 ?k14 ?a15 ?l15 ?c15 ?k15 ?a16 ?l16 ?c16 ?k16 ?a17 ?l17 ?c17 ?k17 ?a18 ?l18 ?c18 ?k18 ?a19 ?l19 ?c19 ?k19 ?a20_0 ?i20 ?l20 ?c20 ?k20 ?a21_0 ?i21 ?l21 ?c21 ?k21 ?a22_0 ?i22 ?l22 ?c22 ?k22 ?a23_0 ?i23 ?l23 ?c23 ?k23 ?a24 ?l24 ?c24 ?k24 ?a25 ?l25 ?c25 ?k25 ?a26 ?l26 ?c26 ?k26 ?lt26 ?a27 ?l27 ?c27 ?k27 ?a28 ?l28 ?c28 ?k28 ?a29 ?l29 ?c29 ?k29 ?a30 ?l30 ?c30 ?k30 ?a31 ?l31 ?c31 ?k31 ?a32 ?l32 ?c32 ?k32 ?a33 ?l33 ?c33 ?k33 ?a34 ?l34 ?c34 ?k34 ?a35 ?l35 ?c35 ?k35 ?a36 ?l36 ?c36 ?k36 ?a37 ?l37 ?c37 ?k37 ?a38 ?l38 ?c38 ?k38 ?a39 ?l39 ?c39 ?k39 ?a40 ?l40 ?c40 ?k40 ?a41 ?l41 ?c41 ?k41 ?v_NOUGHT ?v_JOINING_WORDS ?v_MOST_POINTS ?v_MOST_ROWS ?lN ?lJ ?pg_Piece ?hd_Piece ?po_Piece ?sa_Piece ?mk_Piece ?kc_Piece ?t1_Piece ?t4_Piece ?na_Piece_start ?na_Piece_goal ?na_Piece_size ?pg_Push ?hd_Push ?po_Push ?sa_Push ?mk_Push ?kc_Push ?t1_Push ?t4_Push ?na_Push_start ?na_Push_goal ?na_Push_size ?pg_Hold ?hd_Hold ?po_Hold ?sa_Hold ?mk_Hold ?kc_Hold ?t1_Hold ?t4_Hold ?na_Hold_start ?na_Hold_goal ?na_Hold_size ?tt2 ?tt3 ?isR_Piece ?isR_Push ?isR_Hold ?isK_Piece_Push ?isK_Piece_Hold ?isK_Push_Piece ?isK_Push_Hold ?isK_Hold_Piece ?isK_Hold_Push ?pg_Net ?hd_Net ?po_Net ?sa_Net ?mk_Net ?kc_Net ?t1_Net ?t4_Net ?na_Net_point_count ?na_Net_kept ?z1 ?z2 ?z3 ?z4 ?z5 ?z6 ?z7 ?z8 ?z9 ?z10 ?z11 ?z12
    (case y_Row => k_is)
    (case y_Piece => k_is)
    (case y_Push => k_is)
    (case y_Hold => k_is)
    (case y_Net => k_is)
    (case a1 => k_is); (case l1 => k_is); (case c1 => k_is); (case k1 => k_is)
    (case a2 => k_is); (case l2 => k_is); (case c2 => k_is); (case k2 => k_is)
    (case a3 => k_is); (case l3 => k_is); (case c3 => k_is); (case k3 => k_is)
    (case a4 => k_is); (case l4 => k_is); (case c4 => k_is); (case k4 => k_is); (case lt4 => k_is)
    (case a5 => k_is); (case l5 => k_is); (case c5 => k_is); (case k5 => k_is)
    (case a6 => k_is); (case l6 => k_is); (case c6 => k_is); (case k6 => k_is)
    (case a7 => k_is); (case l7 => k_is); (case c7 => k_is); (case k7 => k_is)
    (case a8 => k_is); (case l8 => k_is); (case c8 => k_is); (case k8 => k_is)
    (case a9_0 => k_is); (case a9_1 => k_is); (case a9_2 => k_is); (case i9 => k_is); (case l9 => k_is); (case c9 => k_is); (case k9 => k_is)
    (case a10_0 => k_is); (case i10 => k_is); (case l10 => k_is); (case c10 => k_is); (case k10 => k_is)
    (case a11_0 => k_is); (case i11 => k_is); (case l11 => k_is); (case c11 => k_is); (case k11 => k_is)
    (case a12_0 => k_is); (case i12 => k_is); (case l12 => k_is); (case c12 => k_is); (case k12 => k_is)
    (case a13_0 => k_is); (case a13_1 => k_is); (case a13_2 => k_is); (case i13 => k_is); (case l13 => k_is); (case c13 => k_is); (case k13 => k_is)
    (case a14 => k_is); (case l14 => k_is); (case c14 => k_is); (case k14 => k_is)
    (case a15 => k_is); (case l15 => k_is); (case c15 => k_is); (case k15 => k_is)
    (case a16 => k_is); (case l16 => k_is); (case c16 => k_is); (case k16 => k_is)
    (case a17 => k_is); (case l17 => k_is); (case c17 => k_is); (case k17 => k_is)
    (case a18 => k_is); (case l18 => k_is); (case c18 => k_is); (case k18 => k_is)
    (case a19 => k_is); (case l19 => k_is); (case c19 => k_is); (case k19 => k_is)
    (case a20_0 => k_is); (case i20 => k_is); (case l20 => k_is); (case c20 => k_is); (case k20 => k_is)
    (case a21_0 => k_is); (case i21 => k_is); (case l21 => k_is); (case c21 => k_is); (case k21 => k_is)
    (case a22_0 => k_is); (case i22 => k_is); (case l22 => k_is); (case c22 => k_is); (case k22 => k_is)
    (case a23_0 => k_is); (case i23 => k_is); (case l23 => k_is); (case c23 => k_is); (case k23 => k_is)
    (case a24 => k_is); (case l24 => k_is); (case c24 => k_is); (case k24 => k_is)
    (case a25 => k_is); (case l25 => k_is); (case c25 => k_is); (case k25 => k_is)
    (case a26 => k_is); (case l26 => k_is); (case c26 => k_is); (case k26 => k_is); (case lt26 => k_is)
    (case a27 => k_is); (case l27 => k_is); (case c27 => k_is); (case k27 => k_is)
    (case a28 => k_is); (case l28 => k_is); (case c28 => k_is); (case k28 => k_is)
    (case a29 => k_is); (case l29 => k_is); (case c29 => k_is); (case k29 => k_is)
    (case a30 => k_is); (case l30 => k_is); (case c30 => k_is); (case k30 => k_is)
    (case a31 => k_is); (case l31 => k_is); (case c31 => k_is); (case k31 => k_is)
    (case a32 => k_is); (case l32 => k_is); (case c32 => k_is); (case k32 => k_is)
    (case a33 => k_is); (case l33 => k_is); (case c33 => k_is); (case k33 => k_is)
    (case a34 => k_is); (case l34 => k_is); (case c34 => k_is); (case k34 => k_is)
    (case a35 => k_is); (case l35 => k_is); (case c35 => k_is); (case k35 => k_is)
    (case a36 => k_is); (case l36 => k_is); (case c36 => k_is); (case k36 => k_is)
    (case a37 => k_is); (case l37 => k_is); (case c37 => k_is); (case k37 => k_is)
    (case a38 => k_is); (case l38 => k_is); (case c38 => k_is); (case k38 => k_is)
    (case a39 => k_is); (case l39 => k_is); (case c39 => k_is); (case k39 => k_is)
    (case a40 => k_is); (case l40 => k_is); (case c40 => k_is); (case k40 => k_is)
    (case a41 => k_is); (case l41 => k_is); (case c41 => k_is); (case k41 => k_is)
    (case v_NOUGHT => k_is)
    (case v_JOINING_WORDS => k_is)
    (case v_MOST_POINTS => k_is)
    (case v_MOST_ROWS => k_is)
    (case lN => k_is)
    (case lJ => k_is)
    (case pg_Piece => k_is)
    (case hd_Piece => k_is)
    (case po_Piece => k_is)
    (case sa_Piece => k_is)
    (case mk_Piece => k_is)
    (case kc_Piece => k_is)
    (case t1_Piece => k_is)
    (case t4_Piece => k_is)
    (case na_Piece_start => k_is)
    (case na_Piece_goal => k_is)
    (case na_Piece_size => k_is)
    (case pg_Push => k_is)
    (case hd_Push => k_is)
    (case po_Push => k_is)
    (case sa_Push => k_is)
    (case mk_Push => k_is)
    (case kc_Push => k_is)
    (case t1_Push => k_is)
    (case t4_Push => k_is)
    (case na_Push_start => k_is)
    (case na_Push_goal => k_is)
    (case na_Push_size => k_is)
    (case pg_Hold => k_is)
    (case hd_Hold => k_is)
    (case po_Hold => k_is)
    (case sa_Hold => k_is)
    (case mk_Hold => k_is)
    (case kc_Hold => k_is)
    (case t1_Hold => k_is)
    (case t4_Hold => k_is)
    (case na_Hold_start => k_is)
    (case na_Hold_goal => k_is)
    (case na_Hold_size => k_is)
    (case tt2 => k_is)
    (case tt3 => k_is)
    (case isR_Piece => kit_is)
    (case isR_Push => kit_is)
    (case isR_Hold => kit_is)
    (case isK_Piece_Push => kit_is)
    (case isK_Piece_Hold => kit_is)
    (case isK_Push_Piece => kit_is)
    (case isK_Push_Hold => kit_is)
    (case isK_Hold_Piece => kit_is)
    (case isK_Hold_Push => kit_is)
    (case pg_Net => k_is)
    (case hd_Net => k_is)
    (case po_Net => k_is)
    (case sa_Net => k_is)
    (case mk_Net => k_is)
    (case kc_Net => k_is)
    (case t1_Net => k_is)
    (case t4_Net => k_is)
    (case na_Net_point_count => k_is)
    (case na_Net_kept => k_is)
    (case z1 => k_is)
    (case z2 => k_is)
    (case z3 => k_is)
    (case z4 => k_is)
    (case z5 => k_is)
    (case z6 => k_is)
    (case z7 => k_is)
    (case z8 => k_is)
    (case z9 => k_is)
    (case z10 => k_is)
    (case z11 => k_is)
    (case z12 => k_is)
