import PyProof.Rows.All
import Wide.All
import OpenK.AllK
import Wide.FinOn
import Lean
import PyProof.EqAt
import PyProof.EqKinds
import PyProof.TupleCall
import PyProof.InstStoreFacts
import PyProof.EnumStmt
import PyProof.EnumMake
import PyProof.Cells
import PyProof.SumWalkG
import PySem.Challenge.RW_ohmyard_k25_lame_refused
set_option Elab.async false
set_option linter.all false
set_option maxRecDepth 100000
/-! THE HAND LAYER, for ints, bools, texts, own classes, LISTS and tuples (index, slices, in, append, pop ..), calls, loops. Paste it whole ahead of your own text; what your proof does not reach may be deleted. -/
namespace L2
open PySem PySem.Spec PyProof.Rows

/-- a key: an int or a str -/
abbrev Key := Sum Int Str
def keyIs : Key → Value → Bool
  | .inl k, v => Value.isInt k v
  | .inr x, v => Value.isStrOf x v
def keyH (w : World) : Key → Int
  | .inl k => hashInt k
  | .inr x => hashStr w x
theorem keyIs_shape : ∀ {k : Key} {v : Value}, keyIs k v = true → (∃ i t, k = Sum.inl i ∧ v = Value.int i t) ∨ (∃ x t, k = Sum.inr x ∧ v = Value.str x t)
  | .inl i, v, h => by
    obtain ⟨t, e⟩ := Value.isInt_shape (k := i) (v := v) h
    exact .inl ⟨i, t, rfl, e⟩
  | .inr x, v, h => by
    obtain ⟨t, e⟩ := Value.isStrOf_shape (x := x) (v := v) h
    exact .inr ⟨x, t, rfl, e⟩
theorem keyIs_int (i : Int) (t : Tok) : keyIs (.inl i) (.int i t) = true := by simp [keyIs, Value.isInt]
theorem keyIs_str (x : Str) (t : Tok) : keyIs (.inr x) (.str x t) = true := by simp [keyIs, Value.isStrOf]
theorem key_ll (a b : Int) : decide ((Sum.inl a : Key) = Sum.inl b) = (a == b) := by
  by_cases e : a = b
  · subst e; simp
  · have h : ¬ (Sum.inl a : Key) = Sum.inl b := fun q => e (Sum.inl.inj q)
    rw [decide_eq_false h]
    exact (beq_eq_false_iff_ne.mpr e).symm
theorem key_rr (a b : Str) : decide ((Sum.inr a : Key) = Sum.inr b) = decide (a = b) := by
  by_cases e : a = b
  · subst e; simp
  · have h : ¬ (Sum.inr a : Key) = Sum.inr b := fun q => e (Sum.inr.inj q)
    rw [decide_eq_false h, decide_eq_false e]
theorem key_lr (a : Int) (b : Str) : decide ((Sum.inl a : Key) = Sum.inr b) = false := decide_eq_false (fun q => nomatch q)
theorem key_rl (a : Str) (b : Int) : decide ((Sum.inr a : Key) = Sum.inl b) = false := decide_eq_false (fun q => nomatch q)

def mixKind (prog : Program) (w : World) : PySem.KeyKind prog w Key where
  is := keyIs
  hash := keyH w
  inj := fun v a b ha hb => by
    rcases keyIs_shape ha with ⟨i, t, rfl, rfl⟩ | ⟨x, t, rfl, rfl⟩
    · rcases keyIs_shape hb with ⟨j, u, rfl, e⟩ | ⟨y, u, rfl, e⟩
      · injection e with e1 _; rw [e1]
      · exact nomatch e
    · rcases keyIs_shape hb with ⟨j, u, rfl, e⟩ | ⟨y, u, rfl, e⟩
      · exact nomatch e
      · injection e with e1 _; rw [e1]
  byValue := fun k v h => by
    rcases keyIs_shape h with ⟨i, t, rfl, rfl⟩ | ⟨x, t, rfl, rfl⟩ <;> rfl
  pyHash := fun hv h => by
    rcases keyIs_shape hv with ⟨i, t, rfl, rfl⟩ | ⟨x, t, rfl, rfl⟩
    · exact wpAny_pyHash_int h
    · exact wpAny_pyHash_str h
  eqBool := fun hu hv h => by
    rcases keyIs_shape hu with ⟨i, t, rfl, rfl⟩ | ⟨x, t, rfl, rfl⟩
    · rcases keyIs_shape hv with ⟨j, u, rfl, rfl⟩ | ⟨y, u, rfl, rfl⟩
      · rw [key_ll] at h; exact wpAny_eqBool_int h
      · rw [key_lr] at h; exact SeqAt.EqAt.int_str i t y u _ _ _ _ h
    · rcases keyIs_shape hv with ⟨j, u, rfl, rfl⟩ | ⟨y, u, rfl, rfl⟩
      · rw [key_rl] at h; exact SeqAt.EqAt.str_int x t j u _ _ _ _ h
      · rw [key_rr] at h; exact wpAny_eqBool_str h
  «strs» := fun k x t v h => by
    rcases keyIs_shape h with ⟨i, u, rfl, e⟩ | ⟨y, u, rfl, e⟩
    · exact nomatch e
    · injection e with e1 _
      subst e1
      cases v <;> rfl

theorem mixKind_int (prog : Program) (w : World) (i : Int) (t : Tok) : (mixKind prog w).is (.inl i) (.int i t) = true := keyIs_int i t
theorem mixKind_str (prog : Program) (w : World) (x : Str) (t : Tok) : (mixKind prog w).is (.inr x) (.str x t) = true := keyIs_str x t
end L2

namespace L2
open PySem PySem.Spec PyProof.Rows

/-- a value, without the heap -/
inductive V where
  | non | bl (b : Bool) | int (i : Int) | str (x : Str) | byt (b : Array UInt8) | flt (b : UInt64) | ref (a : Addr) | ty (n : String)
  deriving DecidableEq

def RelV : V → Value → Prop
  | .non, u => u = Value.none
  | .bl b, u => u = Value.bool b
  | .int i, u => ∃ t, u = Value.int i t
  | .str x, u => ∃ t, u = Value.str x t
  | .byt b, u => ∃ t, u = Value.bytes b t
  | .flt b, u => ∃ t, u = Value.float b t
  | .ref a, u => u = Value.ref a
  | .ty n, u => u = Value.type n

abbrev Vals : List V → List Value → Prop := Paired RelV
theorem Vals.length {xs : List V} {us : List Value} (r : Vals xs us) : xs.length = us.length := Paired.length r
theorem Vals.get : ∀ {xs : List V} {us : List Value} {i : Nat} {x : V}, Vals xs us → xs[i]? = some x → ∃ u, us[i]? = some u ∧ RelV x u
  | _, _, _, _, .nil, e => by simp at e
  | _, _, 0, _, .cons r _, e => by simp at e; subst e; exact ⟨_, rfl, r⟩
  | _, _, i + 1, x, .cons _ t, e => by
    obtain ⟨u, h1, h2⟩ := Vals.get (i := i) (x := x) t (by simpa using e)
    exact ⟨u, by simpa using h1, h2⟩
theorem Vals.set {x : V} {u : Value} (r : RelV x u) : ∀ {xs : List V} {us : List Value} (i : Nat), Vals xs us → Vals (xs.set i x) (us.set i u)
  | _, _, _, .nil => .nil
  | _, _, 0, .cons _ t => .cons r t
  | _, _, i + 1, .cons q t => .cons q (Vals.set r i t)
theorem Vals.append : ∀ {xs ys : List V} {us ws : List Value}, Vals xs us → Vals ys ws → Vals (xs ++ ys) (us ++ ws)
  | _, _, _, _, .nil, s => s
  | _, _, _, _, .cons r t, s => .cons r (Vals.append t s)
theorem Vals.take : ∀ {xs : List V} {us : List Value} (n : Nat), Vals xs us → Vals (xs.take n) (us.take n)
  | _, _, 0, _ => .nil
  | _, _, _ + 1, .nil => .nil
  | _, _, n + 1, .cons r t => .cons r (Vals.take n t)
theorem Vals.drop : ∀ {xs : List V} {us : List Value} (n : Nat), Vals xs us → Vals (xs.drop n) (us.drop n)
  | _, _, 0, r => r
  | _, _, _ + 1, .nil => .nil
  | _, _, n + 1, .cons _ t => Vals.drop n t
def RelO : Option V → Option Value → Prop
  | some v, some u => RelV v u
  | none, none => True
  | _, _ => False
def KV {κ : Type} : List (κ × V) → List (κ × Value) → Prop := Paired fun (p : κ × V) (q : κ × Value) => p.1 = q.1 ∧ RelV p.2 q.2

/-- a key of a dict (00_mix): an int or a text -/
def kV : Key → V
  | .inl i => .int i
  | .inr x => .str x

/-- what stands at a tracked address -/
inductive HO where
  /-- a list -/
  | lst (xs : List V)
  /-- a tuple (never changes) -/
  | tup (xs : List V)
  /-- a dict whose keys are ints and texts; one whose keys are tuples of ints and texts (the empty one is both) -/
  | dK (kvs : List (Key × V)) | dT (kvs : List (List Key × V))
  /-- a set of ints: its members, its size -/
  | set (S : Int → Bool) (n : Nat)
  /-- an instance of the class at C, its dict at dx, its attributes -/
  | ins (C dx : Addr) (fs : List (Str × V))
  /-- the dict of the instance at x -/
  | own (x : Addr)
  /-- the dict of an exception -/
  | xd (fs : List (Str × V))
  /-- a bound method, f of x -/
  | met (f x : Addr)
  /-- a range object lo, lo + 1, .. below hi -/
  | rng (lo hi : Int)
  /-- a thing that is known to the object (the script; a dict while a loop walks it): read, never written while it is so -/
  | frz (o : Obj) (u : HO)
  /-- a code object's table -/
  | tbl (ps : Array Value)
  /-- any other thing, by what is true of its one object (a def of one's own: SetO a S n := HO.ext fun h => ..) -/
  | ext (φ : Heap → Prop)

abbrev Hp := Addr → Option HO
def upd (H : Hp) (a : Addr) (o : HO) : Hp := fun b => if b = a then some o else H b
theorem upd_same {H : Hp} {a : Addr} {o : HO} : upd H a o a = some o := by unfold upd; rw [if_pos rfl]
theorem upd_ne {H : Hp} {a b : Addr} {o : HO} (h : b ≠ a) : upd H a o b = H b := by unfold upd; rw [if_neg h]
/-- two objects of different content stand apart -/
theorem ne_of {H : Hp} {a b : Addr} {o u : HO} (h : H a = some o) (h' : H b = some u) (d : o ≠ u) : a ≠ b := by
  intro e; subst e; rw [h] at h'; exact d (Option.some.inj h')
theorem ne_of_none {H : Hp} {a b : Addr} {o : HO} (h : H a = some o) (h' : H b = none) : a ≠ b := by
  intro e; subst e; rw [h] at h'; cases h'

section
variable (P : Program) (w : World)
def ObjOk (H : Hp) (h : Heap) (a : Addr) : HO → Prop
  | .lst xs => xs.length ≤ sizeLine ∧ ∃ (its : List Value) (n : Nat), Vals xs its ∧ h.get? a = some { cls := .type "list", data := .seq its.toArray n }
  | .tup xs => xs.length ≤ sizeLine ∧ ∃ its : List Value, Vals xs its ∧ IsTup h a its.toArray
  | .dK kvs => kvs.length ≤ sizeLine ∧ (a == sysModules) = false ∧ ∃ vs, KV kvs vs ∧ h.DictOf (mixKind P w) a vs
  | .dT kvs => kvs.length ≤ sizeLine ∧ (a == sysModules) = false ∧ ∃ xs : List (List Key × Addr × Value),
      Paired (fun (p : List Key × V) (q : List Key × Addr × Value) => p.1 = q.1 ∧ H q.2.1 = some (.tup (p.1.map kV)) ∧ RelV p.2 q.2.2) kvs xs ∧
      ∃ o es ep, h.get? a = some o ∧ o.ExactDict ∧ o.data = .dict es ep ∧ es.toList = xs.map (entryOfKey (tupleKind (mixKind P w))) ∧ (xs.map (·.1)).Nodup
  | .set S n => h.SetOf (intKind P w) a S n
  | .ins C dx fs => H dx = some (.own a) ∧ fs.length ≤ 1000 ∧ dx ≠ a ∧ h.get? a = some (PySem.W.instObj C dx) ∧
      ∃ mA, h.Ns1 dx mA ∧ (∀ f, RelO (fs.lookup f) (mA f)) ∧ PySem.Within mA (fs.map (·.1))
  | .own _ => ∃ o, h.get? a = some o
  | .xd fs => ∃ mA, h.Ns1 a mA ∧ ∀ f, RelO (fs.lookup f) (mA f)
  | .rng lo hi => ∃ t u v, h.get? a = some { cls := .type "range", data := .fields #[.int lo t, .int hi u, .int 1 v] }
  | .frz o u => h.get? a = some o ∧ ObjOk H h a u
  | .tbl ps => h.get? a = some { cls := .none, data := .fields ps }
  | .met f x => h.get? a = some (PySem.W.methodObj (.ref f) (.ref x))
  | .ext φ => φ h ∧ (∃ o, h.get? a = some o) ∧ ∀ h1 h2 : Heap, φ h1 → (∀ o, h1.get? a = some o → h2.get? a = some o) → φ h2
/-- the abstract heap is held -/
def HOk (H : Hp) (h : Heap) : Prop := ∀ a o, H a = some o → ObjOk P w H h a o
end

section
variable {P : Program} {w : World} {H H' : Hp} {h h' : Heap} {a : Addr} {o : HO}
theorem ObjOk.lt (x : ObjOk P w H h a o) : a < h.objs.size := by
  cases o with
  | lst xs => obtain ⟨_, _, _, _, e⟩ := x; exact Heap.lt_size e
  | tup xs => obtain ⟨_, _, _, p⟩ := x; exact p.lt
  | dK kvs => obtain ⟨_, _, _, _, o, _, _, e, _⟩ := x; exact Heap.lt_size e
  | dT kvs => obtain ⟨_, _, _, _, o, _, _, e, _⟩ := x; exact Heap.lt_size e
  | set S n => obtain ⟨o, _, _, _, e, _⟩ := x; exact Heap.lt_size e
  | ins C dx fs => obtain ⟨_, _, _, e, _⟩ := x; exact Heap.lt_size e
  | own y => obtain ⟨_, e⟩ := x; exact Heap.lt_size e
  | xd fs => obtain ⟨_, ⟨_, _, _, e, _⟩, _⟩ := x; exact Heap.lt_size e
  | rng lo hi => obtain ⟨_, _, _, e⟩ := x; exact Heap.lt_size e
  | frz ob u => obtain ⟨e, _⟩ := x; exact Heap.lt_size e
  | tbl ps => exact Heap.lt_size (show h.get? a = some _ from x)
  | met f y => exact Heap.lt_size (show h.get? a = some _ from x)
  | ext φ => obtain ⟨_, ⟨_, e⟩, _⟩ := x; exact Heap.lt_size e
theorem Paired.mapP {α β : Type} {F G : α → β → Prop} : ∀ {l₁ : List α} {l₂ : List β}, Paired F l₁ l₂ → (∀ a b, F a b → G a b) → Paired G l₁ l₂
  | _, _, .nil, _ => .nil
  | _, _, .cons r t, f => .cons (f _ _ r) (Paired.mapP t f)
/-- what an object's description leans on: its own object, its own dict, the tuples -/
theorem ObjOk.stay (x : ObjOk P w H h a o) (k : ∀ b u, (b = a ∨ H b = some (.own a)) → h.get? b = some u → h'.get? b = some u)
    (ho : ∀ b, H b = some (.own a) → H' b = some (.own a)) (ht : ∀ b xs, H b = some (.tup xs) → H' b = some (.tup xs)) : ObjOk P w H' h' a o := by
  induction o with
  | lst xs => obtain ⟨z, its, n, r, e⟩ := x; exact ⟨z, its, n, r, k _ _ (.inl rfl) e⟩
  | tup xs => obtain ⟨z, its, r, ob, e, c⟩ := x; exact ⟨z, its, r, ob, k _ _ (.inl rfl) e, c⟩
  | dK kvs => obtain ⟨z, y, vs, r, ob, es, ep, e, c⟩ := x; exact ⟨z, y, vs, r, ob, es, ep, k _ _ (.inl rfl) e, c⟩
  | dT kvs =>
    obtain ⟨z, y, xs, r, ob, es, ep, e, c⟩ := x
    exact ⟨z, y, xs, Paired.mapP r fun p q z => ⟨z.1, ht _ _ z.2.1, z.2.2⟩, ob, es, ep, k _ _ (.inl rfl) e, c⟩
  | set S n => obtain ⟨ob, es, ep, t, e, c⟩ := x; exact ⟨ob, es, ep, t, k _ _ (.inl rfl) e, c⟩
  | ins C dx fs =>
    obtain ⟨d, z, ne, e, mA, ⟨od, es, ep, e2, c⟩, r⟩ := x
    exact ⟨ho _ d, z, ne, k _ _ (.inl rfl) e, mA, ⟨od, es, ep, k _ _ (.inr d) e2, c⟩, r⟩
  | own y => obtain ⟨ob, e⟩ := x; exact ⟨ob, k _ _ (.inl rfl) e⟩
  | xd fs => obtain ⟨mA, ⟨od, es, ep, e, c⟩, r⟩ := x; exact ⟨mA, ⟨od, es, ep, k _ _ (.inl rfl) e, c⟩, r⟩
  | rng lo hi => obtain ⟨t, u, v, e⟩ := x; exact ⟨t, u, v, k _ _ (.inl rfl) e⟩
  | frz ob u ih => obtain ⟨e, q⟩ := x; exact ⟨k _ _ (.inl rfl) e, ih q⟩
  | tbl ps =>
    have e : h.get? a = some { cls := .none, data := .fields ps } := x
    show h'.get? a = some { cls := .none, data := .fields ps }
    exact k a _ (.inl rfl) e
  | met f y =>
    have e : h.get? a = some (PySem.W.methodObj (.ref f) (.ref y)) := x
    show h'.get? a = some (PySem.W.methodObj (.ref f) (.ref y))
    exact k a _ (.inl rfl) e
  | ext φ => obtain ⟨p, ⟨o, e⟩, st⟩ := x; exact ⟨st _ _ p fun o q => k _ _ (.inl rfl) q, ⟨o, k _ _ (.inl rfl) e⟩, st⟩
theorem HOk.lt (x : HOk P w H h) (e : H a = some o) : a < h.objs.size := (x a o e).lt
theorem HOk.fresh (x : HOk P w H h) (e : h.objs.size ≤ a) : H a = none := by
  cases q : H a with
  | none => rfl
  | some u => exact absurd (Nat.lt_of_lt_of_le (x.lt q) e) (Nat.lt_irrefl _)
/-- every object of the heap is kept -/
theorem HOk.kept (x : HOk P w H h) (k : ∀ b u, h.get? b = some u → h'.get? b = some u) : HOk P w H h' := fun a o e =>
  (x a o e).stay (fun b u _ q => k b u q) (fun _ q => q) fun _ _ q => q
/-- a new object is laid and tracked -/
theorem HOk.laid (x : HOk P w H h) (k : ∀ b u, h.get? b = some u → h'.get? b = some u) (hp : h.objs.size ≤ a) (new : ObjOk P w (upd H a o) h' a o) : HOk P w (upd H a o) h' := fun b u e => by
  have hn := x.fresh hp
  by_cases hb : b = a
  · subst hb; rw [upd_same] at e; cases e; exact new
  · rw [upd_ne hb] at e
    exact (x b u e).stay (fun c v _ q => k c v q) (fun c q => by rw [upd_ne (ne_of_none q hn)]; exact q) fun c xs q => by rw [upd_ne (ne_of_none q hn)]; exact q
end

/-- what may be read as u: it is u, or a known u -/
def Rd (H : Hp) (a : Addr) (u : HO) : Prop := H a = some u ∨ ∃ o, H a = some (.frz o u)
theorem Rd.ok {P : Program} {w : World} {H : Hp} {h : Heap} {a : Addr} {u : HO} (r : Rd H a u) (x : HOk P w H h) : ObjOk P w H h a u := by
  rcases r with r | ⟨o, r⟩
  · exact x a u r
  · obtain ⟨_, q⟩ := x a _ r
    exact q
/-- what may be written -/
def Mut : Option HO → Prop
  | some (.lst _) => True
  | some (.dK _) => True
  | some (.dT _) => True
  | some (.set _ _) => True
  | some (.ins _ _ _) => True
  | some (.ext _) => True
  | _ => False
section
variable {P : Program} {w : World} {H : Hp} {h h' : Heap} {x e : Addr} {o' : HO}
/-- the object at e is changed: x itself, or the dict of the instance x -/
theorem HOk.write (ok : HOk P w H h) (mu : Mut (H x)) (he : e = x ∨ H e = some (.own x)) (k : ∀ b u, b ≠ e → h.get? b = some u → h'.get? b = some u) (heo : ∃ u, h'.get? e = some u)
    (new : ObjOk P w (upd H x o') h' x o') : HOk P w (upd H x o') h' := fun b u q => by
  have nown : ∀ c y, H c = some (.own y) → c ≠ x := fun c y r z => by subst z; rw [r] at mu; exact mu
  have ntup : ∀ c xs, H c = some (.tup xs) → c ≠ x := fun c xs r z => by subst z; rw [r] at mu; exact mu
  by_cases hb : b = x
  · subst hb; rw [upd_same] at q; cases q; exact new
  · rw [upd_ne hb] at q
    by_cases hbe : b = e
    · have q' : H b = some (.own x) := by
        rcases he with z | z
        · exact absurd (hbe.trans z) hb
        · rw [hbe]; exact z
      rw [q] at q'; cases q'
      obtain ⟨v, hv⟩ := heo
      exact ⟨v, by rw [hbe]; exact hv⟩
    · refine (ok b u q).stay (fun c v hc r => k c v ?_ r) (fun c r => by rw [upd_ne (nown c b r)]; exact r) fun c xs r => by rw [upd_ne (ntup c xs r)]; exact r
      rcases hc with rfl | hc
      · exact hbe
      · rintro rfl
        rcases he with z | z
        · exact nown c b hc z
        · rw [hc] at z; cases z; exact hb rfl
end

/-! ### kept unless tracked; of the frames at fs (the callers') the slots may change (an exception that passes writes there); of the records at ex (iterators) nothing is said -/
structure Un (fs ex : List Addr) (H H' : Hp) (h h' : Heap) : Prop where
  keep : ∀ b o, h.get? b = some o → H b = none → b ∉ fs → b ∉ ex → h'.get? b = some o
  slot : ∀ b o, h.get? b = some o → H b = none → b ∈ fs → b ∉ ex → ∃ sl, h'.get? b = some { o with slots := sl }
  free : ∀ b o, h.get? b = some o → H b = none → b ∉ ex → H' b = none
  there : ∀ b o, h.get? b = some o → b ∉ ex → ∃ o', h'.get? b = some o'
  tups : ∀ b xs, H b = some (.tup xs) → H' b = some (.tup xs)
  frzs : ∀ b o u, H b = some (.frz o u) → H' b = some (.frz o u)
  tbls : ∀ b ps, H b = some (.tbl ps) → ∃ more, H' b = some (.tbl (ps ++ more))
section
variable {fs fs' ex ex' : List Addr} {H H1 H2 : Hp} {h h1 h2 h' : Heap} {a x e : Addr} {o : HO}
theorem Un.any (u : Un fs ex H H1 h h1) {b : Addr} {ob : Obj} (q : h.get? b = some ob) (n : H b = none) (hx : b ∉ ex) : ∃ sl, h1.get? b = some { ob with slots := sl } := by
  by_cases hb : b ∈ fs
  · exact u.slot b ob q n hb hx
  · exact ⟨ob.slots, u.keep b ob q n hb hx⟩
theorem Un.kept (k : ∀ b u, h.get? b = some u → h'.get? b = some u) : Un fs ex H H h h' :=
  ⟨fun b ob q _ _ _ => k b ob q, fun b ob q _ _ _ => ⟨ob.slots, k b ob q⟩, fun _ _ _ n _ => n, fun b ob q _ => ⟨ob, k b ob q⟩, fun _ _ q => q, fun _ _ _ q => q, fun _ ps q => ⟨#[], by rw [q]; simp⟩⟩
theorem Un.refl : Un fs ex H H h h := Un.kept fun _ _ q => q
theorem Un.laid (k : ∀ b u, h.get? b = some u → h'.get? b = some u) (hp : h.objs.size ≤ a) (hn : H a = none) : Un fs ex H (upd H a o) h h' where
  keep := fun b u q _ _ _ => k b u q
  slot := fun b u q _ _ _ => ⟨u.slots, k b u q⟩
  free := fun b u q n _ => by rw [upd_ne (Nat.ne_of_lt (Nat.lt_of_lt_of_le (Heap.lt_size q) hp))]; exact n
  there := fun b u q _ => ⟨u, k b u q⟩
  tups := fun b xs q => by rw [upd_ne (ne_of_none q hn)]; exact q
  frzs := fun b u xs q => by rw [upd_ne (ne_of_none q hn)]; exact q
  tbls := fun b ps q => ⟨#[], by rw [upd_ne (ne_of_none q hn), q]; simp⟩
theorem Un.write (mu : Mut (H x)) (he : e = x ∨ H e = some (.own x)) (k : ∀ b u, b ≠ e → h.get? b = some u → h'.get? b = some u) (heo : ∃ u, h'.get? e = some u) : Un fs ex H (upd H x o) h h' := by
  have hx : ∀ b, H b = none → b ≠ x := fun b n z => by subst z; rw [n] at mu; exact mu
  have hb : ∀ b, H b = none → b ≠ e := fun b n z => by
    subst z
    rcases he with r | r
    · exact hx b n r
    · rw [n] at r; cases r
  have hm : ∀ b u, H b = some u → ¬ Mut (some u) → b ≠ x := fun b u q nm z => by subst z; rw [q] at mu; exact nm mu
  refine ⟨fun b u q n _ _ => k b u (hb b n) q, fun b u q n _ _ => ⟨u.slots, k b u (hb b n) q⟩, fun b u q n _ => by rw [upd_ne (hx b n)]; exact n, fun b u q _ => ?_,
    fun b xs q => by rw [upd_ne (hm b _ q fun z => z)]; exact q, fun b u xs q => by rw [upd_ne (hm b _ q fun z => z)]; exact q, fun b ps q => ⟨#[], by rw [upd_ne (hm b _ q fun z => z), q]; simp⟩⟩
  by_cases hbe : b = e
  · subst hbe; exact heo
  · exact ⟨u, k b u hbe q⟩
end

/-! ### the heap without what is tracked -/
def trk (h : Heap) (H : Hp) : List Addr := (List.range h.objs.size).filter fun a => (H a).isSome
def hidT (h : Heap) (H : Hp) : Heap := PySem.W.hideAll h (trk h H)
theorem hidT_size (h : Heap) (H : Hp) : (hidT h H).objs.size = h.objs.size := PySem.W.hideAll_size _ _
theorem hidT_get {h : Heap} {H : Hp} {b : Addr} {o : Obj} (e : h.get? b = some o) (n : H b = none) : (hidT h H).get? b = some o :=
  PySem.W.hideAll_get _ e fun hm => by
    have q : (H b).isSome = true := (List.mem_filter.mp hm).2
    rw [n] at q; simp at q
theorem of_hidT {h : Heap} {H : Hp} {b : Addr} {o : Obj} (e : (hidT h H).get? b = some o) : h.get? b = some o ∧ H b = none := by
  have e' : h.get? b = some o := PySem.W.of_hideAll (trk h H) e
  refine ⟨e', ?_⟩
  cases q : H b with
  | none => rfl
  | some x =>
    have hm : b ∈ trk h H := List.mem_filter.mpr ⟨List.mem_range.mpr (Heap.lt_size e'), by simp [q]⟩
    have z : (hidT h H).get? b = none := PySem.W.hideAll_none (trk h H) hm
    rw [z] at e; cases e

/-! ### OpenK's ledger, filled with every new object but one -/
def allNews (g h : Heap) (L : Addr) : List (Addr × Obj) := (List.range h.objs.size).filterMap fun a => if a = L ∨ (g.get? a).isSome = true then none else (h.get? a).map fun o => (a, o)
def rest (g h : Heap) (L d : Addr) : List (Addr × Obj) := (allNews g h L).filter fun p => decide (p.1 ≠ d)
end L2

namespace L2
open PySem PySem.Spec PyProof.Rows

/-- the module's facts, over the base: the heap at the law's entry without what is tracked there -/
structure Mod (K : PySem.W.Frag) (mg : Str → Option Value) (base : Heap) : Prop where
  kin : K.In base
  glob : base.Ns mainGlobals mg
  blt : ∃ mb, base.Ns builtinsNs mb ∧ ∀ x : Str, x ≠ "__name__" → mb x = bootBuiltins x
  nolimit : base.NoLimit

/-- the context: a def's body (or a comprehension's block) running. base: fixed through the whole law; s₀, H₀: the entry; outer: the frames whose slots others may change (a def's callers); stack: all frames that run;
   ex: iterators that were made ahead of the entry and are walked here (a comprehension's); fn: the names whose cells were made at the entry (a def: all; a comprehension's block: its own); calm: not within an except suite; pn: pins that every state bears; xe: what is wanted of an exception that leaves the code -/
structure Cx where
  prog : Program
  w : World
  K : PySem.W.Frag
  mg : Str → Option Value
  base : Heap
  A : Around
  N : List Str
  s₀ : Shared
  H₀ : Hp
  env : Env
  outer : List Env
  stack : List Env
  ex : List Addr
  fn : Str → Bool
  calm : Bool
  pn : List (Addr × Obj)
  xe : Value → Shared → Prop
/-- the callers' frames -/
def frs (l : List Env) : List Addr := l.filterMap (·.frame)
abbrev Cx.fs (X : Cx) : List Addr := frs X.outer

def Vis (sc : Scope) (x : Str) : Prop := sc.names.lookup x = some .local ∨ sc.names.lookup x = some .cell ∨ sc.names.lookup x = some .free
def Loc (sc : Scope) (x : Str) : Prop := sc.names.lookup x = some .local ∨ sc.names.lookup x = some .cell
def Look (env : Env) (h : Heap) (m : Str → Option Value) (x : Str) (u : Value) : Prop :=
  (env.kindOf x = some .local ∧ m x = some u) ∨ ((env.kindOf x = some .cell ∨ env.kindOf x = some .free) ∧ ∃ c, env.cells.lookup x = some c ∧ h.IsCell c (some u))

structure Cx.Ok (X : Cx) : Prop where
  mod : Mod X.K X.mg X.base
  kind : X.env.scope.kind = .function
  glob : X.env.globals = mainGlobals
  blt : X.env.builtins = builtinsNs
  above : X.s₀.heap.objs.size ≤ X.env.locals
  inj : ∀ x y c, X.env.cells.lookup x = some c → X.env.cells.lookup y = some c → x = y
  has : ∀ x, (X.env.kindOf x = some .cell ∨ X.env.kindOf x = some .free) → ∃ c, X.env.cells.lookup x = some c
  cab : ∀ x c, X.fn x = true → X.env.cells.lookup x = some c → X.s₀.heap.objs.size ≤ c
  hd : X.calm = true → X.A.handled = none
  frames : X.A.frames = some X.stack
  stk : X.stack = X.outer ∨ (X.stack = X.env :: X.outer ∧ X.env.frame = some X.env.locals)
  exf : ∀ b ∈ X.ex, b ≠ X.env.locals ∧ ∀ x c, X.env.cells.lookup x = some c → c ≠ b
  bs : ∀ b o, X.base.get? b = some o → X.s₀.heap.get? b = some o ∧ X.H₀ b = none
  bsz : X.base.objs.size ≤ X.s₀.heap.objs.size
  noex : ∀ b o, X.base.get? b = some o → b ∉ X.ex
  exfs : ∀ b ∈ X.ex, b ∉ X.fs
  funs : X.s₀.heap.FunFrames X.base X.outer
  frf : ∀ b ∈ X.fs, X.H₀ b = none

structure Inv (X : Cx) (pins : List (Addr × Obj)) (σ : List (Option V)) (H : Hp) (s : Shared) : Prop where
  ok : X.Ok
  os : s.os = X.s₀.os
  bare : AllBare s.gens
  base : Un X.fs X.ex X.H₀ H X.s₀.heap s.heap
  loc : ∃ m, s.heap.Ns X.env.locals m ∧ ∀ (i : Nat) (x : Str) (v : V), X.N[i]? = some x → σ[i]? = some (some v) → Vis X.env.scope x → ∃ u, RelV v u ∧ Look X.env s.heap m x u
  cell : ∀ x c, X.env.cells.lookup x = some c → ∃ v, s.heap.IsCell c v
  free : H X.env.locals = none
  freeC : ∀ x c, X.env.cells.lookup x = some c → H c = none
  pin : ∀ p ∈ X.pn ++ pins, s.heap.get? p.1 = some p.2 ∧ H p.1 = none ∧ p.1 ≠ X.env.locals ∧ p.1 ∉ X.fs ∧ ∀ v, p.2.data ≠ .cell v
  hok : HOk X.prog X.w H s.heap
  len : σ.length = X.N.length

section
variable {X : Cx} {pins : List (Addr × Obj)} {σ : List (Option V)} {H H' : Hp} {s : Shared} {h' : Heap}

theorem Cx.Ok.nofr (ok : X.Ok) {b : Addr} {o : Obj} (e : X.base.get? b = some o) : b ∉ X.fs := fun hb => by
  have := (ok.funs.mem hb).1
  rw [e] at this; cases this
theorem Inv.bs (I : Inv X pins σ H s) : ∀ b o, X.base.get? b = some o → s.heap.get? b = some o ∧ H b = none := fun b o e =>
  ⟨I.base.keep b o (I.ok.bs b o e).1 (I.ok.bs b o e).2 (I.ok.nofr e) (I.ok.noex b o e), I.base.free b o (I.ok.bs b o e).1 (I.ok.bs b o e).2 (I.ok.noex b o e)⟩
theorem Inv.bk (I : Inv X pins σ H s) : ∀ b o, X.base.get? b = some o → s.heap.get? b = some o := fun b o e => (I.bs b o e).1
theorem Inv.mod (I : Inv X pins σ H s) : Mod X.K X.mg X.base := I.ok.mod
theorem Inv.kIn (I : Inv X pins σ H s) : X.K.In s.heap := I.ok.mod.kin.keeps I.bk
theorem Inv.lt (I : Inv X pins σ H s) : X.env.locals < s.heap.objs.size := let ⟨_, hn, _⟩ := I.loc; hn.lt
theorem Inv.sz (I : Inv X pins σ H s) : X.s₀.heap.objs.size ≤ s.heap.objs.size := Nat.le_trans I.ok.above (Nat.le_of_lt I.lt)
theorem Inv.nofs (I : Inv X pins σ H s) {a : Addr} (h : s.heap.objs.size ≤ a) : a ∉ X.fs := fun hb => by
  obtain ⟨_, o, ho, _⟩ := I.ok.funs.mem hb
  exact absurd (Nat.lt_of_lt_of_le (Heap.lt_size ho) (Nat.le_trans I.sz h)) (Nat.lt_irrefl _)
theorem Inv.cne (I : Inv X pins σ H s) : ∀ x c, X.env.cells.lookup x = some c → c ≠ X.env.locals := fun x c e z => by
  obtain ⟨v, o, ho, hd⟩ := I.cell x c e
  obtain ⟨m, ⟨o', es, ep, ho', hd', _⟩, _⟩ := I.loc
  rw [z, ho'] at ho; cases ho; rw [hd'] at hd; cases hd
theorem Inv.funs (I : Inv X pins σ H s) : s.heap.FunFrames X.base X.outer := by
  have all : ∀ (l : List Env), (∀ b ∈ frs l, b ∈ X.fs) → X.s₀.heap.FunFrames X.base l → s.heap.FunFrames X.base l := by
    intro l
    induction l with
    | nil => intro _ _; trivial
    | cons env r ih =>
      intro hs hl
      obtain ⟨hk, ⟨L, o, hf, hn, ho, hd⟩, hr⟩ := hl
      have hL : L ∈ X.fs := hs L (by unfold frs; rw [List.filterMap_cons, hf]; exact List.mem_cons_self)
      obtain ⟨sl, e⟩ := I.base.slot L o ho (I.ok.frf L hL) hL fun z => I.ok.exfs L z hL
      exact ⟨hk, ⟨L, _, hf, hn, e, hd⟩, ih (fun b hb => hs b (by unfold frs; rw [List.filterMap_cons, hf]; exact List.mem_cons_of_mem _ hb)) hr⟩
  exact all X.outer (fun _ hb => hb) I.ok.funs

/-- the frames that run, for a call -/
theorem Inv.stack (I : Inv X pins σ H s) : s.heap.FunFrames X.base X.stack := by
  rcases I.ok.stk with e | ⟨e, hf⟩
  · rw [e]; exact I.funs
  · rw [e]
    obtain ⟨m, hn, _⟩ := I.loc
    refine .cons (by rw [I.ok.kind]; decide) hf hn ?_ I.funs
    exact Heap.get?_none_of_le (Nat.le_trans I.ok.bsz I.ok.above)
theorem Inv.stkSub (I : Inv X pins σ H s) : ∀ b ∈ frs X.stack, b ∈ X.env.locals :: X.fs := fun b hb => by
  rcases I.ok.stk with e | ⟨e, hf⟩
  · rw [e] at hb; exact List.mem_cons_of_mem _ hb
  · rw [e] at hb
    unfold frs at hb
    rw [List.filterMap_cons, hf] at hb
    exact hb
theorem Inv.stkFree (I : Inv X pins σ H s) : ∀ b ∈ frs X.stack, H b = none := fun b hb => by
  rcases List.mem_cons.mp (I.stkSub b hb) with e | hb
  · rw [e]; exact I.free
  · obtain ⟨_, o, ho, _⟩ := I.ok.funs.mem hb
    exact I.base.free b o ho (I.ok.frf b hb) fun z => I.ok.exfs b z hb

/-- THE STEP: the untracked objects but the frame and the records at ch are kept (the callers' frames up to slots), the frame's map is kept, the new abstract heap is held -/
theorem Inv.step {g' : Array GenState} {t' : Nat} {d' : Drawn} {ch : List Addr} (I : Inv X pins σ H s)
    (hch : ∀ b ∈ ch, (b ∈ X.ex ∨ X.s₀.heap.objs.size ≤ b) ∧ b ≠ X.env.locals ∧ (∀ x c, X.env.cells.lookup x = some c → c ≠ b) ∧ ∀ p ∈ X.pn ++ pins, p.1 ≠ b)
    (keep : ∀ b o, b ≠ X.env.locals → b ∉ X.fs → b ∉ ch → s.heap.get? b = some o → H b = none → h'.get? b = some o)
    (slot : ∀ b o, b ≠ X.env.locals → b ∈ X.fs → b ∉ ch → s.heap.get? b = some o → H b = none → ∃ sl, h'.get? b = some { o with slots := sl }) (free : ∀ b o, b ∉ ch → s.heap.get? b = some o → H b = none → H' b = none)
    (there : ∀ b o, b ∉ ch → s.heap.get? b = some o → ∃ o', h'.get? b = some o')
    (tups : ∀ b xs, H b = some (.tup xs) → H' b = some (.tup xs)) (frzs : ∀ b o u, H b = some (.frz o u) → H' b = some (.frz o u)) (tbls : ∀ b ps, H b = some (.tbl ps) → ∃ more, H' b = some (.tbl (ps ++ more)))
    (ns : ∀ m, s.heap.Ns X.env.locals m → h'.Ns X.env.locals m) (hok : HOk X.prog X.w H' h') (hg : AllBare g') :
    Inv X pins σ H' { s with heap := h', gens := g', drawn := d', toks := t' } := by
  have neL : ∀ b o, X.s₀.heap.get? b = some o → b ≠ X.env.locals := fun b o e => Nat.ne_of_lt (Nat.lt_of_lt_of_le (Heap.lt_size e) I.ok.above)
  have neC : ∀ b o, X.s₀.heap.get? b = some o → b ∉ X.ex → b ∉ ch := fun b o e hx hb => by
    rcases (hch b hb).1 with z | z
    · exact hx z
    · exact absurd (Nat.lt_of_lt_of_le (Heap.lt_size e) z) (Nat.lt_irrefl _)
  have cellK : ∀ x c, X.env.cells.lookup x = some c → ∀ v, s.heap.IsCell c v → h'.IsCell c v := fun x c e v ⟨o, ho, hd⟩ => by
    have nch : c ∉ ch := fun z => (hch c z).2.2.1 x c e rfl
    by_cases hc : c ∈ X.fs
    · obtain ⟨sl, q⟩ := slot c o (I.cne x c e) hc nch ho (I.freeC x c e)
      exact ⟨_, q, hd⟩
    · exact ⟨o, keep c o (I.cne x c e) hc nch ho (I.freeC x c e), hd⟩
  refine ⟨I.ok, I.os, hg, ⟨fun b o e n hb hx => ?_, fun b o e n hb hx => ?_, fun b o e n hx => ?_, fun b o e hx => ?_, fun b xs e => tups b xs (I.base.tups b xs e), fun b o xs e => frzs b o xs (I.base.frzs b o xs e), fun b ps e => ?_⟩, ?_, fun x c e => ?_, ?_, fun x c e => ?_, fun p hp => ?_, hok, I.len⟩
  · exact keep b o (neL b o e) hb (neC b o e hx) (I.base.keep b o e n hb hx) (I.base.free b o e n hx)
  · obtain ⟨sl, e1⟩ := I.base.slot b o e n hb hx
    obtain ⟨sl', e2⟩ := slot b _ (neL b o e) hb (neC b o e hx) e1 (I.base.free b o e n hx)
    exact ⟨sl', e2⟩
  · obtain ⟨o', e1⟩ := I.base.there b o e hx
    exact free b o' (neC b o e hx) e1 (I.base.free b o e n hx)
  · obtain ⟨o', e1⟩ := I.base.there b o e hx
    exact there b o' (neC b o e hx) e1
  · obtain ⟨m1, e1⟩ := I.base.tbls b ps e
    obtain ⟨m2, e2⟩ := tbls b _ e1
    exact ⟨m1 ++ m2, by rw [e2, Array.append_assoc]⟩
  · obtain ⟨m, hn, hl⟩ := I.loc
    refine ⟨m, ns m hn, fun i x v e1 e2 e3 => ?_⟩
    obtain ⟨u, r, l⟩ := hl i x v e1 e2 e3
    refine ⟨u, r, ?_⟩
    rcases l with l | ⟨k, c, e, z⟩
    · exact .inl l
    · exact .inr ⟨k, c, e, cellK x c e _ z⟩
  · obtain ⟨v, z⟩ := I.cell x c e
    exact ⟨v, cellK x c e v z⟩
  · obtain ⟨m, ⟨o, _, _, ho, _⟩, _⟩ := I.loc
    exact free _ o (fun z => (hch _ z).2.1 rfl) ho I.free
  · obtain ⟨v, o, ho, hd⟩ := I.cell x c e
    exact free c o (fun z => (hch c z).2.2.1 x c e rfl) ho (I.freeC x c e)
  · obtain ⟨e, n, ne, nf, d⟩ := I.pin p hp
    have nch : p.1 ∉ ch := fun z => (hch p.1 z).2.2.2 p hp rfl
    exact ⟨keep p.1 p.2 ne nf nch e n, free p.1 p.2 nch e n, ne, nf, d⟩
/-- .. where the frame's own object is kept too -/
theorem Inv.un {t' : Nat} (I : Inv X pins σ H s) (u : Un X.fs [] H H' s.heap h') (hok : HOk X.prog X.w H' h') : Inv X pins σ H' { s with heap := h', toks := t' } := by
  obtain ⟨m, ⟨o, es, ep, ho, r⟩, _⟩ := id I.loc
  obtain ⟨sl, hL⟩ := u.any ho I.free (by simp)
  exact I.step (g' := s.gens) (d' := s.drawn) (ch := []) (fun _ z => nomatch z) (fun b o _ hb _ e n => u.keep b o e n hb (by simp)) (fun b o _ hb _ e n => u.slot b o e n hb (by simp)) (fun b o _ e n => u.free b o e n (by simp)) (fun b o _ e => u.there b o e (by simp)) u.tups u.frzs u.tbls (fun m' hm => by
    obtain ⟨o', es', ep', ho', r'⟩ := hm
    rw [ho] at ho'; cases ho'
    exact ⟨_, es', ep', hL, r'⟩) hok I.bare
/-- behind a call (or a comprehension's block): the slots of this frame may have changed too, the records at ch may have turned -/
theorem Inv.call {g' : Array GenState} {t' : Nat} {d' : Drawn} {ch : List Addr} (I : Inv X pins σ H s) (u : Un (frs X.stack) ch H H' s.heap h') (hok : HOk X.prog X.w H' h') (hg : AllBare g')
    (hch : ∀ b ∈ ch, (b ∈ X.ex ∨ X.s₀.heap.objs.size ≤ b) ∧ b ≠ X.env.locals ∧ (∀ x c, X.env.cells.lookup x = some c → c ≠ b) ∧ ∀ p ∈ X.pn ++ pins, p.1 ≠ b) :
    Inv X pins σ H' { s with heap := h', gens := g', drawn := d', toks := t' } := by
  obtain ⟨m, ⟨o, es, ep, ho, r⟩, _⟩ := id I.loc
  obtain ⟨sl, hL⟩ := u.any ho I.free fun z => (hch _ z).2.1 rfl
  exact I.step (ch := ch) hch (fun b o hL hb hc e n => u.keep b o e n (fun z => (List.mem_cons.mp (I.stkSub b z)).elim hL hb) hc) (fun b o _ _ hc e n => u.any e n hc) (fun b o hc e n => u.free b o e n hc) (fun b o hc e => u.there b o e hc) u.tups u.frzs u.tbls (fun m' hm => by
    obtain ⟨o', es', ep', ho', r'⟩ := hm
    rw [ho] at ho'; cases ho'
    exact ⟨_, es', ep', hL, r'⟩) hok hg
/-- an untracked record of ours (an iterator) has turned -/
theorem Inv.turned {t' : Nat} {it : Addr} (I : Inv X pins σ H s) (k : ∀ b o, b ≠ it → s.heap.get? b = some o → h'.get? b = some o) (hn : H it = none) (hL : it ≠ X.env.locals)
    (h1 : it ∈ X.ex ∨ X.s₀.heap.objs.size ≤ it) (h2 : ∀ x c, X.env.cells.lookup x = some c → c ≠ it) (h3 : ∀ p ∈ X.pn ++ pins, p.1 ≠ it) : Inv X pins σ H { s with heap := h', toks := t' } := by
  have nit : ∀ b u, H b = some u → b ≠ it := fun b u e z => by rw [z, hn] at e; cases e
  refine I.step (g' := s.gens) (d' := s.drawn) (ch := [it]) (fun b hb => ?_) (fun b o _ _ hc e _ => k b o (fun z => hc (by simp [z])) e) (fun b o _ _ hc e _ => ⟨o.slots, k b o (fun z => hc (by simp [z])) e⟩) (fun _ _ _ _ n => n)
    (fun b o hc e => ⟨o, k b o (fun z => hc (by simp [z])) e⟩) (fun _ _ e => e) (fun _ _ _ e => e) (fun b ps e => ⟨#[], by rw [e]; simp⟩) (fun m hm => ?_) (fun b u e => ?_) I.bare
  · have e : b = it := by simpa using hb
    subst e
    exact ⟨h1, hL, h2, h3⟩
  · obtain ⟨o, es, ep, ho, r⟩ := hm
    exact ⟨o, es, ep, k _ o (Ne.symm hL) ho, r⟩
  · refine (I.hok b u e).stay (fun c v hc q => k c v ?_ q) (fun _ q => q) fun _ _ q => q
    rcases hc with z | z
    · rw [z]; exact nit b u e
    · exact nit c _ z
theorem Inv.tok (I : Inv X pins σ H s) (t : Nat) : Inv X pins σ H { s with toks := t } := I.un (h' := s.heap) (t' := t) Un.refl I.hok
/-- all objects kept -/
theorem Inv.kept {t' : Nat} (I : Inv X pins σ H s) (k : ∀ b u, s.heap.get? b = some u → h'.get? b = some u) : Inv X pins σ H { s with heap := h', toks := t' } := I.un (Un.kept k) (I.hok.kept k)
/-- a new object laid and tracked -/
theorem Inv.laid {a : Addr} {o : HO} {t' : Nat} (I : Inv X pins σ H s) (k : ∀ b u, s.heap.get? b = some u → h'.get? b = some u) (hp : s.heap.objs.size ≤ a) (new : ObjOk X.prog X.w (upd H a o) h' a o) :
    Inv X pins σ (upd H a o) { s with heap := h', toks := t' } := I.un (Un.laid k hp (I.hok.fresh hp)) (I.hok.laid k hp new)
/-- an object written -/
theorem Inv.write {x e : Addr} {o : HO} {t' : Nat} (I : Inv X pins σ H s) (mu : Mut (H x)) (he : e = x ∨ H e = some (.own x)) (k : ∀ b u, b ≠ e → s.heap.get? b = some u → h'.get? b = some u) (heo : ∃ u, h'.get? e = some u)
    (new : ObjOk X.prog X.w (upd H x o) h' x o) : Inv X pins σ (upd H x o) { s with heap := h', toks := t' } := I.un (Un.write mu he k heo) (I.hok.write mu he k heo new)
/-- forgetting slots, pins -/
theorem Inv.weak {σ' : List (Option V)} (I : Inv X pins σ H s) (hl : σ'.length = σ.length) (w : ∀ (i : Nat) v, σ'[i]? = some (some v) → σ[i]? = some (some v)) : Inv X pins σ' H s :=
  ⟨I.ok, I.os, I.bare, I.base, let ⟨m, hn, hl'⟩ := I.loc; ⟨m, hn, fun i x v e1 e2 e3 => hl' i x v e1 (w i v e2) e3⟩, I.cell, I.free, I.freeC, I.pin, I.hok, hl.trans I.len⟩
theorem Inv.pins_of {pins' : List (Addr × Obj)} (I : Inv X pins σ H s) (h : ∀ p ∈ pins', s.heap.get? p.1 = some p.2 ∧ H p.1 = none ∧ p.1 ≠ X.env.locals ∧ p.1 ∉ X.fs ∧ ∀ v, p.2.data ≠ .cell v) : Inv X pins' σ H s :=
  ⟨I.ok, I.os, I.bare, I.base, I.loc, I.cell, I.free, I.freeC, fun p hp => (List.mem_append.mp hp).elim (fun z => I.pin p (List.mem_append_left _ z)) (h p), I.hok, I.len⟩

theorem nodup_ix {N : List Str} (hN : N.Nodup) {i j : Nat} {x : Str} (a : N[i]? = some x) (b : N[j]? = some x) : i = j := by
  obtain ⟨h1, e1⟩ := List.getElem?_eq_some_iff.mp a
  obtain ⟨h2, e2⟩ := List.getElem?_eq_some_iff.mp b
  exact (List.getElem_inj hN).mp (e1.trans e2.symm)

/-- a name is stored; what changed -/
theorem store_ok2 {M : Model} {A : Around} {E : Value → Shared → Prop} {i : Nat} {x : Str} {v : V} {u : Value} {Q : Unit → Shared → Prop} (I : Inv X pins σ H s) (hN : X.N.Nodup) (hi : X.N[i]? = some x) (hx : Loc X.env.scope x) (r : RelV v u)
    (h : ∀ s', Inv X pins (σ.set i (some v)) H s' → (∃ a, Heap.SameBut a s.heap s'.heap ∧ (a = X.env.locals ∨ X.env.cells.lookup x = some a)) → Q () s') (hf : X.fn x = true ∨ X.env.scope.names.lookup x = some .local := by first | exact .inl rfl | exact .inr rfl | assumption) : wpAny M A (storeName X.env x u) Q E s := by
  obtain ⟨m, hn, hl⟩ := id I.loc
  have hcls : (X.env.scope.kind == .class || (X.env.scope.kind == .module && X.env.locals != X.env.globals)) = false := by rw [I.ok.kind]; rfl
  have hiσ : i < σ.length := by rw [I.len]; exact (List.getElem?_eq_some_iff.mp hi).1
  have cne := I.cne
  have tracked : ∀ {a : Addr} {h' : Heap}, (∃ o, s.heap.get? a = some o ∧ H a = none) → Heap.SameBut a s.heap h' → HOk X.prog X.w H h' := fun {a h'} ha hs b ob e => by
    obtain ⟨_, _, hfree⟩ := ha
    refine (I.hok b ob e).stay (fun c w' hc q => (hs.2 c ?_).trans q) (fun _ q => q) fun _ _ q => q
    rintro rfl
    rcases hc with rfl | hc
    · rw [hfree] at e; cases e
    · rw [hfree] at hc; cases hc
  rcases hx with hk | hk
  · refine wpAny_storeName_local hk hn (fun h' hn' hs => ?_) hcls
    obtain ⟨oL, _, _, hoL, _⟩ := id hn
    refine h _ ⟨I.ok, I.os, I.bare, ⟨fun b o e n hb hx => ?_, fun b o e n hb hx => ?_, I.base.free, fun b o e hx => ?_, I.base.tups, I.base.frzs, I.base.tbls⟩, ⟨_, hn', fun j y v' e1 e2 e3 => ?_⟩, fun y c e => ?_, I.free, I.freeC, fun p hp => ?_, tracked ⟨oL, hoL, I.free⟩ hs, by simpa using I.len⟩ ⟨_, hs, .inl rfl⟩
    · exact (hs.2 b (Nat.ne_of_lt (Nat.lt_of_lt_of_le (Heap.lt_size e) I.ok.above))).trans (I.base.keep b o e n hb hx)
    · obtain ⟨sl, e1⟩ := I.base.slot b o e n hb hx
      exact ⟨sl, (hs.2 b (Nat.ne_of_lt (Nat.lt_of_lt_of_le (Heap.lt_size e) I.ok.above))).trans e1⟩
    · obtain ⟨o', e1⟩ := I.base.there b o e hx
      exact ⟨o', (hs.2 b (Nat.ne_of_lt (Nat.lt_of_lt_of_le (Heap.lt_size e) I.ok.above))).trans e1⟩
    · by_cases hj : j = i
      · subst hj
        rw [hi] at e1; cases e1
        rw [List.getElem?_set_self hiσ] at e2
        cases e2
        exact ⟨u, r, .inl ⟨hk, by simp⟩⟩
      · rw [List.getElem?_set_ne (Ne.symm hj)] at e2
        obtain ⟨u', r', q⟩ := hl j y v' e1 e2 e3
        refine ⟨u', r', ?_⟩
        rcases q with ⟨k, e⟩ | ⟨k, c, e, z⟩
        · refine .inl ⟨k, ?_⟩
          have : y ≠ x := fun e => hj (nodup_ix hN e1 (e ▸ hi))
          simp [this, e]
        · exact .inr ⟨k, c, e, z.sameBut hs (cne y c e)⟩
    · obtain ⟨w', z⟩ := I.cell y c e
      exact ⟨w', z.sameBut hs (cne y c e)⟩
    · obtain ⟨e, n, ne, nf, d⟩ := I.pin p hp
      exact ⟨(hs.2 p.1 ne).trans e, n, ne, nf, d⟩
  · have hfn : X.fn x = true := by
      rcases hf with z | z
      · exact z
      · rw [z] at hk; cases hk
    obtain ⟨c, hc⟩ := I.ok.has x (.inl hk)
    obtain ⟨w', z⟩ := I.cell x c hc
    refine wpAny_storeName_cell I.ok.kind hk hc z (fun h' hc' hs => ?_)
    obtain ⟨oc, hoc, hocd⟩ := id z
    refine h { s with heap := h' } ⟨I.ok, I.os, I.bare, ⟨fun b o e n hb hx => ?_, fun b o e n hb hx => ?_, I.base.free, fun b o e hx => ?_, I.base.tups, I.base.frzs, I.base.tbls⟩, ⟨m, hn.sameBut hs (Ne.symm (cne x c hc)), fun j y v' e1 e2 e3 => ?_⟩, fun y c' e => ?_, I.free, I.freeC, fun p hp => ?_, tracked ⟨oc, hoc, I.freeC x c hc⟩ hs, by simpa using I.len⟩ ⟨c, hs, .inr hc⟩
    · exact (hs.2 b (Nat.ne_of_lt (Nat.lt_of_lt_of_le (Heap.lt_size e) (I.ok.cab x c hfn hc)))).trans (I.base.keep b o e n hb hx)
    · obtain ⟨sl, e1⟩ := I.base.slot b o e n hb hx
      exact ⟨sl, (hs.2 b (Nat.ne_of_lt (Nat.lt_of_lt_of_le (Heap.lt_size e) (I.ok.cab x c hfn hc)))).trans e1⟩
    · obtain ⟨o', e1⟩ := I.base.there b o e hx
      exact ⟨o', (hs.2 b (Nat.ne_of_lt (Nat.lt_of_lt_of_le (Heap.lt_size e) (I.ok.cab x c hfn hc)))).trans e1⟩
    · by_cases hj : j = i
      · subst hj
        rw [hi] at e1; cases e1
        rw [List.getElem?_set_self hiσ] at e2
        cases e2
        exact ⟨u, r, .inr ⟨.inl hk, c, hc, hc'⟩⟩
      · rw [List.getElem?_set_ne (Ne.symm hj)] at e2
        obtain ⟨u', r', q⟩ := hl j y v' e1 e2 e3
        refine ⟨u', r', ?_⟩
        rcases q with q | ⟨k, c', e, z'⟩
        · exact .inl q
        · refine .inr ⟨k, c', e, z'.sameBut hs ?_⟩
          rintro rfl
          exact hj (nodup_ix hN e1 (I.ok.inj _ _ _ e hc ▸ hi))
    · by_cases hcc : c' = c
      · subst hcc; exact ⟨_, hc'⟩
      · obtain ⟨w2, z2⟩ := I.cell y c' e
        exact ⟨w2, z2.sameBut hs hcc⟩
    · obtain ⟨e, n, ne, nf, d⟩ := I.pin p hp
      refine ⟨(hs.2 p.1 ?_).trans e, n, ne, nf, d⟩
      intro q
      rw [q, hoc] at e
      have q' : oc = p.2 := Option.some.inj e
      exact d w' (by rw [← q']; exact hocd)
theorem store_ok {M : Model} {A : Around} {E : Value → Shared → Prop} {i : Nat} {x : Str} {v : V} {u : Value} {Q : Unit → Shared → Prop} (I : Inv X pins σ H s) (hN : X.N.Nodup) (hi : X.N[i]? = some x) (hx : Loc X.env.scope x) (r : RelV v u)
    (h : ∀ s', Inv X pins (σ.set i (some v)) H s' → Q () s') (hf : X.fn x = true ∨ X.env.scope.names.lookup x = some .local := by first | exact .inl rfl | exact .inr rfl | assumption) : wpAny M A (storeName X.env x u) Q E s :=
  store_ok2 I hN hi hx r (fun s' I' _ => h s' I') hf
/-- behind a call or a block, the state as it is -/
theorem Inv.call' {s' : Shared} {ch : List Addr} (I : Inv X pins σ H s) (ho : s'.os = s.os) (u : Un (frs X.stack) ch H H' s.heap s'.heap) (hok : HOk X.prog X.w H' s'.heap) (hg : AllBare s'.gens)
    (hch : ∀ b ∈ ch, (b ∈ X.ex ∨ X.s₀.heap.objs.size ≤ b) ∧ b ≠ X.env.locals ∧ (∀ x c, X.env.cells.lookup x = some c → c ≠ b) ∧ ∀ p ∈ X.pn ++ pins, p.1 ≠ b) : Inv X pins σ H' s' := by
  obtain ⟨h', g', d', t', o'⟩ := s'
  have e : o' = s.os := ho
  subst e
  exact I.call (g' := g') (t' := t') (d' := d') u hok hg hch
end

/-! ### the judgements -/
/-- an exception: its class, its own dict's address (where it has one), the abstract heap behind it -/
abbrev XK := Value → Option Addr → Hp → Prop
abbrev St := List (Option V)
abbrev VK := V → Hp → Prop
/-- an expression's reading; a test's; an argument list's -/
abbrev TE := St → Hp → VK → Prop
abbrev TT := St → Hp → (Bool → Hp → Prop) → Prop
abbrev TA := St → Hp → (List V → Hp → Prop) → Prop
/-- what is wanted behind a statement -/
structure Ends where
  nx : St → Hp → Prop
  rt : VK
  bk : St → Hp → Prop := fun _ _ => False
  ct : St → Hp → Prop := fun _ _ => False
abbrev TS := Ends → St → Hp → Prop

def EP (X : Cx) (pins : List (Addr × Obj)) (σ : St) (Q : VK) (u : Value) (s' : Shared) : Prop := ∃ v H', Inv X pins σ H' s' ∧ RelV v u ∧ Q v H'
def TP (X : Cx) (pins : List (Addr × Obj)) (σ : St) (Q : Bool → Hp → Prop) (b : Bool) (s' : Shared) : Prop := ∃ H', Inv X pins σ H' s' ∧ Q b H'
def AP (X : Cx) (pins : List (Addr × Obj)) (σ : St) (Q : List V → Hp → Prop) (us : List Value) (s' : Shared) : Prop := ∃ vs H', Inv X pins σ H' s' ∧ Vals vs us ∧ Q vs H'
def SP (X : Cx) (pins : List (Addr × Obj)) (D : Ends) (f : Flow) (s' : Shared) : Prop :=
  match f with
  | .next => ∃ σ' H', Inv X pins σ' H' s' ∧ D.nx σ' H'
  | .brk => ∃ σ' H', Inv X pins σ' H' s' ∧ D.bk σ' H'
  | .cont => ∃ σ' H', Inv X pins σ' H' s' ∧ D.ct σ' H'
  | .ret u => ∃ v σ' H', Inv X pins σ' H' s' ∧ RelV v u ∧ D.rt v H'

def PE (X : Cx) (e : Expr) (t : TE) : Prop :=
  ∀ (pins : List (Addr × Obj)) (s : Shared) (σ : St) (H : Hp) (Q : VK), Inv X pins σ H s → t σ H Q → wpAny (model X.prog X.w) X.A (eval e X.env) (EP X pins σ Q) X.xe s
def PT (X : Cx) (e : Expr) (t : TT) : Prop :=
  ∀ (pins : List (Addr × Obj)) (s : Shared) (σ : St) (H : Hp) (Q : Bool → Hp → Prop), Inv X pins σ H s → t σ H Q → wpAny (model X.prog X.w) X.A (isTrue e X.env (eval e X.env)) (TP X pins σ Q) X.xe s
/-- a test whatever its 'whole' is (and, or) -/
def PW (X : Cx) (e : Expr) (t : TT) : Prop :=
  ∀ (whole : Sem Value) (pins : List (Addr × Obj)) (s : Shared) (σ : St) (H : Hp) (Q : Bool → Hp → Prop), Inv X pins σ H s → t σ H Q → wpAny (model X.prog X.w) X.A (isTrue e X.env whole) (TP X pins σ Q) X.xe s
theorem PW.pt {X : Cx} {e : Expr} {t : TT} (h : PW X e t) : PT X e t := h _
/-- an argument list (no star), from the left -/
def PA (X : Cx) (es : List Expr) (t : TA) : Prop :=
  ∀ (pos : Pos) (pins : List (Addr × Obj)) (s : Shared) (σ : St) (H : Hp) (Q : List V → Hp → Prop), Inv X pins σ H s → t σ H Q → wpAny (model X.prog X.w) X.A (spliced (backTo pos (starEach es X.env))) (AP X pins σ Q) X.xe s
def PS (X : Cx) (st : Stmt) (t : TS) : Prop :=
  ∀ (pins : List (Addr × Obj)) (s : Shared) (σ : St) (H : Hp) (D : Ends), Inv X pins σ H s → t D σ H → wpAny (model X.prog X.w) X.A (exec st X.env) (SP X pins D) X.xe s
def PSs (X : Cx) (st : List Stmt) (t : TS) : Prop :=
  ∀ (pins : List (Addr × Obj)) (s : Shared) (σ : St) (H : Hp) (D : Ends), Inv X pins σ H s → t D σ H → wpAny (model X.prog X.w) X.A (execs st X.env) (SP X pins D) X.xe s
/-- weaken the end -/
theorem thn {α : Type} {t : Sem α} {Q Q' : α → Shared → Prop} {M : Model} {A : Around} {E : Value → Shared → Prop} {s : Shared} (h : wpAny M A t Q E s) (hQ : ∀ a s, Q a s → Q' a s) : wpAny M A t Q' E s := wpAny_mono h hQ fun _ _ x => x
end L2

namespace L2
open PySem PySem.Spec PyProof.Rows
section
variable {X : Cx}

/-! ### names and constants -/
def tVar (i : Nat) : TE := fun σ H Q => ∃ v, σ[i]? = some (some v) ∧ Q v H
def tC (v : V) : TE := fun _ H Q => Q v H
theorem pe_var {i : Nat} {x : Str} {pos : Pos} (hN : X.N[i]? = some x) (hv : Vis X.env.scope x) (hd : (x == ("__debug__" : Str)) = false := by decide) (hcd : (x == ("__classdict__" : Str)) = false := by decide) : PE X (.Name x pos) (tVar i) := by
  intro pins s σ H Q I h
  obtain ⟨v, e, h⟩ := h
  obtain ⟨m, hn, hl⟩ := I.loc
  obtain ⟨u, r, l⟩ := hl i x v hN e hv
  have fin : EP X pins σ Q u s := ⟨v, H, I, r, h⟩
  rcases l with ⟨hk, hm⟩ | ⟨hk, c, hc, hcell⟩
  · exact wpAny_Name (wpAny_loadName_local I.ok.kind hk hn hm fin) hd
  · rcases hk with hk | hk
    · exact wpAny_Name (wpAny_loadName_cell I.ok.kind hk hc hcell fin) hd
    · exact wpAny_Name (wpAny_loadName_free I.ok.kind hk hc hcell fin hcd) hd
theorem pe_int {i j pos} : PE X (.Constant (.int i) j pos) (tC (.int i)) := fun _ _ _ H _ I h => wpAny_Constant_int ⟨.int i, H, I.tok _, ⟨_, rfl⟩, h⟩
theorem pe_bl {b j pos} : PE X (.Constant (.bool b) j pos) (tC (.bl b)) := fun _ _ _ H _ I h => Constant_bool ⟨.bl b, H, I, rfl, h⟩
theorem pe_non {j pos} : PE X (.Constant .none j pos) (tC .non) := fun _ _ _ H _ I h => Constant_none ⟨.non, H, I, rfl, h⟩
theorem pe_str {x j pos} : PE X (.Constant (.str x) j pos) (tC (.str x)) := fun _ _ _ H _ I h => Calls.Constant_str ⟨.str x, H, I.tok _, ⟨_, rfl⟩, h⟩

/-- a global name of the def -/
def Gl (X : Cx) (x : Str) : Prop := X.env.kindOf x = some .globalImplicit
theorem ld_glob {E : Value → Shared → Prop} {pins : List (Addr × Obj)} {s : Shared} {σ : St} {H : Hp} {x : Str} {u : Value} {pos : Pos} {Q : Value → Shared → Prop} (I : Inv X pins σ H s) (hg : Gl X x) (hm : X.mg x = some u) (h : Q u s)
    (hd : (x == ("__debug__" : Str)) = false := by decide) : wpAny (model X.prog X.w) X.A (eval (.Name x pos) X.env) Q E s :=
  Calls.Name_function_global I.ok.kind hg (Calls.loadGlobal_global (by rw [I.ok.glob]; exact I.mod.glob.keeps I.bk) hm h) hd
theorem ld_blt {E : Value → Shared → Prop} {pins : List (Addr × Obj)} {s : Shared} {σ : St} {H : Hp} {x : Str} {u : Value} {pos : Pos} {Q : Value → Shared → Prop} (I : Inv X pins σ H s) (hg : Gl X x) (hm : X.mg x = none) (hv : bootBuiltins x = some u) (h : Q u s)
    (hn : x ≠ "__name__" := by decide) (hd : (x == ("__debug__" : Str)) = false := by decide) : wpAny (model X.prog X.w) X.A (eval (.Name x pos) X.env) Q E s := by
  obtain ⟨mb, h1, h2⟩ := I.mod.blt
  exact Calls.Name_function_global I.ok.kind hg (Calls.loadGlobal_builtin (by rw [I.ok.glob]; exact I.mod.glob.keeps I.bk) hm (by rw [I.ok.blt]; exact h1.keeps I.bk) ((h2 x hn).trans hv) h) hd
/-- a module's constant, a class, a function, as a value -/
theorem pe_glob {x : Str} {v : V} {u : Value} {pos : Pos} (hg : Gl X x) (hm : X.mg x = some u) (r : RelV v u) (hd : (x == ("__debug__" : Str)) = false := by decide) : PE X (.Name x pos) (tC v) :=
  fun _ _ _ H _ I h => ld_glob I hg hm ⟨v, H, I, r, h⟩ hd
theorem pe_bltn {x : Str} {v : V} {u : Value} {pos : Pos} (hg : Gl X x) (hm : X.mg x = none) (hv : bootBuiltins x = some u) (r : RelV v u) (hn : x ≠ "__name__" := by decide) (hd : (x == ("__debug__" : Str)) = false := by decide) : PE X (.Name x pos) (tC v) :=
  fun _ _ _ H _ I h => ld_blt I hg hm hv ⟨v, H, I, r, h⟩ hn hd

/-! ### arithmetic -/
/-- two ints -/
def t2I (ta tb : TE) (k : Int → Int → Hp → Prop) : St → Hp → Prop := fun σ H => ta σ H fun x H1 => tb σ H1 fun y H2 => ∃ i j, x = .int i ∧ y = .int j ∧ k i j H2
def tAdd (ta tb : TE) : TE := fun σ H Q => t2I ta tb (fun i j H2 => Q (.int (i + j)) H2) σ H
def tSub (ta tb : TE) : TE := fun σ H Q => t2I ta tb (fun i j H2 => Q (.int (i - j)) H2) σ H
/-- the left factor below 2^64 -/
def tMul (ta tb : TE) : TE := fun σ H Q => t2I ta tb (fun i j H2 => (-(2 ^ 64) < i ∧ i < 2 ^ 64) ∧ Q (.int (i * j)) H2) σ H
variable {a b : Expr} {ta tb : TE} {pos : Pos}
/-! ### comparisons -/
def PC (X : Cx) (op : CmpOp) (a b : Expr) (t : TE) : Prop :=
  ∀ (pins : List (Addr × Obj)) (s : Shared) (σ : St) (H : Hp) (Q : VK), Inv X pins σ H s → t σ H Q →
    wpAny (model X.prog X.w) X.A (eval a X.env) (fun v s₁ => wpAny (model X.prog X.w) X.A (eval b X.env) (fun u s₂ => wpAny (model X.prog X.w) X.A (compareOp op v u) (EP X pins σ Q) X.xe s₂) X.xe s₁) X.xe s
theorem nobehind (b : Expr) {op : CmpOp} (h : op ≠ .In) (h2 : op ≠ .NotIn) : behindInMarks op b = false := by
  have e1 : (op == CmpOp.In) = false := by cases op <;> first | rfl | exact absurd rfl h
  have e2 : (op == CmpOp.NotIn) = false := by cases op <;> first | rfl | exact absurd rfl h2
  cases b <;> simp [behindInMarks, e1, e2]
def tCmp (p : Int → Int → Bool) (ta tb : TE) : TE := fun σ H Q => t2I ta tb (fun i j H2 => Q (.bl (p i j)) H2) σ H
abbrev tLt : TE → TE → TE := tCmp fun i j => decide (i < j)
abbrev tLe : TE → TE → TE := tCmp fun i j => decide (i ≤ j)
abbrev tGt : TE → TE → TE := tCmp fun i j => decide (j < i)
abbrev tGe : TE → TE → TE := tCmp fun i j => decide (j ≤ i)
abbrev tEqI : TE → TE → TE := tCmp fun i j => decide (i = j)
abbrev tNeI : TE → TE → TE := tCmp fun i j => !decide (i = j)
/-- is None -/
def tIsN (ta : TE) : TE := fun σ H Q => ta σ H fun x H1 => Q (.bl (decide (x = .non))) H1
def tNotN (ta : TE) : TE := fun σ H Q => ta σ H fun x H1 => Q (.bl (!decide (x = .non))) H1
theorem RelV.none_iff {x : V} {v : Value} (r : RelV x v) : (v == Value.none) = decide (x = .non) := by
  cases x with
  | non => cases r; rfl
  | bl _ => cases r; rfl
  | int _ => obtain ⟨t, rfl⟩ := r; rfl
  | str _ => obtain ⟨t, rfl⟩ := r; rfl
  | byt _ => obtain ⟨t, rfl⟩ := r; rfl
  | flt _ => obtain ⟨t, rfl⟩ := r; rfl
  | ref _ => cases r; rfl
  | ty _ => cases r; rfl
theorem pc_isN {j pos'} (ha : PE X a ta) : PC X .Is a (.Constant .none j pos') (tIsN ta) := by
  intro pins s σ H Q I h
  refine thn (ha pins s σ H _ I h) fun v s1 ⟨x, H1, I1, r1, q1⟩ => ?_
  exact Constant_none (is_none_gen ⟨.bl _, H1, I1, by rw [r1.none_iff]; rfl, q1⟩)
/-- a comparison as a value, as a test -/
def tB (t : TE) : TT := fun σ H Q => t σ H fun x H1 => ∃ c, x = .bl c ∧ Q c H1
theorem pt_cmp {op : CmpOp} {t : TE} (h : PC X op a b t) (h1 : behindInMarks op b = false := by first | exact nobehind _ (by decide) (by decide) | rfl) : PT X (.Compare a [op] [b] pos) (tB t) := by
  intro pins s σ H Q I hw
  refine wpAny_isTrue_Compare1 (thn (h pins s σ H _ I hw) fun v s1 h1 => thn h1 fun u s2 h2 => thn h2 fun c s3 ⟨x, H1, I1, r1, q1⟩ => ?_) h1
  obtain ⟨d, rfl, q⟩ := q1
  cases r1
  exact wpAny_truthy_bool ⟨H1, I1, q⟩
/-- an expression whose value is a bool, as a test -/
theorem pt_val {e : Expr} {t : TE} (h : PE X e t) (he : ∀ whole, isTrue e X.env whole = (do let v ← whole; standAt e.pos; holding [v] (truthy v)) := by intro _; rfl) : PT X e (tB t) := by
  intro pins s σ H Q I hw
  refine isTrue_plain (thn (h pins s σ H _ I hw) fun v s1 ⟨x, H1, I1, r1, q1⟩ => ?_) (he _)
  obtain ⟨d, rfl, q⟩ := q1
  cases r1
  exact wpAny_truthy_bool ⟨H1, I1, q⟩

/-! ### and, or, not -/
variable {tA tB' : TT} {rest : List Expr}
def tAnd (t u : TT) : TT := fun σ H Q => t σ H fun c H1 => if c = true then u σ H1 Q else Q false H1
def tOr (t u : TT) : TT := fun σ H Q => t σ H fun c H1 => if c = true then Q true H1 else u σ H1 Q
def tNot (t : TT) : TT := fun σ H Q => t σ H fun c H1 => Q (!c) H1
theorem pw_or1 (ha : PT X a tA) : PW X (.BoolOp .Or [a] pos) tA := by
  intro wh pins s σ H Q I h
  refine isTrue_or (thn (ha pins s σ H Q I h) fun c s1 e => ?_)
  cases c with
  | false => exact isTrue_or_nil e
  | true => exact e
theorem pw_or (ha : PT X a tA) (hb : PW X (.BoolOp .Or (b :: rest) pos) tB') : PW X (.BoolOp .Or (a :: b :: rest) pos) (tOr tA tB') := by
  intro wh pins s σ H Q I h
  refine isTrue_or (thn (ha pins s σ H _ I h) fun c s1 ⟨H1, I1, q1⟩ => ?_)
  cases c with
  | true => exact ⟨H1, I1, q1⟩
  | false => exact hb wh pins s1 σ H1 Q I1 q1
theorem pt_not (ha : PT X a tA) : PT X (.UnaryOp .Not a pos) (tNot tA) := by
  intro pins s σ H Q I h
  exact isTrue_not (ha pins s σ H (fun c H1 => Q (!c) H1) I h)
/-- .. as values (bools) -/
def tAndV (ta tb : TE) : TE := fun σ H Q => ta σ H fun x H1 => ∃ c, x = .bl c ∧ if c = true then tb σ H1 Q else Q (.bl false) H1
def tOrV (ta tb : TE) : TE := fun σ H Q => ta σ H fun x H1 => ∃ c, x = .bl c ∧ if c = true then Q (.bl true) H1 else tb σ H1 Q
def tNotV (ta : TE) : TE := fun σ H Q => ta σ H fun x H1 => ∃ c, x = .bl c ∧ Q (.bl (!c)) H1
theorem pe_one {op} {t : TE} (h : PE X a t) : PE X (.BoolOp op [a] pos) t := fun pins s σ H Q I hw => BoolOp_one (h pins s σ H Q I hw)
theorem pe_and (ha : PE X a ta) (hb : PE X (.BoolOp .And (b :: rest) pos) tb) : PE X (.BoolOp .And (a :: b :: rest) pos) (tAndV ta tb) := by
  intro pins s σ H Q I h
  refine BoolOp_and (thn (ha pins s σ H _ I h) fun v s1 ⟨x, H1, I1, r1, q1⟩ => ?_)
  obtain ⟨c, rfl, q1⟩ := q1
  cases r1
  refine wpAny_truthy_bool ?_
  cases c with
  | true => exact hb pins s1 σ H1 Q I1 q1
  | false => exact ⟨.bl false, H1, I1, rfl, q1⟩
theorem pe_not (ha : PE X a ta) : PE X (.UnaryOp .Not a pos) (tNotV ta) := by
  intro pins s σ H Q I h
  refine UnaryOp_ (thn (ha pins s σ H _ I h) fun v s1 ⟨x, H1, I1, r1, q1⟩ => ?_)
  obtain ⟨c, rfl, q1⟩ := q1
  cases r1
  exact not_of (wpAny_truthy_bool ⟨.bl (!c), H1, I1, rfl, q1⟩)
/-- a if t else b -/
def tIf (t : TT) (ta tb : TE) : TE := fun σ H Q => t σ H fun c H1 => if c = true then ta σ H1 Q else tb σ H1 Q
theorem pe_ifExp {c : Expr} (hc : PT X c tA) (ha : PE X a ta) (hb : PE X b tb) : PE X (.IfExp c a b pos) (tIf tA ta tb) := by
  intro pins s σ H Q I h
  refine wpAny_IfExp (thn (hc pins s σ H _ I h) fun d s1 ⟨H1, I1, q1⟩ => ?_)
  cases d with
  | true => exact ha pins s1 σ H1 Q I1 q1
  | false => exact hb pins s1 σ H1 Q I1 q1
end
end L2

namespace L2
open PySem PySem.Spec PyProof.Rows

/-! ### a list, a tuple that is read: tracked, frozen, or an object of the module -/
def SqL (K : PySem.W.Frag) (H : Hp) (a : Addr) (xs : List V) : Prop :=
  Rd H a (.lst xs) ∨
    ∃ (o : Obj) (its : Array Value) (n : Nat), K.lookup a = some o ∧ o.cls = .type "list" ∧ o.dict = none ∧ o.data = .seq its n ∧ its.size ≤ sizeLine ∧ Vals xs its.toList
def SqT (K : PySem.W.Frag) (H : Hp) (a : Addr) (xs : List V) : Prop :=
  Rd H a (.tup xs) ∨
    ∃ (o : Obj) (its : Array Value) (n : Nat), K.lookup a = some o ∧ o.cls = .type "tuple" ∧ o.data = .seq its n ∧ its.size ≤ sizeLine ∧ Vals xs its.toList
def absV : Value → Option V
  | .none => some .non
  | .bool b => some (.bl b)
  | .int i _ => some (.int i)
  | .str x _ => some (.str x)
  | .bytes b _ => some (.byt b)
  | .float b _ => some (.flt b)
  | .ref a => some (.ref a)
  | .type n => some (.ty n)
  | _ => none
theorem RelV.abs {x : V} {u : Value} (r : RelV x u) : absV u = some x := by
  cases x with
  | non => cases r; rfl
  | bl _ => cases r; rfl
  | int _ => obtain ⟨t, rfl⟩ := r; rfl
  | str _ => obtain ⟨t, rfl⟩ := r; rfl
  | byt _ => obtain ⟨t, rfl⟩ := r; rfl
  | flt _ => obtain ⟨t, rfl⟩ := r; rfl
  | ref _ => cases r; rfl
  | ty _ => cases r; rfl
theorem RelV.inj {x y : V} {u : Value} (r : RelV x u) (q : RelV y u) : x = y := Option.some.inj (r.abs.symm.trans q.abs)
theorem Vals.inj : ∀ {xs ys : List V} {us : List Value}, Vals xs us → Vals ys us → xs = ys
  | _, _, _, .nil, .nil => rfl
  | _, _, _, .cons r t, .cons r' t' => by rw [r.inj r', Vals.inj t t']
section
variable {X : Cx} {pins : List (Addr × Obj)} {σ : St} {H : Hp} {s : Shared} {a : Addr} {xs ys : List V}
theorem SqL.of {K : PySem.W.Frag} (h : H a = some (.lst xs)) : SqL K H a xs := .inl (.inl h)
theorem SqT.of {K : PySem.W.Frag} (h : H a = some (.tup xs)) : SqT K H a xs := .inl (.inl h)
theorem Inv.list (I : Inv X pins σ H s) (h : SqL X.K H a xs) : ∃ its : List Value, Vals xs its ∧ PlainL s.heap a its.toArray ∧ xs.length ≤ sizeLine := by
  rcases h with h | ⟨o, its, n, hk, hc, hd, hs, hz, r⟩
  · obtain ⟨z, its, n, r, e⟩ := h.ok I.hok
    exact ⟨its, r, ⟨_, n, e, rfl, rfl, rfl⟩, z⟩
  · refine ⟨its.toList, r, ⟨o, n, I.kIn a o hk, hc, hd, by simpa using hs⟩, ?_⟩
    have e := r.length
    simp only [Array.length_toList] at e
    omega
theorem Inv.tuple (I : Inv X pins σ H s) (h : SqT X.K H a xs) : ∃ its : List Value, Vals xs its ∧ IsTup s.heap a its.toArray ∧ xs.length ≤ sizeLine := by
  rcases h with h | ⟨o, its, n, hk, hc, hs, hz, r⟩
  · obtain ⟨z, its, r, p⟩ := h.ok I.hok
    exact ⟨its, r, p, z⟩
  · refine ⟨its.toList, r, ⟨o, I.kIn a o hk, hc, n, by simpa using hs⟩, ?_⟩
    have e := r.length
    simp only [Array.length_toList] at e
    omega
theorem Inv.list_inj (I : Inv X pins σ H s) (h : SqL X.K H a xs) (h' : SqL X.K H a ys) : xs = ys := by
  obtain ⟨its, r, ⟨o, n, e, _, _, d⟩, _⟩ := I.list h
  obtain ⟨its', r', ⟨o', n', e', _, _, d'⟩, _⟩ := I.list h'
  rw [e] at e'; cases e'
  rw [d] at d'
  injection d' with d1 _
  have : its = its' := by simpa using congrArg Array.toList d1
  subst this
  exact r.inj r'
theorem Inv.tuple_inj (I : Inv X pins σ H s) (h : SqT X.K H a xs) (h' : SqT X.K H a ys) : xs = ys := by
  obtain ⟨its, r, ⟨o, e, _, n, d⟩, _⟩ := I.tuple h
  obtain ⟨its', r', ⟨o', e', _, n', d'⟩, _⟩ := I.tuple h'
  rw [e] at e'; cases e'
  rw [d] at d'
  injection d' with d1 _
  have : its = its' := by simpa using congrArg Array.toList d1
  subst this
  exact r.inj r'
end

/-! ### another wish about exceptions -/
abbrev Cx.wish (X : Cx) (E : Value → Shared → Prop) : Cx := { X with xe := E }
/-- no exception leaves -/
abbrev Cx.nox (X : Cx) : Cx := X.wish fun _ _ => False
theorem Cx.Ok.wish {X : Cx} (ok : X.Ok) (E : Value → Shared → Prop) : (X.wish E).Ok :=
  ⟨ok.mod, ok.kind, ok.glob, ok.blt, ok.above, ok.inj, ok.has, ok.cab, ok.hd, ok.frames, ok.stk, ok.exf, ok.bs, ok.bsz, ok.noex, ok.exfs, ok.funs, ok.frf⟩
theorem Cx.Ok.unwish {X : Cx} {E : Value → Shared → Prop} (ok : (X.wish E).Ok) : X.Ok :=
  ⟨ok.mod, ok.kind, ok.glob, ok.blt, ok.above, ok.inj, ok.has, ok.cab, ok.hd, ok.frames, ok.stk, ok.exf, ok.bs, ok.bsz, ok.noex, ok.exfs, ok.funs, ok.frf⟩
section
variable {X : Cx} {pins : List (Addr × Obj)} {σ : St} {H : Hp} {s : Shared} {E : Value → Shared → Prop}
theorem Inv.wish (I : Inv X pins σ H s) (E : Value → Shared → Prop) : Inv (X.wish E) pins σ H s := ⟨I.ok.wish E, I.os, I.bare, I.base, I.loc, I.cell, I.free, I.freeC, I.pin, I.hok, I.len⟩
theorem Inv.unwish (I : Inv (X.wish E) pins σ H s) : Inv X pins σ H s := ⟨I.ok.unwish, I.os, I.bare, I.base, I.loc, I.cell, I.free, I.freeC, I.pin, I.hok, I.len⟩
theorem SP.unwish {D : Ends} {f : Flow} {s' : Shared} (h : SP (X.wish E) pins D f s') : SP X pins D f s' := by
  cases f with
  | next => obtain ⟨σ', H', I, q⟩ := h; exact ⟨σ', H', I.unwish, q⟩
  | brk => obtain ⟨σ', H', I, q⟩ := h; exact ⟨σ', H', I.unwish, q⟩
  | cont => obtain ⟨σ', H', I, q⟩ := h; exact ⟨σ', H', I.unwish, q⟩
  | ret u => obtain ⟨v, σ', H', I, r, q⟩ := h; exact ⟨v, σ', H', I.unwish, r, q⟩
theorem PSs.nox {st : List Stmt} {t : TS} (h : PSs X.nox st t) : PSs X st t := fun pins s σ H D I hw =>
  wpAny_mono (h pins s σ H D (I.wish _) hw) (fun _ _ q => q.unwish) fun _ _ z => False.elim z
end

/-! ### blocks and small statements -/
section
variable {X : Cx} {st : Stmt} {rest : List Stmt} {t u : TS} {e : Expr} {te : TE} {pos : Pos}
def tNext : TS := fun D σ H => D.nx σ H
def tSeq (t u : TS) : TS := fun D σ H => t { D with nx := u D } σ H
theorem pss_nil : PSs X [] tNext := fun _ _ σ H _ I h => wpAny_execs_nil ⟨σ, H, I, h⟩
theorem pss_cons (h1 : PS X st t) (h2 : PSs X rest u) : PSs X (st :: rest) (tSeq t u) := by
  intro pins s σ H D I h
  refine wpAny_execs_cons (thn (h1 pins s σ H { D with nx := u D } I h) fun f s1 q => ?_)
  cases f with
  | next =>
    obtain ⟨σ', H', I', q⟩ := q
    exact h2 pins s1 σ' H' D I' q
  | ret v => exact q
  | brk => exact q
  | cont => exact q
theorem pss_one (h1 : PS X st t) : PSs X [st] t := by
  intro pins s σ H D I h
  refine wpAny_execs_cons (thn (h1 pins s σ H D I h) fun f s1 q => ?_)
  cases f with
  | next => exact wpAny_execs_nil q
  | ret v => exact q
  | brk => exact q
  | cont => exact q
def tBreak : TS := fun D σ H => D.bk σ H
def tCont : TS := fun D σ H => D.ct σ H
theorem ps_continue : PS X (.Continue pos) tCont := fun _ _ σ H _ I h => wpAny_Continue ⟨σ, H, I, h⟩
/-- in a def's body nothing is shown -/
theorem Inv.quiet {pins : List (Addr × Obj)} {σ : St} {H : Hp} {s : Shared} (I : Inv X pins σ H s) : interactive X.env = false := by simp [interactive, I.ok.kind]
/-- an expression whose value is dropped -/
def tDrop (te : TE) : TS := fun D σ H => te σ H fun _ H1 => D.nx σ H1
theorem ps_expr (he : PE X e te) (hs : swapsWith e none pos.line X.env = pure false := by rfl) : PS X (.Expr e pos) (tDrop te) := by
  intro pins s σ H D I h
  exact wpAny_Expr_any (thn (he pins s σ H _ I h) fun v s1 ⟨x, H1, I1, r1, q1⟩ => ⟨σ, H1, I1, q1⟩) I.quiet hs
def tRet (te : TE) : TS := fun D σ H => te σ H D.rt
theorem ps_ret (he : PE X e te) : PS X (.Return (some e) pos) (tRet te) := by
  intro pins s σ H D I h
  exact wpAny_Return_some (thn (he pins s σ H _ I h) fun v s1 ⟨x, H1, I1, r1, q1⟩ => ⟨x, σ, H1, I1, r1, q1⟩)
def tRetN : TS := fun D _ H => D.rt .non H
def tIfS (c : TT) (t u : TS) : TS := fun D σ H => c σ H fun b H1 => if b = true then t D σ H1 else u D σ H1
theorem ps_if {c : Expr} {a b : List Stmt} {tc : TT} (hc : PT X c tc) (ha : PSs X a t) (hb : PSs X b u) : PS X (.If c a b pos) (tIfS tc t u) := by
  intro pins s σ H D I h
  refine wpAny_If (thn (hc pins s σ H _ I h) fun d s1 ⟨H1, I1, q1⟩ => ?_)
  cases d with
  | true => exact ha pins s1 σ H1 D I1 q1
  | false => exact hb pins s1 σ H1 D I1 q1
/-- code that the proof never comes to -/
def tNever : TS := fun _ _ _ => False
theorem pss_never {sts : List Stmt} : PSs X sts tNever := fun _ _ _ _ _ _ h => h.elim
end

/-! ### targets -/
abbrev TG := V → St → Hp → (St → Hp → Prop) → Prop
abbrev TGs := List V → St → Hp → (St → Hp → Prop) → Prop
def PG (X : Cx) (target : Expr) (t : TG) : Prop :=
  ∀ (pins : List (Addr × Obj)) (s : Shared) (σ : St) (H : Hp) (v : V) (u : Value) (Q : St → Hp → Prop), Inv X pins σ H s → RelV v u → t v σ H Q →
    wpAny (model X.prog X.w) X.A (assign target X.env u) (fun _ s' => ∃ σ' H', Inv X pins σ' H' s' ∧ Q σ' H') X.xe s
/-- several targets, one after another -/
def PGs (X : Cx) (ts : List Expr) (t : TGs) : Prop :=
  ∀ (pins : List (Addr × Obj)) (s : Shared) (σ : St) (H : Hp) (vs : List V) (us : List Value) (Q : St → Hp → Prop), Inv X pins σ H s → Vals vs us → t vs σ H Q →
    wpAny (model X.prog X.w) X.A (assignInOrder ((assignEach ts X.env).map (·.2)) us) (fun _ s' => ∃ σ' H', Inv X pins σ' H' s' ∧ Q σ' H') X.xe s
/-- o[i] = v, by values -/
abbrev TSet := V → V → V → Hp → (Hp → Prop) → Prop
def PSet (X : Cx) (t : TSet) : Prop :=
  ∀ (pins : List (Addr × Obj)) (s : Shared) (σ : St) (H : Hp) (o i v : V) (ov iv u : Value) (Q : Hp → Prop), Inv X pins σ H s → RelV o ov → RelV i iv → RelV v u → t o i v H Q →
    wpAny (model X.prog X.w) X.A (setItem ov iv u) (fun _ s' => ∃ H', Inv X pins σ H' s' ∧ Q H') X.xe s
/-- a op= b, by values -/
abbrev TIp := V → V → Hp → VK → Prop
def PIp (X : Cx) (op : Operator) (t : TIp) : Prop :=
  ∀ (pins : List (Addr × Obj)) (s : Shared) (σ : St) (H : Hp) (x y : V) (v u : Value) (Q : VK), Inv X pins σ H s → RelV x v → RelV y u → t x y H Q →
    wpAny (model X.prog X.w) X.A (inplaceOp op v u) (EP X pins σ Q) X.xe s
section
variable {X : Cx} {pos : Pos}
def gName (i : Nat) : TG := fun v σ H Q => Q (σ.set i (some v)) H
theorem pg_name {i : Nat} {x : Str} (hN : X.N.Nodup) (hi : X.N[i]? = some x) (hx : Loc X.env.scope x) (hf : X.fn x = true ∨ X.env.scope.names.lookup x = some .local := by first | exact .inl rfl | exact .inr rfl | assumption) : PG X (.Name x pos) (gName i) := by
  intro pins s σ H v u Q I r h
  exact wpAny_assign_Name (store_ok I hN hi hx r (fun s' I' => ⟨_, H, I', h⟩) hf)
def gNil : TGs := fun vs σ H Q => vs = [] ∧ Q σ H
def gCons (t : TG) (u : TGs) : TGs := fun vs σ H Q => ∃ v r, vs = v :: r ∧ t v σ H fun σ' H' => u r σ' H' Q
theorem pgs_nil : PGs X [] gNil := by
  intro pins s σ H vs us Q I r h
  obtain ⟨e, h⟩ := h
  subst e
  cases r
  exact assignInOrder_nil ⟨σ, H, I, h⟩
theorem pgs_cons {e : Expr} {es : List Expr} {t : TG} {u : TGs} (h1 : PG X e t) (h2 : PGs X es u)
    (hs : (assignEach (e :: es) X.env).map (·.2) = assign e X.env :: (assignEach es X.env).map (·.2) := by rfl) : PGs X (e :: es) (gCons t u) := by
  intro pins s σ H vs us Q I r h
  obtain ⟨v, vr, e1, h⟩ := h
  subst e1
  cases r with
  | cons r rr =>
    rw [hs]
    refine assignInOrder_cons (thn (h1 pins s σ H _ _ _ I r h) fun _ s1 ⟨σ1, H1, I1, q1⟩ => ?_)
    exact h2 pins s1 σ1 H1 _ _ Q I1 rr q1
/-- (a, b, ..) = a tuple of that length -/
def gTup (K : PySem.W.Frag) (n : Nat) (t : TGs) : TG := fun v σ H Q => ∃ a xs, v = .ref a ∧ SqT K H a xs ∧ xs.length = n ∧ t xs σ H Q
theorem pg_tup {es : List Expr} {k : Nat} {t : TGs} {n : Nat} (hc : X.calm = true) (h : PGs X es t)
    (hn : (assignEach es X.env).length = n := by rfl) (hst : (assignEach es X.env).findIdx? (·.1) = none := by rfl) : PG X (.Tuple es k pos) (gTup X.K n t) := by
  intro pins s σ H v u Q I r hw
  obtain ⟨a, xs, e1, hq, hl, hw⟩ := hw
  subst e1
  cases r
  obtain ⟨its, rv, ht, hz⟩ := I.tuple hq
  refine assign_Tuple_tuple (I.ok.hd hc) ht (by simp [hn, ← hl, rv.length]) hst fun h' hx => ?_
  have I1 : Inv X pins σ H { s with heap := h' } := I.kept (t' := s.toks) fun b o e => hx b o (Nat.ne_of_lt (Heap.lt_size e)) e
  exact h pins _ σ H xs _ Q I1 (by simpa using rv) hw
/-- o[i] = .. -/
def gSub (to ti : TE) (t : TSet) : TG := fun v σ H Q => to σ H fun o H1 => ti σ H1 fun i H2 => t o i v H2 fun H3 => Q σ H3
theorem pg_sub {o i : Expr} {to ti : TE} {t : TSet} (ho : PE X o to) (hi : PE X i ti) (hs : PSet X t)
    (ha : ∀ v, assign (.Subscript o i pos) X.env v = (do
      let ov ← holding [v] (eval o X.env)
      let iv ← holding [v, ov] (eval i X.env)
      standAt pos
      holding [v, ov, iv] (setItem ov iv v)
      release [v, ov, iv] []) := by intro _; rfl) : PG X (.Subscript o i pos) (gSub to ti t) := by
  intro pins s σ H v u Q I r h
  rw [ha]
  refine wpAny_bind (wpAny_holding (thn (ho pins s σ H _ I h) fun ov s1 ⟨x, H1, I1, r1, q1⟩ => ?_))
  refine wpAny_bind (wpAny_holding (thn (hi pins s1 σ H1 _ I1 q1) fun iv s2 ⟨y, H2, I2, r2, q2⟩ => ?_))
  refine wpAny_bind (wpAny_standAt (wpAny_bind (wpAny_holding (thn (hs pins s2 σ H2 x y v ov iv u _ I2 r1 r2 r q2) fun _ s3 ⟨H3, I3, q3⟩ => ?_))))
  exact wpAny_release ⟨σ, H3, I3, q3⟩
/-- target = value -/
def tAsg (te : TE) (g : TG) : TS := fun D σ H => te σ H fun x H1 => g x σ H1 D.nx
theorem ps_asg {tg e : Expr} {te : TE} {g : TG} (he : PE X e te) (hg : PG X tg g) (hs : swapsWithSole [tg] e pos.line X.env = pure false := by rfl) (hw : swappedStores [tg] e X.env = pure none := by rfl)
    (h1 : (assignEach [tg] X.env).map (·.2) = [assign tg X.env] := by rfl) : PS X (.Assign [tg] e pos) (tAsg te g) := by
  intro pins s σ H D I h
  refine wpAny_Assign_stores (thn (he pins s σ H _ I h) fun v s1 ⟨x, H1, I1, r1, q1⟩ => ?_) hs hw
  rw [h1]
  exact thn (hg pins s1 σ H1 x v _ I1 r1 q1) fun _ s2 q => q
/-- name = value -/
theorem ps_set {i : Nat} {x : Str} {e : Expr} {te : TE} {pos' : Pos} (hN : X.N.Nodup) (hi : X.N[i]? = some x) (hx : Loc X.env.scope x) (he : PE X e te) (hs : swapsWith e (some (.Name x pos')) pos.line X.env = pure false := by rfl) (hf : X.fn x = true ∨ X.env.scope.names.lookup x = some .local := by first | exact .inl rfl | exact .inr rfl | assumption) :
    PS X (.Assign [.Name x pos'] e pos) (tAsg te (gName i)) := by
  intro pins s σ H D I h
  refine wpAny_Assign_Name (thn (he pins s σ H _ I h) fun v s1 ⟨y, H1, I1, r1, q1⟩ => ?_) hs
  exact store_ok I1 hN hi hx r1 (fun s2 I2 => ⟨_, H1, I2, q1⟩) hf
/-- a, b = x, y with plain local names: stored from the right; the pair itself is not tracked (the opening rows as in PyProof/Rows/TupAssign.lean:23) -/
def tPar (i j : Nat) (ta : TA) : TS := fun D σ H => ta σ H fun vs H1 => ∃ v w, vs = [v, w] ∧ D.nx ((σ.set i (some v)).set j (some w)) H1
theorem ps_par {i j : Nat} {x y : Str} {a b : Expr} {ta : TA} {px py pt : Pos} {kt k2 pt2} (hc : X.calm = true) (hN : X.N.Nodup) (hi : X.N[i]? = some x) (hj : X.N[j]? = some y) (hij : i ≠ j)
    (hx : X.env.scope.names.lookup x = some .local) (hy : X.env.scope.names.lookup y = some .local) (ha : PA X [a, b] ta)
    (hw : swappedStores [.Tuple [.Name x px, .Name y py] kt pt] (.Tuple [a, b] k2 pt2) X.env = pure (some [x, y]))
    (hs : swapsWithSole [.Tuple [.Name x px, .Name y py] kt pt] (.Tuple [a, b] k2 pt2) pos.line X.env = pure false := by rfl) :
    PS X (.Assign [.Tuple [.Name x px, .Name y py] kt pt] (.Tuple [a, b] k2 pt2) pos) (tPar i j ta) := by
  intro pins s σ H D I h
  rw [exec_Assign_arm]
  refine wpAny_bind (wpAny_standAt ?_)
  rw [hs]
  refine wpAny_bind (wpAny_pure ?_)
  rw [if_neg (by decide)]
  refine wpAny_bind (Tuple_ (thn (ha _ pins s σ H _ I h) fun us s1 ⟨vs, H1, I1, r1, q1⟩ => ?_))
  obtain ⟨v, w, e1, q1⟩ := q1
  subst e1
  obtain ⟨u1, u2, rfl, rv, rw'⟩ : ∃ u1 u2, us = [u1, u2] ∧ RelV v u1 ∧ RelV w u2 := by
    cases r1 with
    | cons p q =>
      cases q with
      | cons p' q' =>
        cases q'
        exact ⟨_, _, rfl, p, p'⟩
  refine wpAny_newObj_type ?_ (by show 2 ≤ sizeLine; decide)
  have I2 : Inv X pins σ H1 { s1 with heap := s1.heap.push { cls := .type "tuple", data := .seq [u1, u2].toArray } } := I1.kept (t' := s1.toks) fun b o e => Heap.get?_push_of_some _ e
  rw [hw]
  refine wpAny_bind (wpAny_pure ?_)
  show wpAny (model X.prog X.w) X.A (do rule "assign.swapped-stores"; let items ← unpackItems (.ref s1.heap.objs.size) 2 none; assignInOrder [fun v => bindName X.env y v, fun v => bindName X.env x v] items.reverse; pure Flow.next) _ _ _
  refine wpAny_bind (wpAny_rule (wpAny_bind (unpackItems_tuple (items := #[u1, u2]) (I.ok.hd hc) (IsTup.new s1.heap _) fun h' hx' => ?_)))
  have I3 := I2.kept (h' := h') (t' := s1.toks) fun b o e => hx' b o (Nat.ne_of_lt (Heap.lt_size e)) e
  show wpAny _ _ (assignInOrder [fun v => bindName X.env y v, fun v => bindName X.env x v] [u2, u1] >>= fun _ => pure Flow.next) _ _ _
  refine wpAny_bind (assignInOrder_cons (wpAny_bindName (store_ok I3 hN hj (.inl hy) rw' (fun s2 I4 => ?_) (.inr hy))))
  refine assignInOrder_cons (wpAny_bindName (store_ok I4 hN hi (.inl hx) rv (fun s3 I5 => assignInOrder_nil (wpAny_pure ?_)) (.inr hx)))
  rw [List.set_comm _ _ (Ne.symm hij)] at I5
  exact ⟨_, H1, I5, q1⟩
/-- name op= e -/
def tAug (i : Nat) (te : TE) (ti : TIp) : TS := fun D σ H => ∃ x, σ[i]? = some (some x) ∧ te σ H fun y H1 => ti x y H1 fun z H2 => D.nx (σ.set i (some z)) H2
theorem ps_aug {i : Nat} {x : Str} {e : Expr} {te : TE} {op : Operator} {ti : TIp} {pos' : Pos} (hN : X.N.Nodup) (hi : X.N[i]? = some x) (hx : Loc X.env.scope x) (he : PE X e te) (ho : PIp X op ti) (hf : X.fn x = true ∨ X.env.scope.names.lookup x = some .local := by first | exact .inl rfl | exact .inr rfl | assumption) :
    PS X (.AugAssign (.Name x pos') op e pos) (tAug i te ti) := by
  intro pins s σ H D I h
  obtain ⟨v, e1, h⟩ := h
  obtain ⟨m, hn, hl⟩ := I.loc
  have vis : Vis X.env.scope x := by rcases hx with k | k; exact .inl k; exact .inr (.inl k)
  obtain ⟨u, r, l⟩ := hl i x v hi e1 vis
  refine wpAny_AugAssign_Name ?_
  have go : wpAny (model X.prog X.w) X.A (eval e X.env) (fun w s₂ => wpAny (model X.prog X.w) X.A (inplaceOp op u w) (fun r s₃ => wpAny (model X.prog X.w) X.A (storeName X.env x r) (fun _ => SP X pins D .next) X.xe s₃) X.xe s₂) X.xe s := by
    refine thn (he pins s σ H _ I h) fun w s1 ⟨y, H1, I1, r1, q1⟩ => ?_
    refine thn (ho pins s1 σ H1 v y u w _ I1 r r1 q1) fun z s2 ⟨zv, H2, I2, r2, q2⟩ => ?_
    exact store_ok I2 hN hi hx r2 (fun s3 I3 => ⟨_, H2, I3, q2⟩) hf
  rcases l with ⟨hk, hm⟩ | ⟨hk, c, hc, hcell⟩
  · exact wpAny_loadName_local I.ok.kind hk hn hm go
  · rcases hk with hk | hk
    · exact wpAny_loadName_cell I.ok.kind hk hc hcell go
    · rcases hx with k | k
      · have : X.env.scope.names.lookup x = some .free := hk
        rw [k] at this; cases this
      · have : X.env.scope.names.lookup x = some .free := hk
        rw [k] at this; cases this
/-- o[i] op= e -/
def tAugS (to ti te : TE) (tget : V → V → Hp → VK → Prop) (tip : TIp) (tset : TSet) : TS := fun D σ H => to σ H fun o H1 => ti σ H1 fun i H2 => tget o i H2 fun x H3 => te σ H3 fun y H4 => tip x y H4 fun z H5 => tset o i z H5 fun H6 => D.nx σ H6
/-- o[i], by values -/
def PGet (X : Cx) (t : V → V → Hp → VK → Prop) : Prop :=
  ∀ (pins : List (Addr × Obj)) (s : Shared) (σ : St) (H : Hp) (o i : V) (ov iv : Value) (Q : VK), Inv X pins σ H s → RelV o ov → RelV i iv → t o i H Q →
    wpAny (model X.prog X.w) X.A (getItem ov iv) (EP X pins σ Q) X.xe s
/-- ints -/
def ipI (f : Int → Int → Int) : TIp := fun x y H Q => ∃ i j, x = .int i ∧ y = .int j ∧ Q (.int (f i j)) H
theorem ip_add : PIp X .Add (ipI fun i j => i + j) := by
  intro pins s σ H x y v u Q I r1 r2 h
  obtain ⟨i, j, e1, e2, q⟩ := h
  subst e1; subst e2
  obtain ⟨t, rfl⟩ := r1
  obtain ⟨t', rfl⟩ := r2
  exact iadd_int ⟨.int _, H, I.tok _, ⟨_, rfl⟩, q⟩
end

/-! ### while -/
section
variable {X : Cx} {pos : Pos}
/-- the invariant W with its measure -/
def tWhile (c : TT) (tb : TS) : TS := fun D σ H => ∃ W : Nat → St → Hp → Prop, (∃ m, W m σ H) ∧ ∀ m σ H, W m σ H →
  c σ H fun b H1 => if b = true then ∃ N : St → Hp → Prop, (∀ σ' H', N σ' H' → ∃ m', m' < m ∧ W m' σ' H') ∧ tb { D with nx := N, ct := N, bk := D.nx } σ H1 else D.nx σ H1
theorem ps_while {c : Expr} {body : List Stmt} {tc : TT} {tb : TS} (hp : PassesOwn (model X.prog X.w) X.A X.env X.xe) (hc : PT X c tc) (hb : PSs X body tb) : PS X (.While c body [] pos) (tWhile tc tb) := by
  intro pins s σ H D I h
  obtain ⟨W, ⟨m0, w0⟩, turn⟩ := h
  refine wpAny_While (codeAny_whileLoop (fun n s' => ∃ σ' H', Inv X pins σ' H' s' ∧ W n σ' H') ?_ m0 ⟨σ, H, I, w0⟩)
  rintro n s1 ⟨σ1, H1, I1, w1⟩
  refine wpAny_passesOwn hp (thn (hc pins s1 σ1 H1 _ I1 (turn n σ1 H1 w1)) fun b s2 ⟨H2, I2, q2⟩ => ?_)
  cases b with
  | true =>
    obtain ⟨N, hN, q2⟩ := q2
    rw [if_pos rfl]
    refine wpAny_passesOwn hp (thn (hb pins s2 σ1 H2 _ I2 q2) fun f s3 q3 => ?_)
    cases f with
    | next =>
      obtain ⟨σ3, H3, I3, n3⟩ := q3
      obtain ⟨m', hm, w3⟩ := hN σ3 H3 n3
      exact ⟨m', hm, σ3, H3, I3, w3⟩
    | cont =>
      obtain ⟨σ3, H3, I3, n3⟩ := q3
      obtain ⟨m', hm, w3⟩ := hN σ3 H3 n3
      exact ⟨m', hm, σ3, H3, I3, w3⟩
    | brk => exact q3
    | ret v => exact q3
  | false =>
    rw [if_neg Bool.false_ne_true]
    exact wpAny_execs_nil ⟨σ1, H2, I2, q2⟩
end

/-! ### what a loop or a comprehension walks -/
/-- at turn i: it yields x (the heap may grow), or it stops -/
structure It where
  go : Nat → Hp → Prop
  yld : Nat → Hp → V → Hp → Prop
  stop : Nat → Hp → Prop
/-- the iterator's own objects may turn: they are not the frame's, not pinned, younger than the entry (or a comprehension's own) -/
def FpOk (X : Cx) (pins : List (Addr × Obj)) (H : Hp) (b : Addr) : Prop :=
  H b = none ∧ b ≠ X.env.locals ∧ b ∉ X.fs ∧ (b ∈ X.ex ∨ X.s₀.heap.objs.size ≤ b) ∧ (∀ x c, X.env.cells.lookup x = some c → c ≠ b) ∧ ∀ p ∈ X.pn ++ pins, p.1 ≠ b
theorem Inv.fpOk {X : Cx} {pins : List (Addr × Obj)} {σ : St} {H H' : Hp} {s : Shared} {b : Addr} (I : Inv X pins σ H s) (hb : s.heap.objs.size ≤ b) (hn : H' b = none) : FpOk X pins H' b := by
  refine ⟨hn, Nat.ne_of_gt (Nat.lt_of_lt_of_le I.lt hb), I.nofs hb, .inr (Nat.le_trans I.sz hb), fun x c e z => ?_, fun p hp z => ?_⟩
  · obtain ⟨v, q⟩ := I.cell x c e
    exact absurd (Nat.lt_of_lt_of_le q.lt (by rw [z]; exact hb)) (Nat.lt_irrefl _)
  · exact absurd (Nat.lt_of_lt_of_le (Heap.lt_size (I.pin p hp).1) (by rw [z]; exact hb)) (Nat.lt_irrefl _)
structure Turn (P : Program) (w : World) (K : PySem.W.Frag) (tg : Expr) (J : It) (fp : List Addr) (it : Addr) (tn : Nat → Heap → Prop) : Prop where
  mem : it ∈ fp
  obj : ∀ i h, tn i h → ∀ b ∈ fp, ∃ o, h.get? b = some o ∧ ∀ v, o.data ≠ .cell v
  keep : ∀ i h h', tn i h → (∀ b ∈ fp, ∀ o, h.get? b = some o → h'.get? b = some o) → tn i h'
  item : ∀ (X : Cx), X.prog = P → X.w = w → X.K = K → X.calm = true → ∀ (i : Nat) (pins : List (Addr × Obj)) (s : Shared) (σ : St) (H : Hp) (E : Value → Shared → Prop), Inv X pins σ H s → (∀ b ∈ fp, FpOk X pins H b) → tn i s.heap → J.go i H →
    wpAny (model P w) X.A (pyNext (.ref it)) (fun r s1 => ∃ u, r = some u ∧
      wpAny (model P w) X.A (letOwnedTupleGo tg (.ref it) u) (fun _ s2 => ∃ x H', Inv X pins σ H' s2 ∧ RelV x u ∧ J.yld i H x H' ∧ tn (i + 1) s2.heap ∧ ∀ b ∈ fp, H' b = none) E s1) E s
  done : ∀ (X : Cx), X.prog = P → X.w = w → X.K = K → X.calm = true → ∀ (i : Nat) (pins : List (Addr × Obj)) (s : Shared) (σ : St) (H : Hp) (E : Value → Shared → Prop), Inv X pins σ H s → (∀ b ∈ fp, FpOk X pins H b) → tn i s.heap → J.stop i H →
    wpAny (model P w) X.A (pyNext (.ref it)) (fun r s1 => r = none ∧ Inv X pins σ H s1) E s
  self : ∀ (A : Around) (i : Nat) (s : Shared) (Q : Value → Shared → Prop) (E : Value → Shared → Prop), tn i s.heap → Q (.ref it) s → wpAny (model P w) A (pyIter (.ref it)) Q E s
abbrev TI := St → Hp → (It → Hp → Prop) → Prop
/-- an iterator has come -/
def PIE (X : Cx) (pins : List (Addr × Obj)) (σ : St) (tg : Expr) (R : It → Hp → Prop) (itv : Value) (s2 : Shared) : Prop :=
  ∃ (it : Addr) (fp : List Addr) (tn : Nat → Heap → Prop) (J : It) (H' : Hp), itv = .ref it ∧ Inv X pins σ H' s2 ∧ Turn X.prog X.w X.K tg J fp it tn ∧ tn 0 s2.heap ∧ (∀ b ∈ fp, FpOk X pins H' b) ∧ R J H'
def PI (X : Cx) (tg iter : Expr) (wi : TI) : Prop :=
  ∀ (pins : List (Addr × Obj)) (s : Shared) (σ : St) (H : Hp) (R : It → Hp → Prop), Inv X pins σ H s → wi σ H R →
    wpAny (model X.prog X.w) X.A (eval iter X.env) (fun v s1 => wpAny (model X.prog X.w) X.A (pyIter v) (PIE X pins σ tg R) X.xe s1) X.xe s

/-- the step ahead of the store is nothing for an iterator that keeps no tuple -/
theorem go_of {M : Model} {A : Around} {E : Value → Shared → Prop} {s : Shared} {tg : Expr} {it : Addr} {u : Value} {o : Obj} {n : String} {vs : Array Value} {Q : Unit → Shared → Prop} (ho : s.heap.get? it = some o) (hc : o.cls = .type n) (hd : o.data = .fields vs)
    (hn : ["enumerate", "zip", "dict_itemiterator", "dict_reverseitemiterator", "odict_iterator", "itertools.zip_longest", "itertools.pairwise"].contains n = false) (hQ : Q () s) : wpAny M A (letOwnedTupleGo tg (.ref it) u) Q E s := by
  unfold letOwnedTupleGo
  cases tg <;> first
    | exact wpAny_pure hQ
    | (cases u <;> first
        | exact wpAny_pure hQ
        | (refine wpAny_bind (wpAny_load ho ?_)
           rw [hc, hd]
           show wpAny M A (if (["enumerate", "zip", "dict_itemiterator", "dict_reverseitemiterator", "odict_iterator", "itertools.zip_longest", "itertools.pairwise"].contains n && vs[0]? == some (rawInt _)) = true then _ else _) Q E s
           rw [if_neg (by intro h; rw [hn, Bool.false_and] at h; cases h)]
           exact wpAny_pure hQ))

/-- the list at a, as it stands at each turn (a loop may append to it) -/
def Itl (K : PySem.W.Frag) (a : Addr) : It :=
  ⟨fun i H => ∃ xs x, SqL K H a xs ∧ xs[i]? = some x, fun i H x H' => H' = H ∧ ∀ xs, SqL K H a xs → xs[i]? = some x, fun i H => ∃ xs, SqL K H a xs ∧ xs.length ≤ i⟩
def Itt (K : PySem.W.Frag) (a : Addr) : It :=
  ⟨fun i H => ∃ xs x, SqT K H a xs ∧ xs[i]? = some x, fun i H x H' => H' = H ∧ ∀ xs, SqT K H a xs → xs[i]? = some x, fun i H => ∃ xs, SqT K H a xs ∧ xs.length ≤ i⟩
/-- lo, lo + 1, .. (n of them) -/
def Itr (lo : Int) (n : Nat) : It := ⟨fun i _ => i < n, fun i H x H' => H' = H ∧ x = .int (lo + i), fun i _ => n ≤ i⟩
theorem turn_list {P : Program} {w : World} {K : PySem.W.Frag} {tg : Expr} (a it : Addr) : Turn P w K tg (Itl K a) [it] it (fun i h => h.IsListIter it a i) where
  mem := by simp
  obj := fun i h st b hb => by
    have e : b = it := by simpa using hb
    subst e
    obtain ⟨o, e, c, d⟩ := st
    exact ⟨o, e, fun v z => by rw [d] at z; cases z⟩
  keep := fun i h h' st k => st.at fun o e => k it (by simp) o e
  item := by
    intro X hP hw hK hc i pins s σ H E I hf st hg
    subst hP hw hK
    obtain ⟨xs, x, hq, hx⟩ := hg
    obtain ⟨its, rv, p, hz⟩ := I.list hq
    obtain ⟨u, hu, ru⟩ := rv.get hx
    obtain ⟨f0, f1, f2, f3, f4, f5⟩ := hf it (by simp)
    refine wpAny_pyNext_list_item st p.isList (x := u) (by simpa using hu) fun h' st' sb => ?_
    have I1 : Inv X pins σ H { s with heap := h' } := I.turned (t' := s.toks) (fun b o hb e => (sb.2 b hb).trans e) f0 f1 f3 f4 f5
    obtain ⟨o, e, c, d⟩ := id st'
    exact ⟨u, rfl, go_of (s := { s with heap := h' }) e c d (by decide) ⟨x, H, I1, ru, ⟨rfl, fun ys hy => by rw [I.list_inj hy hq]; exact hx⟩, st', fun b hb => (hf b hb).1⟩⟩
  done := by
    intro X hP hw hK hc i pins s σ H E I hf st hg
    subst hP hw hK
    obtain ⟨xs, hq, hx⟩ := hg
    obtain ⟨its, rv, p, hz⟩ := I.list hq
    obtain ⟨f0, f1, f2, f3, f4, f5⟩ := hf it (by simp)
    have hl := rv.length
    exact wpAny_pyNext_list_end (I.ok.hd hc) st p.isList (by simp; omega) fun h' eb => ⟨rfl, I.turned (t' := s.toks) (fun b o hb e => eb b o hb e) f0 f1 f3 f4 f5⟩
  self := fun _ _ _ _ _ st h => wpAny_pyIter_listiter st h
theorem turn_tuple {P : Program} {w : World} {K : PySem.W.Frag} {tg : Expr} (a it : Addr) : Turn P w K tg (Itt K a) [it] it (fun i h => h.IsTupleIter it a i) where
  mem := by simp
  obj := fun i h st b hb => by
    have e : b = it := by simpa using hb
    subst e
    obtain ⟨o, e, c, d⟩ := st
    exact ⟨o, e, fun v z => by rw [d] at z; cases z⟩
  keep := fun i h h' st k => st.at fun o e => k it (by simp) o e
  item := by
    intro X hP hw hK hc i pins s σ H E I hf st hg
    subst hP hw hK
    obtain ⟨xs, x, hq, hx⟩ := hg
    obtain ⟨its, rv, p, hz⟩ := I.tuple hq
    obtain ⟨u, hu, ru⟩ := rv.get hx
    obtain ⟨f0, f1, f2, f3, f4, f5⟩ := hf it (by simp)
    refine wpAny_pyNext_tuple_item st (show s.heap.IsTuple a its.toArray from p) (x := u) (by simpa using hu) fun h' st' sb => ?_
    have I1 : Inv X pins σ H { s with heap := h' } := I.turned (t' := s.toks) (fun b o hb e => (sb.2 b hb).trans e) f0 f1 f3 f4 f5
    obtain ⟨o, e, c, d⟩ := id st'
    exact ⟨u, rfl, go_of (s := { s with heap := h' }) e c d (by decide) ⟨x, H, I1, ru, ⟨rfl, fun ys hy => by rw [I.tuple_inj hy hq]; exact hx⟩, st', fun b hb => (hf b hb).1⟩⟩
  done := by
    intro X hP hw hK hc i pins s σ H E I hf st hg
    subst hP hw hK
    obtain ⟨xs, hq, hx⟩ := hg
    obtain ⟨its, rv, p, hz⟩ := I.tuple hq
    obtain ⟨f0, f1, f2, f3, f4, f5⟩ := hf it (by simp)
    have hl := rv.length
    exact wpAny_pyNext_tuple_end (I.ok.hd hc) st (show s.heap.IsTuple a its.toArray from p) (by simp; omega) fun h' eb => ⟨rfl, I.turned (t' := s.toks) (fun b o hb e => eb b o hb e) f0 f1 f3 f4 f5⟩
  self := fun _ _ _ _ _ st h => wpAny_pyIter_tupleiter st h
theorem turn_range {P : Program} {w : World} {K : PySem.W.Frag} {tg : Expr} (it : Addr) (lo : Int) (n : Nat) : Turn P w K tg (Itr lo n) [it] it (fun i h => IsRangeIter h it (lo + (i : Nat) * 1) ((n : Int) - (i : Nat)) 1) where
  mem := by simp
  obj := fun i h st b hb => by
    have e : b = it := by simpa using hb
    subst e
    exact ⟨_, st, fun v z => by
      have z' : Data.fields _ = Data.cell v := z
      cases z'⟩
  keep := fun i h h' st k => k it (by simp) _ st
  item := by
    intro X hP hw hK hc i pins s σ H E I hf st hg
    subst hP hw hK
    obtain ⟨f0, f1, f2, f3, f4, f5⟩ := hf it (by simp)
    have W := Walks.range (prog := X.prog) (w := X.w) (I.ok.hd hc) it lo 1 n
    refine W.item i s _ _ hg st fun v h' tk hv st' kk => ?_
    obtain ⟨t, rfl⟩ := hv
    have I1 : Inv X pins σ H { s with heap := h', toks := tk } := I.turned (fun b o hb e => kk b o (by simpa using hb) e) f0 f1 f3 f4 f5
    refine ⟨_, rfl, go_of (s := { s with heap := h', toks := tk }) (n := "range_iterator") st' rfl rfl (by decide) ⟨.int (lo + i), H, I1, ⟨t, ?_⟩, ⟨rfl, rfl⟩, st', fun b hb => (hf b hb).1⟩⟩
    rw [Int.mul_one]
  done := by
    intro X hP hw hK hc i pins s σ H E I hf st hg
    subst hP hw hK
    obtain ⟨f0, f1, f2, f3, f4, f5⟩ := hf it (by simp)
    exact wpAny_pyNext_range_end (I.ok.hd hc) st (by have : n ≤ i := hg; omega) fun h' eb => ⟨rfl, I.turned (t' := s.toks) (fun b o hb e => eb b o hb e) f0 f1 f3 f4 f5⟩
  self := fun _ _ _ _ _ st h => wpAny_pyIter_rangeiter st h
end L2

namespace L2
open PySem PySem.Spec PyProof.Rows
section
variable {X : Cx} {tg : Expr}
def iList (K : PySem.W.Frag) (tl : TE) : TI := fun σ H R => tl σ H fun x H1 => ∃ a, x = .ref a ∧ (∃ xs, SqL K H1 a xs) ∧ R (Itl K a) H1
def iTup (K : PySem.W.Frag) (tl : TE) : TI := fun σ H R => tl σ H fun x H1 => ∃ a, x = .ref a ∧ (∃ xs, SqT K H1 a xs) ∧ R (Itt K a) H1
theorem pi_list {l : Expr} {tl : TE} (hl : PE X l tl) : PI X tg l (iList X.K tl) := by
  intro pins s σ H R I h
  refine thn (hl pins s σ H _ I h) fun v s1 ⟨x, H1, I1, r1, q1⟩ => ?_
  obtain ⟨a, e, ⟨xs, hq⟩, q⟩ := q1
  subst e
  cases r1
  obtain ⟨its, rv, p, hz⟩ := I1.list hq
  refine wpAny_pyIter_list p.isList ?_
  refine ⟨s1.heap.objs.size, [s1.heap.objs.size], _, _, H1, rfl, I1.kept (t' := s1.toks) fun b o e => Heap.get?_push_of_some _ e, turn_list a _, ⟨_, Heap.get?_push_size _ rfl, rfl, rfl⟩, fun b hb => ?_, q⟩
  have e : b = s1.heap.objs.size := by simpa using hb
  subst e
  exact I1.fpOk (Nat.le_refl _) (I1.hok.fresh (Nat.le_refl _))
theorem pi_tup {l : Expr} {tl : TE} (hl : PE X l tl) : PI X tg l (iTup X.K tl) := by
  intro pins s σ H R I h
  refine thn (hl pins s σ H _ I h) fun v s1 ⟨x, H1, I1, r1, q1⟩ => ?_
  obtain ⟨a, e, ⟨xs, hq⟩, q⟩ := q1
  subst e
  cases r1
  obtain ⟨its, rv, p, hz⟩ := I1.tuple hq
  refine wpAny_pyIter_tuple (show s1.heap.IsTuple a its.toArray from p) ?_
  refine ⟨s1.heap.objs.size, [s1.heap.objs.size], _, _, H1, rfl, I1.kept (t' := s1.toks) fun b o e => Heap.get?_push_of_some _ e, turn_tuple a _, ⟨_, Heap.get?_push_size _ rfl, rfl, rfl⟩, fun b hb => ?_, q⟩
  have e : b = s1.heap.objs.size := by simpa using hb
  subst e
  exact I1.fpOk (Nat.le_refl _) (I1.hok.fresh (Nat.le_refl _))
/-- a range object just made, walked -/
theorem range_it {pins : List (Addr × Obj)} {σ : St} {H : Hp} {s : Shared} {R : It → Hp → Prop} {E : Value → Shared → Prop} {lo hi : Int} {t u v : Tok} {tk : Nat} (I : Inv X pins σ H s) (h1 : -(2 ^ 62) ≤ lo) (h2 : lo < 2 ^ 62) (h3 : -(2 ^ 62) ≤ hi) (h4 : hi < 2 ^ 62)
    (q : R (Itr lo (hi - lo).toNat) H) : wpAny (model X.prog X.w) X.A (pyIter (.ref s.heap.objs.size)) (PIE X pins σ tg R) E { s with heap := s.heap.push { cls := .type "range", data := .fields #[.int lo t, .int hi u, .int 1 v] }, toks := tk } := by
  refine wpAny_pyIter_range (IsRange.new ..) (small_one h1 h2 h3 h4) ?_
  have I1 : Inv X pins σ H { s with heap := s.heap.push { cls := .type "range", data := .fields #[.int lo t, .int hi u, .int 1 v] }, toks := tk } := I.kept fun b o e => Heap.get?_push_of_some _ e
  refine ⟨(s.heap.push { cls := .type "range", data := .fields #[.int lo t, .int hi u, .int 1 v] }).objs.size, [(s.heap.push { cls := .type "range", data := .fields #[.int lo t, .int hi u, .int 1 v] }).objs.size], _, _, H, rfl,
    I1.kept (t' := tk) fun b o e => Heap.get?_push_of_some _ e, turn_range _ lo (hi - lo).toNat, ?_, fun b hb => ?_, q⟩
  · have e1 : lo + ((0 : Nat) : Int) * 1 = lo := by simp
    have e2 : (((hi - lo).toNat : Nat) : Int) - ((0 : Nat) : Int) = Builtin.Range.rangeSize lo hi 1 := by rw [rangeSize_one]; split <;> omega
    show IsRangeIter _ _ (lo + ((0 : Nat) : Int) * 1) ((((hi - lo).toNat : Nat) : Int) - ((0 : Nat) : Int)) 1
    rw [e1, e2]
    exact Heap.get?_push_size _ rfl
  · have e : b = (s.heap.push { cls := .type "range", data := .fields #[.int lo t, .int hi u, .int 1 v] }).objs.size := by simpa using hb
    subst e
    exact I1.fpOk (Nat.le_refl _) (I1.hok.fresh (Nat.le_refl _))
def iRng1 (ta : TA) : TI := fun σ H R => ta σ H fun vs H1 => ∃ j : Int, vs = [.int j] ∧ -(2 ^ 62) ≤ j ∧ j < 2 ^ 62 ∧ R (Itr 0 j.toNat) H1
def iRng2 (ta : TA) : TI := fun σ H R => ta σ H fun vs H1 => ∃ i j : Int, vs = [.int i, .int j] ∧ (-(2 ^ 62) ≤ i ∧ i < 2 ^ 62 ∧ -(2 ^ 62) ≤ j ∧ j < 2 ^ 62) ∧ R (Itr i (j - i).toNat) H1
theorem pi_range1 {a : Expr} {ta : TA} {p pos : Pos} (hg : Gl X "range") (hm : X.mg "range" = none) (ha : PA X [a] ta) (hs : starEach [a] X.env = [(false, eval a X.env)] := by rfl) : PI X tg (.Call (.Name "range" p) [a] [] pos) (iRng1 ta) := by
  intro pins s σ H R I h
  refine Call_ (ld_blt I hg hm boot_range (PyProof.Rows.callWith_type1 (thn (ha pos pins s σ H _ I h) fun us s1 ⟨vs, H1, I1, r1, q1⟩ => ?_) hs rfl))
  obtain ⟨j, e, q1, q2, q⟩ := q1
  subst e
  cases r1 with
  | cons r rr =>
    cases rr
    obtain ⟨t, rfl⟩ := r
    exact call_range_1 (range_it I1 (by omega) (by omega) q1 q2 (by simpa using q))
theorem pi_range2 {a b : Expr} {ta : TA} {p pos : Pos} (hg : Gl X "range") (hm : X.mg "range" = none) (ha : PA X [a, b] ta) (hs : starEach [a, b] X.env = [(false, eval a X.env), (false, eval b X.env)] := by rfl) (hs2 : starEach [b] X.env = [(false, eval b X.env)] := by rfl) :
    PI X tg (.Call (.Name "range" p) [a, b] [] pos) (iRng2 ta) := by
  intro pins s σ H R I h
  refine Call_ (ld_blt I hg hm boot_range (PyProof.Rows.callWith_type1 (thn (ha pos pins s σ H _ I h) fun us s1 ⟨vs, H1, I1, r1, q1⟩ => ?_) (by rw [hs, hs2]) (by rw [hs2]; rfl)))
  obtain ⟨i, j, e, ⟨q1, q2, q3, q4⟩, q⟩ := q1
  subst e
  cases r1 with
  | cons r rr =>
    cases rr with
    | cons r' rr =>
      cases rr
      obtain ⟨t, rfl⟩ := r
      obtain ⟨t', rfl⟩ := r'
      exact call_range_2 (range_it I1 q1 q2 q3 q4 q)

/-! ### for -/
/-- W: the invariant by the turn and a measure; N: what the body is to reach -/
def tFor (wi : TI) (g : TG) (tb : TS) : TS := fun D σ H => wi σ H fun J H1 => ∃ W : Nat → Nat → St → Hp → Prop, (∃ m, W 0 m σ H1) ∧ ∀ i m σ H, W i m σ H →
  (J.stop i H ∧ D.nx σ H) ∨ (J.go i H ∧ ∃ N : St → Hp → Prop, (∀ σ' H', N σ' H' → ∃ m', m' < m ∧ W (i + 1) m' σ' H') ∧ ∀ x H', J.yld i H x H' → g x σ H' fun σ2 H2 => tb { D with nx := N, ct := N, bk := D.nx } σ2 H2)
/-- the records at fp as they stand -/
def pinsAt (fp : List Addr) (h : Heap) : List (Addr × Obj) := fp.filterMap fun b => (h.get? b).map fun o => (b, o)
theorem mem_pinsAt {fp : List Addr} {h : Heap} {b : Addr} {o : Obj} (hb : b ∈ fp) (e : h.get? b = some o) : (b, o) ∈ pinsAt fp h := List.mem_filterMap.mpr ⟨b, hb, by rw [e]; rfl⟩
theorem of_pinsAt {fp : List Addr} {h : Heap} {p : Addr × Obj} (hp : p ∈ pinsAt fp h) : p.1 ∈ fp ∧ h.get? p.1 = some p.2 := by
  obtain ⟨b, hb, e⟩ := List.mem_filterMap.mp hp
  cases q : h.get? b with
  | none => rw [q] at e; cases e
  | some o =>
    rw [q] at e
    have e' : (b, o) = p := Option.some.inj e
    subst e'
    exact ⟨hb, q⟩
theorem Inv.pinned {pins : List (Addr × Obj)} {σ : St} {H : Hp} {s : Shared} {fp : List Addr} (I : Inv X pins σ H s) (hf : ∀ b ∈ fp, FpOk X pins H b) (ho : ∀ b ∈ fp, ∃ o, s.heap.get? b = some o ∧ ∀ v, o.data ≠ .cell v) : Inv X (pins ++ pinsAt fp s.heap) σ H s :=
  I.pins_of fun p hp => (List.mem_append.mp hp).elim (fun z => I.pin p (List.mem_append_right _ z)) fun z => by
    obtain ⟨hb, e⟩ := of_pinsAt z
    obtain ⟨f0, f1, f2, _⟩ := hf p.1 hb
    obtain ⟨o, e', d⟩ := ho p.1 hb
    rw [e] at e'; cases e'
    exact ⟨e, f0, f1, f2, d⟩
theorem Inv.unpinned {pins pl : List (Addr × Obj)} {σ : St} {H : Hp} {s : Shared} (I : Inv X (pins ++ pl) σ H s) : Inv X pins σ H s := I.pins_of fun p hp => I.pin p (List.mem_append_right _ (List.mem_append_left _ hp))
theorem ps_for {iter : Expr} {body : List Stmt} {wi : TI} {g : TG} {tb : TS} {pos : Pos} (hp : PassesOwn (model X.prog X.w) X.A X.env X.xe) (hc : X.calm = true) (hi : PI X tg iter wi) (hg : PG X tg g) (hb : PSs X body tb)
    (hs : ∀ x, foldedSetIterable iter X.env x = pure x := by intro _; rfl) : PS X (.For tg iter body [] pos) (tFor wi g tb) := by
  intro pins s σ H D I h
  refine wpAny_For (thn (hi pins s σ H _ I h) fun v s1 h1 => thn h1 fun itv s2 h2 => ?_) hs
  obtain ⟨it, fp, tn, J, H2, e, I2, T, st2, f2, W, ⟨m0, w0⟩, turn⟩ := h2
  subst e
  -- what stays true of the iterator's objects through the loop
  have stat : ∀ {H' : Hp}, (∀ b ∈ fp, H' b = none) → ∀ b ∈ fp, FpOk X pins H' b := fun hn b hb => ⟨hn b hb, (f2 b hb).2⟩
  refine codeAny_forLoop_any (fun n s' => ∃ i σ' H', Inv X pins σ' H' s' ∧ tn i s'.heap ∧ (∀ b ∈ fp, H' b = none) ∧ W i n σ' H') ?_ m0 ⟨0, σ, H2, I2, st2, fun b hb => (f2 b hb).1, w0⟩
  rintro n s3 ⟨i, σ3, H3, I3, st3, fr3, w3⟩
  rcases turn i n σ3 H3 w3 with ⟨stop, qn⟩ | ⟨go, N, hN, step⟩
  · refine wpAny_passesOwn hp (thn (T.done X rfl rfl rfl hc i pins s3 σ3 H3 X.xe I3 (stat fr3) st3 stop) fun r s4 ⟨hr, I4⟩ => ?_)
    subst hr
    exact wpAny_execs_nil ⟨σ3, H3, I4, qn⟩
  · refine wpAny_passesOwn hp (thn (T.item X rfl rfl rfl hc i pins s3 σ3 H3 X.xe I3 (stat fr3) st3 go) fun r s4 ⟨u, hr, h4⟩ => ?_)
    subst hr
    refine wpAny_passesOwn hp (thn h4 fun _ s5 ⟨x, H5, I5, r5, y5, st5, fr5⟩ => ?_)
    have I5' := I5.pinned (stat fr5) (T.obj _ _ st5)
    refine wpAny_passesOwn hp (thn (hg _ s5 σ3 H5 x u _ I5' r5 (step x H5 y5)) fun _ s6 ⟨σ6, H6, I6, q6⟩ => ?_)
    refine wpAny_passesOwn hp (thn (hb _ s6 σ6 H6 _ I6 q6) fun f s7 q7 => ?_)
    have again : ∀ {σ7 : St} {H7 : Hp}, Inv X (pins ++ pinsAt fp s5.heap) σ7 H7 s7 → N σ7 H7 → ∃ m, m < n ∧ ∃ i σ' H', Inv X pins σ' H' s7 ∧ tn i s7.heap ∧ (∀ b ∈ fp, H' b = none) ∧ W i m σ' H' := fun {σ7 H7} I7 n7 => by
      obtain ⟨m', hm, w7⟩ := hN σ7 H7 n7
      refine ⟨m', hm, i + 1, σ7, H7, I7.unpinned, T.keep _ _ _ st5 fun b hb o e => (I7.pin (b, o) (List.mem_append_right _ (List.mem_append_right _ (mem_pinsAt hb e)))).1, fun b hb => ?_, w7⟩
      obtain ⟨o, e, d⟩ := T.obj _ _ st5 b hb
      exact (I7.pin (b, o) (List.mem_append_right _ (List.mem_append_right _ (mem_pinsAt hb e)))).2.1
    cases f with
    | next => obtain ⟨σ7, H7, I7, n7⟩ := q7; exact again I7 n7
    | cont => obtain ⟨σ7, H7, I7, n7⟩ := q7; exact again I7 n7
    | brk => obtain ⟨σ7, H7, I7, q7⟩ := q7; exact ⟨σ7, H7, I7.unpinned, q7⟩
    | ret v => obtain ⟨x7, σ7, H7, I7, r7, q7⟩ := q7; exact ⟨x7, σ7, H7, I7.unpinned, r7, q7⟩
end

/-! ### the forms one uses -/
/-- over a list that the body leaves as it is -/
theorem for_list {K : PySem.W.Frag} {a : Addr} {xs : List V} {g : TG} {tb : TS} {D : Ends} {σ : St} {H : Hp} (Pv : Nat → St → Hp → Prop) (h0 : Pv 0 σ H) (hl : ∀ i σ H, i ≤ xs.length → Pv i σ H → SqL K H a xs)
    (hs : ∀ i x σ H, xs[i]? = some x → Pv i σ H → g x σ H fun σ2 H2 => tb { D with nx := Pv (i + 1), ct := Pv (i + 1), bk := D.nx } σ2 H2) (hd : ∀ σ H, Pv xs.length σ H → D.nx σ H) :
    ∃ W : Nat → Nat → St → Hp → Prop, (∃ m, W 0 m σ H) ∧ ∀ i m σ H, W i m σ H →
      ((Itl K a).stop i H ∧ D.nx σ H) ∨ ((Itl K a).go i H ∧ ∃ N : St → Hp → Prop, (∀ σ' H', N σ' H' → ∃ m', m' < m ∧ W (i + 1) m' σ' H') ∧ ∀ x H', (Itl K a).yld i H x H' → g x σ H' fun σ2 H2 => tb { D with nx := N, ct := N, bk := D.nx } σ2 H2) := by
  refine ⟨fun i m σ H => m = xs.length - i ∧ i ≤ xs.length ∧ Pv i σ H, ⟨xs.length, by simp, Nat.zero_le _, h0⟩, ?_⟩
  rintro i m σ H ⟨rfl, hi, p⟩
  have q := hl i σ H hi p
  by_cases hlt : i < xs.length
  · refine .inr ⟨⟨xs, xs[i], q, by simp [hlt]⟩, Pv (i + 1), fun σ' H' p' => ⟨xs.length - (i + 1), by omega, rfl, hlt, p'⟩, fun x H' y => ?_⟩
    obtain ⟨e, y⟩ := y
    subst e
    exact hs i x σ _ (y xs q) p
  · have e : i = xs.length := by omega
    subst e
    exact .inl ⟨⟨xs, q, Nat.le_refl _⟩, hd σ H p⟩
theorem for_tup {K : PySem.W.Frag} {a : Addr} {xs : List V} {g : TG} {tb : TS} {D : Ends} {σ : St} {H : Hp} (Pv : Nat → St → Hp → Prop) (h0 : Pv 0 σ H) (hl : ∀ i σ H, i ≤ xs.length → Pv i σ H → SqT K H a xs)
    (hs : ∀ i x σ H, xs[i]? = some x → Pv i σ H → g x σ H fun σ2 H2 => tb { D with nx := Pv (i + 1), ct := Pv (i + 1), bk := D.nx } σ2 H2) (hd : ∀ σ H, Pv xs.length σ H → D.nx σ H) :
    ∃ W : Nat → Nat → St → Hp → Prop, (∃ m, W 0 m σ H) ∧ ∀ i m σ H, W i m σ H →
      ((Itt K a).stop i H ∧ D.nx σ H) ∨ ((Itt K a).go i H ∧ ∃ N : St → Hp → Prop, (∀ σ' H', N σ' H' → ∃ m', m' < m ∧ W (i + 1) m' σ' H') ∧ ∀ x H', (Itt K a).yld i H x H' → g x σ H' fun σ2 H2 => tb { D with nx := N, ct := N, bk := D.nx } σ2 H2) := by
  refine ⟨fun i m σ H => m = xs.length - i ∧ i ≤ xs.length ∧ Pv i σ H, ⟨xs.length, by simp, Nat.zero_le _, h0⟩, ?_⟩
  rintro i m σ H ⟨rfl, hi, p⟩
  have q := hl i σ H hi p
  by_cases hlt : i < xs.length
  · refine .inr ⟨⟨xs, xs[i], q, by simp [hlt]⟩, Pv (i + 1), fun σ' H' p' => ⟨xs.length - (i + 1), by omega, rfl, hlt, p'⟩, fun x H' y => ?_⟩
    obtain ⟨e, y⟩ := y
    subst e
    exact hs i x σ _ (y xs q) p
  · have e : i = xs.length := by omega
    subst e
    exact .inl ⟨⟨xs, q, Nat.le_refl _⟩, hd σ H p⟩
theorem for_range {lo : Int} {n : Nat} {g : TG} {tb : TS} {D : Ends} {σ : St} {H : Hp} (Pv : Nat → St → Hp → Prop) (h0 : Pv 0 σ H)
    (hs : ∀ i σ H, i < n → Pv i σ H → g (.int (lo + i)) σ H fun σ2 H2 => tb { D with nx := Pv (i + 1), ct := Pv (i + 1), bk := D.nx } σ2 H2) (hd : ∀ σ H, Pv n σ H → D.nx σ H) :
    ∃ W : Nat → Nat → St → Hp → Prop, (∃ m, W 0 m σ H) ∧ ∀ i m σ H, W i m σ H →
      ((Itr lo n).stop i H ∧ D.nx σ H) ∨ ((Itr lo n).go i H ∧ ∃ N : St → Hp → Prop, (∀ σ' H', N σ' H' → ∃ m', m' < m ∧ W (i + 1) m' σ' H') ∧ ∀ x H', (Itr lo n).yld i H x H' → g x σ H' fun σ2 H2 => tb { D with nx := N, ct := N, bk := D.nx } σ2 H2) := by
  refine ⟨fun i m σ H => m = n - i ∧ i ≤ n ∧ Pv i σ H, ⟨n, by simp, Nat.zero_le _, h0⟩, ?_⟩
  rintro i m σ H ⟨rfl, hi, p⟩
  by_cases hlt : i < n
  · refine .inr ⟨hlt, Pv (i + 1), fun σ' H' p' => ⟨n - (i + 1), by omega, rfl, hlt, p'⟩, fun x H' y => ?_⟩
    obtain ⟨e, y⟩ := y
    subst e y
    exact hs i σ _ hlt p
  · have e : i = n := by omega
    subst e
    exact .inl ⟨Nat.le_refl _, hd σ H p⟩
/-- while, by a word and a measure of the state -/
theorem while_by {c : TT} {tb : TS} {D : Ends} {σ : St} {H : Hp} (Pv : St → Hp → Prop) (μ : St → Hp → Nat) (h0 : Pv σ H)
    (hs : ∀ σ H, Pv σ H → c σ H fun b H1 => if b = true then tb { D with nx := fun σ' H' => Pv σ' H' ∧ μ σ' H' < μ σ H, ct := fun σ' H' => Pv σ' H' ∧ μ σ' H' < μ σ H, bk := D.nx } σ H1 else D.nx σ H1)
    (mono : ∀ σ H Q Q', (∀ b H1, Q b H1 → Q' b H1) → c σ H Q → c σ H Q') : tWhile c tb D σ H := by
  refine ⟨fun m σ H => m = μ σ H ∧ Pv σ H, ⟨_, rfl, h0⟩, ?_⟩
  rintro m σ H ⟨rfl, p⟩
  refine mono σ H _ _ (fun b H1 q => ?_) (hs σ H p)
  cases b with
  | true => exact ⟨_, fun σ' H' ⟨p', l⟩ => ⟨_, l, rfl, p'⟩, q⟩
  | false => exact q
end L2

namespace L2
open PySem PySem.Spec PyProof.Rows

abbrev R2 := V → V → Hp → VK → Prop
/-- a two-place operation on values: f is binaryOp op, inplaceOp op or compareOp op -/
def OpR (X : Cx) (f : Value → Value → Sem Value) (r : R2) : Prop :=
  ∀ (pins : List (Addr × Obj)) (s : Shared) (σ : St) (H : Hp) (x y : V) (v u : Value) (Q : VK), Inv X pins σ H s → RelV x v → RelV y u → r x y H Q →
    wpAny (model X.prog X.w) X.A (f v u) (EP X pins σ Q) X.xe s
/-- a one-place operation -/
def UnR (X : Cx) (f : Value → Sem Value) (r : V → Hp → VK → Prop) : Prop :=
  ∀ (pins : List (Addr × Obj)) (s : Shared) (σ : St) (H : Hp) (x : V) (v : Value) (Q : VK), Inv X pins σ H s → RelV x v → r x H Q →
    wpAny (model X.prog X.w) X.A (f v) (EP X pins σ Q) X.xe s
/-- a call of a value that is known (a builtin, a type) with values -/
def CallR (X : Cx) (f : Value) (r : List V → Hp → VK → Prop) : Prop :=
  ∀ (pins : List (Addr × Obj)) (s : Shared) (σ : St) (H : Hp) (xs : List V) (us : List Value) (Q : VK), Inv X pins σ H s → Vals xs us → r xs H Q →
    wpAny (model X.prog X.w) X.A (call f us) (EP X pins σ Q) X.xe s
/-- a value's truth -/
def TruR (X : Cx) (r : V → Hp → (Bool → Hp → Prop) → Prop) : Prop :=
  ∀ (pins : List (Addr × Obj)) (s : Shared) (σ : St) (H : Hp) (x : V) (v : Value) (Q : Bool → Hp → Prop), Inv X pins σ H s → RelV x v → r x H Q →
    wpAny (model X.prog X.w) X.A (truthy v) (TP X pins σ Q) X.xe s

def tOp (r : R2) (ta tb : TE) : TE := fun σ H Q => ta σ H fun x H1 => tb σ H1 fun y H2 => r x y H2 Q
def tUn (r : V → Hp → VK → Prop) (ta : TE) : TE := fun σ H Q => ta σ H fun x H1 => r x H1 Q
/-- ints in, under C, and a value out -/
def rI (C : Int → Int → Prop) (g : Int → Int → V) : R2 := fun x y H Q => ∃ i j, x = .int i ∧ y = .int j ∧ C i j ∧ Q (g i j) H
def rI0 (g : Int → Int → V) : R2 := fun x y H Q => ∃ i j, x = .int i ∧ y = .int j ∧ Q (g i j) H
def rU (g : Int → V) : V → Hp → VK → Prop := fun x H Q => ∃ i, x = .int i ∧ Q (g i) H

section
variable {X : Cx} {a b c : Expr} {ta tb tc : TE} {pos : Pos}

theorem binT (ha : PE X a ta) (hb : PE X b tb) {pins : List (Addr × Obj)} {s : Shared} {σ : St} {H : Hp} {R : V → V → Hp → Prop} (I : Inv X pins σ H s)
    (h : ta σ H fun x H1 => tb σ H1 fun y H2 => R x y H2) {Q : Value → Shared → Prop} {f : Value → Value → Sem Value}
    (hf : ∀ v u s2 x y H2, Inv X pins σ H2 s2 → RelV x v → RelV y u → R x y H2 → wpAny (model X.prog X.w) X.A (f v u) Q X.xe s2) :
    wpAny (model X.prog X.w) X.A (eval a X.env) (fun v s₁ => wpAny (model X.prog X.w) X.A (eval b X.env) (fun u s₂ => wpAny (model X.prog X.w) X.A (f v u) Q X.xe s₂) X.xe s₁) X.xe s := by
  refine thn (ha pins s σ H _ I h) fun v s1 ⟨x, H1, I1, r1, q1⟩ => ?_
  refine thn (hb pins s1 σ H1 _ I1 q1) fun u s2 ⟨y, H2, I2, r2, q2⟩ => ?_
  exact hf v u s2 x y H2 I2 r1 r2 q2

theorem pe_op {op : Operator} {r : R2} (ho : OpR X (binaryOp op) r) (ha : PE X a ta) (hb : PE X b tb) : PE X (.BinOp a op b pos) (tOp r ta tb) := by
  intro pins s σ H Q I h
  exact wpAny_BinOp (binT ha hb I h fun v u s2 x y H2 I2 rx ry q => ho pins s2 σ H2 x y v u Q I2 rx ry q)
theorem pe_un {op : UnaryOp} {r : V → Hp → VK → Prop} (ho : UnR X (unaryOp op) r) (ha : PE X a ta) : PE X (.UnaryOp op a pos) (tUn r ta) := by
  intro pins s σ H Q I h
  exact UnaryOp_ (thn (ha pins s σ H _ I h) fun v s1 ⟨x, H1, I1, r1, q1⟩ => ho pins s1 σ H1 x v Q I1 r1 q1)
/-! ### ints -/
theorem opI {f : Value → Value → Sem Value} {C : Int → Int → Prop} {g : Int → Int → Int}
    (rule : ∀ (i j : Int) (t u : Tok) (s : Shared) (Q : Value → Shared → Prop) (E : Value → Shared → Prop), C i j → Q (.int (g i j) s.toks) { s with toks := s.toks + 1 } → wpAny (model X.prog X.w) X.A (f (.int i t) (.int j u)) Q E s) :
    OpR X f (rI C fun i j => .int (g i j)) := by
  intro pins s σ H x y v u Q I rx ry h
  obtain ⟨i, j, rfl, rfl, hc, q⟩ := h
  obtain ⟨t, rfl⟩ := rx
  obtain ⟨t', rfl⟩ := ry
  exact rule i j t t' s _ _ hc ⟨.int (g i j), H, I.tok _, ⟨_, rfl⟩, q⟩
theorem opI0 {f : Value → Value → Sem Value} {g : Int → Int → Int}
    (rule : ∀ (i j : Int) (t u : Tok) (s : Shared) (Q : Value → Shared → Prop) (E : Value → Shared → Prop), Q (.int (g i j) s.toks) { s with toks := s.toks + 1 } → wpAny (model X.prog X.w) X.A (f (.int i t) (.int j u)) Q E s) :
    OpR X f (rI0 fun i j => .int (g i j)) := by
  intro pins s σ H x y v u Q I rx ry h
  obtain ⟨i, j, rfl, rfl, q⟩ := h
  obtain ⟨t, rfl⟩ := rx
  obtain ⟨t', rfl⟩ := ry
  exact rule i j t t' s _ _ ⟨.int (g i j), H, I.tok _, ⟨_, rfl⟩, q⟩
theorem opB0 {f : Value → Value → Sem Value} {g : Int → Int → Bool}
    (rule : ∀ (i j : Int) (t u : Tok) (s : Shared) (Q : Value → Shared → Prop) (E : Value → Shared → Prop), Q (.bool (g i j)) s → wpAny (model X.prog X.w) X.A (f (.int i t) (.int j u)) Q E s) :
    OpR X f (rI0 fun i j => .bl (g i j)) := by
  intro pins s σ H x y v u Q I rx ry h
  obtain ⟨i, j, rfl, rfl, q⟩ := h
  obtain ⟨t, rfl⟩ := rx
  obtain ⟨t', rfl⟩ := ry
  exact rule i j t t' s _ _ ⟨.bl (g i j), H, I, rfl, q⟩

def CDiv (i j : Int) : Prop := 0 < j ∧ j < 1073741824
def CDivN (i j : Int) : Prop := j ≠ 0 ∧ j.natAbs < 1073741824
def CPow (i j : Int) : Prop := 0 ≤ j ∧ j ≤ 1000000 ∧ i.natAbs < 2 ^ 64
def CMul (i j : Int) : Prop := (-(2 ^ 64) < i ∧ i < 2 ^ 64) ∨ (-(2 ^ 64) < j ∧ j < 2 ^ 64)
theorem CMul.ok {i j : Int} (h : CMul i j) : IntMulOk i j := by
  rcases h with ⟨h1, h2⟩ | ⟨h1, h2⟩
  · exact .of_left (intBits_le_64 h1 h2)
  · exact .of_right (intBits_le_64 h1 h2)
theorem op_add : OpR X (binaryOp .Add) (rI0 fun i j => .int (i + j)) := opI0 fun _ _ _ _ _ _ _ q => add_int q
theorem op_sub : OpR X (binaryOp .Sub) (rI0 fun i j => .int (i - j)) := opI0 fun _ _ _ _ _ _ _ q => sub_int q
theorem op_mul : OpR X (binaryOp .Mult) (rI CMul fun i j => .int (i * j)) := opI fun _ _ _ _ _ _ _ hc q => mul_int q hc.ok
/-- // by a positive divisor -/
theorem op_fdiv : OpR X (binaryOp .FloorDiv) (rI CDiv fun i j => .int (i / j)) := opI fun i j _ _ _ _ _ hc q => by
  have h1 : (0 : Int) < j := hc.1
  have h2 : j < 1073741824 := hc.2
  exact floordiv_int (by omega) (by rw [Int.fdiv_eq_ediv_of_nonneg i (by omega)]; exact q) (.inl (PyProof.noPylong_small (by omega)))
/-- % by a positive divisor of any size -/
theorem op_mod : OpR X (binaryOp .Mod) (rI (fun _ j => 0 < j) fun i j => .int (i % j)) := opI fun i j _ _ _ _ _ hc q => by
  have h1 : (0 : Int) < j := hc
  exact mod_int' (by omega) (by rw [Int.fmod_eq_emod_of_nonneg i (by omega)]; exact q)
theorem op_modN : OpR X (binaryOp .Mod) (rI (fun _ j => j ≠ 0) fun i j => .int (i.fmod j)) := opI fun _ _ _ _ _ _ _ hc q => mod_int' hc q
theorem op_pow : OpR X (binaryOp .Pow) (rI CPow fun i j => .int (i ^ j.toNat)) := opI fun _ _ _ _ _ _ _ hc q => pow_int_small hc.1 hc.2.1 hc.2.2 q
theorem unI {f : Value → Sem Value} {g : Int → Int}
    (rule : ∀ (i : Int) (t : Tok) (s : Shared) (Q : Value → Shared → Prop) (E : Value → Shared → Prop), Q (.int (g i) s.toks) { s with toks := s.toks + 1 } → wpAny (model X.prog X.w) X.A (f (.int i t)) Q E s) :
    UnR X f (rU fun i => .int (g i)) := by
  intro pins s σ H x v Q I rx h
  obtain ⟨i, rfl, q⟩ := h
  obtain ⟨t, rfl⟩ := rx
  exact rule i t s _ _ ⟨.int (g i), H, I.tok _, ⟨_, rfl⟩, q⟩
theorem un_neg : UnR X (unaryOp .USub) (rU fun i => .int (-i)) := unI fun _ _ _ _ _ q => neg_int q
/-! ### bools among ints: n += (a < b) -/
end

/-! ### comparisons -/
/-- the scalars that == tells apart as data does -/
def scal : V → V → Bool
  | .non, .non => true | .non, .int _ => true | .int _, .non => true | .non, .bl _ => true | .bl _, .non => true | .non, .str _ => true | .str _, .non => true
  | .int _, .int _ => true | .bl _, .bl _ => true | .str _, .str _ => true | .byt _, .byt _ => true
  | .int _, .str _ => true | .str _, .int _ => true | .bl _, .str _ => true | .str _, .bl _ => true
  | _, _ => false
def rEq : R2 := fun x y H Q => scal x y = true ∧ Q (.bl (decide (x = y))) H
def rNe : R2 := fun x y H Q => scal x y = true ∧ Q (.bl (!decide (x = y))) H

theorem dec_int {i j : Int} : decide (V.int i = V.int j) = (i == j) := by
  rw [Bool.eq_iff_iff]
  simp
theorem dec_bl {i j : Bool} : decide (V.bl i = V.bl j) = (i == j) := by
  rw [Bool.eq_iff_iff]
  simp
theorem dec_str {i j : Str} : decide (V.str i = V.str j) = (i == j) := by
  rw [Bool.eq_iff_iff]
  simp
theorem dec_byt {i j : Array UInt8} : decide (V.byt i = V.byt j) = (i.toList == j.toList) := by
  rw [Bool.eq_iff_iff]
  cases i
  cases j
  simp

section
variable {X : Cx} {a b c : Expr} {ta tb tc : TE} {pos : Pos}
theorem fin_bl {pins : List (Addr × Obj)} {σ : St} {H : Hp} {s : Shared} {Q : VK} {k k' : Bool} (I : Inv X pins σ H s) (q : Q (.bl k) H) (e : k = k') : EP X pins σ Q (.bool k') s := by
  subst e
  exact ⟨.bl k, H, I, rfl, q⟩
theorem op_eq : OpR X (compareOp .Eq) rEq := by
  intro pins s σ H x y v u Q I rx ry h
  obtain ⟨hs, q⟩ := h
  cases x with
  | non =>
    cases rx
    cases y with
    | non => cases ry; exact PySem.EqNone.eq_none_none (fin_bl I q (by simp))
    | bl j => cases ry; exact PySem.EqNone.eq_none_bool (fin_bl I q (by simp))
    | int j => obtain ⟨t', rfl⟩ := ry; exact PySem.EqNone.eq_none_int (fin_bl I q (by simp))
    | str j => obtain ⟨t', rfl⟩ := ry; exact PySem.EqNone.eq_none_str (fin_bl I q (by simp))
    | _ => exact absurd (show false = true from hs) Bool.false_ne_true
  | bl i =>
    cases rx
    cases y with
    | non => cases ry; exact PySem.EqNone.eq_bool_none (fin_bl I q (by simp))
    | bl j => cases ry; exact eq_bool (fin_bl I q dec_bl)
    | str j => obtain ⟨t', rfl⟩ := ry; exact PySem.EqMixed.eq_bool_str (fin_bl I q (by simp))
    | _ => exact absurd (show false = true from hs) Bool.false_ne_true
  | int i =>
    obtain ⟨t, rfl⟩ := rx
    cases y with
    | non => cases ry; exact PySem.EqNone.eq_int_none (fin_bl I q (by simp))
    | int j => obtain ⟨t', rfl⟩ := ry; exact eq_int (fin_bl I q dec_int)
    | str j => obtain ⟨t', rfl⟩ := ry; exact PySem.EqMixed.eq_int_str (fin_bl I q (by simp))
    | _ => exact absurd (show false = true from hs) Bool.false_ne_true
  | str i =>
    obtain ⟨t, rfl⟩ := rx
    cases y with
    | non => cases ry; exact PySem.EqNone.eq_str_none (fin_bl I q (by simp))
    | bl j => cases ry; exact PySem.EqMixed.eq_str_bool (fin_bl I q (by simp))
    | int j => obtain ⟨t', rfl⟩ := ry; exact PySem.EqMixed.eq_str_int (fin_bl I q (by simp))
    | str j => obtain ⟨t', rfl⟩ := ry; exact eq_str (fin_bl I q dec_str)
    | _ => exact absurd (show false = true from hs) Bool.false_ne_true
  | byt i =>
    obtain ⟨t, rfl⟩ := rx
    cases y with
    | byt j => obtain ⟨t', rfl⟩ := ry; exact PySem.W.eq_bytes (fin_bl I q dec_byt)
    | _ => exact absurd (show false = true from hs) Bool.false_ne_true
  | _ => cases y <;> exact absurd (show false = true from hs) Bool.false_ne_true
theorem op_ne : OpR X (compareOp .NotEq) rNe := by
  intro pins s σ H x y v u Q I rx ry h
  obtain ⟨hs, q⟩ := h
  cases x with
  | non =>
    cases rx
    cases y with
    | non => cases ry; exact PySem.EqNone.ne_none_none (fin_bl I q (by simp))
    | bl j => cases ry; exact PySem.EqNone.ne_none_bool (fin_bl I q (by simp))
    | int j => obtain ⟨t', rfl⟩ := ry; exact PySem.EqNone.ne_none_int (fin_bl I q (by simp))
    | str j => obtain ⟨t', rfl⟩ := ry; exact PySem.EqNone.ne_none_str (fin_bl I q (by simp))
    | _ => exact absurd (show false = true from hs) Bool.false_ne_true
  | bl i =>
    cases rx
    cases y with
    | non => cases ry; exact PySem.EqNone.ne_bool_none (fin_bl I q (by simp))
    | bl j => cases ry; exact ne_bool (fin_bl I q (congrArg not dec_bl))
    | str j => obtain ⟨t', rfl⟩ := ry; exact PySem.EqMixed.ne_bool_str (fin_bl I q (by simp))
    | _ => exact absurd (show false = true from hs) Bool.false_ne_true
  | int i =>
    obtain ⟨t, rfl⟩ := rx
    cases y with
    | non => cases ry; exact PySem.EqNone.ne_int_none (fin_bl I q (by simp))
    | int j => obtain ⟨t', rfl⟩ := ry; exact ne_int (fin_bl I q (congrArg not dec_int))
    | str j => obtain ⟨t', rfl⟩ := ry; exact PySem.EqMixed.ne_int_str (fin_bl I q (by simp))
    | _ => exact absurd (show false = true from hs) Bool.false_ne_true
  | str i =>
    obtain ⟨t, rfl⟩ := rx
    cases y with
    | non => cases ry; exact PySem.EqNone.ne_str_none (fin_bl I q (by simp))
    | bl j => cases ry; exact PySem.EqMixed.ne_str_bool (fin_bl I q (by simp))
    | int j => obtain ⟨t', rfl⟩ := ry; exact PySem.EqMixed.ne_str_int (fin_bl I q (by simp))
    | str j => obtain ⟨t', rfl⟩ := ry; exact ne_str (fin_bl I q (congrArg not dec_str))
    | _ => exact absurd (show false = true from hs) Bool.false_ne_true
  | byt i =>
    obtain ⟨t, rfl⟩ := rx
    cases y with
    | byt j => obtain ⟨t', rfl⟩ := ry; exact PySem.W.ne_bytes (fin_bl I q (congrArg not dec_byt))
    | _ => exact absurd (show false = true from hs) Bool.false_ne_true
  | _ => cases y <;> exact absurd (show false = true from hs) Bool.false_ne_true

theorem op_lt : OpR X (compareOp .Lt) (rI0 fun i j => .bl (decide (i < j))) := opB0 fun _ _ _ _ _ _ _ q => lt_int q
theorem op_gt : OpR X (compareOp .Gt) (rI0 fun i j => .bl (decide (j < i))) := opB0 fun _ _ _ _ _ _ _ q => gt_int q
/-- is, is not of two objects that are tracked lists or instances -/
def isObj : HO → Bool
  | .lst _ => true
  | .ins _ _ _ => true
  | _ => false
theorem nomark (b : Expr) {op : CmpOp} (h : op ≠ .In := by decide) (h2 : op ≠ .NotIn := by decide) : behindInMarks op b = false := by
  have e1 : (op == CmpOp.In) = false := by cases op <;> first | rfl | exact absurd rfl h
  have e2 : (op == CmpOp.NotIn) = false := by cases op <;> first | rfl | exact absurd rfl h2
  cases b <;> simp [behindInMarks, e1, e2]
/-- a comparison as a value; hm: nomark b, or (for in, not in) by with_unfolding_all rfl -/
theorem pe_cmpR {op : CmpOp} {r : R2} (ho : OpR X (compareOp op) r) (ha : PE X a ta) (hb : PE X b tb) (hm : behindInMarks op b = false) : PE X (.Compare a [op] [b] pos) (tOp r ta tb) := by
  intro pins s σ H Q I h
  exact wpAny_Compare1 (binT ha hb I h fun v u s2 x y H2 I2 rx ry q => ho pins s2 σ H2 x y v u Q I2 rx ry q) hm
/-- a reading of a value as a test -/
def tTest (t : TE) : TT := fun σ H Q => t σ H fun x H' => ∃ k, x = .bl k ∧ Q k H'
theorem pt_cmpR {op : CmpOp} {r : R2} (ho : OpR X (compareOp op) r) (ha : PE X a ta) (hb : PE X b tb) (hm : behindInMarks op b = false) : PT X (.Compare a [op] [b] pos) (tTest (tOp r ta tb)) := by
  intro pins s σ H Q I h
  refine wpAny_isTrue_Compare1 (thn (ha pins s σ H _ I h) fun v s1 ⟨x, H1, I1, r1, q1⟩ => thn (hb pins s1 σ H1 _ I1 q1) fun u s2 ⟨y, H2, I2, r2, q2⟩ =>
    thn (ho pins s2 σ H2 x y v u _ I2 r1 r2 q2) fun c s3 ⟨z, H3, I3, r3, k, e, q3⟩ => ?_) hm
  subst e
  cases r3
  exact wpAny_truthy_bool ⟨H3, I3, q3⟩
/-- a op1 b op2 c -/
def tChain (r r' : R2) (ta tb tc : TE) : TE := fun σ H Q => ta σ H fun x H1 => tb σ H1 fun y H2 => r x y H2 fun z H3 => ∃ k, z = .bl k ∧
  (if k = true then tc σ H3 fun w' H4 => r' y w' H4 Q else Q (.bl false) H3)
/-! ### truth -/
/-- a value's truth by the abstract heap -/
def TruV (K : PySem.W.Frag) (x : V) (H : Hp) (k : Bool) : Prop :=
  match x with
  | .non => k = false
  | .bl b => k = b
  | .int i => k = (i != 0)
  | .str y => y.length ≤ sizeLine ∧ k = ((y.length : Int) != 0)
  | .byt y => y.size ≤ sizeLine ∧ k = ((y.size : Int) != 0)
  | .ref p => (∃ xs, SqL K H p xs ∧ k = !xs.isEmpty) ∨ (∃ xs, SqT K H p xs ∧ k = !xs.isEmpty) ∨ ∃ kvs, H p = some (.dK kvs) ∧ k = !kvs.isEmpty
  | _ => False
theorem line63 : (sizeLine : Nat) < 2 ^ 63 := by rw [sizeLine_eq]; decide
/-! ### strs and bytes -/
def PlainIxT (b : Expr) : Prop := ∀ o i, subscripted b false o i = operate [o, i] (getItem o i)
/-! ### scalar builtins, by CallR -/
theorem vals1 {x : V} {us : List Value} (r : Vals [x] us) : ∃ u, us = [u] ∧ RelV x u := by
  cases r with
  | cons r1 r2 => cases r2; exact ⟨_, rfl, r1⟩
theorem vals2 {x y : V} {us : List Value} (r : Vals [x, y] us) : ∃ u w', us = [u, w'] ∧ RelV x u ∧ RelV y w' := by
  cases r with
  | cons r1 r2 =>
    cases r2 with
    | cons r3 r4 => cases r4; exact ⟨_, _, rfl, r1, r3⟩
theorem call_abs : CallR X (.builtin "abs") (fun xs H Q => ∃ i, xs = [.int i] ∧ Q (.int (if i < 0 then -i else i)) H) := by
  intro pins s σ H xs us Q I r h
  obtain ⟨i, rfl, q⟩ := h
  obtain ⟨u, rfl, t, rfl⟩ := vals1 r
  exact call_abs_int fun u tk => ⟨.int (if i < 0 then -i else i), H, I.tok _, ⟨_, rfl⟩, q⟩
/-- len of a str, a bytes, a list, a tuple -/
def LenV (K : PySem.W.Frag) (x : V) (H : Hp) (n : Nat) : Prop :=
  match x with
  | .str y => y.length ≤ sizeLine ∧ n = y.length
  | .byt y => y.size ≤ sizeLine ∧ n = y.size
  | .ref p => (∃ xs, SqL K H p xs ∧ n = xs.length) ∨ ∃ xs, SqT K H p xs ∧ n = xs.length
  | _ => False
end
end L2

namespace L2
open PySem PySem.Spec PyProof.Rows

/-! ### an instance, its attributes a map -/
structure ObjM (h : Heap) (x dx C : Addr) (mA : Str → Option Value) : Prop where
  obj : h.get? x = some (PySem.W.instObj C dx)
  ns : h.Ns1 dx mA
  ne : dx ≠ x

theorem lookIn_ns {h : Heap} {dx : Addr} {mA : Str → Option Value} (n : h.Ns1 dx mA) : ∃ od, h.get? dx = some od ∧ ∀ name, PySem.W.lookIn name od = some (mA name) := by
  obtain ⟨o, es, ep, ho, hd, hk, _, hm⟩ := n
  refine ⟨o, ho, fun name => ?_⟩
  have e := hm name
  unfold nsFind findBy at e
  rw [← Array.find?_toList] at e
  unfold PySem.W.lookIn
  rw [hd]
  dsimp only
  split
  · rename_i y q
    rw [q] at e
    exact congrArg some e
  · rename_i q
    rw [q] at e
    have a : es.toList.any (·.refKey) = false := by
      rw [List.any_eq_false]
      intro y hy
      obtain ⟨z, t, hkey⟩ := hk y (Array.mem_toList_iff.mp hy)
      simp [DictEntry.refKey, hkey]
    have a' : ¬ es.toList.any (·.refKey) = true := by rw [a]; exact Bool.false_ne_true
    rw [if_neg a']
    exact congrArg some e

theorem ObjM.look {h : Heap} {x dx C : Addr} {mA : Str → Option Value} (I : ObjM h x dx C mA) : ∃ od, PySem.W.InstAt h x (PySem.W.instObj C dx) C (some od) ∧ ∀ name, PySem.W.lookIn name od = some (mA name) :=
  let ⟨od, ho, hl⟩ := lookIn_ns I.ns
  ⟨od, ⟨I.obj, rfl, rfl, ho⟩, hl⟩

section
variable {prog : Program} {w : World} {A : Around} {E : Value → Shared → Prop} {s : Shared} {K : PySem.W.Frag} {x dx C f : Addr} {mA : Str → Option Value} {name : Str} {v : Value}

end

/-! ### the attributes as a list of pairs -/
def putF (f : Str) (v : V) : List (Str × V) → List (Str × V)
  | [] => [(f, v)]
  | (g, x) :: r => if g = f then (g, v) :: r else (g, x) :: putF f v r
theorem RelO.some_of {v : V} {o : Option Value} (r : RelO (some v) o) : ∃ u, o = some u ∧ RelV v u := by
  cases o with
  | none => exact (show False from r).elim
  | some u => exact ⟨u, rfl, r⟩
theorem handed_of {v : V} {u : Value} (r : RelV v u) : PySem.W.handedIn u = true := by
  cases v with
  | non => cases (show u = Value.none from r); rfl
  | bl b => cases (show u = Value.bool b from r); rfl
  | int i => obtain ⟨t, e⟩ := (show ∃ t, u = Value.int i t from r); cases e; rfl
  | str x => obtain ⟨t, e⟩ := (show ∃ t, u = Value.str x t from r); cases e; rfl
  | byt b => obtain ⟨t, e⟩ := (show ∃ t, u = Value.bytes b t from r); cases e; rfl
  | flt b => obtain ⟨t, e⟩ := (show ∃ t, u = Value.float b t from r); cases e; rfl
  | ref a => cases (show u = Value.ref a from r); rfl
  | ty n => cases (show u = Value.type n from r); rfl

section
variable {P : Program} {w : World} {H H' : Hp} {h h' : Heap} {a C dx : Addr} {fs fs' : List (Str × V)}
theorem ins_get (hok : HOk P w H h) (e : H a = some (.ins C dx fs)) : ∃ mA, ObjM h a dx C mA ∧ (∀ f, RelO (fs.lookup f) (mA f)) ∧ PySem.Within mA (fs.map (·.1)) ∧ fs.length ≤ 1000 ∧ H dx = some (.own a) := by
  obtain ⟨d, z, ne, ob, mA, n, r, q⟩ := (show ObjOk P w H h a (.ins C dx fs) from hok a _ e)
  exact ⟨mA, ⟨ob, n, ne⟩, r, q, z, d⟩
end

/-! ### what of the text a class must have -/
structure Cls (K : PySem.W.Frag) (C : Addr) : Prop where
  pg : PySem.W.plainGet K C Str.empty = true
  hd : PySem.W.hasDictIn K C = true
  po : PySem.W.plainOver K C = true
  sa : PySem.W.findIn K (.ref C) "__setattr__" = some (some (.builtin "object.__setattr__"))
theorem Cls.get {K : PySem.W.Frag} {C : Addr} (c : Cls K C) (f : Str) : PySem.W.plainGet K C f = true := c.pg
/-- no class of it has the name -/
def NoAttr (K : PySem.W.Frag) (C : Addr) (f : Str) : Prop := PySem.W.findIn K (.ref C) f = some none
/-- a constant of the class -/
structure Con (K : PySem.W.Frag) (C : Addr) (f : Str) (v : V) (u : Value) : Prop where
  at_ : PySem.W.findIn K (.ref C) f = some (some u)
  rel : RelV v u
  get : PySem.W.specialIn K u "__get__" = some none
  cp : PySem.W.copiedNames.contains f = false
/-- a method: a plain def of the class or of one above it -/
structure Meth (K : PySem.W.Frag) (C : Addr) (m : Str) (f : Addr) : Prop where
  at_ : PySem.W.findIn K (.ref C) m = some (some (.ref f))
  fn : PySem.W.isFn K (.ref f) = true
  kp : PySem.W.keepIn K (.ref f) = true

section
variable {X : Cx} {pins : List (Addr × Obj)} {σ : St} {H : Hp} {s : Shared} {a C dx : Addr} {fs : List (Str × V)} {f : Str} {v : V} {A : Around} {E : Value → Shared → Prop}

/-- e.f where nothing but the object is asked: through attributeBase (super) and the last hold -/
theorem attr_of {prog : Program} {w : World} {env : Env} {e : Expr} {f : Str} {pos : Pos} {s : Shared} {Q : Value → Shared → Prop} (hb : attributeBase e f env (eval e env) = eval e env)
    (h : wpAny (model prog w) A (eval e env) (fun o s₁ => wpAny (model prog w) A (getAttr o f true) Q E s₁) E s) : wpAny (model prog w) A (eval (.Attribute e f pos) env) Q E s :=
  Attribute_any_ h (by rw [arm_eval_Attribute, hb])
end

/-! ### readings and rules -/
/-- e.f, an attribute of the instance -/
def tFld (K : PySem.W.Frag) (ta : TE) (f : Str) : TE := fun σ H Q => ta σ H fun x H1 => ∃ a C dx fs v, x = .ref a ∧ H1 a = some (.ins C dx fs) ∧ Cls K C ∧ NoAttr K C f ∧ fs.lookup f = some v ∧ Q v H1
/-- e.f, a constant of the class -/
def tCon (K : PySem.W.Frag) (ta : TE) (f : Str) : TE := fun σ H Q => ta σ H fun x H1 => ∃ a C dx fs v u, x = .ref a ∧ H1 a = some (.ins C dx fs) ∧ Cls K C ∧ Con K C f v u ∧ fs.lookup f = none ∧ Q v H1
/-- e.f = value -/
def sFld (K : PySem.W.Frag) (ta tv : TE) (f : Str) : TS := fun D σ H => tv σ H fun y H1 => ta σ H1 fun x H2 => ∃ a C dx fs, x = .ref a ∧ H2 a = some (.ins C dx fs) ∧ Cls K C ∧ NoAttr K C f ∧ fs.length < 1000 ∧
  D.nx σ (upd H2 a (.ins C dx (putF f y fs)))
/-- an augmented operator on two values -/
def InOp (X : Cx) (op : Operator) (rd : V → V → Hp → VK → Prop) : Prop :=
  ∀ (pins : List (Addr × Obj)) (s : Shared) (σ : St) (H : Hp) (x y : V) (u v : Value) (Q : VK), Inv X pins σ H s → RelV x u → RelV y v → rd x y H Q → wpAny (model X.prog X.w) X.A (inplaceOp op u v) (EP X pins σ Q) X.xe s
/-- e.f op= value -/
def sFldAug (K : PySem.W.Frag) (ta tv : TE) (rd : V → V → Hp → VK → Prop) (f : Str) : TS := fun D σ H => ta σ H fun x H1 => ∃ a C dx fs v, x = .ref a ∧ H1 a = some (.ins C dx fs) ∧ Cls K C ∧ NoAttr K C f ∧ fs.lookup f = some v ∧
  tv σ H1 fun y H2 => rd v y H2 fun z H3 => ∃ dx' fs', H3 a = some (.ins C dx' fs') ∧ fs'.length < 1000 ∧ D.nx σ (upd H3 a (.ins C dx' (putF f z fs')))

section
variable {X : Cx} {o e value : Expr} {f : Str} {pos pos' tpos : Pos} {ta tv : TE}
def rAdd : V → V → Hp → VK → Prop := fun x y H Q => ∃ i j, x = .int i ∧ y = .int j ∧ Q (.int (i + j)) H
def rSub : V → V → Hp → VK → Prop := fun x y H Q => ∃ i j, x = .int i ∧ y = .int j ∧ Q (.int (i - j)) H
end

/-! ### isinstance -/
section
variable {X : Cx} {pins : List (Addr × Obj)} {σ : St} {H : Hp} {s : Shared} {A : Around} {E : Value → Shared → Prop} {Q : Value → Shared → Prop} {c : Value} {b : Bool}
/-- the type of a value, as the fragment's deciders take it; for an instance its class -/
inductive TyOf (K : PySem.W.Frag) (H : Hp) : V → Value → Prop where
  | non : TyOf K H .non (.type "NoneType")
  | bl (x : Bool) : TyOf K H (.bl x) (.type "bool")
  | int (i : Int) : TyOf K H (.int i) (.type "int")
  | str (x : Str) : TyOf K H (.str x) (.type "str")
  | flt (x : UInt64) : TyOf K H (.flt x) (.type "float")
  | lst {a : Addr} {xs : List V} (e : H a = some (.lst xs)) : TyOf K H (.ref a) (.type "list")
  | frz {a : Addr} {o : Obj} {xs : List V} (e : H a = some (.frz o (.lst xs))) : TyOf K H (.ref a) (.type "list")
  | tup {a : Addr} {xs : List V} (e : H a = some (.tup xs)) : TyOf K H (.ref a) (.type "tuple")
  | dK {a : Addr} {kvs : List (Key × V)} (e : H a = some (.dK kvs)) : TyOf K H (.ref a) (.type "dict")
  | dT {a : Addr} {kvs : List (List Key × V)} (e : H a = some (.dT kvs)) : TyOf K H (.ref a) (.type "dict")
  | ins {a C dx : Addr} {fs : List (Str × V)} (e : H a = some (.ins C dx fs)) (cl : Cls K C) (ha : PySem.W.findIn K (.ref C) "__class__" = some (some (.builtin "object.__class__")))
      (hn : PySem.W.specialIn K (.builtin "object.__class__") "__get__" = some (some (.builtin "getset_descriptor.__get__"))) (htk : PySem.W.takesIn K (.builtin "object.__class__") = some true)
      (hm : PySem.W.mroIn K C (.type "object") = some true) : TyOf K H (.ref a) (.ref C)
/-- isinstance(x, c) for one class c, a built-in or an own one: kitOne's answer -/
theorem isinst_ok {x : V} {u t : Value} (I : Inv X pins σ H s) (rx : RelV x u) (ty : TyOf X.K H x t) (e : PySem.W.kitOne X.K t c = some b) (h : ∀ tk, Q (.bool b) { s with toks := tk }) :
    wpAny (model X.prog X.w) A (call (.builtin "isinstance") [u, c]) Q E s := by
  cases ty with
  | non => cases (show u = Value.none from rx); exact PySem.W.kia_one PySem.W.kitx_none I.kIn True.intro e (fun z => nomatch z) h
  | bl y => cases (show u = Value.bool y from rx); exact PySem.W.kia_one PySem.W.kitx_bool I.kIn True.intro e (fun z => nomatch z) h
  | int i => obtain ⟨t, q⟩ := (show ∃ t, u = Value.int i t from rx); cases q; exact PySem.W.kia_one PySem.W.kitx_int I.kIn True.intro e (fun z => nomatch z) h
  | str y => obtain ⟨t, q⟩ := (show ∃ t, u = Value.str y t from rx); cases q; exact PySem.W.kia_one PySem.W.kitx_str I.kIn True.intro e (fun z => nomatch z) h
  | flt y => obtain ⟨t, q⟩ := (show ∃ t, u = Value.float y t from rx); cases q; exact PySem.W.kia_one PySem.W.kitx_float I.kIn True.intro e (fun z => nomatch z) h
  | @lst a xs ea =>
    cases (show u = Value.ref a from rx)
    obtain ⟨_, _, n, _, h1⟩ := (show ObjOk X.prog X.w H s.heap a (.lst xs) from I.hok a _ ea)
    exact PySem.W.kia_one PySem.W.kitx_list I.kIn ⟨_, h1, rfl⟩ e (fun z => nomatch z) h
  | @frz a ob xs ea =>
    cases (show u = Value.ref a from rx)
    obtain ⟨_, _, _, n, _, h1⟩ := (show ObjOk X.prog X.w H s.heap a (.frz ob (.lst xs)) from I.hok a _ ea)
    exact PySem.W.kia_one PySem.W.kitx_list I.kIn ⟨_, h1, rfl⟩ e (fun z => nomatch z) h
  | @tup a xs ea =>
    cases (show u = Value.ref a from rx)
    obtain ⟨_, _, _, p⟩ := (show ObjOk X.prog X.w H s.heap a (.tup xs) from I.hok a _ ea)
    obtain ⟨o, h1, h2, _⟩ := p
    exact PySem.W.kia_one PySem.W.kitx_tuple I.kIn ⟨o, h1, h2⟩ e (fun z => nomatch z) h
  | @dK a kvs ea =>
    cases (show u = Value.ref a from rx)
    obtain ⟨_, _, vs, _, p⟩ := (show ObjOk X.prog X.w H s.heap a (.dK kvs) from I.hok a _ ea)
    obtain ⟨o, es, ep, h1, h2, _⟩ := p
    exact PySem.W.kia_one PySem.W.kitx_dict I.kIn ⟨o, h1, h2.1⟩ e (fun z => nomatch z) h
  | @dT a kvs ea =>
    cases (show u = Value.ref a from rx)
    obtain ⟨_, _, xs, _, o, es, ep, h1, h2, _⟩ := (show ObjOk X.prog X.w H s.heap a (.dT kvs) from I.hok a _ ea)
    exact PySem.W.kia_one PySem.W.kitx_dict I.kIn ⟨o, h1, h2.1⟩ e (fun z => nomatch z) h
  | @ins a C dx fs ea cl ha hn htk hm =>
    cases (show u = Value.ref a from rx)
    obtain ⟨mA, O, _⟩ := ins_get I.hok ea
    obtain ⟨od, J, _⟩ := O.look
    exact PySem.W.kia_one (PySem.W.kitx_own (cl.get _) cl.hd ha hn htk hm) I.kIn J e (fun z => nomatch z) h
end
end L2

namespace L2
open PySem PySem.Spec PyProof.Rows

/-! ### room -/
structure Room (k : Nat) (A : Around) : Prop where
  hd : A.handled = none
  dp : A.depth + 3 * k + 5 < recursionLimit
  un : A.units + 16 * k + 200 < cLine
theorem Room.mono {j k : Nat} {A : Around} (r : Room k A) (h : j ≤ k) : Room j A := ⟨r.hd, by have := r.dp; omega, by have := r.un; omega⟩
theorem Room.deeper {k : Nat} {A : Around} (r : Room (k + 1) A) (env : Env) : Room k (A.deeper env) :=
  ⟨r.hd, by have := r.dp; show A.depth + 1 + 3 * k + 5 < _; omega, by have := r.un; show A.units + 3 + 16 * k + 200 < _; omega⟩
theorem make_depth {A : Around} {C : Addr} {us : List Value} {kw : List (Str × Value)} : (A.under (.builtin "type.__call__" ⟨.ref C :: us, kw⟩)).depth = A.depth + 1 := by
  first | rfl | simp [Around.under, Code.weight, Code.isCreation, Code.isGuard, Code.isCaller, Code.frames, Code.isFrame, guardIds]
theorem make_units {A : Around} {C : Addr} {us : List Value} {kw : List (Str × Value)} : (A.under (.builtin "type.__call__" ⟨.ref C :: us, kw⟩)).units = A.units + 1 := by
  first | rfl | simp [Around.under, Code.cUnits, Code.frames, Code.isFrame]
theorem Room.make {k : Nat} {A : Around} (r : Room (k + 1) A) (C : Addr) (us : List Value) (kw : List (Str × Value)) : Room k (A.under (.builtin "type.__call__" ⟨.ref C :: us, kw⟩)) :=
  ⟨r.hd, by have := r.dp; rw [make_depth]; omega, by have := r.un; rw [make_units]; omega⟩
theorem Room.depth {k : Nat} {A : Around} (r : Room k A) : A.depth < recursionLimit := by have := r.dp; omega
theorem Room.units {k : Nat} {A : Around} (r : Room k A) : A.units + 64 < cLine := by have := r.un; omega
/-! ### argument lists and displays -/
def tNil : TA := fun _ H Q => Q [] H
def tCons (ta : TE) (tr : TA) : TA := fun σ H Q => ta σ H fun x H1 => tr σ H1 fun xs H2 => Q (x :: xs) H2
section
variable {X : Cx} {e : Expr} {es : List Expr} {te : TE} {t : TA} {pos : Pos}
theorem pa_nil : PA X [] tNil := fun _ _ _ _ H Q I h => Calls.spliced_nil ⟨[], H, I, .nil, h⟩
theorem pa_cons (ha : PE X e te) (hr : PA X es t) (hs : starEach (e :: es) X.env = (false, eval e X.env) :: starEach es X.env := by rfl) : PA X (e :: es) (tCons te t) := by
  intro pos pins s σ H Q I h
  rw [hs]
  show wpAny _ _ (spliced ((false, eval e X.env) :: backTo pos (starEach es X.env))) _ _ s
  refine Calls.spliced_cons (thn (ha pins s σ H _ I h) fun u s1 ⟨x, H1, I1, r1, q1⟩ => ?_)
  exact thn (hr pos pins s1 σ H1 _ I1 q1) fun us s2 ⟨xs, H2, I2, r2, q2⟩ => ⟨x :: xs, H2, I2, .cons r1 r2, q2⟩

/-- a tuple, a list of written items -/
def tTup (t : TA) : TE := fun σ H Q => t σ H fun xs H1 => xs.length ≤ sizeLine ∧ ∀ p, H1 p = none → Q (.ref p) (upd H1 p (.tup xs))
def tLst (t : TA) : TE := fun σ H Q => t σ H fun xs H1 => xs.length ≤ sizeLine ∧ ∀ p, H1 p = none → Q (.ref p) (upd H1 p (.lst xs))
theorem pe_tup {x1} (h : PA X es t) : PE X (.Tuple es x1 pos) (tTup t) := by
  intro pins s σ H Q I hq
  refine wpAny_Tuple_spliced (thn (h pos pins s σ H _ I hq) fun us s1 ⟨xs, H1, I1, r, z, q⟩ => ⟨by rw [← r.length]; exact z, ?_⟩)
  have hf : H1 s1.heap.objs.size = none := I1.hok.fresh (Nat.le_refl _)
  refine ⟨.ref s1.heap.objs.size, upd H1 s1.heap.objs.size (.tup xs), I1.laid (t' := s1.toks) (fun b u e => Heap.get?_push_of_some _ e) (Nat.le_refl _) ?_, rfl, q _ hf⟩
  exact ⟨z, us, r, ⟨_, Heap.get?_push_size _ rfl, rfl, _, rfl⟩⟩
theorem pe_lst (h : PA X es t) : PE X (.List es pos) (tLst t) := by
  intro pins s σ H Q I hq
  refine wpAny_List_spliced (thn (h pos pins s σ H _ I hq) fun us s1 ⟨xs, H1, I1, r, z, q⟩ => ⟨by rw [← r.length]; exact z, ?_⟩)
  have hf : H1 s1.heap.objs.size = none := I1.hok.fresh (Nat.le_refl _)
  refine ⟨.ref s1.heap.objs.size, upd H1 s1.heap.objs.size (.lst xs), I1.laid (t' := s1.toks) (fun b u e => Heap.get?_push_of_some _ e) (Nat.le_refl _) ?_, rfl, q _ hf⟩
  exact ⟨z, us, 0, r, Heap.get?_push_size _ rfl⟩
end

/-! ### what a def promises -/
/-- a def's promise: the bound arguments in the parameters' order, the heap, the wanted end, the wanted exception -/
abbrev Sp := List V → Hp → VK → XK → Prop
/-- how an exception lies behind a call (file 08 gives it): the callers' frames, abstract heap and state ahead of the call, the wish, the exception, the state -/
abbrev CXT := List Env → Hp → Shared → XK → Value → Shared → Prop

/-- the state at a call -/
structure Env0 (P : Program) (w : World) (K : PySem.W.Frag) (mg : Str → Option Value) (base : Heap) (A : Around) (outer : List Env) (s : Shared) (H : Hp) : Prop where
  frames : A.frames = some outer
  mod : Mod K mg base
  bs : ∀ b o, base.get? b = some o → s.heap.get? b = some o ∧ H b = none
  bsz : base.objs.size ≤ s.heap.objs.size
  funs : s.heap.FunFrames base outer
  frf : ∀ b ∈ frs outer, H b = none
  hok : HOk P w H s.heap
  bare : AllBare s.gens
/-- a call's end -/
def CE (outer : List Env) (P : Program) (w : World) (H : Hp) (s : Shared) (Q : VK) (u : Value) (s' : Shared) : Prop :=
  ∃ v H', s'.os = s.os ∧ AllBare s'.gens ∧ Un (frs outer) [] H H' s.heap s'.heap ∧ HOk P w H' s'.heap ∧ RelV v u ∧ Q v H'
def CR (CX : CXT) (outer : List Env) (P : Program) (w : World) (H : Hp) (s : Shared) (Q : VK) (E : XK) (r : Result) (s' : Shared) : Prop :=
  match r with
  | .ok (.ret u) => CE outer P w H s Q u s'
  | .ok _ => False
  | .error e => CX outer H s E e s'
structure FnOk (P : Program) (w : World) (K : PySem.W.Frag) (mg : Str → Option Value) (base : Heap) (CX : CXT) (k : Nat) (f : Addr) (fd : FuncData) (ps : List Str) (sp : Sp) : Prop where
  len : ∀ vs H Q E, sp vs H Q E → vs.length = ps.length
  run : ∀ (A : Around) (outer : List Env) (s : Shared) (H : Hp) (args : Args) (us : List Value) (vs : List V) (Q : VK) (E : XK), Room k A → Env0 P w K mg base A outer s H → BindsTo s fd args (ps.zip us) → Vals vs us → sp vs H Q E →
    codeAny (model P w) A (.call (.ref f) args) (CR CX outer P w H s Q E) s
theorem Env0.make {P : Program} {w : World} {K : PySem.W.Frag} {mg : Str → Option Value} {base : Heap} {A : Around} {outer : List Env} {s : Shared} {H : Hp} (e : Env0 P w K mg base A outer s H) (C : Addr) (us : List Value) (kw : List (Str × Value)) :
    Env0 P w K mg base (A.under (.builtin "type.__call__" ⟨.ref C :: us, kw⟩)) outer s H := ⟨by first | exact e.frames | (simpa [Around.under, Code.envs, Code.isFrame, pushEnvs] using e.frames), e.mod, e.bs, e.bsz, e.funs, e.frf, e.hok, e.bare⟩
section
variable {X : Cx} {pins : List (Addr × Obj)} {σ : St} {H : Hp} {s s' : Shared}
/-- from a body: what a callee wants -/
theorem Inv.env0 (I : Inv X pins σ H s) : Env0 X.prog X.w X.K X.mg X.base X.A X.stack s H :=
  ⟨I.ok.frames, I.ok.mod, I.bs, Nat.le_trans I.ok.bsz I.sz, I.stack, I.stkFree, I.hok, I.bare⟩
/-- behind a call -/
theorem Inv.after {Q : VK} {u : Value} (I : Inv X pins σ H s) (h : CE X.stack X.prog X.w H s Q u s') : EP X pins σ Q u s' := by
  obtain ⟨v, H', os, bare, un, hok, r, q⟩ := h
  obtain ⟨hh, g, d, t, os'⟩ := s'
  obtain rfl : os' = s.os := os
  exact ⟨v, H', I.call (h' := hh) (g' := g) (d' := d) (t' := t) (ch := []) un hok bare (fun b z => absurd z (by simp)), r, q⟩
end

/-! ### calls -/
/-- f(..): the written arguments, then the defaults dvs; E: what is wanted of an exception -/
def tCall (sp : Sp) (dvs : List V) (E : XK) (t : TA) : TE := fun σ H Q => t σ H fun vs H1 => sp (vs ++ dvs) H1 Q E
/-- o.m(..) of an instance of the class at C -/
def tMeth (C : Addr) (m : Str) (sp : Sp) (dvs : List V) (E : XK) (ta : TE) (t : TA) : TE := fun σ H Q => ta σ H fun x H1 => ∃ a dx fs, x = .ref a ∧ H1 a = some (.ins C dx fs) ∧ fs.lookup m = none ∧
  t σ H1 fun vs H2 => sp (x :: (vs ++ dvs)) H2 Q E
/-- C(..): a new instance and its dict, then __init__ -/
def tMake (C : Addr) (sp : Sp) (dvs : List V) (E : XK) (t : TA) : TE := fun σ H Q => t σ H fun vs H1 => ∀ x dx, H1 x = none → H1 dx = none → dx ≠ x →
  sp (.ref x :: (vs ++ dvs)) (upd (upd H1 dx (.own x)) x (.ins C dx [])) (fun v H2 => v = .non ∧ Q (.ref x) H2) E

/-- how the parameters are bound: us the positional arguments, kw the keywords' values by name, ds the defaults that fill up -/
def Binds (K : PySem.W.Frag) (fd : FuncData) (ps : List Str) (ds : List Value) : Prop :=
  ∀ (s : Shared) (us : List Value), K.In s.heap → (us ++ ds).length = ps.length → BindsTo s fd ⟨us, []⟩ (ps.zip (us ++ ds))
/-- every parameter is given -/
theorem Binds.all {K : PySem.W.Frag} {fd : FuncData} {ps : List Str} (h : ∀ us : List Value, us.length = ps.length → bindArgs fd ⟨us, []⟩ = pure (ps.zip us)) : Binds K fd ps [] := fun s us _ hl => by
  rw [List.append_nil] at hl ⊢
  exact .of_eq (h us hl)

/-- an exception of a callee reaches what this body wants of exceptions -/
def Passes (CX : CXT) (X : Cx) (E : XK) : Prop := ∀ (pins : List (Addr × Obj)) (σ : St) (H : Hp) (s : Shared) (e : Value) (s' : Shared), Inv X pins σ H s → CX X.stack H s E e s' → X.xe e s'

section
variable {X : Cx} {CX : CXT} {k : Nat} {f C : Addr} {fd : FuncData} {ps : List Str} {sp : Sp} {dvs : List V} {ds : List Value} {E : XK} {x m : Str} {p pos apos : Pos} {e o : Expr} {es : List Expr} {ta : TE} {t : TA}

/-- the callee runs -/
theorem run_fn {pins : List (Addr × Obj)} {σ : St} {H : Hp} {s : Shared} {Q : VK} {us : List Value} {vs : List V} (F : FnOk X.prog X.w X.K X.mg X.base CX k f fd ps sp) (hr : Room k X.A) (hb : Binds X.K fd ps ds) (hd : Vals dvs ds) (hx : Passes CX X E)
    (I : Inv X pins σ H s) (r : Vals vs us) (h : sp (vs ++ dvs) H Q E) : wpAny (model X.prog X.w) X.A (call (.ref f) us) (EP X pins σ Q) X.xe s := by
  have r2 : Vals (vs ++ dvs) (us ++ ds) := r.append hd
  have hl : (us ++ ds).length = ps.length := by rw [← r2.length]; exact F.len _ _ _ _ h
  refine wpAny_call (codeAny_mono (F.run X.A X.stack s H ⟨us, []⟩ (us ++ ds) (vs ++ dvs) Q E hr I.env0 (hb s us I.kIn hl) r2 h) fun r s' hq => ?_)
  cases r with
  | error e => exact hx pins σ H s e s' I hq
  | ok fl =>
    cases fl with
    | ret u => exact I.after hq
    | next => exact False.elim hq
    | brk => exact False.elim hq
    | cont => exact False.elim hq

theorem pe_call (F : FnOk X.prog X.w X.K X.mg X.base CX k f fd ps sp) (hr : Room k X.A) (hg : Gl X x) (hm : X.mg x = some (.ref f)) (hk : PySem.W.keepIn X.K (.ref f) = true) (hb : Binds X.K fd ps ds) (hd : Vals dvs ds) (hx : Passes CX X E)
    (ha : PA X (e :: es) t) (hdb : (x == ("__debug__" : Str)) = false := by decide) (he : starEach (e :: es) X.env = (false, eval e X.env) :: starEach es X.env := by rfl) (hpl : (backTo pos (starEach es X.env)).any (·.1) = false := by rfl) :
    PE X (.Call (.Name x p) (e :: es) [] pos) (tCall sp dvs E t) := by
  intro pins s σ H Q I h
  refine wpAny_Call_Name_kw (ld_glob I hg hm ?_ hdb)
  refine PySem.W.callWith_K (h₀ := X.base) I.ok.mod.kin hk (thn (ha pos pins s σ H _ I h) fun us s1 ⟨vs, H1, I1, r, q⟩ => ⟨I1.kIn, ?_⟩) he hpl
  exact run_fn F hr hb hd hx I1 r q
/-- what a class must have to be made -/
structure Mk (K : PySem.W.Frag) (C f : Addr) : Prop where
  makes : PySem.W.makesIn K C = true
  init : PySem.W.findIn K (.ref C) "__init__" = some (some (.ref f))
  fn : PySem.W.isFn K (.ref f) = true
  kp : PySem.W.keepIn K (.ref C) = true

end

/-! ### keywords -/
/-- the values of the keywords, from the left -/
def PK (X : Cx) (kws : List Keyword) (t : TA) : Prop :=
  ∀ (pos : Pos) (pins : List (Addr × Obj)) (s : Shared) (σ : St) (H : Hp) (Q : List V → Hp → Prop), Inv X pins σ H s → t σ H Q → wpAny (model X.prog X.w) X.A (evalAll ((backToKw pos (keywordEach kws X.env)).map (·.2))) (AP X pins σ Q) X.xe s
section
variable {X : Cx} {CX : CXT} {k : Nat} {f C : Addr} {fd : FuncData} {ps ks : List Str} {sp : Sp} {E : XK} {x m : Str} {p pos apos kpos : Pos} {e o : Expr} {es : List Expr} {kws : List Keyword} {te ta : TE} {t tk : TA} {nm : Option Str}
/-- how a call with keywords binds: g puts the positional values us and the keywords' values ws (names ks) in the parameters' order, defaults among them -/
structure KBinds (K : PySem.W.Frag) (fd : FuncData) (ps ks : List Str) (g : List Value → List Value → List Value) (gV : List V → List V → List V) : Prop where
  to : ∀ (s : Shared) (us ws : List Value), K.In s.heap → (g us ws).length = ps.length → BindsTo s fd ⟨us, ks.zip ws⟩ (ps.zip (g us ws))
  rel : ∀ {vs : List V} {us : List Value} {zs : List V} {ws : List Value}, Vals vs us → Vals zs ws → Vals (gV vs zs) (g us ws)
def tCallK (sp : Sp) (gV : List V → List V → List V) (E : XK) (t tk : TA) : TE := fun σ H Q => t σ H fun vs H1 => tk σ H1 fun zs H2 => sp (gV vs zs) H2 Q E
variable {g : List Value → List Value → List Value} {gV : List V → List V → List V}
end

/-! ### a def's body keeps its promise -/
/-- names: the parameters first -/
structure FnScope (N P : List Str) (sc : Scope) : Prop where
  kind : sc.kind = .function
  co : sc.isCoroutine = false
  gen : sc.isGenerator = false
  nd : N.Nodup
  pre : N.take P.length = P
  par : ∀ x ∈ P, sc.names.lookup x = some .local ∨ sc.names.lookup x = some .cell
  nofree : ∀ y ∈ sc.names, y.2 ≠ .free

theorem bindL_out {kindOf : Str → Option NameKind} {x : Str} : ∀ {binds : List (Str × Value)} {m : Str → Option Value}, (∀ v, (x, v) ∉ binds) → bindL kindOf binds m x = m x
  | [], _, _ => rfl
  | (n, v) :: r, m, h => by
    unfold bindL
    rw [bindL_out fun w hw => h w (List.mem_cons_of_mem _ hw)]
    split
    · have : x ≠ n := by rintro rfl; exact h v List.mem_cons_self
      simp [this]
    · rfl
theorem bindC_out {kindOf : Str → Option NameKind} {x : Str} : ∀ {binds : List (Str × Value)} {m : Str → Option Value}, (∀ v, (x, v) ∉ binds) → bindC kindOf binds m x = m x
  | [], _, _ => rfl
  | (n, v) :: r, m, h => by
    unfold bindC
    rw [bindC_out fun w hw => h w (List.mem_cons_of_mem _ hw)]
    split
    · rfl
    · have : x ≠ n := by rintro rfl; exact h v List.mem_cons_self
      simp [this]
theorem bindL_get {kindOf : Str → Option NameKind} {x : Str} {v : Value} : ∀ {P : List Str} {vs : List Value} {i : Nat} {m : Str → Option Value}, P.Nodup → P[i]? = some x → vs[i]? = some v → kindOf x = some .local →
    bindL kindOf (P.zip vs) m x = some v
  | [], _, _, _, _, h, _, _ => by simp at h
  | _ :: _, [], _, _, _, _, h, _ => by simp at h
  | p :: P, w :: vs, 0, m, nd, h1, h2, hk => by
    simp at h1 h2; subst h1; subst h2
    show bindL kindOf ((p, w) :: P.zip vs) m p = _
    unfold bindL
    rw [bindL_out fun v hv => (List.nodup_cons.mp nd).1 (List.of_mem_zip hv).1, if_pos hk]
    simp
  | p :: P, w :: vs, i + 1, m, nd, h1, h2, hk => by
    show bindL kindOf ((p, w) :: P.zip vs) m x = _
    unfold bindL
    exact bindL_get (i := i) (List.nodup_cons.mp nd).2 (by simpa using h1) (by simpa using h2) hk
theorem bindC_get {kindOf : Str → Option NameKind} {x : Str} {v : Value} : ∀ {P : List Str} {vs : List Value} {i : Nat} {m : Str → Option Value}, P.Nodup → P[i]? = some x → vs[i]? = some v → kindOf x ≠ some .local →
    bindC kindOf (P.zip vs) m x = some v
  | [], _, _, _, _, h, _, _ => by simp at h
  | _ :: _, [], _, _, _, _, h, _ => by simp at h
  | p :: P, w :: vs, 0, m, nd, h1, h2, hk => by
    simp at h1 h2; subst h1; subst h2
    show bindC kindOf ((p, w) :: P.zip vs) m p = _
    unfold bindC
    rw [bindC_out fun v hv => (List.nodup_cons.mp nd).1 (List.of_mem_zip hv).1, if_neg hk]
    simp
  | p :: P, w :: vs, i + 1, m, nd, h1, h2, hk => by
    show bindC kindOf ((p, w) :: P.zip vs) m x = _
    unfold bindC
    exact bindC_get (i := i) (List.nodup_cons.mp nd).2 (by simpa using h1) (by simpa using h2) hk

/-- the names' values at the entry -/
def start (N : List Str) (vs : List V) : St := vs.map some ++ List.replicate (N.length - vs.length) none

/-- the context of a def's body, at its entry; an exception leaves the frame, then lies as CX says -/
def cxOf (CX : CXT) (P : Program) (w : World) (K : PySem.W.Frag) (mg : Str → Option Value) (base : Heap) (N : List Str) (qual : Str) (scope : Scope) (f : Addr) (cd : Value) (A : Around) (outer : List Env) (s : Shared) (H : Hp) (E : XK) : Cx where
  prog := P
  w := w
  K := K
  mg := mg
  base := base
  A := A.deeper (envOfC qual scope s.heap.objs.size f cd)
  N := N
  s₀ := s
  H₀ := H
  env := envOfC qual scope s.heap.objs.size f cd
  outer := outer
  stack := envOfC qual scope s.heap.objs.size f cd :: outer
  ex := []
  calm := true
  fn := fun _ => true
  pn := []
  xe := fun e s' => wpAny (model P w) (A.deeper (envOfC qual scope s.heap.objs.size f cd)) (leaving (envOfC qual scope s.heap.objs.size f cd) e) (fun _ s'' => CX outer H s E e s'') (fun e' s'' => CX outer H s E e' s'') s'

theorem cell_has {sc : Scope} {n : Nat} {x : Str} (h : sc.names.lookup x = some .cell) : ∃ c, (cellsFrom n sc.names []).lookup x = some c := by
  have q := PySem.W.cellsFrom_some sc.names n [] (.inl h)
  exact Option.isSome_iff_exists.mp q

theorem inv_start {CX : CXT} {P : Program} {w : World} {K : PySem.W.Frag} {mg : Str → Option Value} {base : Heap} {N ps : List Str} {qual : Str} {scope : Scope} {f : Addr} {cd : Value} {A : Around} {outer : List Env} {s s1 : Shared} {H : Hp} {E : XK} {us : List Value} {vs : List V}
    (S : FnScope N ps scope) (hd : A.handled = none) (e0 : Env0 P w K mg base A outer s H) (hl : vs.length = ps.length) (r : Vals vs us)
    (x : InCallC s s.heap.objs.size (bindL (envOfC qual scope s.heap.objs.size f cd).kindOf (ps.zip us) fun _ => none) (cellsFrom (s.heap.objs.size + 1) scope.names []) (bindC (envOfC qual scope s.heap.objs.size f cd).kindOf (ps.zip us) fun _ => none) s1) :
    Inv (cxOf CX P w K mg base N qual scope f cd A outer s H E) [] (start N vs) H s1 := by
  have hpl : ps.length ≤ N.length := by have := congrArg List.length S.pre; rw [List.length_take] at this; omega
  obtain ⟨h1, tk, rfl, hk⟩ := x.done
  have noA : ∀ b : Addr, b ∉ (cxOf CX P w K mg base N qual scope f cd A outer s H E).ex := fun b z => absurd (show b ∈ ([] : List Addr) from z) (by simp)
  refine ⟨⟨e0.mod, S.kind, rfl, rfl, Nat.le_refl _, fun y z c h1 h2 => ?_, fun y hy => ?_, fun y c _ h => ?_, fun _ => hd, Around.frames_deeper e0.frames, .inr ⟨rfl, rfl⟩, fun b z => absurd z (noA b), e0.bs, e0.bsz, fun b _ _ => noA b, fun b z => absurd z (noA b), e0.funs, e0.frf⟩,
    rfl, e0.bare, Un.kept hk, ⟨_, x.toInCall.ns, fun i y v h1 h2 h3 => ?_⟩, fun y c h => ⟨_, x.cell y c h⟩, e0.hok.fresh (Nat.le_refl _), fun y c h => ?_, fun p hp => absurd (show p ∈ ([] : List (Addr × Obj)) from hp) (by simp), e0.hok.kept hk, ?_⟩
  · exact name_of_addr x.apart (PySem.mem_of_lookup h1) (PySem.mem_of_lookup h2)
  · have hy : scope.names.lookup y = some .cell ∨ scope.names.lookup y = some .free := hy
    rcases hy with hy | hy
    · exact cell_has hy
    · exact absurd rfl (S.nofree _ (PySem.mem_of_lookup hy))
  · exact Nat.le_of_lt (x.above y c (PySem.mem_of_lookup h))
  · have hi : i < vs.length := by
      unfold start at h2
      by_cases hi : i < vs.length
      · exact hi
      · rw [List.getElem?_append_right (by simpa using hi)] at h2
        rw [List.getElem?_replicate] at h2
        split at h2 <;> cases h2
    have ha : vs[i]? = some v := by
      unfold start at h2
      rw [List.getElem?_append_left (by simpa using hi), List.getElem?_map] at h2
      cases e : vs[i]? with
      | none => rw [e] at h2; cases h2
      | some a => rw [e] at h2; cases h2; rfl
    obtain ⟨u, hu, rv⟩ := r.get ha
    have hp : ps[i]? = some y := by
      rw [← S.pre, List.getElem?_take_of_lt (by omega)]; exact h1
    have ndP : ps.Nodup := by rw [← S.pre]; exact S.nd.sublist (List.take_sublist _ _)
    refine ⟨u, rv, ?_⟩
    rcases S.par y (List.mem_of_getElem? hp) with k | k
    · exact .inl ⟨k, bindL_get ndP hp hu k⟩
    · obtain ⟨c, e⟩ := cell_has (n := s.heap.objs.size + 1) k
      refine .inr ⟨.inl k, c, e, ?_⟩
      have q := x.cell y c e
      rw [bindC_get ndP hp hu (by show scope.names.lookup y ≠ _; rw [k]; decide)] at q
      exact q
  · exact e0.hok.fresh (Nat.le_of_lt (x.above y c (PySem.mem_of_lookup h)))
  · unfold start
    show _ = N.length
    rw [List.length_append, List.length_map, List.length_replicate]
    omega

/-- THE RULE: a def (or a method) of the text, by its body. The body's reading t is chosen for each entry; it is run at the parameters' values -/
theorem fn_of {CX : CXT} {P : Program} {w : World} {K : PySem.W.Frag} {mg : Str → Option Value} {base : Heap} {k : Nat} {f : Addr} {name qual : Str} {params : Arguments} {body : List Stmt} {scope : Scope} {dV kV doc pm cdv ct oc : Value} {an od : Option Addr}
    {osl : Array (Option Value)} {N ps : List Str} {sp : Sp} (lk : K.lookup f = some ⟨oc, od, .func (PySem.W.fnOf name qual params body scope dV kV doc pm an cdv ct), osl⟩) (hcd : PySem.W.codeIn K cdv qual = true) (S : FnScope N ps scope)
    (len : ∀ vs H Q E, sp vs H Q E → vs.length = ps.length)
    (hbody : ∀ (A : Around) (outer : List Env) (s : Shared) (H : Hp) (vs : List V) (Q : VK) (E : XK), Room k (A.deeper (envOfC qual scope s.heap.objs.size f cdv)) → sp vs H Q E →
      ∃ t, PSs (cxOf CX P w K mg base N qual scope f cdv A outer s H E) body t ∧ t { nx := fun _ H' => Q .non H', rt := Q } (start N vs) H) :
    FnOk P w K mg base CX (k + 1) f (PySem.W.fnOf name qual params body scope dV kV doc pm an cdv ct) ps sp := by
  refine ⟨len, fun A outer s H args us vs Q E hr e0 hb r hsp => ?_⟩
  have hl := len _ _ _ _ hsp
  have KX : K.In s.heap := e0.mod.kin.keeps fun b o e => (e0.bs b o e).1
  have lim : s.heap.NoLimit := e0.mod.nolimit.keeps fun b o e => (e0.bs b o e).1
  have hkind : ∀ y ∈ ps.zip us, scope.names.lookup y.1 = some .local ∨ (scope.names.lookup y.1 = some .cell ∧ ((cellsFrom (s.heap.objs.size + 1) scope.names []).lookup y.1).isSome = true) := fun ⟨n, v⟩ hy => by
    rcases S.par n (List.of_mem_zip hy).1 with q | q
    · exact .inl q
    · exact .inr ⟨q, PySem.W.cellsFrom_some _ _ _ (.inl q)⟩
  refine codeAny_call_function hr.depth (KX _ _ lk) rfl S.co S.gen rfl (PySem.W.codeRec_of KX hcd) (hb _ _ _ _ ?_)
  refine wpAny_newFunctionEnv_cells S.kind hkind fun env he s1 x => ?_
  subst he
  refine ⟨lim.keeps x.toInCall.keep, codeAny_func ?_⟩
  obtain ⟨t, ht, hq⟩ := hbody A outer s H vs Q E (hr.deeper _) hsp
  have I : Inv (cxOf CX P w K mg base N qual scope f cdv A outer s H E) [] (start N vs) H s1 := inv_start S hr.hd e0 hl r x
  refine wpAny_mono (ht [] s1 (start N vs) H _ I hq) (fun fl s' hs => ?_) fun e s' hs => hs
  have fin : ∀ {σ' : St} {H' : Hp} {v : V} {u : Value}, Inv (cxOf CX P w K mg base N qual scope f cdv A outer s H E) [] σ' H' s' → RelV v u → Q v H' → CE outer P w H s Q u s' :=
    fun {σ' H' v u} J rv q => ⟨v, H', J.os, J.bare, J.base, J.hok, rv, q⟩
  cases fl with
  | ret u =>
    obtain ⟨v, σ', H', J, rv, q⟩ := hs
    exact fin J rv q
  | next =>
    obtain ⟨σ', H', J, q⟩ := hs
    exact fin (v := V.non) (u := Value.none) J rfl q
  | brk =>
    obtain ⟨_, _, _, q⟩ := hs
    exact False.elim q
  | cont =>
    obtain ⟨_, _, _, q⟩ := hs
    exact False.elim q
end L2

namespace L2
open PySem PySem.Spec PyProof.Rows
section
variable {X : Cx} {x : Str} {p pos : Pos} {e : Expr} {es : List Expr} {t : TA} {id T : String} {r : List V → Hp → VK → Prop}

def tCB (r : List V → Hp → VK → Prop) (t : TA) : TE := fun σ H Q => t σ H fun vs H1 => r vs H1 Q
/-- f(e, ..), f a built-in function -/
theorem pe_callB (hc : CallR X (.builtin id) r) (hg : Gl X x) (hm : X.mg x = none) (hv : bootBuiltins x = some (.builtin id)) (ha : PA X (e :: es) t) (hn : x ≠ "__name__" := by decide) (hdb : (x == ("__debug__" : Str)) = false := by decide)
    (he : starEach (e :: es) X.env = (false, eval e X.env) :: starEach es X.env := by rfl) (hpl : (backTo pos (starEach es X.env)).any (·.1) = false := by rfl) : PE X (.Call (.Name x p) (e :: es) [] pos) (tCB r t) := by
  intro pins s σ H Q I h
  refine wpAny_Call_Name_kw (ld_blt I hg hm hv ?_ hn hdb)
  exact PyProof.Rows.callWith_builtin1 (thn (ha pos pins s σ H _ I h) fun us s1 ⟨vs, H1, I1, r1, q1⟩ => hc pins s1 σ H1 vs us Q I1 r1 q1) he hpl
/-- T(e, ..), T a built-in type -/
theorem pe_callTy (hc : CallR X (.type T) r) (hg : Gl X x) (hm : X.mg x = none) (hv : bootBuiltins x = some (.type T)) (ha : PA X (e :: es) t) (hn : x ≠ "__name__" := by decide) (hdb : (x == ("__debug__" : Str)) = false := by decide)
    (he : starEach (e :: es) X.env = (false, eval e X.env) :: starEach es X.env := by rfl) (hpl : (backTo pos (starEach es X.env)).any (·.1) = false := by rfl) : PE X (.Call (.Name x p) (e :: es) [] pos) (tCB r t) := by
  intro pins s σ H Q I h
  refine wpAny_Call_Name_kw (ld_blt I hg hm hv ?_ hn hdb)
  exact PyProof.Rows.callWith_type1 (thn (ha pos pins s σ H _ I h) fun us s1 ⟨vs, H1, I1, r1, q1⟩ => hc pins s1 σ H1 vs us Q I1 r1 q1) he hpl
end
end L2

namespace HT
open PySem PyProof.Rows

/-- t < u of tuples of ints -/
def lexLt : List Int → List Int → Bool
  | [], [] => false
  | [], _ :: _ => true
  | _ :: _, [] => false
  | x :: xs, y :: ys => if x = y then lexLt xs ys else decide (x < y)
section
open PySem.SeqAt
open PySem.AutoSeq1 (wpAny_loadPart')
open PySem.MeetsSeq PySem.MeetsSeq2 PySem.MeetsSeq3

end

section
variable {prog : Program} {w : World} {A : Around} {E : Value → Shared → Prop} {s : Shared}

/-! ### t[a:b], not the whole -/
/-- a slice's bound as a place among n (d where it is left out) -/
def sIx (n d : Nat) : Option Int → Nat
  | none => d
  | some v => if v < 0 then (v + (n : Int)).toNat else min v.toNat n
end
end HT

namespace L2
open PySem PySem.Spec PyProof.Rows

/-! ### the parts of a slice -/
abbrev TO := St → Hp → (Option Int → Hp → Prop) → Prop
/-- a slice's part (left out, or an int) -/
def PO (X : Cx) (e : Option Expr) (t : TO) : Prop :=
  ∀ (pins : List (Addr × Obj)) (s : Shared) (σ : St) (H : Hp) (Q : Option Int → Hp → Prop), Inv X pins σ H s → t σ H Q →
    wpAny (model X.prog X.w) X.A (evalPart e X.env) (fun u s' => ∃ o H', Inv X pins σ H' s' ∧ IsPart u o ∧ Q o H') X.xe s
def tNoPart : TO := fun _ H Q => Q none H
def tPart (t : TE) : TO := fun σ H Q => t σ H fun x H1 => ∃ i, x = .int i ∧ Q (some i) H1

section
variable {X : Cx} {e : Expr} {te : TE} {lo hi : Option Expr} {tl th : TO} {pos p2 : Pos}

theorem po_none : PO X none tNoPart := by
  intro pins s σ H Q I h
  rw [evalPart_none]
  exact wpAny_pure ⟨none, H, I, .none, h⟩
theorem po_some (h : PE X e te) : PO X (some e) (tPart te) := by
  intro pins s σ H Q I hw
  rw [evalPart_some]
  refine thn (h pins s σ H _ I hw) fun u s1 ⟨x, H1, I1, r1, q1⟩ => ?_
  obtain ⟨i, rfl, q⟩ := q1
  obtain ⟨t, rfl⟩ := r1
  exact ⟨some i, H1, I1, .int i t, q⟩

/-- what a slice of a value is, by values: the slice object stands at sl -/
def SlR (X : Cx) (r : V → Option Int → Option Int → Hp → VK → Prop) : Prop :=
  ∀ (pins : List (Addr × Obj)) (s : Shared) (σ : St) (H : Hp) (x : V) (v vl vu : Value) (lo hi : Option Int) (sl : Addr) (Q : VK), Inv X pins σ H s → RelV x v → s.heap.IsSliceOf sl vl vu .none → IsPart vl lo → IsPart vu hi → r x lo hi H Q →
    ∃ T id, typeLookup (.type T) "__getitem__" = pure (some (.builtin id)) ∧ s.TypeIs v T ∧ wpAny (model X.prog X.w) X.A (getItem v (.ref sl)) (EP X pins σ Q) X.xe s
def tSl (r : V → Option Int → Option Int → Hp → VK → Prop) (te : TE) (tl th : TO) : TE := fun σ H Q => te σ H fun x H1 => tl σ H1 fun l H2 => th σ H2 fun u H3 => r x l u H3 Q
/-- a[lo:hi], any a -/
theorem pe_slice {r : V → Option Int → Option Int → Hp → VK → Prop} (hr : SlR X r) (he : PE X e te) (hl : PO X lo tl) (hu : PO X hi th) : PE X (.Subscript e (.Slice lo hi none p2) pos) (tSl r te tl th) := by
  intro pins s σ H Q I h
  refine Subscript_ (thn (he pins s σ H _ I h) fun v s1 ⟨x, H1, I1, r1, q1⟩ => ?_)
  refine wpAny_Slice (thn (hl pins s1 σ H1 _ I1 q1) fun vl s2 ⟨l, H2, I2, pl, q2⟩ => thn (hu pins s2 σ H2 _ I2 q2) fun vu s3 ⟨u, H3, I3, pu, q3⟩ => ?_)
  rw [evalPart_none]
  refine wpAny_pure ?_
  have I4 : Inv X pins σ H3 { s3 with heap := s3.heap.push { cls := .type "slice", data := .fields #[vl, vu, .none] } } := I3.kept (t' := s3.toks) fun b ob q => Heap.get?_push_of_some _ q
  obtain ⟨T, id, hT, ht, hg⟩ := hr pins { s3 with heap := s3.heap.push { cls := .type "slice", data := .fields #[vl, vu, .none] } } σ H3 x v vl vu l u s3.heap.objs.size Q I4 r1 (Heap.IsSliceOf.new ..) pl pu q3
  show wpAny (model X.prog X.w) X.A (subscriptTail e (.Slice lo hi none p2) v (.ref s3.heap.objs.size)) (EP X pins σ Q) X.xe { s3 with heap := s3.heap.push { cls := .type "slice", data := .fields #[vl, vu, .none] } }
  exact tail_any (ops := [.ref s3.heap.objs.size, v]) ht hT hg (by with_unfolding_all rfl)

/-- the items of xs[lo:hi] -/
def cutV (xs : List V) (lo hi : Option Int) : List V := (xs.drop (HT.sIx xs.length 0 lo)).take (HT.sIx xs.length xs.length hi - HT.sIx xs.length 0 lo)
theorem cutV_length (xs : List V) (lo hi : Option Int) : (cutV xs lo hi).length ≤ xs.length := by
  unfold cutV
  rw [List.length_take, List.length_drop]
  omega
/-- t[lo:hi], not the whole of it (the whole would be t itself) -/
def rSlT (K : PySem.W.Frag) : V → Option Int → Option Int → Hp → VK → Prop := fun x lo hi H Q => ∃ a xs, x = .ref a ∧ SqT K H a xs ∧
  ¬ (HT.sIx xs.length 0 lo = 0 ∧ HT.sIx xs.length xs.length hi = xs.length) ∧ ∀ p, H p = none → Q (.ref p) (upd H p (.tup (cutV xs lo hi)))
/-! ### t < u, t + u -/
def rLtT (K : PySem.W.Frag) : R2 := fun x y H Q => ∃ a b ns ms, x = .ref a ∧ y = .ref b ∧ SqT K H a (ns.map V.int) ∧ SqT K H b (ms.map V.int) ∧ Q (.bl (HT.lexLt ns ms)) H
/-- t + u, t not empty: u empty gives t itself -/
def rCatT (K : PySem.W.Frag) : R2 := fun x y H Q => ∃ a b xs ys, x = .ref a ∧ y = .ref b ∧ SqT K H a xs ∧ SqT K H b ys ∧ xs ≠ [] ∧ xs.length + ys.length ≤ sizeLine ∧
  (ys = [] → Q (.ref a) H) ∧ (ys ≠ [] → ∀ p, H p = none → Q (.ref p) (upd H p (.tup (xs ++ ys))))
end
end L2

namespace L2
open PySem PySem.Spec PyProof.Rows

/-! ### places -/
/-- the place that an index of any sign means -/
def ixN (n : Nat) (i : Int) : Option Nat := if 0 ≤ i then (if i < n then some i.toNat else none) else if -(n : Int) ≤ i then some (i + n).toNat else none
def atI {α : Type} (xs : List α) (i : Int) : Option α := (ixN xs.length i).bind fun j => xs[j]?
theorem ixN_seq {n : Nat} {i : Int} {j : Nat} (h : ixN n i = some j) : seqIndex? i n = some j ∧ j < n ∧ -(n : Int) ≤ i ∧ i < n := by
  unfold ixN at h
  by_cases h0 : 0 ≤ i
  · rw [if_pos h0] at h
    by_cases h1 : i < n
    · rw [if_pos h1] at h
      have e : i.toNat = j := Option.some.inj h
      exact ⟨by rw [seqIndex_of h0 h1, e], by omega, by omega, h1⟩
    · rw [if_neg h1] at h; cases h
  · rw [if_neg h0] at h
    by_cases h1 : -(n : Int) ≤ i
    · rw [if_pos h1] at h
      have e : (i + n).toNat = j := Option.some.inj h
      exact ⟨by rw [seqIndex_neg (by omega) h1, e], by omega, h1, by omega⟩
    · rw [if_neg h1] at h; cases h
theorem atI_get {α : Type} {xs : List α} {i : Int} {v : α} (h : atI xs i = some v) : ∃ j, seqIndex? i xs.length = some j ∧ xs[j]? = some v ∧ j < xs.length ∧ -(xs.length : Int) ≤ i ∧ i < xs.length := by
  unfold atI at h
  cases e : ixN xs.length i with
  | none => rw [e] at h; cases h
  | some j =>
    rw [e] at h
    obtain ⟨h1, h2, h3, h4⟩ := ixN_seq e
    exact ⟨j, h1, h, h2, h3, h4⟩
theorem atI_nat {α : Type} {xs : List α} {j : Nat} {v : α} (h : xs[j]? = some v) : atI xs (j : Int) = some v := by
  have hj : j < xs.length := (List.getElem?_eq_some_iff.mp h).1
  have e : ixN xs.length (j : Int) = some j := by
    unfold ixN
    rw [if_pos (by omega), if_pos (by omega)]; simp
  unfold atI; rw [e]; exact h
/-! ### what may be subscripted -/
/-- what stands as an index of a plain subscript -/
def PlainIx (b : Expr) : Prop := ∀ o i, subscripted b false o i = operate [o, i] (getItem o i)
/-- a subscript by values -/
def IxR (X : Cx) (r : R2) : Prop :=
  ∀ (value slice : Expr) (pins : List (Addr × Obj)) (s : Shared) (σ : St) (H : Hp) (x y : V) (v u : Value) (Q : VK), Inv X pins σ H s → RelV x v → RelV y u → r x y H Q →
    subscripted slice false v u = operate [v, u] (getItem v u) → wpAny (model X.prog X.w) X.A (subscriptTail value slice v u) (EP X pins σ Q) X.xe s
/-- a call of a builtin's method by values: the receiver, the arguments -/
def MtR (X : Cx) (id : String) (r : V → List V → Hp → VK → Prop) : Prop :=
  ∀ (pins : List (Addr × Obj)) (s : Shared) (σ : St) (H : Hp) (x : V) (xs : List V) (v : Value) (us : List Value) (Q : VK), Inv X pins σ H s → RelV x v → Vals xs us → r x xs H Q →
    wpAny (model X.prog X.w) X.A (call (.builtin id) (v :: us)) (EP X pins σ Q) X.xe s
section
variable {X : Cx} {a b : Expr} {ta tb : TE} {pos : Pos}
/-- a[b] -/
theorem pe_ix {r : R2} (hr : IxR X r) (ha : PE X a ta) (hb : PE X b tb) (hs : PlainIx b) : PE X (.Subscript a b pos) (tOp r ta tb) := by
  intro pins s σ H Q I h
  exact Subscript_ (binT ha hb I h fun v u s2 x y H2 I2 rx ry q => hr a b pins s2 σ H2 x y v u Q I2 rx ry q (hs _ _))

def rIxL (K : PySem.W.Frag) : R2 := fun x y H Q => ∃ p xs i v, x = .ref p ∧ y = .int i ∧ SqL K H p xs ∧ atI xs i = some v ∧ Q v H
def rIxT (K : PySem.W.Frag) : R2 := fun x y H Q => ∃ p xs i v, x = .ref p ∧ y = .int i ∧ SqT K H p xs ∧ atI xs i = some v ∧ Q v H
def rIxS : R2 := fun x y H Q => ∃ z i c, x = .str z ∧ y = .int i ∧ z.length ≤ sizeLine ∧ atI z.cps.toList i = some c ∧ Q (.str ⟨#[c]⟩) H
theorem ix_list : IxR X (rIxL X.K) := by
  intro value slice pins s σ H x y v u Q I rx ry h hs
  obtain ⟨p, xs, i, z, rfl, rfl, hq, he, q⟩ := h
  cases rx
  obtain ⟨t, rfl⟩ := ry
  obtain ⟨its, r, pl, hz⟩ := I.list hq
  obtain ⟨j, h1, h2, h3, h4, h5⟩ := atI_get he
  obtain ⟨w, ew, rw'⟩ := r.get h2
  have hl := r.length
  have hn := line63
  have fin : EP X pins σ Q w s := ⟨z, H, I, rw', q⟩
  by_cases h0 : 0 ≤ i
  · have hj : i.toNat = j := by
      rw [seqIndex_of h0 h5] at h1
      exact Option.some.inj h1
    exact item_listR pl.isList h0 (by omega) (by rw [hj]; simpa using ew) fin hs
  · have hj : (i + (its.toArray.size : Int)).toNat = j := by
      rw [seqIndex_neg (by omega) h4] at h1
      rw [List.size_toArray, ← hl]
      exact Option.some.inj h1
    exact subscriptTail_builtinR (x := w) pl.isList.typeIs slot_list_getitem.lookup
      (wpAny_getItem_list_neg (Q := fun r s' => r = w ∧ EP X pins σ Q r s') pl.isList (by omega) (by rw [List.size_toArray] <;> omega) (by omega) (by rw [hj]; simpa using ew) ⟨rfl, fin⟩) hs
theorem ix_tup : IxR X (rIxT X.K) := by
  intro value slice pins s σ H x y v u Q I rx ry h hs
  obtain ⟨p, xs, i, z, rfl, rfl, hq, he, q⟩ := h
  cases rx
  obtain ⟨t, rfl⟩ := ry
  obtain ⟨its, r, pl, hz⟩ := I.tuple hq
  obtain ⟨j, h1, h2, h3, h4, h5⟩ := atI_get he
  obtain ⟨w, ew, rw'⟩ := r.get h2
  have hl := r.length
  have hn := line63
  have fin : EP X pins σ Q w s := ⟨z, H, I, rw', q⟩
  exact subscriptTail_builtinR (x := w) pl.typeIs slot_tuple_getitem.lookup
    (getItem_tuple (j := j) (Q := fun r s' => r = w ∧ EP X pins σ Q r s') pl (by omega) (by omega) (by rw [List.size_toArray, ← hl]; exact h1) (by simpa using ew) ⟨rfl, fin⟩) hs
/-- list, tuple or str -/
def rIx (K : PySem.W.Frag) : R2 := fun x y H Q => rIxL K x y H Q ∨ rIxT K x y H Q ∨ rIxS x y H Q
/-! ### xs[i] = v, any sign -/
/-- the list's object behind a store -/
theorem mapSeq_set (its : List Value) (n j : Nat) (u : Value) : Obj.mapSeq (·.setIfInBounds j u) { cls := .type "list", data := .seq its.toArray n } = { cls := .type "list", data := .seq (its.set j u).toArray n } := by
  simp [Obj.mapSeq]
theorem Inv.lst {pins : List (Addr × Obj)} {σ : St} {H : Hp} {s : Shared} {p : Addr} {xs : List V} (I : Inv X pins σ H s) (h : H p = some (.lst xs)) :
    ∃ (its : List Value) (n : Nat), Vals xs its ∧ s.heap.get? p = some { cls := .type "list", data := .seq its.toArray n } ∧ xs.length ≤ sizeLine := by
  obtain ⟨z, its, n, r, e⟩ := I.hok p _ h
  exact ⟨its, n, r, e, z⟩
/-- the list at p is written by an update of its object -/
theorem Inv.lstUpd {pins : List (Addr × Obj)} {σ : St} {H : Hp} {s : Shared} {p : Addr} {xs ys : List V} {its its' : List Value} {n n' : Nat} {f : Obj → Obj} (I : Inv X pins σ H s) (h : H p = some (.lst xs))
    (ho : s.heap.get? p = some { cls := .type "list", data := .seq its.toArray n }) (hf : f { cls := .type "list", data := .seq its.toArray n } = { cls := .type "list", data := .seq its'.toArray n' }) (r : Vals ys its') (hz : ys.length ≤ sizeLine) (t : Nat) :
    Inv X pins σ (upd H p (.lst ys)) { s with heap := s.heap.update p f, toks := t } := by
  have e : (s.heap.update p f).get? p = some { cls := .type "list", data := .seq its'.toArray n' } := by
    rw [Heap.get?_update_self f ho (by rw [hf] <;> rfl), hf]
  refine I.write (x := p) (e := p) (by rw [h]; trivial) (.inl rfl) (fun b u hb q => (Heap.get?_update_other _ _ (Ne.symm hb)).trans q) ⟨_, e⟩ ?_
  exact ⟨hz, its', n', r, e⟩
def rSetL : V → V → V → Hp → (Hp → Prop) → Prop := fun o i v H Q => ∃ p xs k j, o = .ref p ∧ i = .int k ∧ H p = some (.lst xs) ∧ ixN xs.length k = some j ∧ Q (upd H p (.lst (xs.set j v)))
theorem set_list : PSet X rSetL := by
  intro pins s σ H o i v ov iv u Q I ro ri rv h
  obtain ⟨p, xs, k, j, rfl, rfl, hp, hj, q⟩ := h
  cases ro
  obtain ⟨t, rfl⟩ := ri
  obtain ⟨its, n, r, ho, hz⟩ := I.lst hp
  obtain ⟨h1, h2, h3, h4⟩ := ixN_seq hj
  have hl := r.length
  have hn := line63
  have I' : Inv X pins σ (upd H p (.lst (xs.set j v))) { s with heap := s.heap.update p (Obj.mapSeq (·.setIfInBounds j u)) } :=
    I.lstUpd hp ho (mapSeq_set its n j u) (r.set rv j) (by rw [List.length_set]; exact hz) s.toks
  by_cases h0 : 0 ≤ k
  · have hk : k.toNat = j := by
      rw [seqIndex_of h0 h4] at h1
      exact Option.some.inj h1
    exact PySem.W.ki_setAt ho h0 (by omega) (by rw [List.size_toArray, ← hl]; exact h4) (by rw [hk]; exact ⟨_, I', q⟩)
  · have hk : (k + (its.toArray.size : Int)).toNat = j := by
      rw [seqIndex_neg (by omega) h3] at h1
      rw [List.size_toArray, ← hl]
      exact Option.some.inj h1
    exact PySem.W.ki_setBack ho (by omega) (by rw [List.size_toArray, ← hl]; exact h3) (by omega) (by rw [hk]; exact ⟨_, I', q⟩)

/-! ### slices -/
theorem slice_bounds (lo hi : Option Int) (n : Nat) : (sliceBounds lo hi none n).1 = ((HT.sIx n 0 lo : Nat) : Int) ∧ (sliceBounds lo hi none n).2.1 = ((HT.sIx n n hi : Nat) : Int) ∧ (sliceBounds lo hi none n).2.2 = 1 := by
  refine ⟨?_, ?_, rfl⟩
  · cases lo with
    | none => simp [sliceBounds, HT.sIx]
    | some i =>
      simp only [sliceBounds, HT.sIx, Option.getD_none, show (1 : Int) > 0 by decide, if_true]
      by_cases h : i < 0
      · simp only [h, if_true] <;> omega
      · simp only [h, if_false] <;> omega
  · cases hi with
    | none => simp [sliceBounds, HT.sIx]
    | some i =>
      simp only [sliceBounds, HT.sIx, Option.getD_none, show (1 : Int) > 0 by decide, if_true]
      by_cases h : i < 0
      · simp only [h, if_true] <;> omega
      · simp only [h, if_false] <;> omega
theorem slicePick_cut (its : List Value) (lo hi : Option Int) : slicePick its.toArray lo hi none = ((its.drop (HT.sIx its.length 0 lo)).take (HT.sIx its.length its.length hi - HT.sIx its.length 0 lo)).toArray := by
  obtain ⟨h1, h2, h3⟩ := slice_bounds lo hi its.toArray.size
  unfold slicePick
  rw [h1, h2, h3]
  simp only [sliceRange_one, pick_run, List.size_toArray] <;> rfl
/-- xs[lo:hi] of a list: a new list -/
def rSlL (K : PySem.W.Frag) : V → Option Int → Option Int → Hp → VK → Prop := fun x lo hi H Q => ∃ a xs, x = .ref a ∧ SqL K H a xs ∧ ∀ p, H p = none → Q (.ref p) (upd H p (.lst (cutV xs lo hi)))
theorem sl_list : SlR X (rSlL X.K) := by
  intro pins s σ H x v vl vu lo hi sl Q I rx hs pl pu h
  obtain ⟨a, xs, rfl, hx, q⟩ := h
  cases rx
  obtain ⟨its, r, ht, hz⟩ := I.list hx
  have hlen := r.length
  refine ⟨"list", _, slot_list_getitem.lookup, ht.isList.typeIs, ?_⟩
  refine wpAny_getItem_list_slice ht.isList hs pl pu .none (by simp) ?_ (by rw [List.size_toArray] <;> omega)
  rw [slicePick_cut, ← hlen]
  refine ⟨.ref s.heap.objs.size, _, I.laid (t' := s.toks) (o := .lst (cutV xs lo hi)) (fun b ob q => Heap.get?_push_of_some _ q) (Nat.le_refl _) ?_, rfl, q _ (I.hok.fresh (Nat.le_refl _))⟩
  exact ⟨Nat.le_trans (cutV_length xs lo hi) hz, _, 0, (r.drop (HT.sIx xs.length 0 lo)).take (HT.sIx xs.length xs.length hi - HT.sIx xs.length 0 lo), Heap.get?_push_size _ rfl⟩

/-! ### in, not in: flat items -/
def flatV : V → Bool
  | .non => true
  | .bl _ => true
  | .int _ => true
  | .str _ => true
  | _ => false
/-- == of flat values -/
def eqV : V → V → Bool
  | .non, .non => true
  | .bl a, .bl b => a == b
  | .bl a, .int b => (if a then 1 else 0) == b
  | .int a, .bl b => a == (if b then 1 else 0)
  | .int a, .int b => a == b
  | .str a, .str b => a == b
  | _, _ => false
/-- the items' answers, read off the values (a value's own answer does not lean on its token) -/
def eqU (x : V) (u : Value) : Bool := match u with
  | .none => eqV .non x
  | .bool b => eqV (.bl b) x
  | .int i _ => eqV (.int i) x
  | .str z _ => eqV (.str z) x
  | _ => false
def inV (x : V) (xs : List V) : Bool := xs.any fun y => eqV y x
/-- x in a list or tuple of flat items -/
def rIn (K : PySem.W.Frag) (neg : Bool) : R2 := fun x y H Q => ∃ p xs, y = .ref p ∧ (SqL K H p xs ∨ SqT K H p xs) ∧ flatV x = true ∧ xs.all flatV = true ∧ Q (.bl (if neg then !inV x xs else inV x xs)) H
/-! ### len, list(x), tuple(x) of any list or tuple that is read -/
theorem call_len_seq : CallR X (.builtin "len") (fun xs H Q => ∃ p ys, xs = [.ref p] ∧ (SqL X.K H p ys ∨ SqT X.K H p ys) ∧ Q (.int ys.length) H) := by
  intro pins s σ H xs us Q I r h
  obtain ⟨p, ys, rfl, hq, q⟩ := h
  obtain ⟨u, rfl, rx⟩ := vals1 r
  cases rx
  have hn := line63
  rcases hq with hq | hq
  · obtain ⟨its, r', pl, hz⟩ := I.list hq
    have hlen := r'.length
    exact Calls.call_len_list pl.isList (by simp only [List.size_toArray] <;> omega) ⟨.int ys.length, H, I.tok _, ⟨s.toks + 1, by rw [List.size_toArray, hlen]⟩, q⟩
  · obtain ⟨its, r', pl, hz⟩ := I.tuple hq
    have hlen := r'.length
    exact len_tuple pl (by simp only [List.size_toArray] <;> omega) ⟨.int ys.length, H, I.tok _, ⟨s.toks + 1, by rw [List.size_toArray, hlen]⟩, q⟩
theorem call_list_of : CallR X (.type "list") (fun xs H Q => ∃ p ys, xs = [.ref p] ∧ (SqL X.K H p ys ∨ SqT X.K H p ys) ∧ ∀ l, H l = none → Q (.ref l) (upd H l (.lst ys))) := by
  intro pins s σ H xs us Q I r h
  obtain ⟨p, ys, rfl, hq, q⟩ := h
  obtain ⟨u, rfl, rx⟩ := vals1 r
  cases rx
  have fin : ∀ (its : List Value), Vals ys its → ys.length ≤ sizeLine → ∀ (h' : Heap) (c' : Nat), (∀ b o', s.heap.get? b = some o' → h'.get? b = some o') →
      h'.get? s.heap.objs.size = some { cls := .type "list", dict := none, data := .seq its.toArray c', slots := #[] } → EP X pins σ Q (.ref s.heap.objs.size) { s with heap := h' } := fun its r' hz h' c' kp e =>
    ⟨.ref s.heap.objs.size, _, I.laid (t' := s.toks) kp (Nat.le_refl _) (show ObjOk X.prog X.w _ h' _ (.lst ys) from ⟨hz, its, c', r', e⟩), rfl, q _ (I.hok.fresh (Nat.le_refl _))⟩
  rcases hq with hq | hq
  · obtain ⟨its, r', pl, hz⟩ := I.list hq
    have hlen := r'.length
    obtain ⟨o, ho, hc, n, hd⟩ := pl.isList
    exact call_list_seq p (.inl rfl) ho hc hd (fun h' c' kp e => fin its r' hz h' c' kp e) (by simp only [List.size_toArray] <;> omega)
  · obtain ⟨its, r', pl, hz⟩ := I.tuple hq
    have hlen := r'.length
    obtain ⟨o, ho, hc, n, hd⟩ := pl
    exact call_list_seq p (.inr rfl) ho hc hd (fun h' c' kp e => fin its r' hz h' c' kp e) (by simp only [List.size_toArray] <;> omega)
theorem call_tuple_of : CallR X (.type "tuple") (fun xs H Q => ∃ p ys, xs = [.ref p] ∧ ((SqL X.K H p ys ∧ ∀ l, H l = none → Q (.ref l) (upd H l (.tup ys))) ∨ (SqT X.K H p ys ∧ Q (.ref p) H))) := by
  intro pins s σ H xs us Q I r h
  obtain ⟨p, ys, rfl, h⟩ := h
  obtain ⟨u, rfl, rx⟩ := vals1 r
  cases rx
  rcases h with ⟨hq, q⟩ | ⟨hq, q⟩
  · obtain ⟨its, r', pl, hz⟩ := I.list hq
    have hlen := r'.length
    refine call_tuple_list pl.isList (fun h' kp => ?_) (by simp only [List.size_toArray] <;> omega)
    have I1 : Inv X pins σ H { s with heap := h' } := I.kept (t' := s.toks) kp
    have I2 : Inv X pins σ (upd H h'.objs.size (.tup ys)) { s with heap := h'.push { cls := .type "tuple", data := .seq its.toArray } } :=
      I1.laid (t' := s.toks) (fun b o e => Heap.get?_push_of_some _ e) (Nat.le_refl _) (show ObjOk X.prog X.w _ _ _ (.tup ys) from ⟨hz, its, r', IsTup.new _ _⟩)
    exact ⟨.ref h'.objs.size, _, I2, rfl, q _ (I1.hok.fresh (Nat.le_refl _))⟩
  · obtain ⟨its, r', pl, hz⟩ := I.tuple hq
    exact call_tuple_same pl ⟨.ref p, H, I, rfl, q⟩

/-! ### the call of a builtin's method: o.m(..) -/
/-- the value is of that builtin type -/
def tyV (K : PySem.W.Frag) (T : String) (x : V) (H : Hp) : Prop := match x with
  | .str _ => T = "str"
  | .int _ => T = "int"
  | .ref p => (T = "list" ∧ ∃ xs, SqL K H p xs) ∨ (T = "tuple" ∧ ∃ o, K.lookup p = some o ∧ o.cls = .type "tuple" ∧ o.dict = none) ∨
      (T = "dict" ∧ ((∃ kvs, H p = some (.dK kvs)) ∨ ∃ kvs, H p = some (.dT kvs))) ∨ (T = "set" ∧ ∃ S n, H p = some (.set S n))
  | _ => False
theorem tyV_is {pins : List (Addr × Obj)} {σ : St} {H : Hp} {s : Shared} {T : String} {x : V} {v : Value} (I : Inv X pins σ H s) (r : RelV x v) (ty : tyV X.K T x H) :
    s.TypeIs v T ∧ ∀ a, v = .ref a → ∃ ob, s.heap.get? a = some ob ∧ ob.dict = none := by
  cases x with
  | str z =>
    obtain ⟨t, rfl⟩ := r
    cases (show T = "str" from ty)
    exact ⟨typeIs_str s z t, fun _ e => nomatch e⟩
  | int i =>
    obtain ⟨t, rfl⟩ := r
    cases (show T = "int" from ty)
    exact ⟨typeIs_int s i t, fun _ e => nomatch e⟩
  | ref p =>
    cases r
    rcases ty with ⟨rfl, xs, hq⟩ | ⟨rfl, o, hk, hc, hd⟩ | ⟨rfl, hk⟩ | ⟨rfl, S, n, hk⟩
    · obtain ⟨its, _, pl, _⟩ := I.list hq
      refine ⟨pl.isList.typeIs, fun a e => ?_⟩
      cases e
      obtain ⟨o, n, e, c, hd, _⟩ := pl
      exact ⟨o, e, hd⟩
    · refine ⟨⟨o, I.kIn p o hk, hc⟩, fun a e => ?_⟩
      cases e
      exact ⟨o, I.kIn _ o hk, hd⟩
    · have z : ∃ o, s.heap.get? p = some o ∧ o.ExactDict := by
        rcases hk with ⟨kvs, hk⟩ | ⟨kvs, hk⟩
        · obtain ⟨_, _, _, _, o, _, _, e, ex, _⟩ := I.hok p _ hk
          exact ⟨o, e, ex⟩
        · obtain ⟨_, _, _, _, o, _, _, e, ex, _⟩ := I.hok p _ hk
          exact ⟨o, e, ex⟩
      obtain ⟨o, e, ex⟩ := z
      refine ⟨⟨o, e, ex.1⟩, fun a e2 => ?_⟩
      cases e2
      exact ⟨o, e, ex.2.1⟩
    · obtain ⟨o, _, _, _, e, ex, _⟩ := I.hok p _ hk
      refine ⟨⟨o, e, ex.1⟩, fun a e2 => ?_⟩
      cases e2
      exact ⟨o, e, ex.2.1⟩
  | _ => exact False.elim ty
def tBM0 (K : PySem.W.Frag) (T : String) (r : V → List V → Hp → VK → Prop) (to : TE) : TE := fun σ H Q => to σ H fun x H1 => tyV K T x H1 ∧ r x [] H1 Q
def tBM (K : PySem.W.Frag) (T : String) (r : V → List V → Hp → VK → Prop) (to : TE) (t : TA) : TE := fun σ H Q => to σ H fun x H1 => tyV K T x H1 ∧ t σ H1 fun xs H2 => r x xs H2 Q
variable {o e : Expr} {es : List Expr} {to : TE} {t : TA} {name : Str} {apos cpos : Pos} {T id : String} {r : V → List V → Hp → VK → Prop}
theorem pe_bm (pa : PlainAttrs T) (slot : Slot T name id) (hty : typeOf (.builtin id) = pure (.type "method_descriptor")) (hm : MtR X id r) (ho : PE X o to) (ha : PA X (e :: es) t)
    (hbase : attributeBase o name X.env (eval o X.env) = eval o X.env := by rfl)
    (hfew : ((backTo cpos (starEach (e :: es) X.env)).all (fun x => !x.1) && (backToKw cpos (keywordEach [] X.env)).all (fun x => x.1.isSome)
      && decide ((e :: es).length + ([] : List Keyword).length + (if ([] : List Keyword).isEmpty then 0 else 1) < 30)) = true := by rfl)
    (hline : (apos.endLine == cpos.line) = true := by rfl) (hs : starEach (e :: es) X.env = (false, eval e X.env) :: starEach es X.env := by rfl) (hplain : (backTo cpos (starEach es X.env)).any (·.1) = false := by rfl) :
    PE X (.Call (.Attribute o name apos) (e :: es) [] cpos) (tBM X.K T r to t) := by
  intro pins s σ H Q I h
  refine wpAny_Call_method_late hbase hfew hline rfl (thn (ho pins s σ H _ I h) fun v s1 ⟨x, H1, I1, r1, ty, q1⟩ => ?_)
  obtain ⟨h1, h2⟩ := tyV_is I1 r1 ty
  refine ⟨T, id, pa, slot, hty, h1, h2, ?_⟩
  have hA := ha cpos pins s1 σ H1 _ I1 q1
  rw [hs] at hA ⊢
  refine Calls.callWith_builtin (by show (false || (backTo cpos (starEach es X.env)).any (·.1)) = false; rw [hplain] <;> rfl) (Calls.evalArgs_plain ?_)
  exact thn hA fun us s2 ⟨vs, H2, I2, r2, q2⟩ => hm pins s2 σ H2 x vs v us Q I2 r1 r2 q2
/- xs.append(e), list.index on a module's tuple .. are MtR facts of 06m -/
end
end L2

namespace L2
open PySem PySem.Spec PyProof.Rows

def MtM (X : Cx) (id : String) (r : V → List V → Hp → VK → Prop) : Prop :=
  ∀ (pins : List (Addr × Obj)) (s : Shared) (σ : St) (H : Hp) (x : V) (xs : List V) (v : Value) (us : List Value) (Q : VK), Inv X pins σ H s → RelV x v → Vals xs us → r x xs H Q →
    wpAny (model X.prog X.w) X.A (call (.builtin id) (v :: us)) (EP X pins σ Q) X.xe s

/-! ### lists of values -/
theorem Vals.one : ∀ {x : V} {us : List Value}, Vals [x] us → ∃ u, us = [u] ∧ RelV x u
  | _, _, .cons r .nil => ⟨_, rfl, r⟩
theorem Vals.rep {xs : List V} {us : List Value} (h : Vals xs us) : ∀ k : Nat, Vals (List.replicate k xs).flatten (List.replicate k us).flatten
  | 0 => .nil
  | k + 1 => by
    rw [List.replicate_succ, List.replicate_succ, List.flatten_cons, List.flatten_cons]
    exact Vals.append h (Vals.rep h k)
theorem foldl_rep (its : List Value) : ∀ (k : Nat) (acc : List Value),
    List.foldl (fun x1 x2 => x1 ++ x2) acc.toArray (List.replicate k its.toArray) = (acc ++ (List.replicate k its).flatten).toArray
  | 0, acc => by simp
  | k + 1, acc => by
    have e : acc.toArray ++ its.toArray = (acc ++ its).toArray := by simp
    have e2 : (acc ++ its) ++ (List.replicate k its).flatten = acc ++ (List.replicate (k + 1) its).flatten := by
      rw [List.replicate_succ, List.flatten_cons, List.append_assoc]
    rw [← e2, ← foldl_rep its k (acc ++ its), ← e, List.replicate_succ, List.foldl_cons]

section
variable {X : Cx} {pins : List (Addr × Obj)} {σ : St} {H : Hp} {s : Shared} {l b : Addr} {xs ys zs : List V}

/-! ### the two steps: a tracked list is rewritten, a new list is laid -/
theorem Inv.lset {its its' : List Value} {n : Nat} {f : Array Value → Array Value} {t' : Nat} (I : Inv X pins σ H s) (hH : H l = some (.lst xs))
    (e : s.heap.get? l = some { cls := .type "list", data := .seq its.toArray n }) (hf : f its.toArray = its'.toArray) (hv : Vals ys its') (hz : ys.length ≤ sizeLine) :
    Inv X pins σ (upd H l (.lst ys)) { s with heap := s.heap.update l (Obj.mapSeq f), toks := t' } := by
  have q := PySem.IsL.update e f
  rw [hf] at q
  refine I.write (x := l) (e := l) (by rw [hH]; exact trivial) (.inl rfl) (fun b' u hb hu => (Heap.get?_update_other s.heap (Obj.mapSeq f) (Ne.symm hb)).trans hu) ⟨_, q⟩ ?_
  exact ⟨hz, its', _, hv, q⟩
theorem Inv.lnew {its : List Value} {t' : Nat} (I : Inv X pins σ H s) (hv : Vals ys its) (hz : ys.length ≤ sizeLine) :
    Inv X pins σ (upd H s.heap.objs.size (.lst ys)) { s with heap := s.heap.push { cls := .type "list", data := .seq its.toArray }, toks := t' } :=
  I.laid (fun _ _ q => Heap.get?_push_of_some _ q) (Nat.le_refl _) ⟨hz, its, 0, hv, Heap.get?_push_size _ rfl⟩
theorem Inv.fresh (I : Inv X pins σ H s) : H s.heap.objs.size = none := I.hok.fresh (Nat.le_refl _)
theorem Inv.lstM (I : Inv X pins σ H s) (hH : H l = some (.lst xs)) : xs.length ≤ sizeLine ∧ ∃ (its : List Value) (n : Nat), Vals xs its ∧ xs.length = its.length ∧ s.heap.get? l = some { cls := .type "list", data := .seq its.toArray n } := by
  obtain ⟨z, its, n, r, e⟩ := I.hok l _ hH
  exact ⟨z, its, n, r, r.length, e⟩

theorem notLongL {n : Nat} (h : n ≤ sizeLine) : Builtin.List.listTooLong n = false := by
  unfold Builtin.List.listTooLong
  exact decide_eq_false (by omega)
end

section
variable {X : Cx}

/-! ### methods -/
def rAppend : V → List V → Hp → VK → Prop := fun x vs H Q => ∃ l xs y, x = .ref l ∧ vs = [y] ∧ H l = some (.lst xs) ∧ xs.length < sizeLine ∧ Q .non (upd H l (.lst (xs ++ [y])))
theorem mt_append : MtM X "list.append" rAppend := by
  intro pins s σ H x vs v us Q I rx rv h
  obtain ⟨l, xs, y, rfl, rfl, hH, hz, q⟩ := h
  cases rx
  obtain ⟨u, rfl, ru⟩ := rv.one
  obtain ⟨z, its, n, r, hl, e⟩ := I.lstM hH
  refine call_meets F.slot_list_append ⟨_, e, rfl⟩ F.entry_list_append (F.args_list_append_2 _ _) (PySem.list_append l its.toArray n u (by rw [List.size_toArray]; omega)) ⟨e, ?_⟩
  refine ⟨.non, _, I.lset (its' := its ++ [u]) hH e (by simp) (r.append (.cons ru .nil)) ?_, rfl, q⟩
  rw [List.length_append, List.length_singleton]
  omega

def rExtend : V → List V → Hp → VK → Prop := fun x vs H Q => ∃ l b xs zs, x = .ref l ∧ vs = [.ref b] ∧ H l = some (.lst xs) ∧ H b = some (.lst zs) ∧ xs.length + zs.length ≤ sizeLine ∧ Q .non (upd H l (.lst (xs ++ zs)))
def rPop : V → List V → Hp → VK → Prop := fun x vs H Q => ∃ l xs y, x = .ref l ∧ vs = [] ∧ H l = some (.lst xs) ∧ xs[xs.length - 1]? = some y ∧ Q y (upd H l (.lst xs.dropLast))
def rPopAt : V → List V → Hp → VK → Prop := fun x vs H Q => ∃ l xs i k y, x = .ref l ∧ vs = [.int i] ∧ H l = some (.lst xs) ∧ -(2 ^ 63) ≤ i ∧ i < 2 ^ 63 ∧ seqIndex? i xs.length = some k ∧ xs[k]? = some y ∧ Q y (upd H l (.lst (xs.eraseIdx k)))
def rReverse : V → List V → Hp → VK → Prop := fun x vs H Q => ∃ l xs, x = .ref l ∧ vs = [] ∧ H l = some (.lst xs) ∧ Q .non (upd H l (.lst xs.reverse))
def rClear : V → List V → Hp → VK → Prop := fun x vs H Q => ∃ l xs, x = .ref l ∧ vs = [] ∧ H l = some (.lst xs) ∧ Q .non (upd H l (.lst []))
/-! ### list + list, list += list, list * int -/
def rCat : R2 := fun x y H Q => ∃ l b xs zs, x = .ref l ∧ y = .ref b ∧ H l = some (.lst xs) ∧ H b = some (.lst zs) ∧ xs.length + zs.length ≤ sizeLine ∧ ∀ p, H p = none → Q (.ref p) (upd H p (.lst (xs ++ zs)))
theorem op_cat : OpR X (binaryOp .Add) rCat := by
  intro pins s σ H x y v u Q I rx ry h
  obtain ⟨l, b, xs, zs, rfl, rfl, hH, hB, hz, q⟩ := h
  cases rx
  cases ry
  obtain ⟨z, its, n, r, hl, e⟩ := I.lstM hH
  obtain ⟨z2, its2, n2, r2, hl2, e2⟩ := I.lstM hB
  refine PySem.P.add_list e e2 ?_ (by rw [List.size_toArray, List.size_toArray]; omega)
  have ea : its.toArray ++ its2.toArray = (its ++ its2).toArray := by simp
  rw [ea]
  exact ⟨.ref _, _, I.lnew (t' := s.toks) (r.append r2) (by rw [List.length_append]; omega), rfl, q _ I.fresh⟩
/-- a list times an int (a negative one is nothing) -/
def rRep : R2 := fun x y H Q => ∃ l k xs, x = .ref l ∧ y = .int k ∧ H l = some (.lst xs) ∧ -(2 ^ 63) ≤ k ∧ k < 2 ^ 63 ∧ xs.length * k.toNat ≤ sizeLine ∧
  ∀ p, H p = none → Q (.ref p) (upd H p (.lst (List.replicate k.toNat xs).flatten))
theorem len_rep {α : Type} (xs : List α) (k : Nat) : (List.replicate k xs).flatten.length = k * xs.length := by
  induction k with
  | zero => simp
  | succ k ih => rw [List.replicate_succ, List.flatten_cons, List.length_append, ih, Nat.succ_mul, Nat.add_comm]
theorem op_rep : OpR X (binaryOp .Mult) rRep := by
  intro pins s σ H x y v u Q I rx ry h
  obtain ⟨l, k, xs, rfl, rfl, hH, h1, h2, hz, q⟩ := h
  cases rx
  obtain ⟨t, rfl⟩ := ry
  obtain ⟨z, its, n, r, hl, e⟩ := I.lstM hH
  have hlen : its.toArray.size * k.toNat ≤ sizeLine := by rw [List.size_toArray, ← hl]; exact hz
  have hcap : ¬ its.toArray.size * k.toNat > (2 ^ 63 - 1) / 8 := by
    have : (sizeLine : Nat) ≤ (2 ^ 63 - 1) / 8 := by decide
    omega
  have hfit : ¬ (!Builtin.List.listFitsIndex k) = true := by
    rw [fitsIndex_both h1 h2]
    exact Bool.false_ne_true
  have hlong : ¬ Builtin.List.listTooLong (its.toArray.size * k.toNat) = true := by
    rw [notLongL hlen]
    exact Bool.false_ne_true
  have hnew : List.foldl (fun x1 x2 => x1 ++ x2) #[] (List.replicate (if its.toArray.isEmpty = true then 0 else k.toNat) its.toArray) = (List.replicate k.toNat its).flatten.toArray := by
    have f0 : ∀ m : Nat, List.foldl (fun x1 x2 => x1 ++ x2) #[] (List.replicate m its.toArray) = (List.replicate m its).flatten.toArray := fun m => by
      have := foldl_rep its m []
      rw [List.nil_append] at this
      exact this
    rw [f0]
    cases its with
    | nil => simp
    | cons a r' => rw [if_neg (by simp)]
  refine wpAny_binaryOp_repeat_ref (T := "list") (U := "int") (by decide) ⟨_, e, rfl⟩ (fun s' => typeIs_int s' k t) noFill_list_mul F.fills_int_mul F.slot_int_rmul repeat_list F.slot_int_index.lookup
    (call_meets F.slot_int_rmul (typeIs_int s k t) F.entry_int_rmul (F.args_int_rmul_2 _ _) (int___rmul___int_list k t l its.toArray n)
      ⟨e, rfl, ⟨_, e, rfl⟩, call_meets F.slot_list_mul ⟨_, e, rfl⟩ F.entry_list_mul (F.args_list_mul_2 _ _) (AutoListH.list___mul___list_int_3 l its.toArray n k t hfit hcap hlong) ⟨e, ?_⟩⟩)
  rw [hnew]
  exact ⟨.ref _, _, I.lnew (t' := s.toks) (r.rep k.toNat) (by rw [len_rep, Nat.mul_comm]; exact hz), rfl, q _ I.fresh⟩

/-! ### del xs[i] -/
end

/-! ### xs[a:b] = ys -/
section
variable {prog : Program} {w : World} {A : Around} {E : Value → Shared → Prop} {s : Shared}
set_option maxRecDepth 100000 in
end

section
variable {X : Cx}
end
end L2

namespace Att
open PySem PySem.W PySem.Calls PyProof.Rows

/-! ### the script -/
theorem ints_of_wellAll {P : Params} {h : Heap} : ∀ (ns : List Int) (vs : List Value), WellAll P h vs (ns.map WData.int) → IntsAre vs ns := by
  intro ns
  induction ns with
  | nil =>
    intro vs w
    rw [List.map_nil] at w
    cases w
    exact .nil
  | cons n ns ih =>
    intro vs w
    rw [List.map_cons] at w
    cases w with
    | cons a b =>
      cases a
      exact .cons _ _ (ih _ b)

theorem script_of {l : OpenLaw} {n : Nat} (hn : l.most = some n) {P : Params} {h : Heap} {args : List WData} {vals : List Value}
    (hpre : l.row.toRowW.claim.pre args = true) (hwl : WellAll P h vals args) :
    ∃ a vs ns, vals = [Value.ref a] ∧ args = [WData.list (ns.map WData.int)] ∧ h.get? a = some { cls := .type "list", data := .seq vs.toArray } ∧ IntsAre vs ns ∧ ns.length ≤ n := by
  have hsh : WShape.hasAll [] args [.list .int] = true := (pre_splitW hpre).1
  have hc : l.pre.holds [] { args := args } = true := (pre_splitW hpre).2
  obtain ⟨d, r, rfl, h1, h2⟩ := hasAllW_cons hsh
  obtain rfl := hasAllW_nil h2
  obtain ⟨xs, rfl, h3⟩ := hasW_list h1
  obtain ⟨ns, rfl⟩ := items_int h3
  have hlen : ns.length ≤ n := by
    unfold OpenLaw.pre at hc
    have h4 : (WTm.not (.lt (.lit (.int (n : Int))) (.len (.arg 0)))).holds [] { args := [.list (ns.map .int)] } = true := by
      have h4 := (holds_andW hc).1
      rw [hn] at h4
      exact h4
    have h5 := condW_of h4 (w_not (w_lt w_lit (w_len_list (w_arg rfl))))
    rw [List.length_map] at h5
    refine Nat.le_of_not_lt fun q => ?_
    have q' : (n : Int) < ((ns.length : Nat) : Int) := by omega
    first
      | (rw [decide_eq_true q'] at h5; exact absurd h5 (by decide))
      | (simp at h5; omega)
  cases hwl with
  | cons w1 w2 =>
    cases w2
    cases w1 with
    | list ho hall => exact ⟨_, _, ns, rfl, rfl, ho, ints_of_wellAll ns _ hall, hlen⟩

theorem post_true (l : OpenLaw) (args : List WData) : l.row.toRowW.claim.post args (.bool true) args = true :=
  postW_of (r := l.row.toRowW) (X := (true == true))
    (show WShape.has [] (.bool true) .bool = true by first | rfl | decide | simp [WShape.has, WShape.arms, WShape.armsAll])
    (show (WTm.eq .res (.lit (.bool true))).value [] { args := args, res := some (.bool true), after := args } = some (.bool (true == true)) from w_eq_bool (w_res rfl) w_lit) rfl

/-! ### the attachment: holds_open's last premise (the goal 'hc' behind k_head) from a wpAny of the law's body -/
/-- the same from a codeAny of the CALL (for a layer whose function contracts speak of calls) -/
theorem attach_call {l : OpenLaw} {n : Nat} {q : Program} {loose : List Str} {XP : (Str → Option Value) → Heap → Prop} {YP : World → Heap → Prop} {d : DefRec}
    (hn : l.most = some n) (hdf : d.params.defaults = [])
    (call : ∀ (w : World) (s₀ s₁ : Shared) (mg mb : Str → Option Value) (fa : Addr) (o : Obj) (pm cd doc : Value) (a : Addr) (vs : List Value) (ns : List Int),
      Ground q loose [] XP w s₀ mg mb s₁.heap → YP w s₁.heap →
      s₁.heap.get? fa = some o → o.data = .func (docDef d.name d.params d.body d.scope pm cd doc) → s₁.heap.CodeRec cd d.name → mg d.name = some (.ref fa) →
      s₁.heap.get? a = some { cls := .type "list", data := .seq vs.toArray } → IntsAre vs ns → ns.length ≤ n → s₁.gens = #[] →
      codeAny (model l.prog w) callerA (.call (.ref fa) ⟨[.ref a], []⟩) (fun r s' => r = .ok (.ret (.bool true)) ∧ OldK s₁.heap s'.heap ∧ s'.os = s₁.os ∧ AllBare s'.gens) s₁) :
    WalkO q loose XP YP l.row.toRowW d [] (fun f vs => PySem.call f vs) := by
  intro w s₀ s₁ mg mb G Y fa o pm cd doc dV kV ho hd hcd hD hmg hg args vals as hpre hlay hrd hwl hlo
  obtain rfl : dV = .none := Dflts.none hD hdf
  obtain rfl : kV = .none := Dflts.noKw hD
  obtain ⟨a, vs, ns, rfl, rfl, hobj, hints, hlen⟩ := script_of hn hpre hwl
  refine enter_call (codeAny_mono (call w s₀ s₁ mg mb fa o pm cd doc a vs ns G Y ho (fd_plain hd) hcd hmg hobj hints hlen hg) fun r s' hq => ?_)
  obtain ⟨rfl, h2, h3, h4⟩ := hq
  exact ⟨.inl ⟨.bool true, .bool true, [], rfl, fun _ => rfl, .bool true, post_true l _, fun _ => ⟨List.Pairwise.nil, fun _ hm => (nomatch hm)⟩⟩, h2, h3, h4⟩

/-! ### rules over ANY heap (no ledger) from facts about the written part K: the library's own take a ledger (News) for what they write -/
section
variable {prog : Program} {w : World} {A : Around} {E : Value → Shared → Prop} {s : Shared} {K : Frag}

/-! the whole heap as the ledger: makes every rule that writes through a ledger a rule over any heap -/
def noObjs (h : Heap) : Heap := { h with objs := #[] }
def ledger (h : Heap) (L d : Addr) : List (Addr × Obj) := (List.range h.objs.size).filterMap fun a => if a = L ∨ a = d then none else (h.get? a).map fun o => (a, o)
end
end Att

namespace L2
open PySem PySem.Spec PyProof.Rows

theorem vals_ints : ∀ {vs : List Value} {ns : List Int}, IntsAre vs ns → Vals (ns.map V.int) vs
  | _, _, .nil => .nil
  | _, _, .cons n t h => .cons ⟨t, rfl⟩ (vals_ints h)

/-- nothing is tracked but the script, known to the object (or it is an object of the module) -/
def Only (H : Hp) : Prop := ∀ b, H b = none ∨ ∃ o xs, H b = some (.frz o (.lst xs))

/-- THE HEAD: the law's promise, at the heap behind the top. F, the promise of the law's def, may use that base is part of the heap (so K.In base, base.Ns mainGlobals mg stand in Mod) -/
theorem law_call {P : Program} {w : World} {K : PySem.W.Frag} {mg mb : Str → Option Value} {CX : CXT} {k : Nat} {fa a : Addr} {fd : FuncData} {x : Str} {sp : Sp} {s₁ : Shared} {vs : List Value} {ns : List Int}
    (KX : K.In s₁.heap) (hns : s₁.heap.Ns mainGlobals mg) (hb : s₁.heap.Ns builtinsNs mb) (hbb : ∀ x : Str, x ≠ "__name__" → mb x = bootBuiltins x) (hlim : s₁.heap.NoLimit) (hg : s₁.gens = #[])
    (ha : s₁.heap.get? a = some { cls := .type "list", data := .seq vs.toArray }) (hi : IntsAre vs ns) (hl : ns.length ≤ sizeLine) (hr : Room k callerA)
    (F : ∀ base : Heap, K.In base → base.Ns mainGlobals mg → FnOk P w K mg base CX k fa fd [x] sp) (hbind : ∀ (s : Shared) (u : Value), BindsTo s fd ⟨[u], []⟩ [(x, u)])
    (hsp : ∀ H : Hp, Only H → SqL K H a (ns.map V.int) → sp [.ref a] H (fun v _ => v = .bl true) fun _ _ _ => False)
    (hCX : ∀ H e s', CX [] H s₁ (fun _ _ _ => False) e s' → False) :
    codeAny (model P w) callerA (.call (.ref fa) ⟨[.ref a], []⟩) (fun r s' => r = .ok (.ret (.bool true)) ∧ OldK s₁.heap s'.heap ∧ s'.os = s₁.os ∧ AllBare s'.gens) s₁ := by
  have rv := vals_ints hi
  have lenV := hi.length
  -- from an abstract heap in which nothing but the script may be tracked
  have core : ∀ H : Hp, Only H → SqL K H a (ns.map V.int) → HOk P w H s₁.heap → (∀ b, H b ≠ none → b = a) → (H a ≠ none → K.lookup a = none) →
      codeAny (model P w) callerA (.call (.ref fa) ⟨[.ref a], []⟩) (fun r s' => r = .ok (.ret (.bool true)) ∧ OldK s₁.heap s'.heap ∧ s'.os = s₁.os ∧ AllBare s'.gens) s₁ := by
    intro H hO hS hok hA hK
    have base_of : ∀ {b : Addr} {o : Obj}, s₁.heap.get? b = some o → H b = none → (hidT s₁.heap H).get? b = some o := fun e n => hidT_get e n
    have noA : ∀ {b : Addr} {o : Obj} {es : Array DictEntry} {ep : Nat}, s₁.heap.get? b = some o → o.data = .dict es ep → H b = none := fun {b o es ep} e d => by
      cases q : H b with
      | none => rfl
      | some u =>
        have e' : b = a := hA b (by rw [q]; simp)
        subst e'
        rw [ha] at e; cases e
        have d' : Data.seq vs.toArray _ = Data.dict es ep := d
        cases d'
    have nsK : ∀ {b : Addr} {m : Str → Option Value}, s₁.heap.Ns b m → (hidT s₁.heap H).Ns b m := fun {b m} ⟨o, es, ep, e, d, r⟩ => ⟨o, es, ep, base_of e (noA e d), d, r⟩
    have hKb : K.In (hidT s₁.heap H) := fun b o e => base_of (KX b o e) (by
      cases q : H b with
      | none => rfl
      | some u =>
        have e' : b = a := hA b (by rw [q]; simp)
        subst e'
        rw [hK (by rw [q]; simp)] at e; cases e)
    have hM : Mod K mg (hidT s₁.heap H) := ⟨hKb, nsK hns, ⟨mb, nsK hb, hbb⟩, let ⟨mc, h1, h2⟩ := hlim; ⟨mc, nsK h1, h2⟩⟩
    have e0 : Env0 P w K mg (hidT s₁.heap H) callerA [] s₁ H := ⟨rfl, hM, fun b o e => of_hidT e, Nat.le_of_eq (hidT_size _ _), trivial, fun b hb => absurd (show b ∈ ([] : List Addr) from hb) (by simp), hok, .of_eq hg⟩
    refine codeAny_mono ((F _ hKb (nsK hns)).run callerA [] s₁ H ⟨[.ref a], []⟩ [.ref a] [.ref a] _ _ hr e0 (hbind s₁ (.ref a)) (.cons rfl .nil) (hsp H hO hS)) fun r s' h => ?_
    cases r with
    | error e => exact (hCX H e s' h).elim
    | ok fl =>
      cases fl with
      | next => exact False.elim h
      | brk => exact False.elim h
      | cont => exact False.elim h
      | ret u =>
        obtain ⟨v, H', os, bare, un, hok', r', q⟩ := h
        have q' : v = .bl true := q
        subst q'
        obtain rfl : u = Value.bool true := r'
        refine ⟨rfl, OldK.of_keep fun b o e => ?_, os, bare⟩
        cases q : H b with
        | none => exact un.keep b o e q (by intro z; exact absurd (show b ∈ ([] : List Addr) from z) (by simp)) (by simp)
        | some u =>
          rcases hO b with z | ⟨ob, xs, z⟩
          · rw [q] at z; cases z
          · have z2 := un.frzs b ob _ z
            obtain ⟨e1, _⟩ := hok b _ z
            obtain ⟨e2, _⟩ := hok' b _ z2
            rw [e] at e1; cases e1
            exact e2
  cases hk : K.lookup a with
  | some o =>
    -- the script is one of the module's own objects
    have e := KX a o hk
    rw [ha] at e
    cases e
    refine core (fun _ => none) (fun _ => .inl rfl) (.inr ⟨_, vs.toArray, _, hk, rfl, rfl, rfl, by rw [List.size_toArray, lenV]; exact hl, by simpa using rv⟩) (fun b u z => by have z' : (none : Option HO) = some u := z; cases z') (fun b z => absurd rfl z) fun z => absurd rfl z
  | none =>
    refine core (fun b => if b = a then some (.frz { cls := .type "list", data := .seq vs.toArray } (.lst (ns.map V.int))) else none) (fun b => ?_) (.inl (.inr ⟨{ cls := .type "list", data := .seq vs.toArray }, if_pos rfl⟩)) (fun b u z => ?_) (fun b z => ?_) fun _ => hk
    · by_cases hb : b = a
      · exact .inr ⟨_, _, if_pos hb⟩
      · exact .inl (if_neg hb)
    · by_cases hb : b = a
      · have z' := (if_pos hb).symm.trans z
        cases z'
        subst hb
        exact ⟨ha, by rw [List.length_map]; exact hl, vs, _, rv, ha⟩
      · have z' := (if_neg hb).symm.trans z
        cases z'
    · by_cases hb : b = a
      · exact hb
      · exact absurd (if_neg hb) z
end L2

namespace L2
open PySem PySem.Spec PyProof.Rows

abbrev KOf {K : PySem.W.Frag} {h : Heap} (_ : K.In h) : PySem.W.Frag := K

/-- the goal that k_head leaves (case hc), from the law's promise. F gives the function object fd (K's own) once, then the promise over every base -/
theorem walk_of {l : PySem.W.OpenLaw} {n k : Nat} {q : Program} {loose : List Str} {XP : (Str → Option Value) → Heap → Prop} {YP : World → Heap → Prop} {d : DefRec} {K : Params → PySem.W.Frag} {CX : World → CXT} {sp : World → Sp} {x : Str}
    (hn : l.most = some n) (hn2 : n ≤ sizeLine) (hdf : d.params.defaults = []) (hr : Room k callerA)
    (hY : ∀ (w : World) (h : Heap), YP w h → (K w.params).In h)
    (F : ∀ (w : World) (mg : Str → Option Value) (fa : Addr) (h : Heap), (K w.params).In h → h.Ns mainGlobals mg → mg d.name = some (.ref fa) →
      ∃ fd : FuncData, (∀ (s : Shared) (u : Value), BindsTo s fd ⟨[u], []⟩ [(x, u)]) ∧
        ∀ base : Heap, (K w.params).In base → base.Ns mainGlobals mg → FnOk l.prog w (K w.params) mg base (CX w) k fa fd [x] (sp w))
    (hsp : ∀ (w : World) (H : Hp) (a : Addr) (ns : List Int), ns.length ≤ n → Only H → SqL (K w.params) H a (ns.map V.int) → sp w [.ref a] H (fun v _ => v = .bl true) fun _ _ _ => False)
    (hCX : ∀ (w : World) (H : Hp) (s : Shared) (e : Value) (s' : Shared), CX w [] H s (fun _ _ _ => False) e s' → False) :
    PySem.W.WalkO q loose XP YP l.row.toRowW d [] (fun f vs => PySem.call f vs) := by
  refine Att.attach_call hn hdf fun w s₀ s₁ mg mb fa o pm cd doc a vs ns G Y ho hd hcd hmg hobj hints hlen hg => ?_
  have KX := hY w _ Y
  obtain ⟨fd, hb, hF⟩ := F w mg fa _ KX G.T.g hmg
  exact law_call KX G.T.g G.T.b G.T.builtins G.T.nolimit hg hobj hints (Nat.le_trans hlen hn2) hr hF hb (fun H hO hS => hsp w H a ns hlen hO hS) fun H e s' => hCX w H s₁ e s'
end L2

/- THE LAST THEOREM (shape; LID, My.* are yours):
   My.Adr: a structure of the addresses that your layer names (classes, functions); My.Txt K t: a structure (Prop) of the equations over K;
   My.txt_mk : {K} {implicit addresses ..} (e1 : nsIn K mainGlobals "law" = some (some (.ref f))) (e2 : K.lookup f = some ⟨oc, od, .func (fnOf "law" "law" params body scope dV kV doc pm an cdv ct), sl⟩) (e3 : codeIn K cdv "law" = true) .. : ∃ t, My.Txt K t

set_option maxRecDepth 100000 in
set_option maxHeartbeats 0 in
theorem PySem.Challenge.cw_LID_holds : PySem.Challenge.rw_LID.Holds := by
  w_on; o_law; k_head; (case hw => w_witness2)
  k_fill
  refine L2.walk_of (l := PySem.Challenge.rw_LID) (n := 63) (k := 40) (x := "script") (CX := fun w => ..) (sp := fun _ => My.sp_law) rfl (by decide) rfl ⟨rfl, by decide, by decide⟩ (fun w h Y => PySem.W.kIn_of Y) ?F ?S ?C
  case F =>
    intro w mg fa h KX G hmg
    have T : ∃ t, My.Txt (L2.KOf KX) t := by
      dsimp only [L2.KOf]                          -- K must stand as «<heap const> w.params» for k_is
      refine' My.txt_mk ?e1 ?e2 ?e3 ..
      (case e1 => PySem.W.k_is)                    -- in the order: a name -> its address -> its object -> its parts
      (case e2 => PySem.W.k_is)
      ..
    obtain ⟨t, T⟩ := T
    have e0 := hmg.symm.trans (PySem.W.mg_of KX G T.law)
    cases e0                                       -- fa is the law's own address
    exact ⟨_, fun s u => .of_eq rfl, fun base kb nb => My.law_fn T kb nb⟩     -- if «.of_eq rfl» comes too early: refine' ⟨_, ?b, fun base kb nb => My.law_fn T kb nb⟩; exact fun s u => .of_eq rfl
  case S => exact fun w H a ns hl hO hS => ..
  case C => exact ..
(the tactic k_is has no namespace: write k_is) -/

/-! SHORT WORDS over the layer: a def of the text, its body, what a loop and a test want. -/
namespace L2
open PySem PySem.Spec PyProof.Rows

/-! ### the text by places -/
/-- the j-th statement of a class's body -/
def inClass (s : Stmt) (j : Nat) : Stmt := match s with
  | .ClassDef _ _ _ body _ _ _ _ _ _ _ => body.getD j (.Pass ⟨0, 0, 0, 0⟩)
  | _ => .Pass ⟨0, 0, 0, 0⟩
def defArgs (s : Stmt) : Arguments := match s with
  | .FunctionDef _ a _ _ _ _ _ _ _ _ => a
  | _ => { posonlyargs := [], args := [], vararg := none, kwonlyargs := [], kw_defaults := [], kwarg := none, defaults := [] }
def defBody (s : Stmt) : List Stmt := match s with
  | .FunctionDef _ _ b _ _ _ _ _ _ _ => b
  | _ => []
def defScope (s : Stmt) : Scope := match s with
  | .FunctionDef _ _ _ _ _ _ sc _ _ _ => sc
  | _ => { kind := .function, names := [], isGenerator := false, isCoroutine := false }

/-! ### no exception leaves a def -/
abbrev CX0 : CXT := fun _ _ _ _ _ _ => False
abbrev E0 : XK := fun _ _ _ => False
theorem pass0 {X : Cx} : Passes CX0 X E0 := fun _ _ _ _ _ _ _ h => h.elim

/-! ### a def (or method) of the text as it stands behind the top -/
structure Fun (K : PySem.W.Frag) (x qual : Str) (st : Stmt) (f : Addr) (fd : FuncData) : Prop where
  ex : ∃ (oc : Value) (od : Option Addr) (kV doc pm : Value) (an : Option Addr) (cdv ct : Value) (osl : Array (Option Value)),
    fd = PySem.W.fnOf x qual (defArgs st) (defBody st) (defScope st) .none kV doc pm an cdv ct ∧ K.lookup f = some ⟨oc, od, .func fd, osl⟩ ∧ PySem.W.codeIn K cdv qual = true
  kp : PySem.W.keepIn K (.ref f) = true
section
variable {P : Program} {w : World} {K : PySem.W.Frag} {mg : Str → Option Value} {base : Heap}
end
theorem hu_of {A : Around} {k : Nat} (hr : Room k A) : A.units + 1 < cLine := Nat.lt_of_le_of_lt (Nat.add_le_add_left (by decide : 1 ≤ 64) _) hr.units
theorem small1000 {n : Nat} (h : n ≤ 1000) : n < sizeLine := Nat.lt_of_le_of_lt h (by decide)

/-! ### expressions in short: the name that stands in the i-th slot -/
section
variable {X : Cx}
theorem pv (i : Nat) {x : Str} {pos : Pos} (hN : X.N[i]? = some x := by rfl) (hv : Vis X.env.scope x := by first | exact Or.inl rfl | exact Or.inr (Or.inl rfl) | exact Or.inr (Or.inr rfl)) (hd : (x == ("__debug__" : Str)) = false := by decide)
    (hcd : (x == ("__classdict__" : Str)) = false := by decide) : PE X (.Name x pos) (tVar i) := pe_var hN hv hd hcd
end

/-! ### tests -/
theorem iteF {A B : Prop} (h : B) : if false = true then A else B := by
  rw [if_neg Bool.false_ne_true]
  exact h
theorem iteT {A B : Prop} (h : A) : if true = true then A else B := by
  rw [if_pos rfl]
  exact h
theorem ite2 {c A B : Prop} [Decidable c] (h1 : c → A) (h2 : ¬ c → B) : if c then A else B := by
  by_cases h : c
  · rw [if_pos h]
    exact h1 h
  · rw [if_neg h]
    exact h2 h
theorem iteNS {c A B : Prop} [Decidable c] (hc : c) (h : B) : if (!decide c) = true then A else B := by
  rw [decide_eq_true hc]
  exact iteF h

/-! ### heaps -/
/-- all that was tracked is as it was -/
def Same (H H' : Hp) : Prop := ∀ b o, H b = some o → H' b = some o
theorem Same.refl (H : Hp) : Same H H := fun _ _ h => h
theorem Same.trans {H H1 H2 : Hp} (a : Same H H1) (b : Same H1 H2) : Same H H2 := fun c o h => b c o (a c o h)
theorem Same.free {H H' : Hp} (e : Same H H') {l : Addr} (h : H' l = Option.none) : H l = Option.none := by
  cases q : H l with
  | none => rfl
  | some o =>
    rw [e l o q] at h
    cases h
theorem Same.seq {K : PySem.W.Frag} {H H' : Hp} {a : Addr} {xs : List V} (e : Same H H') (h : SqL K H a xs) : SqL K H' a xs := by
  rcases h with (h | ⟨o, h⟩) | h
  · exact .inl (.inl (e _ _ h))
  · exact .inl (.inr ⟨o, e _ _ h⟩)
  · exact .inr h

end L2

set_option Elab.async false
set_option linter.all false
namespace L2
open PySem PySem.W
/-- the goal that z_head leaves, from the one that k_head leaves -/
theorem walkX_of {q : Program} {loose : List Str} {XP : (Str → Option Value) → Heap → Prop} {K : Params → PySem.W.Frag} {bs : List Addr} {n t : Nat} {r : RowW} {d : DefRec} {kwd : List (Str × Expr)} {run : Value → List Value → Sem Value}
    (e : ∀ P, bs = (K P).map (·.1)) (h : WalkO q loose XP (fun w h => (K w.params).In h) r d kwd run) : WalkX q loose XP (PySem.W.X.obsZ bs) (PySem.W.X.valZ K n t) r d kwd run :=
  fun w s₀ s₁ mg mb G y a o pm cd doc dV kV h1 h2 h3 h4 h5 h6 args vals as' L => h w s₀ s₁ mg mb G (InK.keeps w _ _ (PySem.W.X.z_facts e y).2.1 L.keeps) a o pm cd doc dV kV h1 h2 h3 h4 h5 h6 args vals as'
end L2

set_option Elab.async false
set_option linter.all false
set_option maxRecDepth 100000
set_option maxHeartbeats 1000000
namespace L2
open PySem PySem.Spec PyProof.Rows
section
variable {X : Cx}

/-! isinstance of one class -/
theorem call_isi : CallR X (.builtin "isinstance") (fun xs H Q => ∃ x n t b, xs = [x, .ty n] ∧ TyOf X.K H x t ∧ PySem.W.kitOne X.K t (.type n) = some b ∧ Q (.bl b) H) := by
  intro pins s σ H xs us Q I r h
  obtain ⟨x, n, t, b, rfl, ty, e, q⟩ := h
  obtain ⟨u, w', rfl, rx, rn⟩ := vals2 r
  cases (show w' = Value.type n from rn)
  exact isinst_ok I rx ty e fun tk => ⟨.bl b, H, I.tok tk, rfl, q⟩

/-! numbers of many bits -/
def Bt (n : Nat) (i : Int) : Prop := i.natAbs < 2 ^ n
theorem intBits_of {n : Nat} {i : Int} (h : Bt n i) : Builtin.Int.intBits i ≤ n := by
  unfold Builtin.Int.intBits
  split
  · exact Nat.zero_le _
  · rename_i h0
    have hp : i.natAbs ≠ 0 := by
      intro z
      apply h0
      simp at z ⊢
      exact z
    have : i.natAbs.log2 < n := (Nat.log2_lt hp).mpr h
    omega
def CBig (i j : Int) : Prop := ∃ n m, Bt n i ∧ Bt m j ∧ n ≤ 1048576 ∧ m ≤ 1048576
theorem CBig.ok {i j : Int} (h : CBig i j) : IntMulOk i j := by
  obtain ⟨n, m, h1, h2, h3, h4⟩ := h
  have e : (2 : Nat) ^ 20 = 1048576 := by decide
  exact IntMulOk.of_bits (by have := intBits_of h1; omega) (by have := intBits_of h2; omega)
theorem op_mulB : OpR X (binaryOp .Mult) (rI CBig fun i j => .int (i * j)) := opI fun _ _ _ _ _ _ _ hc q => mul_int q hc.ok
def CDivB (i j : Int) : Prop := j ≠ 0 ∧ ∃ n, Bt n j ∧ n ≤ 9000
theorem CDivB.ok {i j : Int} (h : CDivB i j) : Builtin.divisionGoesByPylong i j = false := by
  obtain ⟨h0, n, h1, h2⟩ := h
  refine PyProof.noPylong_of_log2 ?_
  have hp : j.natAbs ≠ 0 := by omega
  have : j.natAbs.log2 < n := (Nat.log2_lt hp).mpr h1
  omega
theorem op_fdivB : OpR X (binaryOp .FloorDiv) (rI CDivB fun i j => .int (i.fdiv j)) := opI fun _ _ _ _ _ _ _ hc q => floordiv_int hc.1 q (.inl hc.ok)

/-! plain data, deep -/
mutual
inductive DatV (K : PySem.W.Frag) (H : Hp) : V → PyData → Prop where
  | non : DatV K H .non .none
  | bl (b : Bool) : DatV K H (.bl b) (.bool b)
  | int (i : Int) : DatV K H (.int i) (.int i)
  | str (x : Str) : DatV K H (.str x) (.str x)
  | lst {a : Addr} {xs : List V} {ds : List PyData} (h : SqL K H a xs) (q : DatVs K H xs ds) : DatV K H (.ref a) (.list ds)
  | tup {a : Addr} {xs : List V} {ds : List PyData} (h : SqT K H a xs) (q : DatVs K H xs ds) : DatV K H (.ref a) (.tuple ds)
inductive DatVs (K : PySem.W.Frag) (H : Hp) : List V → List PyData → Prop where
  | nil : DatVs K H [] []
  | cons {x : V} {d : PyData} {xs : List V} {ds : List PyData} (p : DatV K H x d) (q : DatVs K H xs ds) : DatVs K H (x :: xs) (d :: ds)
end
theorem datV_reads {pins : List (Addr × Obj)} {s : Shared} {σ : St} {H : Hp} (I : Inv X pins σ H s) : ∀ {x : V} {d : PyData}, DatV X.K H x d → ∀ {u : Value}, RelV x u → ∃ as, Reads s.heap u d as := by
  intro x d h
  induction h using DatV.rec (motive_2 := fun xs ds _ => ∀ {us : List Value}, Vals xs us → ∃ as, ReadsAll s.heap us ds as) with
  | non => intro u r; cases (show u = Value.none from r); exact ⟨_, .none⟩
  | bl b => intro u r; cases (show u = Value.bool b from r); exact ⟨_, .bool b⟩
  | int i => intro u r; obtain ⟨t, rfl⟩ := (show ∃ t, u = Value.int i t from r); exact ⟨_, .int i t⟩
  | str y => intro u r; obtain ⟨t, rfl⟩ := (show ∃ t, u = Value.str y t from r); exact ⟨_, .str y t⟩
  | lst h q ih =>
    intro u r
    cases (show u = Value.ref _ from r)
    obtain ⟨its, rv, pl, _⟩ := I.list h
    obtain ⟨as, ra⟩ := ih rv
    obtain ⟨o, h1, h2, n, h3⟩ := pl.isList
    exact ⟨_, .list h1 h2 h3 (by simpa using ra)⟩
  | tup h q ih =>
    intro u r
    cases (show u = Value.ref _ from r)
    obtain ⟨its, rv, pl, _⟩ := I.tuple h
    obtain ⟨as, ra⟩ := ih rv
    obtain ⟨o, h1, h2, n, h3⟩ := pl
    exact ⟨_, .tuple h1 h2 h3 (by simpa using ra)⟩
  | nil => rename_i us r; cases r; exact ⟨_, .nil⟩
  | cons p q ih1 ih2 =>
    rename_i us r
    cases r with
    | cons r1 r2 =>
      obtain ⟨as, h1⟩ := ih1 r1
      obtain ⟨bs, h2⟩ := ih2 r2
      exact ⟨_, .cons h1 h2⟩
def rDat (K : PySem.W.Frag) (neg : Bool) : R2 := fun x y H Q => ∃ d e, DatV K H x d ∧ DatV K H y e ∧ d.canLay0 = true ∧ e.canLay0 = true ∧ min d.depth e.depth ≤ 16 ∧ Q (.bl (if neg then !PyData.eqv d e else PyData.eqv d e)) H
theorem op_eqD (hu : X.A.units + 64 < cLine) : OpR X (compareOp .Eq) (rDat X.K false) := by
  intro pins s σ H x y v u Q I rx ry h
  obtain ⟨d, e, h1, h2, c1, c2, hm, q⟩ := h
  obtain ⟨as, r1⟩ := datV_reads I h1 rx
  obtain ⟨bs, r2⟩ := datV_reads I h2 ry
  exact PySem.SeqAt.compareEq_reads r1 r2 c1 c2 (by omega) ⟨.bl (PyData.eqv d e), H, I, rfl, q⟩
theorem op_neD (hu : X.A.units + 64 < cLine) : OpR X (compareOp .NotEq) (rDat X.K true) := by
  intro pins s σ H x y v u Q I rx ry h
  obtain ⟨d, e, h1, h2, c1, c2, hm, q⟩ := h
  obtain ⟨as, r1⟩ := datV_reads I h1 rx
  obtain ⟨bs, r2⟩ := datV_reads I h2 ry
  exact PySem.SeqAt.compareNe_reads r1 r2 c1 c2 (by omega) ⟨.bl (!PyData.eqv d e), H, I, rfl, q⟩
end
end L2

set_option maxHeartbeats 1000000
namespace Mq
abbrev Q2 := Int × Int
def gc (a b : Int) : Int := (Int.gcd a b : Nat)
theorem gc_step (a b : Int) : gc b (Int.fmod a b) = gc a b := by
  unfold gc
  rw [Int.fmod_def, Int.gcd_comm a b, Int.sub_eq_add_neg, ← Int.mul_neg, Int.gcd_add_mul_left_right]
theorem fmod_less {a b : Int} (h : b ≠ 0) : (Int.fmod a b).natAbs < b.natAbs := by
  rcases (by omega : 0 < b ∨ b < 0) with h1 | h1
  · have := Int.fmod_nonneg_of_pos a h1
    have := Int.fmod_lt_of_pos a h1
    omega
  · have h2 : 0 < -b := by omega
    have e : Int.fmod a b = - Int.fmod (-a) (-b) := by
      rw [Int.neg_fmod_neg]; omega
    have := Int.fmod_nonneg_of_pos (-a) h2
    have := Int.fmod_lt_of_pos (-a) h2
    omega
theorem gc_zero (a : Int) : gc a 0 = if a < 0 then -a else a := by
  unfold gc
  rw [Int.gcd_zero]
  split <;> omega
theorem gc_pos {a b : Int} (h : b ≠ 0) : 0 < gc a b := by
  have := Int.gcd_pos_of_ne_zero_right a h
  unfold gc; omega
structure Low (p : Q2) : Prop where
  pos : 1 ≤ p.2
  one : gc p.1 p.2 = 1
/-- the divisor by which both are divided -/
def dvr (t b : Int) : Int := if b < 0 then -gc t b else gc t b
def red (t b : Int) : Q2 := (Int.fdiv t (dvr t b), Int.fdiv b (dvr t b))
theorem dvr_ne {t b : Int} (h : b ≠ 0) : dvr t b ≠ 0 := by
  have := gc_pos (a := t) h
  unfold dvr; split <;> omega
theorem fdiv_exact {a g k : Int} (hg : g ≠ 0) (h : a = g * k) : Int.fdiv a g = k := by
  rw [h, Int.mul_fdiv_cancel_left _ hg]
theorem dvr_dvd (t b : Int) : dvr t b ∣ t ∧ dvr t b ∣ b := by
  have h1 : gc t b ∣ t := Int.gcd_dvd_left t b
  have h2 : gc t b ∣ b := Int.gcd_dvd_right t b
  unfold dvr; split
  · exact ⟨Int.neg_dvd.mpr h1, Int.neg_dvd.mpr h2⟩
  · exact ⟨h1, h2⟩
theorem red_parts {t b : Int} (h : b ≠ 0) : t = dvr t b * (red t b).1 ∧ b = dvr t b * (red t b).2 := by
  obtain ⟨⟨x, hx⟩, ⟨y, hy⟩⟩ := dvr_dvd t b
  have hg := dvr_ne (t := t) h
  have e1 : (red t b).1 = x := fdiv_exact hg hx
  have e2 : (red t b).2 = y := fdiv_exact hg hy
  rw [e1, e2]; exact ⟨hx, hy⟩
theorem red_low {t b : Int} (h : b ≠ 0) : Low (red t b) := by
  obtain ⟨h1, h2⟩ := red_parts (t := t) h
  have hg := dvr_ne (t := t) h
  have hp := gc_pos (a := t) h
  have nd : (dvr t b).natAbs = (gc t b).natAbs := by unfold dvr; split <;> simp
  have e : Int.gcd t b = (dvr t b).natAbs * Int.gcd (red t b).1 (red t b).2 := by
    rw [← Int.gcd_mul_left, ← h1, ← h2]
  have e2 : (gc t b).natAbs = Int.gcd t b := by unfold gc; simp
  rw [nd, e2] at e
  have hp' : 0 < Int.gcd t b := by unfold gc at hp; omega
  have one : Int.gcd (red t b).1 (red t b).2 = 1 := by
    have : Int.gcd t b * Int.gcd (red t b).1 (red t b).2 = Int.gcd t b * 1 := by omega
    exact Nat.eq_of_mul_eq_mul_left hp' this
  refine ⟨?_, by unfold gc; rw [one]; rfl⟩
  have sgn : 0 < (red t b).2 := by
    by_cases hb : b < 0
    · have hd : dvr t b < 0 := by unfold dvr; rw [if_pos hb]; omega
      have hq : ¬ (red t b).2 ≤ 0 := fun q => by
        have := Int.mul_nonneg_of_nonpos_of_nonpos (Int.le_of_lt hd) q
        omega
      omega
    · have hd : 0 < dvr t b := by unfold dvr; rw [if_neg hb]; omega
      have hq : ¬ (red t b).2 ≤ 0 := fun q => by
        have := Int.mul_nonpos_of_nonneg_of_nonpos (Int.le_of_lt hd) q
        omega
      omega
  omega
theorem red_cross {t b : Int} (h : b ≠ 0) : (red t b).1 * b = t * (red t b).2 := by
  obtain ⟨h1, h2⟩ := red_parts (t := t) h
  generalize (red t b).1 = x at *
  generalize (red t b).2 = y at *
  generalize dvr t b = g at *
  subst h1 h2; grind
theorem natAbs_fdiv_le {a g k : Int} (hg : g ≠ 0) (h : a = g * k) : k.natAbs ≤ a.natAbs := by
  rw [h, Int.natAbs_mul]
  exact Nat.le_mul_of_pos_left _ (by omega)
theorem red_le {t b : Int} (h : b ≠ 0) : (red t b).1.natAbs ≤ t.natAbs ∧ (red t b).2.natAbs ≤ b.natAbs := by
  obtain ⟨h1, h2⟩ := red_parts (t := t) h
  exact ⟨natAbs_fdiv_le (dvr_ne h) h1, natAbs_fdiv_le (dvr_ne h) h2⟩
theorem dvr_le {t b : Int} (h : b ≠ 0) : (dvr t b).natAbs ≤ b.natAbs := by
  have e : (dvr t b).natAbs = Int.gcd t b := by unfold dvr gc; split <;> simp
  rw [e]; exact Int.gcd_le_natAbs_right t h
theorem low_same {p q : Q2} (hp : Low p) (hq : Low q) (h : p.1 * q.2 = q.1 * p.2) : p = q := by
  have gp : Int.gcd p.2 p.1 = 1 := by have := hp.one; rw [Int.gcd_comm]; unfold gc at this; omega
  have gq : Int.gcd q.2 q.1 = 1 := by have := hq.one; rw [Int.gcd_comm]; unfold gc at this; omega
  have d1 : p.2 ∣ q.2 := by
    have : p.2 ∣ p.1 * q.2 := ⟨q.1, by rw [h, Int.mul_comm]⟩
    have := Int.dvd_gcd_mul_iff_dvd_mul.mpr this
    rw [gp] at this
    simpa using this
  have d2 : q.2 ∣ p.2 := by
    have : q.2 ∣ q.1 * p.2 := ⟨p.1, by rw [← h, Int.mul_comm]⟩
    have := Int.dvd_gcd_mul_iff_dvd_mul.mpr this
    rw [gq] at this
    simpa using this
  have l1 := Int.le_of_dvd (by have := hq.pos; omega) d1
  have l2 := Int.le_of_dvd (by have := hp.pos; omega) d2
  have e2 : p.2 = q.2 := by omega
  have e1 : p.1 = q.1 := by
    rw [e2] at h
    exact Int.eq_of_mul_eq_mul_right (by have := hq.pos; omega) h
  exact Prod.ext e1 e2
/-! sums -/
def plus (p q : Q2) : Q2 := red (p.1 * q.2 + q.1 * p.2) (p.2 * q.2)
def minus (p q : Q2) : Q2 := red (p.1 * q.2 - q.1 * p.2) (p.2 * q.2)
def times (p q : Q2) : Q2 := red (p.1 * q.1) (p.2 * q.2)
def over (p q : Q2) : Q2 := red (p.1 * q.2) (p.2 * q.1)
def tot (l : List Q2) : Q2 := l.foldl plus (0, 1)
theorem mul_ne {a b : Int} (ha : 1 ≤ a) (hb : 1 ≤ b) : a * b ≠ 0 := by
  have := Int.mul_pos (show 0 < a by omega) (show 0 < b by omega)
  omega
theorem plus_low {p q : Q2} (hp : 1 ≤ p.2) (hq : 1 ≤ q.2) : Low (plus p q) := red_low (mul_ne hp hq)
theorem plus_cross {p q : Q2} (hp : 1 ≤ p.2) (hq : 1 ≤ q.2) : (plus p q).1 * (p.2 * q.2) = (p.1 * q.2 + q.1 * p.2) * (plus p q).2 := red_cross (mul_ne hp hq)
/-- numbers of so many bits -/
def B (n : Nat) (i : Int) : Prop := i.natAbs < 2 ^ n
structure Bd (n : Nat) (p : Q2) : Prop where
  a : B n p.1
  b : B n p.2
theorem B.mono {n m : Nat} {i : Int} (h : B n i) (l : n ≤ m) : B m i := Nat.lt_of_lt_of_le h (Nat.pow_le_pow_right (by decide) l)
theorem B.mul {n m : Nat} {i j : Int} (h : B n i) (q : B m j) : B (n + m) (i * j) := by
  unfold B at *
  rw [Int.natAbs_mul, Nat.pow_add]
  exact Nat.mul_lt_mul'' h q
theorem B.add {n : Nat} {i j : Int} (h : B n i) (q : B n j) : B (n + 1) (i + j) := by
  unfold B at *
  have := Int.natAbs_add_le i j
  rw [Nat.pow_succ]; omega
theorem B.neg {n : Nat} {i : Int} (h : B n i) : B n (-i) := by unfold B at *; omega
theorem B.sub {n : Nat} {i j : Int} (h : B n i) (q : B n j) : B (n + 1) (i - j) := by
  rw [Int.sub_eq_add_neg]; exact h.add q.neg
theorem B.le {n : Nat} {i j : Int} (h : B n i) (l : j.natAbs ≤ i.natAbs) : B n j := Nat.lt_of_le_of_lt l h
theorem Bd.mono {n m : Nat} {p : Q2} (h : Bd n p) (l : n ≤ m) : Bd m p := ⟨h.a.mono l, h.b.mono l⟩
/-- over one bottom -/
def D : List Q2 → Int
  | [] => 1
  | f :: r => f.2 * D r
def N : List Q2 → Int
  | [] => 0
  | f :: r => f.1 * D r + f.2 * N r
theorem D_app (xs ys : List Q2) : D (xs ++ ys) = D xs * D ys := by
  induction xs with
  | nil => simp [D]
  | cons x r ih => simp only [List.cons_append, D, ih]; grind
theorem N_app (xs ys : List Q2) : N (xs ++ ys) = N xs * D ys + D xs * N ys := by
  induction xs with
  | nil => simp [N, D]
  | cons x r ih => simp only [List.cons_append, N, D, ih, D_app]; grind
def Pos (l : List Q2) : Prop := ∀ f ∈ l, 1 ≤ f.2
theorem foldl_low {l : List Q2} : ∀ {p : Q2}, Low p → Pos l → Low (l.foldl plus p) := by
  induction l with
  | nil => intro p h _; exact h
  | cons x r ih => intro p h k; exact ih (plus_low h.pos (k x (by simp))) fun f hf => k f (by simp [hf])
theorem low01 : Low (0, 1) := ⟨Int.le_refl 1, rfl⟩
theorem tot_low {l : List Q2} (h : Pos l) : Low (tot l) := foldl_low low01 h
theorem foldl_cross {l : List Q2} : ∀ {p : Q2}, 1 ≤ p.2 → Pos l → (l.foldl plus p).1 * (p.2 * D l) = (p.1 * D l + p.2 * N l) * (l.foldl plus p).2 := by
  induction l with
  | nil => intro p h _; simp [D, N]
  | cons x r ih =>
    intro p h k
    have hx := k x (by simp)
    have kr : Pos r := fun f hf => k f (by simp [hf])
    have c := plus_cross h hx
    have hl := plus_low h hx
    have i := ih hl.pos kr
    simp only [List.foldl_cons, D, N]
    generalize (List.foldl plus (plus p x) r).1 = a at *
    generalize (List.foldl plus (plus p x) r).2 = b at *
    have ne : (plus p x).2 ≠ 0 := by have := hl.pos; omega
    generalize (plus p x).1 = u at *
    generalize (plus p x).2 = v at *
    generalize D r = d at *
    generalize N r = n at *
    have : v * (a * (p.2 * (x.2 * d))) = v * ((p.1 * (x.2 * d) + p.2 * (x.1 * d + x.2 * n)) * b) := by grind
    exact Int.eq_of_mul_eq_mul_left ne this
theorem tot_cross {l : List Q2} (h : Pos l) : (tot l).1 * D l = N l * (tot l).2 := by
  have := foldl_cross (p := (0, 1)) (Int.le_refl 1) h
  unfold tot
  simpa using this
end Mq

set_option Elab.async false
set_option linter.all false
set_option maxRecDepth 100000
set_option maxHeartbeats 1000000
namespace L2
open PySem PySem.Spec PyProof.Rows
section
variable {X : Cx} {e st : Expr} {te ts : TE} {p2 pos : Pos}
/-! a list turned about -/
def tRev (K : PySem.W.Frag) (te ts : TE) : TE := fun σ H Q => te σ H fun x H1 => ts σ H1 fun y H2 => ∃ a xs, x = .ref a ∧ y = .int (-1) ∧ SqL K H2 a xs ∧ ∀ p, H2 p = none → Q (.ref p) (upd H2 p (.lst xs.reverse))
end

/-! a def with defaults, in any world of exceptions -/
structure FunD (K : PySem.W.Frag) (x qual : Str) (st : Stmt) (dV : Value) (f : Addr) (fd : FuncData) : Prop where
  ex : ∃ (oc : Value) (od : Option Addr) (kV doc pm : Value) (an : Option Addr) (cdv ct : Value) (osl : Array (Option Value)),
    fd = PySem.W.fnOf x qual (defArgs st) (defBody st) (defScope st) dV kV doc pm an cdv ct ∧ K.lookup f = some ⟨oc, od, .func fd, osl⟩ ∧ PySem.W.codeIn K cdv qual = true
  kp : PySem.W.keepIn K (.ref f) = true
section
variable {P : Program} {w : World} {K : PySem.W.Frag} {mg : Str → Option Value} {base : Heap} {CX : CXT}
theorem FunD.okX {x qual : Str} {st : Stmt} {dV : Value} {f : Addr} {fd : FuncData} {N ps : List Str} {k : Nat} {sp : Sp} (F : FunD K x qual st dV f fd) (S : FnScope N ps (defScope st)) (len : ∀ vs H Q E, sp vs H Q E → vs.length = ps.length)
    (hbody : ∀ (cdv : Value) (A : Around) (outer : List Env) (s : Shared) (H : Hp) (vs : List V) (Q : VK) (E : XK), Room k (A.deeper (envOfC qual (defScope st) s.heap.objs.size f cdv)) → sp vs H Q E →
      ∃ t, PSs (cxOf CX P w K mg base N qual (defScope st) f cdv A outer s H E) (defBody st) t ∧ t { nx := fun _ H' => Q .non H', rt := Q } (start N vs) H) : FnOk P w K mg base CX (k + 1) f fd ps sp := by
  obtain ⟨oc, od, kV, doc, pm, an, cdv, ct, osl, rfl, lk, hcd⟩ := F.ex
  exact fn_of lk hcd S len fun A outer s H vs Q E hr hsp => hbody cdv A outer s H vs Q E hr hsp
theorem FunD.ok {x qual : Str} {st : Stmt} {dV : Value} {f : Addr} {fd : FuncData} {N ps : List Str} {k : Nat} {sp : Sp} (F : FunD K x qual st dV f fd) (S : FnScope N ps (defScope st)) (len : ∀ vs H Q E, sp vs H Q E → vs.length = ps.length)
    (hbody : ∀ (cdv : Value) (A : Around) (outer : List Env) (s : Shared) (H : Hp) (vs : List V) (Q : VK) (E : XK), Room k (A.deeper (envOfC qual (defScope st) s.heap.objs.size f cdv)) → sp vs H Q E →
      ∃ t, PSs (cxOf CX P w K mg base N qual (defScope st) f cdv A outer s H E).nox (defBody st) t ∧ t { nx := fun _ H' => Q .non H', rt := Q } (start N vs) H) : FnOk P w K mg base CX (k + 1) f fd ps sp :=
  F.okX S len fun cdv A outer s H vs Q E hr hsp => by
    obtain ⟨t, h, q⟩ := hbody cdv A outer s H vs Q E hr hsp
    exact ⟨t, h.nox, q⟩
theorem FunD.binds {x qual : Str} {st : Stmt} {dV : Value} {f : Addr} {fd : FuncData} {ps : List Str} (F : FunD K x qual st dV f fd)
    (h : ∀ (kV doc pm : Value) (an : Option Addr) (cdv ct : Value) (us : List Value), us.length = ps.length → bindArgs (PySem.W.fnOf x qual (defArgs st) (defBody st) (defScope st) dV kV doc pm an cdv ct) ⟨us, []⟩ = pure (ps.zip us)) : Binds K fd ps [] := by
  obtain ⟨oc, od, kV, doc, pm, an, cdv, ct, osl, rfl, lk, hcd⟩ := F.ex
  exact .all (h kV doc pm an cdv ct)
theorem fund_mk {x qual : Str} {st : Stmt} {dV : Value} {f : Addr} {oc : Value} {od an : Option Addr} {osl : Array (Option Value)} {kV doc pm cdv ct : Value} (l : K.lookup f = some ⟨oc, od, .func (PySem.W.fnOf x qual (defArgs st) (defBody st) (defScope st) dV kV doc pm an cdv ct), osl⟩)
    (c : PySem.W.codeIn K cdv qual = true) (k : PySem.W.keepIn K (.ref f) = true) : FunD K x qual st dV f (PySem.W.fnOf x qual (defArgs st) (defBody st) (defScope st) dV kV doc pm an cdv ct) := ⟨⟨oc, od, kV, doc, pm, an, cdv, ct, osl, rfl, l, c⟩, k⟩
end

/-! fractions as tuples -/
abbrev fT (p : Mq.Q2) : HO := .tup [.int p.1, .int p.2]
def Fq (K : PySem.W.Frag) (H : Hp) (a : Addr) (p : Mq.Q2) : Prop := SqT K H a [.int p.1, .int p.2]
theorem Same.seqT {K : PySem.W.Frag} {H H' : Hp} {a : Addr} {xs : List V} (e : Same H H') (h : SqT K H a xs) : SqT K H' a xs := by
  rcases h with (h | ⟨o, h⟩) | h
  · exact .inl (.inl (e _ _ h))
  · exact .inl (.inr ⟨o, e _ _ h⟩)
  · exact .inr h
theorem same_new {H : Hp} {p : Addr} (h : H p = none) (o : HO) : Same H (upd H p o) := fun b u q => by rw [upd_ne (ne_of_none q h)]; exact q
theorem Same.fq {K : PySem.W.Frag} {H H' : Hp} {a : Addr} {p : Mq.Q2} (e : Same H H') (h : Fq K H a p) : Fq K H' a p := e.seqT h
theorem Fq.of {K : PySem.W.Frag} {H : Hp} {a : Addr} {p : Mq.Q2} (h : H a = some (fT p)) : Fq K H a p := SqT.of h
theorem rd_ix0 {K : PySem.W.Frag} {σ : St} {H : Hp} {i : Nat} {a : Addr} {p : Mq.Q2} {Q : VK} (hv : σ[i]? = some (some (.ref a))) (h : Fq K H a p) (q : Q (.int p.1) H) : tOp (rIxT K) (tVar i) (tC (.int 0)) σ H Q :=
  ⟨_, hv, a, _, _, _, rfl, rfl, h, rfl, q⟩
theorem rd_ix1 {K : PySem.W.Frag} {σ : St} {H : Hp} {i : Nat} {a : Addr} {p : Mq.Q2} {Q : VK} (hv : σ[i]? = some (some (.ref a))) (h : Fq K H a p) (q : Q (.int p.2) H) : tOp (rIxT K) (tVar i) (tC (.int 1)) σ H Q :=
  ⟨_, hv, a, _, _, _, rfl, rfl, h, rfl, q⟩
theorem rd_mulB {H : Hp} {n m : Nat} {i j : Int} {Q : VK} (h1 : Mq.B n i) (h2 : Mq.B m j) (h3 : n ≤ 1048576) (h4 : m ≤ 1048576) (q : Q (.int (i * j)) H) : rI CBig (fun i j => .int (i * j)) (.int i) (.int j) H Q :=
  ⟨_, _, rfl, rfl, ⟨n, m, h1, h2, h3, h4⟩, q⟩
theorem rd_fdivB {H : Hp} {n : Nat} {i j : Int} {Q : VK} (h1 : j ≠ 0) (h2 : Mq.B n j) (h3 : n ≤ 9000) (q : Q (.int (i.fdiv j)) H) : rI CDivB (fun i j => .int (i.fdiv j)) (.int i) (.int j) H Q :=
  ⟨_, _, rfl, rfl, ⟨h1, n, h2, h3⟩, q⟩
/-- what the program's text leaves to the built-ins -/
structure Bl (mg : Str → Option Value) : Prop where
  isi : mg "isinstance" = none
  int : mg "int" = none
  bool : mg "bool" = none
  abs : mg "abs" = none
/-- isinstance(name in slot i, T) -/
theorem pe_isi {X : Cx} {i : Nat} {x T : Str} {T' : String} {p1 p2 p3 pos : Pos} (hN : X.N[i]? = some x) (hv : Vis X.env.scope x) (b : X.mg "isinstance" = none) (b2 : X.mg T = none) (g1 : Gl X "isinstance") (g2 : Gl X T) (hT : bootBuiltins T = some (.type T'))
    (hd : (x == ("__debug__" : Str)) = false := by decide) (hcd : (x == ("__classdict__" : Str)) = false := by decide) (hTn : T ≠ "__name__" := by decide) (hTd : (T == ("__debug__" : Str)) = false := by decide)
    (he : starEach [.Name x p2, .Name T p3] X.env = (false, eval (.Name x p2) X.env) :: starEach [.Name T p3] X.env := by rfl)
    (he2 : starEach [.Name T p3] X.env = (false, eval (.Name T p3) X.env) :: starEach [] X.env := by rfl) (hpl : (backTo pos (starEach [.Name T p3] X.env)).any (·.1) = false := by rfl) :
    PE X (.Call (.Name "isinstance" p1) [.Name x p2, .Name T p3] [] pos) (fun σ H Q => ∃ v t b, σ[i]? = some (some v) ∧ TyOf X.K H v t ∧ PySem.W.kitOne X.K t (.type T') = some b ∧ Q (.bl b) H) := by
  have h := pe_callB (X := X) (pos := pos) (p := p1) call_isi g1 b PyProof.Rows.boot_isinstance (pa_cons (pe_var (i := i) (pos := p2) hN hv hd hcd) (pa_cons (pe_bltn (v := .ty T') (pos := p3) g2 b2 hT rfl hTn hTd) pa_nil he2) he) (by decide) (by decide) he hpl
  intro pins s σ H Q I q
  obtain ⟨v, t, bb, h1, h2, h3, h4⟩ := q
  exact h pins s σ H Q I ⟨v, h1, v, T', t, bb, rfl, h2, h3, h4⟩
end L2

set_option Elab.async false
set_option linter.all false
namespace L2
open PySem PySem.Spec PyProof.Rows
/-! the promises of the first modules' defs -/
def NotWhole (t : Value) : Prop := t = .type "bool" ∨ t = .type "str" ∨ t = .type "NoneType" ∨ t = .type "tuple" ∨ t = .type "list"
def spWhole (K : PySem.W.Frag) : Sp := fun vs H Q _ => ∃ x, vs = [x] ∧ ((∃ i, x = .int i ∧ Q (.bl true) H) ∨ (∃ t, TyOf K H x t ∧ NotWhole t ∧ Q (.bl false) H))
def spGc : Sp := fun vs H Q _ => ∃ a b : Int, vs = [.int a, .int b] ∧ Q (.int (Mq.gc a b)) H
def NewF (H : Hp) (Q : VK) (p : Mq.Q2) : Prop := ∀ a H', Same H H' → H' a = some (fT p) → Q (.ref a) H'
def spFrac : Sp := fun vs H Q _ => ∃ (t b : Int) (n : Nat), vs = [.int t, .int b] ∧ b ≠ 0 ∧ Mq.B n b ∧ n ≤ 9000 ∧ NewF H Q (Mq.red t b)
def spTwo (K : PySem.W.Frag) (f : Mq.Q2 → Mq.Q2 → Mq.Q2) : Sp := fun vs H Q _ => ∃ (a b : Addr) (p q : Mq.Q2) (n m : Nat), vs = [.ref a, .ref b] ∧ Fq K H a p ∧ Fq K H b q ∧ 1 ≤ p.2 ∧ 1 ≤ q.2 ∧ Mq.Bd n p ∧ Mq.Bd m q ∧ n + m + 1 ≤ 9000 ∧ NewF H Q (f p q)
/-- addresses of fractions -/
inductive Fqs (K : PySem.W.Frag) (H : Hp) : List V → List Mq.Q2 → Prop where
  | nil : Fqs K H [] []
  | cons {a : Addr} {p : Mq.Q2} {xs : List V} {ps : List Mq.Q2} (h : Fq K H a p) (q : Fqs K H xs ps) : Fqs K H (.ref a :: xs) (p :: ps)
theorem Fqs.same {K : PySem.W.Frag} {H H' : Hp} (e : Same H H') : ∀ {xs : List V} {ps : List Mq.Q2}, Fqs K H xs ps → Fqs K H' xs ps
  | _, _, .nil => .nil
  | _, _, .cons h q => .cons (e.fq h) (Fqs.same e q)
theorem Fqs.length {K : PySem.W.Frag} {H : Hp} : ∀ {xs : List V} {ps : List Mq.Q2}, Fqs K H xs ps → xs.length = ps.length
  | _, _, .nil => rfl
  | _, _, .cons _ q => by simp [Fqs.length q]
theorem Fqs.get {K : PySem.W.Frag} {H : Hp} : ∀ {xs : List V} {ps : List Mq.Q2} {i : Nat} {x : V}, Fqs K H xs ps → xs[i]? = some x → ∃ a p, x = .ref a ∧ ps[i]? = some p ∧ Fq K H a p
  | _, _, _, _, .nil, h => by simp at h
  | _, _, 0, _, .cons h _, e => by simp at e; exact ⟨_, _, e.symm, rfl, h⟩
  | _, _, i + 1, _, .cons _ q, e => by simpa using Fqs.get q (by simpa using e)
theorem Fqs.app {K : PySem.W.Frag} {H : Hp} : ∀ {xs ys : List V} {ps qs : List Mq.Q2}, Fqs K H xs ps → Fqs K H ys qs → Fqs K H (xs ++ ys) (ps ++ qs)
  | _, _, _, _, .nil, r => r
  | _, _, _, _, .cons h q, r => .cons h (Fqs.app q r)
def spTot (K : PySem.W.Frag) : Sp := fun vs H Q _ => ∃ (a : Addr) (xs : List V) (ps : List Mq.Q2) (n : Nat), vs = [.ref a] ∧ SqL K H a xs ∧ Fqs K H xs ps ∧ Mq.Pos ps ∧ (∀ p ∈ ps, Mq.Bd n p) ∧ n + 1 + (1 + (n + 1) * ps.length) ≤ 9000 ∧ NewF H Q (Mq.tot ps)
end L2

set_option Elab.async false
set_option linter.all false
set_option maxHeartbeats 1000000
namespace L2
open PySem PySem.Spec PyProof.Rows
theorem Fq.upd {K : PySem.W.Frag} {H : Hp} {a l : Addr} {p : Mq.Q2} {xs : List V} {o : HO} (h : Fq K H a p) (hl : H l = some (.lst xs)) : Fq K (L2.upd H l o) a p := by
  rcases h with (h | ⟨u, h⟩) | h
  · exact .inl (.inl (by rw [upd_ne (ne_of h hl (fun z => by cases z))]; exact h))
  · exact .inl (.inr ⟨u, by rw [upd_ne (ne_of h hl (fun z => by cases z))]; exact h⟩)
  · exact .inr h
theorem Fqs.upd {K : PySem.W.Frag} {H : Hp} {l : Addr} {ys : List V} {o : HO} (hl : H l = some (.lst ys)) : ∀ {xs : List V} {ps : List Mq.Q2}, Fqs K H xs ps → Fqs K (L2.upd H l o) xs ps
  | _, _, .nil => .nil
  | _, _, .cons h q => .cons (h.upd hl) (Fqs.upd hl q)
/-- an object that was not there ahead is changed -/
theorem Same.change {H H' : Hp} {l : Addr} {o : HO} (s : Same H H') (h : H l = none) : Same H (L2.upd H' l o) := fun b u q => by
  rw [upd_ne (ne_of_none q h)]; exact s b u q
/-- fractions as data -/
def qd (p : Mq.Q2) : PyData := .tuple [.int p.1, .int p.2]
theorem Fq.dat {K : PySem.W.Frag} {H : Hp} {a : Addr} {p : Mq.Q2} (h : Fq K H a p) : DatV K H (.ref a) (qd p) := .tup h (.cons (.int _) (.cons (.int _) .nil))
theorem Fqs.dat {K : PySem.W.Frag} {H : Hp} : ∀ {xs : List V} {ps : List Mq.Q2}, Fqs K H xs ps → DatVs K H xs (ps.map qd)
  | _, _, .nil => .nil
  | _, _, .cons h q => .cons h.dat (Fqs.dat q)
theorem qd_lay (p : Mq.Q2) : (qd p).canLay0 = true := rfl
theorem qds_lay : ∀ ps : List Mq.Q2, PyData.canLayAll0 (ps.map qd) = true
  | [] => rfl
  | p :: r => by
    show ((qd p).canLay0 && PyData.canLayAll0 (r.map qd)) = true
    rw [qd_lay, qds_lay r]; rfl
theorem qd_depth (p : Mq.Q2) : (qd p).depth ≤ 1 := by simp [qd, PyData.depth, PyData.depthAll]
theorem qds_depth : ∀ ps : List Mq.Q2, PyData.depthAll (ps.map qd) ≤ 1
  | [] => by simp [PyData.depthAll]
  | p :: r => by
    have a := qd_depth p
    have b := qds_depth r
    simp only [List.map_cons, PyData.depthAll]
    omega
theorem list_depth (ps : List Mq.Q2) : (PyData.list (ps.map qd)).depth ≤ 2 := by
  have := qds_depth ps
  simp only [PyData.depth]; omega
/-- == and != of two fractions -/
theorem qd_eqv (p q : Mq.Q2) : PyData.eqv (qd p) (qd q) = decide (p = q) := by
  unfold qd
  simp only [PyData.eqv, PyData.eqvAll]
  by_cases h : p = q
  · subst h; simp
  · rw [decide_eq_false h]
    by_cases h1 : p.1 = q.1
    · have h2 : p.2 ≠ q.2 := fun z => h (Prod.ext h1 z)
      simp [h2]
    · simp [h1]
theorem rd_eqF {K : PySem.W.Frag} {H : Hp} {a b : Addr} {p q : Mq.Q2} {neg : Bool} {Q : VK} (h1 : Fq K H a p) (h2 : Fq K H b q) (z : Q (.bl (if neg then !decide (p = q) else decide (p = q))) H) : rDat K neg (.ref a) (.ref b) H Q := by
  refine ⟨_, _, h1.dat, h2.dat, qd_lay p, qd_lay q, ?_, ?_⟩
  · have := qd_depth p; omega
  · rw [qd_eqv]; exact z
theorem rd_eqL {K : PySem.W.Frag} {H : Hp} {a b : Addr} {xs ys : List V} {ps : List Mq.Q2} {neg : Bool} {Q : VK} (h1 : SqL K H a xs) (h2 : SqL K H b ys) (f1 : Fqs K H xs ps) (f2 : Fqs K H ys ps) (z : Q (.bl (!neg)) H) : rDat K neg (.ref a) (.ref b) H Q := by
  refine ⟨_, _, .lst h1 f1.dat, .lst h2 f2.dat, ?_, ?_, ?_, ?_⟩
  · exact qds_lay ps
  · exact qds_lay ps
  · have := list_depth ps; omega
  · have e : PyData.eqv (.list (ps.map qd)) (.list (ps.map qd)) = true := PySem.SeqAt.eqv_refl _ (qds_lay ps)
    rw [e]
    cases neg <;> exact z
end L2

set_option Elab.async false
set_option linter.all false
set_option maxHeartbeats 1000000
namespace L2
open PySem PySem.Spec PyProof.Rows
section
variable {X : Cx}
/-! is, of truths -/
end
end L2

set_option Elab.async false
set_option linter.all false
set_option maxRecDepth 100000
set_option maxHeartbeats 1000000
namespace L2
open PySem PySem.Spec PyProof.Rows

/-! ### an exception in flight: new since h0, untracked; its entry (if it has one) too -/
def Tb (h0 : Heap) (H : Hp) (h : Heap) (a : Addr) (v : Value) : Prop :=
  v = .none ∨ ∃ T oT ts, v = .ref T ∧ T ≠ a ∧ h0.get? T = none ∧ H T = none ∧ h.get? T = some oT ∧ oT.data = .fields ts ∧ ts[3]? = some .none
structure Fl (h0 : Heap) (H : Hp) (h : Heap) (a : Addr) (C : Value) (d : Option Addr) : Prop where
  new : h0.get? a = none
  free : H a = none
  at_ : ∃ oe vs v, h.get? a = some oe ∧ oe.cls = C ∧ oe.dict = d ∧ oe.data = .fields vs ∧ vs[1]? = some v ∧ Tb h0 H h a v
theorem Fl.older {h0 h1 : Heap} {H : Hp} {h : Heap} {a : Addr} {C : Value} {d : Option Addr} (F : Fl h0 H h a C d) (k : ∀ b, h0.get? b = none → h1.get? b = none) : Fl h1 H h a C d := by
  obtain ⟨n, f, oe, vs, v, e1, e2, e3, e4, e5, t⟩ := F
  refine ⟨k _ n, f, oe, vs, v, e1, e2, e3, e4, e5, ?_⟩
  rcases t with t | ⟨T, oT, ts, t1, t2, t3, t4⟩
  · exact .inl t
  · exact .inr ⟨T, oT, ts, t1, t2, k _ t3, t4⟩

theorem dict_mapFields (f : Array Value → Array Value) (o : Obj) : (o.mapFields f).dict = o.dict := by
  obtain ⟨c, d, dt, sl⟩ := o
  cases dt <;> rfl
section
variable {M : Model} {A : Around} {E : Value → Shared → Prop} {s : Shared}
theorem entry_raw {base : Heap} {env : Env} {outer : List Env} {L e : Addr} {oe : Obj} {vs : Array Value} {head : Value} {hadNext : Bool} {Q : Unit → Shared → Prop}
    (hfr : A.frames = some (env :: outer)) (hl : s.heap.FunFrames base (env :: outer)) (hf : env.frame = some L)
    (he : s.heap.get? e = some oe) (hd : oe.data = .fields vs) (hsz : 1 < vs.size)
    (h : ∀ h' T oT ts, s.heap.objs.size ≤ T → (∀ b o, b ∉ frs (env :: outer) → b ≠ e → s.heap.get? b = some o → h'.get? b = some o) → (∀ b o, b ∈ frs (env :: outer) → s.heap.get? b = some o → ∃ sl, h'.get? b = some { o with slots := sl }) →
      h'.get? e = some (oe.mapFields (·.setIfInBounds 1 (.ref T))) → h'.get? T = some oT → oT.data = .fields ts → ts[3]? = some .none → T ≠ e → Q () { s with heap := h' }) :
    wpAny M A (do let a ← frameOf env; let pl ← entryPlaceOf L hadNext; let b ← EntryCells.newEntry head a .none (rawInt L) .none pl; setField (.ref e) 1 b) (fun _ s' => wpAny M A (setFlight (.ref e) none) Q E s') E s := by
  have hene : e ∉ frs (env :: outer) := fun hm => by
    obtain ⟨_, o, ho, hnf⟩ := hl.mem hm
    rw [he] at ho; injection ho with ho; subst ho; exact hnf vs hd
  refine wpAny_bind (wpAny_frameOf_fun hfr hl hf fun h₁ hs₁ => ?_)
  refine wpAny_bind (wpAny_entryPlaceOf fun pl hpl => ?_)
  unfold EntryCells.newEntry newFields
  refine wpAny_bind (wpAny_newObj_type ?_ (hpl.sizeOk5 _ _ _ _ _))
  have he₁ : h₁.get? e = some oe := (hs₁.2.1 e hene).trans he
  have he₂ := Heap.get?_push_of_some (h := h₁) { cls := .type "traceback", dict := none, data := .fields ([head, .ref L, .none, rawInt L, .none] ++ (if pl.isEmpty then List.replicate 6 Value.none else pl)).toArray } he₁
  refine wpAny_setField he₂ hd hsz ?_
  have hTe : h₁.objs.size ≠ e := Nat.ne_of_gt (Heap.lt_size he₁)
  have hd₃ := Obj.data_mapFields hd (·.setIfInBounds 1 (Value.ref h₁.objs.size))
  have he₃ := Heap.get?_update_self (Obj.mapFields (·.setIfInBounds 1 (Value.ref h₁.objs.size))) he₂ (Obj.isFreed_of_fields hd₃)
  have hT₃ := (Heap.get?_update_other (h₁.push { cls := .type "traceback", dict := none, data := .fields ([head, .ref L, .none, rawInt L, .none] ++ (if pl.isEmpty then List.replicate 6 Value.none else pl)).toArray })
    (Obj.mapFields (·.setIfInBounds 1 (Value.ref h₁.objs.size))) (Ne.symm hTe)).trans (Heap.get?_push_size h₁ rfl)
  unfold setFlight
  refine wpAny_bind (wpAny_field he₃ hd₃ (x := .ref h₁.objs.size) (by simp [hsz]) ?_)
  rw [if_pos (show (Value.ref h₁.objs.size != Value.none) = true from by simp)]
  have keep : ∀ b o, b ≠ e → h₁.get? b = some o →
      (((h₁.push { cls := .type "traceback", dict := none, data := .fields ([head, .ref L, .none, rawInt L, .none] ++ (if pl.isEmpty then List.replicate 6 Value.none else pl)).toArray }).update e (Obj.mapFields (·.setIfInBounds 1 (Value.ref h₁.objs.size)))).update h₁.objs.size
        (Obj.mapFields (·.setIfInBounds 3 ((none : Option Addr).elim Value.none fun f => rawInt f)))).get? b = some o := fun b o hbe hb => by
    have hbT : h₁.objs.size ≠ b := Nat.ne_of_gt (Heap.lt_size hb)
    rw [Heap.get?_update_other _ _ hbT, Heap.get?_update_other _ _ (Ne.symm hbe)]
    exact Heap.get?_push_of_some _ hb
  refine wpAny_setField hT₃ rfl (by simp only [List.size_toArray, List.length_append, List.length_cons, List.length_nil] <;> omega) (h _ h₁.objs.size _ _ (Nat.le_of_eq hs₁.1.symm) ?_ ?_ ?_
    (Heap.get?_update_self _ hT₃ (Obj.isFreed_of_fields (Obj.data_mapFields rfl _))) (Obj.data_mapFields rfl _) ?_ hTe)
  · exact fun b o hb hbe q => keep b o hbe ((hs₁.2.1 b hb).trans q)
  · intro b o hb q
    obtain ⟨sl, e1⟩ := hs₁.2.2 b o q
    exact ⟨sl, keep b _ (fun z => hene (z ▸ hb)) e1⟩
  · rw [Heap.get?_update_other _ _ hTe]; exact he₃
  · first | (simp; done) | (rcases hpl with rfl | ⟨_, _, _, _, _, _, _, rfl⟩ <;> simp)

theorem note_raw {base h0 : Heap} {H : Hp} {env : Env} {outer : List Env} {L e : Addr} {C : Value} {d : Option Addr} {Q : Unit → Shared → Prop}
    (hfr : A.frames = some (env :: outer)) (hl : s.heap.FunFrames base (env :: outer)) (hf : env.frame = some L) (F : Fl h0 H s.heap e C d)
    (hnew : ∀ b, s.heap.objs.size ≤ b → h0.get? b = none ∧ H b = none)
    (h : ∀ (h' : Heap) (ch : List Addr), (∀ b ∈ ch, h0.get? b = none ∧ H b = none ∧ ∃ o vs, s.heap.get? b = some o ∧ o.data = .fields vs) → (∀ b o, b ∉ frs (env :: outer) → b ∉ ch → s.heap.get? b = some o → h'.get? b = some o) →
      (∀ b o, b ∈ frs (env :: outer) → s.heap.get? b = some o → ∃ sl, h'.get? b = some { o with slots := sl }) → Fl h0 H h' e C d → Q () { s with heap := h' }) :
    wpAny M A (noteFrame (.ref e) env) (fun _ s' => wpAny M A (setFlight (.ref e) none) Q E s') E s := by
  obtain ⟨n, f, oe, vs, v, e1, e2, e3, e4, e5, t⟩ := F
  have hsz : 1 < vs.size := (Array.getElem?_eq_some_iff.mp e5).1
  have fin : ∀ {h' : Heap} {T : Addr} {oT : Obj} {ts : Array Value}, s.heap.objs.size ≤ T → h'.get? e = some (oe.mapFields (·.setIfInBounds 1 (.ref T))) → h'.get? T = some oT → oT.data = .fields ts → ts[3]? = some .none → T ≠ e → Fl h0 H h' e C d := by
    intro h' T oT ts z he hT hd h3 hTe
    refine ⟨n, f, _, _, .ref T, he, ?_, ?_, Obj.data_mapFields e4 _, by simp [hsz], .inr ⟨T, oT, ts, rfl, hTe, (hnew T z).1, (hnew T z).2, hT, hd, h3⟩⟩
    · rw [Obj.cls_mapFields]; exact e2
    · rw [dict_mapFields]; exact e3
  rcases t with rfl | ⟨T, oT, ts, rfl, t2, t3, t4, t5, t6, t7⟩
  · unfold noteFrame
    simp only [hf]
    refine wpAny_bind (wpAny_field e1 e4 e5 ?_)
    rw [if_neg (by decide)]
    refine entry_raw hfr hl hf e1 e4 hsz fun h' T oT ts z k1 k2 he hT hd h3 hTe => ?_
    refine h h' [e] (fun b hb => ?_) (fun b o h1 h2 q => k1 b o h1 (fun w => h2 (by simp [w])) q) k2 (fin z he hT hd h3 hTe)
    have hb : b = e := by simpa using hb
    subst hb
    exact ⟨n, f, _, _, e1, e4⟩
  · unfold noteFrame
    simp only [hf]
    refine wpAny_bind (wpAny_field e1 e4 e5 ?_)
    rw [if_pos (show (Value.ref T != Value.none) = true from by simp)]
    refine wpAny_bind (wpAny_field t5 t6 t7 ?_)
    rw [if_neg (show ¬ ((Value.none == rawInt L) = true) from by simp [rawInt])]
    refine wpAny_bind (wpAny_setField t5 t6 (Array.getElem?_eq_some_iff.mp t7).1 ?_)
    have other : ∀ b, b ≠ T → (s.heap.update T (Obj.mapFields (·.setIfInBounds 3 Value.none))).get? b = s.heap.get? b := fun b hb => Heap.get?_update_other _ _ (Ne.symm hb)
    have noRecord : ∀ b o, s.heap.get? b = some o → (∀ vs, o.data ≠ .fields vs) → b ≠ T := fun b o hb hnf q => by
      rw [q, t5] at hb; injection hb with hb; subst hb; exact hnf ts t6
    have nofr : ∀ b, b ∈ frs (env :: outer) → b ≠ T := fun b hb => by
      obtain ⟨_, o, ho, hnf⟩ := hl.mem hb
      exact noRecord b o ho hnf
    refine entry_raw (s := { s with heap := s.heap.update T (Obj.mapFields (·.setIfInBounds 3 Value.none)) }) (base := base) hfr (hl.of_keeps fun b o hb hnf => ⟨o, (other b (noRecord b o hb hnf)).trans hb, rfl⟩) hf ((other e (Ne.symm t2)).trans e1) e4 hsz
      fun h' T' oT' ts' z k1 k2 he hT hd h3 hTe => ?_
    have z' : s.heap.objs.size ≤ T' := by
      have := Heap.size_after_update s.heap T (Obj.mapFields (·.setIfInBounds 3 Value.none))
      exact Nat.le_trans (Nat.le_of_eq this.symm) z
    refine h h' [e, T] (fun b hb => ?_) (fun b o h1 h2 q => ?_) (fun b o hb q => ?_) (fin z' he hT hd h3 hTe)
    · rcases List.mem_cons.mp hb with hb | hb
      · subst hb; exact ⟨n, f, _, _, e1, e4⟩
      · have hb : b = T := by simpa using hb
        subst hb; exact ⟨t3, t4, _, _, t5, t6⟩
    · exact k1 b o h1 (fun w => h2 (by simp [w])) ((other b fun w => h2 (by simp [w])).trans q)
    · exact k2 b o hb ((other b (nofr b hb)).trans q)
end

/-! ### the invariant where records that are new turn -/
section
variable {X : Cx} {pins : List (Addr × Obj)} {σ : List (Option V)} {H H' : Hp} {s : Shared} {h' : Heap}
theorem Inv.stepN {g' : Array GenState} {t' : Nat} {d' : Drawn} {ch : List Addr} (I : Inv X pins σ H s)
    (hch : ∀ b ∈ ch, X.s₀.heap.get? b = none ∧ b ≠ X.env.locals ∧ (∀ x c, X.env.cells.lookup x = some c → c ≠ b) ∧ ∀ p ∈ X.pn ++ pins, p.1 ≠ b)
    (keep : ∀ b o, b ≠ X.env.locals → b ∉ X.fs → b ∉ ch → s.heap.get? b = some o → H b = none → h'.get? b = some o)
    (slot : ∀ b o, b ≠ X.env.locals → b ∈ X.fs → b ∉ ch → s.heap.get? b = some o → H b = none → ∃ sl, h'.get? b = some { o with slots := sl })
    (there : ∀ b o, b ∉ ch → s.heap.get? b = some o → ∃ o', h'.get? b = some o')
    (ns : ∀ m, s.heap.Ns X.env.locals m → h'.Ns X.env.locals m) (hok : HOk X.prog X.w H h') (hg : AllBare g') :
    Inv X pins σ H { s with heap := h', gens := g', drawn := d', toks := t' } := by
  have neL : ∀ b o, X.s₀.heap.get? b = some o → b ≠ X.env.locals := fun b o e => Nat.ne_of_lt (Nat.lt_of_lt_of_le (Heap.lt_size e) I.ok.above)
  have neC : ∀ b o, X.s₀.heap.get? b = some o → b ∉ ch := fun b o e hb => by rw [(hch b hb).1] at e; cases e
  have cellK : ∀ x c, X.env.cells.lookup x = some c → ∀ v, s.heap.IsCell c v → h'.IsCell c v := fun x c e v ⟨o, ho, hd⟩ => by
    have nch : c ∉ ch := fun z => (hch c z).2.2.1 x c e rfl
    by_cases hc : c ∈ X.fs
    · obtain ⟨sl, q⟩ := slot c o (I.cne x c e) hc nch ho (I.freeC x c e)
      exact ⟨_, q, hd⟩
    · exact ⟨o, keep c o (I.cne x c e) hc nch ho (I.freeC x c e), hd⟩
  refine ⟨I.ok, I.os, hg, ⟨fun b o e n hb hx => ?_, fun b o e n hb hx => ?_, fun b o e n hx => ?_, fun b o e hx => ?_, fun b xs e => I.base.tups b xs e, fun b o xs e => I.base.frzs b o xs e, fun b ps e => I.base.tbls b ps e⟩, ?_, fun x c e => ?_, I.free, I.freeC, fun p hp => ?_, hok, I.len⟩
  · exact keep b o (neL b o e) hb (neC b o e) (I.base.keep b o e n hb hx) (I.base.free b o e n hx)
  · obtain ⟨sl, e1⟩ := I.base.slot b o e n hb hx
    obtain ⟨sl', e2⟩ := slot b _ (neL b o e) hb (neC b o e) e1 (I.base.free b o e n hx)
    exact ⟨sl', e2⟩
  · exact I.base.free b o e n hx
  · obtain ⟨o', e1⟩ := I.base.there b o e hx
    exact there b o' (neC b o e) e1
  · obtain ⟨m, hn, hl⟩ := I.loc
    refine ⟨m, ns m hn, fun i x v e1 e2 e3 => ?_⟩
    obtain ⟨u, r, l⟩ := hl i x v e1 e2 e3
    refine ⟨u, r, ?_⟩
    rcases l with l | ⟨k, c, e, z⟩
    · exact .inl l
    · exact .inr ⟨k, c, e, cellK x c e _ z⟩
  · obtain ⟨v, z⟩ := I.cell x c e
    exact ⟨v, cellK x c e v z⟩
  · obtain ⟨e, n, ne, nf, d⟩ := I.pin p hp
    have nch : p.1 ∉ ch := fun z => (hch p.1 z).2.2.2 p hp rfl
    exact ⟨keep p.1 p.2 ne nf nch e n, n, ne, nf, d⟩

/-- a def's own frame (no comprehension's block) -/
structure Frm (X : Cx) : Prop where
  ex : X.ex = []
  st : X.stack = X.env :: X.outer
  fr : X.env.frame = some X.env.locals
/-- the state where an exception has come up in this frame -/
def Lies (X : Cx) (pins : List (Addr × Obj)) (σ : List (Option V)) (H : Hp) (s : Shared) (a : Addr) (C : Value) (d : Option Addr) : Prop :=
  Inv X pins σ H s ∧ ∃ h0 : Heap, (∀ p ∈ X.pn ++ pins, h0.get? p.1 ≠ none) ∧ (∀ b o, X.s₀.heap.get? b = some o → ∃ o', h0.get? b = some o') ∧ (∀ b o, h0.get? b = some o → ∃ o', s.heap.get? b = some o') ∧ Fl h0 H s.heap a C d
theorem none_back {h1 h2 : Heap} (k : ∀ b o, h1.get? b = some o → ∃ o', h2.get? b = some o') (b : Addr) (e : h2.get? b = none) : h1.get? b = none := by
  cases q : h1.get? b with
  | none => rfl
  | some o => obtain ⟨o', z⟩ := k b o q; rw [e] at z; cases z
theorem none_le {h : Heap} {b : Addr} (e : h.objs.size ≤ b) : h.get? b = none := Heap.get?_none_of_le e

theorem fields_ne {h : Heap} {b c : Addr} {o : Obj} {vs : Array Value} (e : h.get? b = some o) (hd : o.data = .fields vs) {o' : Obj} (e' : h.get? c = some o') (hd' : ∀ vs, o'.data ≠ .fields vs) : b ≠ c := by
  intro z; subst z; rw [e] at e'; cases e'; exact hd' vs hd

theorem lies_ch {a : Addr} {C : Value} {d : Option Addr} {h0 : Heap} (I : Inv X pins σ H s) (hp : ∀ p ∈ X.pn ++ pins, h0.get? p.1 ≠ none) (hs : ∀ b o, X.s₀.heap.get? b = some o → ∃ o', h0.get? b = some o') {b : Addr}
    (hb : h0.get? b = none ∧ H b = none ∧ ∃ o vs, s.heap.get? b = some o ∧ o.data = .fields vs) :
    X.s₀.heap.get? b = none ∧ b ≠ X.env.locals ∧ (∀ x c, X.env.cells.lookup x = some c → c ≠ b) ∧ ∀ p ∈ X.pn ++ pins, p.1 ≠ b := by
  obtain ⟨h1, h2, o, vs, h3, h4⟩ := hb
  refine ⟨none_back hs b h1, ?_, fun x c e => ?_, fun p hq z => hp p hq (by rw [z]; exact h1)⟩
  · obtain ⟨m, ⟨o', es, ep, ho', hd', _⟩, _⟩ := I.loc
    exact fields_ne h3 h4 ho' fun vs z => by rw [hd'] at z; cases z
  · obtain ⟨v, o', ho', hd'⟩ := I.cell x c e
    exact Ne.symm (fields_ne h3 h4 ho' fun vs z => by rw [hd'] at z; cases z)

theorem note_ok {A' : Around} {E : Value → Shared → Prop} {a : Addr} {C : Value} {d : Option Addr} {Q : Unit → Shared → Prop} (hA : A'.frames = some X.stack) (fm : Frm X) (L : Lies X pins σ H s a C d)
    (h : ∀ s', Lies X pins σ H s' a C d → Q () s') :
    wpAny (model X.prog X.w) A' (noteFrame (.ref a) X.env) (fun _ s2 => wpAny (model X.prog X.w) A' (setFlight (.ref a) none) Q E s2) E s := by
  obtain ⟨I, h0, hp, hs, ht, F⟩ := L
  have hstk := I.stack
  have hfree := I.stkFree
  rw [fm.st] at hA hstk hfree
  have hfrs : frs (X.env :: X.outer) = X.env.locals :: X.fs := by unfold frs; rw [List.filterMap_cons, fm.fr]; rfl
  refine note_raw (base := X.base) hA hstk fm.fr F (fun b hb => ⟨none_back ht b (none_le hb), I.hok.fresh hb⟩) fun h' ch c1 c2 c3 F' => ?_
  have tr : ∀ c u, H c = some u → ∀ v, s.heap.get? c = some v → h'.get? c = some v := fun c u e v q =>
    c2 c v (fun z => by rw [hfree c z] at e; cases e) (fun z => by rw [(c1 c z).2.1] at e; cases e) q
  have th : ∀ b o, b ∉ ch → s.heap.get? b = some o → ∃ o', h'.get? b = some o' := fun b o hb q => by
    by_cases hf : b ∈ frs (X.env :: X.outer)
    · obtain ⟨sl, e⟩ := c3 b o hf q; exact ⟨_, e⟩
    · exact ⟨o, c2 b o hf hb q⟩
  have J : Inv X pins σ H { s with heap := h', gens := s.gens, drawn := s.drawn, toks := s.toks } := by
    refine I.stepN (ch := ch) (fun b hb => lies_ch (a := a) (C := C) (d := d) I hp hs (c1 b hb)) (fun b o h1 h2 h3 e _ => c2 b o (by rw [hfrs]; intro z; rcases List.mem_cons.mp z with z | z; exact h1 z; exact h2 z) h3 e)
      (fun b o _ h2 _ e _ => c3 b o (by rw [hfrs]; exact List.mem_cons_of_mem _ h2) e) th (fun m hm => ?_) (fun b u e => ?_) I.bare
    · obtain ⟨o, es, ep, ho, r⟩ := hm
      obtain ⟨sl, e⟩ := c3 _ o (by rw [hfrs]; exact List.mem_cons_self) ho
      exact ⟨_, es, ep, e, r⟩
    · refine (I.hok b u e).stay (fun c v hc q => ?_) (fun _ q => q) fun _ _ q => q
      rcases hc with rfl | hc
      · exact tr c u e v q
      · exact tr c _ hc v q
  refine h _ ⟨J, h0, hp, hs, fun b o e => ?_, F'⟩
  obtain ⟨o', e'⟩ := ht b o e
  exact th b o' (fun z => by rw [(c1 b z).1] at e; cases e) e'

/-- no flight is noted, once more -/
theorem land_ok {A' : Around} {E : Value → Shared → Prop} {a : Addr} {C : Value} {d : Option Addr} {Q : Unit → Shared → Prop} (L : Lies X pins σ H s a C d)
    (h : ∀ s', Lies X pins σ H s' a C d → Q () s') : wpAny (model X.prog X.w) A' (setFlight (.ref a) none) Q E s := by
  have L' := L
  obtain ⟨I, h0, hp, hs, ht, F⟩ := L'
  obtain ⟨n, f, oe, vs, v, e1, e2, e3, e4, e5, t⟩ := F
  unfold setFlight
  refine wpAny_bind (wpAny_field e1 e4 e5 ?_)
  rcases t with rfl | ⟨T, oT, ts, rfl, t2, t3, t4, t5, t6, t7⟩
  · rw [if_neg (by decide)]
    exact wpAny_pure (h s L)
  · rw [if_pos (show (Value.ref T != Value.none) = true from by simp)]
    have hsz3 : 3 < ts.size := (Array.getElem?_eq_some_iff.mp t7).1
    have other : ∀ b, b ≠ T → (s.heap.update T (Obj.mapFields (·.setIfInBounds 3 ((none : Option Addr).elim Value.none fun f => rawInt f)))).get? b = s.heap.get? b := fun b hb => Heap.get?_update_other _ _ (Ne.symm hb)
    have hT' := Heap.get?_update_self (Obj.mapFields (·.setIfInBounds 3 ((none : Option Addr).elim Value.none fun f => rawInt f))) t5 (Obj.isFreed_of_fields (Obj.data_mapFields t6 _))
    refine wpAny_setField t5 t6 hsz3 ?_
    have c1 : ∀ b ∈ [T], h0.get? b = none ∧ H b = none ∧ ∃ o vs, s.heap.get? b = some o ∧ o.data = .fields vs := fun b hb => by
      have hb : b = T := by simpa using hb
      subst hb; exact ⟨t3, t4, _, _, t5, t6⟩
    have nT : ∀ b, b ∉ [T] → b ≠ T := fun b hb z => hb (by simp [z])
    have J : Inv X pins σ H { s with heap := (s.heap.update T (Obj.mapFields (·.setIfInBounds 3 ((none : Option Addr).elim Value.none fun f => rawInt f)))), gens := s.gens, drawn := s.drawn, toks := s.toks } := by
      refine I.stepN (ch := [T]) (fun b hb => lies_ch (a := a) (C := C) (d := d) I hp hs (c1 b hb)) (fun b o _ _ h3 e _ => (other b (nT b h3)).trans e) (fun b o _ _ h3 e _ => ⟨o.slots, (other b (nT b h3)).trans e⟩)
        (fun b o h3 e => ⟨o, (other b (nT b h3)).trans e⟩) (fun m hm => ?_) (fun b u e => ?_) I.bare
      · obtain ⟨o, es, ep, ho, hd, r⟩ := hm
        exact ⟨o, es, ep, (other _ (Ne.symm (fields_ne t5 t6 ho fun vs z => by rw [hd] at z; cases z))).trans ho, hd, r⟩
      · refine (I.hok b u e).stay (fun c v hc q => (other c ?_).trans q) (fun _ q => q) fun _ _ q => q
        rintro rfl
        rcases hc with rfl | hc
        · rw [t4] at e; cases e
        · rw [t4] at hc; cases hc
    refine h _ ⟨J, h0, hp, hs, fun b o e => ?_, ⟨n, f, oe, vs, .ref T, (other a (Ne.symm t2)).trans e1, e2, e3, e4, e5, .inr ⟨T, _, _, rfl, t2, t3, t4, hT', Obj.data_mapFields t6 _, by simp [hsz3]⟩⟩⟩
    obtain ⟨o', e'⟩ := ht b o e
    exact ⟨o', (other b (fun z => by rw [z, t3] at e; cases e)).trans e'⟩
end

/-! ### how an exception lies behind a call -/
def CX1 (P : Program) (w : World) : CXT := fun outer H s E e s' => ∃ a C d H', e = .ref a ∧ s'.os = s.os ∧ AllBare s'.gens ∧ Un (frs outer) [] H H' s.heap s'.heap ∧ HOk P w H' s'.heap ∧ Fl s.heap H' s'.heap a C d ∧ E C d H'
/-- what is wanted of exceptions, by the abstract heap -/
def XeOk (X : Cx) (E : XK) : Prop := ∀ (pins : List (Addr × Obj)) (σ : St) (H : Hp) (s : Shared) (a : Addr) (C : Value) (d : Option Addr), Lies X pins σ H s a C d → E C d H → X.xe (.ref a) s
section
variable {X : Cx} {pins : List (Addr × Obj)} {σ : List (Option V)} {H : Hp} {s s' : Shared} {E : XK} {e : Value}
theorem lies_of_call (fm : Frm X) (I : Inv X pins σ H s) (hcx : CX1 X.prog X.w X.stack H s E e s') : ∃ a C d H', e = .ref a ∧ Lies X pins σ H' s' a C d ∧ E C d H' := by
  obtain ⟨a, C, d, H', rfl, os, bare, un, hok, F, q⟩ := hcx
  refine ⟨a, C, d, H', rfl, ⟨I.call' (ch := []) os un hok bare (fun b z => absurd z (by simp)), s.heap, fun p hp z => ?_, fun b o e => I.base.there b o e (by rw [fm.ex]; simp), fun b o e => un.there b o e (by simp), F⟩, q⟩
  rw [(I.pin p hp).1] at z; cases z
end
theorem frm_cxOf {CX : CXT} {P : Program} {w : World} {K : PySem.W.Frag} {mg : Str → Option Value} {base : Heap} {N : List Str} {qual : Str} {scope : Scope} {f : Addr} {cd : Value} {A : Around} {outer : List Env} {s : Shared} {H : Hp} {E : XK} :
    Frm (cxOf CX P w K mg base N qual scope f cd A outer s H E) := ⟨rfl, rfl, rfl⟩
theorem xe_cxOf {P : Program} {w : World} {K : PySem.W.Frag} {mg : Str → Option Value} {base : Heap} {N : List Str} {qual : Str} {scope : Scope} {f : Addr} {cd : Value} {A : Around} {outer : List Env} {s : Shared} {H : Hp} {E : XK} :
    XeOk (cxOf (CX1 P w) P w K mg base N qual scope f cd A outer s H E) E := by
  intro pins σ H' s' a C d L q
  show wpAny (model P w) (A.deeper (envOfC qual scope s.heap.objs.size f cd)) (leaving (envOfC qual scope s.heap.objs.size f cd) (.ref a)) (fun _ s'' => CX1 P w outer H s E (.ref a) s'') (fun e' s'' => CX1 P w outer H s E e' s'') s'
  unfold leaving
  refine wpAny_bind (note_ok (X := cxOf (CX1 P w) P w K mg base N qual scope f cd A outer s H E) L.1.ok.frames frm_cxOf L fun s'' L'' => ?_)
  obtain ⟨J, h0, hp, hs0, hth, F⟩ := L''
  exact ⟨a, C, d, H', rfl, J.os, J.bare, J.base, J.hok, F.older fun b z => none_back hs0 b z, q⟩
end L2

set_option Elab.async false
set_option linter.all false
set_option maxRecDepth 100000
set_option maxHeartbeats 1000000
namespace L2
open PySem PySem.Spec PyProof.Rows

/-! ### raise -/
abbrev bmVE : List Value := [.type "ValueError", .type "Exception", .type "BaseException", .type "object"]
/-- an own class under ValueError, without __init__ -/
def ExcC (K : PySem.W.Frag) (C : Addr) : Prop := PySem.W.excIn K C bmVE "ValueError.__new__" = true
section
variable {X : Cx} {pins : List (Addr × Obj)} {σ : List (Option V)} {H : Hp} {s : Shared}
/-- raise C(e, ..) -/
def tRaise (C : Addr) (E : XK) (ta : TA) : TS := fun _ σ H => ta σ H fun vs H1 => vs.length ≤ sizeLine ∧ E (.ref C) none H1
end

/-! ### what may raise -/
abbrev TEX := St → Hp → VK → XK → Prop
abbrev TSX := Ends → (St → XK) → St → Hp → Prop
def XP (X : Cx) (pins : List (Addr × Obj)) (E : St → XK) (e : Value) (s' : Shared) : Prop := ∃ a C d σ' H', e = .ref a ∧ Lies X pins σ' H' s' a C d ∧ E σ' C d H'
def PX (X : Cx) (e : Expr) (t : TEX) : Prop :=
  ∀ (pins : List (Addr × Obj)) (s : Shared) (σ : St) (H : Hp) (Q : VK) (E : XK), Inv X pins σ H s → t σ H Q E → wpAny (model X.prog X.w) X.A (eval e X.env) (EP X pins σ Q) (XP X pins fun σ' C d H' => σ' = σ ∧ E C d H') s
def PSX (X : Cx) (st : Stmt) (t : TSX) : Prop :=
  ∀ (pins : List (Addr × Obj)) (s : Shared) (σ : St) (H : Hp) (D : Ends) (E : St → XK), Inv X pins σ H s → t D E σ H → wpAny (model X.prog X.w) X.A (exec st X.env) (SP X pins D) (XP X pins E) s
def PSXs (X : Cx) (st : List Stmt) (t : TSX) : Prop :=
  ∀ (pins : List (Addr × Obj)) (s : Shared) (σ : St) (H : Hp) (D : Ends) (E : St → XK), Inv X pins σ H s → t D E σ H → wpAny (model X.prog X.w) X.A (execs st X.env) (SP X pins D) (XP X pins E) s
theorem XP.at {X : Cx} {pins : List (Addr × Obj)} {σ : St} {E : St → XK} {e : Value} {s' : Shared} (h : XP X pins (fun σ' C d H' => σ' = σ ∧ E σ C d H') e s') : XP X pins E e s' := by
  obtain ⟨a, C, d, σ', H', rfl, L, rfl, q⟩ := h
  exact ⟨a, C, d, σ', H', rfl, L, q⟩
section
variable {X : Cx} {k : Nat} {f C : Addr} {fd : FuncData} {ps : List Str} {sp : Sp} {dvs : List V} {ds : List Value} {x m : Str} {p pos apos : Pos} {e o : Expr} {es : List Expr} {ta : TE} {t : TA}
def xCall (sp : Sp) (dvs : List V) (t : TA) : TEX := fun σ H Q E => t σ H fun vs H1 => sp (vs ++ dvs) H1 Q E
theorem run_x {pins : List (Addr × Obj)} {σ : St} {H : Hp} {s : Shared} {Q : VK} {E : XK} {us : List Value} {vs : List V} (F : FnOk X.prog X.w X.K X.mg X.base (CX1 X.prog X.w) k f fd ps sp) (fm : Frm X) (hr : Room k X.A) (hb : Binds X.K fd ps ds) (hd : Vals dvs ds)
    (I : Inv X pins σ H s) (r : Vals vs us) (h : sp (vs ++ dvs) H Q E) : wpAny (model X.prog X.w) X.A (call (.ref f) us) (EP X pins σ Q) (XP X pins fun σ' C d H' => σ' = σ ∧ E C d H') s := by
  have r2 : Vals (vs ++ dvs) (us ++ ds) := r.append hd
  have hl : (us ++ ds).length = ps.length := by rw [← r2.length]; exact F.len _ _ _ _ h
  refine wpAny_call (codeAny_mono (F.run X.A X.stack s H ⟨us, []⟩ (us ++ ds) (vs ++ dvs) Q E hr I.env0 (hb s us I.kIn hl) r2 h) fun r s' hq => ?_)
  cases r with
  | error e =>
    obtain ⟨a, C, d, H', rfl, L, q⟩ := lies_of_call fm I hq
    exact ⟨a, C, d, σ, H', rfl, L, rfl, q⟩
  | ok fl =>
    cases fl with
    | ret u => exact I.after hq
    | next => exact False.elim hq
    | brk => exact False.elim hq
    | cont => exact False.elim hq
/-- f(e, ..) that may raise; its arguments don't -/
theorem px_call (F : FnOk X.prog X.w X.K X.mg X.base (CX1 X.prog X.w) k f fd ps sp) (fm : Frm X) (hr : Room k X.A) (hg : Gl X x) (hm : X.mg x = some (.ref f)) (hk : PySem.W.keepIn X.K (.ref f) = true) (hb : Binds X.K fd ps ds) (hd : Vals dvs ds)
    (ha : PA X.nox (e :: es) t) (hdb : (x == ("__debug__" : Str)) = false := by decide) (he : starEach (e :: es) X.env = (false, eval e X.env) :: starEach es X.env := by rfl) (hpl : (backTo pos (starEach es X.env)).any (·.1) = false := by rfl) :
    PX X (.Call (.Name x p) (e :: es) [] pos) (xCall sp dvs t) := by
  intro pins s σ H Q E I h
  refine wpAny_Call_Name_kw (ld_glob I hg hm ?_ hdb)
  refine PySem.W.callWith_K (h₀ := X.base) I.ok.mod.kin hk (wpAny_mono (ha pos pins s σ H _ (I.wish _) h) (fun us s1 h1 => ?_) fun _ _ z => False.elim z) he hpl
  obtain ⟨vs, H1, I1, r, q⟩ := h1
  exact ⟨I1.kIn, run_x F fm hr hb hd I1.unwish r q⟩
/-- o.m(e, ..) that may raise -/
def xMeth (C : Addr) (m : Str) (sp : Sp) (dvs : List V) (ta : TE) (t : TA) : TEX := fun σ H Q E => ta σ H fun x H1 => ∃ a dx fs, x = .ref a ∧ H1 a = some (.ins C dx fs) ∧ fs.lookup m = none ∧ t σ H1 fun vs H2 => sp (x :: (vs ++ dvs)) H2 Q E
def xExpr (te : TEX) : TSX := fun D E σ H => te σ H (fun _ H1 => D.nx σ H1) (E σ)
theorem psx_expr (he : PX X e te) (hs : swapsWith e none pos.line X.env = pure false := by rfl) : PSX X (.Expr e pos) (xExpr te) := by
  intro pins s σ H D E I h
  exact wpAny_Expr_any (wpAny_mono (he pins s σ H _ _ I h) (fun v s1 ⟨x, H1, I1, r1, q1⟩ => ⟨σ, H1, I1, q1⟩) fun _ _ z => XP.at z) I.quiet hs
def xSet (i : Nat) (te : TEX) : TSX := fun D E σ H => te σ H (fun v H1 => D.nx (σ.set i (some v)) H1) (E σ)
def xRet (te : TEX) : TSX := fun D E σ H => te σ H D.rt (E σ)
def xOf (t : TS) : TSX := fun D _ σ H => t D σ H
def xSeq (t u : TSX) : TSX := fun D E σ H => t { D with nx := u D E } E σ H
theorem psxs_one {st : Stmt} {t : TSX} (h1 : PSX X st t) : PSXs X [st] t := by
  intro pins s σ H D E I h
  refine wpAny_execs_cons (wpAny_mono (h1 pins s σ H D E I h) (fun f s1 q => ?_) fun _ _ z => z)
  cases f with
  | next => exact wpAny_execs_nil q
  | ret v => exact q
  | brk => exact q
  | cont => exact q
def xIf (c : TT) (t u : TSX) : TSX := fun D E σ H => c σ H fun b H1 => if b = true then t D E σ H1 else u D E σ H1
end

/-! ### the suite of an except clause -/
abbrev Cx.sup (X : Cx) (a : Addr) : Cx := { X with A := X.A.mark (some (.ref a)), calm := false, xe := fun _ _ => False }
section
variable {X : Cx} {pins : List (Addr × Obj)} {σ : List (Option V)} {H : Hp} {s : Shared} {a : Addr}
theorem Cx.Ok.sup (ok : X.Ok) (a : Addr) : (X.sup a).Ok :=
  ⟨ok.mod, ok.kind, ok.glob, ok.blt, ok.above, ok.inj, ok.has, ok.cab, fun z => Bool.noConfusion z, ok.frames, ok.stk, ok.exf, ok.bs, ok.bsz, ok.noex, ok.exfs, ok.funs, ok.frf⟩
theorem Inv.sup (I : Inv X pins σ H s) (a : Addr) : Inv (X.sup a) pins σ H s := ⟨I.ok.sup a, I.os, I.bare, I.base, I.loc, I.cell, I.free, I.freeC, I.pin, I.hok, I.len⟩
theorem Inv.unsup (ok : X.Ok) (I : Inv (X.sup a) pins σ H s) : Inv X pins σ H s := ⟨ok, I.os, I.bare, I.base, I.loc, I.cell, I.free, I.freeC, I.pin, I.hok, I.len⟩
/-- an exception that was caught, as a thing -/
def excO (a : Addr) (C : Value) (d : Option Addr) : HO := .ext fun h => ∃ o vs, h.get? a = some o ∧ o.cls = C ∧ o.dict = d ∧ o.data = .fields vs
theorem Lies.track {C : Value} {d : Option Addr} (L : Lies X pins σ H s a C d) (fm : Frm X) : Inv X pins σ (upd H a (excO a C d)) s := by
  obtain ⟨I, h0, hp, hs, ht, F⟩ := L
  obtain ⟨n, f, oe, vs, v, e1, e2, e3, e4, e5, t⟩ := F
  obtain ⟨c1, c2, c3, c4⟩ := lies_ch (a := a) (C := C) (d := d) I hp hs (b := a) ⟨n, f, _, _, e1, e4⟩
  have tr : ∀ b u, H b = some u → upd H a (excO a C d) b = some u := fun b u e => by rw [upd_ne (ne_of_none e f)]; exact e
  refine ⟨I.ok, I.os, I.bare, ⟨I.base.keep, I.base.slot, fun b o e n' hx => ?_, I.base.there, fun b xs e => tr _ _ (I.base.tups b xs e), fun b o u e => tr _ _ (I.base.frzs b o u e), fun b ps e => ?_⟩, I.loc, I.cell, ?_, fun x c e => ?_, fun p hp' => ?_, fun b o e => ?_, I.len⟩
  · have : b ≠ a := fun z => by rw [z, c1] at e; cases e
    rw [upd_ne this]; exact I.base.free b o e n' hx
  · obtain ⟨more, z⟩ := I.base.tbls b ps e
    exact ⟨more, tr _ _ z⟩
  · rw [upd_ne (Ne.symm c2)]; exact I.free
  · rw [upd_ne (c3 x c e)]; exact I.freeC x c e
  · obtain ⟨z1, z2, z3⟩ := I.pin p hp'
    exact ⟨z1, by rw [upd_ne (c4 p hp')]; exact z2, z3⟩
  · by_cases hb : b = a
    · subst hb
      rw [upd_same] at e; cases e
      refine ⟨⟨oe, vs, e1, e2, e3, e4⟩, ⟨oe, e1⟩, fun h1 h2 p k => ?_⟩
      obtain ⟨o, vs', z1, z2⟩ := p
      exact ⟨o, vs', k o z1, z2⟩
    · rw [upd_ne hb] at e
      exact (I.hok b o e).stay (fun _ _ _ q => q) (fun c q => tr _ _ q) fun c xs q => tr _ _ q
/-- the name behind the suite -/
theorem forget_ok {A' : Around} {E : Value → Shared → Prop} {j : Nat} {n : Str} {pos : Pos} {Q : Unit → Shared → Prop} (I : Inv X pins σ H s) (hN : X.N.Nodup) (hj : X.N[j]? = some n) (hl : X.env.scope.names.lookup n = some .local)
    (h : ∀ s', Inv X pins (σ.set j none) H s' → Q () s') : wpAny (model X.prog X.w) A' (do bindName X.env n .none; unbindBehindTheSuite X.env n pos) Q E s := by
  obtain ⟨m, hn, hlk⟩ := id I.loc
  have hcls : (X.env.scope.kind == .class || (X.env.scope.kind == .module && X.env.locals != X.env.globals)) = false := by rw [I.ok.kind]; rfl
  have hiσ : j < σ.length := by rw [I.len]; exact (List.getElem?_eq_some_iff.mp hj).1
  have cne := I.cne
  refine wpAny_nameGoes_keeps hl hn hcls fun h' v hn' hs => ?_
  obtain ⟨oL, _, _, hoL, _⟩ := id hn
  refine h _ ⟨I.ok, I.os, I.bare, ⟨fun b o e n hb hx => ?_, fun b o e n hb hx => ?_, I.base.free, fun b o e hx => ?_, I.base.tups, I.base.frzs, I.base.tbls⟩, ⟨_, hn', fun i y v' e1 e2 e3 => ?_⟩, fun y c e => ?_, I.free, I.freeC, fun p hp => ?_, fun b ob e => ?_, by simpa using I.len⟩
  · exact (hs.2 b (Nat.ne_of_lt (Nat.lt_of_lt_of_le (Heap.lt_size e) I.ok.above))).trans (I.base.keep b o e n hb hx)
  · obtain ⟨sl, e1⟩ := I.base.slot b o e n hb hx
    exact ⟨sl, (hs.2 b (Nat.ne_of_lt (Nat.lt_of_lt_of_le (Heap.lt_size e) I.ok.above))).trans e1⟩
  · obtain ⟨o', e1⟩ := I.base.there b o e hx
    exact ⟨o', (hs.2 b (Nat.ne_of_lt (Nat.lt_of_lt_of_le (Heap.lt_size e) I.ok.above))).trans e1⟩
  · by_cases hij : i = j
    · subst hij
      rw [List.getElem?_set_self hiσ] at e2
      cases e2
    · rw [List.getElem?_set_ne (Ne.symm hij)] at e2
      obtain ⟨u', r', q⟩ := hlk i y v' e1 e2 e3
      refine ⟨u', r', ?_⟩
      rcases q with ⟨k, e⟩ | ⟨k, c, e, z⟩
      · refine .inl ⟨k, ?_⟩
        have : y ≠ n := fun e => hij (nodup_ix hN e1 (e ▸ hj))
        simp [this, e]
      · exact .inr ⟨k, c, e, z.sameBut hs (cne y c e)⟩
  · obtain ⟨w', z⟩ := I.cell y c e
    exact ⟨w', z.sameBut hs (cne y c e)⟩
  · obtain ⟨e, n, ne, nf, d⟩ := I.pin p hp
    exact ⟨(hs.2 p.1 ne).trans e, n, ne, nf, d⟩
  · refine (I.hok b ob e).stay (fun c w' hc q => (hs.2 c ?_).trans q) (fun _ q => q) fun _ _ q => q
    rintro rfl
    rcases hc with rfl | hc
    · rw [I.free] at e; cases e
    · rw [I.free] at hc; cases hc
end

/-! ### try .. except -/
abbrev TH := Addr → Value → Option Addr → Ends → St → Hp → Prop
def PH (X : Cx) (hs : List ExceptHandler) (t : TH) : Prop :=
  ∀ (pins : List (Addr × Obj)) (s : Shared) (σ : St) (H : Hp) (D : Ends) (a : Addr) (C : Value) (d : Option Addr), Lies X pins σ H s a C d → t a C d D σ H → wpAny (model X.prog X.w) X.A (handleBy (.ref a) X.env hs) (SP X pins D) X.xe s
section
variable {X : Cx} {pos np : Pos} {T : Str} {tc : Value} {b₀ : Stmt} {suite : List Stmt} {rest : List ExceptHandler} {ts : TS} {tr : TH}
def hNever : TH := fun _ _ _ _ _ _ => False
theorem ph_never {hs : List ExceptHandler} : PH X hs hNever := fun _ _ _ _ _ _ _ _ _ h => h.elim
/-- the class that an except clause names -/
def NameC (X : Cx) (T : Str) (c : Value) : Prop := X.mg T = some c ∨ (X.mg T = none ∧ bootBuiltins T = some c ∧ T ≠ "__name__")
theorem ld_cls {E : Value → Shared → Prop} {pins : List (Addr × Obj)} {s : Shared} {σ : St} {H : Hp} {Q : Value → Shared → Prop} (I : Inv X pins σ H s) (hg : Gl X T) (hc : NameC X T tc) (h : Q tc s)
    (hd : (T == ("__debug__" : Str)) = false := by decide) : wpAny (model X.prog X.w) X.A (eval (.Name T np) X.env) Q E s := by
  rcases hc with e | ⟨e, hv, hn⟩
  · exact ld_glob I hg e h hd
  · exact ld_blt I hg e hv h hn hd
def hTest (K : PySem.W.Frag) (tc : Value) (ts : TS) (tr : TH) : TH := fun a C d D σ H => ∃ b, PySem.W.exmOne K C tc = some b ∧ if b = true then ts D σ H else tr a C d D σ H
theorem Lies.ty {M : Model} {pins : List (Addr × Obj)} {s : Shared} {σ : St} {H : Hp} {a : Addr} {C : Value} {d : Option Addr} (L : Lies X pins σ H s a C d) : PySem.W.Looks M s.heap (typeOf (.ref a)) C := by
  obtain ⟨I, h0, hp, hs, ht, n, f, oe, vs, v, e1, e2, _⟩ := L
  subst e2
  exact (PySem.W.Looks.ld e1).andThen .now
/-- except T as n: .. -/
def hTestAs (K : PySem.W.Frag) (tc : Value) (j : Nat) (ts : TS) (tr : TH) : TH := fun a C d D σ H => ∃ b, PySem.W.exmOne K C tc = some b ∧
  if b = true then ts { nx := fun σ' H' => D.nx (σ'.set j none) H', rt := D.rt, bk := fun σ' H' => D.bk (σ'.set j none) H', ct := fun σ' H' => D.ct (σ'.set j none) H' } (σ.set j (some (.ref a))) (upd H a (excO a C d)) else tr a C d D σ H
theorem ph_as {j : Nat} {n : Str} (fm : Frm X) (hN : X.N.Nodup) (hj : X.N[j]? = some n) (hl : X.env.scope.names.lookup n = some .local) (hg : Gl X T) (hc : NameC X T tc) (hs : ∀ a, PSs (X.sup a) (b₀ :: suite) ts) (hr : PH X rest tr) (hd : (T == ("__debug__" : Str)) = false := by decide) :
    PH X (.ExceptHandler (some (.Name T np)) (some n) (b₀ :: suite) pos :: rest) (hTestAs X.K tc j ts tr) := by
  intro pins s σ H D a C d L h
  obtain ⟨b, hb, h⟩ := h
  have I := L.1
  refine wpAny_handleBy_cons (codeAny_handlers_test (ld_cls (X := X.sup a) (I.sup a) hg hc ((PySem.W.exm_one I.kIn L.ty hb).here ?_) hd)) (by intro q; cases q)
  cases b with
  | false =>
    rw [if_neg Bool.false_ne_true] at h
    exact hr pins s σ H D a C d L h
  | true =>
    rw [if_pos rfl] at h
    refine codeAny_handlers_suite_as (land_ok (X := X) L fun s' L' => ?_)
    refine store_ok (X := X.sup a) ((L'.track fm).sup a) hN hj (.inl hl) (v := .ref a) rfl (fun s2 I2 => ?_) (.inr hl)
    refine wpAny_mono (hs a pins s2 _ _ _ I2 h) (fun f s3 q => ?_) fun _ _ z => False.elim z
    cases f with
    | next =>
      obtain ⟨σ', H', J, q⟩ := q
      exact forget_ok (J.unsup I.ok) hN hj hl fun s4 J4 => ⟨_, H', J4, q⟩
    | brk =>
      obtain ⟨σ', H', J, q⟩ := q
      exact forget_ok (J.unsup I.ok) hN hj hl fun s4 J4 => ⟨_, H', J4, q⟩
    | cont =>
      obtain ⟨σ', H', J, q⟩ := q
      exact forget_ok (J.unsup I.ok) hN hj hl fun s4 J4 => ⟨_, H', J4, q⟩
    | ret u =>
      obtain ⟨v, σ', H', J, r, q⟩ := q
      exact forget_ok (J.unsup I.ok) hN hj hl fun s4 J4 => ⟨v, _, H', J4, r, q⟩
def tTry (tb : TSX) (to : TS) (th : TH) : TS := fun D σ H => tb { D with nx := to D } (fun σ' C d H' => ∀ a, H' a = none → th a C d D σ' H') σ H
theorem ps_try {body orelse : List Stmt} {h₀ : ExceptHandler} {hs : List ExceptHandler} {tb : TSX} {to : TS} {th : TH} (fm : Frm X) (hb : PSXs X body tb) (ho : PSs X orelse to) (hh : PH X (h₀ :: hs) th) : PS X (.Try body (h₀ :: hs) orelse [] pos) (tTry tb to th) := by
  intro pins s σ H D I h
  refine wpAny_Try_except (wpAny_mono (hb pins s σ H _ _ I h) (fun f s1 q => ?_) fun e s1 q => ?_)
  · cases f with
    | next =>
      obtain ⟨σ', H', I', q⟩ := q
      exact ho pins s1 σ' H' D I' q
    | ret v => exact q
    | brk => exact q
    | cont => exact q
  · obtain ⟨a, C, d, σ', H', rfl, L, q⟩ := q
    refine note_ok I.ok.frames fm L fun s2 L2 => ?_
    exact hh pins s2 σ' H' D a C d L2 (q a L2.2.choose_spec.2.2.2.free)
end

/-! ### isinstance of an exception -/
structure ExcK (K : PySem.W.Frag) (C : Addr) : Prop where
  ga : PySem.W.findIn K (.ref C) "__getattribute__" = some (some (.builtin "BaseException.__getattribute__"))
  gn : PySem.W.findIn K (.ref C) "__getattr__" = some none
  bx : PySem.W.mroIn K C (.type "BaseException") = some true
  ob : PySem.W.mroIn K C (.type "object") = some true
  ca : PySem.W.findIn K (.ref C) "__class__" = some (some (.builtin "object.__class__"))
  hn : PySem.W.specialIn K (.builtin "object.__class__") "__get__" = some (some (.builtin "getset_descriptor.__get__"))
  tk : PySem.W.takesIn K (.builtin "object.__class__") = some true
  cl : (PySem.W.clsIn K C).isSome = true
end L2

set_option Elab.async false
set_option linter.all false
set_option maxRecDepth 100000
set_option maxHeartbeats 1000000
namespace L2
open PySem PySem.Spec PyProof.Rows

/-! ### an attribute of an exception of an own class -/
section
variable {prog : Program} {w : World} {A : Around} {E : Value → Shared → Prop} {s : Shared} {K : PySem.W.Frag} {x D : Addr} {ox : Obj} {odo : Option Obj} {name : Str}
theorem exc_check {nameV : Value} {Q : Unit → Shared → Prop} (k : ExcK K D) (X : K.In s.heap) (I : PySem.W.InstAt s.heap x ox D odo) (h : Q () s) :
    wpAny (model prog w) A (checkBuiltinCall "BaseException.__getattribute__" ⟨[.ref x, nameV], []⟩) Q E s := by
  have hk : builtinKind "BaseException.__getattribute__" = some .slot := by decide +kernel
  have hsplit : splitId "BaseException.__getattribute__" = some ("BaseException", "__getattribute__") := by decide +kernel
  obtain ⟨hh, g, d, t, os⟩ := s
  have L0 := I.type (M := model prog w)
  have L1 := PySem.W.looks_mroIn (M := model prog w) X k.bx
  have LI : PySem.W.Looks (model prog w) hh (isInstance (.ref x) (.type "BaseException")) true := L0.andThen L1
  have ha := PySem.F.args_bexc_ga (.ref x) nameV
  simp only [checkBuiltinCall, hk, hsplit]
  refine wpAny_bind (LI.at ?_)
  repeat (first | lk | wp_step)
  exact h
theorem exc_by {v : Value} {tk : Tok} {fill expr : Bool} {P : Value → Shared → Prop} (k : ExcK K D) (X : K.In s.heap) (I : PySem.W.InstAt s.heap x ox D odo) (hv : PySem.W.handedIn v = true)
    (hf : PySem.W.findObj K D odo name = some (.value v) ∨ ∃ g a, PySem.W.findObj K D odo name = some (.bind g a) ∧ ∀ (A' : Around) (R : Result → Shared → Prop), R (.ok (.ret v)) s → codeAny (model prog w) A' (.call g ⟨[a, .ref x, .ref D], []⟩) R s) (h : P v s) :
    wpAny (model prog w) A (getAttrBy (.ref x) (.str name tk) fill expr) P E s := by
  obtain ⟨hh, g, d, t, os⟩ := s
  have L0 := I.type (M := model prog w)
  have L1 := PySem.W.looks_findIn (M := model prog w) X k.ga
  have L2 := PySem.W.looks_findIn (M := model prog w) X k.gn
  unfold getAttrBy
  refine wpAny_holding (wpAny_bind (L0.at (wpAny_bind (L1.at ?_))))
  show wpAny _ _ (getAttrByItsOwn (.ref x) (.str name tk) (.ref D) (.builtin "BaseException.__getattribute__") fill expr) _ _ _
  unfold getAttrByItsOwn hookBefore
  have f3 := PySem.F.attr_ValueError.ga.bind (.ref x)
  refine wpAny_bind (L2.at ?_)
  refine wpAny_bind (wpAny_attempt (wpAny_holding ?_))
  unfold callGetattribute boundAndCalled
  rw [if_neg (by cases expr <;> decide)]
  refine wpAny_bind (wpAny_of_eq f3 ?_)
  refine wpAny_call (codeAny_call_builtin PySem.F.attr_ValueError.ga.plain PySem.F.entry_bexc_ga (exc_check k X I ?_))
  unfold Builtin.«object.__getattribute__»
  refine wpAny_bind (wpAny_pure ?_)
  refine wpAny_bind (wpAny_pure ?_)
  refine wpAny_bind (L0.at ?_)
  rcases hf with hf | ⟨gg, a, hf, hc⟩
  · refine wpAny_bind ((PySem.W.looks_find (M := model prog w) X I hf).at ?_)
    refine wpAny_pure ?_
    show wpAny _ _ (handedOut v) _ _ _
    rw [PySem.W.handedOut_of hv]
    exact wpAny_pure h
  · refine wpAny_bind ((PySem.W.looks_find (M := model prog w) X I hf).at ?_)
    show wpAny _ _ (Builtin.ObjectAttr.bindTo gg a (.ref x) (.ref D)) _ _ _
    show wpAny _ _ (holding [a] (call gg [a, .ref x, .ref D]) >>= ret) _ _ _
    refine wpAny_bind (wpAny_holding (wpAny_call (hc _ _ ?_)))
    refine wpAny_pure ?_
    show wpAny _ _ (handedOut v) _ _ _
    rw [PySem.W.handedOut_of hv]
    exact wpAny_pure h
theorem exc_class {Q : Option Value → Shared → Prop} (k : ExcK K D) (X : K.In s.heap) (I : PySem.W.InstAt s.heap x ox D odo) (h : Q (some (.ref D)) { s with toks := s.toks + 1 }) :
    wpAny (model prog w) A (getAttr? (.ref x) "__class__") Q E s := by
  have hf : PySem.W.findObj K D odo "__class__" = some (.bind (.builtin "getset_descriptor.__get__") (.builtin "object.__class__")) := by
    obtain ⟨cd, hc⟩ := Option.isSome_iff_exists.mp k.cl
    unfold PySem.W.findObj
    rw [hc, Option.bind_some, k.ca, Option.bind_some]
    simp [k.hn, k.tk]
  unfold getAttr? getAttrBy?
  refine wpAny_bind (wpAny_mkText (wpAny_bind (wpAny_attempt (exc_by (s := { s with toks := s.toks + 1 }) k X I rfl (.inr ⟨_, _, hf, fun A' R q => PySem.W.class_get (s := { s with toks := s.toks + 1 }) X I k.ob q⟩) ?_))))
  exact wpAny_pure h
theorem kitx_exc (k : ExcK K D) : PySem.W.KitX K (.ref x) (.ref D) (fun h => PySem.W.InstAt h x ox D odo) where
  ty := fun _ _ _ I => I.type
  it := fun _ _ X _ => by
    obtain ⟨cdD, hcD⟩ := Option.isSome_iff_exists.mp k.cl
    unfold PySem.W.clsIn at hcD
    split at hcD
    · rename_i c' d' cd' sl' ho
      intro A' Q' E' s' kk q
      unfold isType loadHead
      exact wpAny_bind (wpAny_loadPart (kk _ _ (X _ _ ho)) (wpAny_pure q))
    · cases hcD
  ne := fun h tp dd its n sl X htp => by
    obtain ⟨cdD, hcD⟩ := Option.isSome_iff_exists.mp k.cl
    refine Bool.eq_false_iff.mpr fun q => ?_
    have e : D = tp := Value.ref.inj (beq_iff_eq.mp q)
    subst e
    unfold PySem.W.clsIn at hcD
    split at hcD
    · rename_i c' d' cd' sl' ho
      have z := (X _ _ ho).symm.trans htp
      cases z
    · cases hcD
  ca := fun X I h => exc_class k X I h
end
/-! ### isinstance -/
section
variable {X : Cx}
theorem pe_cls {x : Str} {C : Addr} {pos : Pos} (hg : Gl X x) (hm : X.mg x = some (.ref C)) (hd : (x == ("__debug__" : Str)) = false := by decide) : PE X (.Name x pos) (tC (.ref C)) := pe_glob hg hm rfl hd
theorem vals_refs : ∀ {cs : List Addr} {its : List Value}, Vals (cs.map V.ref) its → its = cs.map Value.ref
  | [], _, .nil => rfl
  | _ :: _, _, .cons r t => by rw [show _ = Value.ref _ from r, vals_refs t]; rfl
end
end L2

set_option Elab.async false
set_option linter.all false
set_option maxRecDepth 100000
set_option maxHeartbeats 2000000
namespace PySem
open Sem (wp)
section
variable {prog : Program} {w : World} {A : Around} {E : Value → Shared → Prop} {h : Heap} {g : Array GenState} {d : Drawn} {t : Nat} {os : OsState}
variable {nm q : Str} {C N f : Addr} {bs bm bmB : List Value} {hdct : Bool} {sn : List Str} {sub : List Value} {ab : Bool} {col : Option Bool} {dd : Option Addr} {k0 k1 k2 k3 k5 : Option Value} {B Bn newId nid initId inN : String} {bmN : List Value}
/-- a new exception of an own class, ahead of its __init__ -/
abbrev newExcHeap (h : Heap) (C : Addr) (rest : List Value) : Heap := (h.push { cls := .type "tuple", data := .seq rest.toArray }).push { cls := .ref C, data := .fields #[.ref h.objs.size, .none, .none, .none, .bool false, .none] }
theorem type_call_init (Fn : ExcBaseFacts Bn newId inN bmN) (hBn : bmB.contains (.type Bn) = true) (F : ExcBaseFacts B nid initId bmB) (T : OwnTail h bmB bm) {rest : List Value} {Q : Fin → Shared → Prop}
    (hC : h.get? C = some (excClassObj nm q C N bs bm hdct sn sub ab col dd k0 k1 k2 k3 k5 newId)) (hl : W.Looks (model prog w) h (typeLookup (.ref C) "__init__") (some (.ref f))) (hb : ∀ self, W.Looks (model prog w) h (bindSpecial (.ref f) self) (.ref f, [self]))
    (hq : wpAny (model prog w) A (call (.ref f) (.ref (h.objs.size + 1) :: rest)) (fun r s' => r = .none ∧ Q (.done (.ret (.ref (h.objs.size + 1)))) s') E ⟨newExcHeap h C rest, g, d, t, os⟩) (hrest : rest.length ≤ sizeLine) :
    wpAny (model prog w) A (Builtin.«type.__call__» ⟨.ref C :: rest, []⟩) Q E ⟨h, g, d, t, os⟩ := by
  repeat (first | with_reducible refine wpAny_loadPart_at hC ?_ | with_reducible refine wpAny_madeBy_exc hC ?_ | wp_step)
  refine codeAny_call_builtin_code (Code.quiet_builtin _ Fn.quiet) (wpAny_check_new_subU Fn hBn T hC ?_)
  refine codeAny_exc_new_subU Fn hBn F T hC ?_ hrest
  show wpAny _ _ _ _ _ _
  have k : ∀ b o, h.get? b = some o → (newExcHeap h C rest).get? b = some o := fun b o e => Heap.get?_push_of_some _ (Heap.get?_push_of_some _ e)
  have hC₁ := k _ _ hC
  have hget : (newExcHeap h C rest).get? (h.objs.size + 1) = some { cls := .ref C, data := .fields #[.ref h.objs.size, .none, .none, .none, .bool false, .none] } := by
    have := Heap.get?_push_size (h.push { cls := .type "tuple", data := .seq rest.toArray }) (o := { cls := .ref C, data := .fields #[.ref h.objs.size, .none, .none, .none, .bool false, .none] }) rfl
    rwa [Heap.size_push] at this
  have hcC : (Value.ref C :: bm).contains (.ref C) = true := by simp
  unfold isInstance
  repeat (first | with_reducible refine wpAny_loadPart_at hget ?_ | (with_reducible refine wpAny_isSubtype_exc hC₁ ?_; rw [hcC]) | wp_step)
  show wpAny _ _ (typeLookup (.ref C) _) _ _ _
  refine (hl.keeps k).here ?_
  refine wpAny_holding (wpAny_bind (((hb _).keeps k).here ?_))
  refine wpAny_bind (wpAny_mono hq (fun r s' z => ?_) fun _ _ z => z)
  obtain ⟨rfl, z⟩ := z
  refine wpAny_pure ?_
  exact wpAny_pure z
theorem call_init (Fn : ExcBaseFacts Bn newId inN bmN) (hBn : bmB.contains (.type Bn) = true) (F : ExcBaseFacts B nid initId bmB) (T : OwnTail h bmB bm) {rest : List Value} {Q : Value → Shared → Prop}
    (hC : h.get? C = some (excClassObj nm q C N bs bm hdct sn sub ab col dd k0 k1 k2 k3 k5 newId)) (hl : W.Looks (model prog w) h (typeLookup (.ref C) "__init__") (some (.ref f))) (hb : ∀ self, W.Looks (model prog w) h (bindSpecial (.ref f) self) (.ref f, [self]))
    (hq : wpAny (model prog w) (A.under (.builtin "type.__call__" ⟨.ref C :: rest, []⟩)) (call (.ref f) (.ref (h.objs.size + 1) :: rest)) (fun r s' => r = .none ∧ Q (.ref (h.objs.size + 1)) s') E ⟨newExcHeap h C rest, g, d, t, os⟩) (hrest : rest.length ≤ sizeLine) :
    wpAny (model prog w) A (call (.ref C) rest) Q E ⟨h, g, d, t, os⟩ := by
  have f1 := tc_lookup
  have f2 := tc_bind (.ref C)
  have hT : (⟨h, g, d, t, os⟩ : Shared).TypeIs (.ref C) "type" := ⟨_, hC, rfl⟩
  refine wpAny_call (codeAny_of_tree ?_)
  show wpAny _ _ (callAny (.ref C) _) _ _ _
  repeat (any_goals (first | assumption | with_reducible refine wpAny_loadPart_at hC ?_ | wp_step))
  refine ⟨rfl, ?_⟩
  refine codeAny_call_builtin_at (Code.quiet_builtin _ (by decide +kernel)) entry_typeCall (wpAny_check_type_call_sub hC (type_call_init Fn hBn F T hC hl hb ?_ hrest))
  exact hq
end
section
variable {M : Model} {A : Around} {E : Value → Shared → Prop} {env : Env}
variable {nm q : Str} {C N : Addr} {bs bm : List Value} {hdct : Bool} {sn : List Str} {sub : List Value} {ab : Bool} {col : Option Bool} {dd : Option Addr} {k0 k1 k2 k3 k5 : Option Value} {newId : String}
theorem raiseStmt_made_d {s : Shared} {x : Sem Value} {Q : Flow → Shared → Prop} (hbase : bm.contains (.type "BaseException") = true) (hh : A.handled = none)
    (h : wpAny M A x (fun v s₁ => ∃ e t dx, v = .ref e ∧ s₁.heap.get? C = some (excClassObj nm q C N bs bm hdct sn sub ab col dd k0 k1 k2 k3 k5 newId) ∧
      s₁.heap.get? e = some { cls := .ref C, dict := dx, data := .fields #[.ref t, .none, .none, .none, .bool false, .none] } ∧ E (.ref e) s₁) E s) :
    wpAny M A (raiseStmt env (some x) none) Q E s := by
  have hcB : (Value.ref C :: bm).contains (.type "BaseException") = true := by rw [List.contains_cons, hbase, Bool.or_true]
  unfold raiseStmt
  refine wpAny_bind (wpAny_mono h (fun v s₁ h₁ => ?_) fun _ _ x => x)
  obtain ⟨e, t, dx, rfl, hC, he, hE⟩ := h₁
  obtain ⟨hp, g, d, tk, os⟩ := s₁
  repeat (first | with_reducible refine wpAny_loadPart_at he ?_ | with_reducible refine wpAny_loadPart_at hC ?_ | (with_reducible refine wpAny_isSubtype_exc hC ?_; rw [hcB]) | wp_step)
  exact wpAny_raiseNew_none hh hE
end
section
variable {prog : Program} {w : World} {A : Around} {E : Value → Shared → Prop} {s : Shared} {env : Env}
variable {nm q : Str} {C N f : Addr} {bs bm bmB : List Value} {hdct : Bool} {sn : List Str} {sub : List Value} {ab : Bool} {col : Option Bool} {dd : Option Addr} {k0 k1 k2 k3 k5 : Option Value} {B Bn newId nid initId inN : String} {bmN : List Value}
theorem raise_init (Fn : ExcBaseFacts Bn newId inN bmN) (hBn : bmB.contains (.type Bn) = true) (F : ExcBaseFacts B nid initId bmB) {x : Str} {np cpos pos : Pos} {args : List Expr} {Q : Flow → Shared → Prop}
    (hbase : bm.contains (.type "BaseException") = true) (hh : A.handled = none) (hplain : (backTo cpos (starEach args env)).any (·.1) = false)
    (h : wpAny (model prog w) A (eval (.Name x np) env) (fun f' s₁ => f' = .ref C ∧ wpAny (model prog w) A (evalArgs (.ref C) true (backTo cpos (starEach args env)) [])
      (fun a s₂ => a.kw = [] ∧ a.pos.length ≤ sizeLine ∧ s₂.heap.get? C = some (excClassObj nm q C N bs bm hdct sn sub ab col dd k0 k1 k2 k3 k5 newId) ∧ OwnTail s₂.heap bmB bm ∧
        W.Looks (model prog w) s₂.heap (typeLookup (.ref C) "__init__") (some (.ref f)) ∧ (∀ self, W.Looks (model prog w) s₂.heap (bindSpecial (.ref f) self) (.ref f, [self])) ∧
        wpAny (model prog w) (A.under (.builtin "type.__call__" ⟨.ref C :: a.pos, []⟩)) (call (.ref f) (.ref (s₂.heap.objs.size + 1) :: a.pos)) (fun r s' => r = .none ∧ ∃ t dx, s'.heap.get? C = some (excClassObj nm q C N bs bm hdct sn sub ab col dd k0 k1 k2 k3 k5 newId) ∧
          s'.heap.get? (s₂.heap.objs.size + 1) = some { cls := .ref C, dict := dx, data := .fields #[.ref t, .none, .none, .none, .bool false, .none] } ∧ E (.ref (s₂.heap.objs.size + 1)) s') E { s₂ with heap := newExcHeap s₂.heap C a.pos }) E s₁) E s) :
    wpAny (model prog w) A (exec (.Raise (some (.Call (.Name x np) args [] cpos)) none pos) env) Q E s := by
  rw [arm_exec_Raise]
  first
    | refine wpAny_bind (wpAny_standAt (raiseStmt_made_d (C := C) (nm := nm) (q := q) (N := N) (bs := bs) (bm := bm) (hdct := hdct) (sn := sn) (sub := sub) (ab := ab) (col := col) (dd := dd) (k0 := k0) (k1 := k1) (k2 := k2) (k3 := k3) (k5 := k5) (newId := newId) hbase hh (wpAny_bind (wpAny_mono (wpAny_Call_ofName (wpAny_mono h (fun f s₁ h₁ => ?_) fun _ _ x => x)) (fun v s₃ h₃ => wpAny_bind (wpAny_standAt (wpAny_pure h₃))) fun _ _ x => x))))
    | (simp only [evalOpt, Option.map]; refine wpAny_bind (wpAny_standAt (raiseStmt_made_d (C := C) (nm := nm) (q := q) (N := N) (bs := bs) (bm := bm) (hdct := hdct) (sn := sn) (sub := sub) (ab := ab) (col := col) (dd := dd) (k0 := k0) (k1 := k1) (k2 := k2) (k3 := k3) (k5 := k5) (newId := newId) hbase hh (wpAny_bind (wpAny_mono (wpAny_Call_ofName (wpAny_mono h (fun f s₁ h₁ => ?_) fun _ _ x => x)) (fun v s₃ h₃ => wpAny_bind (wpAny_standAt (wpAny_pure h₃))) fun _ _ x => x)))))
    | (refine wpAny_bind (wpAny_standAt (raiseStmt_made_d (C := C) (nm := nm) (q := q) (N := N) (bs := bs) (bm := bm) (hdct := hdct) (sn := sn) (sub := sub) (ab := ab) (col := col) (dd := dd) (k0 := k0) (k1 := k1) (k2 := k2) (k3 := k3) (k5 := k5) (newId := newId) hbase hh ?_)); refine wpAny_bind (wpAny_mono (wpAny_Call_ofName (wpAny_mono h (fun f s₁ h₁ => ?_) fun _ _ x => x)) (fun v s₃ h₃ => wpAny_bind (wpAny_standAt (wpAny_pure h₃))) fun _ _ x => x))
  obtain ⟨rfl, h₁⟩ := h₁
  unfold callWith
  refine wpAny_bind (wpAny_holding (wpAny_mono h₁ (fun a s₂ h₂ => wpAny_bind (wpAny_standAt ?_)) fun _ _ x => x))
  obtain ⟨apos, akw⟩ := a
  obtain ⟨hkw, hlen, hC, T, hl, hb, h₂⟩ := h₂
  obtain rfl : akw = [] := hkw
  obtain ⟨hp, g, d, tk, os⟩ := s₂
  simp only [hplain]
  refine wpAny_bind (wpAny_keeperOf_exc hC ?_)
  refine wpAny_bind (call_init Fn hBn F T hC hl hb (wpAny_mono h₂ (fun r s' z => ?_) fun _ _ z => z) hlen)
  obtain ⟨rfl, t, dx, z1, z2, z3⟩ := z
  exact ⟨rfl, wpAny_bind (wpAny_holding (wpAny_point (wpAny_pure ⟨_, t, dx, rfl, z1, z2, z3⟩)))⟩
end
end PySem

set_option Elab.async false
set_option linter.all false
set_option maxRecDepth 100000
set_option maxHeartbeats 2000000
namespace L2
open PySem PySem.Spec PyProof.Rows
/-! ### an own error with its own __init__ -/
/-- an exception that is being made: no traceback, no cause -/
def newX (a : Addr) (C : Value) (d : Option Addr) : HO := .ext fun h => ∃ t, h.get? a = some { cls := C, dict := d, data := .fields #[.ref t, .none, .none, .none, .bool false, .none] }
theorem newX_ok {P : Program} {w : World} {H : Hp} {h : Heap} {a t : Addr} {C : Value} {d : Option Addr} (e : h.get? a = some { cls := C, dict := d, data := .fields #[.ref t, .none, .none, .none, .bool false, .none] }) : ObjOk P w H h a (newX a C d) :=
  ⟨⟨t, e⟩, ⟨_, e⟩, fun h1 h2 ⟨t', e'⟩ k => ⟨t', k _ e'⟩⟩
/-- tracked no more -/
def dropH (H : Hp) (x : Addr) : Hp := fun b => if b = x then none else H b
theorem dropH_ne {H : Hp} {x b : Addr} (h : b ≠ x) : dropH H x b = H b := by unfold dropH; rw [if_neg h]
theorem dropH_at (H : Hp) (x : Addr) : dropH H x x = none := by unfold dropH; rw [if_pos rfl]
section
variable {X : Cx} {pins : List (Addr × Obj)} {σ : List (Option V)} {H : Hp} {s : Shared}
theorem Inv.forget {x : Addr} {φ : Heap → Prop} (I : Inv X pins σ H s) (hx : H x = some (.ext φ)) : Inv X pins σ (dropH H x) s := by
  have non : ∀ b, H b = none → dropH H x b = none := fun b e => by unfold dropH; split; rfl; exact e
  have keep : ∀ b u, H b = some u → u ≠ .ext φ → dropH H x b = some u := fun b u e n => by
    have : b ≠ x := fun z => by rw [z, hx] at e; cases e; exact n rfl
    rw [dropH_ne this]; exact e
  refine ⟨I.ok, I.os, I.bare, ⟨I.base.keep, I.base.slot, fun b o e1 e2 e3 => non b (I.base.free b o e1 e2 e3), I.base.there, fun b xs e => keep b _ (I.base.tups b xs e) (fun z => by cases z), fun b o u e => keep b _ (I.base.frzs b o u e) (fun z => by cases z), fun b ps e => ?_⟩, I.loc, I.cell, non _ I.free, fun y c e => non _ (I.freeC y c e), fun p hp => ?_, fun b u e => ?_, I.len⟩
  · obtain ⟨more, q⟩ := I.base.tbls b ps e
    exact ⟨more, keep b _ q (fun z => by cases z)⟩
  · obtain ⟨a1, a2, a3⟩ := I.pin p hp
    exact ⟨a1, non _ a2, a3⟩
  · have ne : b ≠ x := fun z => by rw [z, dropH_at] at e; cases e
    rw [dropH_ne ne] at e
    exact (I.hok b u e).stay (fun c v _ q => q) (fun c q => keep c _ q (fun z => by cases z)) fun c xs q => keep c _ q (fun z => by cases z)
end
structure ExcI (K : PySem.W.Frag) (C C0 f : Addr) : Prop where
  cls : ∃ (nm q : Str) (N : Addr) (bs : List Value) (sn : List Str) (sub : List Value) (ab : Bool) (col : Option Bool) (dd : Option Addr) (k0 k1 k2 k3 k5 : Option Value), K.lookup C = some (excClassObj nm q C N bs (.ref C0 :: bmVE) true sn sub ab col dd k0 k1 k2 k3 k5 "ValueError.__new__")
  base : ∃ (nm q : Str) (N : Addr) (bs : List Value) (hdct : Bool) (sn : List Str) (sub : List Value) (ab : Bool) (col : Option Bool) (dd : Option Addr) (k0 k1 k2 k3 k5 : Option Value), K.lookup C0 = some (excClassObj nm q C0 N bs bmVE hdct sn sub ab col dd k0 k1 k2 k3 k5 "ValueError.__new__")
  exc : ExcC K C0
  ini : PySem.W.findIn K (.ref C) "__init__" = some (some (.ref f))
  fn : PySem.W.typeIn K (.ref f) = some (.type "function")
theorem ExcI.tail {K : PySem.W.Frag} {C C0 f : Addr} (e : ExcI K C C0 f) {h : Heap} (X : K.In h) : OwnTail h bmVE (.ref C0 :: bmVE) := by
  obtain ⟨nm, q, N, bs, hdct, sn, sub, ab, col, dd, k0, k1, k2, k3, k5, l⟩ := e.base
  have z := e.exc
  unfold ExcC PySem.W.excIn at z
  rw [l] at z
  simp only [Bool.and_eq_true, beq_iff_eq, Bool.not_eq_true'] at z
  obtain ⟨⟨⟨⟨_, _⟩, ht⟩, hok⟩, hni⟩ := z
  exact .own (X _ _ l) (.of_isNs (PySem.W.isNs_of_in X hok)) (PySem.W.nsMap_none_of_in X hok hni) .base
section
variable {X : Cx} {pins : List (Addr × Obj)} {σ : List (Option V)} {H : Hp} {s : Shared} {k : Nat} {f C C0 : Addr} {fd : FuncData} {ps : List Str} {sp : Sp}
/-- raise C(e, ..), C with its own __init__ -/
def tRaiseI (C : Addr) (sp : Sp) (E : XK) (ta : TA) : TS := fun _ σ H => ta σ H fun vs H1 => vs.length ≤ sizeLine ∧ ∀ x, H1 x = none → sp (.ref x :: vs) (upd H1 x (newX x (.ref C) none)) (fun v H2 => v = .non ∧ ∃ dx, H2 x = some (newX x (.ref C) dx) ∧ E (.ref C) dx (dropH H2 x)) E0
theorem ps_raiseI {E : XK} {x : Str} {np cpos pos : Pos} {e₀ : Expr} {es : List Expr} {ta : TA} (fm : Frm X) (xo : XeOk X E) (hc : X.calm = true) (hg : Gl X x) (hm : X.mg x = some (.ref C)) (q : ExcI X.K C C0 f)
    (F : FnOk X.prog X.w X.K X.mg X.base CX0 k f fd ps sp) (hr : Room (k + 1) X.A) (hb : Binds X.K fd ps []) (ha : PA X (e₀ :: es) ta)
    (hdb : (x == ("__debug__" : Str)) = false := by decide) (he : starEach (e₀ :: es) X.env = (false, eval e₀ X.env) :: starEach es X.env := by rfl) (hpl : (backTo cpos (starEach es X.env)).any (·.1) = false := by rfl) :
    PS X (.Raise (some (.Call (.Name x np) (e₀ :: es) [] cpos)) none pos) (tRaiseI C sp E ta) := by
  intro pins s σ H D I h
  obtain ⟨nm, qn, N, bs, sn, sub, ab, col, dd, k0, k1, k2, k3, k5, lC⟩ := q.cls
  have FB := PySem.F.excBase_ValueError
  have T := q.tail I.mod.kin
  refine raise_init (C := C) (f := f) (nm := nm) (q := qn) (N := N) (bs := bs) (bm := .ref C0 :: bmVE) (hdct := true) (sn := sn) (sub := sub) (ab := ab) (col := col) (dd := dd) (k0 := k0) (k1 := k1) (k2 := k2) (k3 := k3) (k5 := k5)
    FB (by decide) FB (T.hasType FB.hasBase) (I.ok.hd hc) (by rw [he]; show (false || (backTo cpos (starEach es X.env)).any (·.1)) = false; rw [hpl]; rfl) (ld_glob I hg hm ⟨rfl, ?_⟩ hdb)
  have ha' := ha cpos pins s σ H _ I h
  rw [he] at ha' ⊢
  refine Calls.evalArgs_plain (wpAny_mono ha' (fun us s2 h2 => ?_) fun _ _ y => y)
  obtain ⟨vs, H1, I1, r, hz, q1⟩ := h2
  have kIn := I1.kIn
  refine ⟨rfl, by rw [← r.length]; exact hz, kIn _ _ lC, q.tail kIn, PySem.W.looks_findIn kIn q.ini, fun self => PySem.W.bind_fn kIn self q.fn, ?_⟩
  dsimp only
  have kh : ∀ b o, s2.heap.get? b = some o → (newExcHeap s2.heap C us).get? b = some o := fun b o e => Heap.get?_push_of_some _ (Heap.get?_push_of_some _ e)
  have hget : (newExcHeap s2.heap C us).get? (s2.heap.objs.size + 1) = some { cls := .ref C, data := .fields #[.ref s2.heap.objs.size, .none, .none, .none, .bool false, .none] } := by
    have := Heap.get?_push_size (s2.heap.push { cls := .type "tuple", data := .seq us.toArray }) (o := { cls := .ref C, data := .fields #[.ref s2.heap.objs.size, .none, .none, .none, .bool false, .none] }) rfl
    rwa [Heap.size_push] at this
  have fr : H1 (s2.heap.objs.size + 1) = none := I1.hok.fresh (Nat.le_succ _)
  have I2 : Inv X pins σ (upd H1 (s2.heap.objs.size + 1) (newX (s2.heap.objs.size + 1) (.ref C) none)) { s2 with heap := newExcHeap s2.heap C us } :=
    I1.laid (t' := s2.toks) kh (Nat.le_succ _) (newX_ok hget)
  have hq := q1 _ fr
  have rv : Vals (V.ref (s2.heap.objs.size + 1) :: vs) (Value.ref (s2.heap.objs.size + 1) :: us) := .cons rfl r
  have hl : (Value.ref (s2.heap.objs.size + 1) :: us ++ []).length = ps.length := by
    have e := rv.length
    rw [F.len _ _ _ _ hq] at e
    rw [List.append_nil]
    exact e.symm
  refine wpAny_call (codeAny_mono (F.run _ X.stack _ _ ⟨Value.ref (s2.heap.objs.size + 1) :: us, []⟩ (Value.ref (s2.heap.objs.size + 1) :: us) _ _ E0 (hr.make C us []) (I2.env0.make C us []) (by have := hb _ (Value.ref (s2.heap.objs.size + 1) :: us) I2.kIn hl; rwa [List.append_nil] at this) rv hq) fun res s' hq' => ?_)
  cases res with
  | error e => exact (show False from hq').elim
  | ok fl =>
    cases fl with
    | ret u =>
      obtain ⟨v, H', os, bare, un, hok, rvu, ev, dx, ex, q3⟩ := hq'
      subst ev
      have J : Inv X pins σ H' s' := I2.call' (ch := []) os un hok bare fun b z => absurd z (by simp)
      obtain ⟨⟨t, ht⟩, _⟩ := (show ObjOk X.prog X.w H' s'.heap _ (newX _ (.ref C) dx) from J.hok _ _ ex)
      refine ⟨rvu, t, dx, J.kIn _ _ lC, ht, ?_⟩
      refine xo pins σ _ s' _ (.ref C) dx ⟨J.forget ex, s2.heap, fun p hp z => ?_, fun b o e => I1.base.there b o e (by rw [fm.ex]; simp), fun b o e => un.there b o (kh b o e) (by simp), ⟨none_le (Nat.le_succ _), dropH_at _ _, _, _, .none, ht, rfl, rfl, rfl, rfl, .inl rfl⟩⟩ q3
      rw [(I1.pin p hp).1] at z; cases z
    | next => exact False.elim hq'
    | brk => exact False.elim hq'
    | cont => exact False.elim hq'
end
end L2

set_option Elab.async false
set_option linter.all false
set_option maxRecDepth 100000
set_option maxHeartbeats 2000000
namespace L2
open PySem PySem.Spec PyProof.Rows
theorem upd_id {H : Hp} {a : Addr} {o : HO} (h : H a = some o) : upd H a o = H := by
  funext b
  by_cases e : b = a
  · rw [e, upd_same, h]
  · rw [upd_ne e]
/-! ### ValueError.__init__(self, e) -/
section
variable {X : Cx} {C C0 f : Addr}
theorem call_excInit : CallR X (.builtin "ValueError.__init__") (fun xs H Q => ∃ a C C0 f d v, xs = [.ref a, v] ∧ H a = some (newX a (.ref C) d) ∧ ExcI X.K C C0 f ∧ Q .non H) := by
  intro pins s σ H xs us Q I r h
  obtain ⟨a, C, C0, f, d, v, rfl, ea, q, hq⟩ := h
  obtain ⟨u1, us', rfl, r1, r2⟩ : ∃ u1 us', us = u1 :: us' ∧ RelV (.ref a) u1 ∧ Vals [v] us' := by cases r with | cons p q => exact ⟨_, _, rfl, p, q⟩
  obtain rfl : u1 = Value.ref a := r1
  obtain ⟨⟨t, he⟩, _⟩ := (show ObjOk X.prog X.w H s.heap a (newX a (.ref C) d) from I.hok a _ ea)
  obtain ⟨nm, qn, N, bs, sn, sub, ab, col, dd, k0, k1, k2, k3, k5, lC⟩ := q.cls
  have FB := PySem.F.excBase_ValueError
  have T := q.tail I.kIn
  have hl : us'.length = 1 := r2.length.symm
  have hC := I.kIn _ _ lC
  have fin : ∀ s', s' = { s with heap := (s.heap.push { cls := .type "tuple", data := .seq us'.toArray }).update a (Obj.mapFields (·.setIfInBounds 0 (.ref s.heap.objs.size))) } → EP X pins σ Q .none s' := by
    rintro s' rfl
    have I1 : Inv X pins σ H { s with heap := s.heap.push { cls := .type "tuple", data := .seq us'.toArray } } := I.kept (t' := s.toks) fun b o e => Heap.get?_push_of_some _ e
    have he1 := Heap.get?_push_of_some (h := s.heap) { cls := .type "tuple", data := .seq us'.toArray } he
    have e2 := Heap.get?_update_self (Obj.mapFields (·.setIfInBounds 0 (.ref s.heap.objs.size))) he1 rfl
    have I2 := I1.write (x := a) (e := a) (t' := s.toks) (o := newX a (.ref C) d) (by rw [ea]; exact True.intro) (.inl rfl) (fun b u nb e => (Heap.get?_update_other _ _ (Ne.symm nb)).trans e) ⟨_, e2⟩ (newX_ok (t := s.heap.objs.size) e2)
    rw [upd_id ea] at I2
    exact ⟨.non, H, I2, rfl, hq⟩
  obtain ⟨hp, g, dr, tk, os⟩ := s
  refine wpAny_call (codeAny_call_builtin FB.init.plain FB.initEntry (wpAny_check_init_subU FB T hC he rfl ?_))
  unfold Builtin.«BaseException.__init__»
  dsimp only
  rw [if_neg (by simp)]
  unfold newTuple Builtin.BaseException.bexcPut
  have he₁ := Heap.get?_push_of_some (h := hp) { cls := .type "tuple", data := .seq us'.toArray } he
  refine wpAny_bind (wpAny_newObj_type (wpAny_bind (wpAny_bind (wpAny_field he₁ rfl rfl (wpAny_bind (wpAny_setField he₁ rfl (show 0 < 6 by decide) ?_))))) (by show us'.toArray.size ≤ sizeLine; rw [List.size_toArray, hl]; decide))
  exact wpAny_letGo (wpAny_pure (fin _ rfl))
/-- C0.__init__(self, e), C0 an own class under ValueError without __init__ -/
structure ClsI (K : PySem.W.Frag) (C0 : Addr) : Prop where
  sp : PySem.W.specialIn K (.ref C0) "__getattribute__" = some (some (.builtin "type.__getattribute__"))
  rd : PySem.W.readsIn K C0 (.type "type") = true
  fi : PySem.W.findCls K (.ref C0) (.type "type") "__init__" = some (.val (.builtin "ValueError.__init__"))
def tExcInit (K : PySem.W.Frag) (ta : TA) : TE := fun σ H Q => ta σ H fun vs H1 => ∃ a C C0 f d v, vs = [.ref a, v] ∧ H1 a = some (newX a (.ref C) d) ∧ ExcI K C C0 f ∧ Q .non H1
theorem pe_excInit {pl : Sem Bool} {x : Str} {np apos pos : Pos} {e : Expr} {es : List Expr} {t : TA} (hg : Gl X x) (hm : X.mg x = some (.ref C0)) (c : ClsI X.K C0) (ha : PA X (e :: es) t) (hdb : (x == ("__debug__" : Str)) = false := by decide)
    (hst : starEach (e :: es) X.env = (false, eval e X.env) :: starEach es X.env := by rfl) (hpl : (backTo pos (starEach es X.env)).any (·.1) = false := by rfl)
    (ht : eval (.Call (.Attribute (.Name x np) "__init__" apos) (e :: es) [] pos) X.env = (do
      let ov ← eval (.Name x np) X.env
      standAt apos.atName
      let (f, first) ← holding [ov] (getMethod ov "__init__" pl)
      callWith pos f first (backTo pos (starEach (e :: es) X.env)) (backToKw pos (keywordEach [] X.env))) := by rfl) :
    PE X (.Call (.Attribute (.Name x np) "__init__" apos) (e :: es) [] pos) (tExcInit X.K t) := by
  intro pins s σ H Q I h
  refine PySem.W.methodCall_KW (pl := pl) (ld_glob I hg hm ?_ hdb) ht
  refine PySem.W.method_cls I.kIn c.sp (PySem.W.cls_value I.kIn c.rd c.fi rfl ?_)
  have I' : Inv X pins σ H { s with toks := s.toks + 1 } := I.tok _
  exact PyProof.Rows.callWith_builtin1 (thn (ha pos pins _ σ H _ I' h) fun us s1 ⟨vs, H1, I1, r1, q1⟩ => call_excInit pins s1 σ H1 vs us Q I1 r1 q1) hst hpl
end
/-! ### self.f = e, of an exception without a dict -/
section
variable {prog : Program} {w : World} {A : Around} {E : Value → Shared → Prop} {s : Shared} {K : PySem.W.Frag} {x C C0 f : Addr} {name : Str} {v : Value} {vs : Array Value}
theorem ExcI.cin {K : PySem.W.Frag} {C C0 f : Addr} (q : ExcI K C C0 f) : ∃ cd, PySem.W.clsIn K C = some cd ∧ cd.mro = .ref C :: .ref C0 :: bmVE ∧ cd.hasDict = true := by
  obtain ⟨nm, qn, N, bs, sn, sub, ab, col, dd, k0, k1, k2, k3, k5, lC⟩ := q.cls
  unfold PySem.W.clsIn
  rw [lC]
  exact ⟨_, rfl, rfl, rfl⟩
theorem set_exc {Q : Unit → Shared → Prop} (X : K.In s.heap) (q : ExcI K C C0 f) (hx : s.heap.get? x = some { cls := .ref C, data := .fields vs })
    (hs : PySem.W.findIn K (.ref C) "__setattr__" = some (some (.builtin "object.__setattr__"))) (hn : PySem.W.findIn K (.ref C) name = some none)
    (h : ∀ h', h'.get? x = some { cls := .ref C, dict := some s.heap.objs.size, data := .fields vs } → h'.Ns1 s.heap.objs.size (fun y => if y = name then some v else none) → (∀ b o, b ≠ x → s.heap.get? b = some o → h'.get? b = some o) → ∀ tk, Q () { s with heap := h', toks := tk }) :
    wpAny (model prog w) A (setAttr (.ref x) name v) Q E s := by
  have J : PySem.W.InstAt s.heap x { cls := .ref C, data := .fields vs } C none := ⟨hx, rfl, rfl, trivial⟩
  have SF := PySem.F.store_object
  have SV := PySem.F.store_ValueError
  obtain ⟨cd, hc, hm, hd⟩ := q.cin
  refine PySem.W.set_plain X J hs ?_
  have sub : PySem.W.Looks (model prog w) s.heap (isInstance (.ref x) (.type "object")) true := J.type.andThen (PySem.W.looks_mroIn X (by unfold PySem.W.mroIn; rw [hc, Option.bind_some, hm]; rfl))
  refine codeAny_call_builtin SF.slot.plain SF.entry (@PySem.W.check_slot (model prog w) _ _ { s with toks := s.toks + 1 } "object.__setattr__" "object" "__setattr__" (.ref x) [.str name s.toks, v] [] _ SF.kind SF.split sub (SF.args (.ref x) (.str name s.toks) v) ?_)
  have hmro : PySem.W.Looks (model prog w) s.heap (mroOf (.ref C)) cd.mro := (PySem.W.looks_clsIn X hc).andThen .now
  rw [PySem.W.osa_eq, refuse_eq]
  refine wpAny_bind (wpAny_bind (PySem.W.Looks.here (s := { s with toks := s.toks + 1 }) J.type (wpAny_bind (PySem.W.Looks.here (s := { s with toks := s.toks + 1 }) hmro ?_))))
  rw [hm, refuseLoop_ref, refuseLoop_ref, SV.passes]
  refine wpAny_pure (wpAny_bind (PySem.W.Looks.here (s := { s with toks := s.toks + 1 }) J.type (wpAny_bind (PySem.W.Looks.here (s := { s with toks := s.toks + 1 }) (PySem.W.looks_findIn X hn) (wpAny_bind (wpAny_pure ?_))))))
  dsimp only
  refine wpAny_bind (wpAny_pure (wpAny_bind (wpAny_bind (wpAny_loadPart hx (wpAny_bind (PySem.W.Looks.here (s := { s with toks := s.toks + 1 }) (PySem.W.looks_clsIn X hc) ?_))))))
  rw [hd, if_neg (by decide)]
  dsimp only
  rw [if_neg (by simp [typeHasDict])]
  have hx₁ : (s.heap.push { cls := .type "dict", data := .dict #[] }).get? x = some { cls := .ref C, data := .fields vs } := Heap.get?_push_of_some _ hx
  have hxs : x ≠ s.heap.objs.size := Nat.ne_of_lt (Heap.lt_size hx)
  refine wpAny_bind (wpAny_alloc' ?_)
  refine wpAny_bind (wpAny_update' hx₁ ?_)
  refine wpAny_pure ?_
  have hgd : ((s.heap.push { cls := .type "dict", data := .dict #[] }).update x fun o => { cls := o.cls, dict := some s.heap.objs.size, data := o.data, slots := o.slots }).get? s.heap.objs.size
      = some { cls := .type "dict", data := .dict #[] } :=
    (Heap.get?_update_ne _ _ _ _ hxs.symm).trans (Heap.get?_push_at rfl rfl)
  have hnd : ((s.heap.push { cls := .type "dict", data := .dict #[] }).update x fun o => { cls := o.cls, dict := some s.heap.objs.size, data := o.data, slots := o.slots }).Ns s.heap.objs.size (fun _ => none) :=
    ⟨_, #[], _, hgd, rfl, fun e he => absurd he (by simp), fun _ => rfl⟩
  show wpAny _ _ (Builtin.ObjectAttr.storeInDict s.heap.objs.size (.str name s.toks) name v) _ _ _
  unfold Builtin.ObjectAttr.storeInDict Builtin.ObjectAttr.newKeyGuard
  refine wpAny_bind (wpAny_pure (wpAny_bind (wpAny_nsSet1 (Heap.Ns1.of_empty hnd) fun h' hn' hs' => ?_)))
  obtain ⟨oD, esD, epD, hoD, hdD, hcD⟩ := hn'.count (Within.cons name v Within.nil)
  refine wpAny_bind (wpAny_lookBehind hoD (by rw [hdD]; exact pastItsLine_dict (Nat.le_trans hcD (by rw [List.length_cons, List.length_nil, sizeLine_eq]; omega))) ?_)
  refine wpAny_pure ?_
  refine h h' ?_ ?_ (fun b o nb e => (hs'.2 b (Nat.ne_of_lt (Heap.lt_size e))).trans ((Heap.get?_update_ne _ _ _ _ nb).trans (Heap.get?_push_of_some _ e))) _
  · exact (hs'.2 x hxs).trans (Heap.get?_update_self _ hx₁ rfl)
  · exact hn'
end
section
variable {X : Cx} {o value : Expr} {nm : Str} {pos pos' : Pos} {ta tv : TE}
/-- what of an own error's class is wanted besides -/
structure ExcF (K : PySem.W.Frag) (C : Addr) (nm : Str) : Prop where
  sa : PySem.W.findIn K (.ref C) "__setattr__" = some (some (.builtin "object.__setattr__"))
  no : PySem.W.findIn K (.ref C) nm = some none
def sFldX (K : PySem.W.Frag) (ta tv : TE) (nm : Str) : TS := fun D σ H => tv σ H fun y H1 => ta σ H1 fun x H2 => ∃ a C C0 f, x = .ref a ∧ H2 a = some (newX a (.ref C) none) ∧ ExcI K C C0 f ∧ ExcF K C nm ∧
  ∀ dx, H2 dx = none → D.nx σ (upd (upd H2 dx (.xd [(nm, y)])) a (newX a (.ref C) (some dx)))
theorem ps_fldX (ha : PE X o ta) (hv : PE X value tv) (hs : swapsWith value (some (.Attribute o nm pos')) pos.line X.env = pure false) : PS X (.Assign [.Attribute o nm pos'] value pos) (sFldX X.K ta tv nm) := by
  intro pins s σ H D I h
  refine plainObj_wpAny_Assign_Attribute (thn (hv pins s σ H _ I h) fun u s1 ⟨y, H1, I1, ry, q⟩ => thn (ha pins s1 σ H1 _ I1 q) fun ov s2 ⟨x, H2, I2, rx, a, C, C0, f, ex, ea, qi, qf, q2⟩ => ?_) hs
  subst ex
  obtain rfl : ov = Value.ref a := rx
  obtain ⟨⟨t, he⟩, _⟩ := (show ObjOk X.prog X.w H2 s2.heap a (newX a (.ref C) none) from I2.hok a _ ea)
  refine set_exc I2.kIn qi he qf.sa qf.no fun h' e1 e2 e3 tk => ?_
  have fr : H2 s2.heap.objs.size = none := I2.hok.fresh (Nat.le_refl _)
  refine ⟨σ, _, ?_, q2 _ fr⟩
  have na : a ≠ s2.heap.objs.size := Nat.ne_of_lt (Heap.lt_size he)
  -- the dict, then the object
  have u1 := Heap.get?_update_self (fun _ : Obj => ({ cls := .ref C, data := .fields #[.ref t, .none, .none, .none, .bool false, .none] } : Obj)) e1 rfl
  have u2 : ∀ b, b ≠ a → (h'.update a fun _ : Obj => ({ cls := .ref C, data := .fields #[.ref t, .none, .none, .none, .bool false, .none] } : Obj)).get? b = h'.get? b := fun b nb => Heap.get?_update_other _ _ (Ne.symm nb)
  generalize h'.update a (fun _ : Obj => ({ cls := .ref C, data := .fields #[.ref t, .none, .none, .none, .bool false, .none] } : Obj)) = h1 at u1 u2
  have I3 : Inv X pins σ (upd H2 s2.heap.objs.size (.xd [(nm, y)])) { s2 with heap := h1, toks := s2.toks } := by
    refine I2.laid (a := s2.heap.objs.size) (o := .xd [(nm, y)]) (h' := h1) (t' := s2.toks) (fun b u e => ?_) (Nat.le_refl _) ?_
    · by_cases nb : b = a
      · subst nb
        rw [he] at e; cases e
        exact u1
      · rw [u2 b nb]; exact e3 b u nb e
    · obtain ⟨od, es, ep, z1, z2⟩ := e2
      refine ⟨_, ⟨od, es, ep, (u2 _ (Ne.symm na)).trans z1, z2⟩, fun g => ?_⟩
      by_cases gg : g = nm
      · subst gg
        rw [if_pos rfl, List.lookup_cons, beq_self_eq_true]
        exact ry
      · have : (g == nm) = false := beq_eq_false_iff_ne.mpr gg
        rw [if_neg gg, List.lookup_cons, this]
        exact True.intro
  have ea3 : upd H2 s2.heap.objs.size (.xd [(nm, y)]) a = some (newX a (.ref C) none) := by rw [upd_ne na]; exact ea
  exact I3.write (x := a) (e := a) (h' := h') (t' := tk) (by rw [ea3]; exact True.intro) (.inl rfl) (fun b u nb z => by rw [← u2 b nb]; exact z) ⟨_, e1⟩ (newX_ok e1)
end
/-! ### e.f, of an exception that was caught -/
section
variable {X : Cx} {o : Expr} {nm : Str} {pos : Pos} {ta : TE}
def tFldX (K : PySem.W.Frag) (ta : TE) (nm : Str) : TE := fun σ H Q => ta σ H fun x H1 => ∃ a C dx fs v, x = .ref a ∧ H1 a = some (excO a (.ref C) (some dx)) ∧ H1 dx = some (.xd fs) ∧ ExcK K C ∧ PySem.W.hasDictIn K C = true ∧ PySem.W.findIn K (.ref C) nm = some none ∧ fs.lookup nm = some v ∧ Q v H1
theorem pe_fldX (he : PE X o ta) (hb : attributeBase o nm X.env (eval o X.env) = eval o X.env) : PE X (.Attribute o nm pos) (tFldX X.K ta nm) := by
  intro pins s σ H Q I h
  refine attr_of hb (thn (he pins s σ H _ I h) fun u s1 ⟨x, H1, I1, rx, a, C, dx, fs, v, ex, ea, ed, k, hh, hn, l, q⟩ => ?_)
  subst ex
  obtain rfl : u = Value.ref a := rx
  obtain ⟨⟨ob, vs, h1, h2, h3, h4⟩, _⟩ := (show ObjOk X.prog X.w H1 s1.heap a (excO a (.ref C) (some dx)) from I1.hok a _ ea)
  obtain ⟨mA, N1, r⟩ := (show ObjOk X.prog X.w H1 s1.heap dx (.xd fs) from I1.hok dx _ ed)
  obtain ⟨w', hw, rw'⟩ := RelO.some_of (v := v) (o := mA nm) (by rw [← l]; exact r nm)
  obtain ⟨od, ho, hl⟩ := lookIn_ns N1
  have J : PySem.W.InstAt s1.heap a ob C (some od) := ⟨h1, h2, by unfold PySem.W.notCls; rw [h4], by rw [h3]; exact ho⟩
  unfold getAttr
  refine wpAny_bind (wpAny_mkText (exc_by (s := { s1 with toks := s1.toks + 1 }) k I1.kIn J (handed_of rw') (.inl (PySem.W.findObj_own hh hn rfl (by rw [hl, hw]))) ?_))
  exact ⟨v, H1, I1.tok _, rw', q⟩
end
end L2

set_option Elab.async false
set_option linter.all false
set_option maxRecDepth 100000
namespace L2
open PySem
/-! isinstance of an error that has fields of its own -/
section
variable {X : Cx}
theorem exc_instD {pins : List (Addr × Obj)} {σ : St} {H : Hp} {s : Shared} {a C dx : Addr} {fs : List (Str × V)} (I : Inv X pins σ H s) (e : H a = some (excO a (.ref C) (some dx))) (ed : H dx = some (.xd fs)) : ∃ ox od, PySem.W.InstAt s.heap a ox C (some od) := by
  obtain ⟨⟨ob, vs, h1, h2, h3, h4⟩, _⟩ := (show ObjOk X.prog X.w H s.heap a (excO a (.ref C) (some dx)) from I.hok a _ e)
  obtain ⟨mA, N1, r⟩ := (show ObjOk X.prog X.w H s.heap dx (.xd fs) from I.hok dx _ ed)
  obtain ⟨od, ho, hl⟩ := lookIn_ns N1
  exact ⟨ob, od, h1, h2, by unfold PySem.W.notCls; rw [h4], by rw [h3]; exact ho⟩
theorem call_isiXd : CallR X (.builtin "isinstance") (fun xs H Q => ∃ a C dx fs c cv b, xs = [.ref a, c] ∧ H a = some (excO a (.ref C) (some dx)) ∧ H dx = some (.xd fs) ∧ ExcK X.K C ∧ RelV c cv ∧ (∀ u, RelV c u → u = cv) ∧ PySem.W.kitOne X.K (.ref C) cv = some b ∧ Q (.bl b) H) := by
  intro pins s σ H xs us Q I r h
  obtain ⟨a, C, dx, fs, c, cv, b, rfl, ha, hdx, k, rc, ru, e, q⟩ := h
  obtain ⟨u, w', rfl, rx, rn⟩ := vals2 r
  cases (show u = Value.ref a from rx)
  cases ru w' rn
  obtain ⟨ox, od, hi⟩ := exc_instD I ha hdx
  exact PySem.W.kia_one (kitx_exc (ox := ox) (odo := some od) k) I.kIn hi e (fun z => nomatch z) fun tk => ⟨.bl b, H, I.tok tk, rfl, q⟩
theorem call_isiXTd : CallR X (.builtin "isinstance") (fun xs H Q => ∃ (a C dx : Addr) (fs : List (Str × V)) (tp : Addr) (cs : List Addr) (b : Bool), xs = [.ref a, .ref tp] ∧ H a = some (excO a (.ref C) (some dx)) ∧ H dx = some (.xd fs) ∧ ExcK X.K C ∧ H tp = some (.tup (cs.map V.ref)) ∧ PySem.W.kitAny X.K (.ref C) (cs.map Value.ref) = some b ∧ Q (.bl b) H) := by
  intro pins s σ H xs us Q I r h
  obtain ⟨a, C, dx, fs, tp, cs, b, rfl, ha, hdx, k, ht, e, q⟩ := h
  obtain ⟨u, w', rfl, rx, rn⟩ := vals2 r
  cases (show u = Value.ref a from rx)
  cases (show w' = Value.ref tp from rn)
  obtain ⟨ox, od, hi⟩ := exc_instD I ha hdx
  obtain ⟨its, rv, ⟨o, h1, h2, n, h3⟩, _⟩ := I.tuple (SqT.of ht)
  have ei := vals_refs rv
  subst ei
  obtain ⟨oc, od2, oda, osl⟩ := o
  dsimp only at h2 h3
  subst h2 h3
  exact PySem.W.kia_tup (kitx_exc (ox := ox) (odo := some od) k) I.kIn hi h1 e (fun z => nomatch z) fun tk => ⟨.bl b, H, I.tok tk, rfl, q⟩
end
end L2

set_option maxHeartbeats 1000000
namespace Mq
end Mq

set_option Elab.async false
set_option linter.all false
set_option maxHeartbeats 1000000
namespace L2
open PySem PySem.Spec PyProof.Rows
/-- no whole number -/
def NW (K : PySem.W.Frag) (H : Hp) (x : V) : Prop := ∃ t, TyOf K H x t ∧ NotWhole t
/-- what fraction refuses -/
def BadF (K : PySem.W.Frag) (H : Hp) (x y : V) : Prop := NW K H x ∨ (∃ t, x = .int t) ∧ (NW K H y ∨ y = .int 0)
def spFracX (K : PySem.W.Frag) (CN : Addr) : Sp := fun vs H Q E => ∃ x y, vs = [x, y] ∧
  ((∃ (t b : Int) (n : Nat), x = .int t ∧ y = .int b ∧ b ≠ 0 ∧ Mq.B n b ∧ n ≤ 9000 ∧ NewF H Q (Mq.red t b)) ∨ (BadF K H x y ∧ E (.ref CN) none H))
def spOver (K : PySem.W.Frag) (CN : Addr) : Sp := fun vs H Q E => ∃ (a b : Addr) (p q : Mq.Q2) (n m : Nat), vs = [.ref a, .ref b] ∧ Fq K H a p ∧ Fq K H b q ∧ 1 ≤ p.2 ∧ 1 ≤ q.2 ∧ Mq.Bd n p ∧ Mq.Bd m q ∧ n + m + 1 ≤ 9000 ∧
  ((q.1 ≠ 0 ∧ NewF H Q (Mq.over p q)) ∨ (q.1 = 0 ∧ E (.ref CN) none H))
def spUnder (K : PySem.W.Frag) : Sp := fun vs H Q _ => ∃ (a b : Addr) (p q : Mq.Q2) (n m : Nat), vs = [.ref a, .ref b] ∧ Fq K H a p ∧ Fq K H b q ∧ Mq.Bd n p ∧ Mq.Bd m q ∧ n + m + 1 ≤ 9000 ∧ Q (.bl (decide (p.1 * q.2 < q.1 * p.2))) H
/-- _law_pick -/
def pickN (ns : List Int) (k : Nat) : Int := ns.getD k 0
def spPick (K : PySem.W.Frag) : Sp := fun vs H Q _ => ∃ (a : Addr) (ns : List Int) (j : Int) (k : Nat), vs = [.ref a, .int j] ∧ j = (k : Int) ∧ SqL K H a (ns.map V.int) ∧ ns.length ≤ 63 ∧ ∀ H', Same H H' → Q (.int (pickN ns k)) H'
end L2

set_option Elab.async false
set_option linter.all false
set_option maxRecDepth 100000
set_option maxHeartbeats 2000000
namespace L2
open PySem PySem.Spec PyProof.Rows

/-! ### list comprehensions -/
section
variable {prog : Program} {w : World} {A : Around} {R : Result → Shared → Prop} {s : Shared}
abbrev tests (ifs : List Expr) (env : Env) : Sem Bool := forIn ifs true fun c r => if r = true then do let ok ← isTrue c env (eval c env); pure (ForInStep.yield ok) else pure (ForInStep.yield r)
theorem comp_loop {elt target iter : Expr} {ifs : List Expr} {scope : Scope} {pos : Pos} {it acc : Value} {env : Env} (I : Nat → Shared → Prop)
    (turn : ∀ n s, I n s → wpAny (model prog w) A (pyNext it) (fun r s₁ => match r with
      | none => R (.ok .next) s₁
      | some v => wpAny (model prog w) A (letOwnedTupleGo target it v) (fun _ s₀ => wpAny (model prog w) A (assign target env v) (fun _ s₂ =>
          wpAny (model prog w) A (tests ifs env) (fun ok s₃ =>
            if ok = true then wpAny (model prog w) A (eval elt env) (fun x s₄ =>
              wpAny (model prog w) A (call (.builtin "list.append") [acc, x]) (fun _ s₅ => ∃ m, m < n ∧ I m s₅) (fun _ _ => False) s₄) (fun _ _ => False) s₃
            else ∃ m, m < n ∧ I m s₃) (fun _ _ => False) s₂) (fun _ _ => False) s₀) (fun _ _ => False) s₁) (fun _ _ => False) s)
    (n : Nat) (h : I n s) :
    codeAny (model prog w) A (.compLoop (.ListComp elt [⟨target, iter, ifs, 0⟩] scope pos) 0 it acc env) R s := by
  refine codeAny_loop rfl I (fun n s hI => ?_) n h
  show wpAny _ A ((compTurn (.ListComp elt [⟨target, iter, ifs, 0⟩] scope pos) 0 it acc env).onRaise (fun x => do noteFrame x env; theTreesLotGoes x)) _ _ s
  refine wpAny_noted ?_
  rw [compTurn_list]
  refine wpAny_bind (wpAny_standAt (wpAny_bind (wpAny_mono (turn n s hI) (fun r s₁ h₁ => ?_) fun _ _ z => z.elim)))
  cases r with
  | none => exact wpAny_pure h₁
  | some v =>
    refine wpAny_bind (wpAny_mono h₁ (fun _ s₀ h₀ => ?_) fun _ _ z => z.elim)
    refine wpAny_bind (wpAny_mono h₀ (fun _ s₂ h₂ => wpAny_bind (wpAny_mono h₂ (fun ok s₃ h₃ => ?_) fun _ _ z => z.elim)) fun _ _ z => z.elim)
    cases ok with
    | false => exact wpAny_pure ⟨rfl, h₃⟩
    | true =>
      rw [if_pos rfl] at h₃
      show wpAny _ _ ((do let _ ← call (.builtin "list.append") [acc, ← eval elt env]) >>= fun _ => again (.compLoop (.ListComp elt [⟨target, iter, ifs, 0⟩] scope pos) 0 it acc env)) _ _ _
      exact wpAny_bind (wpAny_bind (wpAny_mono h₃ (fun x s₄ h₄ => wpAny_bind (wpAny_mono h₄ (fun _ s₅ h₅ => wpAny_pure (wpAny_pure ⟨rfl, h₅⟩)) fun _ _ z => z.elim)) fun _ _ z => z.elim))
end

/-- a comprehension's names: its own first (nl of them), then those of the def around it that it reads, at the slots fr there -/
structure CompOk (X : Cx) (scope : Scope) (cl : List (Str × Addr)) (Nc : List Str) (nl : Nat) (fr : List Nat) : Prop where
  clos : closureFor scope X.env = pure cl
  kind : scope.kind = .function
  names : ∀ y ∈ scope.names, y.2 = .local → scope.names.lookup y.1 = some .local
  cell : ∀ y ∈ scope.names, y.2 ≠ .cell
  sub : ∀ x c, cl.lookup x = some c → X.env.cells.lookup x = some c
  has : ∀ x, (relabel scope X.env).names.lookup x = some .cell ∨ (relabel scope X.env).names.lookup x = some .free → ∃ c, cl.lookup x = some c
  len : Nc.length = nl + fr.length
  tail : ∀ i n, Nc[nl + i]? = some n → ∃ j, fr[i]? = some j ∧ X.N[j]? = some n ∧ X.env.kindOf n = some .cell ∧ cl.lookup n = X.env.cells.lookup n ∧ ((relabel scope X.env).names.lookup n = some .cell ∨ (relabel scope X.env).names.lookup n = some .free)
abbrev compCx (X : Cx) (scope : Scope) (cl : List (Str × Addr)) (Nc : List Str) (C : Addr) (s3 : Shared) (H3 : Hp) (fp : List Addr) (pins : List (Addr × Obj)) : Cx :=
  { X with N := Nc, s₀ := s3, H₀ := H3, env := compEnvC scope cl C X.env, outer := X.stack, ex := fp, fn := fun _ => false, pn := X.pn ++ pins, xe := fun _ _ => False }
def σC (nl : Nat) (fr : List Nat) (σ : St) : St := List.replicate nl none ++ fr.map fun j => (σ[j]?).join
abbrev PIf (X : Cx) (ifs : List Expr) (t : TT) : Prop :=
  ∀ (pins : List (Addr × Obj)) (s : Shared) (σ : St) (H : Hp) (Q : Bool → Hp → Prop), Inv X pins σ H s → t σ H Q → wpAny (model X.prog X.w) X.A (tests ifs X.env) (TP X pins σ Q) X.xe s
theorem pif_nil {X : Cx} : PIf X [] (fun _ H Q => Q true H) := fun _ _ _ H _ I h => wpAny_pure ⟨H, I, h⟩
theorem pif_one {X : Cx} {c : Expr} {t : TT} (h : PT X c t) : PIf X [c] t := fun pins s σ H Q I q => wpAny_tests_one (h pins s σ H Q I q)

section
variable {X : Cx} {scope : Scope} {cl : List (Str × Addr)} {Nc : List Str} {nl : Nat} {fr : List Nat} {pins : List (Addr × Obj)} {σ : St} {H3 : Hp} {s3 : Shared} {fp : List Addr} {h4 : Heap} {tk : Nat}
theorem comp_start (ck : CompOk X scope cl Nc nl fr) (I : Inv X pins σ H3 s3) (hf : ∀ b ∈ fp, FpOk X pins H3 b) (hfs : ∀ b ∈ fp, b < s3.heap.objs.size)
    (hns : h4.Ns s3.heap.objs.size fun _ => none) (hk : ∀ b o, s3.heap.get? b = some o → h4.get? b = some o) :
    Inv (compCx X scope cl Nc s3.heap.objs.size s3 H3 fp pins) [] (σC nl fr σ) H3 { s3 with heap := h4, toks := tk } := by
  have stk : ∀ b ∈ frs X.stack, b ∈ X.env.locals :: X.fs := I.stkSub
  have nfs : ∀ b, b ≠ X.env.locals → b ∉ X.fs → b ∉ frs X.stack := fun b h1 h2 z => (List.mem_cons.mp (stk b z)).elim h1 h2
  have ltc : ∀ x c, cl.lookup x = some c → c < s3.heap.objs.size := fun x c e => by
    obtain ⟨v, z⟩ := I.cell x c (ck.sub x c e)
    exact z.lt
  refine ⟨⟨I.ok.mod, ck.kind, I.ok.glob, I.ok.blt, Nat.le_refl _, fun x y c h1 h2 => I.ok.inj x y c (ck.sub x c h1) (ck.sub y c h2), fun x hx => ck.has x hx, fun x c hz => Bool.noConfusion hz, I.ok.hd, I.ok.frames, .inl rfl, fun b hb => ?_, I.bs, Nat.le_trans I.ok.bsz I.sz, fun b o e hb => ?_, fun b hb => ?_, I.stack, I.stkFree⟩,
    rfl, I.bare, Un.kept hk, ⟨_, hns, fun i x v h1 h2 h3 => ?_⟩, fun x c e => ?_, I.hok.fresh (Nat.le_refl _), fun x c e => I.freeC x c (ck.sub x c e), fun p hp => ?_, I.hok.kept hk, ?_⟩
  · obtain ⟨f0, f1, f2, f3, f4, f5⟩ := hf b hb
    exact ⟨Nat.ne_of_lt (hfs b hb), fun x c e => f4 x c (ck.sub x c e)⟩
  · obtain ⟨f0, f1, f2, f3, f4, f5⟩ := hf b hb
    rcases f3 with z | z
    · exact I.ok.noex b o e z
    · exact absurd (Nat.lt_of_lt_of_le (Heap.lt_size e) (Nat.le_trans I.ok.bsz z)) (Nat.lt_irrefl _)
  · obtain ⟨f0, f1, f2, f3, f4, f5⟩ := hf b hb
    exact nfs b f1 f2
  · -- a name's value
    unfold σC at h2
    by_cases hi : i < nl
    · rw [List.getElem?_append_left (by simpa using hi), List.getElem?_replicate] at h2
      split at h2 <;> cases h2
    · have hi' : nl ≤ i := by omega
      rw [List.getElem?_append_right (by simpa using hi'), List.length_replicate, List.getElem?_map] at h2
      obtain ⟨k, rfl⟩ : ∃ k, i = nl + k := ⟨i - nl, by omega⟩
      obtain ⟨j, e1, e2, e3, e4, e5⟩ := ck.tail k x h1
      rw [Nat.add_sub_cancel_left, e1] at h2
      have h2' : (σ[j]?).join = some v := by simpa using h2
      have h2'' : σ[j]? = some (some v) := by
        cases q : σ[j]? with
        | none => rw [q] at h2'; cases h2'
        | some z => rw [q] at h2'; exact congrArg some h2'
      obtain ⟨m, hn, hl⟩ := I.loc
      obtain ⟨u, r, l⟩ := hl j x v e2 h2'' (.inr (.inl e3))
      refine ⟨u, r, ?_⟩
      rcases l with ⟨k1, _⟩ | ⟨k1, c, ec, z⟩
      · rw [e3] at k1; cases k1
      · obtain ⟨o, ho, hd⟩ := z
        exact .inr ⟨e5, c, by show cl.lookup x = some c; rw [e4]; exact ec, o, hk _ _ ho, hd⟩
  · obtain ⟨v, o, ho, hd⟩ := I.cell x c (ck.sub x c e)
    exact ⟨v, o, hk _ _ ho, hd⟩
  · have hp' : p ∈ X.pn ++ pins := by simpa using hp
    obtain ⟨e, n, ne, nf, d⟩ := I.pin p hp'
    exact ⟨hk _ _ e, n, Nat.ne_of_lt (Heap.lt_size e), nfs _ ne nf, d⟩
  · unfold σC
    show _ = Nc.length
    rw [List.length_append, List.length_replicate, List.length_map, ck.len]
/-- behind the block -/
theorem comp_end {pins' : List (Addr × Obj)} {σ' : St} {H' : Hp} {s' : Shared} (I : Inv X pins σ H3 s3) (hf : ∀ b ∈ fp, FpOk X pins H3 b)
    (J : Inv (compCx X scope cl Nc s3.heap.objs.size s3 H3 fp pins) pins' σ' H' s') : Inv X pins σ H' s' ∧ FpOk X pins H' s3.heap.objs.size := by
  refine ⟨I.call' (ch := fp) J.os J.base J.hok J.bare fun b hb => ?_, I.fpOk (Nat.le_refl _) J.free⟩
  obtain ⟨f0, f1, f2, f3, f4, f5⟩ := hf b hb
  exact ⟨f3, f1, f4, f5⟩
theorem Inv.off {b : Addr} {H : Hp} {s : Shared} {h' : Heap} (I : Inv X pins σ H s) (f : FpOk X pins H b) (hs : Heap.SameBut b s.heap h') : Inv X pins σ H { s with heap := h' } := by
  obtain ⟨f0, f1, f2, f3, f4, f5⟩ := f
  exact I.turned (t' := s.toks) (it := b) (fun c o hb e => (hs.2 c hb).trans e) f0 f1 f3 f4 f5
end

/-- what a comprehension's walk asks, by the iterator -/
def CompW (J : It) (nl : Nat) (fr : List Nat) (g : TG) (tt : TT) (te : TE) (σ : St) (D : Addr) (H1 : Hp) (Q : VK) : Prop :=
  ∃ W : Nat → Nat → List V → Hp → Prop, (∃ m, W 0 m [] (upd H1 D (.lst []))) ∧ ∀ i m ys H2, W i m ys H2 → H2 D = some (.lst ys) ∧
    ((J.stop i H2 ∧ Q (.ref D) H2) ∨ (J.go i H2 ∧ ∀ x H3, J.yld i H2 x H3 → g x (σC nl fr σ) H3 fun σ2 H4 => σ2.length = (σC nl fr σ).length ∧ (∀ (i : Nat) v, (σC nl fr σ)[i]? = some (some v) → σ2[i]? = some (some v)) ∧
      tt σ2 H4 fun b H5 => if b = true then te σ2 H5 fun y H6 => H6 D = some (.lst ys) ∧ ys.length < sizeLine ∧ ∃ m', m' < m ∧ W (i + 1) m' (ys ++ [y]) (upd H6 D (.lst (ys ++ [y])))
        else ∃ m', m' < m ∧ W (i + 1) m' ys H5))
/-- [elt for tg in iter if ..] -/
def tComp (wi : TI) (nl : Nat) (fr : List Nat) (g : TG) (tt : TT) (te : TE) : TE := fun σ H Q => wi σ H fun J H1 => ∀ D, H1 D = none → CompW J nl fr g tt te σ D H1 Q
section
variable {X : Cx} {scope : Scope} {cl : List (Str × Addr)} {Nc : List Str} {nl : Nat} {fr : List Nat} {elt tg iter : Expr} {ifs : List Expr} {pos : Pos} {wi : TI} {g : TG} {tt : TT} {te : TE}
theorem comp_run (hc : X.calm = true) (ck : CompOk X scope cl Nc nl fr) (hi : PI X tg iter wi)
    (hg : ∀ C s3 H3 fp pins, PG (compCx X scope cl Nc C s3 H3 fp pins) tg g) (ht : ∀ C s3 H3 fp pins, PIf (compCx X scope cl Nc C s3 H3 fp pins) ifs tt) (he : ∀ C s3 H3 fp pins, PE (compCx X scope cl Nc C s3 H3 fp pins) elt te)
    {pins : List (Addr × Obj)} {s : Shared} {σ : St} {H : Hp} {Q : VK} (I : Inv X pins σ H s) (h : tComp wi nl fr g tt te σ H Q) {RR : Value → Addr → Result → Shared → Prop}
    (fin : ∀ D C s', (∃ H', (∃ m, s'.heap.Ns C m) ∧ Inv X pins σ H' s' ∧ FpOk X pins H' C ∧ Q (.ref D) H') → RR (.ref D) C (.ok .next) s') :
    wpAny (model X.prog X.w) X.A (eval iter X.env) (fun x s₁ => wpAny (model X.prog X.w) X.A (pyIter x) (fun it s₂ => wpAny (model X.prog X.w) X.A (newList []) (fun acc s₃ =>
      wpAny (model X.prog X.w) X.A (newFunctionEnv scope X.env.globals cl [] X.env.qual none .none (some X.env)) (fun cenv s₄ =>
        codeAny (model X.prog X.w) X.A (.compStart (.ListComp elt [⟨tg, iter, ifs, 0⟩] scope pos) 0 it acc { cenv with scope := relabel scope X.env }) (RR acc cenv.locals) s₄) X.xe s₃) X.xe s₂) X.xe s₁) X.xe s := by
  refine thn (hi pins s σ H _ I h) fun v s1 h1 => thn h1 fun itv s2 h2 => ?_
  obtain ⟨it, fp, tn, J, H2, e, I2, T, st2, f2, hD⟩ := h2
  subst e
  have hn2 : H2 s2.heap.objs.size = none := I2.hok.fresh (Nat.le_refl _)
  obtain ⟨W, ⟨m0, w0⟩, turn⟩ := hD s2.heap.objs.size hn2
  refine wpAny_newObj_type (wpAny_newFunctionEnv ck.cell (by intro y hy; simp at hy) (fun h4 hns hsb => ?_) ck.kind)
  dsimp only at hns hsb ⊢
  have I3 : Inv X pins σ (upd H2 s2.heap.objs.size (.lst [])) { s2 with heap := s2.heap.push { cls := .type "list", dict := none, data := .seq ([] : List Value).toArray } } :=
    I2.laid (t' := s2.toks) (fun b u e => Heap.get?_push_of_some _ e) (Nat.le_refl _) ⟨Nat.zero_le _, [], 0, .nil, Heap.get?_push_size _ rfl⟩
  have hfs : ∀ b ∈ fp, b < s2.heap.objs.size := fun b hb => by
    obtain ⟨o, e, _⟩ := T.obj 0 _ st2 b hb
    exact Heap.lt_size e
  have f3 : ∀ b ∈ fp, FpOk X pins (upd H2 s2.heap.objs.size (.lst [])) b := fun b hb => ⟨by rw [upd_ne (Nat.ne_of_lt (hfs b hb))]; exact (f2 b hb).1, (f2 b hb).2⟩
  generalize hH3 : upd H2 s2.heap.objs.size (.lst []) = H3 at *
  generalize hs3 : ({ s2 with heap := s2.heap.push { cls := .type "list", dict := none, data := .seq ([] : List Value).toArray } } : Shared) = s3 at *
  have z3 : s3.heap = s2.heap.push { cls := .type "list", dict := none, data := .seq ([] : List Value).toArray } := by rw [← hs3]
  have hsz3 : s3.heap.objs.size = s2.heap.objs.size + 1 := by rw [z3, Heap.size_push]
  rw [← z3] at hns hsb ⊢
  have hk4 : ∀ b o, s3.heap.get? b = some o → h4.get? b = some o := fun b o e => hsb.extBut b o (Nat.ne_of_lt (Heap.lt_size e)) (Heap.get?_push_of_some _ e)
  have hfs3 : ∀ b ∈ fp, b < s3.heap.objs.size := fun b hb => Nat.lt_of_lt_of_le (hfs b hb) (by rw [hsz3]; exact Nat.le_succ _)
  have hns' : h4.Ns s3.heap.objs.size fun _ => none := by simpa using hns
  have K0 := fun tk => comp_start (tk := tk) ck I3 f3 hfs3 hns' hk4
  have stat : ∀ {H' : Hp}, (∀ b ∈ fp, H' b = none) → ∀ b ∈ fp, FpOk (compCx X scope cl Nc s3.heap.objs.size s3 H3 fp pins) [] H' b := fun {H'} hn b hb => by
    obtain ⟨f0, g1, g2, g3, g4, g5⟩ := f3 b hb
    refine ⟨hn b hb, Nat.ne_of_lt (hfs3 b hb), fun z => ?_, .inl hb, fun x c e => g4 x c (ck.sub x c e), fun p hp => g5 p (by simpa using hp)⟩
    exact (List.mem_cons.mp (I3.stkSub b z)).elim g1 g2
  have st4 : tn 0 h4 := T.keep 0 _ _ st2 fun b hb o e => hk4 b o (by rw [z3]; exact Heap.get?_push_of_some _ e)
  have loop : ∀ tk, codeAny (model X.prog X.w) X.A (.compLoop (.ListComp elt [⟨tg, iter, ifs, 0⟩] scope pos) 0 (.ref it) (.ref s2.heap.objs.size) (compEnvC scope cl s3.heap.objs.size X.env)) (RR (.ref s2.heap.objs.size) s3.heap.objs.size) { s3 with heap := h4, toks := tk } := by
    intro tk
    refine comp_loop (fun n s' => ∃ i ys H', Inv (compCx X scope cl Nc s3.heap.objs.size s3 H3 fp pins) [] (σC nl fr σ) H' s' ∧ tn i s'.heap ∧ (∀ b ∈ fp, H' b = none) ∧ W i n ys H') ?_ m0 ⟨0, [], H3, K0 tk, st4, fun b hb => (f3 b hb).1, w0⟩
    rintro n s5 ⟨i, ys, H5, I5, st5, fr5, w5⟩
    obtain ⟨hl5, q5⟩ := turn i n ys H5 w5
    rcases q5 with ⟨stop, qn⟩ | ⟨go, step⟩
    · refine wpAny_mono (T.done (compCx X scope cl Nc s3.heap.objs.size s3 H3 fp pins) rfl rfl rfl hc i [] s5 (σC nl fr σ) H5 (fun _ _ => False) I5 (stat fr5) st5 stop) (fun r s6 h6 => ?_) fun _ _ z => z
      obtain ⟨hr, I6⟩ := h6
      subst hr
      obtain ⟨z1, z2⟩ := comp_end I3 f3 I6
      refine fin _ _ _ ⟨H5, ?_, z1, z2, qn⟩
      obtain ⟨m, hm, _⟩ := I6.loc
      exact ⟨m, hm⟩
    · refine wpAny_mono (T.item (compCx X scope cl Nc s3.heap.objs.size s3 H3 fp pins) rfl rfl rfl hc i [] s5 (σC nl fr σ) H5 (fun _ _ => False) I5 (stat fr5) st5 go) (fun r s6 h6 => ?_) fun _ _ z => z
      obtain ⟨u, hr, h6⟩ := h6
      subst hr
      refine wpAny_mono h6 (fun _ s7 h7 => ?_) fun _ _ z => z
      obtain ⟨x, H7, I7, r7, y7, st7, fr7⟩ := h7
      have I7' := I7.pinned (stat fr7) (T.obj _ _ st7)
      refine wpAny_mono (hg s3.heap.objs.size s3 H3 fp pins _ s7 _ H7 x u _ I7' r7 (step x H7 y7)) (fun _ s8 h8 => ?_) fun _ _ z => z
      obtain ⟨σ8, H8, I8, l8, k8, q8⟩ := h8
      refine wpAny_mono (ht s3.heap.objs.size s3 H3 fp pins _ s8 σ8 H8 _ I8 q8) (fun b s9 h9 => ?_) fun _ _ z => z
      obtain ⟨H9, I9, q9⟩ := h9
      have again : ∀ {ys' : List V} {H' : Hp} {s' : Shared} {m' : Nat}, Inv (compCx X scope cl Nc s3.heap.objs.size s3 H3 fp pins) ([] ++ pinsAt fp s7.heap) σ8 H' s' → m' < n → W (i + 1) m' ys' H' →
          ∃ m, m < n ∧ ∃ i ys H', Inv (compCx X scope cl Nc s3.heap.objs.size s3 H3 fp pins) [] (σC nl fr σ) H' s' ∧ tn i s'.heap ∧ (∀ b ∈ fp, H' b = none) ∧ W i m ys H' := fun {ys' H' s' m'} I' hm w' => by
        refine ⟨m', hm, i + 1, ys', H', I'.unpinned.weak l8.symm k8, T.keep _ _ _ st7 fun b hb o e => (I'.pin (b, o) (List.mem_append_right _ (List.mem_append_right _ (mem_pinsAt hb e)))).1, fun b hb => ?_, w'⟩
        obtain ⟨o, e, d⟩ := T.obj _ _ st7 b hb
        exact (I'.pin (b, o) (List.mem_append_right _ (List.mem_append_right _ (mem_pinsAt hb e)))).2.1
      cases b with
      | false =>
        rw [if_neg Bool.false_ne_true] at q9 ⊢
        obtain ⟨m', hm, w9⟩ := q9
        exact again I9 hm w9
      | true =>
        rw [if_pos rfl] at q9 ⊢
        refine wpAny_mono (he s3.heap.objs.size s3 H3 fp pins _ s9 σ8 H9 _ I9 q9) (fun yv s10 h10 => ?_) fun _ _ z => z
        obtain ⟨y, H10, I10, r10, hl10, hz10, m', hm, w10⟩ := h10
        refine wpAny_mono (mt_append (X := compCx X scope cl Nc s3.heap.objs.size s3 H3 fp pins) _ s10 σ8 H10 (.ref s2.heap.objs.size) [y] _ [yv] (fun v H' => H' = upd H10 s2.heap.objs.size (.lst (ys ++ [y]))) I10 rfl (.cons r10 .nil) ⟨_, ys, y, rfl, rfl, hl10, hz10, rfl⟩) (fun _ s11 h11 => ?_) fun _ _ z => z
        obtain ⟨_, H11, I11, _, e11⟩ := h11
        subst e11
        exact again I11 hm w10
  have L := loop (s2.toks + ([] : List (Str × Value)).length)
  rw [show s3.gens = s2.gens by rw [← hs3], show s3.drawn = s2.drawn by rw [← hs3], show s3.os = s2.os by rw [← hs3]] at L
  exact codeAny_compStart_list L (T.self _ 0 _ _ _ st4 L)
theorem pe_comp (hc : X.calm = true) (ck : CompOk X scope cl Nc nl fr) (hi : PI X tg iter wi)
    (hg : ∀ C s3 H3 fp pins, PG (compCx X scope cl Nc C s3 H3 fp pins) tg g) (ht : ∀ C s3 H3 fp pins, PIf (compCx X scope cl Nc C s3 H3 fp pins) ifs tt) (he : ∀ C s3 H3 fp pins, PE (compCx X scope cl Nc C s3 H3 fp pins) elt te)
    (hs : ∀ x, foldedSetIterable iter X.env x = pure x := by intro _; rfl) : PE X (.ListComp elt [⟨tg, iter, ifs, 0⟩] scope pos) (tComp wi nl fr g tt te) := by
  intro pins s σ H Q I h
  rw [eval_ListComp]
  refine wpAny_comprehension_free (use := none) rfl hs ck.clos ck.kind ck.names (comp_run (RR := fun acc C => compPost (model X.prog X.w) X.A X.xe none (EP X pins σ Q) acc C) hc ck hi hg ht he I h fun D C s' hh => ?_)
  obtain ⟨H', ⟨m, hm⟩, hI, hF, q⟩ := hh
  exact ⟨m, hm, fun h' hs' => ⟨.ref D, H', hI.off hF hs', rfl, q⟩⟩
/-- y = [..] (the store comes ahead of the block's end) -/
theorem ps_setC {i : Nat} {y : Str} {py spos : Pos} (hN : X.N.Nodup) (hiy : X.N[i]? = some y) (hy : X.env.scope.names.lookup y = some .local) (hc : X.calm = true) (ck : CompOk X scope cl Nc nl fr) (hi : PI X tg iter wi)
    (hg : ∀ C s3 H3 fp pins, PG (compCx X scope cl Nc C s3 H3 fp pins) tg g) (ht : ∀ C s3 H3 fp pins, PIf (compCx X scope cl Nc C s3 H3 fp pins) ifs tt) (he : ∀ C s3 H3 fp pins, PE (compCx X scope cl Nc C s3 H3 fp pins) elt te)
    (hsw : swapsWith (.ListComp elt [⟨tg, iter, ifs, 0⟩] scope pos) (some (.Name y py)) spos.line X.env = pure true)
    (hs : ∀ x, foldedSetIterable iter X.env x = pure x := by intro _; rfl) : PS X (.Assign [.Name y py] (.ListComp elt [⟨tg, iter, ifs, 0⟩] scope pos) spos) (tAsg (tComp wi nl fr g tt te) (gName i)) := by
  intro pins s σ H D I h
  rw [exec_Assign_Name_used _ _ _ _ hsw]
  refine wpAny_bind (wpAny_standAt (wpAny_bind ?_))
  show wpAny _ X.A (do let _ ← comprehension (.ListComp elt [⟨tg, iter, ifs, 0⟩] scope pos) scope X.env _ (newList []) false (eval iter X.env) (some (assign (.Name y py) X.env))) _ _ s
  refine wpAny_bind (wpAny_mono (wpAny_comprehension_free (use := some (assign (.Name y py) X.env)) (Q := fun _ s' => SP X pins D .next s') rfl hs ck.clos ck.kind ck.names
    (comp_run (RR := fun acc C => compPost (model X.prog X.w) X.A X.xe (some (assign (.Name y py) X.env)) (fun _ s' => SP X pins D .next s') acc C) hc ck hi hg ht he I h fun Dd C s' hh => ?_)) (fun _ s' hq => wpAny_pure (wpAny_pure hq)) fun _ _ e => e)
  obtain ⟨H', ⟨m, hm⟩, hI, hF, q⟩ := hh
  show wpAny _ X.A (assign (.Name y py) X.env (.ref Dd)) _ _ _
  refine wpAny_assign_Name (store_ok2 hI hN hiy (.inl hy) (v := .ref Dd) rfl (fun s2 I2 hsb => ?_) (.inr hy))
  obtain ⟨a, sb, ha⟩ := hsb
  have hCa : C ≠ a := by
    rcases ha with z | z
    · rw [z]; exact hF.2.1
    · exact Ne.symm (hF.2.2.2.2.1 y a z)
  refine ⟨m, hm.sameBut sb hCa, fun h' hs' => ⟨_, H', I2.off hF hs', q⟩⟩
end
end L2

set_option Elab.async false
set_option linter.all false
set_option maxRecDepth 100000
set_option maxHeartbeats 2000000
namespace L2
open PySem PySem.Spec PyProof.Rows
/-- one turn -/
abbrev CompT (nl : Nat) (fr : List Nat) (g : TG) (tt : TT) (te : TE) (σ : St) (D : Addr) (Pv : Nat → List V → Hp → Prop) (i : Nat) (ys : List V) (x : V) (H : Hp) : Prop :=
  g x (σC nl fr σ) H fun σ2 H4 => σ2.length = (σC nl fr σ).length ∧ (∀ (i : Nat) v, (σC nl fr σ)[i]? = some (some v) → σ2[i]? = some (some v)) ∧
    tt σ2 H4 fun b H5 => if b = true then te σ2 H5 fun y H6 => H6 D = some (.lst ys) ∧ ys.length < sizeLine ∧ Pv (i + 1) (ys ++ [y]) (upd H6 D (.lst (ys ++ [y]))) else Pv (i + 1) ys H5
/-- the names' readings are monotone in what is wanted -/
structure Mono (g : TG) (tt : TT) (te : TE) : Prop where
  g : ∀ x σ H Q Q', (∀ σ' H', Q σ' H' → Q' σ' H') → g x σ H Q → g x σ H Q'
  t : ∀ σ H Q Q', (∀ b H', Q b H' → Q' b H') → tt σ H Q → tt σ H Q'
  e : ∀ σ H Q Q', (∀ v H', Q v H' → Q' v H') → te σ H Q → te σ H Q'
section
variable {nl : Nat} {fr : List Nat} {g : TG} {tt : TT} {te : TE} {σ : St} {D : Addr} {H1 : Hp} {Q : VK}
theorem comp_range {lo : Int} {n : Nat} (Pv : Nat → List V → Hp → Prop) (h0 : Pv 0 [] (upd H1 D (.lst []))) (hl : ∀ i ys H, Pv i ys H → H D = some (.lst ys))
    (hs : ∀ i ys H, i < n → Pv i ys H → ∀ (C : Nat → List V → Hp → Prop), (∀ ys H, Pv (i + 1) ys H → C (i + 1) ys H) → CompT nl fr g tt te σ D C i ys (.int (lo + i)) H) (hd : ∀ ys H, Pv n ys H → Q (.ref D) H) :
    CompW (Itr lo n) nl fr g tt te σ D H1 Q := by
  refine ⟨fun i m ys H => m = n - i ∧ i ≤ n ∧ Pv i ys H, ⟨n, by simp, Nat.zero_le _, h0⟩, ?_⟩
  rintro i m ys H ⟨rfl, hi, p⟩
  refine ⟨hl i ys H p, ?_⟩
  by_cases hlt : i < n
  · refine .inr ⟨hlt, fun x H' y => ?_⟩
    obtain ⟨e, y⟩ := y
    subst e y
    exact hs i ys _ hlt p (fun j zs Hz => ∃ m', m' < n - i ∧ m' = n - j ∧ j ≤ n ∧ Pv j zs Hz) fun zs Hz z => ⟨n - (i + 1), by omega, rfl, hlt, z⟩
  · have e : i = n := by omega
    subst e
    exact .inl ⟨Nat.le_refl _, hd ys H p⟩
theorem comp_list {K : PySem.W.Frag} {a : Addr} {xs : List V} (Pv : Nat → List V → Hp → Prop) (h0 : Pv 0 [] (upd H1 D (.lst []))) (hl : ∀ i ys H, Pv i ys H → H D = some (.lst ys)) (hx : ∀ i ys H, i ≤ xs.length → Pv i ys H → SqL K H a xs)
    (hs : ∀ i ys x H, xs[i]? = some x → Pv i ys H → ∀ (C : Nat → List V → Hp → Prop), (∀ ys H, Pv (i + 1) ys H → C (i + 1) ys H) → CompT nl fr g tt te σ D C i ys x H) (hd : ∀ ys H, Pv xs.length ys H → Q (.ref D) H) :
    CompW (Itl K a) nl fr g tt te σ D H1 Q := by
  refine ⟨fun i m ys H => m = xs.length - i ∧ i ≤ xs.length ∧ Pv i ys H, ⟨xs.length, by simp, Nat.zero_le _, h0⟩, ?_⟩
  rintro i m ys H ⟨rfl, hi, p⟩
  refine ⟨hl i ys H p, ?_⟩
  have q := hx i ys H hi p
  by_cases hlt : i < xs.length
  · refine .inr ⟨⟨xs, xs[i], q, by simp [hlt]⟩, fun x H' y => ?_⟩
    obtain ⟨e, y⟩ := y
    subst e
    exact hs i ys x _ (y xs q) p (fun j zs Hz => ∃ m', m' < xs.length - i ∧ m' = xs.length - j ∧ j ≤ xs.length ∧ Pv j zs Hz) fun zs Hz z => ⟨xs.length - (i + 1), by omega, rfl, hlt, z⟩
  · have e : i = xs.length := by omega
    subst e
    exact .inl ⟨⟨xs, q, Nat.le_refl _⟩, hd ys H p⟩
end
/-- a block with one name of its own: the others are as they were -/
theorem keep1 {fr : List Nat} {σ : St} {x : V} : ((σC 1 fr σ).set 0 (some x)).length = (σC 1 fr σ).length ∧ ∀ (i : Nat) v, (σC 1 fr σ)[i]? = some (some v) → ((σC 1 fr σ).set 0 (some x))[i]? = some (some v) := by
  refine ⟨by simp, fun i v h => ?_⟩
  match i with
  | 0 => unfold σC at h; simp at h
  | k + 1 => rw [List.getElem?_set_ne (by omega)]; exact h
/-- a check of what a block's scope has -/
theorem has_of {names : List (Str × NameKind)} {cl : List (Str × Addr)} (h : names.all (fun y => !(y.2 == .cell || y.2 == .free) || (cl.lookup y.1).isSome) = true) (x : Str) (hx : names.lookup x = some .cell ∨ names.lookup x = some .free) : ∃ c, cl.lookup x = some c := by
  have key : ∀ k, (k = NameKind.cell ∨ k = NameKind.free) → names.lookup x = some k → ∃ c, cl.lookup x = some c := fun k hk e => by
    have m := List.all_eq_true.mp h _ (PySem.mem_of_lookup e)
    have : (k == NameKind.cell || k == NameKind.free) = true := by rcases hk with rfl | rfl <;> rfl
    simp only [this, Bool.not_true, Bool.false_or] at m
    exact Option.isSome_iff_exists.mp m
  rcases hx with e | e
  · exact key _ (.inl rfl) e
  · exact key _ (.inr rfl) e
end L2

set_option Elab.async false
set_option linter.all false
set_option maxRecDepth 100000
set_option maxHeartbeats 2000000
namespace L2
open PySem PySem.Spec PyProof.Rows
/-! ### for a, b in zip(xs, ys) -/
section
variable {X : Cx} {pins : List (Addr × Obj)} {σ : St} {H : Hp} {s : Shared} {h' : Heap}
theorem Inv.turnedL {t' : Nat} {fp : List Addr} (I : Inv X pins σ H s) (k : ∀ b o, b ∉ fp → s.heap.get? b = some o → h'.get? b = some o) (hf : ∀ b ∈ fp, FpOk X pins H b) : Inv X pins σ H { s with heap := h', toks := t' } := by
  have nit : ∀ b u, H b = some u → b ∉ fp := fun b u e z => by rw [(hf b z).1] at e; cases e
  have nL : X.env.locals ∉ fp := fun z => (hf _ z).2.1 rfl
  refine I.step (g' := s.gens) (d' := s.drawn) (ch := fp) (fun b hb => ?_) (fun b o _ _ hc e _ => k b o hc e) (fun b o _ _ hc e _ => ⟨o.slots, k b o hc e⟩) (fun _ _ _ _ n => n)
    (fun b o hc e => ⟨o, k b o hc e⟩) (fun _ _ e => e) (fun _ _ _ e => e) (fun b ps e => ⟨#[], by rw [e]; simp⟩) (fun m hm => ?_) (fun b u e => ?_) I.bare
  · obtain ⟨f0, f1, f2, f3, f4, f5⟩ := hf b hb
    exact ⟨f3, f1, f4, f5⟩
  · obtain ⟨o, es, ep, ho, r⟩ := hm
    exact ⟨o, es, ep, k _ o nL ho, r⟩
  · refine (I.hok b u e).stay (fun c v hc q => k c v ?_ q) (fun _ q => q) fun _ _ q => q
    rcases hc with z | z
    · rw [z]; exact nit b u e
    · exact nit c _ z
end
/-- the pairs of two lists, each a new tuple -/
def Itz (K : PySem.W.Frag) (a b : Addr) : It :=
  ⟨fun i H => ∃ xs ys x y, SqL K H a xs ∧ SqL K H b ys ∧ xs[i]? = some x ∧ ys[i]? = some y,
   fun i H v H' => ∃ T x y, v = .ref T ∧ H T = none ∧ H' = upd H T (.tup [x, y]) ∧ ∀ xs ys, SqL K H a xs → SqL K H b ys → xs[i]? = some x ∧ ys[i]? = some y,
   fun i H => ∃ xs ys, SqL K H a xs ∧ SqL K H b ys ∧ (xs.length ≤ i ∨ ys.length ≤ i)⟩
def ZipTn (z TI TO i1 i2 l1 l2 : Addr) (i : Nat) (h : Heap) : Prop :=
  ZipApart z TI TO i1 i2 l1 l2 ∧ IsZip h z TI TO .none ∧ IsPair h TI (.ref i1) (.ref i2) ∧ (∃ a b, IsPair h TO a b) ∧ h.IsListIter i1 l1 i ∧ h.IsListIter i2 l2 i
theorem turn_zip {P : Program} {w : World} {K : PySem.W.Frag} {elts : List Expr} {kk : Nat} {tpos : Pos} (z TI TO i1 i2 l1 l2 : Addr) :
    Turn P w K (.Tuple elts kk tpos) (Itz K l1 l2) [z, TI, TO, i1, i2] z (ZipTn z TI TO i1 i2 l1 l2) where
  mem := by simp
  obj := fun i h st b hb => by
    obtain ⟨ap, hz, hi, ⟨a, c, ho⟩, ⟨o1, e1, c1, d1⟩, ⟨o2, e2, c2, d2⟩⟩ := st
    simp only [List.mem_cons, List.not_mem_nil, or_false] at hb
    rcases hb with rfl | rfl | rfl | rfl | rfl
    · exact ⟨_, hz, fun v q => by cases q⟩
    · exact ⟨_, hi, fun v q => by cases q⟩
    · exact ⟨_, ho, fun v q => by cases q⟩
    · exact ⟨o1, e1, fun v q => by rw [d1] at q; cases q⟩
    · exact ⟨o2, e2, fun v q => by rw [d2] at q; cases q⟩
  keep := fun i h h' st k => by
    obtain ⟨ap, hz, hi, ⟨a, c, ho⟩, ⟨o1, e1, c1, d1⟩, ⟨o2, e2, c2, d2⟩⟩ := st
    exact ⟨ap, k _ (by simp) _ hz, k _ (by simp) _ hi, ⟨a, c, k _ (by simp) _ ho⟩, ⟨o1, k _ (by simp) _ e1, c1, d1⟩, ⟨o2, k _ (by simp) _ e2, c2, d2⟩⟩
  item := by
    intro X hP hw hK hc i pins s σ H E I hf st hg
    subst hP hw hK
    obtain ⟨ap, hz, hi, ⟨a, c, ho⟩, t1, t2⟩ := st
    obtain ⟨xs, ys, x, y, hx, hy, ex, ey⟩ := hg
    obtain ⟨its1, rv1, p1, z1⟩ := I.list hx
    obtain ⟨its2, rv2, p2, z2⟩ := I.list hy
    obtain ⟨u1, hu1, ru1⟩ := rv1.get ex
    obtain ⟨u2, hu2, ru2⟩ := rv2.get ey
    refine wpAny_pyNext_zip_item ap hz hi ho t1 t2 p1.isList p2.isList (x := u1) (y := u2) (by simpa using hu1) (by simpa using hu2) fun h' g1 g2 g3 g4 g5 g6 kk' => ?_
    have hn : H s.heap.objs.size = none := I.hok.fresh (Nat.le_refl _)
    have lt : ∀ b ∈ [z, TI, TO, i1, i2], b < s.heap.objs.size := fun b hb => by
      simp only [List.mem_cons, List.not_mem_nil, or_false] at hb
      obtain ⟨o1, e1, _⟩ := t1
      obtain ⟨o2, e2, _⟩ := t2
      rcases hb with rfl | rfl | rfl | rfl | rfl
      · exact Heap.lt_size hz
      · exact Heap.lt_size hi
      · exact Heap.lt_size ho
      · exact Heap.lt_size e1
      · exact Heap.lt_size e2
    have I1 : Inv X pins σ (upd H s.heap.objs.size (.tup [x, y])) { s with heap := s.heap.push { cls := .type "tuple", data := .seq #[u1, u2] } } :=
      I.laid (t' := s.toks) (fun b o e => Heap.get?_push_of_some _ e) (Nat.le_refl _) (show ObjOk X.prog X.w _ _ _ (.tup [x, y]) from ⟨by show 2 ≤ sizeLine; decide, [u1, u2], .cons ru1 (.cons ru2 .nil), IsTup.new _ _⟩)
    have hf1 : ∀ b ∈ [z, TI, TO, i1, i2], FpOk X pins (upd H s.heap.objs.size (.tup [x, y])) b := fun b hb => ⟨by rw [upd_ne (Nat.ne_of_lt (lt b hb))]; exact (hf b hb).1, (hf b hb).2⟩
    have k1 : ∀ b o, b ∉ [z, TI, TO, i1, i2] → (s.heap.push { cls := .type "tuple", data := .seq #[u1, u2] }).get? b = some o → h'.get? b = some o := fun b o nb e => by
      simp only [List.mem_cons, List.not_mem_nil, or_false, not_or] at nb
      by_cases hb : b = s.heap.objs.size
      · subst hb
        rw [Heap.get?_push_size _ rfl] at e
        cases e
        exact g5
      · have e0 : s.heap.get? b = some o := by rw [Heap.get?_push_ne _ _ _ hb] at e; exact e
        exact kk' b o nb.1 nb.2.2.1 nb.2.2.2.1 nb.2.2.2.2 e0
    have I2 : Inv X pins σ (upd H s.heap.objs.size (.tup [x, y])) { s with heap := h', toks := s.toks } := I1.turnedL (t' := s.toks) k1 hf1
    refine ⟨_, rfl, wpAny_letOwnedTupleGo_zip (s := { s with heap := h' }) g1 fun h2 q1 q2 => ?_⟩
    have kz : ∀ b o, b ≠ z → h'.get? b = some o → h2.get? b = some o := fun b o nb e => (q2.2 b nb).trans e
    have I3 : Inv X pins σ (upd H s.heap.objs.size (.tup [x, y])) { s with heap := h2, toks := s.toks } := Inv.turnedL (s := { s with heap := h', toks := s.toks }) (t' := s.toks) (fp := [z]) I2 (fun b o nb e => kz b o (by simpa using nb) e) fun b hb => hf1 b (by simp at hb; simp [hb])
    have hTI : h'.get? TI = some { cls := .type "tuple", data := .seq #[.ref i1, .ref i2] } := kk' TI _ ap.TIz ap.TITO ap.TIi1 ap.TIi2 hi
    obtain ⟨o3, e3, c3, d3⟩ := g3
    obtain ⟨o4, e4, c4, d4⟩ := g4
    refine ⟨.ref s.heap.objs.size, _, I3, rfl, ⟨_, x, y, rfl, hn, rfl, fun xs' ys' h1 h2 => ?_⟩, ⟨ap, q1, kz _ _ ap.TIz hTI, ⟨_, _, kz _ _ ap.TOz g2⟩, ⟨o3, kz _ _ ap.i1z e3, c3, d3⟩, ⟨o4, kz _ _ ap.i2z e4, c4, d4⟩⟩, fun b hb => (hf1 b hb).1⟩
    rw [I.list_inj h1 hx, I.list_inj h2 hy]
    exact ⟨ex, ey⟩
  done := by
    intro X hP hw hK hc i pins s σ H E I hf st hg
    subst hP hw hK
    obtain ⟨ap, hz, hi, ⟨a, c, ho⟩, t1, t2⟩ := st
    obtain ⟨xs, ys, hx, hy, hor⟩ := hg
    obtain ⟨its1, rv1, p1, z1⟩ := I.list hx
    obtain ⟨its2, rv2, p2, z2⟩ := I.list hy
    have l1' := rv1.length
    have l2' := rv2.length
    refine wpAny_pyNext_zip_end (I.ok.hd hc) ap hz hi ho t1 t2 p1.isList p2.isList (by rcases hor with h | h; left; simp; omega; right; simp; omega) fun h' kk' => ⟨rfl, ?_⟩
    refine I.turnedL (t' := s.toks) (fun b o nb e => ?_) hf
    simp only [List.mem_cons, List.not_mem_nil, or_false, not_or] at nb
    exact kk' b o nb.1 nb.2.2.1 nb.2.2.2.1 nb.2.2.2.2 e
  self := fun A i s Q E st h => by
    obtain ⟨ap, hz, hi, ⟨a, c, ho⟩, t1, t2⟩ := st
    exact wpAny_pyIter_zip hz h
section
variable {X : Cx}
def iZip (K : PySem.W.Frag) (ta : TA) : TI := fun σ H R => ta σ H fun vs H1 => ∃ a b, vs = [.ref a, .ref b] ∧ (∃ xs, SqL K H1 a xs) ∧ (∃ ys, SqL K H1 b ys) ∧ R (Itz K a b) H1
theorem pi_zip {e1 e2 : Expr} {ta : TA} {p pos : Pos} {elts : List Expr} {kk : Nat} {tpos : Pos} (hg : Gl X "zip") (hm : X.mg "zip" = none) (hv : bootBuiltins "zip" = some (.type "zip")) (ha : PA X [e1, e2] ta)
    (hs : starEach [e1, e2] X.env = (false, eval e1 X.env) :: starEach [e2] X.env := by rfl) (hpl : (backTo pos (starEach [e2] X.env)).any (·.1) = false := by rfl) : PI X (.Tuple elts kk tpos) (.Call (.Name "zip" p) [e1, e2] [] pos) (iZip X.K ta) := by
  intro pins s σ H R I h
  refine Call_ (ld_blt I hg hm hv (PyProof.Rows.callWith_type1 (thn (ha pos pins s σ H _ I h) fun us s1 ⟨vs, H1, I1, r1, q1⟩ => ?_) hs hpl))
  obtain ⟨a, b, rfl, ⟨xs, hx⟩, ⟨ys, hy⟩, q⟩ := q1
  obtain ⟨u, w', rfl, ra, rb⟩ := vals2 r1
  cases (show u = Value.ref a from ra)
  cases (show w' = Value.ref b from rb)
  obtain ⟨its1, rv1, p1, z1⟩ := I1.list hx
  obtain ⟨its2, rv2, p2, z2⟩ := I1.list hy
  have la : a < s1.heap.objs.size := by obtain ⟨o, e, _⟩ := p1.isList; exact Heap.lt_size e
  have lb : b < s1.heap.objs.size := by obtain ⟨o, e, _⟩ := p2.isList; exact Heap.lt_size e
  refine call_zip_2 p1.isList p2.isList fun h' g1 g2 g3 g4 g5 g6 kk' => ?_
  refine wpAny_pyIter_zip g1 ?_
  have ne : ∀ i j : Nat, i ≠ j → s1.heap.objs.size + i ≠ s1.heap.objs.size + j := fun i j n e => n (Nat.add_left_cancel e)
  have nl : ∀ (c : Addr) (i : Nat), c < s1.heap.objs.size → c ≠ s1.heap.objs.size + i := fun c i l e => absurd (Nat.lt_of_lt_of_le l (Nat.le_add_right _ i)) (by rw [← e]; exact Nat.lt_irrefl _)
  have n0 : ∀ j : Nat, j ≠ 0 → s1.heap.objs.size + j ≠ s1.heap.objs.size := fun j n e => n (Nat.add_left_cancel (e.trans (Nat.add_zero _).symm))
  refine ⟨s1.heap.objs.size + 4, [s1.heap.objs.size + 4, s1.heap.objs.size + 2, s1.heap.objs.size + 3, s1.heap.objs.size, s1.heap.objs.size + 1], _, Itz X.K a b, H1, rfl, I1.kept (t' := s1.toks) kk', turn_zip _ _ _ _ _ a b, ⟨?_, g1, g2, ⟨_, _, g3⟩, g4, g5⟩, fun c hc => ?_, q⟩
  · exact ⟨ne 2 4 (by decide), ne 3 4 (by decide), (n0 4 (by decide)).symm, ne 1 4 (by decide), ne 2 3 (by decide), n0 2 (by decide), ne 2 1 (by decide), n0 3 (by decide), ne 3 1 (by decide), (n0 1 (by decide)).symm,
      nl a 4 la, nl a 3 la, Nat.ne_of_lt la, nl a 1 la, nl b 4 lb, nl b 3 lb, Nat.ne_of_lt lb, nl b 1 lb⟩
  · have hle : s1.heap.objs.size ≤ c := by
      simp only [List.mem_cons, List.not_mem_nil, or_false] at hc
      rcases hc with rfl | rfl | rfl | rfl | rfl <;> first | exact Nat.le_add_right _ _ | exact Nat.le_refl _
    exact I1.fpOk hle (I1.hok.fresh hle)
/-- a walk over two lists that stay, the tuples forgotten -/
theorem for_zip {K : PySem.W.Frag} {a b : Addr} {xs ys : List V} {g : TG} {tb : TS} {D : Ends} {σ : St} {H : Hp} (Pv : Nat → St → Hp → Prop) (h0 : Pv 0 σ H) (hl : ∀ i σ H, i ≤ min xs.length ys.length → Pv i σ H → SqL K H a xs ∧ SqL K H b ys)
    (hs : ∀ i x y σ H T, xs[i]? = some x → ys[i]? = some y → Pv i σ H → H T = none → g (.ref T) σ (upd H T (.tup [x, y])) fun σ2 H2 => tb { D with nx := Pv (i + 1), ct := Pv (i + 1), bk := D.nx } σ2 H2) (hd : ∀ σ H, Pv (min xs.length ys.length) σ H → D.nx σ H) :
    ∃ W : Nat → Nat → St → Hp → Prop, (∃ m, W 0 m σ H) ∧ ∀ i m σ H, W i m σ H →
      ((Itz K a b).stop i H ∧ D.nx σ H) ∨ ((Itz K a b).go i H ∧ ∃ N : St → Hp → Prop, (∀ σ' H', N σ' H' → ∃ m', m' < m ∧ W (i + 1) m' σ' H') ∧ ∀ x H', (Itz K a b).yld i H x H' → g x σ H' fun σ2 H2 => tb { D with nx := N, ct := N, bk := D.nx } σ2 H2) := by
  refine ⟨fun i m σ H => m = min xs.length ys.length - i ∧ i ≤ min xs.length ys.length ∧ Pv i σ H, ⟨_, rfl, Nat.zero_le _, h0⟩, ?_⟩
  rintro i m σ H ⟨rfl, hi, p⟩
  obtain ⟨qx, qy⟩ := hl i σ H hi p
  by_cases hlt : i < min xs.length ys.length
  · have hx : i < xs.length := by omega
    have hy : i < ys.length := by omega
    refine .inr ⟨⟨xs, ys, xs[i], ys[i], qx, qy, by simp [hx], by simp [hy]⟩, Pv (i + 1), fun σ' H' p' => ⟨min xs.length ys.length - (i + 1), by omega, rfl, hlt, p'⟩, fun v H' z => ?_⟩
    obtain ⟨T, x, y, rfl, hT, rfl, hh⟩ := z
    obtain ⟨ex, ey⟩ := hh xs ys qx qy
    exact hs i x y σ H T ex ey p hT
  · have e : i = min xs.length ys.length := by omega
    subst e
    exact .inl ⟨⟨xs, ys, qx, qy, by omega⟩, hd σ H p⟩
theorem comp_zip {K : PySem.W.Frag} {a b : Addr} {xs ys : List V} {nl : Nat} {fr : List Nat} {g : TG} {tt : TT} {te : TE} {σ : St} {D : Addr} {H1 : Hp} {Q : VK} (Pv : Nat → List V → Hp → Prop) (h0 : Pv 0 [] (upd H1 D (.lst []))) (hl : ∀ i zs H, Pv i zs H → H D = some (.lst zs)) (hx : ∀ i zs H, i ≤ min xs.length ys.length → Pv i zs H → SqL K H a xs ∧ SqL K H b ys)
    (hs : ∀ i zs x y H T, xs[i]? = some x → ys[i]? = some y → Pv i zs H → H T = none → ∀ (C : Nat → List V → Hp → Prop), (∀ zs H, Pv (i + 1) zs H → C (i + 1) zs H) → CompT nl fr g tt te σ D C i zs (.ref T) (upd H T (.tup [x, y]))) (hd : ∀ zs H, Pv (min xs.length ys.length) zs H → Q (.ref D) H) :
    CompW (Itz K a b) nl fr g tt te σ D H1 Q := by
  refine ⟨fun i m zs H => m = min xs.length ys.length - i ∧ i ≤ min xs.length ys.length ∧ Pv i zs H, ⟨_, rfl, Nat.zero_le _, h0⟩, ?_⟩
  rintro i m zs H ⟨rfl, hi, p⟩
  refine ⟨hl i zs H p, ?_⟩
  obtain ⟨qx, qy⟩ := hx i zs H hi p
  by_cases hlt : i < min xs.length ys.length
  · have hx' : i < xs.length := by omega
    have hy' : i < ys.length := by omega
    refine .inr ⟨⟨xs, ys, xs[i], ys[i], qx, qy, by simp [hx'], by simp [hy']⟩, fun v H' z => ?_⟩
    obtain ⟨T, x, y, rfl, hT, rfl, hh⟩ := z
    obtain ⟨ex, ey⟩ := hh xs ys qx qy
    exact hs i zs x y H T ex ey p hT (fun j zs Hz => ∃ m', m' < min xs.length ys.length - i ∧ m' = min xs.length ys.length - j ∧ j ≤ min xs.length ys.length ∧ Pv j zs Hz) fun zs Hz z => ⟨min xs.length ys.length - (i + 1), by omega, rfl, hlt, z⟩
  · have e : i = min xs.length ys.length := by omega
    subst e
    exact .inl ⟨⟨xs, ys, qx, qy, by omega⟩, hd zs H p⟩
end
end L2

set_option Elab.async false
set_option linter.all false
set_option maxRecDepth 100000
set_option maxHeartbeats 2000000
namespace L2
open PySem PySem.Spec PyProof.Rows
section
variable {X : Cx}
/-- xs.insert(k, y), 0 ≤ k ≤ len -/
def rInsert : V → List V → Hp → VK → Prop := fun x vs H Q => ∃ (l : Addr) (xs : List V) (k : Nat) (i : Int) (y : V), x = .ref l ∧ vs = [.int i, y] ∧ i = (k : Int) ∧ k ≤ xs.length ∧ H l = some (.lst xs) ∧ xs.length < sizeLine ∧ Q .non (upd H l (.lst (xs.take k ++ y :: xs.drop k)))
end
end L2

set_option Elab.async false
set_option linter.all false
set_option maxRecDepth 100000
set_option maxHeartbeats 2000000
namespace L2
open PySem PySem.Spec PyProof.Rows
/-! ### isinstance of what is read: tracked, frozen, or an object of the module -/
inductive TyQ (K : PySem.W.Frag) (H : Hp) : V → Value → Prop where
  | of {x : V} {t : Value} (h : TyOf K H x t) : TyQ K H x t
  | tup {a : Addr} {xs : List V} (h : SqT K H a xs) : TyQ K H (.ref a) (.type "tuple")
  | lst {a : Addr} {xs : List V} (h : SqL K H a xs) : TyQ K H (.ref a) (.type "list")
section
variable {X : Cx} {pins : List (Addr × Obj)} {σ : St} {H : Hp} {s : Shared} {A : Around} {E : Value → Shared → Prop} {Q : Value → Shared → Prop} {c : Value} {b : Bool}
theorem isinst_okQ {x : V} {u t : Value} (I : Inv X pins σ H s) (rx : RelV x u) (ty : TyQ X.K H x t) (e : PySem.W.kitOne X.K t c = some b) (h : ∀ tk, Q (.bool b) { s with toks := tk }) :
    wpAny (model X.prog X.w) A (call (.builtin "isinstance") [u, c]) Q E s := by
  cases ty with
  | of ty => exact isinst_ok I rx ty e h
  | @tup a xs ht =>
    cases (show u = Value.ref a from rx)
    obtain ⟨its, _, p, _⟩ := I.tuple ht
    obtain ⟨o, h1, h2, _⟩ := p
    exact PySem.W.kia_one PySem.W.kitx_tuple I.kIn ⟨o, h1, h2⟩ e (fun z => nomatch z) h
  | @lst a xs ht =>
    cases (show u = Value.ref a from rx)
    obtain ⟨its, _, p, _⟩ := I.list ht
    obtain ⟨o, h1, h2, _⟩ := p.isList
    exact PySem.W.kia_one PySem.W.kitx_list I.kIn ⟨_, h1, h2⟩ e (fun z => nomatch z) h
end
section
variable {X : Cx}
theorem call_isiQ : CallR X (.builtin "isinstance") (fun xs H Q => ∃ x n t b, xs = [x, .ty n] ∧ TyQ X.K H x t ∧ PySem.W.kitOne X.K t (.type n) = some b ∧ Q (.bl b) H) := by
  intro pins s σ H vs us Q I rv h
  obtain ⟨x, n, t, b, rfl, ty, e, q⟩ := h
  obtain ⟨u, u2, rfl, r1, r2⟩ := vals2 rv
  cases (show u2 = Value.type n from r2)
  exact isinst_okQ I r1 ty e fun tk => ⟨.bl b, H, I.tok tk, rfl, q⟩
/-- isinstance(name in slot i, T) -/
theorem pe_isiQ {i : Nat} {x T : Str} {T' : String} {p1 p2 p3 pos : Pos} (hN : X.N[i]? = some x) (hv : Vis X.env.scope x) (b : X.mg "isinstance" = none) (b2 : X.mg T = none) (g1 : Gl X "isinstance") (g2 : Gl X T) (hT : bootBuiltins T = some (.type T'))
    (hd : (x == ("__debug__" : Str)) = false := by decide) (hcd : (x == ("__classdict__" : Str)) = false := by decide) (hTn : T ≠ "__name__" := by decide) (hTd : (T == ("__debug__" : Str)) = false := by decide)
    (he : starEach [.Name x p2, .Name T p3] X.env = (false, eval (.Name x p2) X.env) :: starEach [.Name T p3] X.env := by rfl)
    (he2 : starEach [.Name T p3] X.env = (false, eval (.Name T p3) X.env) :: starEach [] X.env := by rfl) (hpl : (backTo pos (starEach [.Name T p3] X.env)).any (·.1) = false := by rfl) :
    PE X (.Call (.Name "isinstance" p1) [.Name x p2, .Name T p3] [] pos) (fun σ H Q => ∃ v t b, σ[i]? = some (some v) ∧ TyQ X.K H v t ∧ PySem.W.kitOne X.K t (.type T') = some b ∧ Q (.bl b) H) := by
  have h := pe_callB (X := X) (pos := pos) (p := p1) call_isiQ g1 b PyProof.Rows.boot_isinstance (pa_cons (pe_var (i := i) (pos := p2) hN hv hd hcd) (pa_cons (pe_bltn (v := .ty T') (pos := p3) g2 b2 hT rfl hTn hTd) pa_nil he2) he) (by decide) (by decide) he hpl
  intro pins s σ H Q I q
  obtain ⟨v, t, bb, h1, h2, h3, h4⟩ := q
  exact h pins s σ H Q I ⟨v, h1, v, T', t, bb, rfl, h2, h3, h4⟩
end
/-! ### lists that stay while another one changes -/
theorem SqL.upd {K : PySem.W.Frag} {H : Hp} {a l : Addr} {xs : List V} {o : HO} (h : SqL K H a xs) (ne : a ≠ l) : SqL K (L2.upd H l o) a xs := by
  rcases h with (h | ⟨u, h⟩) | h
  · exact .inl (.inl (by rw [upd_ne ne]; exact h))
  · exact .inl (.inr ⟨u, by rw [upd_ne ne]; exact h⟩)
  · exact .inr h
theorem SqT.upd {K : PySem.W.Frag} {H : Hp} {a l : Addr} {xs ys : List V} {o : HO} (h : SqT K H a xs) (hl : H l = some (.lst ys)) : SqT K (L2.upd H l o) a xs := by
  rcases h with (h | ⟨u, h⟩) | h
  · exact .inl (.inl (by rw [upd_ne (ne_of h hl (fun z => by cases z))]; exact h))
  · exact .inl (.inr ⟨u, by rw [upd_ne (ne_of h hl (fun z => by cases z))]; exact h⟩)
  · exact .inr h
/-! ### ints as data -/
theorem cut_ints (ns : List Int) (lo hi : Option Int) : ∃ ms : List Int, cutV (ns.map V.int) lo hi = ms.map V.int ∧ ms.length ≤ ns.length := by
  refine ⟨(ns.drop (HT.sIx (ns.map V.int).length 0 lo)).take (HT.sIx (ns.map V.int).length (ns.map V.int).length hi - HT.sIx (ns.map V.int).length 0 lo), ?_, ?_⟩
  · unfold cutV; rw [List.map_take, List.map_drop]
  · rw [List.length_take, List.length_drop]; omega
/-- a block with two names of its own -/
theorem keep2 {fr : List Nat} {σ : St} {x y : V} : (((σC 2 fr σ).set 0 (some x)).set 1 (some y)).length = (σC 2 fr σ).length ∧ ∀ (i : Nat) v, (σC 2 fr σ)[i]? = some (some v) → (((σC 2 fr σ).set 0 (some x)).set 1 (some y))[i]? = some (some v) := by
  refine ⟨by simp, fun i v h => ?_⟩
  match i with
  | 0 => unfold σC at h; simp at h
  | 1 => unfold σC at h; simp at h
  | k + 2 => rw [List.getElem?_set_ne (by omega), List.getElem?_set_ne (by omega)]; exact h
theorem Fqs.set {K : PySem.W.Frag} {H : Hp} {a : Addr} {p : Mq.Q2} (h : Fq K H a p) : ∀ {xs : List V} {ps : List Mq.Q2} (i : Nat), Fqs K H xs ps → Fqs K H (xs.set i (.ref a)) (ps.set i p)
  | _, _, _, .nil => .nil
  | _, _, 0, .cons _ q => .cons h q
  | _, _, i + 1, .cons g q => .cons g (Fqs.set h i q)
theorem Fqs.at {K : PySem.W.Frag} {H : Hp} : ∀ {xs : List V} {ps : List Mq.Q2} {i : Nat} {p : Mq.Q2}, Fqs K H xs ps → ps[i]? = some p → ∃ a, xs[i]? = some (.ref a) ∧ Fq K H a p
  | _, _, _, _, .nil, h => by simp at h
  | _, _, 0, _, .cons h _, e => by simp at e; subst e; exact ⟨_, rfl, h⟩
  | _, _, i + 1, _, .cons _ q, e => by simpa using Fqs.at q (by simpa using e)
theorem B_of {n : Nat} {i : Int} (lo : -(2 ^ n : Int) < i) (hi : i < 2 ^ n) : Mq.B n i := by
  unfold Mq.B
  have e : ((2 ^ n : Nat) : Int) = 2 ^ n := by simp
  omega
theorem ixN_nat {n k : Nat} (h : k < n) : ixN n (k : Int) = some k := by
  unfold ixN
  rw [if_pos (by omega), if_pos (by omega)]
  simp
end L2

set_option Elab.async false
set_option linter.all false
set_option maxRecDepth 100000
set_option maxHeartbeats 2000000
namespace L2
open PySem PySem.Spec PyProof.Rows
/-! ### texts -/
section
variable {X : Cx} {tg : Expr}
/-- str of an int of any size that the limit lets through -/
def rStrI : List V → Hp → VK → Prop := fun xs H Q => ∃ i n, xs = [.int i] ∧ Bt n i ∧ n ≤ 12900 ∧ Q (.str (Str.ofString (toString i))) H
def CPowB (i j : Int) : Prop := 0 ≤ j ∧ ∃ n, Bt n i ∧ n * j.toNat ≤ 2 ^ 27
/-- int(text) -/
def rIntT : List V → Hp → VK → Prop := fun xs H Q => ∃ x n, xs = [.str x] ∧ intText? x = some n ∧ x.length ≤ 640 ∧ Q (.int n) H
/-- x.partition(y) -/
def rPart : V → List V → Hp → VK → Prop := fun x vs H Q => ∃ a b, x = .str a ∧ vs = [.str b] ∧ b.length ≠ 0 ∧ a.length ≤ sizeLine ∧
  ∀ p, H p = none → Q (.ref p) (upd H p (.tup [.str (Txt.partition a b).1, .str (Txt.partition a b).2.1, .str (Txt.partition a b).2.2]))
/-- x[lo:hi] of a text -/
def rSlS : V → Option Int → Option Int → Hp → VK → Prop := fun x lo hi H Q => ∃ a, x = .str a ∧ a.length ≤ sizeLine ∧ Q (.str (Txt.slice a lo hi)) H
/-- the signs of a text -/
def Its (x : Str) : It := ⟨fun i _ => i < x.cps.size, fun i H v H' => H' = H ∧ ∃ c, x.cps[i]? = some c ∧ v = .str ⟨#[c]⟩, fun i _ => x.cps.size ≤ i⟩
def iStr (tl : TE) : TI := fun σ H R => tl σ H fun x H1 => ∃ a, x = .str a ∧ R (Its a) H1
/-- all(list of truths) -/
def rAll (K : PySem.W.Frag) : List V → Hp → VK → Prop := fun xs H Q => ∃ (p : Addr) (bs : List Bool), xs = [.ref p] ∧ SqL K H p (bs.map V.bl) ∧ Q (.bl (bs.all id)) H
theorem call_all (hc : X.calm = true) : CallR X (.builtin "all") (rAll X.K) := by
  intro pins s σ H xs us Q I r h
  obtain ⟨p, bs, rfl, hq, q⟩ := h
  obtain ⟨u, rfl, rx⟩ := vals1 r
  cases rx
  obtain ⟨its, rv, pl, hz⟩ := I.list hq
  have hlen : its.toArray.size = bs.length := by rw [List.size_toArray, ← rv.length, List.length_map]
  have hne : p ≠ s.heap.objs.size := by
    obtain ⟨o, e, _⟩ := pl.isList
    exact Nat.ne_of_lt (Heap.lt_size e)
  refine call_all_walk (wpAny_pyIter_list pl.isList ?_)
  refine ⟨s.heap.objs.size, _, _, _, _, _, fun i => bs.getD i false, rfl, Walks.list (by exact I.ok.hd hc) s.heap.objs.size p hne its.toArray, ⟨⟨_, Heap.get?_push_size _ rfl, rfl, rfl⟩, ?_⟩, ?_, ?_⟩
  · obtain ⟨o, e, c⟩ := pl.isList
    exact ⟨o, Heap.get?_push_of_some _ e, c⟩
  · intro i v s' Q' E' hv q'
    have hv' : its[i]? = some v := by simpa using hv
    have hi : i < its.length := (List.getElem?_eq_some_iff.mp hv').1
    have hb : (bs.map V.bl)[i]? = some (.bl (bs.getD i false)) := by
      rw [List.getElem?_map, List.getElem?_eq_getElem (by rw [← hlen]; simpa using hi)]
      simp [List.getD, List.getElem?_eq_getElem (show i < bs.length by rw [← hlen]; simpa using hi)]
    obtain ⟨u, hu, ru⟩ := rv.get hb
    have e : u = v := by rw [hv'] at hu; cases hu; rfl
    subst e
    cases ru
    exact wpAny_truthy_bool q'
  · intro h' tk kk
    have e : (List.range its.toArray.size).all (fun i => bs.getD i false) = bs.all id := by
      rw [hlen, Bool.eq_iff_iff, List.all_eq_true, List.all_eq_true]
      constructor
      · intro z b hb
        obtain ⟨i, hi, rfl⟩ := List.getElem_of_mem hb
        have := z i (List.mem_range.mpr hi)
        simpa [List.getD, List.getElem?_eq_getElem hi] using this
      · intro z i hi
        have hi' := List.mem_range.mp hi
        have := z bs[i] (List.getElem_mem hi')
        simpa [List.getD, List.getElem?_eq_getElem hi'] using this
    rw [e]
    refine ⟨.bl _, H, I.kept (t' := tk) fun b o hb => ?_, rfl, q⟩
    have hb2 : b ≠ s.heap.objs.size := Nat.ne_of_lt (Heap.lt_size hb)
    exact kk b o (by simpa using hb2) (Heap.get?_push_of_some _ hb)
end
end L2

set_option maxHeartbeats 1000000
namespace Mq
/-! streams led round -/
def neg (p : Q2) : Q2 := (-p.1, p.2)
/-- way 1 or -1 -/
def Way (w : Int) : Prop := w = 1 ∨ w = -1
def addAt (ps : List Q2) (k : Nat) (a : Q2) : List Q2 := ps.set k (plus (ps.getD k (0, 1)) a)
def AllLow (ps : List Q2) : Prop := ∀ p ∈ ps, Low p
def ledS (am : Q2) (ps : List Q2) (r : Q2) : List Q2 := addAt ps r.1.toNat (times (r.2, 1) am)
def led (ps rg : List Q2) (am : Q2) : List Q2 := rg.foldl (ledS am) ps
def RingOk (n : Nat) (rg : List Q2) : Prop := ∀ r ∈ rg, 0 ≤ r.1 ∧ r.1 < n ∧ Way r.2
end Mq

set_option Elab.async false
set_option linter.all false
namespace L2
open PySem PySem.Spec PyProof.Rows
/-- total, told by a module's own nought where there is nothing -/
def spTotF (K : PySem.W.Frag) : Sp := fun vs H Q _ => ∃ (a : Addr) (xs : List V) (ps : List Mq.Q2) (n : Nat), vs = [.ref a] ∧ SqL K H a xs ∧ Fqs K H xs ps ∧ Mq.Pos ps ∧ (∀ p ∈ ps, Mq.Bd n p) ∧ n + 1 + (1 + (n + 1) * ps.length) ≤ 9000 ∧ ∀ r H', Same H H' → Fq K H' r (Mq.tot ps) → Q (.ref r) H'
theorem Fq.modT {K : PySem.W.Frag} {a : Addr} {d : Option Addr} {n : Nat} {sl : Array (Option Value)} {i j : Int} {t u : Tok} (l : K.lookup a = some ⟨.type "tuple", d, .seq #[.int i t, .int j u] n, sl⟩) (H : Hp) : Fq K H a (i, j) :=
  .inr ⟨_, _, _, l, rfl, rfl, (by show 2 ≤ sizeLine; decide), .cons ⟨_, rfl⟩ (.cons ⟨_, rfl⟩ .nil)⟩
end L2

set_option linter.all false
namespace Mq
/-! the worth of a pair, as a rational number -/
def val (p : Q2) : Rat := (p.1 : Rat) / (p.2 : Rat)
theorem cast_ne {b : Int} (h : b ≠ 0) : (b : Rat) ≠ 0 := fun e => h (Rat.intCast_inj.mp (by simpa using e))
theorem val_eq_div {p : Q2} {t b : Int} (hp : p.2 ≠ 0) (hb : b ≠ 0) (h : p.1 * b = t * p.2) : val p = (t : Rat) / (b : Rat) := by
  unfold val
  have h1 := cast_ne hp
  have h2 := cast_ne hb
  have h3 : (p.1 : Rat) * (b : Rat) = (t : Rat) * (p.2 : Rat) := by rw [← Rat.intCast_mul, ← Rat.intCast_mul, h]
  grind
theorem val_red {t b : Int} (hb : b ≠ 0) : val (red t b) = (t : Rat) / (b : Rat) := by
  have := (red_low (t := t) hb).pos
  exact val_eq_div (by omega) hb (red_cross hb)
theorem low_ext {p q : Q2} (hp : Low p) (hq : Low q) (h : val p = val q) : p = q := by
  refine low_same hp hq ?_
  have p1 := cast_ne (show p.2 ≠ 0 by have := hp.pos; omega)
  have q1 := cast_ne (show q.2 ≠ 0 by have := hq.pos; omega)
  unfold val at h
  have : (p.1 : Rat) * (q.2 : Rat) = (q.1 : Rat) * (p.2 : Rat) := by grind
  rw [← Rat.intCast_mul, ← Rat.intCast_mul] at this
  exact Rat.intCast_inj.mp this
theorem val_plus {p q : Q2} (hp : 1 ≤ p.2) (hq : 1 ≤ q.2) : val (plus p q) = val p + val q := by
  have p1 := cast_ne (show p.2 ≠ 0 by omega)
  have q1 := cast_ne (show q.2 ≠ 0 by omega)
  unfold plus
  rw [val_red (mul_ne hp hq), Rat.intCast_add, Rat.intCast_mul, Rat.intCast_mul, Rat.intCast_mul]
  unfold val
  grind
theorem val01 : val (0, 1) = 0 := by unfold val; simp; grind
/-- positive fractions -/
structure Ps (p : Q2) : Prop where
  low : Low p
  pos : 0 < p.1
/-- the sum of numbers -/
def rsum : List Rat → Rat
  | [] => 0
  | x :: l => x + rsum l
theorem val_foldl : ∀ {l : List Q2} {p : Q2}, 1 ≤ p.2 → Pos l → val (l.foldl plus p) = val p + rsum (l.map val)
  | [], p, _, _ => by simp [rsum]; grind
  | q :: l, p, hp, h => by
    have hq := h q (by simp)
    rw [List.foldl_cons, val_foldl (plus_low hp hq).pos (fun f hf => h f (List.mem_cons_of_mem _ hf)), val_plus hp hq]
    simp only [List.map_cons, rsum]
    grind
theorem val_tot {l : List Q2} (h : Pos l) : val (tot l) = rsum (l.map val) := by
  unfold tot
  rw [val_foldl (by decide) h, val01]
  grind
/-- sums over the first numbers -/
def rs (n : Nat) (F : Nat → Rat) : Rat := match n with
  | 0 => 0
  | n + 1 => rs n F + F n
theorem rs_congr {n : Nat} {F G : Nat → Rat} (h : ∀ i, i < n → F i = G i) : rs n F = rs n G := by
  induction n with
  | zero => rfl
  | succ n ih => simp only [rs]; rw [ih (fun i hi => h i (by omega)), h n (by omega)]
theorem rs_add (n : Nat) (F G : Nat → Rat) : rs n (fun i => F i + G i) = rs n F + rs n G := by
  induction n with
  | zero => simp [rs]; grind
  | succ n ih => simp only [rs]; rw [ih]; grind
theorem rs_mul (n : Nat) (c : Rat) (F : Nat → Rat) : rs n (fun i => c * F i) = c * rs n F := by
  induction n with
  | zero => simp [rs]
  | succ n ih => simp only [rs]; rw [ih]; grind
theorem rs_neg (n : Nat) (F : Nat → Rat) : rs n (fun i => - F i) = - rs n F := by
  induction n with
  | zero => simp [rs]
  | succ n ih => simp only [rs]; rw [ih]; grind
theorem rs_zero (n : Nat) : rs n (fun _ => 0) = 0 := by
  induction n with
  | zero => rfl
  | succ n ih => simp only [rs]; rw [ih]; grind
end Mq

set_option linter.all false
namespace Mq
/-! stars and meshes -/
abbrev z0 : Q2 := (0, 1)
def inv (p : Q2) : Q2 := (p.2, p.1)
def most (ls : List Q2) : Q2 := tot (ls.map inv)
def drawn (ls hs : List Q2) : Q2 := tot (List.zipWith over hs ls)
def middle (ls hs : List Q2) : Q2 := over (drawn ls hs) (most ls)
def intoLegs (ls hs : List Q2) : List Q2 := List.zipWith (fun h l => over (minus h (middle ls hs)) l) hs ls
abbrev Row := Nat × Nat × Q2
def stepM (hs sent : List Q2) (r : Row) : List Q2 :=
  let f := over (minus (hs.getD r.1 z0) (hs.getD r.2.1 z0)) r.2.2
  let s1 := sent.set r.1 (tot [sent.getD r.1 z0, f])
  s1.set r.2.1 (minus (s1.getD r.2.1 z0) f)
def intoMesh (ms : List Row) (hs : List Q2) : List Q2 := ms.foldl (stepM hs) (List.replicate hs.length z0)
structure RowOk (n c : Nat) (r : Row) : Prop where
  i : r.1 < n
  j : r.2.1 < n
  ne : r.1 ≠ r.2.1
  ps : Ps r.2.2
  bd : Bd c r.2.2
def flow (hs : List Q2) (r : Row) : Q2 := over (minus (hs.getD r.1 z0) (hs.getD r.2.1 z0)) r.2.2
theorem getD_bd {hs : List Q2} {m : Nat} (h1 : 1 ≤ m) (h : ∀ p ∈ hs, Bd m p) (k : Nat) : Bd m (hs.getD k z0) := by
  rw [List.getD_eq_getElem?_getD]
  cases e : hs[k]? with
  | none => exact Bd.mono (n := 1) ⟨show (0 : Nat) < 2 ^ 1 by decide, show (1 : Nat) < 2 ^ 1 by decide⟩ h1
  | some v => exact h v (List.mem_of_getElem? e)
def sg (k : Nat) (r : Row) (x : Rat) : Rat := if k = r.1 then x else if k = r.2.1 then -x else 0
/-- the sums over pairs -/
def A (n : Nat) (c : Nat → Nat → Rat) : Rat := rs n fun i => rs (n - (i + 1)) fun t => c i (i + 1 + t)
/-- the mesh of a star -/
def shares (ls : List Q2) : Q2 := tot (ls.map (over (1, 1)))
def meshRow (ls : List Q2) (i t : Nat) : Row := (i, i + 1 + t, times (times (ls.getD i z0) (ls.getD (i + 1 + t) z0)) (shares ls))
def meshRows (ls : List Q2) (i : Nat) : List Row := (List.range (ls.length - (i + 1))).map (meshRow ls i)
def meshUpTo (ls : List Q2) (k : Nat) : List Row := (List.range k).flatMap (meshRows ls)
def meshOf (ls : List Q2) : List Row := meshUpTo ls ls.length
def AllPs (ls : List Q2) : Prop := ∀ p ∈ ls, Ps p
theorem AllLow.pos {ls : List Q2} (h : AllLow ls) : Pos ls := fun p hp => (h p hp).pos
/-! the star of a mesh of three -/
def starOf (a b c : Q2) : List Q2 := [over (times c a) (tot [a, b, c]), over (times a b) (tot [a, b, c]), over (times b c) (tot [a, b, c])]
def tri (a b c : Q2) : List Row := [(0, 1, a), (1, 2, b), (2, 0, c)]
end Mq

set_option Elab.async false
set_option linter.all false
set_option maxRecDepth 100000
namespace L2
open PySem PySem.Spec PyProof.Rows

/-! ### lists of pairs as tables -/
section
variable {κ : Type} [DecidableEq κ]
def valV (kvs : List (κ × V)) (k : κ) : Option V := (kvs.find? fun kv => decide (kv.1 = k)).map (·.2)
/-- in its place, or at the end -/
def putK (kvs : List (κ × V)) (k : κ) (v : V) : List (κ × V) :=
  if (kvs.any fun kv => decide (kv.1 = k)) = true then kvs.map (fun kv => if kv.1 = k then (kv.1, v) else kv) else kvs ++ [(k, v)]
def dropK (kvs : List (κ × V)) (k : κ) : List (κ × V) := kvs.filter fun kv => decide (kv.1 ≠ k)

theorem valV_pos {p : κ × V} {r : List (κ × V)} {k : κ} (e : p.1 = k) : valV (p :: r) k = some p.2 := by simp [valV, List.find?_cons, e]
theorem valV_neg {p : κ × V} {r : List (κ × V)} {k : κ} (e : ¬ p.1 = k) : valV (p :: r) k = valV r k := by simp [valV, List.find?_cons, e]
theorem length_putK (kvs : List (κ × V)) (k : κ) (v : V) : (putK kvs k v).length ≤ kvs.length + 1 := by
  unfold putK
  split
  · rw [List.length_map]; omega
  · rw [List.length_append, List.length_cons, List.length_nil]; omega
/-- raw tables of the same keys -/
theorem KV.val {kvs : List (κ × V)} {vs : List (κ × Value)} (r : KV kvs vs) (k : κ) : RelO (valV kvs k) (valueAt vs k) := by
  unfold KV at r
  induction r with
  | nil => exact True.intro
  | @cons p q ps qs h t ih =>
    obtain ⟨h1, h2⟩ := h
    by_cases e : p.1 = k
    · have e' : q.1 = k := h1.symm.trans e
      have b : valueAt (q :: qs) k = some q.2 := by simp [valueAt, List.find?_cons, e']
      rw [valV_pos e, b]; exact h2
    · have e' : ¬ q.1 = k := fun z => e (h1.trans z)
      have b : valueAt (q :: qs) k = valueAt qs k := by simp [valueAt, List.find?_cons, e']
      rw [valV_neg e, b]; exact ih
theorem KV.any {kvs : List (κ × V)} {vs : List (κ × Value)} (r : KV kvs vs) (k : κ) : (kvs.any fun kv => decide (kv.1 = k)) = vs.any fun kv => decide (kv.1 = k) := by
  unfold KV at r
  induction r with
  | nil => rfl
  | cons h t ih => rw [List.any_cons, List.any_cons, ih, h.1]
theorem KV.repl {kvs : List (κ × V)} {vs : List (κ × Value)} (r : KV kvs vs) (k : κ) {y : V} {u : Value} (ry : RelV y u) :
    KV (kvs.map fun kv => if kv.1 = k then (kv.1, y) else kv) (vs.map fun kv => if kv.1 = k then (kv.1, u) else kv) := by
  unfold KV at r ⊢
  induction r with
  | nil => exact .nil
  | @cons p q ps qs h t ih =>
    rw [List.map_cons, List.map_cons]
    refine .cons ?_ ih
    obtain ⟨h1, h2⟩ := h
    by_cases e : p.1 = k
    · rw [if_pos e, if_pos (h1.symm.trans e)]; exact ⟨h1, ry⟩
    · rw [if_neg e, if_neg (fun z => e (h1.trans z))]; exact ⟨h1, h2⟩
theorem KV.put {kvs : List (κ × V)} {vs : List (κ × Value)} (r : KV kvs vs) (k : κ) {y : V} {u : Value} (ry : RelV y u) : KV (putK kvs k y) (stored vs k u) := by
  unfold putK stored
  rw [r.any k]
  by_cases e : (vs.any fun kv => decide (kv.1 = k)) = true
  · rw [if_pos e, if_pos e]; exact r.repl k ry
  · rw [if_neg e, if_neg e]; exact Paired.snoc r ⟨rfl, ry⟩
end


/-! ### a tracked dict, its keys ints and texts or tuples of these -/
theorem kV_is {P : Program} {w : World} {k : Key} {u : Value} (r : RelV (kV k) u) : (mixKind P w).is k u = true := by
  cases k with
  | inl i => obtain ⟨t, e⟩ := (show ∃ t, u = Value.int i t from r); subst e; exact mixKind_int P w i t
  | inr x => obtain ⟨t, e⟩ := (show ∃ t, u = Value.str x t from r); subst e; exact mixKind_str P w x t
theorem items_are {P : Program} {w : World} : ∀ {ks : List Key} {us : List Value}, Vals (ks.map kV) us → ItemsAre (mixKind P w) ks us
  | [], _, r => by rw [List.map_nil] at r; cases r; exact .nil
  | k :: ks, _, r => by
    rw [List.map_cons] at r
    cases r with
    | cons h t => exact .cons (kV_is h) (items_are t)

/-- raw entries of a dict with tuple keys -/
abbrev KT (H : Hp) : List (List Key × V) → List (List Key × Addr × Value) → Prop := Paired fun p q => p.1 = q.1 ∧ H q.2.1 = some (.tup (p.1.map kV)) ∧ RelV p.2 q.2.2
theorem KT.val {H : Hp} {kvs : List (List Key × V)} {xs : List (List Key × Addr × Value)} (r : KT H kvs xs) (k : List Key) : RelO (valV kvs k) ((atKey xs k).map (·.2)) := by
  induction r with
  | nil => exact True.intro
  | @cons p q ps qs h t ih =>
    obtain ⟨h1, _, h2⟩ := h
    by_cases e : p.1 = k
    · have e' : q.1 = k := h1.symm.trans e
      have b : atKey (q :: qs) k = some q.2 := by simp [atKey, List.find?_cons, e']
      rw [valV_pos e, b]; exact h2
    · have e' : ¬ q.1 = k := fun z => e (h1.trans z)
      have b : atKey (q :: qs) k = atKey qs k := by simp [atKey, List.find?_cons, e']
      rw [valV_neg e, b]; exact ih
section
variable {P : Program} {w : World} {H : Hp} {h : Heap} {a : Addr}
theorem rd_of {u : HO} (ok : HOk P w H h) (e : Rd H a u) : ObjOk P w H h a u := e.ok ok
theorem dk_rd {kvs : List (Key × V)} (ok : HOk P w H h) (e : Rd H a (.dK kvs)) : kvs.length ≤ sizeLine ∧ (a == sysModules) = false ∧ ∃ vs, KV kvs vs ∧ h.DictOf (mixKind P w) a vs :=
  show ObjOk P w H h a (.dK kvs) from rd_of ok e
theorem dk_of {kvs : List (Key × V)} (ok : HOk P w H h) (e : H a = some (.dK kvs)) : kvs.length ≤ sizeLine ∧ (a == sysModules) = false ∧ ∃ vs, KV kvs vs ∧ h.DictOf (mixKind P w) a vs := dk_rd ok (.inl e)
/-- a tracked tuple of ints and texts is a key -/
theorem key_of {ks : List Key} (ok : HOk P w H h) (e : H a = some (.tup (ks.map kV))) : (tupleKind (mixKind P w)).is h ks a := by
  obtain ⟨_, its, r, o, h1, h2, n, h3⟩ := (show ObjOk P w H h a (.tup (ks.map kV)) from ok a _ e)
  exact ⟨o, its.toArray, n, h1, h2, h3, by simpa using items_are r⟩
theorem dt_rd {kvs : List (List Key × V)} (ok : HOk P w H h) (e : Rd H a (.dT kvs)) : kvs.length ≤ sizeLine ∧ (a == sysModules) = false ∧
    ∃ xs, KT H kvs xs ∧ h.DictOfH (tupleKind (mixKind P w)) a xs := by
  obtain ⟨z, y, xs, r, o, es, ep, h1, h2, h3, h4, h5⟩ := (show ObjOk P w H h a (.dT kvs) from rd_of ok e)
  refine ⟨z, y, xs, r, o, es, ep, h1, h2, h3, h4, fun x hx => ?_, h5⟩
  have all : ∀ {l : List (List Key × V)} {m : List (List Key × Addr × Value)}, KT H l m → ∀ x ∈ m, (tupleKind (mixKind P w)).is h x.1 x.2.1 := by
    intro l m q
    induction q with
    | nil => intro x hx; exact nomatch hx
    | @cons p q ps qs hq t ih =>
      intro x hx
      rcases List.mem_cons.mp hx with e | hx
      · subst e
        exact key_of ok (by rw [← hq.1]; exact hq.2.1)
      · exact ih x hx
  exact all r x hx
end

/-- what the dict at a holds at the key y -/
def DGet (H : Hp) (a : Addr) (y : V) (r : Option V) : Prop :=
  (∃ kvs k, Rd H a (.dK kvs) ∧ y = kV k ∧ r = valV kvs k) ∨ ∃ kvs k b, Rd H a (.dT kvs) ∧ y = .ref b ∧ H b = some (.tup (k.map kV)) ∧ r = valV kvs k
/-- the heap behind a[y] = v -/
def DPut (H : Hp) (a : Addr) (y v : V) (H' : Hp) : Prop :=
  (∃ kvs k, H a = some (.dK kvs) ∧ y = kV k ∧ kvs.length < sizeLine ∧ H' = upd H a (.dK (putK kvs k v))) ∨
  ∃ kvs k b, H a = some (.dT kvs) ∧ y = .ref b ∧ H b = some (.tup (k.map kV)) ∧ kvs.length < sizeLine ∧ H' = upd H a (.dT (putK kvs k v))
theorem DGet.k {H : Hp} {a : Addr} {kvs : List (Key × V)} {k : Key} (e : H a = some (.dK kvs)) : DGet H a (kV k) (valV kvs k) := .inl ⟨kvs, k, .inl e, rfl, rfl⟩
section
variable {X : Cx} {pins : List (Addr × Obj)} {σ : St} {H : Hp} {s : Shared} {a : Addr} {y v : V} {u r : Value} {o : Option V} {A : Around} {E : Value → Shared → Prop}

theorem Inv.big (I : Inv X pins σ H s) : sysModules < s.heap.objs.size := by
  have h : mainGlobals < s.heap.objs.size := (I.mod.glob.keeps I.bk).lt
  exact Nat.lt_trans (by decide) h

/-- d[y], there -/
theorem d_getItem {Q : Value → Shared → Prop} (hu : A.units + 1 < cLine) (I : Inv X pins σ H s) (g : DGet H a y (some v)) (ry : RelV y u) (h : ∀ w' s', Inv X pins σ H s' → RelV v w' → Q w' s') :
    wpAny (model X.prog X.w) A (getItem (.ref a) u) Q E s := by
  rcases g with ⟨kvs, k, e, ey, l⟩ | ⟨kvs, k, b, e, ey, eb, l⟩
  · subst ey
    obtain ⟨z, hd, vs, rel, dd⟩ := dk_rd I.hok e
    obtain ⟨w', hw, rw'⟩ := RelO.some_of (v := v) (o := valueAt vs k) (by rw [l]; exact rel.val k)
    exact wpAny_getItem_of (kV_is ry) dd.mapOf hw (h w' _ (I.tok _) rw')
  · subst ey
    cases (show u = Value.ref b from ry)
    obtain ⟨z, hd, xs, rel, dd⟩ := dt_rd I.hok e
    obtain ⟨w', hw, rw'⟩ := RelO.some_of (v := v) (o := (atKey xs k).map (·.2)) (by rw [l]; exact rel.val k)
    obtain ⟨p, hp, hp2⟩ := Option.map_eq_some_iff.mp hw
    refine wpAny_getItem_heap (tupleKind_room_in1 hu) (key_of I.hok eb) dd hp ?_
    rw [hp2]
    exact h w' _ (I.tok _) rw'
/-- a dict's object is replaced -/
theorem d_write {h' : Heap} {t' : Nat} {ob : HO} (I : Inv X pins σ H s) (mu : Mut (H a)) (hs : Heap.SameBut a s.heap h') (he : ∃ q, h'.get? a = some q) (new : ObjOk X.prog X.w (upd H a ob) h' a ob) :
    Inv X pins σ (upd H a ob) { s with heap := h', toks := t' } :=
  I.write (x := a) (e := a) mu (.inl rfl) (fun b q hb z => (hs.2 b hb).trans z) he new
theorem dk_new {P : Program} {w : World} {H' : Hp} {h' : Heap} {kvs : List (Key × V)} {vs : List (Key × Value)} (z : kvs.length ≤ sizeLine) (hd : (a == sysModules) = false) (rel : KV kvs vs) (dd : h'.DictOf (mixKind P w) a vs) :
    ObjOk P w H' h' a (.dK kvs) := ⟨z, hd, vs, rel, dd⟩
end

section
variable {X : Cx} {pins : List (Addr × Obj)} {σ : St} {H : Hp} {s : Shared} {a : Addr} {kvs : List (Key × V)} {k : Key} {u : Value} {A : Around} {E : Value → Shared → Prop}
end


/-! ### readings and rules -/
/-- the element of a subscription, not a slice -/
def NoSl (i : Expr) : Prop := ∀ ov iv, subscripted i false ov iv = operate [ov, iv] (getItem ov iv)
theorem subD_of {prog : Program} {w : World} {A : Around} {E : Value → Shared → Prop} {s : Shared} {env : Env} {value slice : Expr} {pos : Pos} {T id : String} {Q : Value → Shared → Prop}
    (hl : typeLookup (.type T) "__getitem__" = pure (some (.builtin id))) (hs : NoSl slice)
    (h : wpAny (model prog w) A (eval value env) (fun o s₁ => wpAny (model prog w) A (eval slice env) (fun i s₂ => s₂.TypeIs o T ∧ wpAny (model prog w) A (getItem o i) Q E s₂) E s₁) E s) :
    wpAny (model prog w) A (eval (.Subscript value slice pos) env) Q E s := by
  refine Subscript_ (wpAny_mono h (fun o s₁ h₁ => wpAny_mono h₁ (fun i s₂ h₂ => ?_) fun _ _ x => x) fun _ _ x => x)
  obtain ⟨hT, h₂⟩ := h₂
  unfold subscriptTail
  refine wpAny_bind ?_
  rw [getitemInPython_of_ne hT.not_modules]
  refine wpAny_bind (wpAny_specialOf hT hl ?_)
  have fin : wpAny (model prog w) A (subscripted slice false o i) (fun r s₃ => wpAny (model prog w) A (letTemporaryGo value o r >>= fun _ => pure r) Q E s₃) E s₂ := by
    rw [hs o i]
    exact wpAny_operating (wpAny_mono h₂ (fun r s₃ h₃ => wpAny_bind (wpAny_letTemporaryGo (wpAny_pure h₃))) fun _ _ x => x)
  first
    | exact wpAny_pure (wpAny_bind fin)
    | exact wpAny_bind (wpAny_pure (wpAny_bind fin))
    | exact wpAny_bind fin

theorem dict_typeIs {X : Cx} {pins : List (Addr × Obj)} {σ : St} {H : Hp} {s : Shared} {a : Addr} {y : V} {o : Option V} (I : Inv X pins σ H s) (g : DGet H a y o) : s.TypeIs (.ref a) "dict" := by
  rcases g with ⟨kvs, k, e, _, _⟩ | ⟨kvs, k, b, e, _, _, _⟩
  · obtain ⟨_, _, vs, _, dd⟩ := dk_rd I.hok e
    exact dd.typeIs
  · obtain ⟨_, _, xs, _, dd⟩ := dt_rd I.hok e
    exact dd.typeIs
/-- d[y] -/
def tDGet (td ty : TE) : TE := fun σ H Q => td σ H fun x H1 => ty σ H1 fun y H2 => ∃ a v, x = .ref a ∧ DGet H2 a y (some v) ∧ Q v H2
/-- y in d, y not in d -/
def tDIn (ty td : TE) : TE := fun σ H Q => ty σ H fun y H1 => td σ H1 fun x H2 => ∃ a o, x = .ref a ∧ DGet H2 a y o ∧ Q (.bl o.isSome) H2
def tDNotIn (ty td : TE) : TE := fun σ H Q => ty σ H fun y H1 => td σ H1 fun x H2 => ∃ a o, x = .ref a ∧ DGet H2 a y o ∧ Q (.bl (!o.isSome)) H2
/-- d[y] = v -/
def sDPut (td ty tv : TE) : TS := fun D σ H => tv σ H fun v H1 => td σ H1 fun x H2 => ty σ H2 fun y H3 => ∃ a H4, x = .ref a ∧ DPut H3 a y v H4 ∧ D.nx σ H4
/-- d[y] op= v -/
def sDAug (td ty tv : TE) (rd : V → V → Hp → VK → Prop) : TS := fun D σ H => td σ H fun x H1 => ty σ H1 fun y H2 => ∃ a v, x = .ref a ∧ DGet H2 a y (some v) ∧
  tv σ H2 fun y2 H3 => rd v y2 H3 fun z H4 => ∃ H5, DPut H4 a y z H5 ∧ D.nx σ H5
/-- del d[y] -/
def sDDel (td ty : TE) : TS := fun D σ H => td σ H fun x H1 => ty σ H1 fun y H2 => ∃ a kvs k, x = .ref a ∧ H2 a = some (.dK kvs) ∧ y = kV k ∧ (valV kvs k).isSome = true ∧ D.nx σ (upd H2 a (.dK (dropK kvs k)))

section
variable {X : Cx} {o i e value : Expr} {pos pos' tpos : Pos} {td ty tv : TE}
theorem pe_dget (hu : X.A.units + 1 < cLine) (ho : PE X o td) (hi : PE X i ty) (hs : NoSl i) : PE X (.Subscript o i pos) (tDGet td ty) := by
  intro pins s σ H Q I h
  refine subD_of PySem.F.slot_dict_getitem.lookup hs (thn (ho pins s σ H _ I h) fun u s1 ⟨x, H1, I1, rx, q1⟩ => thn (hi pins s1 σ H1 _ I1 q1) fun iv s2 ⟨y, H2, I2, ry, a, v, ex, g, q2⟩ => ?_)
  subst ex
  obtain rfl : u = Value.ref a := rx
  exact ⟨dict_typeIs I2 g, d_getItem hu I2 g ry fun w' s3 I3 rw' => ⟨v, H2, I3, rw', q2⟩⟩
end


/-! ### displays -/
theorem dk_empty {P : Program} {w : World} {H : Hp} (h : Heap) (hb : sysModules < h.objs.size) : ObjOk P w H (h.push { cls := .type "dict", data := .dict #[] }) h.objs.size (.dK []) :=
  ⟨Nat.zero_le _, beq_eq_false_iff_ne.mpr (Ne.symm (Nat.ne_of_lt hb)), [], .nil, Heap.DictOf.new h⟩
/-- {}, to be a dict of the kind that is wanted -/
def tDNewK : TE := fun _ H Q => ∀ p, H p = none → Q (.ref p) (upd H p (.dK []))
def tDNewT : TE := fun _ H Q => ∀ p, H p = none → Q (.ref p) (upd H p (.dT []))
section
variable {X : Cx} {pos : Pos}
end

/-- the pairs of a display, from the left -/
def tPairs : List (TE × TE) → St → Hp → (List (V × V) → Hp → Prop) → Prop
  | [], _, H, Q => Q [] H
  | (tk, tv) :: r, σ, H, Q => tk σ H fun x H1 => tv σ H1 fun y H2 => tPairs r σ H2 fun ps H3 => Q ((x, y) :: ps) H3
abbrev VV : List (V × V) → List (Value × Value) → Prop := Paired fun p q => RelV p.1 q.1 ∧ RelV p.2 q.2
def PPs (X : Cx) (pos : Pos) (keys : List (Option Expr)) (values : List Expr) (trs : List (TE × TE)) : Prop :=
  ∀ (pins : List (Addr × Obj)) (s : Shared) (σ : St) (H : Hp) (Q : List (V × V) → Hp → Prop), Inv X pins σ H s → tPairs trs σ H Q →
    wpAny (model X.prog X.w) X.A (evalPairs (pairTrees keys values X.env pos)) (fun vs s' => ∃ ps H', Inv X pins σ H' s' ∧ VV ps vs ∧ Q ps H') X.xe s
theorem pps_nil {X : Cx} {pos : Pos} : PPs X pos [] [] [] := fun pins s σ H Q I h => pairTrees_nil_walk ⟨[], H, I, .nil, h⟩
theorem pps_cons {X : Cx} {pos : Pos} {k v : Expr} {ks : List (Option Expr)} {vs : List Expr} {tk tv : TE} {trs : List (TE × TE)} (hk : PE X k tk) (hv : PE X v tv) (hr : PPs X pos ks vs trs) :
    PPs X pos (some k :: ks) (v :: vs) ((tk, tv) :: trs) := fun pins s σ H Q I h =>
  pairTrees_cons_walk (thn (hk pins s σ H _ I h) fun u s1 ⟨x, H1, I1, rx, q1⟩ => thn (hv pins s1 σ H1 _ I1 q1) fun w2 s2 ⟨y, H2, I2, ry, q2⟩ =>
    thn (hr pins s2 σ H2 _ I2 q2) fun ws s3 ⟨ps, H3, I3, rel, q3⟩ => ⟨(x, y) :: ps, H3, I3, .cons ⟨rx, ry⟩ rel, q3⟩)

def mergeK (kvs more : List (Key × V)) : List (Key × V) := more.foldl (fun acc kv => putK acc kv.1 kv.2) kvs
theorem KV.merge : ∀ {more : List (Key × V)} {rs : List (Key × Value)} {kvs : List (Key × V)} {vs : List (Key × Value)}, KV more rs → KV kvs vs → KV (mergeK kvs more) (merged vs rs) := by
  intro more rs kvs vs r
  unfold KV at r
  induction r generalizing kvs vs with
  | nil => intro q; exact q
  | @cons p q ps qs h t ih =>
    intro r0
    have e : KV (putK kvs p.1 p.2) (stored vs q.1 q.2) := by
      have := r0.put p.1 h.2
      rw [← h.1]; exact this
    exact ih e
theorem length_mergeK : ∀ (more kvs : List (Key × V)), (mergeK kvs more).length ≤ kvs.length + more.length
  | [], kvs => by show kvs.length ≤ kvs.length + 0; omega
  | p :: r, kvs => by
    have h1 := length_mergeK r (putK kvs p.1 p.2)
    have h2 := length_putK kvs p.1 p.2
    show (mergeK (putK kvs p.1 p.2) r).length ≤ _
    rw [List.length_cons]; omega
theorem carries_of {P : Program} {w : World} : ∀ {kvs : List (Key × V)} {ws : List (Value × Value)}, VV (kvs.map fun kv => (kV kv.1, kv.2)) ws → ∃ rs, Carries (mixKind P w) ws rs ∧ KV kvs rs
  | [], _, r => by rw [List.map_nil] at r; cases r; exact ⟨[], True.intro, .nil⟩
  | p :: kvs, _, r => by
    rw [List.map_cons] at r
    cases r with
    | @cons a b as bs h t =>
      obtain ⟨rs, c, q⟩ := carries_of (P := P) (w := w) t
      obtain ⟨b1, b2⟩ := b
      exact ⟨(p.1, b2) :: rs, ⟨kV_is h.1, rfl, c⟩, .cons ⟨rfl, h.2⟩ q⟩
/-- {k: v, ..} with keys ints and texts; the new dict stands empty while the pairs are made -/
def tDisp (trs : List (TE × TE)) : TE := fun σ H Q => ∀ p, H p = none → tPairs trs σ (upd H p (.dK [])) fun ps H2 => H2 p = some (.dK []) ∧ ∃ kvs : List (Key × V), ps = kvs.map (fun kv => (kV kv.1, kv.2)) ∧ kvs.length ≤ 15 ∧ Q (.ref p) (upd H2 p (.dK (mergeK [] kvs)))
theorem pe_disp {X : Cx} {pos : Pos} {keys : List (Option Expr)} {values : List Expr} {trs : List (TE × TE)} (h : PPs X pos keys values trs) (hall : keys.all (·.isSome) = true) (hl : keys.length = values.length) (h0 : keys ≠ [])
    (h15 : keys.length ≤ 15) : PE X (.Dict keys values pos) (tDisp trs) := by
  intro pins s σ H Q I q
  have hn := I.hok.fresh (Nat.le_refl s.heap.objs.size)
  have I1 := I.laid (a := s.heap.objs.size) (o := .dK []) (h' := s.heap.push { cls := .type "dict", data := .dict #[] }) (t' := s.toks) (fun _ _ q => Heap.get?_push_of_some _ q) (Nat.le_refl _) (dk_empty s.heap I.big)
  refine wpAny_Dict_walk (knd := mixKind X.prog X.w) hall hl h0 h15 (thn (h pins _ σ _ _ I1 (q _ hn)) fun ws s2 ⟨ps, H2, I2, rel, e, kvs, ep, lk, q2⟩ => ?_)
  subst ep
  obtain ⟨rs, c, rk⟩ := carries_of (P := X.prog) (w := X.w) rel
  obtain ⟨z, hd, vs0, r0, dd⟩ := dk_of I2.hok e
  cases r0
  refine ⟨rs, c, dd, fun h' dd' hs => ⟨.ref s.heap.objs.size, _, ?_, rfl, q2⟩⟩
  have hz : (mergeK [] kvs).length ≤ sizeLine := by
    have h1 := length_mergeK kvs []
    rw [List.length_nil] at h1
    rw [sizeLine_eq]; omega
  have he : ∃ q, h'.get? s.heap.objs.size = some q := let ⟨q, _, _, hq, _⟩ := dd'; ⟨q, hq⟩
  exact d_write I2 (by rw [e]; exact True.intro) hs he (dk_new hz hd (rk.merge .nil) dd')


/-! ### methods -/
/-- a method call o.m(e) of a built-in, with one argument: what must be seen of the text -/
structure M1 (X : Cx) (o : Expr) (m : Str) (apos : Pos) (e : Expr) (cpos : Pos) : Prop where
  base : attributeBase o m X.env (eval o X.env) = eval o X.env
  few : ((backTo cpos (starEach [e] X.env)).all (fun x => !x.1) && (backToKw cpos (keywordEach [] X.env)).all (fun x => x.1.isSome)
    && decide (([e] : List Expr).length + ([] : List Keyword).length + (if ([] : List Keyword).isEmpty then 0 else 1) < 30)) = true
  line : (apos.endLine == cpos.line) = true
  trees : backTo cpos (starEach [e] X.env) = [(false, eval e X.env)]
structure M2 (X : Cx) (o : Expr) (m : Str) (apos : Pos) (e f : Expr) (cpos : Pos) : Prop where
  base : attributeBase o m X.env (eval o X.env) = eval o X.env
  few : ((backTo cpos (starEach [e, f] X.env)).all (fun x => !x.1) && (backToKw cpos (keywordEach [] X.env)).all (fun x => x.1.isSome)
    && decide (([e, f] : List Expr).length + ([] : List Keyword).length + (if ([] : List Keyword).isEmpty then 0 else 1) < 30)) = true
  line : (apos.endLine == cpos.line) = true
  trees : backTo cpos (starEach [e, f] X.env) = [(false, eval e X.env), (false, eval f X.env)]

/-- a is a dict, whatever its keys -/
def IsD (H : Hp) (a : Addr) : Prop := (∃ kvs, Rd H a (.dK kvs)) ∨ ∃ kvs, Rd H a (.dT kvs)
section
variable {X : Cx} {pins : List (Addr × Obj)} {σ : St} {H : Hp} {s : Shared} {a : Addr} {y d : V} {u r : Value} {o : Option V} {A : Around} {E : Value → Shared → Prop}
end

def tDGet1 (td ty : TE) : TE := fun σ H Q => td σ H fun x H1 => ∃ a, x = .ref a ∧ IsD H1 a ∧ ty σ H1 fun y H2 => ∃ o, DGet H2 a y o ∧ Q (o.getD .non) H2
def tDGet2 (td ty tx : TE) : TE := fun σ H Q => td σ H fun x H1 => ∃ a, x = .ref a ∧ IsD H1 a ∧ ty σ H1 fun y H2 => tx σ H2 fun z H3 => ∃ o, DGet H3 a y o ∧ Q (o.getD z) H3
/-- d.pop(k): there; d.pop(k, x): there or not -/
def tDPop1 (td ty : TE) : TE := fun σ H Q => td σ H fun x H1 => ∃ a, x = .ref a ∧ IsD H1 a ∧ ty σ H1 fun y H2 => ∃ kvs k v, H2 a = some (.dK kvs) ∧ y = kV k ∧ valV kvs k = some v ∧ Q v (upd H2 a (.dK (dropK kvs k)))
def tDPop2 (td ty tx : TE) : TE := fun σ H Q => td σ H fun x H1 => ∃ a, x = .ref a ∧ IsD H1 a ∧ ty σ H1 fun y H2 => tx σ H2 fun z H3 => ∃ kvs k, H3 a = some (.dK kvs) ∧ y = kV k ∧
  (∀ v, valV kvs k = some v → Q v (upd H3 a (.dK (dropK kvs k)))) ∧ (valV kvs k = none → Q z H3)
section
variable {X : Cx} {o e f : Expr} {apos cpos : Pos} {td ty tx : TE}
end

/-! ### dict(d): a copy -/
section
variable {X : Cx} {pins : List (Addr × Obj)} {σ : St} {H : Hp} {s : Shared} {a : Addr} {kvs : List (Key × V)} {A : Around} {E : Value → Shared → Prop}
end


section
variable {X : Cx} {pins : List (Addr × Obj)} {σ : St} {H : Hp} {s : Shared} {a : Addr} {y : V} {u : Value} {A : Around} {E : Value → Shared → Prop}
end
end L2

namespace L2
open PySem PySem.Spec PyProof.Rows
section
variable {X : Cx}
end
/-! ### a dict's pairs: keys that differ -/
section
variable {κ : Type} [DecidableEq κ]
end
end L2

set_option Elab.async false
set_option linter.all false
set_option maxRecDepth 100000
set_option maxHeartbeats 2000000
namespace L2
open PySem PySem.Spec PyProof.Rows
/-! ### for i, x in enumerate(xs) -/
def Ite (K : PySem.W.Frag) (a : Addr) : It :=
  ⟨fun i H => ∃ xs x, SqL K H a xs ∧ xs[i]? = some x,
   fun i H v H' => ∃ T x, v = .ref T ∧ H T = none ∧ H' = upd H T (.tup [.int (i : Int), x]) ∧ ∀ xs, SqL K H a xs → xs[i]? = some x,
   fun i H => ∃ xs, SqL K H a xs ∧ xs.length ≤ i⟩
def EnumTn (e it l : Addr) (i : Nat) (h : Heap) : Prop := e ≠ it ∧ (∃ old, IsEnum h e it (i : Int) old) ∧ h.IsListIter it l i
theorem turn_enum {P : Program} {w : World} {K : PySem.W.Frag} {elts : List Expr} {kk : Nat} {tpos : Pos} (e it l : Addr) :
    Turn P w K (.Tuple elts kk tpos) (Ite K l) [e, it] e (EnumTn e it l) where
  mem := by simp
  obj := fun i h st b hb => by
    obtain ⟨ne, ⟨old, he⟩, ⟨o1, e1, c1, d1⟩⟩ := st
    simp only [List.mem_cons, List.not_mem_nil, or_false] at hb
    rcases hb with rfl | rfl
    · exact ⟨_, he, fun v q => by cases q⟩
    · exact ⟨o1, e1, fun v q => by rw [d1] at q; cases q⟩
  keep := fun i h h' st k => by
    obtain ⟨ne, ⟨old, he⟩, ⟨o1, e1, c1, d1⟩⟩ := st
    exact ⟨ne, ⟨old, k _ (by simp) _ he⟩, ⟨o1, k _ (by simp) _ e1, c1, d1⟩⟩
  item := by
    intro X hP hw hK hc i pins s σ H E I hf st hg
    subst hP hw hK
    obtain ⟨ne, ⟨old, he⟩, t1⟩ := st
    obtain ⟨xs, x, hx, ex⟩ := hg
    obtain ⟨its1, rv1, p1, z1⟩ := I.list hx
    obtain ⟨u1, hu1, ru1⟩ := rv1.get ex
    refine wpAny_pyNext_enum_item he t1 p1.isList (x := u1) (by simpa using hu1) ne fun h' g1 g2 g3 g4 kk' => ?_
    have hn : H s.heap.objs.size = none := I.hok.fresh (Nat.le_refl _)
    have lt : ∀ b ∈ [e, it], b < s.heap.objs.size := fun b hb => by
      simp only [List.mem_cons, List.not_mem_nil, or_false] at hb
      obtain ⟨o1, e1, _⟩ := t1
      rcases hb with rfl | rfl
      · exact Heap.lt_size he
      · exact Heap.lt_size e1
    have I1 : Inv X pins σ (upd H s.heap.objs.size (.tup [.int (i : Int), x])) { s with heap := s.heap.push { cls := .type "tuple", data := .seq #[.int i s.toks, u1] }, toks := s.toks + 1 } :=
      I.laid (t' := s.toks + 1) (fun b o e => Heap.get?_push_of_some _ e) (Nat.le_refl _) (show ObjOk X.prog X.w _ _ _ (.tup [.int (i : Int), x]) from ⟨by show 2 ≤ sizeLine; decide, [.int i s.toks, u1], .cons ⟨_, rfl⟩ (.cons ru1 .nil), IsTup.new _ _⟩)
    have hf1 : ∀ b ∈ [e, it], FpOk X pins (upd H s.heap.objs.size (.tup [.int (i : Int), x])) b := fun b hb => ⟨by rw [upd_ne (Nat.ne_of_lt (lt b hb))]; exact (hf b hb).1, (hf b hb).2⟩
    have k1 : ∀ b o, b ∉ [e, it] → (s.heap.push { cls := .type "tuple", data := .seq #[.int i s.toks, u1] }).get? b = some o → h'.get? b = some o := fun b o nb e => by
      simp only [List.mem_cons, List.not_mem_nil, or_false, not_or] at nb
      by_cases hb : b = s.heap.objs.size
      · subst hb
        rw [Heap.get?_push_size _ rfl] at e
        cases e
        exact g3
      · have e0 : s.heap.get? b = some o := by rw [Heap.get?_push_ne _ _ _ hb] at e; exact e
        exact kk' b o nb.1 nb.2 e0
    have I2 : Inv X pins σ (upd H s.heap.objs.size (.tup [.int (i : Int), x])) { s with heap := h', toks := s.toks + 1 } := Inv.turnedL (s := { s with heap := s.heap.push { cls := .type "tuple", data := .seq #[.int i s.toks, u1] }, toks := s.toks + 1 }) (t' := s.toks + 1) I1 k1 hf1
    refine ⟨_, rfl, wpAny_letOwnedTupleGo_enum (s := { s with heap := h', toks := s.toks + 1 }) g1 fun h2 q1 q2 => ?_⟩
    have kz : ∀ b o, b ≠ e → h'.get? b = some o → h2.get? b = some o := fun b o nb e => (q2.2 b nb).trans e
    have I3 : Inv X pins σ (upd H s.heap.objs.size (.tup [.int (i : Int), x])) { s with heap := h2, toks := s.toks + 1 } := Inv.turnedL (s := { s with heap := h', toks := s.toks + 1 }) (t' := s.toks + 1) (fp := [e]) I2 (fun b o nb e => kz b o (by simpa using nb) e) fun b hb => hf1 b (by simp at hb; simp [hb])
    obtain ⟨o3, e3, c3, d3⟩ := g2
    refine ⟨.ref s.heap.objs.size, _, I3, rfl, ⟨_, x, rfl, hn, rfl, fun xs' h1 => ?_⟩, ⟨ne, ⟨_, q1⟩, ⟨o3, kz _ _ ne.symm e3, c3, d3⟩⟩, fun b hb => (hf1 b hb).1⟩
    rw [I.list_inj h1 hx]
    exact ex
  done := by
    intro X hP hw hK hc i pins s σ H E I hf st hg
    subst hP hw hK
    obtain ⟨ne, ⟨old, he⟩, t1⟩ := st
    obtain ⟨xs, hx, hor⟩ := hg
    obtain ⟨its1, rv1, p1, z1⟩ := I.list hx
    have l1' := rv1.length
    refine wpAny_pyNext_enum_end (I.ok.hd hc) he t1 p1.isList (by simp; omega) fun h' kk' => ⟨rfl, ?_⟩
    refine I.turnedL (t' := s.toks) (fun b o nb e => ?_) hf
    simp only [List.mem_cons, List.not_mem_nil, or_false, not_or] at nb
    exact kk' b o nb.2 e
  self := fun A i s Q E st h => by
    obtain ⟨ne, ⟨old, he⟩, t1⟩ := st
    exact wpAny_pyIter_enum he h
section
variable {X : Cx}
def iEnum (K : PySem.W.Frag) (ta : TA) : TI := fun σ H R => ta σ H fun vs H1 => ∃ a, vs = [.ref a] ∧ (∃ xs, SqL K H1 a xs) ∧ R (Ite K a) H1
theorem pi_enum {e1 : Expr} {ta : TA} {p pos : Pos} {elts : List Expr} {kk : Nat} {tpos : Pos} (hg : Gl X "enumerate") (hm : X.mg "enumerate" = none) (hv : bootBuiltins "enumerate" = some (.type "enumerate")) (ha : PA X [e1] ta)
    (hs : starEach [e1] X.env = (false, eval e1 X.env) :: starEach [] X.env := by rfl) (hpl : (backTo pos (starEach [] X.env)).any (·.1) = false := by rfl) : PI X (.Tuple elts kk tpos) (.Call (.Name "enumerate" p) [e1] [] pos) (iEnum X.K ta) := by
  intro pins s σ H R I h
  refine Call_ (ld_blt I hg hm hv (PyProof.Rows.callWith_type1 (thn (ha pos pins s σ H _ I h) fun us s1 ⟨vs, H1, I1, r1, q1⟩ => ?_) hs hpl))
  obtain ⟨a, rfl, ⟨xs, hx⟩, q⟩ := q1
  obtain ⟨u, rfl, ra⟩ := vals1 r1
  cases (show u = Value.ref a from ra)
  obtain ⟨its1, rv1, p1, z1⟩ := I1.list hx
  have la : a < s1.heap.objs.size := by obtain ⟨o, e, _⟩ := p1.isList; exact Heap.lt_size e
  refine call_enumerate_list p1.isList fun h' g1 g2 g3 kk' => ?_
  refine wpAny_pyIter_enum g1 ?_
  refine ⟨s1.heap.objs.size + 1, [s1.heap.objs.size + 1, s1.heap.objs.size], _, Ite X.K a, H1, rfl, I1.kept (t' := s1.toks) kk', turn_enum _ _ a, ⟨?_, ⟨_, g1⟩, g2⟩, fun c hc => ?_, q⟩
  · exact Nat.succ_ne_self _
  · have hle : s1.heap.objs.size ≤ c := by
      simp only [List.mem_cons, List.not_mem_nil, or_false] at hc
      rcases hc with rfl | rfl <;> first | exact Nat.le_add_right _ _ | exact Nat.le_refl _
    exact I1.fpOk hle (I1.hok.fresh hle)
theorem for_enum {K : PySem.W.Frag} {a : Addr} {xs : List V} {g : TG} {tb : TS} {D : Ends} {σ : St} {H : Hp} (Pv : Nat → St → Hp → Prop) (h0 : Pv 0 σ H) (hl : ∀ i σ H, i ≤ xs.length → Pv i σ H → SqL K H a xs)
    (hs : ∀ i x σ H T, xs[i]? = some x → Pv i σ H → H T = none → g (.ref T) σ (upd H T (.tup [.int (i : Int), x])) fun σ2 H2 => tb { D with nx := Pv (i + 1), ct := Pv (i + 1), bk := D.nx } σ2 H2) (hd : ∀ σ H, Pv xs.length σ H → D.nx σ H) :
    ∃ W : Nat → Nat → St → Hp → Prop, (∃ m, W 0 m σ H) ∧ ∀ i m σ H, W i m σ H →
      ((Ite K a).stop i H ∧ D.nx σ H) ∨ ((Ite K a).go i H ∧ ∃ N : St → Hp → Prop, (∀ σ' H', N σ' H' → ∃ m', m' < m ∧ W (i + 1) m' σ' H') ∧ ∀ x H', (Ite K a).yld i H x H' → g x σ H' fun σ2 H2 => tb { D with nx := N, ct := N, bk := D.nx } σ2 H2) := by
  refine ⟨fun i m σ H => m = xs.length - i ∧ i ≤ xs.length ∧ Pv i σ H, ⟨_, rfl, Nat.zero_le _, h0⟩, ?_⟩
  rintro i m σ H ⟨rfl, hi, p⟩
  have qx := hl i σ H hi p
  by_cases hlt : i < xs.length
  · refine .inr ⟨⟨xs, xs[i], qx, by simp [hlt]⟩, Pv (i + 1), fun σ' H' p' => ⟨xs.length - (i + 1), by omega, rfl, hlt, p'⟩, fun v H' z => ?_⟩
    obtain ⟨T, x, rfl, hT, rfl, hh⟩ := z
    exact hs i x σ H T (hh xs qx) p hT
  · have e : i = xs.length := by omega
    subst e
    exact .inl ⟨⟨xs, qx, Nat.le_refl _⟩, hd σ H p⟩
theorem comp_enum {K : PySem.W.Frag} {a : Addr} {xs : List V} {nl : Nat} {fr : List Nat} {g : TG} {tt : TT} {te : TE} {σ : St} {D : Addr} {H1 : Hp} {Q : VK} (Pv : Nat → List V → Hp → Prop) (h0 : Pv 0 [] (upd H1 D (.lst []))) (hl : ∀ i zs H, Pv i zs H → H D = some (.lst zs)) (hx : ∀ i zs H, i ≤ xs.length → Pv i zs H → SqL K H a xs)
    (hs : ∀ i zs x H T, xs[i]? = some x → Pv i zs H → H T = none → ∀ (C : Nat → List V → Hp → Prop), (∀ zs H, Pv (i + 1) zs H → C (i + 1) zs H) → CompT nl fr g tt te σ D C i zs (.ref T) (upd H T (.tup [.int (i : Int), x]))) (hd : ∀ zs H, Pv xs.length zs H → Q (.ref D) H) :
    CompW (Ite K a) nl fr g tt te σ D H1 Q := by
  refine ⟨fun i m zs H => m = xs.length - i ∧ i ≤ xs.length ∧ Pv i zs H, ⟨_, rfl, Nat.zero_le _, h0⟩, ?_⟩
  rintro i m zs H ⟨rfl, hi, p⟩
  refine ⟨hl i zs H p, ?_⟩
  have qx := hx i zs H hi p
  by_cases hlt : i < xs.length
  · refine .inr ⟨⟨xs, xs[i], qx, by simp [hlt]⟩, fun v H' z => ?_⟩
    obtain ⟨T, x, rfl, hT, rfl, hh⟩ := z
    exact hs i zs x H T (hh xs qx) p hT (fun j zs Hz => ∃ m', m' < xs.length - i ∧ m' = xs.length - j ∧ j ≤ xs.length ∧ Pv j zs Hz) fun zs Hz z => ⟨xs.length - (i + 1), by omega, rfl, hlt, z⟩
  · have e : i = xs.length := by omega
    subst e
    exact .inl ⟨⟨xs, qx, Nat.le_refl _⟩, hd zs H p⟩
end
end L2

set_option Elab.async false
set_option linter.all false
set_option maxRecDepth 100000
set_option maxHeartbeats 4000000
namespace Shp
open PySem L2
theorem ifT {c : Bool} {A B : Prop} (h : c = true) (x : A) : if c = true then A else B := by rw [if_pos h]; exact x
theorem ifF {c : Bool} {A B : Prop} (h : c = false) (x : B) : if c = true then A else B := by rw [if_neg (by rw [h]; decide)]; exact x
theorem ix_listK {X : Cx} {K : PySem.W.Frag} (h : X.K = K) : IxR X (rIxL K) := by subst h; exact ix_list
theorem ix_tupK {X : Cx} {K : PySem.W.Frag} (h : X.K = K) : IxR X (rIxT K) := by subst h; exact ix_tup
theorem sub_nil {ec : List (Str × Addr)} : ∀ (x : Str) (c : Addr), ([] : List (Str × Addr)).lookup x = some c → ec.lookup x = some c := fun _ _ h => by cases h
theorem sub_cons {ec cl : List (Str × Addr)} {a : Str} {d : Addr} (h : ec.lookup a = some d) (r : ∀ x c, cl.lookup x = some c → ec.lookup x = some c) : ∀ x c, ((a, d) :: cl).lookup x = some c → ec.lookup x = some c := fun x c e => by
  rw [List.lookup_cons] at e
  cases q : x == a with
  | true => rw [q] at e; rw [eq_of_beq q, h]; exact e
  | false => rw [q] at e; exact r x c e
def spIsF (K : PySem.W.Frag) : Sp := fun vs H Q _ => ∃ (a : Addr) (p : Mq.Q2), vs = [.ref a] ∧ Fq K H a p ∧ Mq.Low p ∧ Q (.bl true) H
def spPS (K : PySem.W.Frag) : Sp := fun vs H Q _ => ∃ (a : Addr) (p : Mq.Q2) (n : Nat), vs = [.ref a] ∧ Fq K H a p ∧ Mq.Low p ∧ 0 < p.1 ∧ Mq.Bd n p ∧ n ≤ 8000 ∧ Q (.bl true) H
def spDiv (K : PySem.W.Frag) : Sp := fun vs H Q _ => ∃ (a b : Addr) (p q : Mq.Q2) (n m : Nat), vs = [.ref a, .ref b] ∧ Fq K H a p ∧ Fq K H b q ∧ 1 ≤ p.2 ∧ 1 ≤ q.2 ∧ 0 < q.1 ∧ Mq.Bd n p ∧ Mq.Bd m q ∧ n + m + 1 ≤ 9000 ∧ NewF H Q (Mq.over p q)
/-- a list of positive fractions -/
structure Lg (K : PySem.W.Frag) (H : Hp) (a : Addr) (xs : List V) (ps : List Mq.Q2) (n : Nat) : Prop where
  sq : SqL K H a xs
  fs : Fqs K H xs ps
  al : Mq.AllPs ps
  ne : ps ≠ []
  bd : ∀ p ∈ ps, Mq.Bd n p
  len : ps.length ≤ 100
def spRefuse (K : PySem.W.Frag) : Sp := fun vs H Q _ => ∃ (a : Addr) (xs : List V) (ps : List Mq.Q2) (n : Nat), vs = [.ref a] ∧ Lg K H a xs ps n ∧ n ≤ 8000 ∧ ∀ H', Same H H' → Q .non H'
def spShares (K : PySem.W.Frag) : Sp := fun vs H Q _ => ∃ (a : Addr) (xs : List V) (ps : List Mq.Q2) (n : Nat), vs = [.ref a] ∧ Lg K H a xs ps n ∧ 10 + n + (n + 2) * ps.length ≤ 8000 ∧ ∀ r H', Same H H' → Fq K H' r (Mq.shares ps) → Q (.ref r) H'
def spInRow (K : PySem.W.Frag) : Sp := fun vs H Q _ => ∃ (a : Addr) (xs : List V) (ps : List Mq.Q2) (n : Nat), vs = [.ref a] ∧ Lg K H a xs ps n ∧ 10 + n + (n + 2) * ps.length ≤ 8000 ∧ ∀ r H', Same H H' → Fq K H' r (Mq.tot ps) → Q (.ref r) H'
def spSide (K : PySem.W.Frag) : Sp := fun vs H Q _ => ∃ (a : Addr) (xs : List V) (ps : List Mq.Q2) (n : Nat), vs = [.ref a] ∧ Lg K H a xs ps n ∧ 10 + n + (n + 2) * ps.length ≤ 8000 ∧ NewF H Q (Mq.over (1, 1) (Mq.shares ps))
/-- the rows of a mesh -/
inductive Mss (K : PySem.W.Frag) (H : Hp) : List V → List Mq.Row → Prop where
  | nil : Mss K H [] []
  | cons {t z : Addr} {r : Mq.Row} {xs : List V} {ms : List Mq.Row} (h : SqT K H t [.int (r.1 : Int), .int (r.2.1 : Int), .ref z]) (f : Fq K H z r.2.2) (q : Mss K H xs ms) : Mss K H (.ref t :: xs) (r :: ms)
def spMeshOf (K : PySem.W.Frag) : Sp := fun vs H Q _ => ∃ (a : Addr) (xs : List V) (ps : List Mq.Q2) (n : Nat), vs = [.ref a] ∧ Lg K H a xs ps n ∧ ps.length ≤ 10 ∧ 10 + n + n + n + (n + 2) * ps.length ≤ 8000 ∧ ∀ l zs H', Same H H' → H l = none → H' l = some (.lst zs) → Mss K H' zs (Mq.meshOf ps) → Q (.ref l) H'
def spStarOf (K : PySem.W.Frag) : Sp := fun vs H Q _ => ∃ (a : Addr) (xs : List V) (p1 p2 p3 : Mq.Q2) (n : Nat), vs = [.ref a] ∧ Lg K H a xs [p1, p2, p3] n ∧ n ≤ 1000 ∧ ∀ l zs H', Same H H' → H l = none → H' l = some (.lst zs) → Fqs K H' zs (Mq.starOf p1 p2 p3) → Q (.ref l) H'
/-- lowest terms of a top and a bottom above nought -/
def spLowP : Sp := fun vs H Q _ => ∃ (t b : Int) (n : Nat), vs = [.int t, .int b] ∧ 0 < b ∧ Mq.B n b ∧ n ≤ 9000 ∧ NewF H Q (Mq.red t b)
theorem dvr_pos {t b : Int} (h : 0 < b) : Mq.dvr t b = Mq.gc t b := by unfold Mq.dvr; rw [if_neg (by omega)]
end Shp

set_option Elab.async false
set_option linter.all false
set_option maxRecDepth 100000
set_option maxHeartbeats 2000000
namespace L2
open PySem PySem.Spec PyProof.Rows
/-! ### a comprehension whose name is read by one within it: the name lies in a cell of the block's own -/
section
variable {M : Model} {A : Around} {E : Value → Shared → Prop} {s : Shared}
theorem newEnv_comp {scope : Scope} {globals : Addr} {cl : List (Str × Addr)} {qual : Str} {env : Env} {Q : Env → Shared → Prop}
    (hQ : Q { scope := scope, locals := s.heap.objs.size, globals := globals, cells := cellsFrom (s.heap.objs.size + 1) scope.names cl, qual := qual, func := none, code := env.code, frame := env.frame, builtins := env.builtins } { s with heap := pushCells (s.heap.push { cls := .type "dict", data := .dict #[] }) scope.names }) :
    wpAny M A (newFunctionEnv scope globals cl [] qual none .none (some env)) Q E s := by
  simp only [newFunctionEnv, Option.isSome_some, if_true]
  refine wpAny_bind (wpAny_alloc ?_)
  refine wpAny_bind (wpAny_layCells _ (fun name kind cells => by cases hkc : kind == NameKind.cell <;> simp [hkc]) _ _ _ _ ?_)
  rw [show ({ s with heap := s.heap.push { cls := .type "dict", data := .dict #[] } } : Shared).heap.objs.size = s.heap.objs.size + 1 from Heap.size_push ..]
  exact wpAny_bind (wpAny_pure (wpAny_pure hQ))
end
abbrev compEnv1 (scope : Scope) (cl : List (Str × Addr)) (x0 : Str) (C : Addr) (env : Env) : Env := { compEnvC scope cl C env with cells := (x0, C + 1) :: cl }
structure CompOk1 (X : Cx) (scope : Scope) (cl : List (Str × Addr)) (x0 : Str) (Nc : List Str) (nl : Nat) (fr : List Nat) : Prop where
  clos : closureFor scope X.env = pure cl
  kind : scope.kind = .function
  names : ∀ y ∈ scope.names, y.2 = .local → scope.names.lookup y.1 = some .local
  one : ∀ n, cellsFrom n scope.names cl = (x0, n) :: cl
  psh : ∀ h, pushCells h scope.names = h.push { cls := .type "cell", data := .cell none }
  nin : cl.lookup x0 = none
  sub : ∀ x c, cl.lookup x = some c → X.env.cells.lookup x = some c
  has : ∀ C x, (relabel scope X.env).names.lookup x = some .cell ∨ (relabel scope X.env).names.lookup x = some .free → ∃ c, ((x0, C) :: cl).lookup x = some c
  len : Nc.length = nl + fr.length
  tail : ∀ i n, Nc[nl + i]? = some n → ∃ j, fr[i]? = some j ∧ X.N[j]? = some n ∧ X.env.kindOf n = some .cell ∧ cl.lookup n = X.env.cells.lookup n ∧ ((relabel scope X.env).names.lookup n = some .cell ∨ (relabel scope X.env).names.lookup n = some .free)
abbrev compCx1 (X : Cx) (scope : Scope) (cl : List (Str × Addr)) (x0 : Str) (Nc : List Str) (C : Addr) (s3 : Shared) (H3 : Hp) (fp : List Addr) (pins : List (Addr × Obj)) : Cx :=
  { X with N := Nc, s₀ := s3, H₀ := H3, env := compEnv1 scope cl x0 C X.env, outer := X.stack, ex := fp, fn := fun x => x == x0, pn := X.pn ++ pins, xe := fun _ _ => False }
section
variable {X : Cx} {scope : Scope} {cl : List (Str × Addr)} {x0 : Str} {Nc : List Str} {nl : Nat} {fr : List Nat} {pins : List (Addr × Obj)} {σ : St} {H3 : Hp} {s3 : Shared} {fp : List Addr} {h4 : Heap} {tk : Nat}
theorem comp_start1 (ck : CompOk1 X scope cl x0 Nc nl fr) (I : Inv X pins σ H3 s3) (hf : ∀ b ∈ fp, FpOk X pins H3 b) (hfs : ∀ b ∈ fp, b < s3.heap.objs.size)
    (hns : h4.Ns s3.heap.objs.size fun _ => none) (hce : h4.IsCell (s3.heap.objs.size + 1) none) (hk : ∀ b o, s3.heap.get? b = some o → h4.get? b = some o) :
    Inv (compCx1 X scope cl x0 Nc s3.heap.objs.size s3 H3 fp pins) [] (σC nl fr σ) H3 { s3 with heap := h4, toks := tk } := by
  have stk : ∀ b ∈ frs X.stack, b ∈ X.env.locals :: X.fs := I.stkSub
  have nfs : ∀ b, b ≠ X.env.locals → b ∉ X.fs → b ∉ frs X.stack := fun b h1 h2 z => (List.mem_cons.mp (stk b z)).elim h1 h2
  have ltc : ∀ x c, cl.lookup x = some c → c < s3.heap.objs.size := fun x c e => by
    obtain ⟨v, z⟩ := I.cell x c (ck.sub x c e)
    exact z.lt
  have lk : ∀ x c, ((x0, s3.heap.objs.size + 1) :: cl).lookup x = some c → (x = x0 ∧ c = s3.heap.objs.size + 1) ∨ cl.lookup x = some c := fun x c e => by
    rw [List.lookup_cons] at e
    cases q : x == x0 with
    | true => rw [q] at e; cases e; exact .inl ⟨eq_of_beq q, rfl⟩
    | false => rw [q] at e; exact .inr e
  refine ⟨⟨I.ok.mod, ck.kind, I.ok.glob, I.ok.blt, Nat.le_refl _, fun x y c h1 h2 => ?inj, fun x hx => ck.has _ x hx, fun x c hz hl => ?cab, I.ok.hd, I.ok.frames, .inl rfl, fun b hb => ?_, I.bs, Nat.le_trans I.ok.bsz I.sz, fun b o e hb => ?_, fun b hb => ?_, I.stack, I.stkFree⟩,
    rfl, I.bare, Un.kept hk, ⟨_, hns, fun i x v h1 h2 h3 => ?_⟩, fun x c e => ?_, I.hok.fresh (Nat.le_refl _), fun x c e => ?frC, fun p hp => ?_, I.hok.kept hk, ?_⟩
  case inj =>
    rcases lk x c h1 with ⟨e1, e2⟩ | h1 <;> rcases lk y c h2 with ⟨e3, e4⟩ | h2
    · rw [e1, e3]
    · have h := ltc y c h2; rw [e2] at h; exact absurd h (Nat.not_lt.mpr (Nat.le_succ _))
    · have h := ltc x c h1; rw [e4] at h; exact absurd h (Nat.not_lt.mpr (Nat.le_succ _))
    · exact I.ok.inj x y c (ck.sub x c h1) (ck.sub y c h2)
  case cab =>
    rcases lk x c hl with ⟨e1, e2⟩ | h1
    · rw [e2]; exact Nat.le_succ _
    · have hz' : (x == x0) = true := hz
      rw [eq_of_beq hz', ck.nin] at h1; cases h1
  case frC =>
    rcases lk x c e with ⟨e1, e2⟩ | h1
    · rw [e2]; exact I.hok.fresh (Nat.le_succ _)
    · exact I.freeC x c (ck.sub x c h1)
  · obtain ⟨f0, f1, f2, f3, f4, f5⟩ := hf b hb
    refine ⟨Nat.ne_of_lt (hfs b hb), fun x c e => ?_⟩
    rcases lk x c e with ⟨e1, e2⟩ | h1
    · rw [e2]; exact Nat.ne_of_gt (Nat.lt_succ_of_lt (hfs b hb))
    · exact f4 x c (ck.sub x c h1)
  · obtain ⟨f0, f1, f2, f3, f4, f5⟩ := hf b hb
    rcases f3 with z | z
    · exact I.ok.noex b o e z
    · exact absurd (Nat.lt_of_lt_of_le (Heap.lt_size e) (Nat.le_trans I.ok.bsz z)) (Nat.lt_irrefl _)
  · obtain ⟨f0, f1, f2, f3, f4, f5⟩ := hf b hb
    exact nfs b f1 f2
  · -- a name's value
    unfold σC at h2
    by_cases hi : i < nl
    · rw [List.getElem?_append_left (by simpa using hi), List.getElem?_replicate] at h2
      split at h2 <;> cases h2
    · have hi' : nl ≤ i := by omega
      rw [List.getElem?_append_right (by simpa using hi'), List.length_replicate, List.getElem?_map] at h2
      obtain ⟨k, rfl⟩ : ∃ k, i = nl + k := ⟨i - nl, by omega⟩
      obtain ⟨j, e1, e2, e3, e4, e5⟩ := ck.tail k x h1
      rw [Nat.add_sub_cancel_left, e1] at h2
      have h2' : (σ[j]?).join = some v := by simpa using h2
      have h2'' : σ[j]? = some (some v) := by
        cases q : σ[j]? with
        | none => rw [q] at h2'; cases h2'
        | some z => rw [q] at h2'; exact congrArg some h2'
      obtain ⟨m, hn, hl⟩ := I.loc
      obtain ⟨u, r, l⟩ := hl j x v e2 h2'' (.inr (.inl e3))
      refine ⟨u, r, ?_⟩
      rcases l with ⟨k1, _⟩ | ⟨k1, c, ec, z⟩
      · rw [e3] at k1; cases k1
      · obtain ⟨o, ho, hd⟩ := z
        refine .inr ⟨e5, c, ?_, o, hk _ _ ho, hd⟩
        show ((x0, s3.heap.objs.size + 1) :: cl).lookup x = some c
        rw [List.lookup_cons]
        have ec' : cl.lookup x = some c := by rw [e4]; exact ec
        cases q : x == x0 with
        | true => rw [eq_of_beq q, ck.nin] at ec'; cases ec'
        | false => exact ec'
  · rcases lk x c e with ⟨e1, e2⟩ | h1
    · rw [e2]; exact ⟨none, hce⟩
    · obtain ⟨v, o, ho, hd⟩ := I.cell x c (ck.sub x c h1)
      exact ⟨v, o, hk _ _ ho, hd⟩
  · have hp' : p ∈ X.pn ++ pins := by simpa using hp
    obtain ⟨e, n, ne, nf, d⟩ := I.pin p hp'
    exact ⟨hk _ _ e, n, Nat.ne_of_lt (Heap.lt_size e), nfs _ ne nf, d⟩
  · unfold σC
    show _ = Nc.length
    rw [List.length_append, List.length_replicate, List.length_map, ck.len]
/-- behind the block -/
theorem comp_end1 {pins' : List (Addr × Obj)} {σ' : St} {H' : Hp} {s' : Shared} (I : Inv X pins σ H3 s3) (hf : ∀ b ∈ fp, FpOk X pins H3 b)
    (J : Inv (compCx1 X scope cl x0 Nc s3.heap.objs.size s3 H3 fp pins) pins' σ' H' s') : Inv X pins σ H' s' ∧ FpOk X pins H' s3.heap.objs.size := by
  refine ⟨I.call' (ch := fp) J.os J.base J.hok J.bare fun b hb => ?_, I.fpOk (Nat.le_refl _) J.free⟩
  obtain ⟨f0, f1, f2, f3, f4, f5⟩ := hf b hb
  exact ⟨f3, f1, f4, f5⟩
end
section
variable {X : Cx} {scope : Scope} {cl : List (Str × Addr)} {x0 : Str} {Nc : List Str} {nl : Nat} {fr : List Nat} {elt tg iter : Expr} {ifs : List Expr} {pos : Pos} {wi : TI} {g : TG} {tt : TT} {te : TE}
theorem comp_run1 (hc : X.calm = true) (ck : CompOk1 X scope cl x0 Nc nl fr) (hi : PI X tg iter wi)
    (hg : ∀ C s3 H3 fp pins, PG (compCx1 X scope cl x0 Nc C s3 H3 fp pins) tg g) (ht : ∀ C s3 H3 fp pins, PIf (compCx1 X scope cl x0 Nc C s3 H3 fp pins) ifs tt) (he : ∀ C s3 H3 fp pins, PE (compCx1 X scope cl x0 Nc C s3 H3 fp pins) elt te)
    {pins : List (Addr × Obj)} {s : Shared} {σ : St} {H : Hp} {Q : VK} (I : Inv X pins σ H s) (h : tComp wi nl fr g tt te σ H Q) {RR : Value → Addr → Result → Shared → Prop}
    (fin : ∀ D C s', (∃ H', (∃ m, s'.heap.Ns C m) ∧ Inv X pins σ H' s' ∧ FpOk X pins H' C ∧ Q (.ref D) H') → RR (.ref D) C (.ok .next) s') :
    wpAny (model X.prog X.w) X.A (eval iter X.env) (fun x s₁ => wpAny (model X.prog X.w) X.A (pyIter x) (fun it s₂ => wpAny (model X.prog X.w) X.A (newList []) (fun acc s₃ =>
      wpAny (model X.prog X.w) X.A (newFunctionEnv scope X.env.globals cl [] X.env.qual none .none (some X.env)) (fun cenv s₄ =>
        codeAny (model X.prog X.w) X.A (.compStart (.ListComp elt [⟨tg, iter, ifs, 0⟩] scope pos) 0 it acc { cenv with scope := relabel scope X.env }) (RR acc cenv.locals) s₄) X.xe s₃) X.xe s₂) X.xe s₁) X.xe s := by
  refine thn (hi pins s σ H _ I h) fun v s1 h1 => thn h1 fun itv s2 h2 => ?_
  obtain ⟨it, fp, tn, J, H2, e, I2, T, st2, f2, hD⟩ := h2
  subst e
  have hn2 : H2 s2.heap.objs.size = none := I2.hok.fresh (Nat.le_refl _)
  obtain ⟨W, ⟨m0, w0⟩, turn⟩ := hD s2.heap.objs.size hn2
  refine wpAny_newObj_type (newEnv_comp ?_)
  dsimp only
  rw [ck.one, ck.psh]
  have I3 : Inv X pins σ (upd H2 s2.heap.objs.size (.lst [])) { s2 with heap := s2.heap.push { cls := .type "list", dict := none, data := .seq ([] : List Value).toArray } } :=
    I2.laid (t' := s2.toks) (fun b u e => Heap.get?_push_of_some _ e) (Nat.le_refl _) ⟨Nat.zero_le _, [], 0, .nil, Heap.get?_push_size _ rfl⟩
  have hfs : ∀ b ∈ fp, b < s2.heap.objs.size := fun b hb => by
    obtain ⟨o, e, _⟩ := T.obj 0 _ st2 b hb
    exact Heap.lt_size e
  have f3 : ∀ b ∈ fp, FpOk X pins (upd H2 s2.heap.objs.size (.lst [])) b := fun b hb => ⟨by rw [upd_ne (Nat.ne_of_lt (hfs b hb))]; exact (f2 b hb).1, (f2 b hb).2⟩
  generalize hH3 : upd H2 s2.heap.objs.size (.lst []) = H3 at *
  generalize hs3 : ({ s2 with heap := s2.heap.push { cls := .type "list", dict := none, data := .seq ([] : List Value).toArray } } : Shared) = s3 at *
  have z3 : s3.heap = s2.heap.push { cls := .type "list", dict := none, data := .seq ([] : List Value).toArray } := by rw [← hs3]
  have hsz3 : s3.heap.objs.size = s2.heap.objs.size + 1 := by rw [z3, Heap.size_push]
  rw [← z3]
  generalize hh4 : (s3.heap.push { cls := .type "dict", data := .dict #[] }).push { cls := .type "cell", data := .cell none } = h4
  have hk4 : ∀ b o, s3.heap.get? b = some o → h4.get? b = some o := fun b o e => by rw [← hh4]; exact Heap.get?_push_of_some _ (Heap.get?_push_of_some _ e)
  have hce4 : h4.IsCell (s3.heap.objs.size + 1) none := by
    rw [← hh4]
    refine ⟨{ cls := .type "cell", data := .cell none }, ?_, rfl⟩
    have := Heap.get?_push_size (s3.heap.push { cls := .type "dict", data := .dict #[] }) (o := { cls := .type "cell", data := .cell none }) rfl
    rw [Heap.size_push] at this
    exact this
  have hfs3 : ∀ b ∈ fp, b < s3.heap.objs.size := fun b hb => Nat.lt_of_lt_of_le (hfs b hb) (by rw [hsz3]; exact Nat.le_succ _)
  have hns' : h4.Ns s3.heap.objs.size fun _ => none := by
    rw [← hh4]
    exact (Heap.Ns.new s3.heap (.type "dict")).keeps fun b o e => Heap.get?_push_of_some _ e
  have K0 := fun tk => comp_start1 (tk := tk) ck I3 f3 hfs3 hns' hce4 hk4
  have stat : ∀ {H' : Hp}, (∀ b ∈ fp, H' b = none) → ∀ b ∈ fp, FpOk (compCx1 X scope cl x0 Nc s3.heap.objs.size s3 H3 fp pins) [] H' b := fun {H'} hn b hb => by
    obtain ⟨f0, g1, g2, g3, g4, g5⟩ := f3 b hb
    refine ⟨hn b hb, Nat.ne_of_lt (hfs3 b hb), fun z => ?_, .inl hb, fun x c e => ?cl, fun p hp => g5 p (by simpa using hp)⟩
    case cl =>
      have e' : ((x0, s3.heap.objs.size + 1) :: cl).lookup x = some c := e
      rw [List.lookup_cons] at e'
      cases q : x == x0 with
      | true => rw [q] at e'; cases e'; exact Nat.ne_of_gt (Nat.lt_succ_of_lt (hfs3 b hb))
      | false => rw [q] at e'; exact g4 x c (ck.sub x c e')
    exact (List.mem_cons.mp (I3.stkSub b z)).elim g1 g2
  have st4 : tn 0 h4 := T.keep 0 _ _ st2 fun b hb o e => hk4 b o (by rw [z3]; exact Heap.get?_push_of_some _ e)
  have loop : ∀ tk, codeAny (model X.prog X.w) X.A (.compLoop (.ListComp elt [⟨tg, iter, ifs, 0⟩] scope pos) 0 (.ref it) (.ref s2.heap.objs.size) (compEnv1 scope cl x0 s3.heap.objs.size X.env)) (RR (.ref s2.heap.objs.size) s3.heap.objs.size) { s3 with heap := h4, toks := tk } := by
    intro tk
    refine comp_loop (fun n s' => ∃ i ys H', Inv (compCx1 X scope cl x0 Nc s3.heap.objs.size s3 H3 fp pins) [] (σC nl fr σ) H' s' ∧ tn i s'.heap ∧ (∀ b ∈ fp, H' b = none) ∧ W i n ys H') ?_ m0 ⟨0, [], H3, K0 tk, st4, fun b hb => (f3 b hb).1, w0⟩
    rintro n s5 ⟨i, ys, H5, I5, st5, fr5, w5⟩
    obtain ⟨hl5, q5⟩ := turn i n ys H5 w5
    rcases q5 with ⟨stop, qn⟩ | ⟨go, step⟩
    · refine wpAny_mono (T.done (compCx1 X scope cl x0 Nc s3.heap.objs.size s3 H3 fp pins) rfl rfl rfl hc i [] s5 (σC nl fr σ) H5 (fun _ _ => False) I5 (stat fr5) st5 stop) (fun r s6 h6 => ?_) fun _ _ z => z
      obtain ⟨hr, I6⟩ := h6
      subst hr
      obtain ⟨z1, z2⟩ := comp_end1 I3 f3 I6
      refine fin _ _ _ ⟨H5, ?_, z1, z2, qn⟩
      obtain ⟨m, hm, _⟩ := I6.loc
      exact ⟨m, hm⟩
    · refine wpAny_mono (T.item (compCx1 X scope cl x0 Nc s3.heap.objs.size s3 H3 fp pins) rfl rfl rfl hc i [] s5 (σC nl fr σ) H5 (fun _ _ => False) I5 (stat fr5) st5 go) (fun r s6 h6 => ?_) fun _ _ z => z
      obtain ⟨u, hr, h6⟩ := h6
      subst hr
      refine wpAny_mono h6 (fun _ s7 h7 => ?_) fun _ _ z => z
      obtain ⟨x, H7, I7, r7, y7, st7, fr7⟩ := h7
      have I7' := I7.pinned (stat fr7) (T.obj _ _ st7)
      refine wpAny_mono (hg s3.heap.objs.size s3 H3 fp pins _ s7 _ H7 x u _ I7' r7 (step x H7 y7)) (fun _ s8 h8 => ?_) fun _ _ z => z
      obtain ⟨σ8, H8, I8, l8, k8, q8⟩ := h8
      refine wpAny_mono (ht s3.heap.objs.size s3 H3 fp pins _ s8 σ8 H8 _ I8 q8) (fun b s9 h9 => ?_) fun _ _ z => z
      obtain ⟨H9, I9, q9⟩ := h9
      have again : ∀ {ys' : List V} {H' : Hp} {s' : Shared} {m' : Nat}, Inv (compCx1 X scope cl x0 Nc s3.heap.objs.size s3 H3 fp pins) ([] ++ pinsAt fp s7.heap) σ8 H' s' → m' < n → W (i + 1) m' ys' H' →
          ∃ m, m < n ∧ ∃ i ys H', Inv (compCx1 X scope cl x0 Nc s3.heap.objs.size s3 H3 fp pins) [] (σC nl fr σ) H' s' ∧ tn i s'.heap ∧ (∀ b ∈ fp, H' b = none) ∧ W i m ys H' := fun {ys' H' s' m'} I' hm w' => by
        refine ⟨m', hm, i + 1, ys', H', I'.unpinned.weak l8.symm k8, T.keep _ _ _ st7 fun b hb o e => (I'.pin (b, o) (List.mem_append_right _ (List.mem_append_right _ (mem_pinsAt hb e)))).1, fun b hb => ?_, w'⟩
        obtain ⟨o, e, d⟩ := T.obj _ _ st7 b hb
        exact (I'.pin (b, o) (List.mem_append_right _ (List.mem_append_right _ (mem_pinsAt hb e)))).2.1
      cases b with
      | false =>
        rw [if_neg Bool.false_ne_true] at q9 ⊢
        obtain ⟨m', hm, w9⟩ := q9
        exact again I9 hm w9
      | true =>
        rw [if_pos rfl] at q9 ⊢
        refine wpAny_mono (he s3.heap.objs.size s3 H3 fp pins _ s9 σ8 H9 _ I9 q9) (fun yv s10 h10 => ?_) fun _ _ z => z
        obtain ⟨y, H10, I10, r10, hl10, hz10, m', hm, w10⟩ := h10
        refine wpAny_mono (mt_append (X := compCx1 X scope cl x0 Nc s3.heap.objs.size s3 H3 fp pins) _ s10 σ8 H10 (.ref s2.heap.objs.size) [y] _ [yv] (fun v H' => H' = upd H10 s2.heap.objs.size (.lst (ys ++ [y]))) I10 rfl (.cons r10 .nil) ⟨_, ys, y, rfl, rfl, hl10, hz10, rfl⟩) (fun _ s11 h11 => ?_) fun _ _ z => z
        obtain ⟨_, H11, I11, _, e11⟩ := h11
        subst e11
        exact again I11 hm w10
  have L := loop s2.toks
  rw [show s3.gens = s2.gens by rw [← hs3], show s3.drawn = s2.drawn by rw [← hs3], show s3.os = s2.os by rw [← hs3]] at L
  exact codeAny_compStart_list L (T.self _ 0 _ _ _ st4 L)
theorem pe_comp1 (hc : X.calm = true) (ck : CompOk1 X scope cl x0 Nc nl fr) (hi : PI X tg iter wi)
    (hg : ∀ C s3 H3 fp pins, PG (compCx1 X scope cl x0 Nc C s3 H3 fp pins) tg g) (ht : ∀ C s3 H3 fp pins, PIf (compCx1 X scope cl x0 Nc C s3 H3 fp pins) ifs tt) (he : ∀ C s3 H3 fp pins, PE (compCx1 X scope cl x0 Nc C s3 H3 fp pins) elt te)
    (hs : ∀ x, foldedSetIterable iter X.env x = pure x := by intro _; rfl) : PE X (.ListComp elt [⟨tg, iter, ifs, 0⟩] scope pos) (tComp wi nl fr g tt te) := by
  intro pins s σ H Q I h
  rw [eval_ListComp]
  refine wpAny_comprehension_free (use := none) rfl hs ck.clos ck.kind ck.names (comp_run1 (RR := fun acc C => compPost (model X.prog X.w) X.A X.xe none (EP X pins σ Q) acc C) hc ck hi hg ht he I h fun D C s' hh => ?_)
  obtain ⟨H', ⟨m, hm⟩, hI, hF, q⟩ := hh
  exact ⟨m, hm, fun h' hs' => ⟨.ref D, H', hI.off hF hs', rfl, q⟩⟩
end
end L2

set_option Elab.async false
set_option linter.all false
set_option maxRecDepth 100000
set_option maxHeartbeats 2000000
namespace L2
open PySem PySem.Spec PyProof.Rows
section
variable {X : Cx}
def isum : List Int → Int
  | [] => 0
  | n :: l => n + isum l
/-- sum(list of numbers) -/
def rSum (K : PySem.W.Frag) : List V → Hp → VK → Prop := fun xs H Q => ∃ (p : Addr) (ns : List Int), xs = [.ref p] ∧ SqL K H p (ns.map V.int) ∧ Q (.int (isum ns)) H
end
end L2
namespace L2
open PySem PySem.Spec PyProof.Rows
end L2
namespace L2
open PySem PySem.Spec PyProof.Rows
end L2
namespace L2
open PySem PySem.Spec PyProof.Rows
theorem call_list_ofK {X : Cx} {K : PySem.W.Frag} (h : X.K = K) : CallR X (.type "list") (fun xs H Q => ∃ p ys, xs = [.ref p] ∧ (SqL K H p ys ∨ SqT K H p ys) ∧ ∀ l, H l = none → Q (.ref l) (upd H l (.lst ys))) := by subst h; exact call_list_of
end L2

set_option linter.all false
namespace Mq
/-! rows in whole numbers -/
def lcmS (L b : Int) : Int := Int.fdiv L (gc L b) * b
theorem lcmS_parts {L b : Int} (hL : 1 ≤ L) (hb : 1 ≤ b) : 1 ≤ lcmS L b ∧ (∃ j, lcmS L b = L * j) ∧ (∃ k, lcmS L b = k * b ∧ 1 ≤ k) ∧ lcmS L b ≤ L * b := by
  have gp : 0 < gc L b := gc_pos (by omega)
  have d1 : gc L b ∣ L := by unfold gc; exact Int.gcd_dvd_left ..
  have d2 : gc L b ∣ b := by unfold gc; exact Int.gcd_dvd_right ..
  obtain ⟨k, hk⟩ := d1
  obtain ⟨j, hj⟩ := d2
  have ek : Int.fdiv L (gc L b) = k := fdiv_exact (by omega) hk
  have k1 : 1 ≤ k := by
    have : 0 < gc L b * k := by omega
    have := Int.pos_of_mul_pos_right this (by omega)
    omega
  unfold lcmS
  rw [ek]
  refine ⟨?_, ⟨j, ?_⟩, ⟨k, rfl, k1⟩, ?_⟩
  · have : 0 < k * b := Int.mul_pos (by omega) (by omega)
    omega
  · generalize gc L b = g at *
    rw [hk, hj]; grind
  · have : k ≤ L := by
      rw [hk]
      have := Int.mul_le_mul_of_nonneg_right (show 1 ≤ gc L b by omega) (show 0 ≤ k by omega)
      omega
    exact Int.mul_le_mul_of_nonneg_right this (by omega)
def lcmB (ps : List Q2) : Int := ps.foldl (fun L p => lcmS L p.2) 1
theorem lcmB_snoc (ps : List Q2) (p : Q2) : lcmB (ps ++ [p]) = lcmS (lcmB ps) p.2 := by unfold lcmB; rw [List.foldl_append]; rfl
theorem lcmB_take {ps : List Q2} {i : Nat} {p : Q2} (h : ps[i]? = some p) : lcmB (ps.take (i + 1)) = lcmS (lcmB (ps.take i)) p.2 := by
  rw [List.take_add_one, h]; exact lcmB_snoc _ _
theorem lcmB_facts {ps : List Q2} (hp : Pos ps) {n : Nat} (hb : ∀ p ∈ ps, Bd n p) : ∀ i, i ≤ ps.length → 1 ≤ lcmB (ps.take i) ∧ B (1 + n * i) (lcmB (ps.take i)) ∧ ∀ p ∈ ps.take i, ∃ k, lcmB (ps.take i) = k * p.2
  | 0, _ => ⟨by show (1 : Int) ≤ 1; omega, show (1 : Nat) < 2 ^ (1 + n * 0) by simp, fun p h => by simp at h⟩
  | i + 1, hi => by
    obtain ⟨h1, h2, h3⟩ := lcmB_facts hp hb i (by omega)
    have e : ps[i]? = some ps[i] := List.getElem?_eq_getElem (by omega)
    have mem : ps[i] ∈ ps := List.getElem_mem _
    rw [lcmB_take e]
    obtain ⟨l1, ⟨j, l2⟩, ⟨k, l3, l4⟩, l5⟩ := lcmS_parts h1 (hp _ mem)
    refine ⟨l1, ?_, fun p hpp => ?_⟩
    · have := h2.mul (hb _ mem).b
      refine B.mono (n := 1 + n * i + n) (this.le ?_) (by rw [Nat.mul_succ]; omega)
      have h0 : 1 ≤ ps[i].2 := hp _ mem
      have : 0 ≤ lcmB (ps.take i) * ps[i].2 := Int.mul_nonneg (by omega) (by omega)
      omega
    · rw [List.take_add_one, e] at hpp
      rcases List.mem_append.mp hpp with z | z
      · obtain ⟨q, hq⟩ := h3 p z
        exact ⟨q * j, by rw [l2, hq]; grind⟩
      · have : p = ps[i] := by simpa using z
        rw [this]; exact ⟨k, l3⟩
theorem lcmB_ge {ps : List Q2} (hp : Pos ps) : 1 ≤ lcmB ps := by
  have : ∀ (l : List Q2) (L : Int), 1 ≤ L → Pos l → 1 ≤ l.foldl (fun L p => lcmS L p.2) L := fun l => by
    induction l with
    | nil => intro L h _; exact h
    | cons p l ih => intro L h q; exact ih _ (lcmS_parts h (q p (by simp))).1 fun x hx => q x (List.mem_cons_of_mem _ hx)
  exact this ps 1 (by omega) hp
def iwOf (L : Int) (p : Q2) : Int := p.1 * Int.fdiv L p.2
def iw (ps : List Q2) : List Int := ps.map (iwOf (lcmB ps))
theorem iw_val {L k : Int} {p : Q2} (h : 1 ≤ p.2) (e : L = k * p.2) : ((iwOf L p : Int) : Rat) = val p * (L : Rat) := by
  have e1 : Int.fdiv L p.2 = k := fdiv_exact (by omega) (by rw [e, Int.mul_comm])
  have n := cast_ne (show p.2 ≠ 0 by omega)
  unfold iwOf val
  rw [e1, e, Rat.intCast_mul, Rat.intCast_mul]
  grind
theorem lcmB_dvd {ps : List Q2} (hp : Pos ps) : ∀ p ∈ ps, ∃ k, lcmB ps = k * p.2 := fun p hpp => by
  have : ∀ (l : List Q2) (L : Int), 1 ≤ L → Pos l → (∃ j, l.foldl (fun L p => lcmS L p.2) L = L * j) ∧ ∀ p ∈ l, ∃ k, l.foldl (fun L p => lcmS L p.2) L = k * p.2 := fun l => by
    induction l with
    | nil => intro L h _; exact ⟨⟨1, by simp⟩, fun p h => by simp at h⟩
    | cons q l ih =>
      intro L h hq
      obtain ⟨l1, ⟨j, l2⟩, ⟨k, l3, l4⟩, l5⟩ := lcmS_parts h (hq q (by simp))
      obtain ⟨⟨j2, i1⟩, i2⟩ := ih (lcmS L q.2) l1 fun x hx => hq x (List.mem_cons_of_mem _ hx)
      refine ⟨⟨j * j2, by rw [List.foldl_cons, i1, l2]; grind⟩, fun p hp => ?_⟩
      rcases List.mem_cons.mp hp with rfl | hp
      · exact ⟨k * j2, by rw [List.foldl_cons, i1, l3]; grind⟩
      · exact i2 p hp
  exact (this ps 1 (by omega) hp).2 p hpp
/-! the sum of rows by multiples -/
def frs (ms : List Q2) (X : List (List Q2)) : List Q2 := List.zipWith (fun m row => red m.1 (m.2 * lcmB row)) ms X
def prodAt (ms : List Q2) (X : List (List Q2)) (j : Nat) : List Int := List.zipWith (fun t (R : List Int) => t * R.getD j 0) (iw (frs ms X)) (X.map iw)
def sumAt (ms : List Q2) (X : List (List Q2)) (j : Nat) : Q2 := tot (List.zipWith (fun m row => times m (row.getD j z0)) ms X)
def AllPos (X : List (List Q2)) : Prop := ∀ row ∈ X, Pos row
def isumR : List Int → Int
  | [] => 0
  | n :: l => n + isumR l
theorem getD_pos {row : List Q2} (h : Pos row) (j : Nat) : 1 ≤ (row.getD j z0).2 := by
  rw [List.getD_eq_getElem?_getD]
  cases e : row[j]? with
  | none => exact Int.le_refl 1
  | some v => exact h v (List.mem_of_getElem? e)
end Mq

set_option Elab.async false
set_option linter.all false
set_option maxRecDepth 100000
set_option maxHeartbeats 4000000
namespace Shp
open PySem L2
/-- a list of lists of fractions, none of them the list at D -/
inductive Fmx (K : PySem.W.Frag) (D : Addr) (H : Hp) : List V → List (List Mq.Q2) → Prop where
  | nil : Fmx K D H [] []
  | cons {u : Addr} {xs : List V} {ps : List Mq.Q2} {us : List V} {X : List (List Mq.Q2)} (ne : u ≠ D) (h : SqL K H u xs) (f : Fqs K H xs ps) (q : Fmx K D H us X) : Fmx K D H (.ref u :: us) (ps :: X)
theorem Fmx.same {K : PySem.W.Frag} {D : Addr} {H H' : Hp} (e : Same H H') : ∀ {xs : List V} {X : List (List Mq.Q2)}, Fmx K D H xs X → Fmx K D H' xs X
  | _, _, .nil => .nil
  | _, _, .cons n h f q => .cons n (e.seq h) (f.same e) (q.same e)
theorem Fmx.upd {K : PySem.W.Frag} {D : Addr} {H : Hp} {ys : List V} {o : HO} (hl : H D = some (.lst ys)) : ∀ {xs : List V} {X : List (List Mq.Q2)}, Fmx K D H xs X → Fmx K D (L2.upd H D o) xs X
  | _, _, .nil => .nil
  | _, _, .cons n h f q => .cons n (h.upd n) (f.upd hl) (q.upd hl)
theorem Fmx.length {K : PySem.W.Frag} {D : Addr} {H : Hp} : ∀ {xs : List V} {X : List (List Mq.Q2)}, Fmx K D H xs X → xs.length = X.length
  | _, _, .nil => rfl
  | _, _, .cons _ _ _ q => by rw [List.length_cons, List.length_cons, q.length]
theorem Fmx.get {K : PySem.W.Frag} {D : Addr} {H : Hp} : ∀ {xs : List V} {X : List (List Mq.Q2)} {i : Nat} {x : V}, Fmx K D H xs X → xs[i]? = some x → ∃ u ys ps, x = .ref u ∧ X[i]? = some ps ∧ SqL K H u ys ∧ Fqs K H ys ps
  | _, _, 0, _, .cons n h f q, e => by simp at e; exact ⟨_, _, _, e.symm, rfl, h, f⟩
  | _, _, i + 1, _, .cons n h f q, e => by simp at e; exact q.get e
/-- rows in whole numbers, each with its bottom -/
inductive Whs (K : PySem.W.Frag) (D : Addr) (H : Hp) : List V → List (List Int × Int) → Prop where
  | nil : Whs K D H [] []
  | cons {t l : Addr} {r : List Int × Int} {us : List V} {rs : List (List Int × Int)} (ne : l ≠ D) (h : SqT K H t [.ref l, .int r.2]) (f : SqL K H l (r.1.map V.int)) (q : Whs K D H us rs) : Whs K D H (.ref t :: us) (r :: rs)
def wh (row : List Mq.Q2) : List Int × Int := (Mq.iw row, Mq.lcmB row)
def spIW (K : PySem.W.Frag) : Sp := fun vs H Q _ => ∃ (a : Addr) (xs : List V) (ps : List Mq.Q2) (n : Nat), vs = [.ref a] ∧ SqL K H a xs ∧ Fqs K H xs ps ∧ Mq.Pos ps ∧ (∀ p ∈ ps, Mq.Bd n p) ∧ ps.length ≤ 100 ∧ 10 + n + n * ps.length ≤ 8000 ∧
  ∀ t l H', Same H H' → H l = none → SqT K H' t [.ref l, .int (Mq.lcmB ps)] → SqL K H' l ((Mq.iw ps).map V.int) → Q (.ref t) H'
def sumL (ms : List Mq.Q2) (X : List (List Mq.Q2)) (w : Nat) : List Mq.Q2 := (List.range w).map (Mq.sumAt ms X)
def spSummed (K : PySem.W.Frag) : Sp := fun vs H Q _ => ∃ (a g D : Addr) (xs us : List V) (ms : List Mq.Q2) (X : List (List Mq.Q2)) (w : Nat), vs = [.ref a, .ref g] ∧ SqL K H a xs ∧ Fqs K H xs ms ∧ SqL K H g us ∧ Fmx K D H us X ∧ Mq.AllLow ms ∧ Mq.AllPos X ∧ (∀ p ∈ ms, Mq.Bd 60 p) ∧ (∀ row ∈ X, (∀ p ∈ row, Mq.Bd 60 p) ∧ row.length = w) ∧ ms.length = X.length ∧ X.length ≤ 6 ∧ w ≤ 6 ∧ (X = [] → w = 0) ∧
  ∀ l zs H', Same H H' → H l = none → H' l = some (.lst zs) → Fqs K H' zs (sumL ms X w) → Q (.ref l) H'
end Shp

set_option linter.all false
namespace Mq
/-! determinants, by the last row -/
def skip (j k : Nat) : Nat := if k < j then k else k + 1
def sgn (n : Nat) : Rat := if n % 2 = 0 then 1 else -1
theorem sgn_succ (n : Nat) : sgn (n + 1) = - sgn n := by
  unfold sgn
  rcases Nat.mod_two_eq_zero_or_one n with h | h
  · rw [if_neg (by omega), if_pos h]
  · rw [if_pos (by omega), if_neg (by omega)]; grind
abbrev Mat := Nat → Nat → Rat
def det : Nat → Mat → Rat
  | 0, _ => 1
  | n + 1, M => rs (n + 1) fun j => sgn (n + j) * M n j * det n fun i k => M i (skip j k)
theorem det_succ (n : Nat) (M : Mat) : det (n + 1) M = rs (n + 1) fun j => sgn (n + j) * M n j * det n fun i k => M i (skip j k) := rfl
theorem skip_lt {j k n : Nat} (hk : k < n) : skip j k < n + 1 := by unfold skip; split <;> omega
theorem det_congr : ∀ {n : Nat} {M N : Mat}, (∀ i j, i < n → j < n → M i j = N i j) → det n M = det n N
  | 0, _, _, _ => rfl
  | n + 1, M, N, h => by
    rw [det_succ, det_succ]
    exact rs_congr fun j hj => by rw [h n j (by omega) hj, det_congr (N := fun i k => N i (skip j k)) fun i k hi hk => h i _ (by omega) (skip_lt hk)]
theorem skip_skip {j k l : Nat} (h : j ≤ k) : skip (k + 1) (skip j l) = skip j (skip k l) := by
  unfold skip
  by_cases h1 : l < j
  · rw [if_pos h1, if_pos (show l < k by omega), if_pos (show l < k + 1 by omega), if_pos h1]
  · rw [if_neg h1]
    by_cases h2 : l < k
    · rw [if_pos h2, if_pos (show l + 1 < k + 1 by omega), if_neg h1]
    · rw [if_neg h2, if_neg (show ¬ l + 1 < k + 1 by omega), if_neg (show ¬ l + 1 < j by omega)]
/-- sums over pairs, turned about -/
theorem rs_swap (n m : Nat) (F : Nat → Nat → Rat) : (rs n fun i => rs m fun j => F i j) = rs m fun j => rs n fun i => F i j := by
  induction n with
  | zero => simp only [rs]; rw [rs_zero]
  | succ n ih => simp only [rs]; rw [ih, ← rs_add]
theorem rs_shift (n : Nat) (F : Nat → Rat) : rs (n + 1) F = F 0 + rs n fun i => F (i + 1) := by
  induction n with
  | zero => simp only [rs]; grind
  | succ n ih => rw [show rs (n + 1 + 1) F = rs (n + 1) F + F (n + 1) from rfl, ih]; simp only [rs]; grind
theorem pairs_sum (N : Nat) (X : Nat → Nat → Rat) : (rs (N + 1) fun j => rs N fun k => X j k) = (rs N fun k => rs N fun j => if k ≤ j then X (j + 1) k else 0) + rs N fun j => rs N fun k => if j ≤ k then X j k else 0 := by
  have h1 : (rs (N + 1) fun j => rs N fun k => X j k) = (rs (N + 1) fun j => rs N fun k => if k < j then X j k else 0) + rs (N + 1) fun j => rs N fun k => if k < j then 0 else X j k := by
    rw [← rs_add]
    refine rs_congr fun j _ => ?_
    rw [← rs_add]
    exact rs_congr fun k _ => by split <;> grind
  have h2 : (rs (N + 1) fun j => rs N fun k => if k < j then X j k else 0) = rs N fun k => rs N fun j => if k ≤ j then X (j + 1) k else 0 := by
    rw [rs_swap]
    refine rs_congr fun k _ => ?_
    rw [rs_shift, if_neg (by omega)]
    have : (rs N fun i => if k < i + 1 then X (i + 1) k else 0) = rs N fun j => if k ≤ j then X (j + 1) k else 0 := rs_congr fun i _ => by
      by_cases c : k ≤ i
      · rw [if_pos (by omega), if_pos c]
      · rw [if_neg (by omega), if_neg c]
    rw [this]; grind
  have h3 : (rs (N + 1) fun j => rs N fun k => if k < j then 0 else X j k) = rs N fun j => rs N fun k => if j ≤ k then X j k else 0 := by
    show (rs N fun j => rs N fun k => if k < j then 0 else X j k) + (rs N fun k => if k < N then 0 else X N k) = _
    have : (rs N fun k => if k < N then 0 else X N k) = rs N fun _ => 0 := rs_congr fun k hk => by rw [if_pos hk]
    rw [this, rs_zero]
    have e2 : (rs N fun j => rs N fun k => if k < j then 0 else X j k) = rs N fun j => rs N fun k => if j ≤ k then X j k else 0 := rs_congr fun j _ => rs_congr fun k _ => by
      by_cases c : j ≤ k
      · rw [if_neg (by omega), if_pos c]
      · rw [if_pos (by omega), if_neg c]
    rw [e2]; grind
  rw [h1, h2, h3]
/-- a double sum that turns its sign -/
theorem pairs_anti (N : Nat) (X Y : Nat → Nat → Rat) (h : ∀ j k, j ≤ k → Y (k + 1) j = - X j k) (h' : ∀ j k, j ≤ k → X (k + 1) j = - Y j k) : (rs (N + 1) fun j => rs N fun k => Y j k) = - rs (N + 1) fun j => rs N fun k => X j k := by
  rw [pairs_sum, pairs_sum]
  have e1 : (rs N fun k => rs N fun j => if k ≤ j then Y (j + 1) k else 0) = - rs N fun j => rs N fun k => if j ≤ k then X j k else 0 := by
    rw [← rs_neg]
    refine rs_congr fun k _ => ?_
    rw [← rs_neg]
    exact rs_congr fun j _ => by
      by_cases c : k ≤ j
      · rw [if_pos c, if_pos c, h k j c]
      · rw [if_neg c, if_neg c]; grind
  have e2 : (rs N fun k => rs N fun j => if k ≤ j then X (j + 1) k else 0) = - rs N fun j => rs N fun k => if j ≤ k then Y j k else 0 := by
    rw [← rs_neg]
    refine rs_congr fun k _ => ?_
    rw [← rs_neg]
    exact rs_congr fun j _ => by
      by_cases c : k ≤ j
      · rw [if_pos c, if_pos c, h' k j c]
      · rw [if_neg c, if_neg c]; grind
  rw [e1, e2]; grind
def swapR (a : Nat) (M : Mat) : Mat := fun i => if i = a then M (a + 1) else if i = a + 1 then M a else M i
theorem det_two (n : Nat) (M : Mat) : det (n + 2) M = rs (n + 2) fun j => rs (n + 1) fun k => (sgn (n + 1 + j) * M (n + 1) j) * (sgn (n + k) * M n (skip j k) * det n fun i l => M i (skip j (skip k l))) := by
  rw [det_succ]
  exact rs_congr fun j _ => by rw [det_succ, ← rs_mul]
theorem sgn_add1 (a b : Nat) : sgn (a + 1 + b) = - sgn (a + b) := by rw [show a + 1 + b = a + b + 1 by omega, sgn_succ]
theorem swap_last (n : Nat) (M : Mat) : det (n + 2) (swapR n M) = - det (n + 2) M := by
  rw [det_two, det_two]
  refine pairs_anti (n + 1) _ _ (fun j k hjk => ?_) (fun j k hjk => ?_)
  · show (sgn (n + 1 + (k + 1)) * swapR n M (n + 1) (k + 1)) * (sgn (n + j) * swapR n M n (skip (k + 1) j) * det n fun i l => swapR n M i (skip (k + 1) (skip j l))) = - ((sgn (n + 1 + j) * M (n + 1) j) * (sgn (n + k) * M n (skip j k) * det n fun i l => M i (skip j (skip k l))))
    have a1 : swapR n M (n + 1) = M n := by unfold swapR; rw [if_neg (by omega), if_pos rfl]
    have a2 : swapR n M n = M (n + 1) := by unfold swapR; rw [if_pos rfl]
    have a3 : (det n fun i l => swapR n M i (skip (k + 1) (skip j l))) = det n fun i l => M i (skip j (skip k l)) := det_congr fun i l hi _ => by
      show swapR n M i (skip (k + 1) (skip j l)) = M i (skip j (skip k l))
      rw [skip_skip hjk]
      unfold swapR
      rw [if_neg (by omega), if_neg (by omega)]
    have a4 : skip (k + 1) j = j := by unfold skip; rw [if_pos (by omega)]
    have a5 : skip j k = k + 1 := by unfold skip; rw [if_neg (by omega)]
    rw [a1, a2, a3, a4, a5, sgn_add1, sgn_add1, show n + (k + 1) = n + k + 1 by omega, sgn_succ]
    generalize (det n fun i l => M i (skip j (skip k l))) = dd
    generalize sgn (n + k) = s1
    generalize sgn (n + j) = s2
    grind
  · show (sgn (n + 1 + (k + 1)) * M (n + 1) (k + 1)) * (sgn (n + j) * M n (skip (k + 1) j) * det n fun i l => M i (skip (k + 1) (skip j l))) = - ((sgn (n + 1 + j) * swapR n M (n + 1) j) * (sgn (n + k) * swapR n M n (skip j k) * det n fun i l => swapR n M i (skip j (skip k l))))
    have a1 : swapR n M (n + 1) = M n := by unfold swapR; rw [if_neg (by omega), if_pos rfl]
    have a2 : swapR n M n = M (n + 1) := by unfold swapR; rw [if_pos rfl]
    have a3 : (det n fun i l => M i (skip (k + 1) (skip j l))) = det n fun i l => swapR n M i (skip j (skip k l)) := det_congr fun i l hi _ => by
      show M i (skip (k + 1) (skip j l)) = swapR n M i (skip j (skip k l))
      rw [skip_skip hjk]
      unfold swapR
      rw [if_neg (by omega), if_neg (by omega)]
    have a4 : skip (k + 1) j = j := by unfold skip; rw [if_pos (by omega)]
    have a5 : skip j k = k + 1 := by unfold skip; rw [if_neg (by omega)]
    rw [a1, a2, a3, a4, a5, sgn_add1, sgn_add1, show n + (k + 1) = n + k + 1 by omega, sgn_succ]
    generalize (det n fun i l => swapR n M i (skip j (skip k l))) = dd
    generalize sgn (n + k) = s1
    generalize sgn (n + j) = s2
    grind
theorem swap_adj : ∀ (n a : Nat) (M : Mat), a + 1 < n → det n (swapR a M) = - det n M
  | 0, _, _, h => absurd h (by omega)
  | n + 1, a, M, h => by
    by_cases e : a + 1 = n
    · subst e; exact swap_last a M
    · rw [det_succ, det_succ, ← rs_neg]
      refine rs_congr fun j hj => ?_
      have e1 : swapR a M n j = M n j := by unfold swapR; rw [if_neg (by omega), if_neg (by omega)]
      have e2 : (det n fun i k => swapR a M i (skip j k)) = - det n fun i k => M i (skip j k) := by
        rw [← swap_adj n a (fun i k => M i (skip j k)) (by omega)]
        exact det_congr fun i k _ _ => by
          show swapR a M i (skip j k) = swapR a (fun i k => M i (skip j k)) i k
          unfold swapR
          split
          · rfl
          · split <;> rfl
      rw [e1, e2]; grind
/-- two rows alike, one of them the last -/
theorem det_alike : ∀ (t n : Nat) (M : Mat) (i : Nat), i + t + 1 = n → (∀ j, M i j = M n j) → det (n + 1) M = 0
  | 0, n, M, i, h, e => by
    have hn : n = i + 1 := by omega
    subst hn
    have s := swap_last i M
    have c : det (i + 2) (swapR i M) = det (i + 2) M := det_congr fun k j _ _ => by
      unfold swapR
      by_cases k1 : k = i
      · rw [if_pos k1, k1]; exact (e j).symm
      · rw [if_neg k1]
        by_cases k2 : k = i + 1
        · rw [if_pos k2, k2]; exact e j
        · rw [if_neg k2]
    rw [c] at s
    grind
  | t + 1, n, M, i, h, e => by
    have s := swap_adj (n + 1) i M (by omega)
    have z := det_alike t n (swapR i M) (i + 1) (by omega) fun j => by
      have a1 : swapR i M (i + 1) = M i := by unfold swapR; rw [if_neg (by omega), if_pos rfl]
      have a2 : swapR i M n = M n := by unfold swapR; rw [if_neg (by omega), if_neg (by omega)]
      rw [a1, a2]; exact e j
    rw [z] at s
    grind
/-- the last row as an argument of its own -/
def bord (n : Nat) (S : Mat) (x : Nat → Rat) : Mat := fun i => if i = n then x else S i
def F (n : Nat) (S : Mat) (c : Nat → Nat) (x : Nat → Rat) : Rat := det (n + 1) (bord n (fun i j => S i (c j)) fun j => x (c j))
theorem F_eq (n : Nat) (S : Mat) (c : Nat → Nat) (x : Nat → Rat) : F n S c x = rs (n + 1) fun j => sgn (n + j) * x (c j) * det n fun i k => S i (c (skip j k)) := by
  unfold F
  rw [det_succ]
  refine rs_congr fun j _ => ?_
  have e1 : bord n (fun i j => S i (c j)) (fun j => x (c j)) n j = x (c j) := by unfold bord; rw [if_pos rfl]
  rw [e1, det_congr fun i k hi _ => show bord n (fun i j => S i (c j)) (fun j => x (c j)) i (skip j k) = S i (c (skip j k)) by unfold bord; rw [if_neg (by omega)]]
theorem F_add (n : Nat) (S : Mat) (c : Nat → Nat) (x y : Nat → Rat) (l : Rat) : F n S c (fun j => x j + l * y j) = F n S c x + l * F n S c y := by
  rw [F_eq, F_eq, F_eq, ← rs_mul, ← rs_add]
  exact rs_congr fun j _ => by grind
theorem F_row (n : Nat) (S : Mat) (c : Nat → Nat) {i : Nat} (h : i < n) : F n S c (S i) = 0 := by
  unfold F
  refine det_alike (n - i - 1) n _ i (by omega) fun j => ?_
  unfold bord
  rw [if_neg (by omega), if_pos rfl]
theorem F_block (n : Nat) (S : Mat) (c : Nat → Nat) (x : Nat → Rat) (h : ∀ j, j < n → x (c j) = 0) : F n S c x = x (c n) * det n fun i j => S i (c j) := by
  rw [F_eq]
  show (rs n fun j => sgn (n + j) * x (c j) * det n fun i k => S i (c (skip j k))) + sgn (n + n) * x (c n) * (det n fun i k => S i (c (skip n k))) = _
  have z : (rs n fun j => sgn (n + j) * x (c j) * det n fun i k => S i (c (skip j k))) = rs n fun _ => 0 := rs_congr fun j hj => by rw [h j hj]; grind
  have s : sgn (n + n) = 1 := by unfold sgn; rw [if_pos (by omega)]
  have d : (det n fun i k => S i (c (skip n k))) = det n fun i j => S i (c j) := det_congr fun i k _ hk => by show S i (c (skip n k)) = _; unfold skip; rw [if_pos hk]
  rw [z, rs_zero, s, d]; grind
/-- whole entries, a whole determinant -/
theorem rs_whole {n : Nat} {F : Nat → Rat} (h : ∀ i, i < n → ∃ z : Int, F i = (z : Rat)) : ∃ z : Int, rs n F = (z : Rat) := by
  induction n with
  | zero => exact ⟨0, by simp [rs]⟩
  | succ n ih =>
    obtain ⟨a, ha⟩ := ih fun i hi => h i (by omega)
    obtain ⟨b, hb⟩ := h n (by omega)
    exact ⟨a + b, by simp only [rs]; rw [ha, hb, Rat.intCast_add]⟩
theorem sgn_whole (n : Nat) : ∃ z : Int, sgn n = (z : Rat) := by
  unfold sgn
  split
  · exact ⟨1, by simp⟩
  · exact ⟨-1, by rw [Rat.intCast_neg]; simp⟩
theorem mul_whole {a b : Rat} (h : ∃ z : Int, a = (z : Rat)) (k : ∃ z : Int, b = (z : Rat)) : ∃ z : Int, a * b = (z : Rat) := by
  obtain ⟨x, rfl⟩ := h
  obtain ⟨y, rfl⟩ := k
  exact ⟨x * y, by rw [Rat.intCast_mul]⟩
theorem det_whole : ∀ {n : Nat} {M : Mat}, (∀ i j, ∃ z : Int, M i j = (z : Rat)) → ∃ z : Int, det n M = (z : Rat)
  | 0, _, _ => ⟨1, by simp [det]⟩
  | n + 1, M, h => by
    rw [det_succ]
    exact rs_whole fun j _ => mul_whole (mul_whole (sgn_whole _) (h n j)) (det_whole fun i k => h i _)
theorem F_whole {n : Nat} {S : Mat} {c : Nat → Nat} {x : Nat → Rat} (h : ∀ i j, ∃ z : Int, S i j = (z : Rat)) (hx : ∀ j, ∃ z : Int, x j = (z : Rat)) : ∃ z : Int, F n S c x = (z : Rat) := by
  unfold F
  refine det_whole fun i j => ?_
  unfold bord
  split
  · exact hx _
  · exact h i _
end Mq

set_option linter.all false
namespace Mq
/-! elimination in whole numbers -/
def Lin (Φ : (Nat → Rat) → Rat) : Prop := ∀ x y l, Φ (fun j => x j + l * y j) = Φ x + l * Φ y
theorem Lin.zero {Φ : (Nat → Rat) → Rat} (h : Lin Φ) : Φ (fun _ => 0) = 0 := by
  have := h (fun _ => 0) (fun _ => 0) 1
  have e : (fun j : Nat => (fun _ => (0 : Rat)) j + 1 * (fun _ => (0 : Rat)) j) = fun _ => 0 := by funext j; show (0 : Rat) + 1 * 0 = 0; grind
  rw [e] at this
  grind
theorem Lin.mul {Φ : (Nat → Rat) → Rat} (h : Lin Φ) (l : Rat) (y : Nat → Rat) : Φ (fun j => l * y j) = l * Φ y := by
  have := h (fun _ => 0) y l
  have e : (fun j : Nat => (fun _ => (0 : Rat)) j + l * y j) = fun j => l * y j := by funext j; show (0 : Rat) + l * y j = _; grind
  rw [e, h.zero] at this
  grind
theorem Lin.sum {Φ : (Nat → Rat) → Rat} (h : Lin Φ) (a : Nat → Rat) (Y : Nat → Nat → Rat) : ∀ n, Φ (fun j => rs n fun k => a k * Y k j) = rs n fun k => a k * Φ (Y k)
  | 0 => h.zero
  | n + 1 => by
    have := h (fun j => rs n fun k => a k * Y k j) (Y n) (a n)
    simp only [rs]
    rw [this, Lin.sum h a Y n]
theorem F_lin (n : Nat) (S : Mat) (c : Nat → Nat) : Lin (F n S c) := fun x y l => F_add n S c x y l
def Wh (x : Rat) : Prop := ∃ z : Int, x = (z : Rat)
theorem Wh.mul {a b : Rat} (h : Wh a) (k : Wh b) : Wh (a * b) := mul_whole h k
theorem Wh.neg {a : Rat} (h : Wh a) : Wh (-a) := by obtain ⟨z, rfl⟩ := h; exact ⟨-z, by rw [Rat.intCast_neg]⟩
theorem Wh.sub {a b : Rat} (h : Wh a) (k : Wh b) : Wh (a - b) := by obtain ⟨x, rfl⟩ := h; obtain ⟨y, rfl⟩ := k; exact ⟨x - y, by rw [Rat.intCast_sub]⟩
theorem Wh.one : Wh 1 := ⟨1, by simp⟩
theorem Wh.nil : Wh 0 := ⟨0, by simp⟩
structure Bar (m : Nat) (A E : Mat) (r col : Nat) (d : Rat) (c : Nat → Nat) : Prop where
  dne : d ≠ 0
  rm : r ≤ m
  rc : r ≤ col
  clt : ∀ j, j < r → c j < col
  cinj : ∀ i j, i < r → j < r → c i = c j → i = j
  wA : ∀ i j, Wh (A i j)
  wE : ∀ i j, i < m → Wh (E i j)
  i2 : ∀ k j, k < r → j < r → E k (c j) = if j = k then d else 0
  i3 : ∀ i x, r ≤ i → i < m → x < col → E i x = 0
  i4 : ∀ i x, i < m → d * A i x = (rs r fun k => A i (c k) * E k x) + if i < r then 0 else E i x
  i5 : det r (fun i j => A i (c j)) = d
  i6 : ∀ Φ, Lin Φ → (∀ s, s < r → Φ (A s) = 0) → ∀ k, k < r → Φ (E k) = 0
  full : r = col → ∀ j, j < r → c j = j
theorem Bar.start {m : Nat} {A : Mat} (wA : ∀ i j, Wh (A i j)) : Bar m A A 0 0 1 id where
  dne := by grind
  rm := by omega
  rc := by omega
  clt := fun j h => absurd h (by omega)
  cinj := fun i j h => absurd h (by omega)
  wA := wA
  wE := fun i j _ => wA i j
  i2 := fun k j h => absurd h (by omega)
  i3 := fun i x _ _ h => absurd h (by omega)
  i4 := fun i x _ => by simp only [rs]; rw [if_neg (by omega)]; grind
  i5 := rfl
  i6 := fun Φ _ _ k h => absurd h (by omega)
  full := fun _ j h => absurd h (by omega)
section
variable {m : Nat} {A E : Mat} {r col : Nat} {d : Rat} {c : Nat → Nat}
theorem Bar.skip (h : Bar m A E r col d c) (hz : ∀ i, r ≤ i → i < m → E i col = 0) : Bar m A E r (col + 1) d c :=
  { h with
    rc := by have := h.rc; omega
    clt := fun j hj => by have := h.clt j hj; omega
    i3 := fun i x hi hm hx => by
      by_cases e : x = col
      · rw [e]; exact hz i hi hm
      · exact h.i3 i x hi hm (by omega)
    full := fun e => by have := h.rc; omega }
def sw (p r i : Nat) : Nat := if i = r then p else if i = p then r else i
theorem sw_lt {p r i : Nat} (hp : r ≤ p) (hi : i < r) : sw p r i = i := by unfold sw; rw [if_neg (by omega), if_neg (by omega)]
theorem sw_ge {p r i : Nat} (hp : r ≤ p) (hi : r ≤ i) : r ≤ sw p r i := by unfold sw; split; exact hp; split <;> omega
theorem sw_m {p r i m : Nat} (hp : p < m) (hr : r < m) (hi : i < m) : sw p r i < m := by unfold sw; split; exact hp; split <;> omega
theorem sw_sw (p r i : Nat) : sw p r (sw p r i) = i := by
  unfold sw
  by_cases h1 : i = r
  · rw [if_pos h1]
    by_cases h2 : p = r
    · rw [if_pos h2]; omega
    · rw [if_neg h2, if_pos rfl]; exact h1.symm
  · rw [if_neg h1]
    by_cases h2 : i = p
    · rw [if_pos h2, if_pos rfl]; exact h2.symm
    · rw [if_neg h2, if_neg h1, if_neg h2]
theorem Bar.swap (h : Bar m A E r col d c) {p : Nat} (hp : r ≤ p) (hpm : p < m) : Bar m (fun i => A (sw p r i)) (fun i => E (sw p r i)) r col d c :=
  { h with
    wA := fun i j => h.wA _ j
    wE := fun i j hi => h.wE _ j (sw_m hpm (by omega) hi)
    i2 := fun k j hk hj => by
      show E (sw p r k) (c j) = _
      rw [sw_lt hp hk]; exact h.i2 k j hk hj
    i3 := fun i x hi hm hx => h.i3 _ x (sw_ge hp hi) (sw_m hpm (by omega) hm) hx
    i4 := fun i x hm => by
      have e : (rs r fun k => A (sw p r i) (c k) * E (sw p r k) x) = rs r fun k => A (sw p r i) (c k) * E k x := rs_congr fun k hk => by rw [sw_lt hp hk]
      show d * A (sw p r i) x = (rs r fun k => A (sw p r i) (c k) * E (sw p r k) x) + _
      rw [e, h.i4 _ x (sw_m hpm (by omega) hm)]
      congr 1
      by_cases hi : i < r
      · rw [sw_lt hp hi, if_pos hi]
      · have := sw_ge hp (show r ≤ i by omega)
        rw [if_neg (by omega), if_neg hi]
    i5 := by
      rw [← h.i5]
      exact det_congr fun i j hi _ => by show A (sw p r i) (c j) = _; rw [sw_lt hp hi]
    i6 := fun Φ hΦ hs k hk => by
      show Φ (E (sw p r k)) = 0
      rw [sw_lt hp hk]
      exact h.i6 Φ hΦ (fun s hs' => by have := hs s hs'; rwa [sw_lt hp hs'] at this) k hk }
def clr (E : Mat) (r col : Nat) (d : Rat) : Mat := fun k x => if k = r then E r x else (E r col * E k x - E k col * E r x) / d
def c1 (c : Nat → Nat) (r col : Nat) : Nat → Nat := fun j => if j = r then col else c j
theorem c1_lt (c : Nat → Nat) {r col j : Nat} (h : j < r) : c1 c r col j = c j := by unfold c1; rw [if_neg (by omega)]
theorem c1_at (c : Nat → Nat) (r col : Nat) : c1 c r col r = col := by unfold c1; rw [if_pos rfl]
theorem clr_at (E : Mat) (r col : Nat) (d : Rat) : clr E r col d r = E r := by funext x; unfold clr; rw [if_pos rfl]
theorem clr_ne (E : Mat) {r col k : Nat} {d : Rat} (h : k ≠ r) (x : Nat) : clr E r col d k x = (E r col * E k x - E k col * E r x) / d := by unfold clr; rw [if_neg h]
theorem Bar.j2 (h : Bar m A E r col d c) (hr : r < m) : ∀ k j, k < r + 1 → j < r + 1 → clr E r col d k (c1 c r col j) = if j = k then E r col else 0 := fun k j hk hj => by
  have hd := h.dne
  by_cases kr : k = r
  · subst kr
    rw [clr_at]
    by_cases jr : j = k
    · rw [if_pos jr, jr, c1_at]
    · rw [if_neg jr, c1_lt c (by omega)]
      exact h.i3 k _ (Nat.le_refl _) hr (h.clt j (by omega))
  · rw [clr_ne E kr]
    by_cases jr : j = r
    · subst jr
      rw [c1_at, if_neg (by omega)]
      grind
    · rw [c1_lt c (by omega), h.i2 k j (by omega) (by omega), h.i3 r (c j) (Nat.le_refl _) hr (h.clt j (by omega))]
      by_cases e : j = k
      · rw [if_pos e, if_pos e]; grind
      · rw [if_neg e, if_neg e]; grind
theorem Bar.j4 (h : Bar m A E r col d c) (hr : r < m) : ∀ i x, i < m → E r col * A i x = (rs (r + 1) fun k => A i (c1 c r col k) * clr E r col d k x) + if i < r + 1 then 0 else clr E r col d i x := fun i x hi => by
  have hd := h.dne
  have q := h.i4 i x hi
  have q2 := h.i4 i col hi
  show _ = (rs r fun k => A i (c1 c r col k) * clr E r col d k x) + A i (c1 c r col r) * clr E r col d r x + _
  rw [c1_at, clr_at]
  have e : (rs r fun k => A i (c1 c r col k) * clr E r col d k x) = (E r col / d) * (rs r fun k => A i (c k) * E k x) + (-(E r x / d)) * rs r fun k => A i (c k) * E k col := by
    rw [← rs_mul, ← rs_mul, ← rs_add]
    exact rs_congr fun k hk => by rw [c1_lt c hk, clr_ne E (by omega)]; grind
  rw [e]
  generalize (rs r fun k => A i (c k) * E k x) = s1 at q ⊢
  generalize (rs r fun k => A i (c k) * E k col) = s2 at q2 ⊢
  by_cases h1 : i < r
  · rw [if_pos h1] at q q2
    rw [if_pos (by omega)]
    have : s1 = d * A i x := by grind
    have : s2 = d * A i col := by grind
    subst s1 s2
    grind
  · rw [if_neg h1] at q q2
    have a1 : s1 = d * A i x - E i x := by grind
    have a2 : s2 = d * A i col - E i col := by grind
    subst a1 a2
    by_cases h2 : i = r
    · subst h2
      rw [if_pos (by omega)]
      grind
    · rw [if_neg (by omega), clr_ne E h2]
      grind
theorem Bar.j6 (h : Bar m A E r col d c) (hr : r < m) : ∀ Φ, Lin Φ → (∀ s, s < r + 1 → Φ (A s) = 0) → ∀ k, k < r + 1 → Φ (clr E r col d k) = 0 := fun Φ hΦ hs k hk => by
  have hd := h.dne
  have z := h.i6 Φ hΦ fun s hs' => hs s (by omega)
  have zr : Φ (E r) = 0 := by
    have e : E r = fun x => (fun x => d * A r x) x + (-1) * (fun x => rs r fun k => A r (c k) * E k x) x := by
      funext x
      have := h.i4 r x hr
      rw [if_neg (by omega)] at this
      show E r x = d * A r x + (-1) * (rs r fun k => A r (c k) * E k x)
      grind
    rw [e, hΦ, hΦ.mul, hΦ.sum, hs r (by omega)]
    have : (rs r fun k => A r (c k) * Φ (E k)) = rs r fun _ => 0 := rs_congr fun k hk => by rw [z k hk]; grind
    rw [this, rs_zero]; grind
  by_cases kr : k = r
  · rw [kr, clr_at]; exact zr
  · have e : clr E r col d k = fun x => (fun x => (E r col / d) * E k x) x + (-(E k col / d)) * E r x := by
      funext x
      rw [clr_ne E kr]
      show _ = (E r col / d) * E k x + (-(E k col / d)) * E r x
      grind
    rw [e, hΦ, hΦ.mul, z k (by omega), zr]; grind
theorem Bar.j5 (h : Bar m A E r col d c) (hr : r < m) : det (r + 1) (fun i j => A i (c1 c r col j)) = E r col := by
  have hd := h.dne
  have e1 : det (r + 1) (fun i j => A i (c1 c r col j)) = F r A (c1 c r col) (A r) := by
    unfold F
    exact det_congr fun i j hi _ => by
      unfold bord
      by_cases e : i = r
      · rw [if_pos e, e]
      · rw [if_neg e]
  have hΦ := F_lin r A (c1 c r col)
  have z := h.i6 _ hΦ fun s hs => F_row r A (c1 c r col) hs
  have eA : A r = fun x => (fun x => (1 / d) * E r x) x + (1 / d) * (fun x => rs r fun k => A r (c k) * E k x) x := by
    funext x
    have := h.i4 r x hr
    rw [if_neg (by omega)] at this
    show A r x = (1 / d) * E r x + (1 / d) * (rs r fun k => A r (c k) * E k x)
    grind
  have zs : (rs r fun k => A r (c k) * F r A (c1 c r col) (E k)) = 0 := by
    have : (rs r fun k => A r (c k) * F r A (c1 c r col) (E k)) = rs r fun _ => 0 := rs_congr fun k hk => by rw [z k hk]; grind
    rw [this, rs_zero]
  have fb := F_block r A (c1 c r col) (E r) fun j hj => by rw [c1_lt c hj]; exact h.i3 r _ (Nat.le_refl _) hr (h.clt j hj)
  have dd : (det r fun i j => A i (c1 c r col j)) = d := by rw [← h.i5]; exact det_congr fun i j _ hj => by show A i (c1 c r col j) = _; rw [c1_lt c hj]
  rw [c1_at, dd] at fb
  rw [e1, eA, hΦ, hΦ.mul, hΦ.sum, zs, fb]
  grind
theorem Bar.wV (h : Bar m A E r col d c) (hr : r < m) (he : E r col ≠ 0) : ∀ i x, i < m → Wh (clr E r col d i x) := by
  have j2 := h.j2 hr
  have j4 := h.j4 hr
  have j5 := h.j5 hr
  have j6 := h.j6 hr
  have cin : ∀ i j, i < r + 1 → j < r + 1 → c1 c r col i = c1 c r col j → i = j := fun i j hi hj e => by
    by_cases a : i = r
    · by_cases b : j = r
      · omega
      · rw [a, c1_at, c1_lt c (by omega)] at e
        have := h.clt j (by omega)
        omega
    · by_cases b : j = r
      · rw [b, c1_at, c1_lt c (by omega)] at e
        have := h.clt i (by omega)
        omega
      · rw [c1_lt c (by omega), c1_lt c (by omega)] at e
        exact h.cinj i j (by omega) (by omega) e
  have top : ∀ k x, k < r + 1 → Wh (clr E r col d k x) := fun k x hk => by
    by_cases hx : ∃ j, j < r + 1 ∧ x = c1 c r col j
    · obtain ⟨j, hj, rfl⟩ := hx
      rw [j2 k j hk hj]
      split
      · exact h.wE r col hr
      · exact Wh.nil
    · let c2 : Nat → Nat := fun j => if j = r + 1 then x else c1 c r col j
      let u : Nat → Rat := fun j => if j = c1 c r col k then 1 else 0
      have hΦ := F_lin (r + 1) A c2
      have z := j6 _ hΦ (fun s hs => F_row (r + 1) A c2 hs) k hk
      have eu : u = fun y => (fun y => u y + (-(1 / E r col)) * clr E r col d k y) y + (1 / E r col) * clr E r col d k y := by
        funext y
        show u y = u y + (-(1 / E r col)) * clr E r col d k y + (1 / E r col) * clr E r col d k y
        grind
      have fb := F_block (r + 1) A c2 (fun y => u y + (-(1 / E r col)) * clr E r col d k y) fun j hj => by
        have ec : c2 j = c1 c r col j := by show (if j = r + 1 then x else c1 c r col j) = _; rw [if_neg (by omega)]
        rw [ec]
        show u (c1 c r col j) + (-(1 / E r col)) * clr E r col d k (c1 c r col j) = 0
        rw [j2 k j hk hj]
        show (if c1 c r col j = c1 c r col k then (1 : Rat) else 0) + _ = 0
        by_cases e : j = k
        · rw [if_pos e, if_pos (by rw [e])]; grind
        · rw [if_neg e, if_neg (fun q => e (cin j k hj hk q))]; grind
      have dd : (det (r + 1) fun i j => A i (c2 j)) = E r col := by
        rw [← j5]
        exact det_congr fun i j _ hj => by show A i (if j = r + 1 then x else c1 c r col j) = _; rw [if_neg (by omega)]
      have ux : u x = 0 := by show (if x = c1 c r col k then (1 : Rat) else 0) = 0; rw [if_neg (fun q => hx ⟨k, hk, q⟩)]
      have cx : c2 (r + 1) = x := by show (if r + 1 = r + 1 then x else _) = x; rw [if_pos rfl]
      rw [dd, cx] at fb
      have val : F (r + 1) A c2 u = - clr E r col d k x := by
        rw [eu, hΦ, z, fb]
        show (u x + (-(1 / E r col)) * clr E r col d k x) * E r col + _ = _
        rw [ux]; grind
      have wh : Wh (F (r + 1) A c2 u) := F_whole h.wA fun j => by
        show Wh (if j = c1 c r col k then (1 : Rat) else 0)
        split
        · exact Wh.one
        · exact Wh.nil
      rw [val] at wh
      have := wh.neg
      rwa [show - - clr E r col d k x = clr E r col d k x by grind] at this
  intro i x hi
  by_cases h1 : i < r + 1
  · exact top i x h1
  · have q := j4 i x hi
    rw [if_neg h1] at q
    have e : clr E r col d i x = E r col * A i x - rs (r + 1) fun k => A i (c1 c r col k) * clr E r col d k x := by grind
    rw [e]
    exact Wh.sub (Wh.mul (h.wE r col hr) (h.wA i x)) (rs_whole fun k hk => Wh.mul (h.wA _ _) (top k x hk))
theorem Bar.clear (h : Bar m A E r col d c) (hr : r < m) (he : E r col ≠ 0) : Bar m A (clr E r col d) (r + 1) (col + 1) (E r col) (c1 c r col) where
  dne := he
  rm := hr
  rc := by have := h.rc; omega
  clt := fun j hj => by
    by_cases e : j = r
    · rw [e, c1_at]; omega
    · rw [c1_lt c (by omega)]
      have := h.clt j (by omega)
      omega
  cinj := fun i j hi hj e => by
    by_cases a : i = r
    · by_cases b : j = r
      · omega
      · rw [a, c1_at, c1_lt c (by omega)] at e
        have := h.clt j (by omega)
        omega
    · by_cases b : j = r
      · rw [b, c1_at, c1_lt c (by omega)] at e
        have := h.clt i (by omega)
        omega
      · rw [c1_lt c (by omega), c1_lt c (by omega)] at e
        exact h.cinj i j (by omega) (by omega) e
  wA := h.wA
  wE := fun i j hi => h.wV hr he i j hi
  i2 := h.j2 hr
  i3 := fun i x hi hm hx => by
    rw [clr_ne E (by omega)]
    by_cases e : x = col
    · rw [e]; grind
    · rw [h.i3 i x (by omega) hm (by omega), h.i3 r x (Nat.le_refl _) hr (by omega)]; grind
  i4 := h.j4 hr
  i5 := h.j5 hr
  i6 := h.j6 hr
  full := fun e j hj => by
    by_cases a : j = r
    · rw [a, c1_at]; omega
    · rw [c1_lt c (by omega)]
      exact h.full (by omega) j (by omega)
end
end Mq

set_option linter.all false
namespace Mq
/-! elimination over lists of whole numbers -/
def ent (R : List (List Int)) (i x : Nat) : Int := (R.getD i []).getD x 0
def at2 (R : List (List Int)) : Mat := fun i x => ((ent R i x : Int) : Rat)
theorem Bar.congr {m : Nat} {A E E' : Mat} {r col : Nat} {d : Rat} {c : Nat → Nat} (h : Bar m A E r col d c) (e : ∀ i, i < m → E i = E' i) : Bar m A E' r col d c :=
  { h with
    wE := fun i j hi => by rw [← e i hi]; exact h.wE i j hi
    i2 := fun k j hk hj => by rw [← e k (by have := h.rm; omega)]; exact h.i2 k j hk hj
    i3 := fun i x hi hm hx => by rw [← e i hm]; exact h.i3 i x hi hm hx
    i4 := fun i x hm => by
      rw [h.i4 i x hm]
      congr 1
      · exact rs_congr fun k hk => by rw [e k (by have := h.rm; omega)]
      · rw [e i hm]
    i6 := fun Φ hΦ hs k hk => by rw [← e k (by have := h.rm; omega)]; exact h.i6 Φ hΦ hs k hk }
/-- two rows exchanged -/
theorem det_sw (n : Nat) : ∀ (t p r : Nat) (A : Mat), p = r + t + 1 → p < n → det n (fun i => A (sw p r i)) = - det n A
  | 0, p, r, A, h, hp => by
    subst h
    rw [← swap_adj n r A (by omega)]
    exact det_congr fun i j _ _ => by
      show A (sw (r + 0 + 1) r i) j = swapR r A i j
      unfold sw swapR
      by_cases h1 : i = r
      · rw [if_pos h1, if_pos h1]
      · rw [if_neg h1, if_neg h1]
        by_cases h2 : i = r + 1
        · rw [if_pos (by omega), if_pos h2]
        · rw [if_neg (by omega), if_neg h2]
  | t + 1, p, r, A, h, hp => by
    have ih := det_sw n t (r + t + 1) r (swapR (r + t + 1) A) rfl (by omega)
    have s1 := swap_adj n (r + t + 1) A (by omega)
    have s2 := swap_adj n (r + t + 1) (fun i => swapR (r + t + 1) A (sw (r + t + 1) r i)) (by omega)
    have e : det n (fun i => A (sw p r i)) = det n (swapR (r + t + 1) (fun i => swapR (r + t + 1) A (sw (r + t + 1) r i))) := det_congr fun i j _ _ => by
      subst h
      show A (sw (r + (t + 1) + 1) r i) j = swapR (r + t + 1) (fun i => swapR (r + t + 1) A (sw (r + t + 1) r i)) i j
      by_cases h1 : i = r
      · have a1 : sw (r + (t + 1) + 1) r i = r + t + 1 + 1 := by unfold sw; rw [if_pos h1]; omega
        have a2 : sw (r + t + 1) r i = r + t + 1 := by unfold sw; rw [if_pos h1]
        rw [a1]
        unfold swapR
        rw [if_neg (by omega), if_neg (by omega)]
        dsimp only
        rw [a2, if_pos rfl]
      · by_cases h2 : i = r + t + 1 + 1
        · have a1 : sw (r + (t + 1) + 1) r i = r := by unfold sw; rw [if_neg h1, if_pos (by omega)]
          have a2 : sw (r + t + 1) r (r + t + 1) = r := by unfold sw; rw [if_neg (by omega), if_pos rfl]
          rw [a1]
          unfold swapR
          rw [if_neg (by omega), if_pos h2]
          dsimp only
          rw [a2, if_neg (by omega), if_neg (by omega)]
        · have a1 : sw (r + (t + 1) + 1) r i = i := by unfold sw; rw [if_neg h1, if_neg (by omega)]
          rw [a1]
          by_cases h3 : i = r + t + 1
          · have a2 : sw (r + t + 1) r (r + t + 1 + 1) = r + t + 1 + 1 := by unfold sw; rw [if_neg (by omega), if_neg (by omega)]
            unfold swapR
            rw [if_pos h3]
            dsimp only
            rw [a2, if_neg (by omega), if_pos rfl, h3]
          · have a2 : sw (r + t + 1) r i = i := by unfold sw; rw [if_neg h1, if_neg h3]
            unfold swapR
            rw [if_neg h3, if_neg h2]
            dsimp only
            rw [a2, if_neg h3, if_neg h2]
    rw [e, s2, ih, s1]; grind
def swRows (R : List (List Int)) (p r : Nat) : List (List Int) := (R.set p (R.getD r [])).set r (R.getD p [])
theorem sw_len (R : List (List Int)) (p r : Nat) : (swRows R p r).length = R.length := by unfold swRows; simp
theorem ent_sw {R : List (List Int)} {p r : Nat} (hp : p < R.length) (hr : r < R.length) (i : Nat) : (swRows R p r).getD i [] = R.getD (sw p r i) [] := by
  unfold swRows sw
  rw [List.getD_eq_getElem?_getD]
  by_cases h1 : i = r
  · rw [if_pos h1, h1, List.getElem?_set_self (by simpa using hr)]; rfl
  · rw [if_neg h1, List.getElem?_set_ne (Ne.symm h1)]
    by_cases h2 : i = p
    · rw [if_pos h2, h2, List.getElem?_set_self hp]; rfl
    · rw [if_neg h2, List.getElem?_set_ne (Ne.symm h2), List.getD_eq_getElem?_getD]
def clrRow (upper row : List Int) (col : Nat) (dv : Int) : List Int := List.zipWith (fun here above => Int.fdiv (upper.getD col 0 * here - row.getD col 0 * above) dv) row upper
def clrRows (R : List (List Int)) (r col : Nat) (dv : Int) : List (List Int) := R.mapIdx fun i row => if i = r then row else clrRow (R.getD r []) row col dv
theorem clr_len (R : List (List Int)) (r col : Nat) (dv : Int) : (clrRows R r col dv).length = R.length := by unfold clrRows; simp
theorem clr_get {R : List (List Int)} {i : Nat} (hi : i < R.length) (r col : Nat) (dv : Int) : (clrRows R r col dv).getD i [] = if i = r then R.getD i [] else clrRow (R.getD r []) (R.getD i []) col dv := by
  unfold clrRows
  rw [List.getD_eq_getElem?_getD, List.getElem?_mapIdx, List.getElem?_eq_getElem hi]
  have : R.getD i [] = R[i] := by rw [List.getD_eq_getElem?_getD, List.getElem?_eq_getElem hi]; rfl
  rw [this]
  rfl
structure SI (m w : Nat) (A0 : Mat) (R : List (List Int)) (r col : Nat) (d sg : Int) : Prop where
  len : R.length = m
  wid : ∀ i, i < m → (R.getD i []).length = w
  bar : ∃ A c, Bar m A (at2 R) r col (d : Rat) c ∧ det m A = (sg : Rat) * det m A0
  one : sg = 1 ∨ sg = -1
theorem SI.start {m w : Nat} {R : List (List Int)} (h : R.length = m) (hw : ∀ i, i < m → (R.getD i []).length = w) : SI m w (at2 R) R 0 0 1 1 :=
  ⟨h, hw, ⟨at2 R, id, by
    have := Bar.start (m := m) (A := at2 R) fun i j => ⟨_, rfl⟩
    simpa using this, by simp⟩, .inl rfl⟩
theorem SI.skip {m w : Nat} {A0 : Mat} {R : List (List Int)} {r col : Nat} {d sg : Int} (h : SI m w A0 R r col d sg) (hz : ∀ i, r ≤ i → i < m → ent R i col = 0) : SI m w A0 R r (col + 1) d sg := by
  obtain ⟨A, c, B, e⟩ := h.bar
  exact ⟨h.len, h.wid, ⟨A, c, B.skip fun i h1 h2 => by unfold at2; rw [hz i h1 h2]; simp, e⟩, h.one⟩
theorem SI.swap {m w : Nat} {A0 : Mat} {R : List (List Int)} {r col : Nat} {d sg : Int} (h : SI m w A0 R r col d sg) {p : Nat} (hp : r < p) (hm : p < m) : SI m w A0 (swRows R p r) r col d (-sg) := by
  obtain ⟨A, c, B, e⟩ := h.bar
  have hl := h.len
  have gd := fun i => ent_sw (R := R) (p := p) (r := r) (by omega) (by omega) i
  refine ⟨(sw_len R p r).trans hl, fun i hi => ?_, ⟨_, c, (B.swap (by omega) hm).congr fun i hi => ?_, ?_⟩, ?_⟩
  · rw [gd i]; exact h.wid _ (sw_m hm (by omega) hi)
  · funext x
    show (((R.getD (sw p r i) []).getD x 0 : Int) : Rat) = ((((swRows R p r).getD i []).getD x 0 : Int) : Rat)
    rw [gd i]
  · rw [det_sw m (p - r - 1) p r A (by omega) hm, e, Rat.intCast_neg]; grind
  · rcases h.one with z | z
    · right; omega
    · left; omega
theorem get_some {l : List Int} {x : Nat} (h : x < l.length) : l[x]? = some (l.getD x 0) := by rw [List.getD_eq_getElem?_getD, List.getElem?_eq_getElem h]; rfl
theorem get_none {l : List Int} {x : Nat} (h : l.length ≤ x) : l.getD x 0 = 0 := by rw [List.getD_eq_getElem?_getD, List.getElem?_eq_none h]; rfl
/-- what a cleared row holds -/
theorem clr_ent {m w : Nat} {A A0 : Mat} {R : List (List Int)} {r col : Nat} {d sg : Int} (h : SI m w A0 R r col d sg) {c : Nat → Nat} (B : Bar m A (at2 R) r col (d : Rat) c) (hr : r < m) (hc : col < w) (he : ent R r col ≠ 0) {i : Nat} (hi : i < m) (hir : i ≠ r) (x : Nat) :
    ∃ z : Int, (clrRow (R.getD r []) (R.getD i []) col d).getD x 0 = z ∧ (z : Rat) = clr (at2 R) r col (d : Rat) i x ∧ (x < w → ent R r col * ent R i x - ent R i col * ent R r x = d * z) := by
  have dn : d ≠ 0 := fun z => B.dne (by rw [z]; simp)
  have dq := B.dne
  have heq : at2 R r col ≠ 0 := fun z => he (Rat.intCast_inj.mp (by unfold at2 at z; simpa using z))
  have wi := h.wid i hi
  have wr := h.wid r hr
  by_cases hx : x < w
  · obtain ⟨z, hz⟩ := B.wV hr heq i x hi
    have e1 : ent R r col * ent R i x - ent R i col * ent R r x = d * z := by
      rw [clr_ne _ hir] at hz
      have : ((ent R r col * ent R i x - ent R i col * ent R r x : Int) : Rat) = ((d * z : Int) : Rat) := by
        rw [Rat.intCast_sub, Rat.intCast_mul, Rat.intCast_mul, Rat.intCast_mul, ← hz]
        show at2 R r col * at2 R i x - at2 R i col * at2 R r x = _
        grind
      exact Rat.intCast_inj.mp this
    refine ⟨z, ?_, hz.symm, fun _ => e1⟩
    unfold clrRow
    have g1 : (R.getD i [])[x]? = some ((R.getD i []).getD x 0) := get_some (by omega)
    have g2 : (R.getD r [])[x]? = some ((R.getD r []).getD x 0) := get_some (by omega)
    rw [List.getD_eq_getElem?_getD (l := List.zipWith _ _ _), List.getElem?_zipWith, g1, g2]
    exact fdiv_exact dn e1
  · refine ⟨0, ?_, ?_, fun h => absurd h hx⟩
    · unfold clrRow
      exact get_none (by rw [List.length_zipWith, wi, wr]; omega)
    · rw [clr_ne _ hir]
      have a1 : at2 R i x = 0 := by unfold at2 ent; rw [get_none (by omega)]; simp
      have a2 : at2 R r x = 0 := by unfold at2 ent; rw [get_none (by omega)]; simp
      rw [a1, a2]; simp; grind
theorem SI.clear {m w : Nat} {A0 : Mat} {R : List (List Int)} {r col : Nat} {d sg : Int} (h : SI m w A0 R r col d sg) (hr : r < m) (hc : col < w) (he : ent R r col ≠ 0) : SI m w A0 (clrRows R r col d) (r + 1) (col + 1) (ent R r col) sg := by
  obtain ⟨A, c, B, e⟩ := h.bar
  have hl := h.len
  have heq : at2 R r col ≠ 0 := fun z => he (Rat.intCast_inj.mp (by unfold at2 at z; simpa using z))
  refine ⟨(clr_len R r col d).trans hl, fun i hi => ?_, ⟨A, _, (B.clear hr heq).congr fun i hi => ?_, e⟩, h.one⟩
  · rw [clr_get (by omega)]
    split
    · exact h.wid i hi
    · unfold clrRow
      rw [List.length_zipWith, h.wid i hi, h.wid r hr, Nat.min_self]
  · funext x
    show clr (at2 R) r col (d : Rat) i x = ((((clrRows R r col d).getD i []).getD x 0 : Int) : Rat)
    rw [clr_get (by omega)]
    by_cases hir : i = r
    · rw [if_pos hir, hir, clr_at]; rfl
    · rw [if_neg hir]
      obtain ⟨z, h1, h2, _⟩ := clr_ent h B hr hc he hi hir x
      rw [h1, h2]
/-- bounds -/
def BdR (n : Nat) (R : List (List Int)) : Prop := ∀ i x, B n (ent R i x)
/-- at the end -/
theorem SI.whole {m w : Nat} {A0 : Mat} {R : List (List Int)} {d sg : Int} (h : SI m w A0 R m m d sg) : det m A0 = (sg : Rat) * (d : Rat) := by
  obtain ⟨A, c, B, e⟩ := h.bar
  have f := B.full rfl
  have i5 := B.i5
  have : det m (fun i j => A i (c j)) = det m A := det_congr fun i j _ hj => by show A i (c j) = A i j; rw [f j hj]
  rw [this, e] at i5
  rcases h.one with z | z
  · rw [z] at i5 ⊢; simp at i5 ⊢; exact i5
  · rw [z, Rat.intCast_neg] at i5 ⊢; simp at i5 ⊢; grind
theorem SI.lame {m w : Nat} {A0 : Mat} {R : List (List Int)} {r : Nat} {d sg : Int} (h : SI m w A0 R r m d sg) (hr : r < m) : det m A0 = 0 := by
  obtain ⟨A, c, B, e⟩ := h.bar
  obtain ⟨n, rfl⟩ : ∃ n, m = n + 1 := ⟨m - 1, by omega⟩
  have dq := B.dne
  have e1 : det (n + 1) A = F n A id (A n) := by
    unfold F
    exact det_congr fun i j hi _ => by
      unfold bord
      by_cases z : i = n
      · rw [if_pos z, z]; rfl
      · rw [if_neg z]; rfl
  have hΦ := F_lin n A id
  have z := B.i6 _ hΦ fun s hs => F_row n A id (by omega)
  have eA : A n = fun x => (fun x => (1 / (d : Rat)) * at2 R n x) x + (1 / (d : Rat)) * (fun x => rs r fun k => A n (c k) * at2 R k x) x := by
    funext x
    have := B.i4 n x (by omega)
    rw [if_neg (by omega)] at this
    show A n x = (1 / (d : Rat)) * at2 R n x + (1 / (d : Rat)) * (rs r fun k => A n (c k) * at2 R k x)
    grind
  have zs : (rs r fun k => A n (c k) * F n A id (at2 R k)) = 0 := by
    have : (rs r fun k => A n (c k) * F n A id (at2 R k)) = rs r fun _ => 0 := rs_congr fun k hk => by rw [z k hk]; grind
    rw [this, rs_zero]
  have zn : F n A id (at2 R n) = 0 := by
    rw [F_eq]
    have : (rs (n + 1) fun j => sgn (n + j) * at2 R n (id j) * det n fun i k => A i (id (Mq.skip j k))) = rs (n + 1) fun _ => 0 := rs_congr fun j hj => by
      rw [show at2 R n (id j) = 0 from B.i3 n j (by omega) (by omega) hj]; grind
    rw [this, rs_zero]
  have : det (n + 1) A = 0 := by
    rw [e1, eA, hΦ, hΦ.mul, hΦ.sum, zs, zn]; grind
  rw [this] at e
  rcases h.one with q | q
  · rw [q] at e; simp at e; exact e.symm
  · rw [q, Rat.intCast_neg] at e; simp at e; grind
/-- rows times numbers -/
def prod : Nat → (Nat → Rat) → Rat
  | 0, _ => 1
  | n + 1, b => prod n b * b n
theorem det_scale : ∀ (n : Nat) (b : Nat → Rat) (Q : Mat), det n (fun i j => b i * Q i j) = prod n b * det n Q
  | 0, _, _ => by simp [det, prod]
  | n + 1, b, Q => by
    rw [det_succ, det_succ, ← rs_mul]
    refine rs_congr fun j _ => ?_
    have := det_scale n b (fun i k => Q i (Mq.skip j k))
    show sgn (n + j) * (b n * Q n j) * det n (fun i k => b i * Q i (Mq.skip j k)) = prod n b * b n * _
    rw [this]; grind
end Mq

set_option Elab.async false
set_option linter.all false
set_option maxRecDepth 100000
set_option maxHeartbeats 4000000
namespace Shp
open PySem L2
/-- a list of lists of whole numbers, none of them the list at D -/
inductive Imx (D : Addr) (H : Hp) : List V → List (List Int) → Prop where
  | nil : Imx D H [] []
  | cons {u : Addr} {r : List Int} {us : List V} {R : List (List Int)} (ne : u ≠ D) (h : H u = some (.lst (r.map V.int))) (q : Imx D H us R) : Imx D H (.ref u :: us) (r :: R)
theorem Imx.same {D : Addr} {H H' : Hp} (e : Same H H') : ∀ {xs : List V} {R : List (List Int)}, Imx D H xs R → Imx D H' xs R
  | _, _, .nil => .nil
  | _, _, .cons n h q => .cons n (e _ _ h) (q.same e)
theorem Imx.upd {D : Addr} {H : Hp} {o : HO} : ∀ {xs : List V} {R : List (List Int)}, Imx D H xs R → Imx D (L2.upd H D o) xs R
  | _, _, .nil => .nil
  | _, _, .cons n h q => .cons n (by rw [upd_ne n]; exact h) q.upd
theorem Imx.length {D : Addr} {H : Hp} : ∀ {xs : List V} {R : List (List Int)}, Imx D H xs R → xs.length = R.length
  | _, _, .nil => rfl
  | _, _, .cons _ _ q => by rw [List.length_cons, List.length_cons, q.length]
theorem Imx.get {D : Addr} {H : Hp} : ∀ {xs : List V} {R : List (List Int)} {i : Nat} {x : V}, Imx D H xs R → xs[i]? = some x → ∃ u r, x = .ref u ∧ R[i]? = some r ∧ u ≠ D ∧ H u = some (.lst (r.map V.int))
  | _, _, 0, _, .cons n h q, e => by simp at e; exact ⟨_, _, e.symm, rfl, n, h⟩
  | _, _, i + 1, _, .cons n h q, e => by simp at e; exact q.get e
theorem Imx.at {D : Addr} {H : Hp} {xs : List V} {R : List (List Int)} (h : Imx D H xs R) {i : Nat} (hi : i < R.length) : ∃ u, xs[i]? = some (.ref u) ∧ u ≠ D ∧ H u = some (.lst ((R.getD i []).map V.int)) := by
  have hx : i < xs.length := by rw [h.length]; exact hi
  obtain ⟨u, r, e1, e2, e3, e4⟩ := h.get (List.getElem?_eq_getElem hx)
  refine ⟨u, by rw [List.getElem?_eq_getElem hx, e1], e3, ?_⟩
  rw [List.getD_eq_getElem?_getD, e2]; exact e4
theorem Imx.app {D : Addr} {H : Hp} : ∀ {xs ys : List V} {R S : List (List Int)}, Imx D H xs R → Imx D H ys S → Imx D H (xs ++ ys) (R ++ S)
  | _, _, _, _, .nil, k => k
  | _, _, _, _, .cons n h q, k => .cons n h (q.app k)
theorem Imx.set {D : Addr} {H : Hp} {u : Addr} {r : List Int} (hn : u ≠ D) (hu : H u = some (.lst (r.map V.int))) : ∀ {xs : List V} {R : List (List Int)} (i : Nat), Imx D H xs R → Imx D H (xs.set i (.ref u)) (R.set i r)
  | _, _, _, .nil => by simp; exact .nil
  | _, _, 0, .cons n h q => .cons hn hu q
  | _, _, i + 1, .cons n h q => .cons n h (q.set hn hu i)
theorem Imx.other {D D' : Addr} {H : Hp} (hD : H D' = none) : ∀ {xs : List V} {R : List (List Int)}, Imx D H xs R → Imx D' H xs R
  | _, _, .nil => .nil
  | _, _, .cons n h q => .cons (fun z => by rw [z, hD] at h; cases h) h (q.other hD)
/-- rows in whole numbers, each with its bottom; the rows lists that can be told apart from new ones -/
inductive Wmx (K : PySem.W.Frag) (D : Addr) (H : Hp) : List V → List (List Int × Int) → Prop where
  | nil : Wmx K D H [] []
  | cons {t l : Addr} {r : List Int × Int} {us : List V} {rs : List (List Int × Int)} (ne : l ≠ D) (h : SqT K H t [.ref l, .int r.2]) (f : H l = some (.lst (r.1.map V.int))) (q : Wmx K D H us rs) : Wmx K D H (.ref t :: us) (r :: rs)
theorem Wmx.same {K : PySem.W.Frag} {D : Addr} {H H' : Hp} (e : Same H H') : ∀ {xs : List V} {rs : List (List Int × Int)}, Wmx K D H xs rs → Wmx K D H' xs rs
  | _, _, .nil => .nil
  | _, _, .cons n h f q => .cons n (e.seqT h) (e _ _ f) (q.same e)
theorem Wmx.upd {K : PySem.W.Frag} {D : Addr} {H : Hp} {ys : List V} {o : HO} (hl : H D = some (.lst ys)) : ∀ {xs : List V} {rs : List (List Int × Int)}, Wmx K D H xs rs → Wmx K D (L2.upd H D o) xs rs
  | _, _, .nil => .nil
  | _, _, .cons n h f q => .cons n (h.upd hl) (by rw [upd_ne n]; exact f) (q.upd hl)
theorem Wmx.length {K : PySem.W.Frag} {D : Addr} {H : Hp} : ∀ {xs : List V} {rs : List (List Int × Int)}, Wmx K D H xs rs → xs.length = rs.length
  | _, _, .nil => rfl
  | _, _, .cons _ _ _ q => by rw [List.length_cons, List.length_cons, q.length]
theorem Wmx.get {K : PySem.W.Frag} {D : Addr} {H : Hp} : ∀ {xs : List V} {rs : List (List Int × Int)} {i : Nat} {x : V}, Wmx K D H xs rs → xs[i]? = some x → ∃ t l r, x = .ref t ∧ rs[i]? = some r ∧ SqT K H t [.ref l, .int r.2] ∧ H l = some (.lst (r.1.map V.int))
  | _, _, 0, _, .cons n h f q, e => by simp at e; exact ⟨_, _, _, e.symm, rfl, h, f⟩
  | _, _, i + 1, _, .cons n h f q, e => by simp at e; exact q.get e
theorem Wmx.app {K : PySem.W.Frag} {D : Addr} {H : Hp} : ∀ {xs ys : List V} {rs ss : List (List Int × Int)}, Wmx K D H xs rs → Wmx K D H ys ss → Wmx K D H (xs ++ ys) (rs ++ ss)
  | _, _, _, _, .nil, k => k
  | _, _, _, _, .cons n h f q, k => .cons n h f (q.app k)
/-- what is read of a list by a place that is a count -/
theorem map_get {l : List Int} {i : Nat} (h : i < l.length) : (l.map V.int)[i]? = some (.int (l.getD i 0)) := by
  rw [List.getElem?_map, Mq.get_some h]; rfl
/-! the promises -/
def spIWd (K : PySem.W.Frag) : Sp := fun vs H Q _ => ∃ (a : Addr) (xs : List V) (ps : List Mq.Q2) (n : Nat), vs = [.ref a] ∧ SqL K H a xs ∧ Fqs K H xs ps ∧ Mq.Pos ps ∧ (∀ p ∈ ps, Mq.Bd n p) ∧ ps.length ≤ 100 ∧ 10 + n + n * ps.length ≤ 8000 ∧
  ∀ t l H', Same H H' → H l = none → SqT K H' t [.ref l, .int (Mq.lcmB ps)] → H' l = some (.lst ((Mq.iw ps).map V.int)) → Q (.ref t) H'
def spPiv (K : PySem.W.Frag) : Sp := fun vs H Q _ => ∃ (l D : Addr) (zs : List V) (R : List (List Int)) (r c m w : Nat), vs = [.ref l, .int (r : Int), .int (c : Int)] ∧ SqL K H l zs ∧ Imx D H zs R ∧ R.length = m ∧ (∀ i, i < m → (R.getD i []).length = w) ∧ c < w ∧ r ≤ m ∧ m ≤ 100 ∧
  (∀ p, r ≤ p → p < m → Mq.ent R p c ≠ 0 → Q (.int (p : Int)) H) ∧ ((∀ i, r ≤ i → i < m → Mq.ent R i c = 0) → Q .non H)
def spCleared (K : PySem.W.Frag) : Sp := fun vs H Q _ => ∃ (u v : Addr) (row upper : List Int) (c n : Nat) (dv : Int), vs = [.ref u, .ref v, .int (c : Int), .int dv] ∧ SqL K H u (row.map V.int) ∧ SqL K H v (upper.map V.int) ∧ row.length = upper.length ∧ row.length ≤ 100 ∧ c < row.length ∧ dv ≠ 0 ∧
  (∀ i, Mq.B n (row.getD i 0)) ∧ (∀ i, Mq.B n (upper.getD i 0)) ∧ Mq.B n dv ∧ n ≤ 9000 ∧
  ∀ l H', Same H H' → H l = none → H' l = some (.lst ((Mq.clrRow upper row c dv).map V.int)) → Q (.ref l) H'
def spClrRows (K : PySem.W.Frag) : Sp := fun vs H Q _ => ∃ (l D : Addr) (zs : List V) (R : List (List Int)) (r c m w n : Nat) (dv : Int), vs = [.ref l, .int (r : Int), .int (c : Int), .int dv] ∧ SqL K H l zs ∧ Imx D H zs R ∧ R.length = m ∧ (∀ i, i < m → (R.getD i []).length = w) ∧ c < w ∧ w ≤ 100 ∧ r < m ∧ m ≤ 100 ∧ dv ≠ 0 ∧ Mq.BdR n R ∧ Mq.B n dv ∧ n ≤ 9000 ∧
  ∀ l' zs' H', Same H H' → H l' = none → H' l' = some (.lst zs') → Imx l' H' zs' (Mq.clrRows R r c dv) → Q (.ref l') H'
/-- how many bits the numbers have behind k steps -/
def bitsAt (n : Nat) : Nat → Nat
  | 0 => n
  | k + 1 => bitsAt n k + bitsAt n k + 1
def elimD (l : Addr) (rank : Nat) (pivot sign : Int) : HO := .dK (mergeK [] [(.inr "rows", .ref l), (.inr "rank", .int (rank : Int)), (.inr "pivot", .int pivot), (.inr "sign", .int sign)])
def spElim (K : PySem.W.Frag) : Sp := fun vs H Q _ => ∃ (l D : Addr) (zs : List V) (R : List (List Int)) (m w n : Nat), vs = [.ref l, .int (m : Int)] ∧ SqL K H l zs ∧ Imx D H zs R ∧ R.length = m ∧ (∀ i, i < m → (R.getD i []).length = w) ∧ m ≤ w ∧ w ≤ 100 ∧ Mq.BdR n R ∧ 1 ≤ n ∧ bitsAt n m ≤ 9000 ∧
  ∀ d l' zs' R' rank pivot sign H', Same H H' → H d = none → H l' = none → H' d = some (elimD l' rank pivot sign) → H' l' = some (.lst zs') → Imx l' H' zs' R' → Mq.SI m w (Mq.at2 R) R' rank m pivot sign → Mq.BdR (bitsAt n m) R' → Mq.B (bitsAt n m) pivot → Q (.ref d) H'
/-- the weight of a matrix -/
def wgt (X : List (List Mq.Q2)) : Rat := Mq.det X.length fun i j => Mq.val ((X.getD i []).getD j Mq.z0)
def spWeight (K : PySem.W.Frag) : Sp := fun vs H Q _ => ∃ (g D : Addr) (us : List V) (X : List (List Mq.Q2)), vs = [.ref g] ∧ SqL K H g us ∧ Fmx K D H us X ∧ Mq.AllPos X ∧ (∀ row ∈ X, (∀ p ∈ row, Mq.Bd 60 p) ∧ row.length = X.length) ∧ X.length ≤ 4 ∧
  ∀ a p H', Same H H' → Fq K H' a p → Mq.Low p → Mq.Bd 9001 p → Mq.val p = wgt X → Q (.ref a) H'
theorem elim_get {H : Hp} {d l : Addr} {rank : Nat} {pivot sign : Int} (h : H d = some (elimD l rank pivot sign)) : DGet H d (.str "rows") (some (.ref l)) ∧ DGet H d (.str "rank") (some (.int (rank : Int))) ∧ DGet H d (.str "pivot") (some (.int pivot)) ∧ DGet H d (.str "sign") (some (.int sign)) := by
  refine ⟨?_, ?_, ?_, ?_⟩
  · exact DGet.k (k := (Sum.inr "rows" : Key)) h
  · exact DGet.k (k := (Sum.inr "rank" : Key)) h
  · exact DGet.k (k := (Sum.inr "pivot" : Key)) h
  · exact DGet.k (k := (Sum.inr "sign" : Key)) h
/-- the bottoms' product -/
def botP (X : List (List Mq.Q2)) : Int := X.foldl (fun b row => b * Mq.lcmB row) 1
theorem botP_take {X : List (List Mq.Q2)} {i : Nat} {row : List Mq.Q2} (h : X[i]? = some row) : botP (X.take (i + 1)) = botP (X.take i) * Mq.lcmB row := by
  unfold botP; rw [List.take_add_one, h, List.foldl_append]; rfl
theorem botP_prod (X : List (List Mq.Q2)) : ∀ i, i ≤ X.length → ((botP (X.take i) : Int) : Rat) = Mq.prod i fun k => ((Mq.lcmB (X.getD k []) : Int) : Rat)
  | 0, _ => by simp [botP, Mq.prod]
  | i + 1, h => by
    have e : X[i]? = some (X.getD i []) := by rw [List.getD_eq_getElem?_getD, List.getElem?_eq_getElem (by omega)]; rfl
    rw [botP_take e, Rat.intCast_mul, botP_prod X i (by omega)]; rfl
theorem botP_ge {X : List (List Mq.Q2)} (hX : Mq.AllPos X) : ∀ i, i ≤ X.length → 1 ≤ botP (X.take i)
  | 0, _ => by show (1 : Int) ≤ 1; omega
  | i + 1, h => by
    have e : X[i]? = some (X.getD i []) := by rw [List.getD_eq_getElem?_getD, List.getElem?_eq_getElem (by omega)]; rfl
    rw [botP_take e]
    have h1 := botP_ge hX i (by omega)
    have h2 := Mq.lcmB_ge (hX _ (List.mem_of_getElem? e))
    have := Int.mul_pos (show 0 < botP (X.take i) by omega) (show 0 < Mq.lcmB (X.getD i []) by omega)
    omega
theorem iw_get {row : List Mq.Q2} (hp : Mq.Pos row) {j : Nat} (hj : j < row.length) : (((Mq.iw row).getD j 0 : Int) : Rat) = ((Mq.lcmB row : Int) : Rat) * Mq.val (row.getD j Mq.z0) := by
  have ej : row[j]? = some (row.getD j Mq.z0) := by rw [List.getD_eq_getElem?_getD, List.getElem?_eq_getElem hj]; rfl
  have mem : row.getD j Mq.z0 ∈ row := List.mem_of_getElem? ej
  obtain ⟨k, hk⟩ := Mq.lcmB_dvd hp _ mem
  have e2 : (Mq.iw row).getD j 0 = Mq.iwOf (Mq.lcmB row) (row.getD j Mq.z0) := by
    unfold Mq.iw
    rw [List.getD_eq_getElem?_getD, List.getElem?_map, ej]; rfl
  rw [e2, Mq.iw_val (hp _ mem) hk]; grind
theorem map_iw {X : List (List Mq.Q2)} {i : Nat} (h : i < X.length) : (X.map Mq.iw).getD i [] = Mq.iw (X.getD i []) := by
  rw [List.getD_eq_getElem?_getD, List.getElem?_map, List.getD_eq_getElem?_getD, List.getElem?_eq_getElem h]; rfl
theorem wgt_whole {X : List (List Mq.Q2)} (hX : Mq.AllPos X) (hw : ∀ row ∈ X, row.length = X.length) : Mq.det X.length (Mq.at2 (X.map Mq.iw)) = ((botP X : Int) : Rat) * wgt X := by
  unfold wgt
  have hb := botP_prod X X.length (Nat.le_refl _)
  rw [List.take_length] at hb
  rw [hb, ← Mq.det_scale]
  refine Mq.det_congr fun i j hi hj => ?_
  have e : X[i]? = some (X.getD i []) := by rw [List.getD_eq_getElem?_getD, List.getElem?_eq_getElem hi]; rfl
  have mem := List.mem_of_getElem? e
  show ((((X.map Mq.iw).getD i []).getD j 0 : Int) : Rat) = _
  rw [map_iw hi]
  exact iw_get (hX _ mem) (by rw [hw _ mem]; exact hj)
theorem iw_len (row : List Mq.Q2) : (Mq.iw row).length = row.length := by unfold Mq.iw; simp
theorem lcm_bd {row : List Mq.Q2} {n : Nat} (hp : Mq.Pos row) (hb : ∀ p ∈ row, Mq.Bd n p) : Mq.B (1 + n * row.length) (Mq.lcmB row) := by
  obtain ⟨_, h2, _⟩ := Mq.lcmB_facts hp hb row.length (Nat.le_refl _)
  rwa [List.take_length] at h2
theorem iw_bd {row : List Mq.Q2} {n : Nat} (hp : Mq.Pos row) (hb : ∀ p ∈ row, Mq.Bd n p) (j : Nat) : Mq.B (n + (1 + n * row.length)) ((Mq.iw row).getD j 0) := by
  by_cases hj : j < row.length
  · have ej : row[j]? = some (row.getD j Mq.z0) := by rw [List.getD_eq_getElem?_getD, List.getElem?_eq_getElem hj]; rfl
    have mem : row.getD j Mq.z0 ∈ row := List.mem_of_getElem? ej
    obtain ⟨k, hk⟩ := Mq.lcmB_dvd hp _ mem
    have p1 := hp _ mem
    have e2 : (Mq.iw row).getD j 0 = Mq.iwOf (Mq.lcmB row) (row.getD j Mq.z0) := by
      unfold Mq.iw
      rw [List.getD_eq_getElem?_getD, List.getElem?_map, ej]; rfl
    have e := Mq.fdiv_exact (show (row.getD j Mq.z0).2 ≠ 0 by omega) (show Mq.lcmB row = (row.getD j Mq.z0).2 * k by rw [hk, Int.mul_comm])
    rw [e2]
    unfold Mq.iwOf
    rw [e]
    refine (hb _ mem).a.mul ((lcm_bd hp hb).le (j := k) ?_)
    rw [hk, Int.natAbs_mul]
    exact Nat.le_mul_of_pos_right _ (by omega)
  · rw [Mq.get_none (by rw [iw_len]; omega)]; exact Nat.two_pow_pos _
/-- what is told of a whole one, and of a lame one -/
theorem wgt_full {X : List (List Mq.Q2)} {R : List (List Int)} {w : Nat} {d sg : Int} (hX : Mq.AllPos X) (hw : ∀ row ∈ X, row.length = X.length) (h : Mq.SI X.length w (Mq.at2 (X.map Mq.iw)) R X.length X.length d sg) : Mq.val (Mq.red (sg * d) (botP X)) = wgt X := by
  have b1 := botP_ge hX X.length (Nat.le_refl _)
  rw [List.take_length] at b1
  have bn := Mq.cast_ne (show botP X ≠ 0 by omega)
  have e := h.whole
  rw [wgt_whole hX hw] at e
  rw [Mq.val_red (by omega), Rat.intCast_mul, ← e]
  grind
theorem wgt_lame {X : List (List Mq.Q2)} {R : List (List Int)} {w r : Nat} {d sg : Int} (hX : Mq.AllPos X) (hw : ∀ row ∈ X, row.length = X.length) (h : Mq.SI X.length w (Mq.at2 (X.map Mq.iw)) R r X.length d sg) (hr : r < X.length) : wgt X = 0 := by
  have b1 := botP_ge hX X.length (Nat.le_refl _)
  rw [List.take_length] at b1
  have bn := Mq.cast_ne (show botP X ≠ 0 by omega)
  have e := h.lame hr
  rw [wgt_whole hX hw] at e
  grind
end Shp
namespace L2
open PySem
theorem pi_listK {X : Cx} {K : PySem.W.Frag} (h : X.K = K) {tg l : Expr} {tl : TE} (hl : PE X l tl) : PI X tg l (iList K tl) := by subst h; exact pi_list hl
end L2

set_option linter.all false
set_option maxHeartbeats 2000000
namespace Mq
/-! all ways, and the weight -/
def wsM : Nat → Mat → List Nat → Rat
  | 0, _, _ => 1
  | n + 1, A, cs => rs cs.length fun k => sgn k * A 0 (cs.getD k 0) * wsM n (fun i => A (i + 1)) (cs.eraseIdx k)
theorem s0 : sgn 0 = 1 := by unfold sgn; rw [if_pos (by decide)]
theorem s1 : sgn 1 = -1 := by unfold sgn; rfl
theorem s2 : sgn 2 = 1 := by unfold sgn; rw [if_pos (by decide)]
theorem s3 : sgn 3 = -1 := by unfold sgn; rfl
theorem s4 : sgn 4 = 1 := by unfold sgn; rw [if_pos (by decide)]
theorem s5 : sgn 5 = -1 := by unfold sgn; rfl
theorem s6 : sgn 6 = 1 := by unfold sgn; rw [if_pos (by decide)]
theorem det1 (A : Mat) : det 1 A = A 0 0 := by simp [det, rs, sgn] <;> grind
theorem det2 (A : Mat) : det 2 A = A 0 0 * A 1 1 - A 0 1 * A 1 0 := by
  rw [det_succ]; simp only [rs, det1, skip, s1, s2]
  simp [s0, s1, s2, s3, s4, s5, s6] <;> grind
theorem det3 (A : Mat) : det 3 A = A 2 0 * (A 0 1 * A 1 2 - A 0 2 * A 1 1) - A 2 1 * (A 0 0 * A 1 2 - A 0 2 * A 1 0) + A 2 2 * (A 0 0 * A 1 1 - A 0 1 * A 1 0) := by
  rw [det_succ]; simp only [rs, det2, skip, s2, s3, s4]
  simp [s0, s1, s2, s3, s4, s5, s6] <;> grind
def d3 (a b c d e f g h i : Rat) : Rat := g * (b * f - c * e) - h * (a * f - c * d) + i * (a * e - b * d)
theorem det3' (A : Mat) : det 3 A = d3 (A 0 0) (A 0 1) (A 0 2) (A 1 0) (A 1 1) (A 1 2) (A 2 0) (A 2 1) (A 2 2) := det3 A
theorem det4 (A : Mat) : det 4 A = - (A 3 0 * d3 (A 0 1) (A 0 2) (A 0 3) (A 1 1) (A 1 2) (A 1 3) (A 2 1) (A 2 2) (A 2 3)) + A 3 1 * d3 (A 0 0) (A 0 2) (A 0 3) (A 1 0) (A 1 2) (A 1 3) (A 2 0) (A 2 2) (A 2 3) - A 3 2 * d3 (A 0 0) (A 0 1) (A 0 3) (A 1 0) (A 1 1) (A 1 3) (A 2 0) (A 2 1) (A 2 3) + A 3 3 * d3 (A 0 0) (A 0 1) (A 0 2) (A 1 0) (A 1 1) (A 1 2) (A 2 0) (A 2 1) (A 2 2) := by
  rw [det_succ]; simp only [rs, det3', skip, s3, s4, s5, s6]
  simp [s0, s1, s2, s3, s4, s5, s6] <;> grind
theorem det_tr4 : ∀ (m : Nat) (A : Mat), m ≤ 4 → det m (fun i j => A j i) = det m A
  | 0, _, _ => rfl
  | 1, A, _ => by rw [det1, det1]
  | 2, A, _ => by rw [det2, det2]; grind
  | 3, A, _ => by rw [det3, det3]; grind
  | 4, A, _ => by rw [det4, det4]; simp only [d3]; grind
  | m + 5, _, h => absurd h (by omega)
end Mq

set_option linter.all false
set_option maxHeartbeats 1000000
namespace Mq
/-! the multiples beside the rows -/
theorem rs_ind (m a : Nat) (v : Rat) (h : a < m) : (rs m fun i => if i = a then v else 0) = v := by
  induction m with
  | zero => omega
  | succ m ih =>
    simp only [rs]
    by_cases e : m = a
    · subst e
      rw [if_pos rfl]
      have : (rs m fun i => if i = m then v else 0) = rs m fun _ => 0 := rs_congr fun i hi => by rw [if_neg (by omega)]
      rw [this, rs_zero]; grind
    · rw [if_neg e, ih (by omega)]; grind
theorem rs_sw (m p r : Nat) (hp : p < m) (hr : r < m) (F : Nat → Rat) : (rs m fun i => F (sw p r i)) = rs m F := by
  by_cases e : p = r
  · subst e
    exact rs_congr fun i _ => by
      congr 1
      unfold sw
      by_cases h : i = p
      · rw [if_pos h, h]
      · rw [if_neg h, if_neg h]
  have : (rs m fun i => F (sw p r i)) = rs m fun i => F i + ((if i = r then F p - F r else 0) + (if i = p then F r - F p else 0)) := rs_congr fun i _ => by
    unfold sw
    by_cases h1 : i = r
    · rw [if_pos h1, if_pos h1, if_neg (by omega), h1]; grind
    · rw [if_neg h1, if_neg h1]
      by_cases h2 : i = p
      · rw [if_pos h2, if_pos h2, h2]; grind
      · rw [if_neg h2, if_neg h2]; grind
  rw [this, rs_add, rs_add, rs_ind m r _ hr, rs_ind m p _ hp]; grind
structure LI (m : Nat) (Aq : Mat) (R : List (List Int)) : Prop where
  lin : ∀ i x, i < m → x < m → at2 R i x = rs m fun k => at2 R i (m + k) * Aq k x
  ind : ∀ lam : Nat → Rat, (∀ j, j < m → (rs m fun i => lam i * at2 R i (m + j)) = 0) → ∀ i, i < m → lam i = 0
theorem at2_sw {R : List (List Int)} {p r : Nat} (hp : p < R.length) (hr : r < R.length) (i x : Nat) : at2 (swRows R p r) i x = at2 R (sw p r i) x := by
  show ((((swRows R p r).getD i []).getD x 0 : Int) : Rat) = _
  rw [ent_sw hp hr]; rfl
theorem LI.swap {m : Nat} {Aq : Mat} {R : List (List Int)} (h : LI m Aq R) (hl : R.length = m) {p r : Nat} (hp : p < m) (hr : r < m) : LI m Aq (swRows R p r) where
  lin := fun i x hi hx => by
    rw [at2_sw (by omega) (by omega), h.lin _ x (sw_m hp hr hi) hx]
    exact rs_congr fun k _ => by rw [at2_sw (by omega) (by omega)]
  ind := fun lam hz i hi => by
    have := h.ind (fun i => lam (sw p r i)) (fun j hj => by
      rw [← hz j hj, ← rs_sw m p r hp hr]
      exact rs_congr fun i _ => by
        show lam (sw p r (sw p r i)) * _ = _
        rw [sw_sw, at2_sw (by omega) (by omega)]) (sw p r i) (sw_m hp hr hi)
    have e : lam (sw p r (sw p r i)) = 0 := this
    rwa [sw_sw] at e
/-- a cleared row, as it stands -/
theorem at2_clr {m w : Nat} {A0 : Mat} {R : List (List Int)} {r col : Nat} {d sg : Int} (h : SI m w A0 R r col d sg) (hr : r < m) (hc : col < w) (he : ent R r col ≠ 0) {i : Nat} (hi : i < m) (x : Nat) :
    at2 (clrRows R r col d) i x = if i = r then at2 R i x else (at2 R r col * at2 R i x - at2 R i col * at2 R r x) / (d : Rat) := by
  obtain ⟨A, c, B, e⟩ := h.bar
  have hl := h.len
  show ((((clrRows R r col d).getD i []).getD x 0 : Int) : Rat) = _
  rw [clr_get (by omega)]
  by_cases hir : i = r
  · rw [if_pos hir, if_pos hir]; rfl
  · rw [if_neg hir, if_neg hir]
    obtain ⟨z, h1, h2, _⟩ := clr_ent h B hr hc he hi hir x
    rw [h1, h2, clr_ne _ hir]
theorem SI.dne {m w : Nat} {A0 : Mat} {R : List (List Int)} {r col : Nat} {d sg : Int} (h : SI m w A0 R r col d sg) : (d : Rat) ≠ 0 := by
  obtain ⟨A, c, B, e⟩ := h.bar
  exact B.dne
theorem LI.clear {m w : Nat} {Aq A0 : Mat} {R : List (List Int)} {r col : Nat} {d sg : Int} (h : LI m Aq R) (s : SI m w A0 R r col d sg) (hr : r < m) (hc : col < w) (he : ent R r col ≠ 0) : LI m Aq (clrRows R r col d) := by
  have dn := s.dne
  have hn : at2 R r col ≠ 0 := fun z => he (Rat.intCast_inj.mp (by unfold at2 at z; simpa using z))
  have cl := fun (i : Nat) (hi : i < m) (x : Nat) => at2_clr s hr hc he hi x
  refine ⟨fun i x hi hx => ?_, fun lam hz i hi => ?_⟩
  · rw [cl i hi x]
    by_cases e : i = r
    · rw [if_pos e, h.lin i x hi hx]
      exact rs_congr fun k _ => by rw [cl i hi, if_pos e]
    · rw [if_neg e, h.lin i x hi hx, h.lin r x hr hx]
      have : (rs m fun k => at2 (clrRows R r col d) i (m + k) * Aq k x) = rs m fun k => (at2 R r col / (d : Rat)) * (at2 R i (m + k) * Aq k x) + (-(at2 R i col / (d : Rat))) * (at2 R r (m + k) * Aq k x) := rs_congr fun k _ => by rw [cl i hi, if_neg e]; grind
      rw [this, rs_add, rs_mul, rs_mul]; grind
  · -- the factors of the rows as they were
    have key := h.ind (fun i => if i = r then lam r - (rs m fun k => if k = r then 0 else lam k * (at2 R k col / (d : Rat))) else lam i * (at2 R r col / (d : Rat))) (fun j hj => by
      have e0 := hz j hj
      have e1 : (rs m fun i => lam i * at2 (clrRows R r col d) i (m + j)) = rs m fun i => (if i = r then lam r * at2 R r (m + j) else 0) + ((if i = r then 0 else lam i * (at2 R r col / (d : Rat)) * at2 R i (m + j)) + (-(at2 R r (m + j))) * (if i = r then 0 else lam i * (at2 R i col / (d : Rat)))) := rs_congr fun i hi => by
        rw [cl i hi]
        by_cases e : i = r
        · rw [if_pos e, if_pos e, if_pos e, if_pos e, e]; grind
        · rw [if_neg e, if_neg e, if_neg e, if_neg e]; grind
      rw [e1, rs_add, rs_add, rs_mul, rs_ind m r _ hr] at e0
      have e2 : (rs m fun i => (if i = r then lam r - (rs m fun k => if k = r then 0 else lam k * (at2 R k col / (d : Rat))) else lam i * (at2 R r col / (d : Rat))) * at2 R i (m + j)) = rs m fun i => (if i = r then (lam r - (rs m fun k => if k = r then 0 else lam k * (at2 R k col / (d : Rat)))) * at2 R r (m + j) else 0) + (if i = r then 0 else lam i * (at2 R r col / (d : Rat)) * at2 R i (m + j)) := rs_congr fun i _ => by
        by_cases e : i = r
        · rw [if_pos e, if_pos e, if_pos e, e]; grind
        · rw [if_neg e, if_neg e, if_neg e]; grind
      rw [e2, rs_add, rs_ind m r _ hr]
      grind)
    have other : ∀ k, k < m → k ≠ r → lam k = 0 := fun k hk e => by
      have := key k hk
      rw [if_neg e] at this
      have n2 : at2 R r col / (d : Rat) ≠ 0 := fun z => hn (by grind)
      grind
    by_cases e : i = r
    · have := key r hr
      rw [if_pos rfl] at this
      have z : (rs m fun k => if k = r then 0 else lam k * (at2 R k col / (d : Rat))) = rs m fun _ => 0 := rs_congr fun k hk => by
        by_cases e : k = r
        · rw [if_pos e]
        · rw [if_neg e, other k hk e]; grind
      rw [z, rs_zero] at this
      rw [e]; grind
    · exact other i hi e
/-- at the end: whole -/
theorem LI.whole {m w : Nat} {Aq A0 : Mat} {R : List (List Int)} {d sg : Int} (h : LI m Aq R) (s : SI m w A0 R m m d sg) {i x : Nat} (hi : i < m) (hx : x < m) : (rs m fun k => (at2 R i (m + k) / (d : Rat)) * Aq k x) = if x = i then 1 else 0 := by
  obtain ⟨A, c, B, e⟩ := s.bar
  have dn := B.dne
  have i2 := B.i2 i x hi hx
  rw [B.full rfl x hx] at i2
  have l := h.lin i x hi hx
  rw [i2] at l
  have : (rs m fun k => (at2 R i (m + k) / (d : Rat)) * Aq k x) = (1 / (d : Rat)) * rs m fun k => at2 R i (m + k) * Aq k x := by
    rw [← rs_mul]
    exact rs_congr fun k _ => by grind
  rw [this, ← l]
  split
  · grind
  · grind
/-- at the end: lame -/
theorem LI.lame {m w : Nat} {Aq A0 : Mat} {R : List (List Int)} {d sg : Int} {r : Nat} (h : LI m Aq R) (s : SI m w A0 R r m d sg) (hr : r < m) : (∃ k, k < m ∧ ent R (m - 1) (m + k) ≠ 0) ∧ ∀ x, x < m → (rs m fun k => at2 R (m - 1) (m + k) * Aq k x) = 0 := by
  obtain ⟨A, c, B, e⟩ := s.bar
  refine ⟨Classical.byContradiction fun n => ?_, fun x hx => ?_⟩
  · have all : ∀ k, k < m → ent R (m - 1) (m + k) = 0 := fun k hk => Classical.byContradiction fun z => n ⟨k, hk, z⟩
    have := h.ind (fun i => if i = m - 1 then 1 else 0) (fun j hj => by
      have : (rs m fun i => (if i = m - 1 then (1 : Rat) else 0) * at2 R i (m + j)) = rs m fun _ => 0 := rs_congr fun i _ => by
        by_cases e : i = m - 1
        · rw [if_pos e, e]
          have : at2 R (m - 1) (m + j) = 0 := by unfold at2; rw [all j hj]; simp
          rw [this]; grind
        · rw [if_neg e]; grind
      rw [this, rs_zero]) (m - 1) (by omega)
    rw [if_pos rfl] at this
    grind
  · rw [← h.lin (m - 1) x (by omega) hx]
    exact B.i3 (m - 1) x (by omega) (by omega) hx
end Mq

set_option Elab.async false
set_option linter.all false
set_option maxRecDepth 100000
set_option maxHeartbeats 4000000
namespace Shp
open PySem L2
/-- a list of lists of fractions that are new since H0, none of them the list at D -/
inductive Fmd (K : PySem.W.Frag) (H0 : Hp) (D : Addr) (H : Hp) : List V → List (List Mq.Q2) → Prop where
  | nil : Fmd K H0 D H [] []
  | cons {u : Addr} {xs : List V} {ps : List Mq.Q2} {us : List V} {X : List (List Mq.Q2)} (n0 : H0 u = none) (ne : u ≠ D) (h : H u = some (.lst xs)) (f : Fqs K H xs ps) (q : Fmd K H0 D H us X) : Fmd K H0 D H (.ref u :: us) (ps :: X)
theorem Fmd.same {K : PySem.W.Frag} {H0 : Hp} {D : Addr} {H H' : Hp} (e : Same H H') : ∀ {xs : List V} {X : List (List Mq.Q2)}, Fmd K H0 D H xs X → Fmd K H0 D H' xs X
  | _, _, .nil => .nil
  | _, _, .cons n0 n h f q => .cons n0 n (e _ _ h) (f.same e) (q.same e)
theorem Fmd.upd {K : PySem.W.Frag} {H0 : Hp} {D : Addr} {H : Hp} {ys : List V} {o : HO} (hl : H D = some (.lst ys)) : ∀ {xs : List V} {X : List (List Mq.Q2)}, Fmd K H0 D H xs X → Fmd K H0 D (L2.upd H D o) xs X
  | _, _, .nil => .nil
  | _, _, .cons n0 n h f q => .cons n0 n (by rw [upd_ne n]; exact h) (f.upd hl) (q.upd hl)
theorem Fmd.length {K : PySem.W.Frag} {H0 : Hp} {D : Addr} {H : Hp} : ∀ {xs : List V} {X : List (List Mq.Q2)}, Fmd K H0 D H xs X → xs.length = X.length
  | _, _, .nil => rfl
  | _, _, .cons _ _ _ _ q => by rw [List.length_cons, List.length_cons, q.length]
theorem Fmd.app {K : PySem.W.Frag} {H0 : Hp} {D : Addr} {H : Hp} : ∀ {xs ys : List V} {X Y : List (List Mq.Q2)}, Fmd K H0 D H xs X → Fmd K H0 D H ys Y → Fmd K H0 D H (xs ++ ys) (X ++ Y)
  | _, _, _, _, .nil, k => k
  | _, _, _, _, .cons n0 n h f q, k => .cons n0 n h f (q.app k)
theorem Fmd.mx {K : PySem.W.Frag} {H0 : Hp} {D : Addr} {H : Hp} : ∀ {xs : List V} {X : List (List Mq.Q2)}, Fmd K H0 D H xs X → Fmx K D H xs X
  | _, _, .nil => .nil
  | _, _, .cons _ n h f q => .cons n (SqL.of h) f q.mx
theorem Fmd.mem {K : PySem.W.Frag} {H0 : Hp} {D : Addr} {H : Hp} : ∀ {xs : List V} {X : List (List Mq.Q2)}, Fmd K H0 D H xs X → ∀ x ∈ xs, ∃ u ys, x = .ref u ∧ H0 u = none ∧ u ≠ D ∧ H u = some (.lst ys) ∧ ∃ ps ∈ X, ys.length = ps.length
  | _, _, .nil, x, hx => by simp at hx
  | _, _, .cons n0 n h f q, x, hx => by
    rcases List.mem_cons.mp hx with rfl | hx
    · exact ⟨_, _, rfl, n0, n, h, _, by simp, f.length⟩
    · obtain ⟨u, ys, a1, a2, a3, a4, ps, a5, a6⟩ := q.mem x hx
      exact ⟨u, ys, a1, a2, a3, a4, ps, List.mem_cons_of_mem _ a5, a6⟩
/-! the rows beside the unit -/
def matX (X : List (List Mq.Q2)) : Mq.Mat := fun i j => Mq.val ((X.getD i []).getD j Mq.z0)
def unitRow (m i : Nat) (row : List Mq.Q2) : List Int := Mq.iw row ++ (List.range m).map fun c => if c = i then Mq.lcmB row else 0
def unitR (X : List (List Mq.Q2)) : List (List Int) := X.mapIdx fun i row => unitRow X.length i row
theorem unit_len (X : List (List Mq.Q2)) : (unitR X).length = X.length := by unfold unitR; simp
theorem unit_get {X : List (List Mq.Q2)} {i : Nat} (h : i < X.length) : (unitR X).getD i [] = unitRow X.length i (X.getD i []) := by
  unfold unitR
  rw [List.getD_eq_getElem?_getD, List.getElem?_mapIdx, List.getD_eq_getElem?_getD, List.getElem?_eq_getElem h]; rfl
theorem getR {X : List (List Mq.Q2)} {i : Nat} (h : i < X.length) : X[i]? = some (X.getD i []) := by rw [List.getD_eq_getElem?_getD, List.getElem?_eq_getElem h]; rfl
theorem unitRow_len (m i : Nat) (row : List Mq.Q2) : (unitRow m i row).length = row.length + m := by unfold unitRow; simp [iw_len]
theorem unit_left {X : List (List Mq.Q2)} (hX : Mq.AllPos X) (hw : ∀ row ∈ X, row.length = X.length) {i x : Nat} (hi : i < X.length) (hx : x < X.length) : Mq.at2 (unitR X) i x = ((Mq.lcmB (X.getD i []) : Int) : Rat) * matX X i x := by
  have mem := List.mem_of_getElem? (getR hi)
  show ((((unitR X).getD i []).getD x 0 : Int) : Rat) = _
  rw [unit_get hi]
  unfold unitRow
  have l := hw _ mem
  rw [List.getD_eq_getElem?_getD, List.getElem?_append_left (by rw [iw_len]; omega), ← List.getD_eq_getElem?_getD]
  exact iw_get (hX _ mem) (by omega)
theorem unit_right {X : List (List Mq.Q2)} (hw : ∀ row ∈ X, row.length = X.length) {i k : Nat} (hi : i < X.length) (hk : k < X.length) : Mq.ent (unitR X) i (X.length + k) = if k = i then Mq.lcmB (X.getD i []) else 0 := by
  have mem := List.mem_of_getElem? (getR hi)
  unfold Mq.ent
  rw [unit_get hi]
  unfold unitRow
  have l := hw _ mem
  rw [List.getD_eq_getElem?_getD, List.getElem?_append_right (by rw [iw_len]; omega), iw_len, l, Nat.add_sub_cancel_left, List.getElem?_map, List.getElem?_range hk]; rfl
theorem unit_li {X : List (List Mq.Q2)} (hX : Mq.AllPos X) (hw : ∀ row ∈ X, row.length = X.length) : Mq.LI X.length (matX X) (unitR X) where
  lin := fun i x hi hx => by
    rw [unit_left hX hw hi hx]
    have : (Mq.rs X.length fun k => Mq.at2 (unitR X) i (X.length + k) * matX X k x) = Mq.rs X.length fun k => if k = i then ((Mq.lcmB (X.getD i []) : Int) : Rat) * matX X i x else 0 := Mq.rs_congr fun k hk => by
      show ((Mq.ent (unitR X) i (X.length + k) : Int) : Rat) * _ = _
      rw [unit_right hw hi hk]
      by_cases e : k = i
      · rw [if_pos e, if_pos e, e]
      · rw [if_neg e, if_neg e]; simp
    rw [this, Mq.rs_ind _ _ _ hi]
  ind := fun lam hz i hi => by
    have e := hz i hi
    have : (Mq.rs X.length fun j => lam j * Mq.at2 (unitR X) j (X.length + i)) = Mq.rs X.length fun j => if j = i then lam i * ((Mq.lcmB (X.getD i []) : Int) : Rat) else 0 := Mq.rs_congr fun k hk => by
      show _ * ((Mq.ent (unitR X) k (X.length + i) : Int) : Rat) = _
      rw [unit_right hw hk hi]
      by_cases e : k = i
      · rw [if_pos e, if_pos e.symm, e]
      · rw [if_neg e, if_neg (Ne.symm e)]; simp
    rw [this, Mq.rs_ind _ _ _ hi] at e
    have g := Mq.lcmB_ge (hX _ (List.mem_of_getElem? (getR hi)))
    have n := Mq.cast_ne (show Mq.lcmB (X.getD i []) ≠ 0 by omega)
    grind
theorem wgt_any {X : List (List Mq.Q2)} {R : List (List Int)} (h : ∀ i j, i < X.length → j < X.length → Mq.at2 R i j = ((Mq.lcmB (X.getD i []) : Int) : Rat) * matX X i j) : Mq.det X.length (Mq.at2 R) = ((botP X : Int) : Rat) * wgt X := by
  unfold wgt
  have hb := botP_prod X X.length (Nat.le_refl _)
  rw [List.take_length] at hb
  rw [hb, ← Mq.det_scale]
  exact Mq.det_congr fun i j hi hj => h i j hi hj
theorem wgt_rank {X : List (List Mq.Q2)} {R R' : List (List Int)} {w r : Nat} {d sg : Int} (hX : Mq.AllPos X) (hR : Mq.det X.length (Mq.at2 R) = ((botP X : Int) : Rat) * wgt X) (h : Mq.SI X.length w (Mq.at2 R) R' r X.length d sg) : (r < X.length ∧ wgt X = 0) ∨ (r = X.length ∧ wgt X ≠ 0) := by
  have b1 := botP_ge hX X.length (Nat.le_refl _)
  rw [List.take_length] at b1
  have bn := Mq.cast_ne (show botP X ≠ 0 by omega)
  obtain ⟨A, c, B, e⟩ := h.bar
  have rm := B.rm
  have dn := B.dne
  clear B
  by_cases hr : r < X.length
  · left
    have e := h.lame hr
    rw [hR] at e
    exact ⟨hr, by grind⟩
  · right
    have er : r = X.length := by omega
    subst er
    refine ⟨rfl, fun z => ?_⟩
    have e := h.whole
    rw [hR, z] at e
    rcases h.one with q | q
    · rw [q] at e; simp at e; grind
    · rw [q, Rat.intCast_neg] at e; simp at e; grind
/-! the promises -/
structure Stp (m w : Nat) (A0 : Mq.Mat) (Pr : List (List Int) → Prop) : Prop where
  sw : ∀ R r col d sg p, Mq.SI m w A0 R r col d sg → r < p → p < m → Pr R → Pr (Mq.swRows R p r)
  cl : ∀ R r col d sg, Mq.SI m w A0 R r col d sg → r < m → col < w → Mq.ent R r col ≠ 0 → Pr R → Pr (Mq.clrRows R r col d)
theorem stp_li {m w : Nat} {A0 Aq : Mq.Mat} : Stp m w A0 (Mq.LI m Aq) :=
  ⟨fun R r col d sg p s h1 h2 h => h.swap s.len h2 (by omega), fun R r col d sg s h1 h2 h3 h => h.clear s h1 h2 h3⟩
def spElimP (K : PySem.W.Frag) : Sp := fun vs H Q _ => ∃ (l D : Addr) (zs : List V) (R : List (List Int)) (m w n : Nat) (Pr : List (List Int) → Prop), vs = [.ref l, .int (m : Int)] ∧ SqL K H l zs ∧ Imx D H zs R ∧ R.length = m ∧ (∀ i, i < m → (R.getD i []).length = w) ∧ m ≤ w ∧ w ≤ 100 ∧ Mq.BdR n R ∧ 1 ≤ n ∧ bitsAt n m ≤ 9000 ∧ Pr R ∧ Stp m w (Mq.at2 R) Pr ∧
  ∀ d l' zs' R' rank pivot sign H', Same H H' → H d = none → H l' = none → H' d = some (elimD l' rank pivot sign) → H' l' = some (.lst zs') → Imx l' H' zs' R' → Mq.SI m w (Mq.at2 R) R' rank m pivot sign → Mq.BdR (bitsAt n m) R' → Mq.B (bitsAt n m) pivot → Pr R' → Q (.ref d) H'
abbrev MxOk (X : List (List Mq.Q2)) : Prop := Mq.AllPos X ∧ (∀ row ∈ X, (∀ p ∈ row, Mq.Bd 64 p) ∧ row.length = X.length) ∧ X.length ≤ 4
def spUnit (K : PySem.W.Frag) : Sp := fun vs H Q _ => ∃ (g D : Addr) (us : List V) (X : List (List Mq.Q2)), vs = [.ref g] ∧ SqL K H g us ∧ Fmx K D H us X ∧ MxOk X ∧
  ∀ l zs H', Same H H' → H l = none → H' l = some (.lst zs) → Imx l H' zs (unitR X) → Q (.ref l) H'
def spOver (K : PySem.W.Frag) : Sp := fun vs H Q _ => ∃ (l : Addr) (ts : List Int) (pv : Int) (n : Nat), vs = [.ref l, .int pv] ∧ SqL K H l (ts.map V.int) ∧ ts.length ≤ 100 ∧ pv ≠ 0 ∧ Mq.B n pv ∧ n ≤ 9000 ∧
  ∀ l' zs H', Same H H' → H l' = none → H' l' = some (.lst zs) → Fqs K H' zs (ts.map fun t => Mq.red t pv) → Q (.ref l') H'
structure Null (X : List (List Mq.Q2)) (ps : List Mq.Q2) : Prop where
  len : ps.length = X.length
  low : Mq.AllLow ps
  bd : ∀ p ∈ ps, Mq.Bd 9000 p
  some_ : ∃ p ∈ ps, p.1 ≠ 0
  sum : ∀ x, x < X.length → (Mq.rs X.length fun j => Mq.val (ps.getD j Mq.z0) * matX X j x) = 0
structure Inve (X Y : List (List Mq.Q2)) : Prop where
  len : Y.length = X.length
  rows : ∀ row ∈ Y, Mq.AllLow row ∧ (∀ p ∈ row, Mq.Bd 9000 p) ∧ row.length = X.length
  sum : ∀ k x, k < X.length → x < X.length → (Mq.rs X.length fun j => Mq.val ((Y.getD k []).getD j Mq.z0) * matX X j x) = if x = k then 1 else 0
def spLameM (K : PySem.W.Frag) : Sp := fun vs H Q _ => ∃ (g D : Addr) (us : List V) (X : List (List Mq.Q2)), vs = [.ref g] ∧ SqL K H g us ∧ Fmx K D H us X ∧ MxOk X ∧ wgt X = 0 ∧ 1 ≤ X.length ∧
  ∀ l zs ps H', Same H H' → H l = none → H' l = some (.lst zs) → Fqs K H' zs ps → Null X ps → Q (.ref l) H'
/-- the error's own __init__ -/
def spLInit (K : PySem.W.Frag) (C : Addr) : Sp := fun vs H Q _ => ∃ (x l : Addr) (xs : List V), vs = [.ref x, .ref l] ∧ H x = some (newX x (.ref C) none) ∧ SqL K H l xs ∧ xs.length ≤ 1000 ∧
  ∀ dx l2 H', H dx = none → H l2 = none → dx ≠ x → l2 ≠ x → (∀ b o, H b = some o → b ≠ x → H' b = some o) → H' x = some (newX x (.ref C) (some dx)) → H' dx = some (.xd [("multiples", .ref l2)]) → H' l2 = some (.lst xs) → Q .non H'
def spMult (K : PySem.W.Frag) (C : Addr) : Sp := fun vs H Q E => ∃ (g D : Addr) (us : List V) (X : List (List Mq.Q2)), vs = [.ref g] ∧ SqL K H g us ∧ Fmx K D H us X ∧ MxOk X ∧
  (∀ l zs Y H', Same H H' → wgt X ≠ 0 → H l = none → H' l = some (.lst zs) → Fmd K H l H' zs Y → Inve X Y → Q (.ref l) H') ∧
  ∀ dx l zs ps H', Same H H' → wgt X = 0 → H' dx = some (.xd [("multiples", .ref l)]) → H l = none → H' l = some (.lst zs) → Fqs K H' zs ps → Null X ps → E (.ref C) (some dx) H'
end Shp
namespace L2
open PySem
theorem sl_listK {X : Cx} {K : PySem.W.Frag} (h : X.K = K) : SlR X (rSlL K) := by subst h; exact sl_list
end L2

set_option Elab.async false
set_option linter.all false
set_option maxRecDepth 100000
set_option maxHeartbeats 4000000
namespace L2
open PySem
theorem pe_fldXK {X : Cx} {K : PySem.W.Frag} (h : X.K = K) {o : Expr} {nm : Str} {pos : Pos} {ta : TE} (he : PE X o ta) (hb : attributeBase o nm X.env (eval o X.env) = eval o X.env) : PE X (.Attribute o nm pos) (tFldX K ta nm) := by subst h; exact pe_fldX he hb
end L2
namespace Mq
theorem rsum_get : ∀ l : List Rat, rsum l = rs l.length fun j => l.getD j 0
  | [] => rfl
  | x :: l => by
    rw [List.length_cons, rs_shift]
    show x + rsum l = _
    rw [rsum_get l]; rfl
/-- the products, as they are -/
def pp (m x : Q2) : Q2 := (m.1 * x.1, m.2 * x.2)
theorem val_pp {m x : Q2} (h1 : 1 ≤ m.2) (h2 : 1 ≤ x.2) : val (pp m x) = val m * val x := by
  have a1 := cast_ne (show m.2 ≠ 0 by omega)
  have a2 := cast_ne (show x.2 ≠ 0 by omega)
  unfold pp val
  show ((m.1 * x.1 : Int) : Rat) / ((m.2 * x.2 : Int) : Rat) = _
  rw [Rat.intCast_mul, Rat.intCast_mul]
  grind
theorem pp_pos {ms xs : List Q2} (hm : Pos ms) (hx : Pos xs) : Pos (List.zipWith pp ms xs) := fun p hp => by
  obtain ⟨i, hi, rfl⟩ := List.getElem_of_mem hp
  rw [List.getElem_zipWith]
  have h1 : i < ms.length := by simp at hi; omega
  have h2 : i < xs.length := by simp at hi; omega
  have : 0 < ms[i].2 * xs[i].2 := Int.mul_pos (by have := hm _ (List.getElem_mem h1); omega) (by have := hx _ (List.getElem_mem h2); omega)
  show 1 ≤ ms[i].2 * xs[i].2
  omega
theorem getQ {row : List Q2} {j : Nat} (h : j < row.length) : row[j]? = some (row.getD j z0) := by rw [List.getD_eq_getElem?_getD, List.getElem?_eq_getElem h]; rfl
theorem meets_of {ms xs : List Q2} {q : Q2} (hm : Pos ms) (hx : Pos xs) (hl : xs.length = ms.length) (hq : Low q) (h : (rs ms.length fun j => val (ms.getD j z0) * val (xs.getD j z0)) = val q) : N (List.zipWith pp ms xs) * q.2 = q.1 * D (List.zipWith pp ms xs) := by
  have e : tot (List.zipWith pp ms xs) = q := by
    refine low_ext (tot_low (pp_pos hm hx)) hq ?_
    rw [val_tot (pp_pos hm hx), rsum_get, ← h]
    have ll : ((List.zipWith pp ms xs).map val).length = ms.length := by simp [hl]
    rw [ll]
    refine rs_congr fun j hj => ?_
    rw [List.getD_eq_getElem?_getD, List.getElem?_map, List.getElem?_zipWith, getQ hj, getQ (show j < xs.length by omega)]
    exact val_pp (getD_pos hm j) (getD_pos hx j)
  have c := (tot_cross (pp_pos hm hx)).symm
  rw [e] at c
  exact c
theorem nd_take {ps : List Q2} {i : Nat} {p : Q2} (h : ps[i]? = some p) : N (ps.take (i + 1)) = N (ps.take i) * p.2 + p.1 * D (ps.take i) ∧ D (ps.take (i + 1)) = D (ps.take i) * p.2 := by
  have ee : ps.take (i + 1) = ps.take i ++ [p] := by rw [List.take_add_one, h]; rfl
  rw [ee, N_app, D_app]
  simp only [N, D]
  refine ⟨?_, ?_⟩
  · grind
  · grind
end Mq
namespace Shp
open PySem L2
theorem Fmd.get {K : PySem.W.Frag} {H0 : Hp} {D : Addr} {H : Hp} : ∀ {xs : List V} {X : List (List Mq.Q2)} {i : Nat} {x : V}, Fmd K H0 D H xs X → xs[i]? = some x → ∃ u ys ps, x = .ref u ∧ X[i]? = some ps ∧ H0 u = none ∧ u ≠ D ∧ H u = some (.lst ys) ∧ Fqs K H ys ps
  | _, _, 0, _, .cons n0 n h f q, e => by simp at e; exact ⟨_, _, _, e.symm, rfl, n0, n, h, f⟩
  | _, _, i + 1, _, .cons n0 n h f q, e => by simp at e; exact q.get e
/-- the rows that are not at u stay when the list at u is changed -/
theorem Fmd.miss {K : PySem.W.Frag} {H0 : Hp} {D : Addr} {H : Hp} {u : Addr} {ys : List V} {o : HO} (hl : H u = some (.lst ys)) : ∀ {xs : List V} {X : List (List Mq.Q2)}, Fmd K H0 D H xs X → (∀ x ∈ xs, x ≠ .ref u) → Fmd K H0 D (L2.upd H u o) xs X
  | _, _, .nil, _ => .nil
  | _, _, .cons (u := v) n0 n h f q, hn => .cons n0 n (by rw [upd_ne (fun z => hn (.ref v) (by simp) (by rw [z]))]; exact h) (f.upd hl) (q.miss hl fun x hx => hn x (List.mem_cons_of_mem _ hx))
/-- one row changed, the rows all at places of their own -/
theorem Fmd.setRow {K : PySem.W.Frag} {H0 : Hp} {D : Addr} {H : Hp} {u : Addr} {ys ys' : List V} {ps' : List Mq.Q2} (hl : H u = some (.lst ys)) (hf : Fqs K (L2.upd H u (.lst ys')) ys' ps') : ∀ {xs : List V} {X : List (List Mq.Q2)} {i : Nat}, Fmd K H0 D H xs X → xs.Nodup → xs[i]? = some (.ref u) → Fmd K H0 D (L2.upd H u (.lst ys')) xs (X.set i ps')
  | _, _, 0, .cons n0 n h f q, nd, e => by
    simp at e
    subst e
    have nd' := (List.nodup_cons.mp nd).1
    exact .cons n0 n upd_same hf (q.miss hl fun x hx z => nd' (by rw [← z]; exact hx))
  | _, _, i + 1, .cons (u := v) n0 n h f q, nd, e => by
    simp at e
    have nv : v ≠ u := fun z => (List.nodup_cons.mp nd).1 (by rw [z]; exact List.mem_of_getElem? e)
    exact .cons n0 n (by rw [upd_ne nv]; exact h) (f.upd hl) (q.setRow hl hf (List.nodup_cons.mp nd).2 e)
theorem nodup_new {K : PySem.W.Frag} {H0 : Hp} {D : Addr} {H : Hp} {zs : List V} {X : List (List Mq.Q2)} {l : Addr} (h : Fmd K H0 D H zs X) (hn : H l = none) (nd : zs.Nodup) : (zs ++ [V.ref l]).Nodup := by
  refine List.nodup_append.mpr ⟨nd, by simp, fun x hx y hy z => ?_⟩
  have ey : y = .ref l := by simpa using hy
  obtain ⟨u, ys, e, _, _, hu, _⟩ := h.mem x hx
  rw [ey, e] at z
  cases z
  rw [hn] at hu; cases hu
def col (X : List (List Mq.Q2)) (j : Nat) : List Mq.Q2 := X.map fun row => row.getD j Mq.z0
theorem col_get {X : List (List Mq.Q2)} {j k : Nat} (h : k < X.length) : Mq.val ((col X j).getD k Mq.z0) = matX X k j := by
  unfold col matX
  rw [List.getD_eq_getElem?_getD, List.getElem?_map, getR h]; rfl
def spMeetsG (K : PySem.W.Frag) : Sp := fun vs H Q _ => ∃ (a o d : Addr) (xs ys : List V) (ms ps : List Mq.Q2) (q : Mq.Q2) (n n' : Nat), vs = [.ref a, .ref o, .ref d] ∧ SqL K H a xs ∧ Fqs K H xs ms ∧ SqL K H o ys ∧ Fqs K H ys ps ∧ Fq K H d q ∧ (∀ p ∈ ms, Mq.Bd n p) ∧ (∀ p ∈ ps, Mq.Bd n' p) ∧ Mq.Bd 9000 q ∧ ms.length ≤ 10 ∧ n ≤ 10000 ∧ n' ≤ 10000 ∧ ps.length = ms.length ∧ Mq.N (List.zipWith Mq.pp ms ps) * q.2 = q.1 * Mq.D (List.zipWith Mq.pp ms ps) ∧ ∀ H', Same H H' → Q (.bl true) H'
def spSumIs (K : PySem.W.Frag) : Sp := fun vs H Q _ => ∃ (a g d D : Addr) (xs us ds : List V) (ms qs : List Mq.Q2) (X : List (List Mq.Q2)), vs = [.ref a, .ref g, .ref d] ∧ SqL K H a xs ∧ Fqs K H xs ms ∧ SqL K H g us ∧ Fmx K D H us X ∧ SqL K H d ds ∧ Fqs K H ds qs ∧ MxOk X ∧ ms.length = X.length ∧ qs.length = X.length ∧ Mq.Pos ms ∧ (∀ p ∈ ms, Mq.Bd 9000 p) ∧ Mq.AllLow qs ∧ (∀ p ∈ qs, Mq.Bd 9000 p) ∧
  (∀ x, x < X.length → (Mq.rs X.length fun j => Mq.val (ms.getD j Mq.z0) * matX X j x) = Mq.val (qs.getD x Mq.z0)) ∧ ∀ H', Same H H' → Q (.bl true) H'
def spAsked (K : PySem.W.Frag) : Sp := fun vs H Q _ => ∃ (g D : Addr) (us : List V) (X : List (List Mq.Q2)), vs = [.ref g] ∧ SqL K H g us ∧ Fmx K D H us X ∧ MxOk X ∧
  (∀ t l zs Y H', Same H H' → SqT K H' t [.ref l, .non] → wgt X ≠ 0 → H l = none → H' l = some (.lst zs) → Fmd K H l H' zs Y → Inve X Y → Q (.ref t) H') ∧
  ∀ t l zs ps H', Same H H' → SqT K H' t [.non, .ref l] → wgt X = 0 → H l = none → H' l = some (.lst zs) → Fqs K H' zs ps → Null X ps → Q (.ref t) H'
def spDue (K : PySem.W.Frag) : Sp := fun vs H Q _ => ∃ (t g D : Addr) (us : List V) (X : List (List Mq.Q2)), vs = [.ref t, .ref g] ∧ SqL K H g us ∧ Fmx K D H us X ∧ MxOk X ∧
  ((∃ (l D' : Addr) (zs : List V) (Y : List (List Mq.Q2)), SqT K H t [.ref l, .non] ∧ SqL K H l zs ∧ Fmx K D' H zs Y ∧ Inve X Y) ∨ (∃ (l : Addr) (zs : List V) (ps : List Mq.Q2), SqT K H t [.non, .ref l] ∧ SqL K H l zs ∧ Fqs K H zs ps ∧ Null X ps)) ∧ ∀ H', Same H H' → Q (.bl true) H'
end Shp

set_option linter.all false
set_option maxHeartbeats 1000000
namespace Mq
/-! what every row kept the first rows kept -/
def KI (m : Nat) (A0 : Mat) (R : List (List Int)) : Prop := ∀ Φ, Lin Φ → (∀ k, k < m → Φ (at2 R k) = 0) → ∀ i, i < m → Φ (A0 i) = 0
theorem KI.swap {m : Nat} {A0 : Mat} {R : List (List Int)} (h : KI m A0 R) (hl : R.length = m) {p r : Nat} (hp : p < m) (hr : r < m) : KI m A0 (swRows R p r) := fun Φ lin hz => by
  refine h Φ lin fun k hk => ?_
  have e : at2 R k = at2 (swRows R p r) (sw p r k) := by
    funext x
    rw [at2_sw (by omega) (by omega), sw_sw]
  rw [e]
  exact hz _ (sw_m hp hr hk)
theorem KI.clear {m w : Nat} {A0 A1 : Mat} {R : List (List Int)} {r col : Nat} {d sg : Int} (h : KI m A1 R) (s : SI m w A0 R r col d sg) (hr : r < m) (hc : col < w) (he : ent R r col ≠ 0) : KI m A1 (clrRows R r col d) := fun Φ lin hz => by
  have dn := s.dne
  have hn : at2 R r col ≠ 0 := fun z => he (Rat.intCast_inj.mp (by unfold at2 at z; simpa using z))
  have cl := fun (i : Nat) (hi : i < m) (x : Nat) => at2_clr s hr hc he hi x
  have zr : Φ (at2 R r) = 0 := by
    have e : at2 R r = at2 (clrRows R r col d) r := by funext x; rw [cl r hr x, if_pos rfl]
    rw [e]; exact hz r hr
  refine h Φ lin fun k hk => ?_
  by_cases e : k = r
  · rw [e]; exact zr
  · have e2 : at2 R k = fun x => (fun x => ((d : Rat) / at2 R r col) * at2 (clrRows R r col d) k x) x + (at2 R k col / at2 R r col) * at2 R r x := by
      funext x
      show _ = ((d : Rat) / at2 R r col) * at2 (clrRows R r col d) k x + _
      rw [cl k hk x, if_neg e]
      grind
    rw [e2, lin, lin.mul, hz k hk, zr]; grind
theorem KI.whole {m w : Nat} {A0 A1 : Mat} {R : List (List Int)} {d sg : Int} (h : KI m A1 R) (s : SI m w A0 R m m d sg) {i : Nat} (hi : i < m) : (rs m fun k => A1 i k * (at2 R k m / (d : Rat))) = A1 i m := by
  obtain ⟨A, c, B, e⟩ := s.bar
  have dn := B.dne
  have := h (fun f => (rs m fun k => f k * (at2 R k m / (d : Rat))) - f m) (fun x y l => by
    have : (rs m fun k => (x k + l * y k) * (at2 R k m / (d : Rat))) = (rs m fun k => x k * (at2 R k m / (d : Rat)) + l * (y k * (at2 R k m / (d : Rat)))) := rs_congr fun k _ => by grind
    show (rs m fun k => (x k + l * y k) * (at2 R k m / (d : Rat))) - (x m + l * y m) = ((rs m fun k => x k * (at2 R k m / (d : Rat))) - x m) + l * ((rs m fun k => y k * (at2 R k m / (d : Rat))) - y m)
    rw [this, rs_add, rs_mul]; grind) (fun k hk => by
    have : (rs m fun j => at2 R k j * (at2 R j m / (d : Rat))) = rs m fun j => if j = k then (d : Rat) * (at2 R k m / (d : Rat)) else 0 := rs_congr fun j hj => by
      have i2 := B.i2 k j hk hj
      rw [B.full rfl j hj] at i2
      rw [i2]
      by_cases z : j = k
      · rw [if_pos z, if_pos z, z]
      · rw [if_neg z, if_neg z]; grind
    show (rs m fun j => at2 R k j * (at2 R j m / (d : Rat))) - at2 R k m = 0
    rw [this, rs_ind m k _ hk]; grind) i hi
  have e2 : (rs m fun k => A1 i k * (at2 R k m / (d : Rat))) - A1 i m = 0 := this
  grind
end Mq

set_option Elab.async false
set_option linter.all false
set_option maxRecDepth 100000
set_option maxHeartbeats 4000000
namespace Shp
open PySem L2
/-! solved -/
def rsdX (X : List (List Mq.Q2)) (qs : List Mq.Q2) : List (List Mq.Q2) := List.zipWith (fun row q => row ++ [q]) X qs
def rsdR (X : List (List Mq.Q2)) (qs : List Mq.Q2) : List (List Int) := (rsdX X qs).map Mq.iw
section
variable {X : List (List Mq.Q2)} {qs : List Mq.Q2}
theorem rsdX_len (hl : qs.length = X.length) : (rsdX X qs).length = X.length := by unfold rsdX; simp [hl]
theorem rsdR_len (hl : qs.length = X.length) : (rsdR X qs).length = X.length := by unfold rsdR; rw [List.length_map, rsdX_len hl]
theorem rsdX_get (hl : qs.length = X.length) {i : Nat} (hi : i < X.length) : (rsdX X qs).getD i [] = X.getD i [] ++ [qs.getD i Mq.z0] := by
  unfold rsdX
  rw [List.getD_eq_getElem?_getD, List.getElem?_zipWith, getR hi, Mq.getQ (show i < qs.length by omega)]; rfl
theorem rsdR_get (hl : qs.length = X.length) {i : Nat} (hi : i < X.length) : (rsdR X qs).getD i [] = Mq.iw (X.getD i [] ++ [qs.getD i Mq.z0]) := by
  unfold rsdR
  rw [List.getD_eq_getElem?_getD, List.getElem?_map, getR (X := rsdX X qs) (by rw [rsdX_len hl]; exact hi), rsdX_get hl hi]; rfl
theorem aug_pos (hX : Mq.AllPos X) (hq : Mq.Pos qs) (hl : qs.length = X.length) {i : Nat} (hi : i < X.length) : Mq.Pos (X.getD i [] ++ [qs.getD i Mq.z0]) := fun p hp => by
  rcases List.mem_append.mp hp with z | z
  · exact hX _ (List.mem_of_getElem? (getR hi)) p z
  · have e : p = qs.getD i Mq.z0 := by simpa using z
    rw [e]; exact Mq.getD_pos hq i
theorem aug_allpos (hX : Mq.AllPos X) (hq : Mq.Pos qs) (hl : qs.length = X.length) : Mq.AllPos (rsdX X qs) := fun row hr => by
  obtain ⟨i, hi, rfl⟩ := List.getElem_of_mem hr
  have hi' : i < X.length := by rw [rsdX_len hl] at hi; exact hi
  have e := rsdX_get hl hi'
  rw [List.getD_eq_getElem?_getD, List.getElem?_eq_getElem hi] at e
  have e' : (rsdX X qs)[i] = X.getD i [] ++ [qs.getD i Mq.z0] := e
  rw [e']; exact aug_pos hX hq hl hi'
theorem aug_at (hX : Mq.AllPos X) (hq : Mq.Pos qs) (hl : qs.length = X.length) (hw : ∀ row ∈ X, row.length = X.length) {i x : Nat} (hi : i < X.length) (hx : x < X.length + 1) :
    Mq.at2 (rsdR X qs) i x = ((Mq.lcmB ((rsdX X qs).getD i []) : Int) : Rat) * if x < X.length then matX X i x else Mq.val (qs.getD i Mq.z0) := by
  have l := hw _ (List.mem_of_getElem? (getR hi))
  show ((((rsdR X qs).getD i []).getD x 0 : Int) : Rat) = _
  rw [rsdR_get hl hi, rsdX_get hl hi, iw_get (aug_pos hX hq hl hi) (by rw [List.length_append, l]; simpa using hx)]
  congr 1
  by_cases h : x < X.length
  · rw [if_pos h, List.getD_eq_getElem?_getD, List.getElem?_append_left (by rw [l]; exact h), ← List.getD_eq_getElem?_getD]; rfl
  · have ex : x = X.length := by omega
    rw [if_neg h, List.getD_eq_getElem?_getD, List.getElem?_append_right (by rw [l]; omega), l, ex, Nat.sub_self]; rfl
theorem aug_wgt (hX : Mq.AllPos X) (hq : Mq.Pos qs) (hl : qs.length = X.length) (hw : ∀ row ∈ X, row.length = X.length) : Mq.det X.length (Mq.at2 (rsdR X qs)) = ((botP (rsdX X qs) : Int) : Rat) * wgt X := by
  unfold wgt
  have hb := botP_prod (rsdX X qs) (rsdX X qs).length (Nat.le_refl _)
  rw [List.take_length, rsdX_len hl] at hb
  rw [hb, ← Mq.det_scale]
  refine Mq.det_congr fun i j hi hj => ?_
  rw [aug_at hX hq hl hw hi (by omega), if_pos hj]; rfl
theorem wgt_rankF {R R' : List (List Int)} {w r : Nat} {d sg : Int} {f : Rat} (fn : f ≠ 0) (hR : Mq.det X.length (Mq.at2 R) = f * wgt X) (h : Mq.SI X.length w (Mq.at2 R) R' r X.length d sg) : (r < X.length ∧ wgt X = 0) ∨ (r = X.length ∧ wgt X ≠ 0) := by
  obtain ⟨A, c, B, e⟩ := h.bar
  have rm := B.rm
  have dn := B.dne
  clear B
  by_cases hr : r < X.length
  · left
    have e := h.lame hr
    rw [hR] at e
    exact ⟨hr, by grind⟩
  · right
    have er : r = X.length := by omega
    subst er
    refine ⟨rfl, fun z => ?_⟩
    have e := h.whole
    rw [hR, z] at e
    rcases h.one with q | q
    · rw [q] at e; simp at e; grind
    · rw [q, Rat.intCast_neg] at e; simp at e; grind
theorem aug_rank (hX : Mq.AllPos X) (hq : Mq.Pos qs) (hl : qs.length = X.length) (hw : ∀ row ∈ X, row.length = X.length) {R' : List (List Int)} {w r : Nat} {d sg : Int} (h : Mq.SI X.length w (Mq.at2 (rsdR X qs)) R' r X.length d sg) : (r < X.length ∧ wgt X = 0) ∨ (r = X.length ∧ wgt X ≠ 0) := by
  have b1 := botP_ge (aug_allpos hX hq hl) (rsdX X qs).length (Nat.le_refl _)
  rw [List.take_length] at b1
  exact wgt_rankF (Mq.cast_ne (show botP (rsdX X qs) ≠ 0 by omega)) (aug_wgt hX hq hl hw) h
end
theorem stp_ki {m w : Nat} {A0 A1 : Mq.Mat} : Stp m w A0 (Mq.KI m A1) :=
  ⟨fun R r col d sg p s h1 h2 h => h.swap s.len h2 (by omega), fun R r col d sg s h1 h2 h3 h => h.clear s h1 h2 h3⟩
structure Slv (X : List (List Mq.Q2)) (qs ps : List Mq.Q2) : Prop where
  len : ps.length = X.length
  low : Mq.AllLow ps
  bd : ∀ p ∈ ps, Mq.Bd 9000 p
  sum : ∀ i, i < X.length → (Mq.rs X.length fun j => matX X i j * Mq.val (ps.getD j Mq.z0)) = Mq.val (qs.getD i Mq.z0)
/-- a right side beside the rows -/
abbrev RtOk (X : List (List Mq.Q2)) (qs : List Mq.Q2) : Prop := qs.length = X.length ∧ Mq.AllLow qs ∧ ∀ p ∈ qs, Mq.Bd 64 p
def spSolved (K : PySem.W.Frag) (C : Addr) : Sp := fun vs H Q E => ∃ (g b D : Addr) (H0 : Hp) (us bs : List V) (X : List (List Mq.Q2)) (qs : List Mq.Q2), vs = [.ref g, .ref b] ∧ SqL K H g us ∧ Fmd K H0 D H us X ∧ SqL K H b bs ∧ Fqs K H bs qs ∧ RtOk X qs ∧ MxOk X ∧
  (∀ l zs ps H', Same H H' → wgt X ≠ 0 → H l = none → H' l = some (.lst zs) → Fqs K H' zs ps → Slv X qs ps → Q (.ref l) H') ∧
  ∀ dx l zs ps H', Same H H' → wgt X = 0 → H' dx = some (.xd [("multiples", .ref l)]) → H l = none → H' l = some (.lst zs) → Fqs K H' zs ps → Null X ps → E (.ref C) (some dx) H'
theorem slv_of {X : List (List Mq.Q2)} {qs : List Mq.Q2} (hX : Mq.AllPos X) (hq : Mq.Pos qs) (hl : qs.length = X.length) (hw : ∀ row ∈ X, row.length = X.length) {R : List (List Int)} {w : Nat} {d sg : Int} (h : Mq.KI X.length (Mq.at2 (rsdR X qs)) R) (s : Mq.SI X.length w (Mq.at2 (rsdR X qs)) R X.length X.length d sg)
    {i : Nat} (hi : i < X.length) : (Mq.rs X.length fun j => matX X i j * (Mq.at2 R j X.length / (d : Rat))) = Mq.val (qs.getD i Mq.z0) := by
  have e := h.whole s hi
  rw [aug_at hX hq hl hw hi (by omega), if_neg (by omega)] at e
  have e2 : (Mq.rs X.length fun k => Mq.at2 (rsdR X qs) i k * (Mq.at2 R k X.length / (d : Rat))) = ((Mq.lcmB ((rsdX X qs).getD i []) : Int) : Rat) * Mq.rs X.length fun k => matX X i k * (Mq.at2 R k X.length / (d : Rat)) := by
    rw [← Mq.rs_mul]
    refine Mq.rs_congr fun k hk => ?_
    rw [aug_at hX hq hl hw hi (by omega), if_pos hk]; grind
  rw [e2] at e
  have g := Mq.lcmB_ge (aug_pos hX hq hl hi)
  have n := Mq.cast_ne (show Mq.lcmB ((rsdX X qs).getD i []) ≠ 0 by rw [rsdX_get hl hi]; omega)
  grind
end Shp

set_option linter.all false
set_option maxHeartbeats 1000000
namespace Mq
/-! how large the numbers of an elimination are: determinants of parts -/
def Wb (n : Nat) (x : Rat) : Prop := ∃ z : Int, x = (z : Rat) ∧ B n z
theorem Wb.mono {n m : Nat} {x : Rat} (h : Wb n x) (l : n ≤ m) : Wb m x := by obtain ⟨z, e, b⟩ := h; exact ⟨z, e, b.mono l⟩
theorem Wb.mul {n m : Nat} {x y : Rat} (h : Wb n x) (k : Wb m y) : Wb (n + m) (x * y) := by
  obtain ⟨a, rfl, b⟩ := h
  obtain ⟨c, rfl, d⟩ := k
  exact ⟨a * c, by rw [Rat.intCast_mul], b.mul d⟩
theorem Wb.sub {n : Nat} {x y : Rat} (h : Wb n x) (k : Wb n y) : Wb (n + 1) (x - y) := by
  obtain ⟨a, rfl, b⟩ := h
  obtain ⟨c, rfl, d⟩ := k
  exact ⟨a - c, by rw [Rat.intCast_sub], b.sub d⟩
theorem Wb.neg {n : Nat} {x : Rat} (h : Wb n x) : Wb n (-x) := by
  obtain ⟨a, rfl, b⟩ := h
  exact ⟨-a, by rw [Rat.intCast_neg], b.neg⟩
theorem Wb.zero (n : Nat) : Wb n 0 := ⟨0, by simp, Nat.two_pow_pos _⟩
theorem Wb.one : Wb 1 1 := ⟨1, by simp, show (1 : Nat) < 2 ^ 1 by decide⟩
theorem Wb.sgn {n : Nat} {x : Rat} (h : Wb n x) (k : Nat) : Wb n (Mq.sgn k * x) := by
  unfold Mq.sgn
  split
  · rw [show (1 : Rat) * x = x by grind]; exact h
  · rw [show (-1 : Rat) * x = -x by grind]; exact h.neg
theorem wb_rs {n : Nat} {f : Nat → Rat} : ∀ K, (∀ k, k < K → Wb n (f k)) → ∃ z : Int, rs K f = (z : Rat) ∧ z.natAbs + K ≤ K * 2 ^ n
  | 0, _ => ⟨0, by simp only [rs]; simp, by simp⟩
  | K + 1, h => by
    obtain ⟨z, e, b⟩ := wb_rs K fun k hk => h k (by omega)
    obtain ⟨y, e2, b2⟩ := h K (by omega)
    refine ⟨z + y, by simp only [rs]; rw [e, e2, Rat.intCast_add], ?_⟩
    have : y.natAbs < 2 ^ n := b2
    rw [Nat.succ_mul]
    omega
theorem Wb.rs {n K : Nat} {f : Nat → Rat} (hK : K ≤ 16) (h : ∀ k, k < K → Wb n (f k)) : Wb (n + 4) (Mq.rs K f) := by
  obtain ⟨z, e, b⟩ := wb_rs K h
  refine ⟨z, e, ?_⟩
  have p : 2 ^ (n + 4) = 16 * 2 ^ n := by rw [Nat.pow_add]; omega
  have q : K * 2 ^ n ≤ 16 * 2 ^ n := Nat.mul_le_mul_right _ hK
  have r : 0 < 2 ^ n := Nat.two_pow_pos n
  show z.natAbs < 2 ^ (n + 4)
  by_cases k0 : K = 0
  · subst k0; omega
  · omega
theorem det_wb {n : Nat} : ∀ (r : Nat) (M : Mat), r ≤ 16 → (∀ i j, i < r → Wb n (M i j)) → Wb ((n + 4) * r + 1) (det r M)
  | 0, _, _, _ => Wb.one
  | r + 1, M, hr, h => by
    rw [det_succ]
    have := Wb.rs (n := n + ((n + 4) * r + 1)) (K := r + 1) (f := fun j => sgn (r + j) * M r j * det r fun i k => M i (skip j k)) hr fun j _ => ((h r j (by omega)).sgn _).mul (det_wb r _ (by omega) fun i k hi => h i _ (by omega))
    exact this.mono (by rw [Nat.mul_succ]; omega)
section
variable {m : Nat} {A E : Mat} {r col : Nat} {d : Rat} {c : Nat → Nat} {n : Nat}
theorem Bar.wd (h : Bar m A E r col d c) (hA : ∀ i x, i < m → Wb n (A i x)) (hm : m ≤ 15) : Wb ((n + 4) * r + 1) d := by
  have rm := h.rm
  rw [← h.i5]
  exact det_wb r _ (by omega) fun i j hi => hA i _ (by omega)
theorem Bar.wtop (h : Bar m A E r col d c) (hA : ∀ i x, i < m → Wb n (A i x)) (hm : m ≤ 15) {k : Nat} (hk : k < r) (x : Nat) : Wb ((n + 4) * r + 6) (E k x) := by
  have rm := h.rm
  have hd := h.dne
  by_cases hx : ∃ j, j < r ∧ x = c j
  · obtain ⟨j, hj, rfl⟩ := hx
    rw [h.i2 k j hk hj]
    split
    · exact (h.wd hA hm).mono (by omega)
    · exact Wb.zero _
  · let c2 : Nat → Nat := fun j => if j = r then x else c j
    let u : Nat → Rat := fun j => if j = c k then 1 else 0
    have hΦ := F_lin r A c2
    have z := h.i6 _ hΦ (fun s hs => F_row r A c2 hs) k hk
    have eu : u = fun y => (fun y => u y + (-(1 / d)) * E k y) y + (1 / d) * E k y := by
      funext y
      show u y = u y + (-(1 / d)) * E k y + (1 / d) * E k y
      grind
    have fb := F_block r A c2 (fun y => u y + (-(1 / d)) * E k y) fun j hj => by
      have ec : c2 j = c j := by show (if j = r then x else c j) = _; rw [if_neg (by omega)]
      rw [ec]
      show u (c j) + (-(1 / d)) * E k (c j) = 0
      rw [h.i2 k j hk hj]
      show (if c j = c k then (1 : Rat) else 0) + _ = 0
      by_cases e : j = k
      · rw [if_pos e, if_pos (by rw [e])]; grind
      · rw [if_neg e, if_neg (fun q => e (h.cinj j k hj hk q))]; grind
    have dd : (det r fun i j => A i (c2 j)) = d := by
      rw [← h.i5]
      exact det_congr fun i j _ hj => by show A i (if j = r then x else c j) = _; rw [if_neg (by omega)]
    have ux : u x = 0 := by show (if x = c k then (1 : Rat) else 0) = 0; rw [if_neg (fun q => hx ⟨k, hk, q⟩)]
    have cx : c2 r = x := by show (if r = r then x else _) = x; rw [if_pos rfl]
    rw [dd, cx] at fb
    have val : F r A c2 u = - E k x := by
      rw [eu, hΦ, z, fb]
      show (u x + (-(1 / d)) * E k x) * d + _ = _
      rw [ux]; grind
    have wh : Wb ((n + 4) * r + 6) (F r A c2 u) := by
      rw [F_eq]
      have := Wb.rs (n := 1 + ((n + 4) * r + 1)) (K := r + 1) (f := fun j => Mq.sgn (r + j) * u (c2 j) * det r fun i k => A i (c2 (Mq.skip j k))) (by omega) fun j _ => by
        refine Wb.mul (Wb.sgn ?_ _) (det_wb r _ (by omega) fun i k hi => hA i _ (by omega))
        show Wb 1 (if c2 j = c k then (1 : Rat) else 0)
        split
        · exact Wb.one
        · exact Wb.zero _
      exact this.mono (by omega)
    rw [val] at wh
    have := wh.neg
    rwa [show - - E k x = E k x by grind] at this
theorem Bar.wall (h : Bar m A E r col d c) (hA : ∀ i x, i < m → Wb n (A i x)) (hm : m ≤ 15) {i : Nat} (hi : i < m) (x : Nat) : Wb ((n + 4) * (m + 1) + 7) (E i x) := by
  have rm := h.rm
  have mono := Nat.mul_le_mul_left (n + 4) rm
  have e1 : (n + 4) * (m + 1) = (n + 4) * m + (n + 4) := Nat.mul_succ ..
  by_cases h1 : i < r
  · exact (h.wtop hA hm h1 x).mono (by omega)
  · have q := h.i4 i x hi
    rw [if_neg h1] at q
    have e : E i x = d * A i x - rs r fun k => A i (c k) * E k x := by grind
    rw [e]
    have b1 : Wb (n + ((n + 4) * r + 6) + 4) (d * A i x) := ((h.wd hA hm).mul (hA i x hi)).mono (by omega)
    have b2 : Wb (n + ((n + 4) * r + 6) + 4) (rs r fun k => A i (c k) * E k x) := Wb.rs (by omega) fun k hk => (hA i _ hi).mul (h.wtop hA hm hk x)
    exact (b1.sub b2).mono (by omega)
end
/-- an elimination whose first numbers were small -/
def SB (n m : Nat) (R : List (List Int)) (r col : Nat) (d : Int) : Prop := ∃ A c, Bar m A (at2 R) r col (d : Rat) c ∧ ∀ i x, i < m → Wb n (A i x)
theorem SB.start {n m : Nat} {R : List (List Int)} (hb : BdR n R) : SB n m R 0 0 1 :=
  ⟨at2 R, id, by
    have := Bar.start (m := m) (A := at2 R) fun i j => ⟨_, rfl⟩
    simpa using this, fun i x _ => ⟨ent R i x, rfl, hb i x⟩⟩
theorem SB.skip {n m : Nat} {R : List (List Int)} {r col : Nat} {d : Int} (h : SB n m R r col d) (hz : ∀ i, r ≤ i → i < m → ent R i col = 0) : SB n m R r (col + 1) d := by
  obtain ⟨A, c, B, q⟩ := h
  exact ⟨A, c, B.skip fun i h1 h2 => by unfold at2; rw [hz i h1 h2]; simp, q⟩
theorem SB.swap {n m w : Nat} {A0 : Mat} {R : List (List Int)} {r col : Nat} {d sg : Int} (h : SB n m R r col d) (s : SI m w A0 R r col d sg) {p : Nat} (hp : r < p) (hm : p < m) : SB n m (swRows R p r) r col d := by
  obtain ⟨A, c, B, q⟩ := h
  have hl := s.len
  refine ⟨_, c, (B.swap (by omega) hm).congr fun i hi => ?_, fun i x hi => q _ x (sw_m hm (by omega) hi)⟩
  funext x
  rw [at2_sw (by omega) (by omega)]
theorem SB.clear {n m w : Nat} {A0 : Mat} {R : List (List Int)} {r col : Nat} {d sg : Int} (h : SB n m R r col d) (s : SI m w A0 R r col d sg) (hr : r < m) (hc : col < w) (he : ent R r col ≠ 0) : SB n m (clrRows R r col d) (r + 1) (col + 1) (ent R r col) := by
  obtain ⟨A, c, B, q⟩ := h
  have heq : at2 R r col ≠ 0 := fun z => he (Rat.intCast_inj.mp (by unfold at2 at z; simpa using z))
  refine ⟨A, _, (B.clear hr heq).congr fun i hi => ?_, q⟩
  funext x
  rw [at2_clr s hr hc he hi x]
  unfold clr
  by_cases e : i = r
  · rw [if_pos e, if_pos e, e]
  · rw [if_neg e, if_neg e]
theorem SB.bd {n m w : Nat} {A0 : Mat} {R : List (List Int)} {r col : Nat} {d sg : Int} (h : SB n m R r col d) (s : SI m w A0 R r col d sg) (hm : m ≤ 15) : BdR ((n + 4) * (m + 1) + 7) R ∧ B ((n + 4) * (m + 1) + 7) d := by
  obtain ⟨A, c, B, q⟩ := h
  refine ⟨fun i x => ?_, ?_⟩
  · by_cases hi : i < m
    · obtain ⟨z, e, b⟩ := B.wall q hm hi x
      have : ent R i x = z := Rat.intCast_inj.mp e
      rw [this]; exact b
    · unfold ent
      rw [List.getD_eq_getElem?_getD (l := R), List.getElem?_eq_none (by rw [s.len]; omega)]
      exact Nat.two_pow_pos _
  · obtain ⟨z, e, b⟩ := B.wd q hm
    have : d = z := Rat.intCast_inj.mp e
    have mono := Nat.mul_le_mul_left (n + 4) B.rm
    rw [this]; exact b.mono (by rw [Nat.mul_succ]; omega)
end Mq

set_option Elab.async false
set_option linter.all false
set_option maxRecDepth 100000
set_option maxHeartbeats 4000000
namespace Shp
open PySem L2
/-! the same for more rows -/
abbrev bq (n m : Nat) : Nat := (n + 4) * (m + 1) + 7
theorem bq_mono (n : Nat) {i j : Nat} (h : i ≤ j) : bq n i ≤ bq n j := by
  exact Nat.add_le_add_right (Nat.mul_le_mul_left (n + 4) (show i + 1 ≤ j + 1 by omega)) 7
def spElimQ (K : PySem.W.Frag) : Sp := fun vs H Q _ => ∃ (l D : Addr) (zs : List V) (R : List (List Int)) (m w n : Nat) (Pr : List (List Int) → Prop), vs = [.ref l, .int (m : Int)] ∧ SqL K H l zs ∧ Imx D H zs R ∧ R.length = m ∧ (∀ i, i < m → (R.getD i []).length = w) ∧ m ≤ w ∧ w ≤ 100 ∧ Mq.BdR n R ∧ 1 ≤ n ∧ bq n m ≤ 9000 ∧ m ≤ 15 ∧ Pr R ∧ Stp m w (Mq.at2 R) Pr ∧
  ∀ d l' zs' R' rank pivot sign H', Same H H' → H d = none → H l' = none → H' d = some (elimD l' rank pivot sign) → H' l' = some (.lst zs') → Imx l' H' zs' R' → Mq.SI m w (Mq.at2 R) R' rank m pivot sign → Mq.BdR (bq n m) R' → Mq.B (bq n m) pivot → Pr R' → Q (.ref d) H'
abbrev MxQ (X : List (List Mq.Q2)) : Prop := Mq.AllPos X ∧ (∀ row ∈ X, (∀ p ∈ row, Mq.Bd 32 p) ∧ row.length = X.length) ∧ X.length ≤ 11
abbrev RtQ (X : List (List Mq.Q2)) (qs : List Mq.Q2) : Prop := qs.length = X.length ∧ Mq.AllLow qs ∧ ∀ p ∈ qs, Mq.Bd 32 p
def spUnitQ (K : PySem.W.Frag) : Sp := fun vs H Q _ => ∃ (g D : Addr) (us : List V) (X : List (List Mq.Q2)), vs = [.ref g] ∧ SqL K H g us ∧ Fmx K D H us X ∧ MxQ X ∧
  ∀ l zs H', Same H H' → H l = none → H' l = some (.lst zs) → Imx l H' zs (unitR X) → Q (.ref l) H'
def spLameMQ (K : PySem.W.Frag) : Sp := fun vs H Q _ => ∃ (g D : Addr) (us : List V) (X : List (List Mq.Q2)), vs = [.ref g] ∧ SqL K H g us ∧ Fmx K D H us X ∧ MxQ X ∧ wgt X = 0 ∧ 1 ≤ X.length ∧
  ∀ l zs ps H', Same H H' → H l = none → H' l = some (.lst zs) → Fqs K H' zs ps → Null X ps → Q (.ref l) H'
def spMultQ (K : PySem.W.Frag) (C : Addr) : Sp := fun vs H Q E => ∃ (g D : Addr) (us : List V) (X : List (List Mq.Q2)), vs = [.ref g] ∧ SqL K H g us ∧ Fmx K D H us X ∧ MxQ X ∧
  (∀ l zs Y H', Same H H' → wgt X ≠ 0 → H l = none → H' l = some (.lst zs) → Fmd K H l H' zs Y → Inve X Y → Q (.ref l) H') ∧
  ∀ dx l zs ps H', Same H H' → wgt X = 0 → H' dx = some (.xd [("multiples", .ref l)]) → H l = none → H' l = some (.lst zs) → Fqs K H' zs ps → Null X ps → E (.ref C) (some dx) H'
def spSolvedQ (K : PySem.W.Frag) (C : Addr) : Sp := fun vs H Q E => ∃ (g b D : Addr) (H0 : Hp) (us bs : List V) (X : List (List Mq.Q2)) (qs : List Mq.Q2), vs = [.ref g, .ref b] ∧ SqL K H g us ∧ Fmd K H0 D H us X ∧ SqL K H b bs ∧ Fqs K H bs qs ∧ RtQ X qs ∧ MxQ X ∧
  (∀ l zs ps H', Same H H' → wgt X ≠ 0 → H l = none → H' l = some (.lst zs) → Fqs K H' zs ps → Slv X qs ps → Q (.ref l) H') ∧
  ∀ dx l zs ps H', Same H H' → wgt X = 0 → H' dx = some (.xd [("multiples", .ref l)]) → H l = none → H' l = some (.lst zs) → Fqs K H' zs ps → Null X ps → E (.ref C) (some dx) H'
def spWeightQ (K : PySem.W.Frag) : Sp := fun vs H Q _ => ∃ (g D : Addr) (us : List V) (X : List (List Mq.Q2)), vs = [.ref g] ∧ SqL K H g us ∧ Fmx K D H us X ∧ MxQ X ∧
  ∀ a p H', Same H H' → Fq K H' a p → Mq.Low p → Mq.Bd 9001 p → Mq.val p = wgt X → Q (.ref a) H'
end Shp

set_option Elab.async false
set_option linter.all false
set_option maxRecDepth 100000
set_option maxHeartbeats 1000000
namespace Mq
/-! tables drawn as products -/
def ri (L U : Nat → Nat → Int) (k : Nat) : Nat → Nat → Int
  | 0, _ => 0
  | m + 1, j => ri L U k m j + L k m * U m j
end Mq
namespace Shp
open PySem L2
/-! a row put in, and the sign -/
/-- rows that were put in one after another, as if in order -/
def Ord (M k : Nat) (s : Rat) (X : List (List Mq.Q2)) (row : Nat → List Mq.Q2) : Prop := X.length = k ∧ ∀ Z : List (List Mq.Q2), Z.length + k = M → Mq.det M (matX (X ++ Z)) = s * Mq.det M (matX ((List.range k).map row ++ Z))
/-- the rows in order -/
def rowQ (L U : Nat → Nat → Int) (bot : Nat → Int) (M k : Nat) : List Mq.Q2 := (List.range M).map fun j => Mq.red (Mq.ri L U k (k + 1) j) (bot k)
end Shp

set_option Elab.async false
set_option linter.all false
set_option maxRecDepth 100000
set_option maxHeartbeats 1000000
namespace Mq
theorem det_last {n : Nat} (A : Mat) : det (n + 1) A = F n A id (A n) := by
  unfold F
  exact det_congr fun i j hi _ => by
    unfold bord
    by_cases z : i = n
    · rw [if_pos z, z]; rfl
    · rw [if_neg z]; rfl
theorem F_congr {n : Nat} {S S' : Mat} {c : Nat → Nat} (h : ∀ i, i < n → S i = S' i) (x : Nat → Rat) : F n S c x = F n S' c x := by
  unfold F
  exact det_congr fun i j hi _ => by
    unfold bord
    by_cases z : i = n
    · rw [if_pos z, if_pos z]
    · rw [if_neg z, if_neg z]
      show S i (c j) = S' i (c j)
      rw [h i (by omega)]
end Mq
namespace Shp
open PySem L2
theorem getD_set {X : List (List Mq.Q2)} {a : Nat} (ha : a < X.length) (r : List Mq.Q2) (i : Nat) : (X.set a r).getD i [] = if i = a then r else X.getD i [] := by
  rw [List.getD_eq_getElem?_getD, List.getD_eq_getElem?_getD]
  by_cases e : i = a
  · rw [if_pos e, e, List.getElem?_set_self ha]; rfl
  · rw [if_neg e, List.getElem?_set_ne (Ne.symm e)]
end Shp

set_option Elab.async false
set_option linter.all false
set_option maxRecDepth 100000
set_option maxHeartbeats 4000000
namespace L2
open PySem PyProof.Rows
/-- a def that may raise, where it doesn't -/
theorem FnOk.calm {P : Program} {w : World} {K : PySem.W.Frag} {mg : Str → Option Value} {base : Heap} {k : Nat} {f : Addr} {fd : FuncData} {ps : List Str} {sp : Sp} (F : FnOk P w K mg base (CX1 P w) k f fd ps sp) :
    FnOk P w K mg base CX0 k f fd ps (fun vs H Q _ => sp vs H Q (fun _ _ _ => False)) :=
  ⟨fun vs H Q E q => F.len vs H Q _ q, fun A outer s H args us vs Q E hr he hb hv hs => codeAny_mono (F.run A outer s H args us vs Q _ hr he hb hv hs) fun r s' h => by
    cases r with
    | ok fl => cases fl <;> exact h
    | error e =>
      obtain ⟨a, C, d, H', _, _, _, _, _, _, z⟩ := h
      exact z.elim⟩
end L2

set_option Elab.async false
set_option linter.all false
set_option maxRecDepth 100000
set_option maxHeartbeats 4000000
namespace Mq
/-- what the first rows kept every row keeps -/
def KJ (m : Nat) (A1 : Mat) (R : List (List Int)) : Prop := ∀ Φ, Lin Φ → (∀ i, i < m → Φ (A1 i) = 0) → ∀ k, k < m → Φ (at2 R k) = 0
end Mq
namespace Shp
open PySem L2
abbrev MxR (X : List (List Mq.Q2)) : Prop := Mq.AllPos X ∧ (∀ row ∈ X, (∀ p ∈ row, Mq.Bd 8 p) ∧ row.length = X.length) ∧ X.length ≤ 8
abbrev RtR (X : List (List Mq.Q2)) (qs : List Mq.Q2) : Prop := qs.length = X.length ∧ Mq.AllLow qs ∧ ∀ p ∈ qs, Mq.Bd 240 p
structure SlvU (X : List (List Mq.Q2)) (qs ps : List Mq.Q2) : Prop extends Slv X qs ps where
  uni : ∀ v : Nat → Rat, (∀ i, i < X.length → (Mq.rs X.length fun j => matX X i j * v j) = Mq.val (qs.getD i Mq.z0)) → ∀ j, j < X.length → Mq.val (ps.getD j Mq.z0) = v j
def spSolvedR (K : PySem.W.Frag) (C : Addr) : Sp := fun vs H Q E => ∃ (g b D : Addr) (H0 : Hp) (us bs : List V) (X : List (List Mq.Q2)) (qs : List Mq.Q2), vs = [.ref g, .ref b] ∧ SqL K H g us ∧ Fmd K H0 D H us X ∧ SqL K H b bs ∧ Fqs K H bs qs ∧ RtR X qs ∧ MxR X ∧
  (∀ l zs ps H', Same H H' → wgt X ≠ 0 → H l = none → H' l = some (.lst zs) → Fqs K H' zs ps → SlvU X qs ps → Q (.ref l) H') ∧
  ∀ dx l zs ps H', Same H H' → wgt X = 0 → H' dx = some (.xd [("multiples", .ref l)]) → H l = none → H' l = some (.lst zs) → Fqs K H' zs ps → Null X ps → E (.ref C) (some dx) H'
theorem lcm_app {row : List Mq.Q2} {q : Mq.Q2} {n m : Nat} (hp : Mq.Pos row) (hb : ∀ p ∈ row, Mq.Bd n p) (hq : Mq.Bd m q) : Mq.B (1 + n * row.length + m) (Mq.lcmB (row ++ [q])) := by
  have e : Mq.lcmB (row ++ [q]) = Int.fdiv (Mq.lcmB row) (Mq.gc (Mq.lcmB row) q.2) * q.2 := by
    have := Mq.lcmB_take (ps := row ++ [q]) (i := row.length) (p := q) (by simp)
    rw [List.take_left, show row.length + 1 = (row ++ [q]).length by simp, List.take_length] at this
    exact this
  rw [e]
  refine Mq.B.mul ?_ hq.b
  have l1 := lcm_bd hp hb
  by_cases g0 : Mq.gc (Mq.lcmB row) q.2 = 0
  · rw [g0]
    have : Int.fdiv (Mq.lcmB row) 0 = 0 := Int.fdiv_zero _
    rw [this]; exact Nat.two_pow_pos _
  · obtain ⟨k, hk⟩ : Mq.gc (Mq.lcmB row) q.2 ∣ Mq.lcmB row := by unfold Mq.gc; exact Int.gcd_dvd_left ..
    have := Mq.natAbs_fdiv_le g0 hk
    rw [Mq.fdiv_exact g0 hk]
    exact l1.le this
theorem iw_bd2 {row : List Mq.Q2} {n m : Nat} (hp : Mq.Pos row) (hb : ∀ p ∈ row, Mq.Bd n p) (hl : Mq.B m (Mq.lcmB row)) (j : Nat) : Mq.B (n + m) ((Mq.iw row).getD j 0) := by
  by_cases hj : j < row.length
  · have ej := Mq.getQ hj
    have mem : row.getD j Mq.z0 ∈ row := List.mem_of_getElem? ej
    obtain ⟨k, hk⟩ := Mq.lcmB_dvd hp _ mem
    have p1 := hp _ mem
    have e2 : (Mq.iw row).getD j 0 = Mq.iwOf (Mq.lcmB row) (row.getD j Mq.z0) := by
      unfold Mq.iw
      rw [List.getD_eq_getElem?_getD, List.getElem?_map, ej]; rfl
    have e := Mq.fdiv_exact (show (row.getD j Mq.z0).2 ≠ 0 by omega) (show Mq.lcmB row = (row.getD j Mq.z0).2 * k by rw [hk, Int.mul_comm])
    rw [e2]
    unfold Mq.iwOf
    rw [e]
    refine (hb _ mem).a.mul (hl.le (j := k) ?_)
    rw [hk, Int.natAbs_mul]
    exact Nat.le_mul_of_pos_right _ (by omega)
  · rw [Mq.get_none (by rw [iw_len]; omega)]; exact Nat.two_pow_pos _
end Shp

set_option Elab.async false
set_option linter.all false
set_option maxRecDepth 100000
set_option maxHeartbeats 4000000
namespace Shp
open PySem L2
/-! the same for 4 rows of larger numbers -/
abbrev MxS (X : List (List Mq.Q2)) : Prop := Mq.AllPos X ∧ (∀ row ∈ X, (∀ p ∈ row, Mq.Bd 80 p) ∧ row.length = X.length) ∧ X.length ≤ 4
def spUnitS (K : PySem.W.Frag) : Sp := fun vs H Q _ => ∃ (g D : Addr) (us : List V) (X : List (List Mq.Q2)), vs = [.ref g] ∧ SqL K H g us ∧ Fmx K D H us X ∧ MxS X ∧
  ∀ l zs H', Same H H' → H l = none → H' l = some (.lst zs) → Imx l H' zs (unitR X) → Q (.ref l) H'
def spLameMS (K : PySem.W.Frag) : Sp := fun vs H Q _ => ∃ (g D : Addr) (us : List V) (X : List (List Mq.Q2)), vs = [.ref g] ∧ SqL K H g us ∧ Fmx K D H us X ∧ MxS X ∧ wgt X = 0 ∧ 1 ≤ X.length ∧
  ∀ l zs ps H', Same H H' → H l = none → H' l = some (.lst zs) → Fqs K H' zs ps → Null X ps → Q (.ref l) H'
def spMultS (K : PySem.W.Frag) (C : Addr) : Sp := fun vs H Q E => ∃ (g D : Addr) (us : List V) (X : List (List Mq.Q2)), vs = [.ref g] ∧ SqL K H g us ∧ Fmx K D H us X ∧ MxS X ∧
  (∀ l zs Y H', Same H H' → wgt X ≠ 0 → H l = none → H' l = some (.lst zs) → Fmd K H l H' zs Y → Inve X Y → Q (.ref l) H') ∧
  ∀ dx l zs ps H', Same H H' → wgt X = 0 → H' dx = some (.xd [("multiples", .ref l)]) → H l = none → H' l = some (.lst zs) → Fqs K H' zs ps → Null X ps → E (.ref C) (some dx) H'
def spWeightS (K : PySem.W.Frag) : Sp := fun vs H Q _ => ∃ (g D : Addr) (us : List V) (X : List (List Mq.Q2)), vs = [.ref g] ∧ SqL K H g us ∧ Fmx K D H us X ∧ MxS X ∧
  ∀ a p H', Same H H' → Fq K H' a p → Mq.Low p → Mq.Bd 9001 p → Mq.val p = wgt X → Q (.ref a) H'
theorem unit_bdS {X : List (List Mq.Q2)} (hX : Mq.AllPos X) (hb : ∀ row ∈ X, (∀ p ∈ row, Mq.Bd 80 p) ∧ row.length = X.length) (h4 : X.length ≤ 4) : Mq.BdR 420 (unitR X) := fun i x => by
  unfold Mq.ent
  by_cases hi : i < X.length
  · have mem := List.mem_of_getElem? (getR hi)
    have l := (hb _ mem).2
    rw [unit_get hi]
    unfold unitRow
    by_cases hx : x < X.length
    · rw [List.getD_eq_getElem?_getD, List.getElem?_append_left (by rw [iw_len]; omega), ← List.getD_eq_getElem?_getD]
      exact (iw_bd (hX _ mem) (hb _ mem).1 x).mono (by rw [l]; omega)
    · rw [List.getD_eq_getElem?_getD, List.getElem?_append_right (by rw [iw_len]; omega), iw_len, l, List.getElem?_map]
      cases e : (List.range X.length)[x - X.length]? with
      | none => exact Nat.two_pow_pos _
      | some c =>
        show Mq.B 420 (if c = i then Mq.lcmB (X.getD i []) else 0)
        split
        · exact (lcm_bd (hX _ mem) (hb _ mem).1).mono (by rw [l]; omega)
        · exact Nat.two_pow_pos _
  · rw [List.getD_eq_getElem?_getD (l := unitR X), List.getElem?_eq_none (by rw [unit_len]; omega)]
    exact Nat.two_pow_pos _
abbrev RtS (X : List (List Mq.Q2)) (qs : List Mq.Q2) : Prop := qs.length = X.length ∧ Mq.AllLow qs ∧ ∀ p ∈ qs, Mq.Bd 340 p
def spSolvedS (K : PySem.W.Frag) (C : Addr) : Sp := fun vs H Q E => ∃ (g b D : Addr) (H0 : Hp) (us bs : List V) (X : List (List Mq.Q2)) (qs : List Mq.Q2), vs = [.ref g, .ref b] ∧ SqL K H g us ∧ Fmd K H0 D H us X ∧ SqL K H b bs ∧ Fqs K H bs qs ∧ RtS X qs ∧ MxS X ∧
  (∀ l zs ps H', Same H H' → wgt X ≠ 0 → H l = none → H' l = some (.lst zs) → Fqs K H' zs ps → Slv X qs ps → Q (.ref l) H') ∧
  ∀ dx l zs ps H', Same H H' → wgt X = 0 → H' dx = some (.xd [("multiples", .ref l)]) → H l = none → H' l = some (.lst zs) → Fqs K H' zs ps → Null X ps → E (.ref C) (some dx) H'
theorem aug_bdS {X : List (List Mq.Q2)} {qs : List Mq.Q2} (hX : Mq.AllPos X) (hq : Mq.Pos qs) (hl : qs.length = X.length) (hb : ∀ row ∈ X, (∀ p ∈ row, Mq.Bd 80 p) ∧ row.length = X.length) (hqb : ∀ p ∈ qs, Mq.Bd 340 p) (h4 : X.length ≤ 4) : Mq.BdR 1010 (rsdR X qs) := fun i x => by
  unfold Mq.ent
  by_cases hi : i < X.length
  · have l := (hb _ (List.mem_of_getElem? (getR hi))).2
    rw [rsdR_get hl hi]
    have lb := lcm_app (hX _ (List.mem_of_getElem? (getR hi))) (hb _ (List.mem_of_getElem? (getR hi))).1 (Mq.getD_bd (by omega) hqb i)
    have pos := aug_pos hX hq hl hi
    refine (iw_bd2 pos (n := 340) (fun p hp => ?_) lb x).mono (by rw [l]; omega)
    rcases List.mem_append.mp hp with z | z
    · exact ((hb _ (List.mem_of_getElem? (getR hi))).1 p z).mono (by omega)
    · have e : p = qs.getD i Mq.z0 := by simpa using z
      rw [e]; exact Mq.getD_bd (by omega) hqb i
  · rw [List.getD_eq_getElem?_getD (l := rsdR X qs), List.getElem?_eq_none (by rw [rsdR_len hl]; omega)]
    exact Nat.two_pow_pos _
end Shp

set_option Elab.async false
set_option linter.all false
set_option maxRecDepth 100000
set_option maxHeartbeats 1000000
namespace Mq
/-- a matrix with its row a changed, told by the last row -/
theorem det_row {M a : Nat} (A : Mat) (ha : a < M) : ∃ (n : Nat) (s : Rat) (S : Mat), (∀ x, det M (fun i => if i = a then x else A i) = s * F n S id x) ∧ ∀ b, b < M → b ≠ a → ∃ b', b' < n ∧ S b' = A b := by
  obtain ⟨n, rfl⟩ : ∃ n, M = n + 1 := ⟨M - 1, by omega⟩
  by_cases e : a = n
  · subst e
    refine ⟨a, 1, A, fun x => ?_, fun b hb ne => ⟨b, by omega, rfl⟩⟩
    rw [det_last, if_pos rfl, Rat.one_mul]
    exact F_congr (fun i hi => by rw [if_neg (by omega)]) x
  · refine ⟨n, -1, fun i => A (sw n a i), fun x => ?_, fun b hb ne => ⟨sw n a b, ?_, ?_⟩⟩
    · have s1 := det_sw (n + 1) (n - a - 1) n a (fun i => if i = a then x else A i) (by omega) (by omega)
      have sa : sw n a n = a := by unfold sw; rw [if_neg (by omega), if_pos rfl]
      have key : det (n + 1) (fun i => (fun i => if i = a then x else A i) (sw n a i)) = F n (fun i => A (sw n a i)) id x := by
        rw [det_last]
        show F n _ id (if sw n a n = a then x else A (sw n a n)) = _
        rw [sa, if_pos rfl]
        refine F_congr (fun i hi => ?_) x
        show (if sw n a i = a then x else A (sw n a i)) = _
        rw [if_neg]
        intro z
        have : sw n a (sw n a i) = sw n a a := by rw [z]
        rw [sw_sw] at this
        unfold sw at this
        rw [if_pos rfl] at this
        omega
      rw [key] at s1
      rw [s1]; grind
    · unfold sw
      rw [if_neg ne]
      split
      · omega
      · omega
    · show A (sw n a (sw n a b)) = A b
      rw [sw_sw]
/-- a row that is made of the others: no weight -/
theorem det_dep {M a : Nat} {A : Mat} {f : Nat → Rat} (ha : a < M) (f0 : f a = 0) (h : ∀ j, j < M → A a j = rs M fun i => f i * A i j) : det M A = 0 := by
  obtain ⟨n, s, S, hS, hR⟩ := det_row A ha
  have step : ∀ k, k ≤ M → F n S id (fun j => rs k fun i => f i * A i j) = 0 := by
    intro k
    induction k with
    | zero =>
      intro _
      rw [F_block n S id _ (fun j _ => rfl)]
      show (0 : Rat) * _ = 0
      rw [Rat.zero_mul]
    | succ k ih =>
      intro hk
      have e : (fun j => rs (k + 1) fun i => f i * A i j) = fun j => (rs k fun i => f i * A i j) + f k * A k j := by funext j; rfl
      rw [e]
      have e2 := F_add n S id (fun j => rs k fun i => f i * A i j) (A k) (f k)
      rw [e2, ih (by omega)]
      by_cases z : k = a
      · rw [z, f0]; grind
      · obtain ⟨b', hb', eb⟩ := hR k (by omega) z
        rw [← eb, F_row n S id hb']; grind
  have e1 : det M A = det M (fun i => if i = a then (fun j => rs M fun i => f i * A i j) else A i) := det_congr fun i j hi hj => by
    by_cases z : i = a
    · rw [if_pos z, z]; exact h j hj
    · rw [if_neg z]
  rw [e1, hS, step M (Nat.le_refl _), Rat.mul_zero]
theorem det_depC {M a : Nat} {A : Mat} {f : Nat → Rat} (h4 : M ≤ 4) (ha : a < M) (f0 : f a = 0) (h : ∀ i, i < M → A i a = rs M fun j => f j * A i j) : det M A = 0 := by
  rw [← det_tr4 M A h4]
  exact det_dep (A := fun i j => A j i) ha f0 h
end Mq
namespace Shp
open Mq
theorem wgt_depR {X : List (List Mq.Q2)} {a : Nat} {f : Nat → Rat} (ha : a < X.length) (f0 : f a = 0) {r : List Mq.Q2} (h : ∀ j, j < X.length → Mq.val (r.getD j Mq.z0) = Mq.rs X.length fun i => f i * matX X i j) : wgt (X.set a r) = 0 := by
  unfold wgt
  rw [List.length_set]
  show Mq.det X.length (matX (X.set a r)) = 0
  have row : ∀ i j, matX (X.set a r) i j = if i = a then Mq.val (r.getD j Mq.z0) else matX X i j := fun i j => by
    show Mq.val (((X.set a r).getD i []).getD j Mq.z0) = _
    rw [getD_set ha]
    by_cases z : i = a
    · rw [if_pos z, if_pos z]
    · rw [if_neg z, if_neg z]; rfl
  refine Mq.det_dep ha f0 fun j hj => ?_
  rw [row, if_pos rfl, h j hj]
  refine Mq.rs_congr fun i hi => ?_
  rw [row]
  by_cases z : i = a
  · rw [if_pos z, z, f0, Rat.zero_mul, Rat.zero_mul]
  · rw [if_neg z]
theorem wgt_depC {X Y : List (List Mq.Q2)} {a : Nat} {f : Nat → Rat} (h4 : X.length ≤ 4) (hl : Y.length = X.length) (ha : a < X.length) (f0 : f a = 0) (h : ∀ i, i < X.length → Mq.val ((Y.getD i []).getD a Mq.z0) = Mq.rs X.length fun j => f j * matX X i j) (h2 : ∀ i, i < X.length → ∀ j, j ≠ a → (Y.getD i []).getD j Mq.z0 = (X.getD i []).getD j Mq.z0) : wgt Y = 0 := by
  unfold wgt
  rw [hl]
  show Mq.det X.length (matX Y) = 0
  refine Mq.det_depC h4 ha f0 fun i hi => ?_
  show Mq.val ((Y.getD i []).getD a Mq.z0) = _
  rw [h i hi]
  refine Mq.rs_congr fun j hj => ?_
  by_cases z : j = a
  · rw [z, f0, Rat.zero_mul, Rat.zero_mul]
  · show _ * Mq.val ((X.getD i []).getD j Mq.z0) = _ * Mq.val ((Y.getD i []).getD j Mq.z0)
    rw [h2 i hi j z]
end Shp

set_option Elab.async false
set_option linter.all false
set_option maxRecDepth 100000
set_option maxHeartbeats 4000000
namespace K25
open PySem L2 Shp
def top (i : Nat) : Stmt := PySem.Challenge.pw_ohmyard_k25_lame_refused.main.body.getD i (.Pass ⟨0, 0, 0, 0⟩)
section
variable {P : Program} {w : World} {K : PySem.W.Frag} {mg : Str → Option Value} {base : Heap} {f g1 g2 g3 g4 g5 g6 g7 g8 g9 : Addr} {fd gd1 gd2 gd3 gd4 gd5 gd6 gd7 gd8 gd9 : FuncData} {CX : CXT}
abbrev sWhole : Stmt := top 17
theorem scWhole : FnScope ["thing"] ["thing"] (defScope sWhole) := ⟨rfl, rfl, rfl, by decide +kernel, rfl, by decide +kernel, by decide +kernel⟩
theorem ok_whole {dV : Value} (F : FunD K "is_whole" "is_whole" sWhole dV f fd) (b : Bl mg) : FnOk P w K mg base CX 1 f fd ["thing"] (spWhole K) := by
  refine F.ok scWhole (fun vs H Q E h => ?_) (fun cdv A outer s H vs Q E hr h => ?_)
  · obtain ⟨x, rfl, _⟩ := h
    rfl
  obtain ⟨x, rfl, h⟩ := h
  refine ⟨_, pss_one (ps_ret (pe_and (pe_isi (i := 0) rfl (Or.inl rfl) b.isi b.int rfl rfl PyProof.Rows.boot_int) (pe_one (pe_not (pe_isi (i := 0) rfl (Or.inl rfl) b.isi b.bool rfl rfl PyProof.Rows.boot_bool))))), ?_⟩
  rcases h with ⟨i, rfl, q⟩ | ⟨t, ty, nw, q⟩
  · exact ⟨_, _, _, rfl, .int i, rfl, _, rfl, iteT ⟨_, _, false, rfl, .int i, (by with_unfolding_all rfl), _, rfl, q⟩⟩
  · rcases nw with rfl | rfl | rfl | rfl | rfl
    · exact ⟨_, _, true, rfl, ty, (by with_unfolding_all rfl), _, rfl, iteT ⟨_, _, _, rfl, ty, rfl, _, rfl, q⟩⟩
    all_goals exact ⟨_, _, false, rfl, ty, (by with_unfolding_all rfl), _, rfl, iteF q⟩
abbrev sGc : Stmt := top 18
theorem scGc : FnScope ["one", "other", "rest"] ["one", "other"] (defScope sGc) := ⟨rfl, rfl, rfl, by decide +kernel, rfl, by decide +kernel, by decide +kernel⟩
theorem ok_gc {dV : Value} (F : FunD K "greatest_common" "greatest_common" sGc dV f fd) (b : Bl mg) : FnOk P w K mg base CX 1 f fd ["one", "other"] spGc := by
  refine F.ok scGc (fun vs H Q E h => ?_) (fun cdv A outer s H vs Q E hr h => ?_)
  · obtain ⟨x, y, rfl, _⟩ := h
    rfl
  obtain ⟨x, y, rfl, q⟩ := h
  refine ⟨_, pss_cons (ps_while PassesOwn.never (pt_cmpR op_ne (pv 1) pe_int (nomark _)) (pss_cons (ps_set (i := 2) scGc.nd rfl (Or.inl rfl) (pe_op op_modN (pv 0) (pv 1)))
    (pss_cons (ps_set (i := 0) scGc.nd rfl (Or.inl rfl) (pv 1)) (pss_one (ps_set (i := 1) scGc.nd rfl (Or.inl rfl) (pv 2))))))
    (pss_one (ps_ret (pe_callB call_abs rfl b.abs PyProof.Rows.boot_abs (pa_cons (pv 0) pa_nil)))), ?_⟩
  refine while_by (fun σ H' => H' = H ∧ ∃ u v z, σ = [some (.int u), some (.int v), z] ∧ Mq.gc u v = Mq.gc x y) (fun σ _ => match σ with | [_, some (.int v), _] => v.natAbs | _ => 0) ⟨rfl, x, y, none, rfl, rfl⟩ ?_ ?_
  · rintro σ H' ⟨rfl, u, v, z, rfl, e⟩
    refine ⟨_, rfl, rfl, _, rfl, ?_⟩
    refine ite2 (fun c => ?_) (fun c => ?_)
    · have hv : v ≠ 0 := by intro q; subst q; simp at c
      refine ⟨_, rfl, _, rfl, _, _, rfl, rfl, hv, _, rfl, _, rfl, ⟨rfl, v, Int.fmod u v, _, rfl, (Mq.gc_step u v).trans e⟩, Mq.fmod_less hv⟩
    · have hv : v = 0 := by
        simp at c
        exact c
      subst hv
      refine ⟨_, rfl, _, rfl, ?_⟩
      rw [← Mq.gc_zero, e]
      exact q
  · rintro σ H Q Q' m ⟨v, h1, h2, k, h3, h4⟩
    exact ⟨v, h1, h2, k, h3, m _ _ h4⟩
abbrev sFrac : Stmt := top 19
theorem scFrac : FnScope ["top", "bottom", "shared"] ["top", "bottom"] (defScope sFrac) := ⟨rfl, rfl, rfl, by decide +kernel, rfl, by decide +kernel, by decide +kernel⟩
theorem ok_frac {dV : Value} (F : FunD K "fraction" "fraction" sFrac dV f fd)
    (G1 : FnOk P w K mg base CX0 1 g1 gd1 ["thing"] (spWhole K)) (b1 : Binds K gd1 ["thing"] []) (k1 : PySem.W.keepIn K (.ref g1) = true) (m1 : mg "is_whole" = some (.ref g1))
    (G2 : FnOk P w K mg base CX0 1 g2 gd2 ["one", "other"] spGc) (b2 : Binds K gd2 ["one", "other"] []) (k2 : PySem.W.keepIn K (.ref g2) = true) (m2 : mg "greatest_common" = some (.ref g2)) :
    FnOk P w K mg base CX 2 f fd ["top", "bottom"] spFrac := by
  refine F.ok scFrac (fun vs H Q E h => ?_) (fun cdv A outer s H vs Q E hr h => ?_)
  · obtain ⟨t, b, n, rfl, _⟩ := h
    rfl
  obtain ⟨t, b, n, rfl, hb, hB, hn, q⟩ := h
  refine ⟨_, pss_cons (ps_if (PW.pt (pw_or (pt_not (pt_val (pe_call G1 hr rfl m1 k1 b1 .nil pass0 (pa_cons (pv 0) pa_nil)))) (pw_or (pt_not (pt_val (pe_call G1 hr rfl m1 k1 b1 .nil pass0 (pa_cons (pv 1) pa_nil)))) (pw_or1 (pt_cmpR op_eq (pv 1) pe_int (nomark _)))))) pss_never pss_nil)
    (pss_cons (ps_set (i := 2) scFrac.nd rfl (Or.inl rfl) (pe_call G2 hr rfl m2 k2 b2 .nil pass0 (pa_cons (pv 0) (pa_cons (pv 1) pa_nil))))
    (pss_cons (ps_if (pt_cmpR op_lt (pv 1) pe_int (nomark _)) (pss_one (ps_set (i := 2) scFrac.nd rfl (Or.inl rfl) (pe_un un_neg (pv 2)))) pss_nil)
    (pss_one (ps_ret (pe_tup (pa_cons (pe_op op_fdivB (pv 0) (pv 2)) (pa_cons (pe_op op_fdivB (pv 1) (pv 2)) pa_nil))))))), ?_⟩
  have hd := Mq.dvr_ne (t := t) hb
  have hdB : Mq.B n (Mq.dvr t b) := hB.le (Mq.dvr_le hb)
  have c0 : decide (V.int b = V.int 0) = false := decide_eq_false (fun z => hb (by cases z; rfl))
  refine ⟨_, rfl, _, rfl, .inl ⟨t, rfl, _, rfl, iteF ⟨_, rfl, _, rfl, .inl ⟨b, rfl, _, rfl, iteF ⟨_, rfl, rfl, _, rfl, ?_⟩⟩⟩⟩⟩
  rw [c0]
  refine iteF ⟨_, rfl, _, rfl, t, b, rfl, ?_⟩
  refine ⟨_, rfl, _, _, rfl, rfl, _, rfl, ?_⟩
  refine ite2 (fun c => ?_) (fun c => ?_)
  · have hlt : b < 0 := of_decide_eq_true c
    have e : Mq.dvr t b = -Mq.gc t b := by unfold Mq.dvr; rw [if_pos hlt]
    rw [e] at hd hdB
    have q' : NewF H Q (t.fdiv (-Mq.gc t b), b.fdiv (-Mq.gc t b)) := by
      have z := q
      unfold Mq.red at z
      rw [e] at z
      exact z
    refine ⟨_, rfl, _, rfl, ?_⟩
    refine ⟨_, rfl, _, rfl, ?_⟩
    refine rd_fdivB hd hdB hn ⟨_, rfl, _, rfl, rd_fdivB hd hdB hn ⟨by show 2 ≤ sizeLine; decide, fun p hp => ?_⟩⟩
    exact q' p _ (same_new hp _) upd_same
  · have hlt : ¬ b < 0 := fun z => c (decide_eq_true z)
    have e : Mq.dvr t b = Mq.gc t b := by unfold Mq.dvr; rw [if_neg hlt]
    rw [e] at hd hdB
    have q' : NewF H Q (t.fdiv (Mq.gc t b), b.fdiv (Mq.gc t b)) := by
      have z := q
      unfold Mq.red at z
      rw [e] at z
      exact z
    refine ⟨_, rfl, _, rfl, ?_⟩
    refine rd_fdivB hd hdB hn ⟨_, rfl, _, rfl, rd_fdivB hd hdB hn ⟨by show 2 ≤ sizeLine; decide, fun p hp => ?_⟩⟩
    exact q' p _ (same_new hp _) upd_same
theorem nd_one_bottom : (["one", "bottom"] : List Str).Nodup := by decide +kernel
abbrev sIW : Stmt := top 24
theorem scIW : FnScope ["some", "bottom", "one"] ["some"] (defScope sIW) := ⟨rfl, rfl, rfl, by decide +kernel, rfl, by decide +kernel, by decide +kernel⟩
theorem ok_iw {dV : Value} (F : FunD K "in_wholes" "in_wholes" sIW dV f fd)
    (G1 : FnOk P w K mg base CX0 1 g1 gd1 ["one", "other"] spGc) (b1 : Binds K gd1 ["one", "other"] []) (k1 : PySem.W.keepIn K (.ref g1) = true) (m1 : mg "greatest_common" = some (.ref g1)) :
    FnOk P w K mg base CX 2 f fd ["some"] (spIWd K) := by
  refine F.ok scIW (fun vs H Q E h => ?_) (fun cdv A outer s H vs Q E hr h => ?_)
  · obtain ⟨a, xs, ps, n, rfl, hS, hF, hP, hB, h100, hn, q⟩ := h
    rfl
  obtain ⟨a, xs, ps, n, rfl, hS, hF, hP, hB, h100, hn, q⟩ := h
  refine ⟨_, (pss_cons (ps_set (i := 1) scIW.nd rfl (Or.inr rfl) pe_int)
    (pss_cons (ps_for PassesOwn.never rfl (pi_list (pv 0)) (pg_name (i := 2) scIW.nd rfl (Or.inl rfl))
      (pss_one (ps_set (i := 1) scIW.nd rfl (Or.inr rfl) (pe_op op_mulB (pe_op op_fdivB (pv 1) (pe_call G1 hr rfl m1 k1 b1 .nil pass0 (pa_cons (pv 1) (pa_cons (pe_ix ix_tup (pv 2) pe_int (fun _ _ => rfl)) pa_nil)))) (pe_ix ix_tup (pv 2) pe_int (fun _ _ => rfl))))))
    (pss_one (ps_ret (pe_tup (pa_cons (pe_comp (nl := 1) (fr := [1]) (Nc := ["one", "bottom"]) (cl := [("bottom", s.heap.objs.size + 1)]) rfl ⟨rfl, rfl, by decide +kernel, by decide +kernel, fun x c h => h, has_of rfl, rfl, fun i n h => match i, h with | 0, h => by cases h; exact ⟨1, rfl, rfl, rfl, rfl, .inl rfl⟩ | k + 1, h => by rw [show 1 + (k + 1) = k + 2 by omega] at h; cases h⟩
        (pi_list (pv 0)) (fun C s3 H3 fp pins => (pg_name (i := 0) nd_one_bottom rfl (Or.inl rfl))) (fun C s3 H3 fp pins => pif_nil)
        (fun C s3 H3 fp pins => (pe_op op_mulB (pe_ix (ix_tupK (K := K) rfl) (pv 0) pe_int (fun _ _ => rfl)) (pe_op op_fdivB (pv 1) (pe_ix (ix_tupK (K := K) rfl) (pv 0) pe_int (fun _ _ => rfl)))))) (pa_cons (pv 1) pa_nil))))))), ?_⟩
  have lx := hF.length
  refine ⟨_, rfl, a, rfl, ⟨_, hS⟩, ?_⟩
  refine for_list (xs := xs) (fun i σ H' => H' = H ∧ i ≤ ps.length ∧ ∃ z, σ = [some (.ref a), some (.int (Mq.lcmB (ps.take i))), z]) ⟨rfl, Nat.zero_le _, none, rfl⟩ (fun i σ H' _ h => by rw [h.1]; exact hS) ?_ ?_
  · rintro i x σ H' hx ⟨rfl, hi, z, rfl⟩
    obtain ⟨u, p, rfl, ep, fu⟩ := hF.get hx
    have hi' : i < ps.length := (List.getElem?_eq_some_iff.mp ep).1
    obtain ⟨f1, f2, _⟩ := Mq.lcmB_facts hP hB i hi
    have mono := Nat.mul_le_mul_left n hi
    have hp := hP p (List.mem_of_getElem? ep)
    have pb := (hB p (List.mem_of_getElem? ep)).b
    have g0 : Mq.gc (Mq.lcmB (ps.take i)) p.2 ≠ 0 := by have := Mq.gc_pos (a := Mq.lcmB (ps.take i)) (show p.2 ≠ 0 by omega); omega
    have gb : Mq.B n (Mq.gc (Mq.lcmB (ps.take i)) p.2) := by
      have := Mq.dvr_le (t := Mq.lcmB (ps.take i)) (show p.2 ≠ 0 by omega)
      rw [dvr_pos (by omega)] at this
      exact pb.le this
    have qb : Mq.B (1 + n * i) (Int.fdiv (Mq.lcmB (ps.take i)) (Mq.gc (Mq.lcmB (ps.take i)) p.2)) := by
      have d1 : Mq.gc (Mq.lcmB (ps.take i)) p.2 ∣ Mq.lcmB (ps.take i) := by unfold Mq.gc; exact Int.gcd_dvd_left ..
      obtain ⟨k, hk⟩ := d1
      have := Mq.natAbs_fdiv_le g0 hk
      rw [Mq.fdiv_exact g0 hk]
      exact f2.le this
    refine ⟨_, rfl, _, rfl, rd_ix1 rfl fu ⟨_, _, rfl, rd_fdivB g0 gb (by omega) (rd_ix1 rfl fu (rd_mulB qb pb (by omega) (by omega) ?_))⟩⟩
    refine ⟨rfl, hi', some (.ref u), ?_⟩
    rw [Mq.lcmB_take ep]
    rfl
  rintro σ H' ⟨rfl, _, z, rfl⟩
  rw [lx, List.take_length]
  obtain ⟨f1, f2, f3⟩ := Mq.lcmB_facts hP hB ps.length (Nat.le_refl _)
  rw [List.take_length] at f1 f2 f3
  refine ⟨_, rfl, a, rfl, ⟨_, hS⟩, fun D hD => ?_⟩
  have sD := same_new hD (.lst [])
  refine comp_list (xs := xs) (fun i zs H1 => Same H' H1 ∧ H1 D = some (.lst zs) ∧ zs = ((ps.take i).map (Mq.iwOf (Mq.lcmB ps))).map V.int) ⟨sD, upd_same, rfl⟩ (fun i zs H1 h => h.2.1) (fun i zs H1 _ h => h.1.seq hS) ?_ ?_
  · rintro i zs x H1 hx ⟨s1, e1, rfl⟩ C hC
    obtain ⟨u, p, rfl, ep, fu⟩ := hF.get hx
    have hi' : i < ps.length := (List.getElem?_eq_some_iff.mp ep).1
    have mem := List.mem_of_getElem? ep
    have hp := hP p mem
    obtain ⟨k, hk⟩ := f3 p mem
    have fu1 := s1.fq fu
    have kb : Mq.B (1 + n * ps.length) (Int.fdiv (Mq.lcmB ps) p.2) := by
      have e := Mq.fdiv_exact (show p.2 ≠ 0 by omega) (show Mq.lcmB ps = p.2 * k by rw [hk, Int.mul_comm])
      rw [e]
      refine f2.le ?_
      rw [hk, Int.natAbs_mul]
      exact Nat.le_mul_of_pos_right _ (by omega)
    refine ⟨keep1.1, keep1.2, iteT ?_⟩
    refine rd_ix0 rfl fu1 ⟨_, rfl, rd_ix1 rfl fu1 (rd_fdivB (show p.2 ≠ 0 by omega) (hB p mem).b (by omega) (rd_mulB (hB p mem).a kb (by omega) (by omega) ?_))⟩
    refine ⟨e1, small1000 (by rw [List.length_map, List.length_map, List.length_take]; omega), hC _ _ ⟨s1.change hD, upd_same, ?_⟩⟩
    rw [List.take_add_one, ep, List.map_append, List.map_append]; rfl
  rintro zs H1 ⟨s1, e1, rfl⟩
  rw [lx, List.take_length] at e1
  refine ⟨_, rfl, by show 2 ≤ sizeLine; decide, fun t ht => ?_⟩
  have s2 := same_new ht (.tup [.ref D, .int (Mq.lcmB ps)])
  exact q t D _ (s1.trans s2) hD (SqT.of upd_same) (s2 _ _ e1)
abbrev sPiv : Stmt := top 28
theorem scPiv : FnScope ["rows", "rank", "column", "place"] ["rows", "rank", "column"] (defScope sPiv) := ⟨rfl, rfl, rfl, by decide +kernel, rfl, by decide +kernel, by decide +kernel⟩
theorem ok_piv {dV : Value} (F : FunD K "pivot_place" "pivot_place" sPiv dV f fd)
    (ml : mg "len" = none) (mr : mg "range" = none) :
    FnOk P w K mg base CX 1 f fd ["rows", "rank", "column"] (spPiv K) := by
  refine F.ok scPiv (fun vs H Q E h => ?_) (fun cdv A outer s H vs Q E hr h => ?_)
  · obtain ⟨l, D, zs, R, r, c, m, w', rfl, hS, hI, hm, hw, hc, hr', h100, q1, q2⟩ := h
    rfl
  obtain ⟨l, D, zs, R, r, c, m, w', rfl, hS, hI, hm, hw, hc, hr', h100, q1, q2⟩ := h
  refine ⟨_, (pss_cons (ps_for PassesOwn.never rfl (pi_range2 rfl mr (pa_cons (pv 1) (pa_cons (pe_callB call_len_seq rfl ml PySem.boot_len (pa_cons (pv 0) pa_nil)) pa_nil))) (pg_name (i := 3) scPiv.nd rfl (Or.inl rfl))
      (pss_one (ps_if (pt_cmpR op_ne (pe_ix ix_list (pe_ix ix_list (pv 0) (pv 3) (fun _ _ => rfl)) (pv 2) (fun _ _ => rfl)) pe_int (nomark _)) (pss_one (ps_ret (pv 3))) pss_nil)))
    (pss_one (ps_ret pe_non))), ?_⟩
  have lz := hI.length
  obtain ⟨k, hk⟩ : ∃ k, m = r + k := ⟨m - r, by omega⟩
  refine ⟨_, rfl, _, rfl, l, zs, rfl, .inl hS, (r : Int), (zs.length : Int), rfl, ⟨by omega, by omega, by omega, by omega⟩, ?_⟩
  rw [show ((zs.length : Int) - (r : Int)).toNat = k by omega]
  refine for_range (lo := (r : Int)) (n := k) (fun i σ H' => H' = H ∧ (∀ j, r ≤ j → j < r + i → Mq.ent R j c = 0) ∧ ∃ z, σ = [some (.ref l), some (.int (r : Int)), some (.int (c : Int)), z]) ⟨rfl, fun j h1 h2 => absurd h1 (by omega), none, rfl⟩ ?_ ?_
  · rintro i σ H' hi ⟨rfl, hz, z, rfl⟩
    obtain ⟨u, eu, nu, hu⟩ := hI.at (i := r + i) (by omega)
    have eu' : atI zs ((r : Int) + (i : Int)) = some (.ref u) := by have := atI_nat eu; rwa [Int.natCast_add] at this
    have ec := atI_nat (map_get (l := R.getD (r + i) []) (i := c) (by rw [hw _ (by omega)]; exact hc))
    refine ⟨_, rfl, _, rfl, l, zs, _, _, rfl, rfl, hS, eu', _, rfl, u, _, _, _, rfl, rfl, SqL.of hu, ec, rfl, _, rfl, ite2 (fun e => ?_) (fun e => ?_)⟩
    · refine ⟨_, rfl, ?_⟩
      have ne : Mq.ent R (r + i) c ≠ 0 := fun z => by
        have z' : (R.getD (r + i) []).getD c 0 = 0 := z
        rw [z'] at e
        simp at e
      have := q1 (r + i) (by omega) (by omega) ne
      rwa [Int.natCast_add] at this
    · refine ⟨rfl, fun j h1 h2 => ?_, _, rfl⟩
      by_cases hj : j = r + i
      · rw [hj]
        simp at e
        exact e
      · exact hz j h1 (by omega)
  · rintro σ H' ⟨rfl, hz, z, rfl⟩
    exact q2 fun i h1 h2 => hz i h1 (by omega)
theorem nd_here_above_own_other_divisor : (["here", "above", "own", "other", "divisor"] : List Str).Nodup := by decide +kernel
abbrev sClr : Stmt := top 30
theorem scClr : FnScope ["row", "upper", "column", "divisor", "own", "other"] ["row", "upper", "column", "divisor"] (defScope sClr) := ⟨rfl, rfl, rfl, by decide +kernel, rfl, by decide +kernel, by decide +kernel⟩
theorem ok_clr {dV : Value} (F : FunD K "cleared" "cleared" sClr dV f fd)
    (mz : mg "zip" = none) :
    FnOk P w K mg base CX 1 f fd ["row", "upper", "column", "divisor"] (spCleared K) := by
  refine F.ok scClr (fun vs H Q E h => ?_) (fun cdv A outer s H vs Q E hr h => ?_)
  · obtain ⟨u, v, row, upper, c, n, dv, rfl, hu, hv, hl, h100, hc, hd, b1, b2, bd, hn, q⟩ := h
    rfl
  obtain ⟨u, v, row, upper, c, n, dv, rfl, hu, hv, hl, h100, hc, hd, b1, b2, bd, hn, q⟩ := h
  refine ⟨_, (pss_cons (ps_set (i := 4) scClr.nd rfl (Or.inr rfl) (pe_ix ix_list (pv 1) (pv 2) (fun _ _ => rfl)))
    (pss_cons (ps_set (i := 5) scClr.nd rfl (Or.inr rfl) (pe_ix ix_list (pv 0) (pv 2) (fun _ _ => rfl)))
    (pss_one (ps_ret (pe_comp (nl := 2) (fr := [4, 5, 3]) (Nc := ["here", "above", "own", "other", "divisor"]) (cl := [("own", s.heap.objs.size + 2), ("other", s.heap.objs.size + 3), ("divisor", s.heap.objs.size + 1)]) (g := (gTup K 2 (gCons (gName 0) (gCons (gName 1) gNil)))) rfl ⟨rfl, rfl, by decide +kernel, by decide +kernel, (sub_cons rfl (sub_cons rfl (sub_cons rfl (sub_nil)))), has_of rfl, rfl, fun i n h => match i, h with | 0, h => by cases h; exact ⟨4, rfl, rfl, rfl, rfl, .inl rfl⟩ | 1, h => by cases h; exact ⟨5, rfl, rfl, rfl, rfl, .inl rfl⟩ | 2, h => by cases h; exact ⟨3, rfl, rfl, rfl, rfl, .inl rfl⟩ | k + 3, h => by rw [show 2 + (k + 3) = k + 5 by omega] at h; cases h⟩
        (pi_zip rfl mz rfl (pa_cons (pv 0) (pa_cons (pv 1) pa_nil))) (fun C s3 H3 fp pins => (pg_tup rfl (pgs_cons (pg_name (i := 0) nd_here_above_own_other_divisor rfl (Or.inl rfl)) (pgs_cons (pg_name (i := 1) nd_here_above_own_other_divisor rfl (Or.inl rfl)) pgs_nil)))) (fun C s3 H3 fp pins => pif_nil)
        (fun C s3 H3 fp pins => (pe_op op_fdivB (pe_op op_sub (pe_op op_mulB (pv 2) (pv 0)) (pe_op op_mulB (pv 3) (pv 1))) (pv 4)))))))), ?_⟩
  have e1 := atI_nat (map_get (l := upper) (i := c) (by omega))
  have e2 := atI_nat (map_get (l := row) (i := c) (by omega))
  refine ⟨_, rfl, _, rfl, v, _, _, _, rfl, rfl, hv, e1, ?_⟩
  refine ⟨_, rfl, _, rfl, u, _, _, _, rfl, rfl, hu, e2, ?_⟩
  refine ⟨_, rfl, _, rfl, u, v, rfl, ⟨_, hu⟩, ⟨_, hv⟩, fun D hD => ?_⟩
  have sD := same_new hD (.lst [])
  refine comp_zip (xs := row.map V.int) (ys := upper.map V.int) (fun i zs H' => Same H H' ∧ H' D = some (.lst zs) ∧ zs = ((Mq.clrRow upper row c dv).take i).map V.int) ⟨sD, upd_same, rfl⟩ (fun i zs H' h => h.2.1) (fun i zs H' _ h => ⟨h.1.seq hu, h.1.seq hv⟩) ?_ ?_
  · rintro i zs x y H1 T1 ex ey ⟨s1, e1', rfl⟩ hT C hC
    have hi : i < row.length := by have := (List.getElem?_eq_some_iff.mp ex).1; simpa using this
    have ex' : x = .int (row.getD i 0) := by rw [map_get hi] at ex; cases ex; rfl
    have ey' : y = .int (upper.getD i 0) := by rw [map_get (by omega)] at ey; cases ey; rfl
    subst ex' ey'
    have sT := same_new hT (.tup [.int (row.getD i 0), .int (upper.getD i 0)])
    refine ⟨T1, _, rfl, SqT.of upd_same, rfl, _, _, rfl, _, _, rfl, rfl, keep2.1, keep2.2, iteT ?_⟩
    have mm : Mq.B (n + n + 1) (upper.getD c 0 * row.getD i 0 - row.getD c 0 * upper.getD i 0) := Mq.B.sub ((b2 c).mul (b1 i)) ((b1 c).mul (b2 i))
    refine ⟨_, rfl, _, rfl, rd_mulB (b2 c) (b1 i) (by omega) (by omega) ⟨_, rfl, _, rfl, rd_mulB (b1 c) (b2 i) (by omega) (by omega) ⟨_, _, rfl, rfl, _, rfl, rd_fdivB hd bd (by omega) ?_⟩⟩⟩
    have ll : (Mq.clrRow upper row c dv).length = row.length := by unfold Mq.clrRow; rw [List.length_zipWith]; omega
    have eA := sT _ _ e1'
    refine ⟨eA, small1000 (by rw [List.length_map, List.length_take]; omega), hC _ _ ⟨(s1.trans sT).change hD, upd_same, ?_⟩⟩
    have eg : (Mq.clrRow upper row c dv)[i]? = some (Int.fdiv (upper.getD c 0 * row.getD i 0 - row.getD c 0 * upper.getD i 0) dv) := by
      unfold Mq.clrRow
      rw [List.getElem?_zipWith, Mq.get_some hi, Mq.get_some (show i < upper.length by omega)]
    rw [List.take_add_one, eg, List.map_append]; rfl
  rintro zs H1 ⟨s1, e1', rfl⟩
  have ll : (Mq.clrRow upper row c dv).length = row.length := by unfold Mq.clrRow; rw [List.length_zipWith]; omega
  rw [List.length_map, List.length_map, List.take_of_length_le (by rw [ll]; omega)] at e1'
  exact q D H1 s1 hD e1'
theorem nd_place_row_upper_rank_divisor_column : (["place", "row", "upper", "rank", "divisor", "column"] : List Str).Nodup := by decide +kernel
abbrev sClrRows : Stmt := top 29
theorem scClrRows : FnScope ["rows", "rank", "column", "divisor", "upper"] ["rows", "rank", "column", "divisor"] (defScope sClrRows) := ⟨rfl, rfl, rfl, by decide +kernel, rfl, by decide +kernel, by decide +kernel⟩
theorem ok_clrrows {dV : Value} (F : FunD K "cleared_rows" "cleared_rows" sClrRows dV f fd)
    (men : mg "enumerate" = none)
    (G1 : FnOk P w K mg base CX0 1 g1 gd1 ["row", "upper", "column", "divisor"] (spCleared K)) (b1 : Binds K gd1 ["row", "upper", "column", "divisor"] []) (k1 : PySem.W.keepIn K (.ref g1) = true) (m1 : mg "cleared" = some (.ref g1)) :
    FnOk P w K mg base CX 2 f fd ["rows", "rank", "column", "divisor"] (spClrRows K) := by
  refine F.ok scClrRows (fun vs H Q E h => ?_) (fun cdv A outer s H vs Q E hr h => ?_)
  · obtain ⟨l, D0, zs, R, r, c, m, w', n, dv, rfl, hS, hI, hm, hw, hc, hw100, hr', h100, hd, hB, bd, hn, q⟩ := h
    rfl
  obtain ⟨l, D0, zs, R, r, c, m, w', n, dv, rfl, hS, hI, hm, hw, hc, hw100, hr', h100, hd, hB, bd, hn, q⟩ := h
  refine ⟨_, (pss_cons (ps_set (i := 4) scClrRows.nd rfl (Or.inr rfl) (pe_ix ix_list (pv 0) (pv 1) (fun _ _ => rfl)))
    (pss_one (ps_ret (pe_comp (nl := 2) (fr := [4, 1, 3, 2]) (Nc := ["place", "row", "upper", "rank", "divisor", "column"]) (cl := [("upper", s.heap.objs.size + 4), ("rank", s.heap.objs.size + 1), ("divisor", s.heap.objs.size + 3), ("column", s.heap.objs.size + 2)]) (g := (gTup K 2 (gCons (gName 0) (gCons (gName 1) gNil)))) rfl ⟨rfl, rfl, by decide +kernel, by decide +kernel, (sub_cons rfl (sub_cons rfl (sub_cons rfl (sub_cons rfl (sub_nil))))), has_of rfl, rfl, fun i n h => match i, h with | 0, h => by cases h; exact ⟨4, rfl, rfl, rfl, rfl, .inl rfl⟩ | 1, h => by cases h; exact ⟨1, rfl, rfl, rfl, rfl, .inl rfl⟩ | 2, h => by cases h; exact ⟨3, rfl, rfl, rfl, rfl, .inl rfl⟩ | 3, h => by cases h; exact ⟨2, rfl, rfl, rfl, rfl, .inl rfl⟩ | k + 4, h => by rw [show 2 + (k + 4) = k + 6 by omega] at h; cases h⟩
        (pi_enum rfl men rfl (pa_cons (pv 0) pa_nil)) (fun C s3 H3 fp pins => (pg_tup rfl (pgs_cons (pg_name (i := 0) nd_place_row_upper_rank_divisor_column rfl (Or.inl rfl)) (pgs_cons (pg_name (i := 1) nd_place_row_upper_rank_divisor_column rfl (Or.inl rfl)) pgs_nil)))) (fun C s3 H3 fp pins => pif_nil)
        (fun C s3 H3 fp pins => (pe_ifExp (pt_cmpR op_eq (pv 0) (pv 3) (nomark _)) (pv 1) (pe_call G1 hr rfl m1 k1 b1 .nil pass0 (pa_cons (pv 1) (pa_cons (pv 2) (pa_cons (pv 5) (pa_cons (pv 4) pa_nil))))))))))), ?_⟩
  have lz := hI.length
  obtain ⟨v, ev, nv, hv⟩ := hI.at (i := r) (by omega)
  refine ⟨_, rfl, _, rfl, l, zs, _, _, rfl, rfl, hS, atI_nat ev, ?_⟩
  refine ⟨_, rfl, l, rfl, ⟨_, hS⟩, fun D hD => ?_⟩
  have sD := same_new hD (.lst [])
  have ll := Mq.clr_len R r c dv
  refine comp_enum (xs := zs) (fun i ys H' => Same H H' ∧ H' D = some (.lst ys) ∧ Imx D H' ys ((Mq.clrRows R r c dv).take i)) ⟨sD, upd_same, .nil⟩ (fun i ys H' h => h.2.1) (fun i ys H' _ h => h.1.seq hS) ?_ ?_
  · rintro i ys x H1 T1 ex ⟨s1, e1, I1⟩ hT C hC
    have hi : i < m := by have := (List.getElem?_eq_some_iff.mp ex).1; omega
    obtain ⟨u, eu, nu, hu⟩ := hI.at (i := i) (by omega)
    have exu : x = .ref u := by rw [eu] at ex; cases ex; rfl
    subst exu
    have lI := I1.length
    rw [List.length_take] at lI
    have cg := Mq.clr_get (R := R) (i := i) (by omega) r c dv
    have cs : (Mq.clrRows R r c dv).take (i + 1) = (Mq.clrRows R r c dv).take i ++ [(Mq.clrRows R r c dv).getD i []] := by
      rw [List.take_add_one, List.getD_eq_getElem?_getD, List.getElem?_eq_getElem (show i < (Mq.clrRows R r c dv).length by omega)]; rfl
    have sT := same_new hT (.tup [.int (i : Int), .ref u])
    have uD : ∀ {x : Addr} {o : HO}, H x = some o → x ≠ D := fun h z => by rw [z, hD] at h; cases h
    refine ⟨T1, _, rfl, SqT.of upd_same, rfl, _, _, rfl, _, _, rfl, rfl, keep2.1, keep2.2, iteT ?_⟩
    generalize upd H1 T1 (.tup [.int (i : Int), .ref u]) = H2 at sT ⊢
    have sA := s1.trans sT
    have eA := sT _ _ e1
    refine ⟨_, rfl, _, rfl, rfl, _, rfl, ite2 (fun e => ?_) (fun e => ?_)⟩
    · have ei : i = r := by simp at e; omega
      refine ⟨_, rfl, eA, small1000 (by omega), hC _ _ ⟨sA.change hD, upd_same, ?_⟩⟩
      rw [cs, cg, if_pos ei]
      exact ((I1.same sT).app (.cons (uD hu) (sA _ _ hu) .nil)).upd
    · have ei : i ≠ r := by simp at e; omega
      refine ⟨_, rfl, _, rfl, _, rfl, _, rfl, u, v, R.getD i [], R.getD r [], c, n, dv, rfl, SqL.of (sA _ _ hu), SqL.of (sA _ _ hv), by rw [hw i hi, hw r hr'], by rw [hw i hi]; exact hw100, by rw [hw i hi]; exact hc, hd, fun j => hB i j, fun j => hB r j, bd, hn, fun l3 H3 s3 n3 e3 => ?_⟩
      have eB := s3 _ _ eA
      have n3' : l3 ≠ D := fun z => by rw [z, eA] at n3; cases n3
      refine ⟨eB, small1000 (by omega), hC _ _ ⟨(sA.trans s3).change hD, upd_same, ?_⟩⟩
      rw [cs, cg, if_neg ei]
      exact ((I1.same (sT.trans s3)).app (.cons n3' e3 .nil)).upd
  rintro ys H1 ⟨s1, e1, I1⟩
  rw [lz, List.take_of_length_le (by omega)] at I1
  exact q D ys H1 s1 hD e1 I1
abbrev sElim : Stmt := top 27
theorem scElim : FnScope ["rows", "width", "rank", "pivot", "sign", "column", "place", "lifted"] ["rows", "width"] (defScope sElim) := ⟨rfl, rfl, rfl, by decide +kernel, rfl, by decide +kernel, by decide +kernel⟩
theorem ok_elim {dV : Value} (F : FunD K "eliminated" "eliminated" sElim dV f fd)
    (mr : mg "range" = none) (mli : mg "list" = none)
    (G1 : FnOk P w K mg base CX0 1 g1 gd1 ["rows", "rank", "column"] (spPiv K)) (b1 : Binds K gd1 ["rows", "rank", "column"] []) (k1 : PySem.W.keepIn K (.ref g1) = true) (m1 : mg "pivot_place" = some (.ref g1))
    (G2 : FnOk P w K mg base CX0 2 g2 gd2 ["rows", "rank", "column", "divisor"] (spClrRows K)) (b2 : Binds K gd2 ["rows", "rank", "column", "divisor"] []) (k2 : PySem.W.keepIn K (.ref g2) = true) (m2 : mg "cleared_rows" = some (.ref g2)) :
    FnOk P w K mg base CX 3 f fd ["rows", "width"] (spElimQ K) := by
  refine F.ok scElim (fun vs H Q E h => ?_) (fun cdv A outer s H vs Q E hr h => ?_)
  · obtain ⟨l, D0, zs, R, m, w', n, Pr, rfl, hS, hI, hm, hw, hmw, hw100, hB, hn1, hn, hm15, hPr, hSt, q⟩ := h
    rfl
  obtain ⟨l, D0, zs, R, m, w', n, Pr, rfl, hS, hI, hm, hw, hmw, hw100, hB, hn1, hn, hm15, hPr, hSt, q⟩ := h
  have r1 := hr.mono (show 1 ≤ 2 by omega)
  refine ⟨_, (pss_cons (ps_set (i := 0) scElim.nd rfl (Or.inl rfl) (pe_callTy call_list_of rfl mli PyProof.Rows.boot_list (pa_cons (pv 0) pa_nil)))
    (pss_cons (ps_set (i := 2) scElim.nd rfl (Or.inl rfl) pe_int)
    (pss_cons (ps_set (i := 3) scElim.nd rfl (Or.inl rfl) pe_int)
    (pss_cons (ps_set (i := 4) scElim.nd rfl (Or.inl rfl) pe_int)
    (pss_cons (ps_for PassesOwn.never rfl (pi_range1 rfl mr (pa_cons (pv 1) pa_nil)) (pg_name (i := 5) scElim.nd rfl (Or.inl rfl))
      (pss_cons (ps_set (i := 6) scElim.nd rfl (Or.inl rfl) (pe_call G1 r1 rfl m1 k1 b1 .nil pass0 (pa_cons (pv 0) (pa_cons (pv 2) (pa_cons (pv 5) pa_nil)))))
    (pss_cons (ps_if (pt_cmp (pc_isN (pv 6))) (pss_one ps_continue) pss_nil)
    (pss_cons (ps_if (pt_cmpR op_ne (pv 6) (pv 2) (nomark _)) (pss_cons (ps_set (i := 7) scElim.nd rfl (Or.inl rfl) (pe_ix ix_list (pv 0) (pv 6) (fun _ _ => rfl)))
    (pss_cons (ps_asg (pe_ix ix_list (pv 0) (pv 2) (fun _ _ => rfl)) (pg_sub (pv 0) (pv 6) set_list))
    (pss_cons (ps_asg (pv 7) (pg_sub (pv 0) (pv 2) set_list))
    (pss_one (ps_set (i := 4) scElim.nd rfl (Or.inl rfl) (pe_un un_neg (pv 4))))))) pss_nil)
    (pss_cons (ps_set (i := 0) scElim.nd rfl (Or.inl rfl) (pe_call G2 hr rfl m2 k2 b2 .nil pass0 (pa_cons (pv 0) (pa_cons (pv 2) (pa_cons (pv 5) (pa_cons (pv 3) pa_nil))))))
    (pss_cons (ps_set (i := 3) scElim.nd rfl (Or.inl rfl) (pe_ix ix_list (pe_ix ix_list (pv 0) (pv 2) (fun _ _ => rfl)) (pv 5) (fun _ _ => rfl)))
    (pss_one (ps_aug (i := 2) scElim.nd rfl (Or.inl rfl) pe_int ip_add))))))))
    (pss_one (ps_ret (pe_disp (pps_cons pe_str (pv 0) (pps_cons pe_str (pv 2) (pps_cons pe_str (pv 3) (pps_cons pe_str (pv 4) pps_nil)))) rfl rfl (by simp) (by decide))))))))), ?_⟩
  refine ⟨_, rfl, l, zs, rfl, .inl hS, fun l0 hl0 => ?_⟩
  have s0 := same_new hl0 (.lst zs)
  have e0 : upd H l0 (.lst zs) l0 = some (.lst zs) := upd_same
  generalize upd H l0 (.lst zs) = H0 at s0 e0 ⊢
  refine ⟨_, rfl, (m : Int), rfl, by omega, by omega, ?_⟩
  rw [Int.toNat_natCast]
  have b1 : Mq.B n 1 := by
    show 1 < 2 ^ n
    exact Nat.one_lt_two_pow (by omega)
  refine for_range (lo := 0) (n := m) (fun i σ H' => Same H H' ∧ ∃ (lR : Addr) (zs' : List V) (R' : List (List Int)) (rank : Nat) (pivot sign : Int) (z5 z6 z7 : Option V), σ = [some (.ref lR), some (.int (m : Int)), some (.int (rank : Int)), some (.int pivot), some (.int sign), z5, z6, z7] ∧ H lR = none ∧ H' lR = some (.lst zs') ∧ Imx lR H' zs' R' ∧ Mq.SI m w' (Mq.at2 R) R' rank i pivot sign ∧ Mq.SB n m R' rank i pivot ∧ Pr R') ⟨s0, l0, zs, R, 0, 1, 1, none, none, none, rfl, hl0, e0, (hI.other hl0).same s0, .start hm hw, .start hB, hPr⟩ ?_ ?_
  · rintro i σ H1 hi ⟨s1, lR, zs', R', rank, pivot, sign, z5, z6, z7, rfl, nR, eR, I1, S1, sb, p1⟩
    rw [Int.zero_add]
    obtain ⟨bR, bP⟩ := sb.bd S1 hm15
    obtain ⟨A1, c1, B1, _⟩ := S1.bar
    have rm := B1.rm
    have rc := B1.rc
    have dn : pivot ≠ 0 := fun z => B1.dne (by rw [z]; simp)
    clear B1
    refine ⟨_, rfl, _, rfl, _, rfl, lR, lR, zs', R', rank, i, m, w', rfl, SqL.of eR, I1, S1.len, S1.wid, by omega, rm, by omega, fun p h1 h2 ne => ?_, fun hz => ?_⟩
    · refine ⟨_, rfl, _, rfl, iteF ?_⟩
      have hrm : rank < m := by omega
      refine (fun (hrest : ∀ (sg : Int) (z : Option V) (Hx : Hp) (zs2 : List V) (R2 : List (List Int)), Same H Hx → Hx lR = some (.lst zs2) → Imx lR Hx zs2 R2 → Mq.SI m w' (Mq.at2 R) R2 rank i pivot sg → Mq.ent R2 rank i ≠ 0 → Mq.SB n m R2 rank i pivot → Pr R2 → PySem.W.KIN.Hid ((?T : Int → Option V → Hp → Prop) sg z Hx)) => ?main) ?rest
      case main =>
        refine ⟨_, rfl, _, rfl, rfl, _, rfl, ite2 (fun e => ?c1) (fun e => ?c2)⟩
        case c1 =>
          have npr : p ≠ rank := by simp at e; omega
          obtain ⟨up, eup, nup, hup⟩ := I1.at (i := p) (by rw [S1.len]; omega)
          obtain ⟨ur, eur, nur, hur⟩ := I1.at (i := rank) (by rw [S1.len]; omega)
          have lz : zs'.length = m := I1.length.trans S1.len
          refine ⟨_, rfl, _, rfl, lR, zs', _, _, rfl, rfl, SqL.of eR, atI_nat eup, ?_⟩
          refine ⟨_, rfl, _, rfl, lR, zs', _, _, rfl, rfl, SqL.of eR, atI_nat eur, _, rfl, _, rfl, lR, zs', _, p, rfl, rfl, eR, ixN_nat (by omega), ?_⟩
          have e2 : upd H1 lR (.lst (zs'.set p (.ref ur))) lR = some (.lst (zs'.set p (.ref ur))) := upd_same
          have I2 := (Imx.set nur hur p I1).upd (o := .lst (zs'.set p (.ref ur)))
          have s2 : Same H (upd H1 lR (.lst (zs'.set p (.ref ur)))) := s1.change nR
          have hup2 : upd H1 lR (.lst (zs'.set p (.ref ur))) up = some (.lst ((R'.getD p []).map V.int)) := by rw [upd_ne nup]; exact hup
          generalize upd H1 lR (.lst (zs'.set p (.ref ur))) = H2 at e2 I2 s2 hup2 ⊢
          refine ⟨_, rfl, _, rfl, _, rfl, lR, _, _, rank, rfl, rfl, e2, ixN_nat (by rw [List.length_set]; omega), ?_⟩
          have e3 : upd H2 lR (.lst ((zs'.set p (.ref ur)).set rank (.ref up))) lR = some (.lst ((zs'.set p (.ref ur)).set rank (.ref up))) := upd_same
          have I3 := (Imx.set nup hup2 rank I2).upd (o := .lst ((zs'.set p (.ref ur)).set rank (.ref up)))
          have s3 : Same H (upd H2 lR (.lst ((zs'.set p (.ref ur)).set rank (.ref up)))) := s2.change nR
          generalize upd H2 lR (.lst ((zs'.set p (.ref ur)).set rank (.ref up))) = H3 at e3 I3 s3 ⊢
          refine ⟨_, rfl, _, rfl, ?_⟩
          show tSeq _ _ _ [some (.ref lR), some (.int (m : Int)), some (.int (rank : Int)), some (.int pivot), some (.int (-sign)), some (.int (i : Int)), some (.int (p : Int)), some (.ref up)] H3
          have S3 := S1.swap (p := p) (by omega) h2
          have bR3 := sb.swap S1 (p := p) (by omega) h2
          have ne3 : Mq.ent (Mq.swRows R' p rank) rank i ≠ 0 := by
            unfold Mq.ent
            rw [Mq.ent_sw (by rw [S1.len]; omega) (by rw [S1.len]; omega)]
            have : Mq.sw p rank rank = p := by unfold Mq.sw; rw [if_pos rfl]
            rw [this]; exact ne
          have I3' : Imx lR H3 ((zs'.set p (.ref ur)).set rank (.ref up)) (Mq.swRows R' p rank) := I3
          clear I3 hup2
          have p3 := hSt.sw _ _ _ _ _ _ S1 (show rank < p by omega) h2 p1
          generalize -sign = sg at S3 ⊢
          generalize some (V.ref up) = zz at ⊢
          exact (hrest sg zz H3 _ _ s3 e3 I3' S3 ne3 bR3 p3).out
        case c2 =>
          have epr : p = rank := by simp at e; omega
          show tSeq _ _ _ [some (.ref lR), some (.int (m : Int)), some (.int (rank : Int)), some (.int pivot), some (.int sign), some (.int (i : Int)), some (.int (p : Int)), z7] H1
          exact (hrest sign z7 H1 _ _ s1 eR I1 S1 (by rw [← epr]; exact ne) sb p1).out
      case rest =>
      intro sg z Hx zs2 R2 sx ex Ix Sx nx bx px
      refine ⟨?_⟩
      have bxx := bx.bd Sx hm15
      refine ⟨_, rfl, _, rfl, _, rfl, _, rfl, lR, lR, zs2, R2, rank, i, m, w', bq n m, pivot, rfl, SqL.of ex, Ix, Sx.len, Sx.wid, by omega, hw100, hrm, by omega, dn, bxx.1, bxx.2, hn, fun l3 zs3 H3 s3 n3 e3 I3 => ?_⟩
      have S3 := Sx.clear hrm (by omega) nx
      have b3 := bx.clear Sx hrm (by omega) nx
      obtain ⟨u, eu, nu, hu⟩ := I3.at (i := rank) (by rw [S3.len]; omega)
      have ec := atI_nat (map_get (l := (Mq.clrRows R2 rank i pivot).getD rank []) (i := i) (by rw [S3.wid _ hrm]; omega))
      refine ⟨_, rfl, _, rfl, l3, zs3, _, _, rfl, rfl, SqL.of e3, atI_nat eu, _, rfl, u, _, _, _, rfl, rfl, SqL.of hu, ec, ?_⟩
      refine ⟨_, rfl, _, _, rfl, rfl, ?_⟩
      have ev : ((Mq.clrRows R2 rank i pivot).getD rank []).getD i 0 = Mq.ent R2 rank i := by rw [Mq.clr_get (by rw [Sx.len]; omega), if_pos rfl]; rfl
      refine ⟨sx.trans s3, l3, zs3, _, rank + 1, Mq.ent R2 rank i, sg, some (.int (i : Int)), some (.int (p : Int)), z, ?_, sx.free n3, e3, I3, S3, b3, hSt.cl _ _ _ _ _ Sx hrm (by omega) nx px⟩
      rw [ev]; rfl
    · refine ⟨_, rfl, _, rfl, iteT ?_⟩
      exact ⟨s1, lR, zs', R', rank, pivot, sign, _, _, _, rfl, nR, eR, I1, S1.skip hz, sb.skip hz, p1⟩
  · rintro σ H1 ⟨s1, lR, zs', R', rank, pivot, sign, z5, z6, z7, rfl, nR, eR, I1, S1, sb, p1⟩
    obtain ⟨bR, bP⟩ := sb.bd S1 hm15
    obtain ⟨A1, c1, B1, _⟩ := S1.bar
    have rm := B1.rm
    intro d hd
    have nd : lR ≠ d := fun z => by rw [z, hd] at eR; cases eR
    refine ⟨_, rfl, _, rfl, _, rfl, _, rfl, upd_same, [(.inr "rows", .ref lR), (.inr "rank", .int (rank : Int)), (.inr "pivot", .int pivot), (.inr "sign", .int sign)], rfl, by show 4 ≤ 15; decide, ?_⟩
    have sd : Same H1 (upd (upd H1 d (.dK [])) d (elimD lR rank pivot sign)) := (same_new hd _).change hd
    exact q d lR zs' R' rank pivot sign _ (s1.trans sd) (s1.free hd) nR upd_same (sd _ _ eR) (I1.same sd) S1 bR bP p1
theorem nd_column_whole_place : (["column", "whole", "place"] : List Str).Nodup := by decide +kernel
abbrev sUnit : Stmt := top 25
theorem scUnit : FnScope ["matrix", "rows", "place", "row", "whole"] ["matrix"] (defScope sUnit) := ⟨rfl, rfl, rfl, by decide +kernel, rfl, by decide +kernel, by decide +kernel⟩
theorem ok_unit {dV : Value} (F : FunD K "beside_unit" "beside_unit" sUnit dV f fd)
    (ml : mg "len" = none) (mr : mg "range" = none) (men : mg "enumerate" = none)
    (G1 : FnOk P w K mg base CX0 2 g1 gd1 ["some"] (spIWd K)) (b1 : Binds K gd1 ["some"] []) (k1 : PySem.W.keepIn K (.ref g1) = true) (m1 : mg "in_wholes" = some (.ref g1)) :
    FnOk P w K mg base CX 3 f fd ["matrix"] (spUnitS K) := by
  refine F.ok scUnit (fun vs H Q E h => ?_) (fun cdv A outer s H vs Q E hr h => ?_)
  · obtain ⟨g, D0, us, X, rfl, hU, hX, ⟨xP, xB, x4⟩, q⟩ := h
    rfl
  obtain ⟨g, D0, us, X, rfl, hU, hX, ⟨xP, xB, x4⟩, q⟩ := h
  refine ⟨_, (pss_cons (ps_set (i := 1) scUnit.nd rfl (Or.inl rfl) (pe_lst pa_nil))
    (pss_cons (ps_for PassesOwn.never rfl (pi_enum rfl men rfl (pa_cons (pv 0) pa_nil)) (pg_tup rfl (pgs_cons (pg_name (i := 2) scUnit.nd rfl (Or.inr rfl)) (pgs_cons (pg_name (i := 3) scUnit.nd rfl (Or.inl rfl)) pgs_nil)))
      (pss_cons (ps_set (i := 4) scUnit.nd rfl (Or.inr rfl) (pe_call G1 hr rfl m1 k1 b1 .nil pass0 (pa_cons (pv 3) pa_nil)))
    (pss_one (ps_expr (pe_bm PySem.F.plainAttrs_list PySem.F.slot_list_append PySem.F.type_list_append mt_append (pv 1) (pa_cons (pe_op op_cat (pe_ix ix_tup (pv 4) pe_int (fun _ _ => rfl)) (pe_comp (nl := 1) (fr := [4, 2]) (Nc := ["column", "whole", "place"]) (cl := [("whole", s.heap.objs.size + 2), ("place", s.heap.objs.size + 1)]) rfl ⟨rfl, rfl, by decide +kernel, by decide +kernel, (sub_cons rfl (sub_cons rfl (sub_nil))), has_of rfl, rfl, fun i n h => match i, h with | 0, h => by cases h; exact ⟨4, rfl, rfl, rfl, rfl, .inl rfl⟩ | 1, h => by cases h; exact ⟨2, rfl, rfl, rfl, rfl, .inl rfl⟩ | k + 2, h => by rw [show 1 + (k + 2) = k + 3 by omega] at h; cases h⟩
        (pi_range1 rfl mr (pa_cons (pe_callB call_len_seq rfl ml PySem.boot_len (pa_cons (pv 0) pa_nil)) pa_nil)) (fun C s3 H3 fp pins => (pg_name (i := 0) nd_column_whole_place rfl (Or.inl rfl))) (fun C s3 H3 fp pins => pif_nil)
        (fun C s3 H3 fp pins => (pe_ifExp (pt_cmpR op_eq (pv 0) (pv 2) (nomark _)) (pe_ix (ix_tupK (K := K) rfl) (pv 1) pe_int (fun _ _ => rfl)) pe_int)))) pa_nil))))))
    (pss_one (ps_ret (pv 1))))), ?_⟩
  have lu := hX.length
  refine ⟨by show 0 ≤ sizeLine; decide, fun l0 hl0 => ?_⟩
  have s0 := same_new hl0 (.lst [])
  have e0 : upd H l0 (.lst []) l0 = some (.lst []) := upd_same
  generalize upd H l0 (.lst []) = H0 at s0 e0 ⊢
  refine ⟨_, rfl, g, rfl, ⟨_, s0.seq hU⟩, ?_⟩
  refine for_enum (xs := us) (fun i σ H' => Same H H' ∧ ∃ zs z2 z3 z4, H' l0 = some (.lst zs) ∧ Imx l0 H' zs ((unitR X).take i) ∧ σ = [some (.ref g), some (.ref l0), z2, z3, z4]) ⟨s0, [], none, none, none, e0, .nil, rfl⟩ (fun i σ H' _ h => h.1.seq hU) ?_ ?_
  · rintro i x σ H1 T1 hx ⟨s1, zs, z2, z3, z4, e1, I1, rfl⟩ hT
    obtain ⟨u, ys, row, rfl, er, hu', fu⟩ := hX.get hx
    have hi : i < X.length := (List.getElem?_eq_some_iff.mp er).1
    have mem := List.mem_of_getElem? er
    obtain ⟨rb, rl⟩ := xB row mem
    have sT := same_new hT (.tup [.int (i : Int), .ref u])
    refine ⟨T1, _, rfl, SqT.of upd_same, rfl, _, _, rfl, _, _, rfl, rfl, ?_⟩
    generalize upd H1 T1 (.tup [.int (i : Int), .ref u]) = H2 at sT ⊢
    have s2 := s1.trans sT
    refine ⟨_, rfl, u, ys, row, 80, rfl, s2.seq hu', fu.same s2, xP row mem, rb, by omega, by rw [rl]; omega, fun t l H3 s3 nl ht hl => ?_⟩
    have s13 := sT.trans s3
    have e3 := s13 _ _ e1
    refine ⟨_, rfl, .inl ⟨rfl, _, SqL.of e3⟩, _, rfl, t, _, _, _, rfl, rfl, ht, rfl, _, rfl, g, us, rfl, .inl ((s1.trans s13).seq hU), (us.length : Int), rfl, by omega, by omega, fun D hD => ?_⟩
    rw [Int.toNat_natCast, lu]
    have sD := same_new hD (.lst [])
    have ff : ∀ c : Nat, ((if c = i then Mq.lcmB row else 0 : Int)) = if c = i then Mq.lcmB row else 0 := fun _ => rfl
    refine comp_range (n := X.length) (fun c ws H' => Same H3 H' ∧ H' D = some (.lst ws) ∧ ws = ((List.range c).map fun c => if c = i then Mq.lcmB row else (0 : Int)).map V.int) ⟨sD, upd_same, rfl⟩ (fun c ws H' h => h.2.1) ?_ ?_
    · rintro c ws H4 hc ⟨s4, e4, rfl⟩ C hC
      have fin : ∀ z : Int, z = (if c = i then Mq.lcmB row else 0) → Same H3 (upd H4 D (.lst (((List.range c).map fun c => if c = i then Mq.lcmB row else (0 : Int)).map V.int ++ [V.int z]))) ∧ upd H4 D (.lst (((List.range c).map fun c => if c = i then Mq.lcmB row else (0 : Int)).map V.int ++ [V.int z])) D = some (.lst (((List.range c).map fun c => if c = i then Mq.lcmB row else (0 : Int)).map V.int ++ [V.int z])) ∧ ((List.range c).map fun c => if c = i then Mq.lcmB row else (0 : Int)).map V.int ++ [V.int z] = ((List.range (c + 1)).map fun c => if c = i then Mq.lcmB row else (0 : Int)).map V.int := fun z hz => ⟨s4.change hD, upd_same, by rw [List.range_succ, List.map_append, List.map_append, hz]; rfl⟩
      refine ⟨keep1.1, keep1.2, iteT ?_⟩
      rw [Int.zero_add]
      refine ⟨_, rfl, _, rfl, rfl, _, rfl, ite2 (fun e => ?_) (fun e => ?_)⟩
      · refine ⟨_, rfl, t, _, _, _, rfl, rfl, s4.seqT ht, rfl, e4, small1000 (by simp; omega), hC _ _ (fin _ ?_)⟩
        rw [if_pos (by simp at e; omega)]
      · refine ⟨e4, small1000 (by simp; omega), hC _ _ (fin _ ?_)⟩
        rw [if_neg (by simp at e; omega)]
    rintro ws H4 ⟨s4, e4, rfl⟩
    refine ⟨l, D, _, _, rfl, rfl, s4 _ _ hl, e4, Nat.le_of_lt (small1000 (by simp [wh, iw_len]; omega)), fun p hp => ?_⟩
    have eR : (wh row).1.map V.int ++ ((List.range X.length).map fun c => if c = i then Mq.lcmB row else (0 : Int)).map V.int = (unitRow X.length i row).map V.int := by unfold unitRow wh; rw [List.map_append]
    have eR' : (Mq.iw row).map V.int ++ ((List.range X.length).map fun c => if c = i then Mq.lcmB row else (0 : Int)).map V.int = (unitRow X.length i row).map V.int := eR
    rw [eR']
    have s5 := same_new hp (.lst ((unitRow X.length i row).map V.int))
    have e5 : upd H4 p (.lst ((unitRow X.length i row).map V.int)) p = some (.lst ((unitRow X.length i row).map V.int)) := upd_same
    have s15 := (s13.trans s4).trans s5
    have np : p ≠ l0 := fun z => by
      have := (s13.trans s4) _ _ e1
      rw [z, this] at hp; cases hp
    generalize upd H4 p (.lst ((unitRow X.length i row).map V.int)) = H5 at s5 e5 s15 ⊢
    have lz := I1.length
    rw [List.length_take, unit_len] at lz
    refine ⟨l0, zs, .ref p, rfl, rfl, s15 _ _ e1, small1000 (by omega), ?_⟩
    refine ⟨(s1.trans s15).change hl0, _, _, _, _, upd_same, ?_, rfl⟩
    have ee : (unitR X).take (i + 1) = (unitR X).take i ++ [unitRow X.length i row] := by
      rw [List.take_add_one]
      unfold unitR
      rw [List.getElem?_mapIdx, er]; rfl
    rw [ee]
    exact ((I1.same s15).app (.cons np e5 .nil)).upd
  · rintro σ H1 ⟨s1, zs, z2, z3, z4, e1, I1, rfl⟩
    rw [lu, ← unit_len X, List.take_length] at I1
    exact ⟨_, rfl, q l0 zs H1 s1 hl0 e1 I1⟩
theorem nd_top_pivot : (["top", "pivot"] : List Str).Nodup := by decide +kernel
abbrev sOverP : Stmt := top 26
theorem scOverP : FnScope ["tops", "pivot"] ["tops", "pivot"] (defScope sOverP) := ⟨rfl, rfl, rfl, by decide +kernel, rfl, by decide +kernel, by decide +kernel⟩
theorem ok_overp {dV : Value} (F : FunD K "over_pivot" "over_pivot" sOverP dV f fd)
    (G1 : FnOk P w K mg base CX0 2 g1 gd1 ["top", "bottom"] spFrac) (b1 : Binds K gd1 ["top", "bottom"] []) (k1 : PySem.W.keepIn K (.ref g1) = true) (m1 : mg "fraction" = some (.ref g1)) :
    FnOk P w K mg base CX 3 f fd ["tops", "pivot"] (spOver K) := by
  refine F.ok scOverP (fun vs H Q E h => ?_) (fun cdv A outer s H vs Q E hr h => ?_)
  · obtain ⟨l, ts, pq, n, rfl, hS, h100, h0, bP, hn, q⟩ := h
    rfl
  obtain ⟨l, ts, pq, n, rfl, hS, h100, h0, bP, hn, q⟩ := h
  refine ⟨_, (pss_one (ps_ret (pe_comp (nl := 1) (fr := [1]) (Nc := ["top", "pivot"]) (cl := [("pivot", s.heap.objs.size + 1)]) rfl ⟨rfl, rfl, by decide +kernel, by decide +kernel, fun x c h => h, has_of rfl, rfl, fun i n h => match i, h with | 0, h => by cases h; exact ⟨1, rfl, rfl, rfl, rfl, .inl rfl⟩ | k + 1, h => by rw [show 1 + (k + 1) = k + 2 by omega] at h; cases h⟩
        (pi_list (pv 0)) (fun C s3 H3 fp pins => (pg_name (i := 0) nd_top_pivot rfl (Or.inl rfl))) (fun C s3 H3 fp pins => pif_nil)
        (fun C s3 H3 fp pins => (pe_call G1 hr rfl m1 k1 b1 .nil pass0 (pa_cons (pv 0) (pa_cons (pv 1) pa_nil))))))), ?_⟩
  refine ⟨_, rfl, l, rfl, ⟨_, hS⟩, fun D hD => ?_⟩
  have sD := same_new hD (.lst [])
  refine comp_list (xs := ts.map V.int) (fun i zs H' => Same H H' ∧ H' D = some (.lst zs) ∧ Fqs K H' zs ((ts.map fun t => Mq.red t pq).take i)) ⟨sD, upd_same, .nil⟩ (fun i zs H' h => h.2.1) (fun i zs H' _ h => h.1.seq hS) ?_ ?_
  · rintro i zs x H1 hx ⟨s1, e1, F1⟩ C hC
    have hi : i < ts.length := by have := (List.getElem?_eq_some_iff.mp hx).1; simpa using this
    have ex : x = .int (ts.getD i 0) := by rw [map_get hi] at hx; cases hx; rfl
    subst ex
    have lz := F1.length
    rw [List.length_take, List.length_map] at lz
    refine ⟨keep1.1, keep1.2, iteT ?_⟩
    refine ⟨_, rfl, _, rfl, _, _, n, rfl, h0, bP, by omega, fun r H2 s2 e2 => ?_⟩
    have eA := s2 _ _ e1
    refine ⟨eA, small1000 (by omega), hC _ _ ⟨(s1.trans s2).change hD, upd_same, ?_⟩⟩
    rw [List.take_add_one, List.getElem?_map, Mq.get_some hi]
    exact ((F1.same s2).app (.cons (Fq.of e2) .nil)).upd eA
  rintro zs H1 ⟨s1, e1, F1⟩
  rw [List.length_map, List.take_of_length_le (by simp)] at F1
  exact q D zs H1 s1 hD e1 F1
end
end K25

set_option Elab.async false
set_option linter.all false
set_option maxRecDepth 100000
set_option maxHeartbeats 4000000
namespace K25
open PySem L2 Shp
section
variable {P : Program} {w : World} {K : PySem.W.Frag} {mg : Str → Option Value} {base : Heap} {f g1 g2 g3 g4 g5 g6 g7 g8 g9 : Addr} {fd gd1 gd2 gd3 gd4 gd5 gd6 gd7 gd8 gd9 : FuncData} {CX : CXT}
theorem filt_take {ts : List Int} {i : Nat} (hi : i < ts.length) : (ts.take (i + 1)).filter (fun t => decide (t ≠ 0)) = (ts.take i).filter (fun t => decide (t ≠ 0)) ++ if ts.getD i 0 ≠ 0 then [ts.getD i 0] else [] := by
  rw [List.take_add_one, Mq.get_some hi, List.filter_append]
  generalize ts.getD i 0 = z
  congr 1
  by_cases h : z = 0
  · rw [if_neg (fun n => n h), h]; rfl
  · rw [if_pos h]; simp [h]
theorem cut_fromI (xs : List V) (k : Nat) : cutV xs (some (k : Int)) none = xs.drop k := by
  unfold cutV
  have h1 : HT.sIx xs.length xs.length none = xs.length := rfl
  have h2 : HT.sIx xs.length 0 (some (k : Int)) = min k xs.length := by simp [HT.sIx]; omega
  rw [h1, h2]
  by_cases h : k ≤ xs.length
  · rw [Nat.min_eq_left h, List.take_of_length_le (by simp)]
  · rw [Nat.min_eq_right (by omega), List.drop_of_length_le (Nat.le_refl _), List.drop_of_length_le (by omega)]; simp
theorem getD_drop {l : List Int} {m k : Nat} : (l.drop m).getD k 0 = l.getD (m + k) 0 := by
  rw [List.getD_eq_getElem?_getD, List.getElem?_drop, List.getD_eq_getElem?_getD]
theorem getD_map_red {ts : List Int} {f0 : Int} {k : Nat} (h : k < ts.length) : (ts.map fun t => Mq.red t f0).getD k Mq.z0 = Mq.red (ts.getD k 0) f0 := by
  rw [List.getD_eq_getElem?_getD, List.getElem?_map, Mq.get_some h]; rfl
theorem nd_top : (["top"] : List Str).Nodup := by decide +kernel
abbrev sLameM : Stmt := top 31
theorem scLameM : FnScope ["matrix", "many", "end", "found", "first"] ["matrix"] (defScope sLameM) := ⟨rfl, rfl, rfl, by decide +kernel, rfl, by decide +kernel, by decide +kernel⟩
theorem ok_lamem {dV : Value} (F : FunD K "lame_multiples" "lame_multiples" sLameM dV f fd)
    (ml : mg "len" = none)
    (G1 : FnOk P w K mg base CX0 3 g1 gd1 ["matrix"] (spUnitS K)) (b1 : Binds K gd1 ["matrix"] []) (k1 : PySem.W.keepIn K (.ref g1) = true) (m1 : mg "beside_unit" = some (.ref g1))
    (G2 : FnOk P w K mg base CX0 3 g2 gd2 ["rows", "width"] (spElimQ K)) (b2 : Binds K gd2 ["rows", "width"] []) (k2 : PySem.W.keepIn K (.ref g2) = true) (m2 : mg "eliminated" = some (.ref g2))
    (G3 : FnOk P w K mg base CX0 3 g3 gd3 ["tops", "pivot"] (spOver K)) (b3 : Binds K gd3 ["tops", "pivot"] []) (k3 : PySem.W.keepIn K (.ref g3) = true) (m3 : mg "over_pivot" = some (.ref g3)) :
    FnOk P w K mg base CX 4 f fd ["matrix"] (spLameMS K) := by
  refine F.ok scLameM (fun vs H Q E h => ?_) (fun cdv A outer s H vs Q E hr h => ?_)
  · obtain ⟨g, D0, us, X, rfl, hU, hX, ⟨xP, xB, x4⟩, hz, h1, q⟩ := h
    rfl
  obtain ⟨g, D0, us, X, rfl, hU, hX, ⟨xP, xB, x4⟩, hz, h1, q⟩ := h
  have hu := hu_of hr
  refine ⟨_, (pss_cons (ps_set (i := 1) scLameM.nd rfl (Or.inl rfl) (pe_callB call_len_seq rfl ml PySem.boot_len (pa_cons (pv 0) pa_nil)))
    (pss_cons (ps_set (i := 2) scLameM.nd rfl (Or.inl rfl) (pe_call G2 hr rfl m2 k2 b2 .nil pass0 (pa_cons (pe_call G1 hr rfl m1 k1 b1 .nil pass0 (pa_cons (pv 0) pa_nil)) (pa_cons (pv 1) pa_nil))))
    (pss_cons (ps_set (i := 3) scLameM.nd rfl (Or.inl rfl) (pe_slice sl_list (pe_ix ix_list (pe_dget hu (pv 2) pe_str (fun _ _ => rfl)) (pe_op op_sub (pv 1) pe_int) (fun _ _ => rfl)) (po_some (pv 1)) po_none))
    (pss_cons (ps_set (i := 4) scLameM.nd rfl (Or.inl rfl) (pe_ix ix_list (pe_comp (nl := 1) (fr := []) (Nc := ["top"]) (cl := []) rfl ⟨rfl, rfl, by decide +kernel, by decide +kernel, fun x c h => (by cases h), has_of rfl, rfl, fun i n h => (by simp at h)⟩
        (pi_list (pv 3)) (fun C s3 H3 fp pins => (pg_name (i := 0) nd_top rfl (Or.inl rfl))) (fun C s3 H3 fp pins => (pif_one (pt_cmpR op_ne (pv 0) pe_int (nomark _))))
        (fun C s3 H3 fp pins => (pv 0))) pe_int (fun _ _ => rfl)))
    (pss_one (ps_ret (pe_call G3 hr rfl m3 k3 b3 .nil pass0 (pa_cons (pv 3) (pa_cons (pv 4) pa_nil))))))))), ?_⟩
  have lu := hX.length
  have hw : ∀ row ∈ X, row.length = X.length := fun row h => (xB row h).2
  refine ⟨_, rfl, g, us, rfl, .inl hU, ?_⟩
  refine ⟨_, rfl, g, D0, us, X, rfl, hU, hX, ⟨xP, xB, x4⟩, fun l zs H1 s1 nl e1 I1 => ?_⟩
  have bits4 : bq 420 X.length ≤ 9000 := Nat.le_trans (bq_mono 420 x4) (by decide)
  refine ⟨_, rfl, l, l, zs, unitR X, X.length, X.length + X.length, 420, Mq.LI X.length (matX X), by rw [lu]; rfl, SqL.of e1, I1, unit_len X, fun i hi => by rw [unit_get hi, unitRow_len, hw _ (List.mem_of_getElem? (getR hi))], by omega, by omega, unit_bdS xP xB x4, by omega, bits4, by omega, unit_li xP hw, stp_li, fun d lE zE R' rank pivot sign H2 s2 nd nlE ed el IE SE bE bp LE => ?_⟩
  obtain ⟨g1', g2', g3', g4'⟩ := elim_get ed
  have wr := wgt_rank xP (wgt_any fun i j hi hj => unit_left xP hw hi hj) SE
  have hr' : rank < X.length := by
    rcases wr with z | z
    · exact z.1
    · exact absurd hz z.2
  obtain ⟨⟨k0, hk0, nk0⟩, hsum⟩ := LE.lame SE hr'
  obtain ⟨u, eu, nu, hu2⟩ := IE.at (i := X.length - 1) (by rw [SE.len]; omega)
  have wid := SE.wid (X.length - 1) (by omega)
  -- found
  have em : ((X.length : Nat) : Int) - 1 = ((X.length - 1 : Nat) : Int) := by omega
  refine ⟨_, rfl, d, _, rfl, g1', _, rfl, _, _, rfl, rfl, lE, zE, _, _, rfl, rfl, SqL.of el, ?_, _, rfl, (us.length : Int), rfl, u, _, rfl, SqL.of hu2, fun lf hlf => ?_⟩
  · rw [lu, em]; exact atI_nat eu
  rw [lu, cut_fromI, ← List.map_drop]
  generalize hts : (R'.getD (X.length - 1) []).drop X.length = ts
  have lts : ts.length = X.length := by rw [← hts, List.length_drop, wid]; omega
  have ets : ∀ k, ts.getD k 0 = Mq.ent R' (X.length - 1) (X.length + k) := fun k => by rw [← hts, getD_drop]; rfl
  have s3 := same_new hlf (.lst (ts.map V.int))
  have e3 : upd H2 lf (.lst (ts.map V.int)) lf = some (.lst (ts.map V.int)) := upd_same
  generalize upd H2 lf (.lst (ts.map V.int)) = H3 at s3 e3 ⊢
  -- first
  refine ⟨_, rfl, lf, rfl, ⟨_, SqL.of e3⟩, fun D hD => ?_⟩
  have sD := same_new hD (.lst [])
  refine comp_list (xs := ts.map V.int) (fun i ws H' => Same H3 H' ∧ H' D = some (.lst ws) ∧ ws = ((ts.take i).filter (fun t => decide (t ≠ 0))).map V.int) ⟨sD, upd_same, rfl⟩ (fun i ws H' h => h.2.1) (fun i ws H' _ h => h.1.seq (SqL.of e3)) ?_ ?_
  · rintro i ws x H4 hx ⟨s4, e4, rfl⟩ C hC
    have hi : i < ts.length := by have := (List.getElem?_eq_some_iff.mp hx).1; simpa using this
    have ex : x = .int (ts.getD i 0) := by rw [map_get hi] at hx; cases hx; rfl
    subst ex
    refine ⟨keep1.1, keep1.2, _, rfl, rfl, _, rfl, ite2 (fun e => ?_) (fun e => ?_)⟩
    · have ne : ts.getD i 0 ≠ 0 := fun z => by rw [z] at e; simp at e
      refine ⟨_, rfl, e4, small1000 (by rw [List.length_map]; exact Nat.le_trans (List.length_filter_le _ _) (by rw [List.length_take]; omega)), hC _ _ ⟨s4.change hD, upd_same, ?_⟩⟩
      rw [filt_take hi, if_pos ne, List.map_append]; rfl
    · have ez : ts.getD i 0 = 0 := by simp at e; exact e
      refine hC _ _ ⟨s4, e4, ?_⟩
      rw [filt_take hi, if_neg (by rw [ez]; simp), List.append_nil]
  rintro ws H4 ⟨s4, e4, rfl⟩
  rw [List.length_map, List.take_of_length_le (Nat.le_refl _)] at e4
  have mk0 : ts.getD k0 0 ∈ ts := List.mem_of_getElem? (Mq.get_some (by omega))
  have mf : ts.getD k0 0 ∈ ts.filter (fun t => decide (t ≠ 0)) := List.mem_filter.mpr ⟨mk0, by rw [ets]; simpa using nk0⟩
  obtain ⟨f0, rest, ef⟩ : ∃ f0 rest, ts.filter (fun t => decide (t ≠ 0)) = f0 :: rest := by
    cases h : ts.filter (fun t => decide (t ≠ 0)) with
    | nil => rw [h] at mf; simp at mf
    | cons a r => exact ⟨a, r, rfl⟩
  have f0m : f0 ∈ ts.filter (fun t => decide (t ≠ 0)) := by rw [ef]; simp
  have f0n : f0 ≠ 0 := by have := (List.mem_filter.mp f0m).2; simpa using this
  have tb : ∀ t ∈ ts, Mq.B (bq 420 X.length) t := fun t ht => by
    obtain ⟨j, hj, rfl⟩ := List.getElem_of_mem ht
    have := bE (X.length - 1) (X.length + j)
    rw [← ets, List.getD_eq_getElem?_getD, List.getElem?_eq_getElem hj] at this
    exact this
  have f0b := tb f0 (List.mem_filter.mp f0m).1
  rw [ef] at e4
  refine ⟨D, _, 0, _, rfl, rfl, SqL.of e4, atI_nat (j := 0) rfl, ?_⟩
  refine ⟨_, rfl, _, rfl, lf, ts, f0, bq 420 X.length, rfl, SqL.of (s4 _ _ e3), by omega, f0n, f0b, bits4, fun l' zs' H5 s5 nl' e5 F5 => ?_⟩
  have s05 := s1.trans (s2.trans (s3.trans (s4.trans s5)))
  have s04 := s1.trans (s2.trans (s3.trans s4))
  have fc := Mq.cast_ne f0n
  refine q l' zs' _ H5 s05 (s04.free nl') e5 F5 ⟨by rw [List.length_map, lts], fun p hp => ?_, fun p hp => ?_, ?_, fun x hx => ?_⟩
  · obtain ⟨t, _, rfl⟩ := List.mem_map.mp hp
    exact Mq.red_low f0n
  · obtain ⟨t, ht, rfl⟩ := List.mem_map.mp hp
    have le := Mq.red_le (t := t) f0n
    exact ⟨((tb t ht).le le.1).mono bits4, (f0b.le le.2).mono bits4⟩
  · refine ⟨_, List.mem_map.mpr ⟨_, mk0, rfl⟩, fun z => ?_⟩
    have v := Mq.val_red (t := ts.getD k0 0) f0n
    unfold Mq.val at v
    rw [z] at v
    have n0 := Mq.cast_ne (show ts.getD k0 0 ≠ 0 by rw [ets]; exact nk0)
    simp at v
    grind
  · have e := hsum x hx
    have : (Mq.rs X.length fun j => Mq.val ((ts.map fun t => Mq.red t f0).getD j Mq.z0) * matX X j x) = (1 / (f0 : Rat)) * Mq.rs X.length fun k => Mq.at2 R' (X.length - 1) (X.length + k) * matX X k x := by
      rw [← Mq.rs_mul]
      refine Mq.rs_congr fun j hj => ?_
      rw [getD_map_red (by omega), Mq.val_red f0n, ets]
      show ((Mq.ent R' (X.length - 1) (X.length + j) : Int) : Rat) / (f0 : Rat) * _ = _ * (((Mq.ent R' (X.length - 1) (X.length + j) : Int) : Rat) * _)
      grind
    rw [this, e]; grind
abbrev sLInit : Stmt := inClass (top 11) 0
theorem scLInit : FnScope ["self", "multiples"] ["self", "multiples"] (defScope sLInit) := ⟨rfl, rfl, rfl, by decide +kernel, rfl, by decide +kernel, by decide +kernel⟩
theorem ok_linit {dV : Value} (F : FunD K "__init__" "Lame.__init__" sLInit dV f fd) {CL C0 : Addr} (qI : ExcI K CL C0 f) (cI : ClsI K C0) (qF : ExcF K CL "multiples") (mO : mg "OhmError" = some (.ref C0)) (mt : mg "tuple" = none) (mli : mg "list" = none) :
    FnOk P w K mg base CX 1 f fd ["self", "multiples"] (spLInit K CL) := by
  refine F.ok scLInit (fun vs H Q E h => ?_) (fun cdv A outer s H vs Q E hr h => ?_)
  · obtain ⟨x, l, xs, rfl, _⟩ := h
    rfl
  obtain ⟨x, l, xs, rfl, hx, hS, h1000, q⟩ := h
  refine ⟨_, (pss_cons (ps_expr (pe_excInit rfl mO cI (pa_cons (pv 0) (pa_cons (pe_callTy call_tuple_of rfl mt PyProof.Rows.boot_tuple (pa_cons (pv 1) pa_nil)) pa_nil)))) (pss_one (ps_fldX (pv 0) (pe_callTy call_list_of rfl mli PyProof.Rows.boot_list (pa_cons (pv 1) pa_nil)) rfl))), ?_⟩
  refine ⟨_, rfl, _, rfl, l, xs, rfl, .inl ⟨hS, fun t ht => ?_⟩⟩
  have s1 := same_new ht (.tup xs)
  have nt : t ≠ x := fun z => by rw [z, hx] at ht; cases ht
  generalize upd H t (.tup xs) = H1 at s1 ⊢
  refine ⟨x, CL, C0, f, none, _, rfl, s1 _ _ hx, qI, ?_⟩
  refine ⟨_, rfl, l, xs, rfl, .inl (s1.seq hS), fun l2 hl2 => ?_⟩
  have s2 := same_new hl2 (.lst xs)
  have e2 : upd H1 l2 (.lst xs) l2 = some (.lst xs) := upd_same
  have x1 := s1 _ _ hx
  have n2 : l2 ≠ x := fun z => by rw [z, x1] at hl2; cases hl2
  generalize upd H1 l2 (.lst xs) = H2 at s2 e2 ⊢
  have x2 := s2 _ _ x1
  refine ⟨_, rfl, x, CL, C0, f, rfl, x2, qI, qF, fun dx hdx => ?_⟩
  have nx : dx ≠ x := fun z => by rw [z, x2] at hdx; cases hdx
  have nl : l2 ≠ dx := fun z => by rw [z] at e2; rw [e2] at hdx; cases hdx
  have s02 := s1.trans s2
  refine q dx l2 _ (s02.free hdx) (s1.free hl2) nx n2 (fun b' o e nb => ?_) upd_same ?_ ?_
  · rw [upd_ne nb, upd_ne (fun z => by rw [z, s02.free hdx] at e; cases e)]
    exact s02 _ _ e
  · rw [upd_ne nx, upd_same]
  · rw [upd_ne n2, upd_ne nl]; exact e2
theorem nd_row_many_end : (["row", "many", "end"] : List Str).Nodup := by decide +kernel
abbrev sMult : Stmt := top 22
theorem scMult : FnScope ["matrix", "many", "end"] ["matrix"] (defScope sMult) := ⟨rfl, rfl, rfl, by decide +kernel, rfl, by decide +kernel, by decide +kernel⟩
theorem ok_mult {dV : Value} (F : FunD K "multiples" "multiples" sMult dV f fd)
    (ml : mg "len" = none)
    (G1 : FnOk P w K mg base CX0 3 g1 gd1 ["matrix"] (spUnitS K)) (b1 : Binds K gd1 ["matrix"] []) (k1 : PySem.W.keepIn K (.ref g1) = true) (m1 : mg "beside_unit" = some (.ref g1))
    (G2 : FnOk P w K mg base CX0 3 g2 gd2 ["rows", "width"] (spElimQ K)) (b2 : Binds K gd2 ["rows", "width"] []) (k2 : PySem.W.keepIn K (.ref g2) = true) (m2 : mg "eliminated" = some (.ref g2))
    (G3 : FnOk P w K mg base CX0 3 g3 gd3 ["tops", "pivot"] (spOver K)) (b3 : Binds K gd3 ["tops", "pivot"] []) (k3 : PySem.W.keepIn K (.ref g3) = true) (m3 : mg "over_pivot" = some (.ref g3))
    {fM fI CL C0 : Addr} {fdM fdI : FuncData} (GM : FnOk P w K mg base CX0 4 fM fdM ["matrix"] (spLameMS K)) (bM : Binds K fdM ["matrix"] []) (kM : PySem.W.keepIn K (.ref fM) = true) (mM : mg "lame_multiples" = some (.ref fM))
    (mL : mg "Lame" = some (.ref CL)) (qI : ExcI K CL C0 fI) (GI : FnOk P w K mg base CX0 1 fI fdI ["self", "multiples"] (spLInit K CL)) (bI : Binds K fdI ["self", "multiples"] []) :
    FnOk P w K mg base (CX1 P w) 5 f fd ["matrix"] (spMultS K CL) := by
  refine F.okX scMult (fun vs H Q E h => ?_) (fun cdv A outer s H vs Q E hr h => ?_)
  · obtain ⟨g, D0, us, X, rfl, hU, hX, ⟨xP, xB, x4⟩, q, qE⟩ := h
    rfl
  obtain ⟨g, D0, us, X, rfl, hU, hX, ⟨xP, xB, x4⟩, q, qE⟩ := h
  have hu := hu_of hr
  have r3 := hr.mono (show 3 ≤ 4 by omega)
  have r2 := hr.mono (show 2 ≤ 4 by omega)
  refine ⟨_, (pss_cons (ps_set (i := 1) scMult.nd rfl (Or.inr rfl) (pe_callB call_len_seq rfl ml PySem.boot_len (pa_cons (pv 0) pa_nil)))
    (pss_cons (ps_set (i := 2) scMult.nd rfl (Or.inr rfl) (pe_call G2 r3 rfl m2 k2 b2 .nil pass0 (pa_cons (pe_call G1 r3 rfl m1 k1 b1 .nil pass0 (pa_cons (pv 0) pa_nil)) (pa_cons (pv 1) pa_nil))))
    (pss_cons (ps_if (pt_cmpR op_lt (pe_dget hu (pv 2) pe_str (fun _ _ => rfl)) (pv 1) (nomark _)) (pss_one (ps_raiseI frm_cxOf xe_cxOf rfl rfl mL qI GI r2 bI (pa_cons (pe_call GM hr rfl mM kM bM .nil pass0 (pa_cons (pv 0) pa_nil)) pa_nil))) pss_nil)
    (pss_one (ps_ret (pe_comp (nl := 1) (fr := [1, 2]) (Nc := ["row", "many", "end"]) (cl := [("many", s.heap.objs.size + 1), ("end", s.heap.objs.size + 2)]) rfl ⟨rfl, rfl, by decide +kernel, by decide +kernel, (sub_cons rfl (sub_cons rfl (sub_nil))), has_of rfl, rfl, fun i n h => match i, h with | 0, h => by cases h; exact ⟨1, rfl, rfl, rfl, rfl, .inl rfl⟩ | 1, h => by cases h; exact ⟨2, rfl, rfl, rfl, rfl, .inl rfl⟩ | k + 2, h => by rw [show 1 + (k + 2) = k + 3 by omega] at h; cases h⟩
        (pi_list (pe_dget hu (pv 2) pe_str (fun _ _ => rfl))) (fun C s3 H3 fp pins => (pg_name (i := 0) nd_row_many_end rfl (Or.inl rfl))) (fun C s3 H3 fp pins => pif_nil)
        (fun C s3 H3 fp pins => (pe_call G3 r3 rfl m3 k3 b3 .nil pass0 (pa_cons (pe_slice (sl_listK (K := K) rfl) (pv 0) (po_some (pv 1)) po_none) (pa_cons (pe_dget hu (pv 2) pe_str (fun _ _ => rfl)) pa_nil)))))))))), ?_⟩
  have lu := hX.length
  have hw : ∀ row ∈ X, row.length = X.length := fun row h => (xB row h).2
  refine ⟨_, rfl, g, us, rfl, .inl hU, ?_⟩
  refine ⟨_, rfl, g, D0, us, X, rfl, hU, hX, ⟨xP, xB, x4⟩, fun l zs H1 s1 nl e1 I1 => ?_⟩
  have bits4 : bq 420 X.length ≤ 9000 := Nat.le_trans (bq_mono 420 x4) (by decide)
  refine ⟨_, rfl, l, l, zs, unitR X, X.length, X.length + X.length, 420, Mq.LI X.length (matX X), by rw [lu]; rfl, SqL.of e1, I1, unit_len X, fun i hi => by rw [unit_get hi, unitRow_len, hw _ (List.mem_of_getElem? (getR hi))], by omega, by omega, unit_bdS xP xB x4, by omega, bits4, by omega, unit_li xP hw, stp_li, fun d lE zE R' rank pivot sign H2 s2 nd nlE ed el IE SE bE bp LE => ?_⟩
  obtain ⟨g1', g2', g3', g4'⟩ := elim_get ed
  have s02 := s1.trans s2
  have wr := wgt_rank xP (wgt_any fun i j hi hj => unit_left xP hw hi hj) SE
  refine ⟨_, rfl, d, _, rfl, g2', _, rfl, _, _, rfl, rfl, _, rfl, ite2 (fun e => ?_) (fun e => ?_)⟩
  · -- lame
    have hr' : rank < X.length := by simp at e; omega
    have hz : wgt X = 0 := by
      rcases wr with z | z
      · exact z.2
      · omega
    refine ⟨_, rfl, g, D0, us, X, rfl, s02.seq hU, hX.same s02, ⟨xP, xB, x4⟩, hz, by omega, fun l3 z3 ps H3 s3 nl3 e3 F3 N3 => ?_⟩
    have s03 := s02.trans s3
    refine ⟨by show 1 ≤ sizeLine; decide, fun x hx => ?_⟩
    have sx := same_new hx (newX x (.ref CL) none)
    have lz := F3.length
    have n3 := N3.len
    refine ⟨x, l3, z3, rfl, upd_same, SqL.of (sx _ _ e3), by omega, fun dx l4 H4 ndx nl4 ne1 ne2 keep ex ed4 el4 => ⟨rfl, some dx, ex, ?_⟩⟩
    have sD : Same H3 (dropH H4 x) := fun b o e => by
      have nb : b ≠ x := fun z => by rw [z, hx] at e; cases e
      rw [dropH_ne nb]
      exact keep b o (sx b o e) nb
    have nl4' : H3 l4 = none := sx.free nl4
    refine qE dx l4 z3 ps _ (s03.trans sD) hz (by rw [dropH_ne ne1]; exact ed4) (s03.free nl4') (by rw [dropH_ne ne2]; exact el4) (F3.same sD) N3
  · -- whole
    have hr' : rank = X.length := by
      rcases wr with z | z
      · simp at e; omega
      · exact z.1
    have hz : wgt X ≠ 0 := by
      rcases wr with z | z
      · omega
      · exact z.2
    subst hr'
    have dn := SE.dne
    have pn : pivot ≠ 0 := fun z => dn (by rw [z]; simp)
    have lzE := IE.length
    rw [SE.len] at lzE
    refine ⟨_, rfl, d, _, rfl, g1', lE, rfl, ⟨_, SqL.of el⟩, fun D hD => ?_⟩
    have sD := same_new hD (.lst [])
    refine comp_list (xs := zE) (fun i ws H' => Same H2 H' ∧ H' D = some (.lst ws) ∧ Fmd K H D H' ws ((List.range i).map fun i => ((R'.getD i []).drop X.length).map fun t => Mq.red t pivot)) ⟨sD, upd_same, .nil⟩ (fun i ws H' h => h.2.1) (fun i ws H' _ h => h.1.seq (SqL.of el)) ?_ ?_
    · rintro i ws x H3 hx ⟨s3, e3, F3⟩ C hC
      have hi : i < X.length := by have := (List.getElem?_eq_some_iff.mp hx).1; omega
      obtain ⟨u, eu, nu, hu2⟩ := IE.at (i := i) (by rw [SE.len]; exact hi)
      have exu : x = .ref u := by rw [eu] at hx; cases hx; rfl
      subst exu
      have wid := SE.wid i hi
      have lz := F3.length
      rw [List.length_map, List.length_range] at lz
      refine ⟨keep1.1, keep1.2, iteT ?_⟩
      refine ⟨_, rfl, _, rfl, (us.length : Int), rfl, u, _, rfl, SqL.of (s3 _ _ hu2), fun lf hlf => ?_⟩
      rw [lu, cut_fromI, ← List.map_drop]
      have s4 := same_new hlf (.lst (((R'.getD i []).drop X.length).map V.int))
      have e4 : upd H3 lf (.lst (((R'.getD i []).drop X.length).map V.int)) lf = some (.lst (((R'.getD i []).drop X.length).map V.int)) := upd_same
      generalize upd H3 lf (.lst (((R'.getD i []).drop X.length).map V.int)) = H4 at s4 e4 ⊢
      refine ⟨_, rfl, d, _, rfl, elim_get ((s3.trans s4) _ _ ed) |>.2.2.1, lf, (R'.getD i []).drop X.length, pivot, bq 420 X.length, rfl, SqL.of e4, by rw [List.length_drop, wid]; omega, pn, bp, bits4, fun l5 z5 H5 s5 nl5 e5 F5 => ?_⟩
      have s35 := s4.trans s5
      have eD := s35 _ _ e3
      have ne : l5 ≠ D := fun z => by rw [z, s4 _ _ e3] at nl5; cases nl5
      refine ⟨eD, small1000 (by omega), hC _ _ ⟨(s3.trans s35).change hD, upd_same, ?_⟩⟩
      rw [List.range_succ, List.map_append]
      exact ((F3.same s35).app (.cons ((s02.trans (s3.trans s4)).free nl5) ne e5 F5 .nil)).upd eD
    rintro ws H3 ⟨s3, e3, F3⟩
    rw [lzE] at F3
    refine q D ws _ H3 (s02.trans s3) hz (s02.free hD) e3 F3 ⟨by simp, fun row hrow => ?_, fun k x hk hx => ?_⟩
    · obtain ⟨i, hi, rfl⟩ := List.mem_map.mp hrow
      have hi' := List.mem_range.mp hi
      have wid := SE.wid i hi'
      refine ⟨fun p hp => ?_, fun p hp => ?_, by rw [List.length_map, List.length_drop, wid]; omega⟩
      · obtain ⟨t, _, rfl⟩ := List.mem_map.mp hp
        exact Mq.red_low pn
      · obtain ⟨t, ht, rfl⟩ := List.mem_map.mp hp
        have le := Mq.red_le (t := t) pn
        have tb : Mq.B (bq 420 X.length) t := by
          obtain ⟨j, hj, rfl⟩ := List.getElem_of_mem ht
          have := bE i (X.length + j)
          unfold Mq.ent at this
          rw [← getD_drop, List.getD_eq_getElem?_getD, List.getElem?_eq_getElem hj] at this
          exact this
        exact ⟨(tb.le le.1).mono bits4, (bp.le le.2).mono bits4⟩
    · rw [← LE.whole SE hk hx]
      refine Mq.rs_congr fun j hj => ?_
      have e1 : ((List.range X.length).map fun i => ((R'.getD i []).drop X.length).map fun t => Mq.red t pivot).getD k [] = ((R'.getD k []).drop X.length).map fun t => Mq.red t pivot := by
        rw [List.getD_eq_getElem?_getD, List.getElem?_map, List.getElem?_range hk]; rfl
      have wid := SE.wid k hk
      rw [e1, getD_map_red (by rw [List.length_drop, wid]; omega), Mq.val_red pn, getD_drop]
      rfl
theorem nd_row_side : (["row", "side"] : List Str).Nodup := by decide +kernel
abbrev sSolved : Stmt := top 21
theorem scSolved : FnScope ["matrix", "right", "many", "rows", "end"] ["matrix", "right"] (defScope sSolved) := ⟨rfl, rfl, rfl, by decide +kernel, rfl, by decide +kernel, by decide +kernel⟩
theorem ok_solved {dV : Value} (F : FunD K "solved" "solved" sSolved dV f fd)
    (ml : mg "len" = none) (mz : mg "zip" = none)
    (G1 : FnOk P w K mg base CX0 2 g1 gd1 ["some"] (spIWd K)) (b1 : Binds K gd1 ["some"] []) (k1 : PySem.W.keepIn K (.ref g1) = true) (m1 : mg "in_wholes" = some (.ref g1))
    (G2 : FnOk P w K mg base CX0 3 g2 gd2 ["rows", "width"] (spElimQ K)) (b2 : Binds K gd2 ["rows", "width"] []) (k2 : PySem.W.keepIn K (.ref g2) = true) (m2 : mg "eliminated" = some (.ref g2))
    (G3 : FnOk P w K mg base CX0 2 g3 gd3 ["top", "bottom"] spFrac) (b3 : Binds K gd3 ["top", "bottom"] []) (k3 : PySem.W.keepIn K (.ref g3) = true) (m3 : mg "fraction" = some (.ref g3))
    {fM fI CL C0 : Addr} {fdM fdI : FuncData} (GM : FnOk P w K mg base CX0 4 fM fdM ["matrix"] (spLameMS K)) (bM : Binds K fdM ["matrix"] []) (kM : PySem.W.keepIn K (.ref fM) = true) (mM : mg "lame_multiples" = some (.ref fM))
    (mL : mg "Lame" = some (.ref CL)) (qI : ExcI K CL C0 fI) (GI : FnOk P w K mg base CX0 1 fI fdI ["self", "multiples"] (spLInit K CL)) (bI : Binds K fdI ["self", "multiples"] []) :
    FnOk P w K mg base (CX1 P w) 5 f fd ["matrix", "right"] (spSolvedS K CL) := by
  refine F.okX scSolved (fun vs H Q E h => ?_) (fun cdv A outer s H vs Q E hr h => ?_)
  · obtain ⟨g, bR, D0, H00, us, bs, X, qs, rfl, hU, hX, hB, hQ, ⟨ql, qL, qB⟩, ⟨xP, xB, x4⟩, q, qE⟩ := h
    rfl
  obtain ⟨g, bR, D0, H00, us, bs, X, qs, rfl, hU, hX, hB, hQ, ⟨ql, qL, qB⟩, ⟨xP, xB, x4⟩, q, qE⟩ := h
  have hu := hu_of hr
  have r3 := hr.mono (show 3 ≤ 4 by omega)
  have r2 := hr.mono (show 2 ≤ 4 by omega)
  refine ⟨_, (pss_cons (ps_set (i := 2) scSolved.nd rfl (Or.inr rfl) (pe_callB call_len_seq rfl ml PySem.boot_len (pa_cons (pv 0) pa_nil)))
    (pss_cons (ps_setC (i := 3) (nl := 2) (fr := []) (Nc := ["row", "side"]) (cl := []) (g := (gTup K 2 (gCons (gName 0) (gCons (gName 1) gNil)))) scSolved.nd rfl rfl rfl ⟨rfl, rfl, by decide +kernel, by decide +kernel, fun x c h => (by cases h), has_of rfl, rfl, fun i n h => (by simp at h)⟩
        (pi_zip rfl mz rfl (pa_cons (pv 0) (pa_cons (pv 1) pa_nil))) (fun C s3 H3 fp pins => (pg_tup rfl (pgs_cons (pg_name (i := 0) nd_row_side rfl (Or.inl rfl)) (pgs_cons (pg_name (i := 1) nd_row_side rfl (Or.inl rfl)) pgs_nil)))) (fun C s3 H3 fp pins => pif_nil)
        (fun C s3 H3 fp pins => (pe_ix (ix_tupK (K := K) rfl) (pe_call G1 r2 rfl m1 k1 b1 .nil pass0 (pa_cons (pe_op op_cat (pv 0) (pe_lst (pa_cons (pv 1) pa_nil))) pa_nil)) pe_int (fun _ _ => rfl))) rfl)
    (pss_cons (ps_set (i := 4) scSolved.nd rfl (Or.inr rfl) (pe_call G2 r3 rfl m2 k2 b2 .nil pass0 (pa_cons (pv 3) (pa_cons (pv 2) pa_nil))))
    (pss_cons (ps_if (pt_cmpR op_lt (pe_dget hu (pv 4) pe_str (fun _ _ => rfl)) (pv 2) (nomark _)) (pss_one (ps_raiseI frm_cxOf xe_cxOf rfl rfl mL qI GI r2 bI (pa_cons (pe_call GM hr rfl mM kM bM .nil pass0 (pa_cons (pv 0) pa_nil)) pa_nil))) pss_nil)
    (pss_one (ps_ret (pe_comp (nl := 1) (fr := [2, 4]) (Nc := ["row", "many", "end"]) (cl := [("many", s.heap.objs.size + 1), ("end", s.heap.objs.size + 2)]) rfl ⟨rfl, rfl, by decide +kernel, by decide +kernel, (sub_cons rfl (sub_cons rfl (sub_nil))), has_of rfl, rfl, fun i n h => match i, h with | 0, h => by cases h; exact ⟨2, rfl, rfl, rfl, rfl, .inl rfl⟩ | 1, h => by cases h; exact ⟨4, rfl, rfl, rfl, rfl, .inl rfl⟩ | k + 2, h => by rw [show 1 + (k + 2) = k + 3 by omega] at h; cases h⟩
        (pi_list (pe_dget hu (pv 4) pe_str (fun _ _ => rfl))) (fun C s3 H3 fp pins => (pg_name (i := 0) nd_row_many_end rfl (Or.inl rfl))) (fun C s3 H3 fp pins => pif_nil)
        (fun C s3 H3 fp pins => (pe_call G3 r2 rfl m3 k3 b3 .nil pass0 (pa_cons (pe_ix (ix_listK (K := K) rfl) (pv 0) (pv 1) (fun _ _ => rfl)) (pa_cons (pe_dget hu (pv 2) pe_str (fun _ _ => rfl)) pa_nil))))))))))), ?_⟩
  have lu := hX.length
  have lb := hQ.length
  have hw : ∀ row ∈ X, row.length = X.length := fun row h => (xB row h).2
  have qP := qL.pos
  have lA := rsdR_len ql
  refine ⟨_, rfl, g, us, rfl, .inl hU, ?_⟩
  -- rows
  refine ⟨_, rfl, _, rfl, g, bR, rfl, ⟨_, hU⟩, ⟨_, hB⟩, fun D hD => ?_⟩
  have sD := same_new hD (.lst [])
  refine comp_zip (xs := us) (ys := bs) (fun i zs H' => Same H H' ∧ H' D = some (.lst zs) ∧ Imx D H' zs ((rsdR X qs).take i)) ⟨sD, upd_same, .nil⟩ (fun i zs H' h => h.2.1) (fun i zs H' _ h => ⟨h.1.seq hU, h.1.seq hB⟩) ?_ ?_
  · rintro i zs x y H1 T1 ex ey ⟨s1, e1, I1⟩ hT C hC
    obtain ⟨u, ys, row, rfl, er, _, _, hu', fu⟩ := hX.get ex
    obtain ⟨v, qv, rfl, eq, fv⟩ := hQ.get ey
    have hi : i < X.length := (List.getElem?_eq_some_iff.mp er).1
    have mem := List.mem_of_getElem? er
    have memq := List.mem_of_getElem? eq
    obtain ⟨rb, rl⟩ := xB row mem
    have lys := fu.length
    have sT := same_new hT (.tup [.ref u, .ref v])
    refine ⟨T1, _, rfl, SqT.of upd_same, rfl, _, _, rfl, _, _, rfl, rfl, keep2.1, keep2.2, iteT ?_⟩
    generalize upd H1 T1 (.tup [.ref u, .ref v]) = H2 at sT ⊢
    have s2 := s1.trans sT
    refine ⟨_, rfl, _, rfl, by show 1 ≤ sizeLine; decide, fun lo hlo => ?_⟩
    have s3 := same_new hlo (.lst [.ref v])
    have e3 : upd H2 lo (.lst [.ref v]) lo = some (.lst [.ref v]) := upd_same
    generalize upd H2 lo (.lst [.ref v]) = H3 at s3 e3 ⊢
    have s03 := s2.trans s3
    refine ⟨u, lo, _, _, rfl, rfl, s03 _ _ hu', e3, Nat.le_of_lt (small1000 (by simp only [List.length_cons, List.length_nil]; omega)), fun p hp => ?_⟩
    have s4 := same_new hp (.lst (ys ++ [.ref v]))
    have e4 : upd H3 p (.lst (ys ++ [.ref v])) p = some (.lst (ys ++ [.ref v])) := upd_same
    generalize upd H3 p (.lst (ys ++ [.ref v])) = H4 at s4 e4 ⊢
    have s04 := s03.trans s4
    have s14 := sT.trans (s3.trans s4)
    refine ⟨p, _, row ++ [qv], 340, rfl, SqL.of e4, (fu.same s04).app (.cons (s04.fq fv) .nil), fun z hz => ?_, fun z hz => ?_, by rw [List.length_append]; simp only [List.length_cons, List.length_nil]; omega, by rw [List.length_append, rl]; simp only [List.length_cons, List.length_nil]; omega, fun t l H5 s5 nl ht hl => ?_⟩
    · rcases List.mem_append.mp hz with z1 | z1
      · exact xP row mem z z1
      · have : z = qv := by simpa using z1
        rw [this]; exact qP qv memq
    · rcases List.mem_append.mp hz with z1 | z1
      · exact (rb z z1).mono (by omega)
      · have : z = qv := by simpa using z1
        rw [this]; exact qB qv memq
    have s15 := s14.trans s5
    have e5 := s15 _ _ e1
    have ne : l ≠ D := fun z => by rw [z, s14 _ _ e1] at nl; cases nl
    have lz := I1.length
    rw [List.length_take, lA] at lz
    refine ⟨t, _, _, _, rfl, rfl, ht, rfl, e5, small1000 (by omega), hC _ _ ⟨(s1.trans s15).change hD, upd_same, ?_⟩⟩
    have ee : (rsdR X qs).take (i + 1) = (rsdR X qs).take i ++ [Mq.iw (row ++ [qv])] := by
      rw [List.take_add_one]
      unfold rsdR rsdX
      rw [List.getElem?_map, List.getElem?_zipWith, er, eq]; rfl
    rw [ee]
    exact ((I1.same s15).app (.cons ne hl .nil)).upd
  rintro zs H1 ⟨s1, e1, I1⟩
  rw [show min us.length bs.length = (rsdR X qs).length by omega, List.take_length] at I1
  have bits4 : bq 1010 X.length ≤ 9000 := Nat.le_trans (bq_mono 1010 x4) (by decide)
  have wA : ∀ i, i < X.length → ((rsdR X qs).getD i []).length = X.length + 1 := fun i hi => by
    rw [rsdR_get ql hi, iw_len, List.length_append, hw _ (List.mem_of_getElem? (getR hi))]; rfl
  refine ⟨_, rfl, _, rfl, D, D, zs, rsdR X qs, X.length, X.length + 1, 1010, Mq.KI X.length (Mq.at2 (rsdR X qs)), by rw [lu]; rfl, SqL.of e1, I1, lA, wA, by omega, by omega, aug_bdS xP qP ql xB qB x4, by omega, bits4, by omega, fun Φ _ hz => hz, stp_ki, fun d lE zE R' rank pivot sign H2 s2 nd nlE ed el IE SE bE bp LE => ?_⟩
  obtain ⟨g1', g2', g3', g4'⟩ := elim_get ed
  have s02 := s1.trans s2
  have wr := aug_rank xP qP ql hw SE
  refine ⟨_, rfl, d, _, rfl, g2', _, rfl, _, _, rfl, rfl, _, rfl, ite2 (fun e => ?_) (fun e => ?_)⟩
  · -- lame
    have hr' : rank < X.length := by simp at e; omega
    have hz : wgt X = 0 := by
      rcases wr with z | z
      · exact z.2
      · omega
    refine ⟨_, rfl, g, D0, us, X, rfl, s02.seq hU, hX.mx.same s02, ⟨xP, xB, x4⟩, hz, by omega, fun l3 z3 ps H3 s3 nl3 e3 F3 N3 => ?_⟩
    have s03 := s02.trans s3
    refine ⟨by show 1 ≤ sizeLine; decide, fun x hx => ?_⟩
    have sx := same_new hx (newX x (.ref CL) none)
    have lz := F3.length
    have n3 := N3.len
    refine ⟨x, l3, z3, rfl, upd_same, SqL.of (sx _ _ e3), by omega, fun dx l4 H4 ndx nl4 ne1 ne2 keep ex ed4 el4 => ⟨rfl, some dx, ex, ?_⟩⟩
    have sD : Same H3 (dropH H4 x) := fun b o e => by
      have nb : b ≠ x := fun z => by rw [z, hx] at e; cases e
      rw [dropH_ne nb]
      exact keep b o (sx b o e) nb
    have nl4' : H3 l4 = none := sx.free nl4
    refine qE dx l4 z3 ps _ (s03.trans sD) hz (by rw [dropH_ne ne1]; exact ed4) (s03.free nl4') (by rw [dropH_ne ne2]; exact el4) (F3.same sD) N3
  · -- whole
    have hr' : rank = X.length := by
      rcases wr with z | z
      · simp at e; omega
      · exact z.1
    have hz : wgt X ≠ 0 := by
      rcases wr with z | z
      · omega
      · exact z.2
    subst hr'
    have dn := SE.dne
    have pn : pivot ≠ 0 := fun z => dn (by rw [z]; simp)
    have lzE := IE.length
    rw [SE.len] at lzE
    refine ⟨_, rfl, d, _, rfl, g1', lE, rfl, ⟨_, SqL.of el⟩, fun D2 hD2 => ?_⟩
    have sD2 := same_new hD2 (.lst [])
    refine comp_list (xs := zE) (fun i ws H' => Same H2 H' ∧ H' D2 = some (.lst ws) ∧ Fqs K H' ws ((List.range i).map fun i => Mq.red (Mq.ent R' i X.length) pivot)) ⟨sD2, upd_same, .nil⟩ (fun i ws H' h => h.2.1) (fun i ws H' _ h => h.1.seq (SqL.of el)) ?_ ?_
    · rintro i ws x H3 hx ⟨s3, e3, F3⟩ C hC
      have hi : i < X.length := by have := (List.getElem?_eq_some_iff.mp hx).1; omega
      obtain ⟨u, eu, nu, hu2⟩ := IE.at (i := i) (by rw [SE.len]; exact hi)
      have exu : x = .ref u := by rw [eu] at hx; cases hx; rfl
      subst exu
      have wid := SE.wid i hi
      have lz := F3.length
      rw [List.length_map, List.length_range] at lz
      have ea := atI_nat (map_get (l := R'.getD i []) (i := X.length) (by omega))
      rw [← lu] at ea
      refine ⟨keep1.1, keep1.2, iteT ?_⟩
      refine ⟨_, rfl, _, rfl, u, _, _, _, rfl, rfl, SqL.of (s3 _ _ hu2), ea, ?_⟩
      rw [lu]
      refine ⟨_, rfl, d, _, rfl, elim_get (s3 _ _ ed) |>.2.2.1, _, _, bq 1010 X.length, rfl, pn, bp, bits4, fun r H4 s4 e4 => ?_⟩
      have eD := s4 _ _ e3
      refine ⟨eD, small1000 (by omega), hC _ _ ⟨(s3.trans s4).change hD2, upd_same, ?_⟩⟩
      rw [List.range_succ, List.map_append]
      exact ((F3.same s4).app (.cons (Fq.of e4) .nil)).upd eD
    rintro ws H3 ⟨s3, e3, F3⟩
    rw [lzE] at F3
    have gd : ∀ j, j < X.length → ((List.range X.length).map fun i => Mq.red (Mq.ent R' i X.length) pivot).getD j Mq.z0 = Mq.red (Mq.ent R' j X.length) pivot := fun j hj => by
      rw [List.getD_eq_getElem?_getD, List.getElem?_map, List.getElem?_range hj]; rfl
    refine q D2 ws _ H3 (s02.trans s3) hz (s02.free hD2) e3 F3 ⟨by simp, fun p hp => ?_, fun p hp => ?_, fun i hi => ?_⟩
    · obtain ⟨i, _, rfl⟩ := List.mem_map.mp hp
      exact Mq.red_low pn
    · obtain ⟨i, hi, rfl⟩ := List.mem_map.mp hp
      have le := Mq.red_le (t := Mq.ent R' i X.length) pn
      exact ⟨((bE i X.length).le le.1).mono bits4, (bp.le le.2).mono bits4⟩
    · rw [← slv_of xP qP ql hw LE SE hi]
      refine Mq.rs_congr fun j hj => ?_
      rw [gd j hj, Mq.val_red pn]; rfl
theorem nd_row : (["row"] : List Str).Nodup := by decide +kernel
abbrev sWeight : Stmt := top 23
theorem scWeight : FnScope ["matrix", "rows", "end", "bottom", "row"] ["matrix"] (defScope sWeight) := ⟨rfl, rfl, rfl, by decide +kernel, rfl, by decide +kernel, by decide +kernel⟩
theorem ok_weight {dV : Value} (F : FunD K "weight" "weight" sWeight dV f fd)
    {aN : Addr} (fN : ∀ H, Fq K H aN (0, 1)) (mNO : mg "NOUGHT" = some (.ref aN)) (ml : mg "len" = none)
    (G1 : FnOk P w K mg base CX0 2 g1 gd1 ["some"] (spIWd K)) (b1 : Binds K gd1 ["some"] []) (k1 : PySem.W.keepIn K (.ref g1) = true) (m1 : mg "in_wholes" = some (.ref g1))
    (G2 : FnOk P w K mg base CX0 3 g2 gd2 ["rows", "width"] (spElimQ K)) (b2 : Binds K gd2 ["rows", "width"] []) (k2 : PySem.W.keepIn K (.ref g2) = true) (m2 : mg "eliminated" = some (.ref g2))
    (G3 : FnOk P w K mg base CX0 2 g3 gd3 ["top", "bottom"] spFrac) (b3 : Binds K gd3 ["top", "bottom"] []) (k3 : PySem.W.keepIn K (.ref g3) = true) (m3 : mg "fraction" = some (.ref g3)) :
    FnOk P w K mg base CX 4 f fd ["matrix"] (spWeightS K) := by
  refine F.ok scWeight (fun vs H Q E h => ?_) (fun cdv A outer s H vs Q E hr h => ?_)
  · obtain ⟨g, D0, us, X, rfl, hU, hX, ⟨xP, xB, x4⟩, q⟩ := h
    rfl
  obtain ⟨g, D0, us, X, rfl, hU, hX, ⟨xP, xB, x4⟩, q⟩ := h
  have r2 := hr.mono (show 2 ≤ 3 by omega)
  have hu := hu_of hr
  refine ⟨_, (pss_cons (ps_setC (i := 1) (nl := 1) (fr := []) (Nc := ["row"]) (cl := []) scWeight.nd rfl rfl rfl ⟨rfl, rfl, by decide +kernel, by decide +kernel, fun x c h => (by cases h), has_of rfl, rfl, fun i n h => (by simp at h)⟩
        (pi_list (pv 0)) (fun C s3 H3 fp pins => (pg_name (i := 0) nd_row rfl (Or.inl rfl))) (fun C s3 H3 fp pins => pif_nil)
        (fun C s3 H3 fp pins => (pe_call G1 r2 rfl m1 k1 b1 .nil pass0 (pa_cons (pv 0) pa_nil))) rfl)
    (pss_cons (ps_set (i := 2) scWeight.nd rfl (Or.inl rfl) (pe_call G2 hr rfl m2 k2 b2 .nil pass0 (pa_cons (pe_comp (nl := 1) (fr := []) (Nc := ["row"]) (cl := []) rfl ⟨rfl, rfl, by decide +kernel, by decide +kernel, fun x c h => (by cases h), has_of rfl, rfl, fun i n h => (by simp at h)⟩
        (pi_list (pv 1)) (fun C s3 H3 fp pins => (pg_name (i := 0) nd_row rfl (Or.inl rfl))) (fun C s3 H3 fp pins => pif_nil)
        (fun C s3 H3 fp pins => (pe_ix (ix_tupK (K := K) rfl) (pv 0) pe_int (fun _ _ => rfl)))) (pa_cons (pe_callB call_len_seq rfl ml PySem.boot_len (pa_cons (pv 0) pa_nil)) pa_nil))))
    (pss_cons (ps_if (pt_cmpR op_lt (pe_dget hu (pv 2) pe_str (fun _ _ => rfl)) (pe_callB call_len_seq rfl ml PySem.boot_len (pa_cons (pv 0) pa_nil)) (nomark _)) (pss_one (ps_ret (pe_glob (v := .ref aN) rfl mNO rfl))) pss_nil)
    (pss_cons (ps_set (i := 3) scWeight.nd rfl (Or.inl rfl) pe_int)
    (pss_cons (ps_for PassesOwn.never rfl (pi_list (pv 1)) (pg_name (i := 4) scWeight.nd rfl (Or.inl rfl))
      (pss_one (ps_set (i := 3) scWeight.nd rfl (Or.inl rfl) (pe_op op_mulB (pv 3) (pe_ix ix_tup (pv 4) pe_int (fun _ _ => rfl))))))
    (pss_one (ps_ret (pe_call G3 r2 rfl m3 k3 b3 .nil pass0 (pa_cons (pe_op op_mulB (pe_dget hu (pv 2) pe_str (fun _ _ => rfl)) (pe_dget hu (pv 2) pe_str (fun _ _ => rfl))) (pa_cons (pv 3) pa_nil)))))))))), ?_⟩
  have lu := hX.length
  have hw : ∀ row ∈ X, row.length = X.length := fun row h => (xB row h).2
  have lB : ∀ row ∈ X, Mq.B 360 (Mq.lcmB row) := fun row h => (lcm_bd (xP row h) (xB row h).1).mono (by rw [hw row h]; omega)
  -- rows
  refine ⟨_, rfl, g, rfl, ⟨_, hU⟩, fun D1 hD1 => ?_⟩
  have sD1 := same_new hD1 (.lst [])
  refine comp_list (xs := us) (fun i zs H' => Same H H' ∧ H' D1 = some (.lst zs) ∧ Wmx K D1 H' zs ((X.take i).map wh)) ⟨sD1, upd_same, .nil⟩ (fun i zs H' h => h.2.1) (fun i zs H' _ h => h.1.seq hU) ?_ ?_
  · rintro i zs x H1 hx ⟨s1, e1, W1⟩ C hC
    obtain ⟨u, ys, row, rfl, er, hu', fu⟩ := hX.get hx
    have hi : i < X.length := (List.getElem?_eq_some_iff.mp er).1
    have mem := List.mem_of_getElem? er
    obtain ⟨rb, rl⟩ := xB row mem
    have lz := W1.length
    rw [List.length_map, List.length_take] at lz
    refine ⟨keep1.1, keep1.2, iteT ?_⟩
    refine ⟨_, rfl, u, ys, row, 80, rfl, s1.seq hu', fu.same s1, xP row mem, rb, by omega, by rw [rl]; omega, fun t l H2 s2 nl ht hl => ?_⟩
    have e2 := s2 _ _ e1
    have ne : l ≠ D1 := fun z => by rw [z, e1] at nl; cases nl
    refine ⟨e2, small1000 (by omega), hC _ _ ⟨(s1.trans s2).change hD1, upd_same, ?_⟩⟩
    have ee : (X.take (i + 1)).map wh = (X.take i).map wh ++ [wh row] := by rw [List.take_add_one, er, List.map_append]; rfl
    rw [ee]
    exact ((W1.same s2).app (.cons ne ht hl .nil)).upd e2
  rintro zs1 H1 ⟨s1, e1, W1⟩
  rw [lu, List.take_length] at W1
  have lz1 := W1.length
  rw [List.length_map] at lz1
  -- the rows' numbers
  refine ⟨_, rfl, D1, rfl, ⟨_, SqL.of e1⟩, fun D2 hD2 => ?_⟩
  have sD2 := same_new hD2 (.lst [])
  refine comp_list (xs := zs1) (fun i zs H' => Same H1 H' ∧ H' D2 = some (.lst zs) ∧ Imx D2 H' zs ((X.map Mq.iw).take i)) ⟨sD2, upd_same, .nil⟩ (fun i zs H' h => h.2.1) (fun i zs H' _ h => h.1.seq (SqL.of e1)) ?_ ?_
  · rintro i zs x H2 hx ⟨s2, e2, J2⟩ C hC
    obtain ⟨t, l, r, rfl, er, ht, hl⟩ := W1.get hx
    obtain ⟨row, erow, rfl⟩ : ∃ row, X[i]? = some row ∧ r = wh row := by
      rw [List.getElem?_map] at er
      cases e : X[i]? with
      | none => rw [e] at er; cases er
      | some row => rw [e] at er; cases er; exact ⟨row, rfl, rfl⟩
    have lz := J2.length
    rw [List.length_take, List.length_map] at lz
    have ne : l ≠ D2 := fun z => by rw [z, hD2] at hl; cases hl
    refine ⟨keep1.1, keep1.2, iteT ?_⟩
    refine ⟨_, rfl, t, _, _, _, rfl, rfl, s2.seqT ht, rfl, ?_⟩
    refine ⟨e2, small1000 (by omega), hC _ _ ⟨s2.change hD2, upd_same, ?_⟩⟩
    have ee : (X.map Mq.iw).take (i + 1) = (X.map Mq.iw).take i ++ [Mq.iw row] := by rw [List.take_add_one, List.getElem?_map, erow]; rfl
    rw [ee]
    exact (J2.app (.cons ne (s2 _ _ hl) .nil)).upd
  rintro zs2 H2 ⟨s2, e2, J2⟩
  rw [lz1, show X.length = (X.map Mq.iw).length by simp, List.take_length] at J2
  have sA := s1.trans s2
  have wid : ∀ i, i < X.length → ((X.map Mq.iw).getD i []).length = X.length := fun i hi => by
    have e : X[i]? = some (X.getD i []) := by rw [List.getD_eq_getElem?_getD, List.getElem?_eq_getElem hi]; rfl
    rw [map_iw hi, iw_len, hw _ (List.mem_of_getElem? e)]
  have bd0 : Mq.BdR 420 (X.map Mq.iw) := fun i x => by
    unfold Mq.ent
    by_cases hi : i < X.length
    · have e : X[i]? = some (X.getD i []) := by rw [List.getD_eq_getElem?_getD, List.getElem?_eq_getElem hi]; rfl
      have mem := List.mem_of_getElem? e
      rw [map_iw hi]
      exact (iw_bd (xP _ mem) (xB _ mem).1 x).mono (by rw [hw _ mem]; omega)
    · rw [List.getD_eq_getElem?_getD (l := X.map Mq.iw), List.getElem?_eq_none (by simp; omega)]
      exact Nat.two_pow_pos _
  have bits4 : bq 420 X.length ≤ 9000 := Nat.le_trans (bq_mono 420 x4) (by decide)
  refine ⟨_, rfl, g, us, rfl, .inl (sA.seq hU), D2, D2, zs2, X.map Mq.iw, X.length, X.length, 420, fun _ => True, by rw [lu]; rfl, SqL.of e2, J2, by simp, wid, Nat.le_refl _, by omega, bd0, by omega, bits4, by omega, trivial, ⟨fun _ _ _ _ _ _ _ _ _ _ => trivial, fun _ _ _ _ _ _ _ _ _ _ => trivial⟩, fun d lE zE R' rank pivot sign H3 s3 nd nl ed el IE SE bE bp _ => ?_⟩
  obtain ⟨g1', g2', g3', g4'⟩ := elim_get ed
  have sB := sA.trans s3
  obtain ⟨A1, c1, B1, _⟩ := SE.bar
  have rm := B1.rm
  clear B1
  refine ⟨_, rfl, d, _, rfl, g2', _, rfl, g, us, rfl, .inl (sB.seq hU), _, _, rfl, rfl, _, rfl, ite2 (fun e => ?_) (fun e => ?_)⟩
  · have e' : rank < X.length := by simp at e; omega
    refine q aN (0, 1) H3 sB (fN H3) ⟨by decide, by decide⟩ ⟨Nat.two_pow_pos _, show (1 : Nat) < 2 ^ 9001 from Nat.one_lt_two_pow (by omega)⟩ ?_
    rw [wgt_lame xP hw SE e']
    unfold Mq.val; simp; grind
  have e' : rank = X.length := by simp at e; omega
  subst e'
  refine ⟨_, rfl, D1, rfl, ⟨_, SqL.of ((s2.trans s3) _ _ e1)⟩, ?_⟩
  have W3 := W1.same (s2.trans s3)
  refine for_list (xs := zs1) (fun i σ H' => H' = H3 ∧ i ≤ X.length ∧ Mq.B (1 + 360 * i) (botP (X.take i)) ∧ ∃ z, σ = [some (.ref g), some (.ref D1), some (.ref d), some (.int (botP (X.take i))), z]) ⟨rfl, Nat.zero_le _, show (1 : Nat) < 2 ^ (1 + 360 * 0) by simp, none, rfl⟩ (fun i σ H' _ h => by rw [h.1]; exact SqL.of ((s2.trans s3) _ _ e1)) ?_ ?_
  · rintro i x σ H' hx ⟨rfl, hi, hb, z, rfl⟩
    obtain ⟨t, l, r, rfl, er, ht, hl⟩ := W3.get hx
    obtain ⟨row, erow, rfl⟩ : ∃ row, X[i]? = some row ∧ r = wh row := by
      rw [List.getElem?_map] at er
      cases e : X[i]? with
      | none => rw [e] at er; cases er
      | some row => rw [e] at er; cases er; exact ⟨row, rfl, rfl⟩
    have hi' : i < X.length := (List.getElem?_eq_some_iff.mp erow).1
    have mem := List.mem_of_getElem? erow
    refine ⟨_, rfl, _, rfl, t, _, _, _, rfl, rfl, ht, rfl, rd_mulB hb (lB row mem) (by omega) (by omega) ?_⟩
    refine ⟨rfl, hi', ?_, some (.ref t), ?_⟩
    · rw [botP_take erow]; exact (hb.mul (lB row mem)).mono (by omega)
    · rw [botP_take erow]; rfl
  rintro σ H' ⟨rfl, _, hb, z, rfl⟩
  rw [lz1, List.take_length] at hb
  rw [lz1, List.take_length]
  have b1 := botP_ge xP X.length (Nat.le_refl _)
  rw [List.take_length] at b1
  have sgB : Mq.B 1 sign := by rcases SE.one with z | z <;> rw [z] <;> exact show (1 : Nat) < 2 ^ 1 by decide
  refine ⟨_, rfl, d, _, rfl, g4', _, rfl, d, _, rfl, g3', rd_mulB sgB bp (by omega) (by omega) ⟨_, rfl, _, _, 1 + 360 * X.length, rfl, by omega, hb, by omega, fun a4 H4 s4 e4 => ?_⟩⟩
  have le := Mq.red_le (t := sign * pivot) (show botP X ≠ 0 by omega)
  exact q a4 _ H4 (sB.trans s4) (Fq.of e4) (Mq.red_low (by omega)) ⟨((sgB.mul bp).le le.1).mono (by omega), (hb.le le.2).mono (by omega)⟩ (wgt_full xP hw SE)
end
end K25

set_option Elab.async false
set_option linter.all false
set_option maxRecDepth 100000
set_option maxHeartbeats 4000000
namespace K25
open PySem L2 Shp
section
variable {P : Program} {w : World} {K : PySem.W.Frag} {mg : Str → Option Value} {base : Heap} {f g1 g2 g3 g4 g5 g6 g7 g8 g9 g10 g11 : Addr} {fd gd1 gd2 gd3 gd4 gd5 gd6 gd7 gd8 gd9 gd10 gd11 : FuncData} {CX : CXT}
def spNth (K : PySem.W.Frag) : Sp := fun vs H Q _ => ∃ (a : Addr) (ns : List Int) (j : Int) (k : Nat), vs = [.ref a, .int j] ∧ j = (k : Int) ∧ SqL K H a (ns.map V.int) ∧ ns.length ≤ 63 ∧ k ≤ 63 ∧ ∀ i H', Same H H' → Q (.int i) H'
abbrev sNth : Stmt := top 33
theorem scNth : FnScope ["_law_script", "_law_k", "_law_cell"] ["_law_script", "_law_k"] (defScope sNth) := ⟨rfl, rfl, rfl, by decide +kernel, rfl, by decide +kernel, by decide +kernel⟩
theorem ok_nth {dV : Value} (F : FunD K "_law_nth" "_law_nth" sNth dV f fd) :
    FnOk P w K mg base CX 1 f fd ["_law_script", "_law_k"] (spNth K) := by
  refine F.ok scNth (fun vs H Q E h => ?_) (fun cdv A outer s H vs Q E hr h => ?_)
  · obtain ⟨a, ns, j, k, rfl, hj, hS, h63, hk, q⟩ := h
    rfl
  obtain ⟨a, ns, j, k, rfl, hj, hS, h63, hk, q⟩ := h
  refine ⟨_, (pss_cons (ps_for PassesOwn.never rfl (pi_list (pe_slice sl_list (pv 0) (po_some (pv 1)) (po_some (pe_op op_add (pv 1) pe_int)))) (pg_name (i := 2) scNth.nd rfl (Or.inl rfl))
      (pss_one (ps_ret (pv 2))))
    (pss_one (ps_ret (pe_op op_mod (pe_op op_mulB (pe_op op_mul pe_int (pv 1)) (pv 1)) pe_int)))), ?_⟩
  refine ⟨_, rfl, _, rfl, j, rfl, _, rfl, _, _, rfl, rfl, j + 1, rfl, a, _, rfl, hS, fun l hl => ?_⟩
  have s1 := same_new hl (.lst (cutV (ns.map V.int) (some j) (some (j + 1))))
  have e1 : upd H l (.lst (cutV (ns.map V.int) (some j) (some (j + 1)))) l = some (.lst (cutV (ns.map V.int) (some j) (some (j + 1)))) := upd_same
  obtain ⟨ms, em, lm⟩ := cut_ints ns (some j) (some (j + 1))
  rw [em] at e1 s1 ⊢
  generalize upd H l (.lst (ms.map V.int)) = H1 at e1 s1 ⊢
  refine ⟨l, rfl, ⟨_, SqL.of e1⟩, ?_⟩
  refine for_list (xs := ms.map V.int) (fun i σ H' => H' = H1 ∧ ∃ z, σ = [some (.ref a), some (.int j), z]) ⟨rfl, none, rfl⟩ (fun i σ H' _ h => by rw [h.1]; exact SqL.of e1) ?_ ?_
  · rintro i x σ H' hx ⟨rfl, z, rfl⟩
    obtain ⟨c, rfl⟩ : ∃ c, x = .int c := by
      rw [List.getElem?_map] at hx
      cases hm : ms[i]? with
      | none => rw [hm] at hx; cases hx
      | some c => rw [hm] at hx; cases hx; exact ⟨c, rfl⟩
    exact ⟨_, rfl, q c _ s1⟩
  · rintro σ H' ⟨rfl, z, rfl⟩
    refine ⟨_, rfl, _, _, rfl, rfl, Or.inl ⟨by decide, by decide⟩, _, rfl, rd_mulB (n := 40) (m := 40) (B_of (by omega) (by omega)) (B_of (by omega) (by omega)) (by omega) (by omega) ⟨_, _, rfl, rfl, (show (0 : Int) < 1009 by decide), q _ _ s1⟩⟩
abbrev sDiv : Stmt := top 34
theorem scDiv : FnScope ["_law_one", "_law_other"] ["_law_one", "_law_other"] (defScope sDiv) := ⟨rfl, rfl, rfl, by decide +kernel, rfl, by decide +kernel, by decide +kernel⟩
theorem ok_div {dV : Value} (F : FunD K "_law_divisor" "_law_divisor" sDiv dV f fd)
    (b : Bl mg) :
    FnOk P w K mg base CX 1 f fd ["_law_one", "_law_other"] spGc := by
  refine F.ok scDiv (fun vs H Q E h => ?_) (fun cdv A outer s H vs Q E hr h => ?_)
  · obtain ⟨x, y, rfl, q⟩ := h
    rfl
  obtain ⟨x, y, rfl, q⟩ := h
  refine ⟨_, (pss_cons (ps_while PassesOwn.never (pt_cmpR op_ne (pv 1) pe_int (nomark _)) (pss_one (ps_par (i := 0) (j := 1) rfl scDiv.nd rfl rfl (by decide) rfl rfl (pa_cons (pv 1) (pa_cons (pe_op op_modN (pv 0) (pv 1)) pa_nil)) rfl)))
    (pss_one (ps_ret (pe_callB call_abs rfl b.abs PyProof.Rows.boot_abs (pa_cons (pv 0) pa_nil))))), ?_⟩
  refine while_by (fun σ H' => H' = H ∧ ∃ u v, σ = [some (.int u), some (.int v)] ∧ Mq.gc u v = Mq.gc x y) (fun σ _ => match σ with | [_, some (.int v)] => v.natAbs | _ => 0) ⟨rfl, x, y, rfl, rfl⟩ ?_ ?_
  · rintro σ H' ⟨rfl, u, v, rfl, e⟩
    refine ⟨_, rfl, rfl, _, rfl, ?_⟩
    refine ite2 (fun c => ?_) (fun c => ?_)
    · have hv : v ≠ 0 := by intro q; subst q; simp at c
      refine ⟨_, rfl, _, rfl, _, rfl, _, _, rfl, rfl, hv, _, _, rfl, ⟨rfl, v, Int.fmod u v, rfl, (Mq.gc_step u v).trans e⟩, Mq.fmod_less hv⟩
    · have hv : v = 0 := by
        simp at c
        exact c
      subst hv
      refine ⟨_, rfl, _, rfl, ?_⟩
      rw [← Mq.gc_zero, e]
      exact q
  · rintro σ H Q Q' m ⟨v, h1, h2, k, h3, h4⟩
    exact ⟨v, h1, h2, k, h3, m _ _ h4⟩
abbrev sLowest : Stmt := top 35
theorem scLowest : FnScope ["_law_top", "_law_bottom", "_law_part"] ["_law_top", "_law_bottom"] (defScope sLowest) := ⟨rfl, rfl, rfl, by decide +kernel, rfl, by decide +kernel, by decide +kernel⟩
theorem ok_lowest {dV : Value} (F : FunD K "_law_lowest" "_law_lowest" sLowest dV f fd)
    (G1 : FnOk P w K mg base CX0 1 g1 gd1 ["_law_one", "_law_other"] spGc) (b1 : Binds K gd1 ["_law_one", "_law_other"] []) (k1 : PySem.W.keepIn K (.ref g1) = true) (m1 : mg "_law_divisor" = some (.ref g1)) :
    FnOk P w K mg base CX 2 f fd ["_law_top", "_law_bottom"] spLowP := by
  refine F.ok scLowest (fun vs H Q E h => ?_) (fun cdv A outer s H vs Q E hr h => ?_)
  · obtain ⟨t, b', n, rfl, hb, hB, hn, q⟩ := h
    rfl
  obtain ⟨t, b', n, rfl, hb, hB, hn, q⟩ := h
  refine ⟨_, (pss_cons (ps_set (i := 2) scLowest.nd rfl (Or.inl rfl) (pe_call G1 hr rfl m1 k1 b1 .nil pass0 (pa_cons (pv 0) (pa_cons (pv 1) pa_nil))))
    (pss_one (ps_ret (pe_tup (pa_cons (pe_op op_fdivB (pv 0) (pv 2)) (pa_cons (pe_op op_fdivB (pv 1) (pv 2)) pa_nil)))))), ?_⟩
  have hd := Mq.dvr_ne (t := t) (show b' ≠ 0 by omega)
  have hdB : Mq.B n (Mq.dvr t b') := hB.le (Mq.dvr_le (by omega))
  have e := dvr_pos (t := t) hb
  rw [e] at hd hdB
  have q' : NewF H Q (t.fdiv (Mq.gc t b'), b'.fdiv (Mq.gc t b')) := by
    have z := q
    unfold Mq.red at z
    rw [e] at z
    exact z
  refine ⟨_, rfl, _, rfl, t, b', rfl, ?_⟩
  refine ⟨_, rfl, _, rfl, rd_fdivB hd hdB hn ⟨_, rfl, _, rfl, rd_fdivB hd hdB hn ⟨by show 2 ≤ sizeLine; decide, fun p hp => ?_⟩⟩⟩
  exact q' p _ (same_new hp _) upd_same
def spIs (K : PySem.W.Frag) : Sp := fun vs H Q _ => ∃ (a : Addr) (p : Mq.Q2), vs = [.ref a] ∧ Fq K H a p ∧ Mq.Low p ∧ Q (.bl true) H
abbrev sIs : Stmt := top 36
theorem scIs : FnScope ["_law_found", "_law_number"] ["_law_found"] (defScope sIs) := ⟨rfl, rfl, rfl, by decide +kernel, rfl, by decide +kernel, by decide +kernel⟩
theorem ok_is {dV : Value} (F : FunD K "_law_is" "_law_is" sIs dV f fd)
    (b : Bl mg) (ml : mg "len" = none) (mt : mg "tuple" = none)
    (G1 : FnOk P w K mg base CX0 1 g1 gd1 ["_law_one", "_law_other"] spGc) (b1 : Binds K gd1 ["_law_one", "_law_other"] []) (k1 : PySem.W.keepIn K (.ref g1) = true) (m1 : mg "_law_divisor" = some (.ref g1)) :
    FnOk P w K mg base CX 2 f fd ["_law_found"] (spIs K) := by
  refine F.ok scIs (fun vs H Q E h => ?_) (fun cdv A outer s H vs Q E hr h => ?_)
  · obtain ⟨a, p, rfl, fa, hp, q⟩ := h
    rfl
  obtain ⟨a, p, rfl, fa, hp, q⟩ := h
  refine ⟨_, (pss_cons (ps_if (PW.pt (pw_or (pt_not (pt_val (pe_isiQ (i := 0) rfl (Or.inl rfl) b.isi mt rfl rfl PyProof.Rows.boot_tuple))) (pw_or1 (pt_cmpR op_ne (pe_callB call_len_seq rfl ml PySem.boot_len (pa_cons (pv 0) pa_nil)) pe_int (nomark _))))) (pss_one (ps_ret pe_bl)) pss_nil)
    (pss_cons (ps_for PassesOwn.never rfl (pi_tup (pv 0)) (pg_name (i := 1) scIs.nd rfl (Or.inl rfl))
      (pss_one (ps_if (PW.pt (pw_or (pt_not (pt_val (pe_isiQ (i := 1) rfl (Or.inl rfl) b.isi b.int rfl rfl PyProof.Rows.boot_int))) (pw_or1 (pt_val (pe_isiQ (i := 1) rfl (Or.inl rfl) b.isi b.bool rfl rfl PyProof.Rows.boot_bool))))) (pss_one (ps_ret pe_bl)) pss_nil)))
    (pss_one (ps_ret (pe_and (pe_cmpR op_gt (pe_ix ix_tup (pv 0) pe_int (fun _ _ => rfl)) pe_int (nomark _)) (pe_one (pe_cmpR op_eq (pe_call G1 hr rfl m1 k1 b1 .nil pass0 (pa_cons (pe_ix ix_tup (pv 0) pe_int (fun _ _ => rfl)) (pa_cons (pe_ix ix_tup (pv 0) pe_int (fun _ _ => rfl)) pa_nil))) pe_int (nomark _)))))))), ?_⟩
  refine ⟨_, _, true, rfl, .tup fa, rfl, _, rfl, iteF ⟨_, rfl, a, _, rfl, .inr fa, rfl, _, rfl, iteF ?_⟩⟩
  refine ⟨_, rfl, a, rfl, ⟨_, fa⟩, ?_⟩
  refine for_tup (xs := [.int p.1, .int p.2]) (fun i σ H' => H' = H ∧ ∃ z, σ = [some (.ref a), z]) ⟨rfl, none, rfl⟩ (fun i σ H' _ h => by rw [h.1]; exact fa) ?_ ?_
  · rintro i x σ H' hx ⟨rfl, z, rfl⟩
    have hint : ∃ j, x = .int j := by
      match i, hx with
      | 0, h => exact ⟨p.1, by simpa using h.symm⟩
      | 1, h => exact ⟨p.2, by simpa using h.symm⟩
      | n + 2, h => simp at h
    obtain ⟨j, rfl⟩ := hint
    exact ⟨_, _, true, rfl, .of (.int j), rfl, _, rfl, iteF ⟨_, _, false, rfl, .of (.int j), (by with_unfolding_all rfl), _, rfl, iteF ⟨rfl, _, rfl⟩⟩⟩
  · rintro σ H' ⟨rfl, z, rfl⟩
    have h1 := hp.pos
    refine rd_ix1 rfl fa ⟨_, _, rfl, rfl, _, rfl, ifT (decide_eq_true (show p.2 > 0 by omega)) (rd_ix0 rfl fa (rd_ix1 rfl fa ⟨_, _, rfl, rfl, ?_⟩))⟩
    rw [hp.one]
    exact q
def spLList (K : PySem.W.Frag) : Sp := fun vs H Q _ => ∃ (a : Addr) (xs : List V) (ps : List Mq.Q2), vs = [.ref a, .int (ps.length : Int)] ∧ SqL K H a xs ∧ Fqs K H xs ps ∧ Mq.AllLow ps ∧ ps.length ≤ 100 ∧ ∀ H', Same H H' → Q (.bl true) H'
theorem nd_one : (["_law_one"] : List Str).Nodup := by decide +kernel
abbrev sLList : Stmt := top 37
theorem scLList : FnScope ["_law_found", "_law_many"] ["_law_found", "_law_many"] (defScope sLList) := ⟨rfl, rfl, rfl, by decide +kernel, rfl, by decide +kernel, by decide +kernel⟩
theorem ok_llist {dV : Value} (F : FunD K "_law_list" "_law_list" sLList dV f fd)
    (b : Bl mg) (ml : mg "len" = none) (mli : mg "list" = none) (ma : mg "all" = none)
    (G1 : FnOk P w K mg base CX0 2 g1 gd1 ["_law_found"] (spIs K)) (b1 : Binds K gd1 ["_law_found"] []) (k1 : PySem.W.keepIn K (.ref g1) = true) (m1 : mg "_law_is" = some (.ref g1)) :
    FnOk P w K mg base CX 3 f fd ["_law_found", "_law_many"] (spLList K) := by
  refine F.ok scLList (fun vs H Q E h => ?_) (fun cdv A outer s H vs Q E hr h => ?_)
  · obtain ⟨a, xs, ps, rfl, hS, hF, hP, h100, q⟩ := h
    rfl
  obtain ⟨a, xs, ps, rfl, hS, hF, hP, h100, q⟩ := h
  refine ⟨_, (pss_cons (ps_if (PW.pt (pw_or (pt_not (pt_val (pe_isiQ (i := 0) rfl (Or.inl rfl) b.isi mli rfl rfl PyProof.Rows.boot_list))) (pw_or1 (pt_cmpR op_ne (pe_callB call_len_seq rfl ml PySem.boot_len (pa_cons (pv 0) pa_nil)) (pv 1) (nomark _))))) (pss_one (ps_ret pe_bl)) pss_nil)
    (pss_one (ps_ret (pe_callB (call_all rfl) rfl ma PyProof.Rows.boot_all (pa_cons (pe_comp (nl := 1) (fr := []) (Nc := ["_law_one"]) (cl := []) rfl ⟨rfl, rfl, by decide +kernel, by decide +kernel, fun x c h => (by cases h), has_of rfl, rfl, fun i n h => (by simp at h)⟩
        (pi_list (pv 0)) (fun C s3 H3 fp pins => (pg_name (i := 0) nd_one rfl (Or.inl rfl))) (fun C s3 H3 fp pins => pif_nil)
        (fun C s3 H3 fp pins => (pe_call G1 hr rfl m1 k1 b1 .nil pass0 (pa_cons (pv 0) pa_nil)))) pa_nil))))), ?_⟩
  have lx := hF.length
  refine ⟨_, _, true, rfl, .lst hS, rfl, _, rfl, iteF ⟨_, rfl, a, _, rfl, .inl hS, _, rfl, rfl, _, rfl, ?_⟩⟩
  rw [lx]
  refine iteNS rfl ?_
  refine ⟨_, rfl, a, rfl, ⟨_, hS⟩, fun D hD => ?_⟩
  have sD := same_new hD (.lst [])
  refine comp_list (xs := xs) (fun i zs H' => Same H H' ∧ H' D = some (.lst zs) ∧ zs = (List.replicate i true).map V.bl) ⟨sD, upd_same, rfl⟩ (fun i zs H' h => h.2.1) (fun i zs H' _ h => h.1.seq hS) ?_ ?_
  · rintro i zs x H1 hx ⟨s1, e1, rfl⟩ C hC
    obtain ⟨u, p, rfl, ep, fu⟩ := hF.get hx
    have hi : i < ps.length := (List.getElem?_eq_some_iff.mp ep).1
    refine ⟨keep1.1, keep1.2, iteT ?_⟩
    refine ⟨_, rfl, u, p, rfl, s1.fq fu, hP p (List.mem_of_getElem? ep), ?_⟩
    refine ⟨e1, small1000 (by rw [List.length_map, List.length_replicate]; omega), hC _ _ ⟨s1.change hD, upd_same, ?_⟩⟩
    rw [List.replicate_succ', List.map_append]; rfl
  · rintro zs H1 ⟨s1, e1, rfl⟩
    refine ⟨D, _, rfl, SqL.of e1, ?_⟩
    rw [show (List.replicate xs.length true).all id = true by simp]
    exact q _ s1
abbrev sMeets : Stmt := top 38
theorem scMeets : FnScope ["_law_some", "_law_others", "_law_due", "_law_top", "_law_bottom", "_law_one", "_law_other"] ["_law_some", "_law_others", "_law_due"] (defScope sMeets) := ⟨rfl, rfl, rfl, by decide +kernel, rfl, by decide +kernel, by decide +kernel⟩
theorem ok_meets {dV : Value} (F : FunD K "_law_meets" "_law_meets" sMeets dV f fd)
    (mz : mg "zip" = none) :
    FnOk P w K mg base CX 1 f fd ["_law_some", "_law_others", "_law_due"] (spMeetsG K) := by
  refine F.ok scMeets (fun vs H Q E h => ?_) (fun cdv A outer s H vs Q E hr h => ?_)
  · obtain ⟨a, o, d, xs, ys, ms, ps, q, n, n', rfl, hX, fX, hO, fO, fd', hb, hb2, hq, hl, hn, hn', hpl, hE, z⟩ := h
    rfl
  obtain ⟨a, o, d, xs, ys, ms, ps, q, n, n', rfl, hX, fX, hO, fO, fd', hb, hb2, hq, hl, hn, hn', hpl, hE, z⟩ := h
  refine ⟨_, (pss_cons (ps_set (i := 3) scMeets.nd rfl (Or.inl rfl) pe_int)
    (pss_cons (ps_set (i := 4) scMeets.nd rfl (Or.inl rfl) pe_int)
    (pss_cons (ps_for PassesOwn.never rfl (pi_zip rfl mz rfl (pa_cons (pv 0) (pa_cons (pv 1) pa_nil))) (pg_tup rfl (pgs_cons (pg_name (i := 5) scMeets.nd rfl (Or.inl rfl)) (pgs_cons (pg_name (i := 6) scMeets.nd rfl (Or.inl rfl)) pgs_nil)))
      (pss_cons (ps_set (i := 3) scMeets.nd rfl (Or.inl rfl) (pe_op op_add (pe_op op_mulB (pe_op op_mulB (pv 3) (pe_ix ix_tup (pv 5) pe_int (fun _ _ => rfl))) (pe_ix ix_tup (pv 6) pe_int (fun _ _ => rfl))) (pe_op op_mulB (pe_op op_mulB (pe_ix ix_tup (pv 5) pe_int (fun _ _ => rfl)) (pe_ix ix_tup (pv 6) pe_int (fun _ _ => rfl))) (pv 4))))
    (pss_one (ps_set (i := 4) scMeets.nd rfl (Or.inl rfl) (pe_op op_mulB (pe_op op_mulB (pv 4) (pe_ix ix_tup (pv 5) pe_int (fun _ _ => rfl))) (pe_ix ix_tup (pv 6) pe_int (fun _ _ => rfl)))))))
    (pss_one (ps_ret (pe_cmpR op_eq (pe_op op_mulB (pv 3) (pe_ix ix_tup (pv 2) pe_int (fun _ _ => rfl))) (pe_op op_mulB (pe_ix ix_tup (pv 2) pe_int (fun _ _ => rfl)) (pv 4)) (nomark _))))))), ?_⟩
  have lx := fX.length
  have ly := fO.length
  have lL : (List.zipWith Mq.pp ms ps).length = ms.length := by simp [hpl]
  refine ⟨_, rfl, _, rfl, a, o, rfl, ⟨_, hX⟩, ⟨_, hO⟩, ?_⟩
  refine for_zip (xs := xs) (ys := ys) (fun i σ H' => Same H H' ∧ i ≤ 10 ∧ ∃ z5 z6, σ = [some (.ref a), some (.ref o), some (.ref d), some (.int (Mq.N ((List.zipWith Mq.pp ms ps).take i))), some (.int (Mq.D ((List.zipWith Mq.pp ms ps).take i))), z5, z6] ∧ Mq.B (1 + (n + n' + 10) * i) (Mq.N ((List.zipWith Mq.pp ms ps).take i)) ∧ Mq.B (1 + (n + n' + 10) * i) (Mq.D ((List.zipWith Mq.pp ms ps).take i))) ⟨Same.refl _, by omega, none, none, rfl, show (0 : Nat) < 2 ^ (1 + (n + n' + 10) * 0) from Nat.two_pow_pos _, show (1 : Nat) < 2 ^ (1 + (n + n' + 10) * 0) by simp⟩ (fun i σ H' _ h => ⟨h.1.seq hX, h.1.seq hO⟩) ?_ ?_
  · rintro i x y σ H1 T1 ex ey ⟨s1, i10, z5, z6, rfl, bN, bD⟩ hT
    obtain ⟨u, p, rfl, ep, fu⟩ := fX.get ex
    obtain ⟨v, r, rfl, er, fv⟩ := fO.get ey
    have hi : i < ms.length := (List.getElem?_eq_some_iff.mp ep).1
    have pb := hb p (List.mem_of_getElem? ep)
    have ob := hb2 r (List.mem_of_getElem? er)
    have sT := same_new hT (.tup [.ref u, .ref v])
    refine ⟨T1, _, rfl, SqT.of upd_same, rfl, _, _, rfl, _, _, rfl, rfl, ?_⟩
    have sx := s1.trans sT
    have fu' := sx.fq fu
    have fv' := sx.fq fv
    generalize upd H1 T1 (.tup [.ref u, .ref v]) = H2 at sx fu' fv' ⊢
    obtain ⟨eN, eD⟩ := Mq.nd_take (ps := List.zipWith Mq.pp ms ps) (i := i) (p := Mq.pp p r) (by rw [List.getElem?_zipWith, ep, er])
    have kb : (n + n' + 10) * i ≤ (n + n' + 10) * 10 := Nat.mul_le_mul_left _ (by omega)
    have b1 := bN.mul pb.b
    have b2 := b1.mul ob.b
    have b3 := pb.a.mul ob.a
    have b4 := b3.mul bD
    have b5 := bD.mul pb.b
    have b6 := b5.mul ob.b
    refine ⟨_, rfl, rd_ix1 rfl fu' (rd_mulB bN pb.b (by omega) (by omega) (rd_ix1 rfl fv' (rd_mulB b1 ob.b (by omega) (by omega) (rd_ix0 rfl fu' (rd_ix0 rfl fv' (rd_mulB pb.a ob.a (by omega) (by omega) ⟨_, rfl, rd_mulB b3 bD (by omega) (by omega) ⟨_, _, rfl, rfl, ?_⟩⟩))))))⟩
    refine ⟨_, rfl, rd_ix1 rfl fu' (rd_mulB bD pb.b (by omega) (by omega) (rd_ix1 rfl fv' (rd_mulB b5 ob.b (by omega) (by omega) ?_)))⟩
    have x1 : Mq.N ((List.zipWith Mq.pp ms ps).take i) * p.2 * r.2 + p.1 * r.1 * Mq.D ((List.zipWith Mq.pp ms ps).take i) = Mq.N ((List.zipWith Mq.pp ms ps).take (i + 1)) := by rw [eN]; show _ = _ * (p.2 * r.2) + (p.1 * r.1) * _; rw [Int.mul_assoc]
    have x2 : Mq.D ((List.zipWith Mq.pp ms ps).take i) * p.2 * r.2 = Mq.D ((List.zipWith Mq.pp ms ps).take (i + 1)) := by rw [eD]; show _ = _ * (p.2 * r.2); rw [Int.mul_assoc]
    refine ⟨sx, by omega, some (.ref u), some (.ref v), by rw [← x1, ← x2]; rfl, ?_, ?_⟩
    · rw [← x1]
      exact (Mq.B.add (n := 1 + (n + n' + 10) * i + n + n') b2 (b4.mono (by omega))).mono (by rw [Nat.mul_succ]; omega)
    · rw [← x2]
      exact b6.mono (by rw [Nat.mul_succ]; omega)
  · rintro σ H1 ⟨s1, _, z5, z6, rfl, bN, bD⟩
    rw [show min xs.length ys.length = (List.zipWith Mq.pp ms ps).length by omega, List.take_length] at bN bD ⊢
    have fd1 := s1.fq fd'
    have kb : (n + n' + 10) * (List.zipWith Mq.pp ms ps).length ≤ (n + n' + 10) * 10 := Nat.mul_le_mul_left _ (by omega)
    refine ⟨_, rfl, rd_ix1 rfl fd1 (rd_mulB bN hq.b (by omega) (by omega) (rd_ix0 rfl fd1 ⟨_, rfl, rd_mulB hq.a bD (by omega) (by omega) ⟨rfl, ?_⟩⟩))⟩
    rw [hE, decide_eq_true rfl]
    exact z _ s1
theorem em_lo (x : Int) {m : Int} (h : 0 < m) : 0 ≤ x % m := Int.emod_nonneg x (by omega)
theorem em_hi (x : Int) {m : Int} (h : 0 < m) : x % m < m := Int.emod_lt_of_pos x h
def spDrawn : Sp := fun vs H Q _ => ∃ (c : Int), vs = [.int c, .bl false] ∧ ∀ p, Mq.Low p → Mq.Bd 4 p → NewF H Q p
theorem drawn_fin {H : Hp} {Q : VK} (q : ∀ p, Mq.Low p → Mq.Bd 4 p → NewF H Q p) {H' : Hp} (s : Same H H') {t b : Int} (h1 : -9 ≤ t) (h2 : t ≤ 9) (h3 : 1 ≤ b) (h4 : b ≤ 4) : spLowP [.int t, .int b] H' Q E0 := by
  have e : (2 : Int) ^ 4 = 16 := by decide
  have bT : Mq.B 4 t := B_of (by omega) (by omega)
  have bB : Mq.B 4 b := B_of (by omega) (by omega)
  have le := Mq.red_le (t := t) (show b ≠ 0 by omega)
  exact ⟨t, b, 4, rfl, by omega, bB, by omega, fun a H2 s2 e2 => q _ (Mq.red_low (by omega)) ⟨bT.le le.1, bB.le le.2⟩ a H2 (s.trans s2) e2⟩
theorem at6 {r : Int} (h0 : 0 ≤ r) (h5 : r < 6) : ∃ v : Int, atI [V.int 1, .int 1, .int 1, .int 2, .int 3, .int 4] r = some (.int v) ∧ 1 ≤ v ∧ v ≤ 4 := by
  have : r = 0 ∨ r = 1 ∨ r = 2 ∨ r = 3 ∨ r = 4 ∨ r = 5 := by omega
  rcases this with rfl | rfl | rfl | rfl | rfl | rfl
  all_goals exact ⟨_, rfl, by decide, by decide⟩
abbrev sDrawn : Stmt := top 39
theorem scDrawn : FnScope ["_law_cell", "_law_far", "_law_top"] ["_law_cell", "_law_far"] (defScope sDrawn) := ⟨rfl, rfl, rfl, by decide +kernel, rfl, by decide +kernel, by decide +kernel⟩
theorem ok_drawn {dV : Value} (F : FunD K "_law_drawn" "_law_drawn" sDrawn dV f fd)
    (G1 : FnOk P w K mg base CX0 2 g1 gd1 ["_law_top", "_law_bottom"] spLowP) (b1 : Binds K gd1 ["_law_top", "_law_bottom"] []) (k1 : PySem.W.keepIn K (.ref g1) = true) (m1 : mg "_law_lowest" = some (.ref g1)) :
    FnOk P w K mg base CX 3 f fd ["_law_cell", "_law_far"] spDrawn := by
  refine F.ok scDrawn (fun vs H Q E h => ?_) (fun cdv A outer s H vs Q E hr h => ?_)
  · obtain ⟨c, rfl, q⟩ := h
    rfl
  obtain ⟨c, rfl, q⟩ := h
  refine ⟨_, (pss_cons (ps_if (pt_cmpR op_eq (pe_op op_mod (pv 0) pe_int) pe_int (nomark _)) (pss_one (ps_ret (pe_tup (pa_cons pe_int (pa_cons pe_int pa_nil))))) pss_nil)
    (pss_cons (ps_if (pt_val (pv 1)) (pss_cons (ps_set (i := 2) scDrawn.nd rfl (Or.inl rfl) (pe_op op_sub (pe_op op_mod (pe_op op_mul (pv 0) pe_int) (pe_op op_add (pe_op op_mul pe_int (pe_op op_pow pe_int pe_int)) pe_int)) (pe_op op_pow pe_int pe_int)))
    (pss_one (ps_ret (pe_call G1 hr rfl m1 k1 b1 .nil pass0 (pa_cons (pv 2) (pa_cons (pe_op op_add pe_int (pe_op op_mod (pe_op op_mul (pe_op op_fdiv (pv 0) pe_int) pe_int) (pe_op op_pow pe_int pe_int))) pa_nil)))))) pss_nil)
    (pss_one (ps_ret (pe_call G1 hr rfl m1 k1 b1 .nil pass0 (pa_cons (pe_op op_sub (pe_op op_mod (pe_op op_mod (pe_op op_mul (pv 0) pe_int) pe_int) pe_int) pe_int) (pa_cons (pe_ix ix_list (pe_lst (pa_cons pe_int (pa_cons pe_int (pa_cons pe_int (pa_cons pe_int (pa_cons pe_int (pa_cons pe_int pa_nil))))))) (pe_op op_mod (pe_op op_mod (pe_op op_mul (pv 0) pe_int) pe_int) pe_int) (fun _ _ => rfl)) pa_nil))))))), ?_⟩
  refine ⟨_, rfl, _, _, rfl, rfl, (show (0 : Int) < 4 by decide), rfl, _, rfl, ite2 (fun _ => ?_) (fun _ => ?_)⟩
  · refine ⟨by show 2 ≤ sizeLine; decide, fun t ht => ?_⟩
    exact q (0, 1) Mq.low01 ⟨show (0 : Nat) < 2 ^ 4 by decide, show (1 : Nat) < 2 ^ 4 by decide⟩ t _ (same_new ht _) upd_same
  refine ⟨_, rfl, _, rfl, ?_⟩
  refine iteF ⟨_, rfl, _, _, rfl, rfl, Or.inr ⟨by decide, by decide⟩, _, _, rfl, rfl, (show (0 : Int) < 10007 by decide), _, _, rfl, rfl, (show (0 : Int) < 19 by decide), _, _, rfl, rfl, by show 6 ≤ sizeLine; decide, fun l hl => ?_⟩
  have s1 := same_new hl (.lst [.int 1, .int 1, .int 1, .int 2, .int 3, .int 4])
  have e1 : upd H l (.lst [.int 1, .int 1, .int 1, .int 2, .int 3, .int 4]) l = some (.lst [.int 1, .int 1, .int 1, .int 2, .int 3, .int 4]) := upd_same
  generalize upd H l (.lst [.int 1, .int 1, .int 1, .int 2, .int 3, .int 4]) = H1 at s1 e1 ⊢
  have a1 := em_lo (c * 48271 % 10007) (show (0 : Int) < 19 by decide)
  have a2 := em_hi (c * 48271 % 10007) (show (0 : Int) < 19 by decide)
  obtain ⟨v, ev, v1, v2⟩ := at6 (em_lo (c * 16807 % 31) (show (0 : Int) < 6 by decide)) (em_hi (c * 16807 % 31) (show (0 : Int) < 6 by decide))
  refine ⟨_, rfl, _, _, rfl, rfl, Or.inr ⟨by decide, by decide⟩, _, _, rfl, rfl, (show (0 : Int) < 31 by decide), _, _, rfl, rfl, (show (0 : Int) < 6 by decide), l, _, _, _, rfl, rfl, SqL.of e1, ev, ?_⟩
  exact drawn_fin q s1 (by omega) (by omega) (by omega) (by omega)
def spRow (K : PySem.W.Frag) : Sp := fun vs H Q _ => ∃ (a : Addr) (ns : List Int) (st w : Nat), vs = [.ref a, .int (st : Int), .int (w : Int), .bl false] ∧ SqL K H a (ns.map V.int) ∧ ns.length ≤ 63 ∧ st + w ≤ 63 ∧ ∀ l zs ps H', Same H H' → H l = none → H' l = some (.lst zs) → Fqs K H' zs ps → Mq.AllLow ps → (∀ p ∈ ps, Mq.Bd 4 p) → ps.length = w → Q (.ref l) H'
theorem nd_k_start_script_far : (["_law_k", "_law_start", "_law_script", "_law_far"] : List Str).Nodup := by decide +kernel
abbrev sRow : Stmt := top 40
theorem scRow : FnScope ["_law_script", "_law_start", "_law_wide", "_law_far"] ["_law_script", "_law_start", "_law_wide", "_law_far"] (defScope sRow) := ⟨rfl, rfl, rfl, by decide +kernel, rfl, by decide +kernel, by decide +kernel⟩
theorem ok_row {dV : Value} (F : FunD K "_law_row" "_law_row" sRow dV f fd)
    (mr : mg "range" = none)
    (G1 : FnOk P w K mg base CX0 1 g1 gd1 ["_law_script", "_law_k"] (spNth K)) (b1 : Binds K gd1 ["_law_script", "_law_k"] []) (k1 : PySem.W.keepIn K (.ref g1) = true) (m1 : mg "_law_nth" = some (.ref g1))
    (G2 : FnOk P w K mg base CX0 3 g2 gd2 ["_law_cell", "_law_far"] spDrawn) (b2 : Binds K gd2 ["_law_cell", "_law_far"] []) (k2 : PySem.W.keepIn K (.ref g2) = true) (m2 : mg "_law_drawn" = some (.ref g2)) :
    FnOk P w K mg base CX 4 f fd ["_law_script", "_law_start", "_law_wide", "_law_far"] (spRow K) := by
  refine F.ok scRow (fun vs H Q E h => ?_) (fun cdv A outer s H vs Q E hr h => ?_)
  · obtain ⟨a, ns, st, w', rfl, hS, h63, hsw, q⟩ := h
    rfl
  obtain ⟨a, ns, st, w', rfl, hS, h63, hsw, q⟩ := h
  have r1 := hr.mono (show 1 ≤ 3 by omega)
  refine ⟨_, (pss_one (ps_ret (pe_comp (nl := 1) (fr := [1, 0, 3]) (Nc := ["_law_k", "_law_start", "_law_script", "_law_far"]) (cl := [("_law_start", s.heap.objs.size + 2), ("_law_script", s.heap.objs.size + 1), ("_law_far", s.heap.objs.size + 3)]) rfl ⟨rfl, rfl, by decide +kernel, by decide +kernel, (sub_cons rfl (sub_cons rfl (sub_cons rfl (sub_nil)))), has_of rfl, rfl, fun i n h => match i, h with | 0, h => by cases h; exact ⟨1, rfl, rfl, rfl, rfl, .inl rfl⟩ | 1, h => by cases h; exact ⟨0, rfl, rfl, rfl, rfl, .inl rfl⟩ | 2, h => by cases h; exact ⟨3, rfl, rfl, rfl, rfl, .inl rfl⟩ | k + 3, h => by rw [show 1 + (k + 3) = k + 4 by omega] at h; cases h⟩
        (pi_range1 rfl mr (pa_cons (pv 2) pa_nil)) (fun C s3 H3 fp pins => (pg_name (i := 0) nd_k_start_script_far rfl (Or.inl rfl))) (fun C s3 H3 fp pins => pif_nil)
        (fun C s3 H3 fp pins => (pe_call G2 hr rfl m2 k2 b2 .nil pass0 (pa_cons (pe_call G1 r1 rfl m1 k1 b1 .nil pass0 (pa_cons (pv 2) (pa_cons (pe_op op_add (pv 1) (pv 0)) pa_nil))) (pa_cons (pv 3) pa_nil))))))), ?_⟩
  refine ⟨_, rfl, (w' : Int), rfl, by omega, by omega, fun D hD => ?_⟩
  rw [Int.toNat_natCast]
  have sD := same_new hD (.lst [])
  refine comp_range (n := w') (fun i zs H' => Same H H' ∧ H' D = some (.lst zs) ∧ ∃ ps, Fqs K H' zs ps ∧ Mq.AllLow ps ∧ (∀ p ∈ ps, Mq.Bd 4 p) ∧ ps.length = i) ⟨sD, upd_same, [], .nil, fun _ h => by simp at h, fun _ h => by simp at h, rfl⟩ (fun i zs H' h => h.2.1) ?_ ?_
  · rintro i zs H1 hi ⟨s1, e1, ps, hF, hP, hB, hlen⟩ C hC
    refine ⟨keep1.1, keep1.2, iteT ?_⟩
    refine ⟨_, rfl, _, rfl, _, rfl, _, _, rfl, rfl, a, ns, _, st + i, rfl, by omega, s1.seq hS, h63, by omega, fun v H2 s2 => ?_⟩
    refine ⟨_, rfl, v, rfl, fun p hp bp r H3 s3 e3 => ?_⟩
    have sx := s2.trans s3
    have e1' := sx _ _ e1
    have lz := hF.length
    refine ⟨e1', small1000 (by omega), hC _ _ ⟨(s1.trans sx).change hD, upd_same, ps ++ [p], ((hF.same sx).app (.cons (Fq.of e3) .nil)).upd e1', fun p' h' => ?_, fun p' h' => ?_, by simp [hlen]⟩⟩
    · rcases List.mem_append.mp h' with z | z
      · exact hP p' z
      · have : p' = p := by simpa using z
        rw [this]; exact hp
    · rcases List.mem_append.mp h' with z | z
      · exact hB p' z
      · have : p' = p := by simpa using z
        rw [this]; exact bp
  · rintro zs H1 ⟨s1, e1, ps, hF, hP, hB, hlen⟩
    exact q D zs ps H1 s1 hD e1 hF hP hB hlen
theorem D_ge : ∀ {ps : List Mq.Q2}, Mq.Pos ps → 1 ≤ Mq.D ps
  | [], _ => by simp [Mq.D]
  | p :: ps, h => by
    have h1 := h p (by simp)
    have h2 := D_ge (ps := ps) fun q hq => h q (List.mem_cons_of_mem _ hq)
    simp only [Mq.D]
    have h3 : 0 < p.2 * Mq.D ps := Int.mul_pos (by omega) (by omega)
    have h4 : 0 < Mq.D ps * p.2 := Int.mul_pos (by omega) (by omega)
    omega
theorem val_sum {ms xs : List Mq.Q2} (hm : Mq.Pos ms) (hx : Mq.Pos xs) (hl : xs.length = ms.length) : Mq.val (Mq.red (Mq.N (List.zipWith Mq.pp ms xs)) (Mq.D (List.zipWith Mq.pp ms xs))) = Mq.rs ms.length fun j => Mq.val (ms.getD j Mq.z0) * Mq.val (xs.getD j Mq.z0) := by
  have dp := D_ge (Mq.pp_pos hm hx)
  have tl := Mq.tot_low (Mq.pp_pos hm hx)
  have tp := tl.pos
  have c := Mq.tot_cross (Mq.pp_pos hm hx)
  have e1 : Mq.val (Mq.tot (List.zipWith Mq.pp ms xs)) = Mq.rs ms.length fun j => Mq.val (ms.getD j Mq.z0) * Mq.val (xs.getD j Mq.z0) := by
    rw [Mq.val_tot (Mq.pp_pos hm hx), Mq.rsum_get]
    have ll : ((List.zipWith Mq.pp ms xs).map Mq.val).length = ms.length := by simp [hl]
    rw [ll]
    refine Mq.rs_congr fun j hj => ?_
    rw [List.getD_eq_getElem?_getD, List.getElem?_map, List.getElem?_zipWith, Mq.getQ hj, Mq.getQ (show j < xs.length by omega)]
    exact Mq.val_pp (Mq.getD_pos hm j) (Mq.getD_pos hx j)
  rw [← e1, Mq.val_red (by omega)]
  generalize Mq.tot (List.zipWith Mq.pp ms xs) = t at tl tp c
  have n1 := Mq.cast_ne (show Mq.D (List.zipWith Mq.pp ms xs) ≠ 0 by omega)
  have n2 := Mq.cast_ne (show t.2 ≠ 0 by omega)
  have c' := congrArg (fun z : Int => (z : Rat)) c
  simp only [Rat.intCast_mul] at c'
  unfold Mq.val
  grind
def spSumL (K : PySem.W.Frag) : Sp := fun vs H Q _ => ∃ (a o : Addr) (xs ys : List V) (ms ps : List Mq.Q2) (n n' : Nat), vs = [.ref a, .ref o] ∧ SqL K H a xs ∧ Fqs K H xs ms ∧ SqL K H o ys ∧ Fqs K H ys ps ∧ (∀ p ∈ ms, Mq.Bd n p) ∧ (∀ p ∈ ps, Mq.Bd n' p) ∧ Mq.Pos ms ∧ Mq.Pos ps ∧ ms.length ≤ 10 ∧ 1 + (n + n' + 10) * ms.length ≤ 340 ∧ ps.length = ms.length ∧
  ∀ r p H', Same H H' → Fq K H' r p → Mq.Low p → Mq.Bd (1 + (n + n' + 10) * ms.length) p → (Mq.val p = Mq.rs ms.length fun j => Mq.val (ms.getD j Mq.z0) * Mq.val (ps.getD j Mq.z0)) → Q (.ref r) H'
abbrev sSumL : Stmt := top 41
theorem scSumL : FnScope ["_law_some", "_law_others", "_law_top", "_law_bottom", "_law_one", "_law_other"] ["_law_some", "_law_others"] (defScope sSumL) := ⟨rfl, rfl, rfl, by decide +kernel, rfl, by decide +kernel, by decide +kernel⟩
theorem ok_suml {dV : Value} (F : FunD K "_law_sum" "_law_sum" sSumL dV f fd)
    (mz : mg "zip" = none)
    (G1 : FnOk P w K mg base CX0 2 g1 gd1 ["_law_top", "_law_bottom"] spLowP) (b1 : Binds K gd1 ["_law_top", "_law_bottom"] []) (k1 : PySem.W.keepIn K (.ref g1) = true) (m1 : mg "_law_lowest" = some (.ref g1)) :
    FnOk P w K mg base CX 3 f fd ["_law_some", "_law_others"] (spSumL K) := by
  refine F.ok scSumL (fun vs H Q E h => ?_) (fun cdv A outer s H vs Q E hr h => ?_)
  · obtain ⟨a, o, xs, ys, ms, ps, n, n', rfl, hX, fX, hO, fO, hb, hb2, mP, pP, hl, hnn, hpl, z⟩ := h
    rfl
  obtain ⟨a, o, xs, ys, ms, ps, n, n', rfl, hX, fX, hO, fO, hb, hb2, mP, pP, hl, hnn, hpl, z⟩ := h
  have hn : n + n' + 10 ≤ 20000 ∨ ms.length = 0 := by
    by_cases h : ms.length = 0
    · exact .inr h
    · left
      have := Nat.le_mul_of_pos_right (n + n' + 10) (show 0 < ms.length by omega)
      omega
  refine ⟨_, (pss_cons (ps_set (i := 2) scSumL.nd rfl (Or.inl rfl) pe_int)
    (pss_cons (ps_set (i := 3) scSumL.nd rfl (Or.inl rfl) pe_int)
    (pss_cons (ps_for PassesOwn.never rfl (pi_zip rfl mz rfl (pa_cons (pv 0) (pa_cons (pv 1) pa_nil))) (pg_tup rfl (pgs_cons (pg_name (i := 4) scSumL.nd rfl (Or.inl rfl)) (pgs_cons (pg_name (i := 5) scSumL.nd rfl (Or.inl rfl)) pgs_nil)))
      (pss_cons (ps_set (i := 2) scSumL.nd rfl (Or.inl rfl) (pe_op op_add (pe_op op_mulB (pe_op op_mulB (pv 2) (pe_ix ix_tup (pv 4) pe_int (fun _ _ => rfl))) (pe_ix ix_tup (pv 5) pe_int (fun _ _ => rfl))) (pe_op op_mulB (pe_op op_mulB (pe_ix ix_tup (pv 4) pe_int (fun _ _ => rfl)) (pe_ix ix_tup (pv 5) pe_int (fun _ _ => rfl))) (pv 3))))
    (pss_one (ps_set (i := 3) scSumL.nd rfl (Or.inl rfl) (pe_op op_mulB (pe_op op_mulB (pv 3) (pe_ix ix_tup (pv 4) pe_int (fun _ _ => rfl))) (pe_ix ix_tup (pv 5) pe_int (fun _ _ => rfl)))))))
    (pss_one (ps_ret (pe_call G1 hr rfl m1 k1 b1 .nil pass0 (pa_cons (pv 2) (pa_cons (pv 3) pa_nil)))))))), ?_⟩
  have lx := fX.length
  have ly := fO.length
  have lL : (List.zipWith Mq.pp ms ps).length = ms.length := by simp [hpl]
  refine ⟨_, rfl, _, rfl, a, o, rfl, ⟨_, hX⟩, ⟨_, hO⟩, ?_⟩
  refine for_zip (xs := xs) (ys := ys) (fun i σ H' => Same H H' ∧ i ≤ 10 ∧ ∃ z5 z6, σ = [some (.ref a), some (.ref o), some (.int (Mq.N ((List.zipWith Mq.pp ms ps).take i))), some (.int (Mq.D ((List.zipWith Mq.pp ms ps).take i))), z5, z6] ∧ Mq.B (1 + (n + n' + 10) * i) (Mq.N ((List.zipWith Mq.pp ms ps).take i)) ∧ Mq.B (1 + (n + n' + 10) * i) (Mq.D ((List.zipWith Mq.pp ms ps).take i))) ⟨Same.refl _, by omega, none, none, rfl, show (0 : Nat) < 2 ^ (1 + (n + n' + 10) * 0) from Nat.two_pow_pos _, show (1 : Nat) < 2 ^ (1 + (n + n' + 10) * 0) by simp⟩ (fun i σ H' _ h => ⟨h.1.seq hX, h.1.seq hO⟩) ?_ ?_
  · rintro i x y σ H1 T1 ex ey ⟨s1, i10, z5, z6, rfl, bN, bD⟩ hT
    obtain ⟨u, p, rfl, ep, fu⟩ := fX.get ex
    obtain ⟨v, r, rfl, er, fv⟩ := fO.get ey
    have hi : i < ms.length := (List.getElem?_eq_some_iff.mp ep).1
    have hn' : n + n' + 10 ≤ 20000 := by rcases hn with h | h <;> omega
    have pb := hb p (List.mem_of_getElem? ep)
    have ob := hb2 r (List.mem_of_getElem? er)
    have sT := same_new hT (.tup [.ref u, .ref v])
    refine ⟨T1, _, rfl, SqT.of upd_same, rfl, _, _, rfl, _, _, rfl, rfl, ?_⟩
    have sx := s1.trans sT
    have fu' := sx.fq fu
    have fv' := sx.fq fv
    generalize upd H1 T1 (.tup [.ref u, .ref v]) = H2 at sx fu' fv' ⊢
    obtain ⟨eN, eD⟩ := Mq.nd_take (ps := List.zipWith Mq.pp ms ps) (i := i) (p := Mq.pp p r) (by rw [List.getElem?_zipWith, ep, er])
    have kb : (n + n' + 10) * i ≤ (n + n' + 10) * 10 := Nat.mul_le_mul_left _ (by omega)
    have b1 := bN.mul pb.b
    have b2 := b1.mul ob.b
    have b3 := pb.a.mul ob.a
    have b4 := b3.mul bD
    have b5 := bD.mul pb.b
    have b6 := b5.mul ob.b
    refine ⟨_, rfl, rd_ix1 rfl fu' (rd_mulB bN pb.b (by omega) (by omega) (rd_ix1 rfl fv' (rd_mulB b1 ob.b (by omega) (by omega) (rd_ix0 rfl fu' (rd_ix0 rfl fv' (rd_mulB pb.a ob.a (by omega) (by omega) ⟨_, rfl, rd_mulB b3 bD (by omega) (by omega) ⟨_, _, rfl, rfl, ?_⟩⟩))))))⟩
    refine ⟨_, rfl, rd_ix1 rfl fu' (rd_mulB bD pb.b (by omega) (by omega) (rd_ix1 rfl fv' (rd_mulB b5 ob.b (by omega) (by omega) ?_)))⟩
    have x1 : Mq.N ((List.zipWith Mq.pp ms ps).take i) * p.2 * r.2 + p.1 * r.1 * Mq.D ((List.zipWith Mq.pp ms ps).take i) = Mq.N ((List.zipWith Mq.pp ms ps).take (i + 1)) := by rw [eN]; show _ = _ * (p.2 * r.2) + (p.1 * r.1) * _; rw [Int.mul_assoc]
    have x2 : Mq.D ((List.zipWith Mq.pp ms ps).take i) * p.2 * r.2 = Mq.D ((List.zipWith Mq.pp ms ps).take (i + 1)) := by rw [eD]; show _ = _ * (p.2 * r.2); rw [Int.mul_assoc]
    refine ⟨sx, by omega, some (.ref u), some (.ref v), by rw [← x1, ← x2]; rfl, ?_, ?_⟩
    · rw [← x1]
      exact (Mq.B.add (n := 1 + (n + n' + 10) * i + n + n') b2 (b4.mono (by omega))).mono (by rw [Nat.mul_succ]; omega)
    · rw [← x2]
      exact b6.mono (by rw [Nat.mul_succ]; omega)
  · rintro σ H1 ⟨s1, _, z5, z6, rfl, bN, bD⟩
    rw [show min xs.length ys.length = (List.zipWith Mq.pp ms ps).length by omega, List.take_length] at bN bD ⊢
    rw [lL] at bN bD
    have dp := D_ge (Mq.pp_pos mP pP)
    have le := Mq.red_le (t := Mq.N (List.zipWith Mq.pp ms ps)) (show Mq.D (List.zipWith Mq.pp ms ps) ≠ 0 by omega)
    exact ⟨_, rfl, _, rfl, _, _, 340, rfl, by omega, bD.mono hnn, by omega, fun r H2 s2 e2 => z r _ H2 (s1.trans s2) (Fq.of e2) (Mq.red_low (by omega)) ⟨bN.le le.1, bD.le le.2⟩ (val_sum mP pP hpl)⟩
theorem one_bd : Mq.B 9000 1 := Mq.B.mono (n := 1) (show (1 : Nat) < 2 ^ 1 by decide) (by omega)
theorem nil_bd : Mq.B 9000 0 := Nat.two_pow_pos _
theorem val01 : Mq.val (0, 1) = 0 := by unfold Mq.val; simp; grind
def spNullL (K : PySem.W.Frag) : Sp := fun vs H Q _ => ∃ (a g D : Addr) (xs us : List V) (ps : List Mq.Q2) (X : List (List Mq.Q2)), vs = [.ref a, .ref g] ∧ SqL K H a xs ∧ Fqs K H xs ps ∧ SqL K H g us ∧ Fmx K D H us X ∧ MxS X ∧ Null X ps ∧ ∀ H', Same H H' → Q (.bl true) H'
theorem Nnd_row_here_j : (["_law_row_here", "_law_j"] : List Str).Nodup := by decide +kernel
abbrev sNull : Stmt := top 43
theorem scNull : FnScope ["_law_shown", "_law_matrix", "_law_j"] ["_law_shown", "_law_matrix"] (defScope sNull) := ⟨rfl, rfl, rfl, by decide +kernel, rfl, by decide +kernel, by decide +kernel⟩
theorem ok_null {dV : Value} (F : FunD K "_law_null" "_law_null" sNull dV f fd)
    (b : Bl mg) (ml : mg "len" = none) (mr : mg "range" = none) (ma : mg "all" = none)
    (G1 : FnOk P w K mg base CX0 3 g1 gd1 ["_law_found", "_law_many"] (spLList K)) (b1 : Binds K gd1 ["_law_found", "_law_many"] []) (k1 : PySem.W.keepIn K (.ref g1) = true) (m1 : mg "_law_list" = some (.ref g1))
    (G2 : FnOk P w K mg base CX0 1 g2 gd2 ["_law_some", "_law_others", "_law_due"] (spMeetsG K)) (b2 : Binds K gd2 ["_law_some", "_law_others", "_law_due"] []) (k2 : PySem.W.keepIn K (.ref g2) = true) (m2 : mg "_law_meets" = some (.ref g2)) :
    FnOk P w K mg base CX 4 f fd ["_law_shown", "_law_matrix"] (spNullL K) := by
  refine F.ok scNull (fun vs H Q E h => ?_) (fun cdv A outer s H vs Q E hr h => ?_)
  · obtain ⟨a, g, D0, xs, us, ps, X, rfl, hS, hF, hU, hX, mx, nu, q⟩ := h
    rfl
  obtain ⟨a, g, D0, xs, us, ps, X, rfl, hS, hF, hU, hX, mx, nu, q⟩ := h
  have hu := hr.units
  have r1 := hr.mono (show 1 ≤ 3 by omega)
  refine ⟨_, (pss_cons (ps_if (PW.pt (pw_or (pt_not (pt_val (pe_call G1 hr rfl m1 k1 b1 .nil pass0 (pa_cons (pv 0) (pa_cons (pe_callB call_len_seq rfl ml PySem.boot_len (pa_cons (pv 1) pa_nil)) pa_nil))))) (pw_or1 (pt_val (pe_callB (call_all rfl) rfl ma PyProof.Rows.boot_all (pa_cons (pe_comp (nl := 1) (fr := []) (Nc := ["_law_one"]) (cl := []) rfl ⟨rfl, rfl, by decide +kernel, by decide +kernel, fun x c h => (by cases h), has_of rfl, rfl, fun i n h => (by simp at h)⟩
        (pi_list (pv 0)) (fun C s3 H3 fp pins => (pg_name (i := 0) nd_one rfl (Or.inl rfl))) (fun C s3 H3 fp pins => pif_nil)
        (fun C s3 H3 fp pins => (pe_cmpR op_eq (pe_ix (ix_tupK (K := K) rfl) (pv 0) pe_int (fun _ _ => rfl)) pe_int (nomark _)))) pa_nil)))))) (pss_one (ps_ret pe_bl)) pss_nil)
    (pss_cons (ps_for PassesOwn.never rfl (pi_range1 rfl mr (pa_cons (pe_callB call_len_seq rfl ml PySem.boot_len (pa_cons (pv 1) pa_nil)) pa_nil)) (pg_name (i := 2) scNull.nd rfl (Or.inr rfl))
      (pss_one (ps_if (pt_not (pt_val (pe_call G2 r1 rfl m2 k2 b2 .nil pass0 (pa_cons (pv 0) (pa_cons (pe_comp (nl := 1) (fr := [2]) (Nc := ["_law_row_here", "_law_j"]) (cl := [("_law_j", s.heap.objs.size + 1)]) rfl ⟨rfl, rfl, by decide +kernel, by decide +kernel, fun x c h => h, has_of rfl, rfl, fun i n h => match i, h with | 0, h => by cases h; exact ⟨2, rfl, rfl, rfl, rfl, .inl rfl⟩ | k + 1, h => by rw [show 1 + (k + 1) = k + 2 by omega] at h; cases h⟩
        (pi_list (pv 1)) (fun C s3 H3 fp pins => (pg_name (i := 0) Nnd_row_here_j rfl (Or.inl rfl))) (fun C s3 H3 fp pins => pif_nil)
        (fun C s3 H3 fp pins => (pe_ix (ix_listK (K := K) rfl) (pv 0) (pv 1) (fun _ _ => rfl)))) (pa_cons (pe_tup (pa_cons pe_int (pa_cons pe_int pa_nil))) pa_nil)))))) (pss_one (ps_ret pe_bl)) pss_nil)))
    (pss_one (ps_ret pe_bl)))), ?_⟩
  have lx := hF.length
  have lu := hX.length
  have lp := nu.len
  have x4 := mx.2.2
  refine ⟨_, rfl, _, rfl, g, us, rfl, .inl hU, a, xs, ps, by rw [lu, ← lp]; rfl, hS, hF, nu.low, by omega, fun H1 s1 => ⟨_, rfl, iteF ?_⟩⟩
  refine ⟨_, rfl, a, rfl, ⟨_, s1.seq hS⟩, fun D hD => ?_⟩
  have sD := same_new hD (.lst [])
  refine comp_list (xs := xs) (fun i ws H' => Same H1 H' ∧ H' D = some (.lst ws) ∧ ws = ((ps.take i).map fun p => decide (V.int p.1 = V.int 0)).map V.bl) ⟨sD, upd_same, rfl⟩ (fun i ws H' h => h.2.1) (fun i ws H' _ h => (s1.trans h.1).seq hS) ?_ ?_
  · rintro i ws x H2 hx ⟨s2, e2, rfl⟩ C hC
    obtain ⟨u, p, rfl, ep, fu⟩ := hF.get hx
    have hi : i < ps.length := (List.getElem?_eq_some_iff.mp ep).1
    refine ⟨keep1.1, keep1.2, iteT ?_⟩
    refine rd_ix0 rfl ((s1.trans s2).fq fu) ⟨rfl, ?_⟩
    refine ⟨e2, small1000 (by rw [List.length_map, List.length_map, List.length_take]; omega), hC _ _ ⟨s2.change hD, upd_same, ?_⟩⟩
    rw [List.take_add_one, ep, List.map_append, List.map_append]; rfl
  rintro ws H2 ⟨s2, e2, rfl⟩
  rw [lx, List.take_length] at e2
  have s02 := s1.trans s2
  refine ⟨D, _, rfl, SqL.of e2, _, rfl, ifF ?_ ?_⟩
  · obtain ⟨p, hp, n0⟩ := nu.some_
    cases h : (ps.map fun p => decide (V.int p.1 = V.int 0)).all id with
    | false => rfl
    | true =>
      have := List.all_eq_true.mp h _ (List.mem_map.mpr ⟨p, hp, rfl⟩)
      have z : V.int p.1 = V.int 0 := of_decide_eq_true this
      exact absurd (V.int.inj z) n0
  refine ⟨_, rfl, g, us, rfl, .inl (s02.seq hU), (us.length : Int), rfl, by omega, by omega, ?_⟩
  rw [Int.toNat_natCast, lu]
  refine for_range (lo := 0) (n := X.length) (fun j σ H' => Same H H' ∧ ∃ z, σ = [some (.ref a), some (.ref g), z]) ⟨s02, none, rfl⟩ ?_ ?_
  · rintro j σ H3 hj ⟨s3, z, rfl⟩
    rw [Int.zero_add]
    refine ⟨_, rfl, _, rfl, g, rfl, ⟨_, s3.seq hU⟩, fun D2 hD2 => ?_⟩
    have sD2 := same_new hD2 (.lst [])
    refine comp_list (xs := us) (fun i ws H' => Same H3 H' ∧ H' D2 = some (.lst ws) ∧ Fqs K H' ws ((col X j).take i)) ⟨sD2, upd_same, .nil⟩ (fun i ws H' h => h.2.1) (fun i ws H' _ h => (s3.trans h.1).seq hU) ?_ ?_
    · rintro i ws x H4 hx ⟨s4, e4, F4⟩ C hC
      obtain ⟨u, ys, row, rfl, er, hu', fu⟩ := hX.get hx
      have hi : i < X.length := (List.getElem?_eq_some_iff.mp er).1
      have rl := (mx.2.1 row (List.mem_of_getElem? er)).2
      have lw := F4.length
      rw [List.length_take] at lw
      have lc : (col X j).length = X.length := List.length_map _
      have sA := s3.trans s4
      obtain ⟨v, av, fv⟩ := (fu.same sA).at (Mq.getQ (j := j) (by omega))
      refine ⟨keep1.1, keep1.2, iteT ?_⟩
      refine ⟨_, rfl, _, rfl, u, ys, _, _, rfl, rfl, sA.seq hu', atI_nat av, ?_⟩
      refine ⟨e4, small1000 (by omega), hC _ _ ⟨s4.change hD2, upd_same, ?_⟩⟩
      have ec : (col X j)[i]? = some (row.getD j Mq.z0) := by unfold col; rw [List.getElem?_map, er]; rfl
      rw [List.take_add_one, ec]
      exact (F4.app (.cons fv .nil)).upd e4
    rintro ws H4 ⟨s4, e4, F4⟩
    have lc : (col X j).length = X.length := List.length_map _
    rw [lu, ← lc, List.take_length] at F4
    have sA := s3.trans s4
    have cP : Mq.Pos (col X j) := fun p hp => by
      unfold col at hp
      obtain ⟨row, hr', rfl⟩ := List.mem_map.mp hp
      exact Mq.getD_pos (mx.1 row hr') j
    refine ⟨by show 2 ≤ sizeLine; decide, fun t0 ht0 => ?_⟩
    have s5 := same_new ht0 (.tup [.int 0, .int 1])
    have f5 : Fq K (upd H4 t0 (.tup [.int 0, .int 1])) t0 (0, 1) := Fq.of upd_same
    generalize upd H4 t0 (.tup [.int 0, .int 1]) = H5 at s5 f5 ⊢
    have sB := sA.trans s5
    refine ⟨a, D2, t0, xs, ws, ps, col X j, (0, 1), 9000, 80, rfl, sB.seq hS, hF.same sB, SqL.of (s5 _ _ e4), F4.same s5, f5, nu.bd, fun p hp => ?_, ⟨nil_bd, one_bd⟩, by omega, by omega, by omega, by rw [lc, lp], ?_, fun H6 s6 => ?_⟩
    · unfold col at hp
      obtain ⟨row, hr', rfl⟩ := List.mem_map.mp hp
      exact Mq.getD_bd (by omega) (mx.2.1 row hr').1 j
    · refine Mq.meets_of nu.low.pos cP (by rw [lc, lp]) Mq.low01 ?_
      rw [lp, val01, ← nu.sum j hj]
      exact Mq.rs_congr fun k hk => by rw [col_get hk]
    · exact ⟨_, rfl, iteF ⟨sB.trans s6, _, rfl⟩⟩
  · rintro σ H3 ⟨s3, z, rfl⟩
    exact q _ s3
end
end K25

set_option Elab.async false
set_option linter.all false
set_option maxRecDepth 100000
set_option maxHeartbeats 4000000
namespace K25
open PySem L2 Shp
section
variable {P : Program} {w : World} {K : PySem.W.Frag} {mg : Str → Option Value} {base : Heap} {f g1 g2 g3 g4 g5 g6 g7 g8 g9 g10 g11 : Addr} {fd gd1 gd2 gd3 gd4 gd5 gd6 gd7 gd8 gd9 gd10 gd11 : FuncData} {CX : CXT}
def spLaw (K : PySem.W.Frag) : Sp := fun vs H Q _ => ∃ (a : Addr) (ns : List Int), vs = [.ref a] ∧ SqL K H a (ns.map V.int) ∧ ns.length ≤ 63 ∧ ∀ H', Q (.bl true) H'
theorem rd_eqS {K : PySem.W.Frag} {H : Hp} {x y : V} {d : PyData} {neg : Bool} {Q : VK} (h1 : DatV K H x d) (h2 : DatV K H y d) (hl : d.canLay0 = true) (hd : d.depth ≤ 16) (z : Q (.bl (!neg)) H) : rDat K neg x y H Q := by
  refine ⟨d, d, h1, h2, hl, hl, by omega, ?_⟩
  have e : PyData.eqv d d = true := PySem.SeqAt.eqv_refl _ hl
  rw [e]
  cases neg <;> exact z
def lqd (ps : List Mq.Q2) : PyData := .list (ps.map qd)
theorem _root_.Shp.Fmx.dat {K : PySem.W.Frag} {D : Addr} {H : Hp} : ∀ {xs : List V} {X : List (List Mq.Q2)}, Fmx K D H xs X → DatVs K H xs (X.map lqd)
  | _, _, .nil => .nil
  | _, _, .cons n h f q => .cons (.lst h f.dat) q.dat
theorem lqds_lay : ∀ X : List (List Mq.Q2), PyData.canLayAll0 (X.map lqd) = true
  | [] => rfl
  | r :: X => by
    show (PyData.canLayAll0 (r.map qd) && PyData.canLayAll0 (X.map lqd)) = true
    rw [lqds_lay X, qds_lay]; rfl
theorem lqds_depth : ∀ X : List (List Mq.Q2), PyData.depthAll (X.map lqd) ≤ 2
  | [] => by simp [PyData.depthAll]
  | r :: X => by
    have h := lqds_depth X
    have h1 := qds_depth r
    simp only [List.map_cons, PyData.depthAll]
    have : (lqd r).depth ≤ 2 := by simp only [lqd, PyData.depth]; omega
    omega
theorem same_none {H H' : Hp} {u : Addr} (s : Same H H') (h : H' u = none) : H u = none := by
  cases o : H u with
  | none => rfl
  | some o' => rw [s _ _ o] at h; cases h
theorem ne_heap {H : Hp} {a c : Addr} {o : HO} (h : H a = none) (g : H c = some o) : a ≠ c := fun z => by rw [z, g] at h; cases h
/-- the rows of a table that was drawn -/
def Drn (n : Nat) (X : List (List Mq.Q2)) (M : Nat) : Prop := ∀ row ∈ X, Mq.AllLow row ∧ (∀ p ∈ row, Mq.Bd n p) ∧ row.length = M
theorem Drn.ok {X : List (List Mq.Q2)} (h : Drn 73 X X.length) (h4 : X.length ≤ 4) : MxS X :=
  ⟨fun row hr => (h row hr).1.pos, fun row hr => ⟨fun p hp => ((h row hr).2.1 p hp).mono (by omega), (h row hr).2.2⟩, h4⟩
theorem Drn.set {n n' : Nat} {X : List (List Mq.Q2)} {M i : Nat} {ps : List Mq.Q2} (h : Drn n X M) (hn : n ≤ n') (h1 : Mq.AllLow ps) (h2 : ∀ p ∈ ps, Mq.Bd n' p) (h3 : ps.length = M) : Drn n' (X.set i ps) M := fun row hr => by
  rcases List.mem_or_eq_of_mem_set hr with z | z
  · exact ⟨(h row z).1, fun p hp => ((h row z).2.1 p hp).mono hn, (h row z).2.2⟩
  · rw [z]; exact ⟨h1, h2, h3⟩
theorem _root_.Shp.Fmx.at {K : PySem.W.Frag} {D : Addr} {H : Hp} : ∀ {xs : List V} {X : List (List Mq.Q2)} {i : Nat}, Fmx K D H xs X → i < X.length → ∃ u ys, xs[i]? = some (.ref u) ∧ u ≠ D ∧ SqL K H u ys ∧ Fqs K H ys (X.getD i [])
  | _, _, 0, .cons n h f q, _ => ⟨_, _, rfl, n, h, f⟩
  | _, _, i + 1, .cons n h f q, e => by
    obtain ⟨u, ys, a1, a2, a3, a4⟩ := q.at (i := i) (by simpa using e)
    exact ⟨u, ys, a1, a2, a3, a4⟩
theorem _root_.Shp.Fmx.set {K : PySem.W.Frag} {D : Addr} {H : Hp} {u : Addr} {ys : List V} {ps : List Mq.Q2} (hn : u ≠ D) (hu : SqL K H u ys) (hf : Fqs K H ys ps) : ∀ {xs : List V} {X : List (List Mq.Q2)} (i : Nat), Fmx K D H xs X → Fmx K D H (xs.set i (.ref u)) (X.set i ps)
  | _, _, _, .nil => by simp; exact .nil
  | _, _, 0, .cons n h f q => .cons hn hu hf q
  | _, _, i + 1, .cons n h f q => .cons n h f (q.set hn hu hf i)
theorem mem_set {α : Type} {P : α → Prop} {l : List α} {i : Nat} {x : α} (h : ∀ y ∈ l, P y) (hx : P x) : ∀ y ∈ l.set i x, P y := fun y hy => by
  rcases List.mem_or_eq_of_mem_set hy with z | z
  · exact h y z
  · rw [z]; exact hx
theorem getQ_set {ps : List Mq.Q2} {i : Nat} (hi : i < ps.length) (p : Mq.Q2) (j : Nat) : (ps.set i p).getD j Mq.z0 = if j = i then p else ps.getD j Mq.z0 := by
  rw [List.getD_eq_getElem?_getD, List.getElem?_set]
  by_cases z : j = i
  · rw [if_pos z, z, if_pos rfl, if_pos hi]; rfl
  · rw [if_neg z, if_neg (fun e => z e.symm), ← List.getD_eq_getElem?_getD]
def spHung (K : PySem.W.Frag) : Sp := fun vs H Q _ => ∃ (a : Addr) (ns : List Int) (M : Nat), vs = [.ref a, .int (M : Int)] ∧ 1 ≤ M ∧ M ≤ 4 ∧ SqL K H a (ns.map V.int) ∧ ns.length ≤ 63 ∧
  ∀ l us X H', Same H H' → H l = none → H' l = some (.lst us) → Fmx K l H' us X → Drn 73 X M → X.length = M → wgt X = 0 → Q (.ref l) H'
/-- the first i rows are done -/
structure Hng (X : List (List Mq.Q2)) (fs : List Mq.Q2) (j i : Nat) (Y : List (List Mq.Q2)) : Prop where
  len : Y.length = X.length
  late : ∀ k, i ≤ k → Y.getD k [] = X.getD k []
  off : ∀ k, k < X.length → ∀ t, t ≠ j → (Y.getD k []).getD t Mq.z0 = (X.getD k []).getD t Mq.z0
  done : ∀ k, k < i → k < X.length → Mq.val ((Y.getD k []).getD j Mq.z0) = Mq.rs X.length fun t => Mq.val (fs.getD t Mq.z0) * matX X k t
theorem Hng.step {X Y : List (List Mq.Q2)} {fs : List Mq.Q2} {j i : Nat} {p : Mq.Q2} (h : Hng X fs j i Y) (hi : i < X.length) (hj : j < (X.getD i []).length) (v : Mq.val p = Mq.rs X.length fun t => Mq.val (fs.getD t Mq.z0) * matX X i t) : Hng X fs j (i + 1) (Y.set i ((X.getD i []).set j p)) := by
  have hl := h.len
  refine ⟨by rw [List.length_set]; exact hl, fun k hk => ?_, fun k hk t ht => ?_, fun k hk hk2 => ?_⟩
  · rw [getD_set (by omega), if_neg (by omega)]; exact h.late k (by omega)
  · rw [getD_set (by omega)]
    by_cases z : k = i
    · rw [if_pos z, getQ_set hj, if_neg ht, z]
    · rw [if_neg z]; exact h.off k hk t ht
  · rw [getD_set (by omega)]
    by_cases z : k = i
    · rw [if_pos z, getQ_set hj, if_pos rfl, z]; exact v
    · rw [if_neg z]; exact h.done k (by omega) hk2
theorem Hnd_k_script_many : (["_law_k", "_law_script", "_law_many"] : List Str).Nodup := by decide +kernel
theorem Hnd_j_matrix_factors : (["_law_j", "_law_matrix", "_law_factors"] : List Str).Nodup := by decide +kernel
theorem Hnd_row_here_j : (["_law_row_here", "_law_j"] : List Str).Nodup := by decide +kernel
abbrev sHung : Stmt := top 42
theorem scHung : FnScope ["_law_script", "_law_many", "_law_matrix", "_law_factors", "_law_at", "_law_row_here"] ["_law_script", "_law_many"] (defScope sHung) := ⟨rfl, rfl, rfl, by decide +kernel, rfl, by decide +kernel, by decide +kernel⟩
theorem ok_hung {dV : Value} (F : FunD K "_law_hung" "_law_hung" sHung dV f fd)
    (mr : mg "range" = none)
    (G1 : FnOk P w K mg base CX0 1 g1 gd1 ["_law_script", "_law_k"] (spNth K)) (b1 : Binds K gd1 ["_law_script", "_law_k"] []) (k1 : PySem.W.keepIn K (.ref g1) = true) (m1 : mg "_law_nth" = some (.ref g1))
    (G2 : FnOk P w K mg base CX0 4 g2 gd2 ["_law_script", "_law_start", "_law_wide", "_law_far"] (spRow K)) (b2 : Binds K gd2 ["_law_script", "_law_start", "_law_wide", "_law_far"] []) (k2 : PySem.W.keepIn K (.ref g2) = true) (m2 : mg "_law_row" = some (.ref g2))
    (G3 : FnOk P w K mg base CX0 3 g3 gd3 ["_law_cell", "_law_far"] spDrawn) (b3 : Binds K gd3 ["_law_cell", "_law_far"] []) (k3 : PySem.W.keepIn K (.ref g3) = true) (m3 : mg "_law_drawn" = some (.ref g3))
    (G4 : FnOk P w K mg base CX0 3 g4 gd4 ["_law_some", "_law_others"] (spSumL K)) (b4 : Binds K gd4 ["_law_some", "_law_others"] []) (k4 : PySem.W.keepIn K (.ref g4) = true) (m4 : mg "_law_sum" = some (.ref g4)) :
    FnOk P w K mg base CX 5 f fd ["_law_script", "_law_many"] (spHung K) := by
  refine F.ok scHung (fun vs H Q E h => ?_) (fun cdv A outer s H vs Q E hr h => ?_)
  · obtain ⟨a, ns, M, rfl, hM1, hM4, hS, h63, q⟩ := h
    rfl
  obtain ⟨a, ns, M, rfl, hM1, hM4, hS, h63, q⟩ := h
  have hu := hr.units
  have r1 := hr.mono (show 1 ≤ 4 by omega)
  have r3 := hr.mono (show 3 ≤ 4 by omega)
  refine ⟨_, (pss_cons (ps_set (i := 2) scHung.nd rfl (Or.inr rfl) (pe_comp (nl := 1) (fr := [0, 1]) (Nc := ["_law_k", "_law_script", "_law_many"]) (cl := [("_law_script", s.heap.objs.size + 1), ("_law_many", s.heap.objs.size + 2)]) rfl ⟨rfl, rfl, by decide +kernel, by decide +kernel, (sub_cons rfl (sub_cons rfl (sub_nil))), has_of rfl, rfl, fun i n h => match i, h with | 0, h => by cases h; exact ⟨0, rfl, rfl, rfl, rfl, .inl rfl⟩ | 1, h => by cases h; exact ⟨1, rfl, rfl, rfl, rfl, .inl rfl⟩ | k + 2, h => by rw [show 1 + (k + 2) = k + 3 by omega] at h; cases h⟩
        (pi_range1 rfl mr (pa_cons (pv 1) pa_nil)) (fun C s3 H3 fp pins => (pg_name (i := 0) Hnd_k_script_many rfl (Or.inl rfl))) (fun C s3 H3 fp pins => pif_nil)
        (fun C s3 H3 fp pins => (pe_call G2 hr rfl m2 k2 b2 .nil pass0 (pa_cons (pv 1) (pa_cons (pe_op op_add pe_int (pe_op op_mulB (pv 2) (pv 0))) (pa_cons (pv 2) (pa_cons pe_bl pa_nil))))))))
    (pss_cons (ps_set (i := 3) scHung.nd rfl (Or.inr rfl) (pe_comp (nl := 1) (fr := [0, 1]) (Nc := ["_law_k", "_law_script", "_law_many"]) (cl := [("_law_script", s.heap.objs.size + 1), ("_law_many", s.heap.objs.size + 2)]) rfl ⟨rfl, rfl, by decide +kernel, by decide +kernel, (sub_cons rfl (sub_cons rfl (sub_nil))), has_of rfl, rfl, fun i n h => match i, h with | 0, h => by cases h; exact ⟨0, rfl, rfl, rfl, rfl, .inl rfl⟩ | 1, h => by cases h; exact ⟨1, rfl, rfl, rfl, rfl, .inl rfl⟩ | k + 2, h => by rw [show 1 + (k + 2) = k + 3 by omega] at h; cases h⟩
        (pi_range1 rfl mr (pa_cons (pv 1) pa_nil)) (fun C s3 H3 fp pins => (pg_name (i := 0) Hnd_k_script_many rfl (Or.inl rfl))) (fun C s3 H3 fp pins => pif_nil)
        (fun C s3 H3 fp pins => (pe_call G3 r3 rfl m3 k3 b3 .nil pass0 (pa_cons (pe_call G1 r1 rfl m1 k1 b1 .nil pass0 (pa_cons (pv 1) (pa_cons (pe_op op_add (pe_op op_add pe_int (pe_op op_mulB (pv 2) (pv 2))) (pv 0)) pa_nil))) (pa_cons pe_bl pa_nil))))))
    (pss_cons (ps_set (i := 4) scHung.nd rfl (Or.inl rfl) (pe_op op_modN (pe_call G1 r1 rfl m1 k1 b1 .nil pass0 (pa_cons (pv 0) (pa_cons pe_int pa_nil))) (pv 1)))
    (pss_cons (ps_asg (pe_tup (pa_cons pe_int (pa_cons pe_int pa_nil))) (pg_sub (pv 3) (pv 4) set_list))
    (pss_cons (ps_if (pt_cmpR op_eq (pe_op op_mod (pe_call G1 r1 rfl m1 k1 b1 .nil pass0 (pa_cons (pv 0) (pa_cons pe_int pa_nil))) pe_int) pe_int (nomark _)) (pss_one (ps_for PassesOwn.never rfl (pi_list (pv 2)) (pg_name (i := 5) scHung.nd rfl (Or.inl rfl))
      (pss_one (ps_asg (pe_call G4 r3 rfl m4 k4 b4 .nil pass0 (pa_cons (pv 3) (pa_cons (pv 5) pa_nil))) (pg_sub (pv 5) (pv 4) set_list))))) (pss_one (ps_asg (pe_comp1 (nl := 1) (fr := [2, 3]) (Nc := ["_law_j", "_law_matrix", "_law_factors"]) (cl := [("_law_matrix", s.heap.objs.size + 3), ("_law_factors", s.heap.objs.size + 4)]) (x0 := "_law_j") rfl ⟨rfl, rfl, by decide +kernel, fun _ => rfl, fun _ => rfl, rfl, (sub_cons rfl (sub_cons rfl (sub_nil))), fun _ => has_of rfl, rfl, fun i n h => match i, h with | 0, h => by cases h; exact ⟨2, rfl, rfl, rfl, rfl, .inl rfl⟩ | 1, h => by cases h; exact ⟨3, rfl, rfl, rfl, rfl, .inl rfl⟩ | k + 2, h => by rw [show 1 + (k + 2) = k + 3 by omega] at h; cases h⟩
        (pi_range1 rfl mr (pa_cons (pv 1) pa_nil)) (fun C s3 H3 fp pins => (pg_name (i := 0) Hnd_j_matrix_factors rfl (Or.inr rfl))) (fun C s3 H3 fp pins => pif_nil)
        (fun C s3 H3 fp pins => (pe_call G4 r3 rfl m4 k4 b4 .nil pass0 (pa_cons (pv 2) (pa_cons (pe_comp (nl := 1) (fr := [0]) (Nc := ["_law_row_here", "_law_j"]) (cl := [("_law_j", C + 1)]) rfl ⟨rfl, rfl, by decide +kernel, by decide +kernel, (sub_cons rfl (sub_nil)), has_of rfl, rfl, fun i n h => match i, h with | 0, h => by cases h; exact ⟨0, rfl, rfl, rfl, rfl, .inl rfl⟩ | k + 1, h => by rw [show 1 + (k + 1) = k + 2 by omega] at h; cases h⟩
        (pi_listK (K := K) rfl (pv 1)) (fun C s3 H3 fp pins => (pg_name (i := 0) Hnd_row_here_j rfl (Or.inl rfl))) (fun C s3 H3 fp pins => pif_nil)
        (fun C s3 H3 fp pins => (pe_ix (ix_listK (K := K) rfl) (pv 0) (pv 1) (fun _ _ => rfl)))) pa_nil))))) (pg_sub (pv 2) (pv 4) set_list))))
    (pss_one (ps_ret (pv 2)))))))), ?_⟩
  -- matrix
  refine ⟨_, rfl, (M : Int), rfl, by omega, by omega, fun D1 hD1 => ?_⟩
  rw [Int.toNat_natCast]
  have sD1 := same_new hD1 (.lst [])
  refine comp_range (n := M) (fun i zs H' => Same H H' ∧ H' D1 = some (.lst zs) ∧ zs.Nodup ∧ ∃ X : List (List Mq.Q2), Fmd K H D1 H' zs X ∧ Drn 4 X M ∧ X.length = i) ⟨sD1, upd_same, List.nodup_nil, [], .nil, fun _ h => by simp at h, rfl⟩ (fun i zs H' h => h.2.1) ?_ ?_
  · rintro i zs H4 hi ⟨s4, e4, nd4, X, hX, hP, hlen⟩ C hC
    refine ⟨keep1.1, keep1.2, iteT ?_⟩
    have wk : M * i ≤ 4 * 3 := Nat.mul_le_mul (by omega) (by omega)
    refine ⟨_, rfl, _, rfl, _, rfl, rd_mulB (n := 40) (m := 40) (B_of (by omega) (by omega)) (B_of (by omega) (by omega)) (by omega) (by omega) ⟨_, _, rfl, rfl, _, rfl, a, ns, 4 + M * i, M, ?_, s4.seq hS, h63, by omega, fun lr zr ps H5 s5 nlr e5 F5 pL pB hpl => ?_⟩⟩
    · have e1 : (4 : Int) + (M : Int) * (0 + (i : Int)) = ((4 + M * i : Nat) : Int) := by rw [Int.natCast_add, Int.natCast_mul, Int.zero_add]; rfl
      show [V.ref a, V.int ((4 : Int) + (M : Int) * (0 + (i : Int))), V.int (M : Int), V.bl false] = _
      rw [e1]
    have e4' := s5 _ _ e4
    have lz := hX.length
    have ne : lr ≠ D1 := ne_heap nlr e4
    refine ⟨e4', small1000 (by omega), hC _ _ ⟨(s4.trans s5).change hD1, upd_same, nodup_new hX nlr nd4, X ++ [ps], ((hX.same s5).app (.cons (same_none s4 nlr) ne e5 F5 .nil)).upd e4', fun row hr' => ?_, by simp [hlen]⟩⟩
    rcases List.mem_append.mp hr' with z | z
    · exact hP row z
    · have : row = ps := by simpa using z
      rw [this]; exact ⟨pL, pB, hpl⟩
  rintro us H1 ⟨s1, e1, nd1, X, X1, hP, hxl⟩
  subst hxl
  have lus := X1.length
  have mm : X.length * X.length ≤ 4 * 4 := Nat.mul_le_mul hM4 hM4
  -- factors
  refine ⟨_, rfl, (X.length : Int), rfl, by omega, by omega, fun D2 hD2 => ?_⟩
  rw [Int.toNat_natCast]
  have sD2 := same_new hD2 (.lst [])
  refine comp_range (n := X.length) (fun i zs H' => Same H1 H' ∧ H' D2 = some (.lst zs) ∧ ∃ ps, Fqs K H' zs ps ∧ Mq.AllLow ps ∧ (∀ p ∈ ps, Mq.Bd 4 p) ∧ ps.length = i) ⟨sD2, upd_same, [], .nil, fun _ h => by simp at h, fun _ h => by simp at h, rfl⟩ (fun i zs H' h => h.2.1) ?_ ?_
  · rintro i zs H4 hi ⟨s4, e4, ps, hF, pL, pB, hlen⟩ C hC
    refine ⟨keep1.1, keep1.2, iteT ?_⟩
    have em : (4 : Int) + (X.length : Int) * (X.length : Int) + (0 + (i : Int)) = ((4 + X.length * X.length + i : Nat) : Int) := by rw [Int.natCast_add, Int.natCast_add, Int.natCast_mul, Int.zero_add]; rfl
    refine ⟨_, rfl, _, rfl, _, rfl, rd_mulB (n := 40) (m := 40) (B_of (by omega) (by omega)) (B_of (by omega) (by omega)) (by omega) (by omega) ⟨_, _, rfl, rfl, _, rfl, _, _, rfl, rfl, a, ns, _, 4 + X.length * X.length + i, rfl, em, (s1.trans s4).seq hS, h63, by omega, fun v H5 s5 => ?_⟩⟩
    refine ⟨v, rfl, fun p hp bp r H6 s6 e6 => ?_⟩
    have sx := s5.trans s6
    have e4' := sx _ _ e4
    have lz := hF.length
    refine ⟨e4', small1000 (by omega), hC _ _ ⟨(s4.trans sx).change hD2, upd_same, ps ++ [p], ((hF.same sx).app (.cons (Fq.of e6) .nil)).upd e4', fun p' h' => ?_, fun p' h' => ?_, by simp [hlen]⟩⟩
    · rcases List.mem_append.mp h' with z | z
      · exact pL p' z
      · have : p' = p := by simpa using z
        rw [this]; exact hp
    · rcases List.mem_append.mp h' with z | z
      · exact pB p' z
      · have : p' = p := by simpa using z
        rw [this]; exact bp
  rintro zf0 H2 ⟨s2, e2, fs0, F2, fL0, fB0, fl0⟩
  have lf0 := F2.length
  -- at
  refine ⟨_, rfl, a, ns, 1, 1, rfl, rfl, (s1.trans s2).seq hS, h63, by omega, fun v3 H3 s3 => ⟨_, rfl, _, _, rfl, rfl, by omega, ?_⟩⟩
  have a1 := Int.fmod_nonneg_of_pos v3 (show (0 : Int) < (X.length : Int) by omega)
  have a2 := Int.fmod_lt_of_pos v3 (show (0 : Int) < (X.length : Int) by omega)
  obtain ⟨j, hj0⟩ : ∃ j : Nat, v3.fmod (X.length : Int) = (j : Int) := ⟨(v3.fmod (X.length : Int)).toNat, by omega⟩
  have hj : j < X.length := by omega
  show tSeq _ _ _ [some (.ref a), some (.int ((X.length : Nat) : Int)), some (.ref D1), some (.ref D2), some (.int (v3.fmod (X.length : Int))), none] H3
  rw [hj0]
  clear a1 a2 hj0
  refine ⟨by show 2 ≤ sizeLine; decide, fun t0 ht0 => ?_⟩
  have s4 := same_new ht0 (.tup [.int 0, .int 1])
  have f4 : Fq K (upd H3 t0 (.tup [.int 0, .int 1])) t0 (0, 1) := Fq.of upd_same
  generalize upd H3 t0 (.tup [.int 0, .int 1]) = H4 at s4 f4 ⊢
  have s24 := s3.trans s4
  have e24 := s24 _ _ e2
  refine ⟨_, rfl, _, rfl, D2, zf0, _, j, rfl, rfl, e24, ixN_nat (by omega), ?_⟩
  have Ff := (Fqs.set f4 j (F2.same s24)).upd (o := .lst (zf0.set j (.ref t0))) e24
  have sF : Same H1 (upd H4 D2 (.lst (zf0.set j (.ref t0)))) := (s2.trans s24).change hD2
  have eF : upd H4 D2 (.lst (zf0.set j (.ref t0))) D2 = some (.lst (zf0.set j (.ref t0))) := upd_same
  have fL : Mq.AllLow (fs0.set j (0, 1)) := mem_set fL0 Mq.low01
  have fB : ∀ p ∈ fs0.set j (0, 1), Mq.Bd 4 p := mem_set fB0 ⟨show (0 : Nat) < 2 ^ 4 by decide, show (1 : Nat) < 2 ^ 4 by decide⟩
  have fl : (fs0.set j (0, 1)).length = X.length := by rw [List.length_set]; exact fl0
  have fz : Mq.val ((fs0.set j (0, 1)).getD j Mq.z0) = 0 := by rw [getQ_set (by omega), if_pos rfl]; exact val01
  generalize fs0.set j (0, 1) = fs at Ff fL fB fl fz
  generalize zf0.set j (.ref t0) = zf at Ff sF eF ⊢
  generalize upd H4 D2 (.lst zf) = H5 at Ff sF eF ⊢
  clear s4 f4 s24 e24 fL0 fB0 fl0 lf0 F2 e2 s2 s3 ht0
  have XF := X1.same sF
  have eM := sF _ _ e1
  have lzf := Ff.length
  have sHF := s1.trans sF
  refine ⟨_, rfl, a, ns, 2, 2, rfl, rfl, sHF.seq hS, h63, by omega, fun v6 H6 s6 => ⟨_, _, rfl, rfl, (show (0 : Int) < 3 by decide), rfl, _, rfl, ite2 (fun _ => ?_) (fun _ => ?_)⟩⟩
  · -- a column
    refine ⟨_, rfl, D1, rfl, ⟨_, SqL.of (s6 _ _ eM)⟩, ?_⟩
    have away : ∀ x ∈ us, x ≠ .ref D2 := fun x hx z => by
      obtain ⟨u, ys, rfl, _, _, eu, _⟩ := X1.mem x hx
      have : u = D2 := by injection z
      rw [this, hD2] at eu; cases eu
    refine for_list (xs := us) (fun i σ H' => Same H H' ∧ (∃ z5, σ = [some (.ref a), some (.int (X.length : Int)), some (.ref D1), some (.ref D2), some (.int (j : Int)), z5]) ∧ H' D1 = some (.lst us) ∧ H' D2 = some (.lst zf) ∧ Fqs K H' zf fs ∧ ∃ Y, Fmd K H D1 H' us Y ∧ Drn 73 Y X.length ∧ Hng X fs j i Y) ⟨sHF.trans s6, ⟨none, rfl⟩, s6 _ _ eM, s6 _ _ eF, Ff.same s6, X, XF.same s6, fun row hr' => ⟨(hP row hr').1, fun p hp => ((hP row hr').2.1 p hp).mono (by omega), (hP row hr').2.2⟩, rfl, fun _ _ => rfl, fun _ _ _ _ => rfl, fun _ h => absurd h (Nat.not_lt_zero _)⟩ (fun i σ H' _ h => SqL.of h.2.2.1) ?_ ?_
    · rintro i x σ H7 hx ⟨s7, ⟨z5, rfl⟩, eM7, eF7, F7, Y, Y7, hPY, hg⟩
      obtain ⟨u, ys, row, rfl, er, n0, nD, eu, fu⟩ := Y7.get hx
      have hi : i < X.length := by
        have := (List.getElem?_eq_some_iff.mp hx).1
        omega
      have erow : row = X.getD i [] := by
        have := hg.late i (Nat.le_refl _)
        rw [← this, List.getD_eq_getElem?_getD, er]; rfl
      obtain ⟨rL, rB, rl⟩ := hP _ (List.mem_of_getElem? (getR hi))
      rw [← erow] at rL rB rl
      have lys := fu.length
      refine ⟨_, rfl, _, rfl, D2, u, zf, ys, fs, row, 4, 4, rfl, SqL.of eF7, F7, SqL.of eu, fu, fB, rB, fL.pos, rL.pos, by omega, by rw [fl]; omega, by rw [fl, rl], fun r p H8 s8 fp pL pB pv => ?_⟩
      have eu8 := s8 _ _ eu
      rw [fl] at pB pv
      refine ⟨_, rfl, _, rfl, u, ys, _, j, rfl, rfl, eu8, ixN_nat (by omega), ?_⟩
      have FR := (Fqs.set fp j (fu.same s8)).upd (o := .lst (ys.set j (.ref r))) eu8
      have nu2 : D2 ≠ u := fun z => away _ (List.mem_of_getElem? hx) (by rw [z])
      refine ⟨(s7.trans s8).change n0, ⟨_, rfl⟩, ?_, ?_, (F7.same s8).upd eu8, Y.set i (row.set j p), (Y7.same s8).setRow eu8 FR nd1 hx, ?_, ?_⟩
      · rw [upd_ne (fun z => nD z.symm)]; exact s8 _ _ eM7
      · rw [upd_ne nu2]; exact s8 _ _ eF7
      · exact hPY.set (Nat.le_refl _) (mem_set rL pL) (mem_set (fun p' hp' => (rB p' hp').mono (by omega)) (pB.mono (by omega))) (by rw [List.length_set]; exact rl)
      · rw [erow]
        exact hg.step hi (by rw [← erow]; omega) (by rw [pv, erow]; rfl)
    · rintro σ H7 ⟨s7, ⟨z5, rfl⟩, eM7, eF7, F7, Y, Y7, hPY, hg⟩
      refine ⟨_, rfl, q D1 us Y H7 s7 hD1 eM7 Y7.mx hPY hg.len ?_⟩
      exact wgt_depC (f := fun t => Mq.val (fs.getD t Mq.z0)) hM4 hg.len hj fz (fun k hk => hg.done k (by omega) hk) hg.off
  · -- a row
    have eM6 := s6 _ _ eM
    have eF6 := s6 _ _ eF
    have F6 := Ff.same s6
    have X6 := XF.same s6
    refine ⟨_, rfl, (X.length : Int), rfl, by omega, by omega, fun D3 hD3 => ?_⟩
    rw [Int.toNat_natCast]
    have sD3 := same_new hD3 (.lst [])
    refine comp_range (n := X.length) (fun i zs H' => Same H6 H' ∧ H' D3 = some (.lst zs) ∧ ∃ ps, Fqs K H' zs ps ∧ Mq.AllLow ps ∧ (∀ p ∈ ps, Mq.Bd 73 p) ∧ ps.length = i ∧ ∀ t, t < i → Mq.val (ps.getD t Mq.z0) = Mq.rs X.length fun k => Mq.val (fs.getD k Mq.z0) * matX X k t) ⟨sD3, upd_same, [], .nil, fun _ h => by simp at h, fun _ h => by simp at h, rfl, fun _ h => absurd h (Nat.not_lt_zero _)⟩ (fun i zs H' h => h.2.1) ?_ ?_
    · rintro i zs H7 hi ⟨s7, e7, ps, hF, pL, pB, hlen, pv⟩ C hC
      refine ⟨keep1.1, keep1.2, iteT ?_⟩
      refine ⟨_, rfl, _, rfl, D1, rfl, ⟨_, SqL.of (s7 _ _ eM6)⟩, fun D4 hD4 => ?_⟩
      have sD4 := same_new hD4 (.lst [])
      refine comp_list (xs := us) (fun k ws H' => Same H7 H' ∧ H' D4 = some (.lst ws) ∧ Fqs K H' ws ((col X i).take k)) ⟨sD4, upd_same, .nil⟩ (fun k ws H' h => h.2.1) (fun k ws H' _ h => SqL.of (h.1 _ _ (s7 _ _ eM6))) ?_ ?_
      · rintro k ws x H8 hx ⟨s8, e8, F8⟩ C hC
        obtain ⟨u, ys, row, rfl, er, n0, nD, eu, fu⟩ := X6.get hx
        have hk : k < X.length := (List.getElem?_eq_some_iff.mp er).1
        have rl := (hP row (List.mem_of_getElem? er)).2.2
        have lw := F8.length
        rw [List.length_take] at lw
        have lc : (col X i).length = X.length := List.length_map _
        have sA := s7.trans s8
        obtain ⟨v, av, fv⟩ := (fu.same sA).at (Mq.getQ (j := i) (by omega))
        refine ⟨keep1.1, keep1.2, iteT ?_⟩
        have av' : atI ys (0 + (i : Int)) = some (.ref v) := by rw [Int.zero_add]; exact atI_nat av
        refine ⟨_, rfl, _, rfl, u, ys, _, _, rfl, rfl, SqL.of (sA _ _ eu), av', ?_⟩
        refine ⟨e8, small1000 (by omega), hC _ _ ⟨s8.change hD4, upd_same, ?_⟩⟩
        have ec : (col X i)[k]? = some (row.getD i Mq.z0) := by unfold col; rw [List.getElem?_map, er]; rfl
        rw [List.take_add_one, ec]
        exact (F8.app (.cons fv .nil)).upd e8
      rintro ws H8 ⟨s8, e8, F8⟩
      have lc : (col X i).length = X.length := List.length_map _
      rw [lus, ← lc, List.take_length] at F8
      have cL : ∀ p ∈ col X i, Mq.Low p ∧ Mq.Bd 4 p := fun p hp => by
        unfold col at hp
        obtain ⟨row, hr', rfl⟩ := List.mem_map.mp hp
        obtain ⟨a1, a2, a3⟩ := hP row hr'
        have mem : row.getD i Mq.z0 ∈ row := List.mem_of_getElem? (Mq.getQ (by omega))
        exact ⟨a1 _ mem, a2 _ mem⟩
      have s68 := s7.trans s8
      refine ⟨D2, D4, zf, ws, fs, col X i, 4, 4, rfl, SqL.of (s68 _ _ eF6), F6.same s68, SqL.of e8, F8, fB, fun p hp => (cL p hp).2, fL.pos, fun p hp => (cL p hp).1.pos, by omega, by rw [fl]; omega, by rw [fl, lc], fun r p H9 s9 fp qL qB qv => ?_⟩
      rw [fl] at qB qv
      have s79 := s8.trans s9
      have e7' := s79 _ _ e7
      have lz := hF.length
      refine ⟨e7', small1000 (by omega), hC _ _ ⟨(s7.trans s79).change hD3, upd_same, ps ++ [p], ((hF.same s79).app (.cons fp .nil)).upd e7', fun p' h' => ?_, fun p' h' => ?_, by simp [hlen], fun t ht => ?_⟩⟩
      · rcases List.mem_append.mp h' with z | z
        · exact pL p' z
        · have : p' = p := by simpa using z
          rw [this]; exact qL
      · rcases List.mem_append.mp h' with z | z
        · exact pB p' z
        · have : p' = p := by simpa using z
          rw [this]; exact qB.mono (by omega)
      · by_cases z : t < i
        · rw [List.getD_eq_getElem?_getD, List.getElem?_append_left (by omega), ← List.getD_eq_getElem?_getD]
          exact pv t z
        · have et : t = i := by omega
          rw [et, List.getD_eq_getElem?_getD, List.getElem?_append_right (by omega), hlen, Nat.sub_self]
          show Mq.val p = _
          rw [qv]
          exact Mq.rs_congr fun k hk => by rw [col_get hk]
    rintro zs H7 ⟨s7, e7, ps, hF, pL, pB, hlen, pv⟩
    have eM7 := s7 _ _ eM6
    refine ⟨_, rfl, _, rfl, D1, us, _, j, rfl, rfl, eM7, ixN_nat (by omega), ?_⟩
    have ne3 : D3 ≠ D1 := ne_heap hD3 eM6
    have XS := (Fmx.set ne3 (SqL.of e7) hF j (X6.mx.same s7)).upd (o := .lst (us.set j (.ref D3))) eM7
    refine ⟨_, rfl, q D1 _ (X.set j ps) _ ((sHF.trans (s6.trans s7)).change hD1) hD1 upd_same XS ?_ (List.length_set ..) ?_⟩
    · exact Drn.set hP (by omega) pL pB hlen
    · exact wgt_depR (f := fun t => Mq.val (fs.getD t Mq.z0)) hj fz fun t ht => pv t ht
end
end K25

set_option Elab.async false
set_option linter.all false
set_option maxRecDepth 100000
set_option maxHeartbeats 4000000
namespace K25
open PySem L2 Shp
section
variable {P : Program} {w : World} {K : PySem.W.Frag} {mg : Str → Option Value} {base : Heap} {f g1 g2 g3 g4 g5 g6 g7 g8 g9 g10 g11 : Addr} {fd gd1 gd2 gd3 gd4 gd5 gd6 gd7 gd8 gd9 gd10 gd11 : FuncData} {CX : CXT}
/-- what of the error's class is wanted where it is caught -/
structure LameC (K : PySem.W.Frag) (CL : Addr) : Prop where
  ex : ExcK K CL
  hd : PySem.W.hasDictIn K CL = true
  no : PySem.W.findIn K (.ref CL) "multiples" = some none
  xm : PySem.W.exmOne K (.ref CL) (.ref CL) = some true
structure BaseC (K : PySem.W.Frag) (mg : Str → Option Value) (CL : Addr) : Prop where
  oe : ∃ CO, mg "OhmError" = some (.ref CO) ∧ PySem.W.exmOne K (.ref CL) (.ref CO) = some true
  ve : mg "ValueError" = none ∧ PySem.W.kitOne K (.ref CL) (.type "ValueError") = some true
  t1 : ∃ c0 c1 c2 c3 c4 c5, mg "Floats" = some (.ref c0) ∧ mg "Held" = some (.ref c1) ∧ mg "Ring" = some (.ref c2) ∧ mg "NoNumber" = some (.ref c3) ∧ mg "NoSize" = some (.ref c4) ∧ mg "NoName" = some (.ref c5) ∧ PySem.W.kitAny K (.ref CL) [.ref c0, .ref c1, .ref c2, .ref c3, .ref c4, .ref c5] = some false
  t2 : ∃ d0 d1 d2 d3 d4 d5, mg "NoPoint" = some (.ref d0) ∧ mg "NoRow" = some (.ref d1) ∧ mg "NoWord" = some (.ref d2) ∧ mg "NoStreams" = some (.ref d3) ∧ mg "NoRoad" = some (.ref d4) ∧ mg "TooMany" = some (.ref d5) ∧ PySem.W.kitAny K (.ref CL) [.ref d0, .ref d1, .ref d2, .ref d3, .ref d4, .ref d5] = some false
def spLSolved (K : PySem.W.Frag) : Sp := fun vs H Q _ => ∃ (g b D : Addr) (H0 : Hp) (us bs : List V) (X : List (List Mq.Q2)) (qs : List Mq.Q2), vs = [.ref g, .ref b] ∧ SqL K H g us ∧ Fmd K H0 D H us X ∧ SqL K H b bs ∧ Fqs K H bs qs ∧ RtS X qs ∧ MxS X ∧ wgt X = 0 ∧ ∀ l zs ps H', Same H H' → H' l = some (.lst zs) → Fqs K H' zs ps → Null X ps → Q (.ref l) H'
def spPapered (K : PySem.W.Frag) : Sp := fun vs H Q _ => ∃ (g D : Addr) (us : List V) (X : List (List Mq.Q2)), vs = [.ref g] ∧ SqL K H g us ∧ Fmx K D H us X ∧ MxS X ∧ wgt X = 0 ∧ ∀ l zs ps H', Same H H' → H' l = some (.lst zs) → Fqs K H' zs ps → Null X ps → Q (.ref l) H'
def spBase (K : PySem.W.Frag) : Sp := fun vs H Q _ => ∃ (g b D : Addr) (H0 : Hp) (us bs : List V) (X : List (List Mq.Q2)) (qs : List Mq.Q2), vs = [.ref g, .ref b] ∧ SqL K H g us ∧ Fmd K H0 D H us X ∧ SqL K H b bs ∧ Fqs K H bs qs ∧ RtS X qs ∧ MxS X ∧ wgt X = 0 ∧ ∀ H', Same H H' → Q (.bl true) H'
abbrev sLSolved : Stmt := top 44
theorem scLSolved : FnScope ["_law_matrix", "_law_right", "_law_shown", "e"] ["_law_matrix", "_law_right"] (defScope sLSolved) := ⟨rfl, rfl, rfl, by decide +kernel, rfl, by decide +kernel, by decide +kernel⟩
theorem ok_lsolved {dV : Value} (F : FunD K "_law_solved" "_law_solved" sLSolved dV f fd)
    {CL : Addr} (mL : mg "Lame" = some (.ref CL)) (qC : LameC K CL)
    (G1 : FnOk P w K mg base (CX1 P w) 5 g1 gd1 ["matrix", "right"] (spSolvedS K CL)) (b1 : Binds K gd1 ["matrix", "right"] []) (k1 : PySem.W.keepIn K (.ref g1) = true) (m1 : mg "solved" = some (.ref g1)) :
    FnOk P w K mg base CX 6 f fd ["_law_matrix", "_law_right"] (spLSolved K) := by
  refine F.ok scLSolved (fun vs H Q E h => ?_) (fun cdv A outer s H vs Q E hr h => ?_)
  · obtain ⟨g, bR, D0, H00, us, bs, X, qs, rfl, hU, hX, hB, hQ, rt, mx, hz, q⟩ := h
    rfl
  obtain ⟨g, bR, D0, H00, us, bs, X, qs, rfl, hU, hX, hB, hQ, rt, mx, hz, q⟩ := h
  refine ⟨_, (pss_cons (ps_set (i := 2) scLSolved.nd rfl (Or.inl rfl) pe_non) (pss_cons (ps_try ⟨rfl, rfl, rfl⟩ (psxs_one (psx_expr (px_call G1 ⟨rfl, rfl, rfl⟩ hr rfl m1 k1 b1 .nil (pa_cons (pv 0) (pa_cons (pv 1) pa_nil))))) pss_nil
      (ph_as (j := 3) ⟨rfl, rfl, rfl⟩ scLSolved.nd rfl rfl rfl (.inl mL) (fun a => pss_one (ps_set (i := 2) scLSolved.nd rfl (Or.inl rfl) (pe_fldXK (K := K) rfl (pv 3) rfl))) ph_never)) (pss_one (ps_ret (pv 2))))), ?_⟩
  refine ⟨_, rfl, _, rfl, g, bR, D0, H00, us, bs, X, qs, rfl, hU, hX, hB, hQ, rt, mx, fun l zs ps H1 s1 hz2 => absurd hz hz2, fun dx l zs ps H1 s1 _ ed nl e1 F1 N1 => ?_⟩
  intro a ha
  refine ⟨true, qC.xm, ?_⟩
  rw [if_pos rfl]
  have sa := same_new ha (excO a (.ref CL) (some dx))
  refine ⟨_, rfl, a, CL, dx, [("multiples", .ref l)], .ref l, rfl, upd_same, sa _ _ ed, qC.ex, qC.hd, qC.no, rfl, ?_⟩
  generalize upd H1 a (excO a (.ref CL) (some dx)) = H2 at sa ⊢
  exact ⟨_, rfl, q l zs ps H2 (s1.trans sa) (sa _ _ e1) (F1.same sa) N1⟩
abbrev sPap : Stmt := top 45
theorem scPap : FnScope ["_law_matrix", "_law_shown", "e"] ["_law_matrix"] (defScope sPap) := ⟨rfl, rfl, rfl, by decide +kernel, rfl, by decide +kernel, by decide +kernel⟩
theorem ok_pap {dV : Value} (F : FunD K "_law_papered" "_law_papered" sPap dV f fd)
    {CL : Addr} (mL : mg "Lame" = some (.ref CL)) (qC : LameC K CL)
    (G1 : FnOk P w K mg base (CX1 P w) 5 g1 gd1 ["matrix"] (spMultS K CL)) (b1 : Binds K gd1 ["matrix"] []) (k1 : PySem.W.keepIn K (.ref g1) = true) (m1 : mg "multiples" = some (.ref g1)) :
    FnOk P w K mg base CX 6 f fd ["_law_matrix"] (spPapered K) := by
  refine F.ok scPap (fun vs H Q E h => ?_) (fun cdv A outer s H vs Q E hr h => ?_)
  · obtain ⟨g, D0, us, X, rfl, hU, hX, mx, hz, q⟩ := h
    rfl
  obtain ⟨g, D0, us, X, rfl, hU, hX, mx, hz, q⟩ := h
  refine ⟨_, (pss_cons (ps_set (i := 1) scPap.nd rfl (Or.inl rfl) pe_non) (pss_cons (ps_try ⟨rfl, rfl, rfl⟩ (psxs_one (psx_expr (px_call G1 ⟨rfl, rfl, rfl⟩ hr rfl m1 k1 b1 .nil (pa_cons (pv 0) pa_nil)))) pss_nil
      (ph_as (j := 2) ⟨rfl, rfl, rfl⟩ scPap.nd rfl rfl rfl (.inl mL) (fun a => pss_one (ps_set (i := 1) scPap.nd rfl (Or.inl rfl) (pe_fldXK (K := K) rfl (pv 2) rfl))) ph_never)) (pss_one (ps_ret (pv 1))))), ?_⟩
  refine ⟨_, rfl, g, D0, us, X, rfl, hU, hX, mx, fun l zs Y H1 s1 hz2 => absurd hz hz2, fun dx l zs ps H1 s1 _ ed nl e1 F1 N1 => ?_⟩
  intro a ha
  refine ⟨true, qC.xm, ?_⟩
  rw [if_pos rfl]
  have sa := same_new ha (excO a (.ref CL) (some dx))
  refine ⟨_, rfl, a, CL, dx, [("multiples", .ref l)], .ref l, rfl, upd_same, sa _ _ ed, qC.ex, qC.hd, qC.no, rfl, ?_⟩
  generalize upd H1 a (excO a (.ref CL) (some dx)) = H2 at sa ⊢
  exact ⟨_, rfl, q l zs ps H2 (s1.trans sa) (sa _ _ e1) (F1.same sa) N1⟩
abbrev sBase : Stmt := top 46
theorem scBase : FnScope ["_law_matrix", "_law_right", "_law_kept", "e"] ["_law_matrix", "_law_right"] (defScope sBase) := ⟨rfl, rfl, rfl, by decide +kernel, rfl, by decide +kernel, by decide +kernel⟩
theorem ok_base {dV : Value} (F : FunD K "_law_base" "_law_base" sBase dV f fd)
    (b : Bl mg) {CL : Addr} (qC : LameC K CL) (c : BaseC K mg CL)
    (G1 : FnOk P w K mg base (CX1 P w) 5 g1 gd1 ["matrix", "right"] (spSolvedS K CL)) (b1 : Binds K gd1 ["matrix", "right"] []) (k1 : PySem.W.keepIn K (.ref g1) = true) (m1 : mg "solved" = some (.ref g1)) :
    FnOk P w K mg base CX 6 f fd ["_law_matrix", "_law_right"] (spBase K) := by
  refine F.ok scBase (fun vs H Q E h => ?_) (fun cdv A outer s H vs Q E hr h => ?_)
  · obtain ⟨g, bR, D0, H00, us, bs, X, qs, rfl, hU, hX, hB, hQ, rt, mx, hz, q⟩ := h
    rfl
  obtain ⟨g, bR, D0, H00, us, bs, X, qs, rfl, hU, hX, hB, hQ, rt, mx, hz, q⟩ := h
  obtain ⟨CO, mO, eO⟩ := c.oe
  obtain ⟨mV, eV⟩ := c.ve
  obtain ⟨c0, c1, c2, c3, c4, c5, n0, n1, n2, n3, n4, n5, k1'⟩ := c.t1
  obtain ⟨d0, d1, d2, d3, d4, d5, o0, o1, o2, o3, o4, o5, k2'⟩ := c.t2
  refine ⟨_, (pss_cons (ps_set (i := 2) scBase.nd rfl (Or.inl rfl) pe_non) (pss_cons (ps_try ⟨rfl, rfl, rfl⟩ (psxs_one (psx_expr (px_call G1 ⟨rfl, rfl, rfl⟩ hr rfl m1 k1 b1 .nil (pa_cons (pv 0) (pa_cons (pv 1) pa_nil))))) pss_nil
      (ph_as (j := 3) ⟨rfl, rfl, rfl⟩ scBase.nd rfl rfl rfl (.inl mO) (fun a => pss_one (ps_set (i := 2) scBase.nd rfl (Or.inl rfl) (pv 3))) ph_never))
    (pss_cons (ps_if (PW.pt (pw_or (pt_not (pt_val (pe_callB call_isiXd rfl b.isi PyProof.Rows.boot_isinstance (pa_cons (pv 2) (pa_cons (pe_bltn (v := .ty "ValueError") rfl mV PyProof.Rows.Boot.«ValueError» rfl) pa_nil))))) (pw_or1 (pt_val (pe_callB call_isiXTd rfl b.isi PyProof.Rows.boot_isinstance (pa_cons (pv 2) (pa_cons (pe_tup (pa_cons (pe_cls rfl n0) (pa_cons (pe_cls rfl n1) (pa_cons (pe_cls rfl n2) (pa_cons (pe_cls rfl n3) (pa_cons (pe_cls rfl n4) (pa_cons (pe_cls rfl n5) pa_nil))))))) pa_nil))))))) (pss_one (ps_ret pe_bl)) pss_nil)
    (pss_one (ps_ret (pe_not (pe_callB call_isiXTd rfl b.isi PyProof.Rows.boot_isinstance (pa_cons (pv 2) (pa_cons (pe_tup (pa_cons (pe_cls rfl o0) (pa_cons (pe_cls rfl o1) (pa_cons (pe_cls rfl o2) (pa_cons (pe_cls rfl o3) (pa_cons (pe_cls rfl o4) (pa_cons (pe_cls rfl o5) pa_nil))))))) pa_nil))))))))), ?_⟩
  refine ⟨_, rfl, _, rfl, g, bR, D0, H00, us, bs, X, qs, rfl, hU, hX, hB, hQ, rt, mx, fun l zs ps H1 s1 hz2 => absurd hz hz2, fun dx l zs ps H1 s1 _ ed nl e1 F1 N1 => ?_⟩
  intro a ha
  refine ⟨true, eO, ?_⟩
  rw [if_pos rfl]
  refine ⟨_, rfl, ?_⟩
  have sa := same_new ha (excO a (.ref CL) (some dx))
  have ea : upd H1 a (excO a (.ref CL) (some dx)) a = some (excO a (.ref CL) (some dx)) := upd_same
  generalize upd H1 a (excO a (.ref CL) (some dx)) = H2 at sa ea ⊢
  have ed2 := sa _ _ ed
  refine ⟨_, rfl, a, CL, dx, _, _, _, true, rfl, ea, ed2, qC.ex, rfl, fun _ h => h, eV, _, rfl, iteF ?_⟩
  refine ⟨_, rfl, by show 6 ≤ sizeLine; decide, fun p hp => ?_⟩
  have s2 := same_new hp (.tup [.ref c0, .ref c1, .ref c2, .ref c3, .ref c4, .ref c5])
  refine ⟨a, CL, dx, _, p, [c0, c1, c2, c3, c4, c5], false, rfl, s2 _ _ ea, s2 _ _ ed2, qC.ex, upd_same, k1', _, rfl, iteF ?_⟩
  refine ⟨_, rfl, by show 6 ≤ sizeLine; decide, fun p' hp' => ?_⟩
  have s3 := same_new hp' (.tup [.ref d0, .ref d1, .ref d2, .ref d3, .ref d4, .ref d5])
  refine ⟨a, CL, dx, _, p', [d0, d1, d2, d3, d4, d5], false, rfl, s3 _ _ (s2 _ _ ea), s3 _ _ (s2 _ _ ed2), qC.ex, upd_same, k2', _, rfl, ?_⟩
  exact q _ (s1.trans (sa.trans (s2.trans s3)))
end
end K25

set_option Elab.async false
set_option linter.all false
set_option maxRecDepth 100000
set_option maxHeartbeats 4000000
namespace K25
open PySem L2 Shp
section
variable {P : Program} {w : World} {K : PySem.W.Frag} {mg : Str → Option Value} {base : Heap} {f g1 g2 g3 g4 g5 g6 g7 g8 g9 g10 g11 : Addr} {fd gd1 gd2 gd3 gd4 gd5 gd6 gd7 gd8 gd9 gd10 gd11 : FuncData} {CX : CXT}
theorem fqs_repl {K : PySem.W.Frag} {H : Hp} {t : Addr} {p : Mq.Q2} (f : Fq K H t p) : ∀ n, Fqs K H (List.replicate n (.ref t)) (List.replicate n p)
  | 0 => .nil
  | n + 1 => .cons f (fqs_repl f n)
theorem flat_one (x : V) : ∀ n, (List.replicate n [x]).flatten = List.replicate n x
  | 0 => rfl
  | n + 1 => by rw [List.replicate_succ, List.flatten_cons, flat_one x n]; rfl
theorem two_lay (X : List (List Mq.Q2)) (p : List Mq.Q2) : (PyData.list [.list (X.map lqd), .list (p.map qd)]).canLay0 = true := by
  simp [PyData.canLay0, PyData.canLayAll0, lqds_lay, qds_lay]
theorem two_depth (X : List (List Mq.Q2)) (p : List Mq.Q2) : (PyData.list [.list (X.map lqd), .list (p.map qd)]).depth ≤ 16 := by
  have h1 := lqds_depth X
  have h2 := list_depth p
  simp only [PyData.depth, PyData.depthAll] at h2 ⊢
  omega
theorem ext_low {ps qs : List Mq.Q2} (hl : ps.length = qs.length) (hp : Mq.AllLow ps) (hq : Mq.AllLow qs) (h : ∀ j, j < ps.length → Mq.val (ps.getD j Mq.z0) = Mq.val (qs.getD j Mq.z0)) : ps = qs := by
  refine List.ext_getElem? fun i => ?_
  by_cases hi : i < ps.length
  · rw [Mq.getQ hi, Mq.getQ (show i < qs.length by omega)]
    congr 1
    exact Mq.low_ext (hp _ (List.mem_of_getElem? (Mq.getQ hi))) (hq _ (List.mem_of_getElem? (Mq.getQ (by omega)))) (h i hi)
  · rw [List.getElem?_eq_none (by omega), List.getElem?_eq_none (by omega)]
def spSolvedC (K : PySem.W.Frag) (CL : Addr) : Sp := fun vs H Q _ => spSolvedS K CL vs H Q (fun _ _ _ => False)
theorem repl_low {p : Mq.Q2} (h : Mq.Low p) (n : Nat) : Mq.AllLow (List.replicate n p) := fun q hq => by rw [List.eq_of_mem_replicate hq]; exact h
theorem repl_bd {p : Mq.Q2} {m : Nat} (h : Mq.Bd m p) (n : Nat) : ∀ q ∈ List.replicate n p, Mq.Bd m q := fun q hq => by rw [List.eq_of_mem_replicate hq]; exact h
theorem low11 : Mq.Low (1, 1) := ⟨by decide, by decide⟩
theorem bd01 : Mq.Bd 1 (0, 1) := ⟨show (0 : Nat) < 2 ^ 1 by decide, show (1 : Nat) < 2 ^ 1 by decide⟩
theorem bd11 : Mq.Bd 1 (1, 1) := ⟨show (1 : Nat) < 2 ^ 1 by decide, show (1 : Nat) < 2 ^ 1 by decide⟩
theorem low_nought {p : Mq.Q2} (h : Mq.Low p) (v : Mq.val p = 0) : p = (0, 1) := Mq.low_ext h Mq.low01 (by rw [v, val01])
def thr : List (List Mq.Q2) := [[(3, 1)]]
theorem wgt_thr : wgt thr ≠ 0 := by
  have : wgt thr = 3 := by
    show Mq.rs 1 (fun j => Mq.sgn (0 + j) * Mq.val ((thr.getD 0 []).getD j Mq.z0) * 1) = 3
    show (0 : Rat) + Mq.sgn 0 * Mq.val (3, 1) * 1 = 3
    unfold Mq.sgn Mq.val
    simp
    grind
  rw [this]; decide
theorem slv_thr {q : Mq.Q2} {ps : List Mq.Q2} (hq : Mq.Low q) (s : Slv thr [q] ps) : ps = [Mq.red q.1 (3 * q.2)] := by
  have h := s.sum 0 (by show 0 < 1; decide)
  have hl : ps.length = 1 := s.len
  have qp := hq.pos
  refine ext_low (by rw [hl]; rfl) s.low (fun p hp => by
    have : p = Mq.red q.1 (3 * q.2) := by simpa using hp
    rw [this]; exact Mq.red_low (by omega)) fun j hj => ?_
  have ej : j = 0 := by omega
  rw [ej]
  show _ = Mq.val (Mq.red q.1 (3 * q.2))
  rw [Mq.val_red (by omega)]
  have h' : (0 : Rat) + Mq.val (3, 1) * Mq.val (ps.getD 0 Mq.z0) = Mq.val q := h
  have n1 := Mq.cast_ne (show q.2 ≠ 0 by omega)
  have n2 : ((3 * q.2 : Int) : Rat) = 3 * (q.2 : Rat) := by rw [Rat.intCast_mul]; rfl
  unfold Mq.val at h' ⊢
  rw [n2]
  have e3 : ((3, 1) : Mq.Q2).1 = 3 := rfl
  have e4 : ((3, 1) : Mq.Q2).2 = 1 := rfl
  rw [e3, e4] at h'
  have e5 : ((3 : Int) : Rat) = 3 := rfl
  have e6 : ((1 : Int) : Rat) = 1 := rfl
  rw [e5, e6] at h'
  generalize ((ps.getD 0 Mq.z0).1 : Rat) / ((ps.getD 0 Mq.z0).2 : Rat) = y at h' ⊢
  generalize (q.1 : Rat) = u at h' ⊢
  generalize (q.2 : Rat) = v at h' n1 ⊢
  grind
theorem Lnd_row_here_many : (["_law_row_here", "_law_many"] : List Str).Nodup := by decide +kernel
theorem Lnd_row_here : (["_law_row_here"] : List Str).Nodup := by decide +kernel
abbrev sLaw : Stmt := top 47
theorem scLaw : FnScope ["_law_script", "_law_many", "_law_matrix", "_law_right", "_law_handed"] ["_law_script"] (defScope sLaw) := ⟨rfl, rfl, rfl, by decide +kernel, rfl, by decide +kernel, by decide +kernel⟩
theorem ok_law {dV : Value} (F : FunD K "law" "law" sLaw dV f fd)
    (b : Bl mg) (mli : mg "list" = none) {CL : Addr}
    (G1 : FnOk P w K mg base CX0 1 g1 gd1 ["_law_script", "_law_k"] (spNth K)) (b1 : Binds K gd1 ["_law_script", "_law_k"] []) (k1 : PySem.W.keepIn K (.ref g1) = true) (m1 : mg "_law_nth" = some (.ref g1))
    (G2 : FnOk P w K mg base CX0 5 g2 gd2 ["_law_script", "_law_many"] (spHung K)) (b2 : Binds K gd2 ["_law_script", "_law_many"] []) (k2 : PySem.W.keepIn K (.ref g2) = true) (m2 : mg "_law_hung" = some (.ref g2))
    (G3 : FnOk P w K mg base CX0 3 g3 gd3 ["_law_some", "_law_others"] (spSumL K)) (b3 : Binds K gd3 ["_law_some", "_law_others"] []) (k3 : PySem.W.keepIn K (.ref g3) = true) (m3 : mg "_law_sum" = some (.ref g3))
    (G4 : FnOk P w K mg base CX0 4 g4 gd4 ["_law_script", "_law_start", "_law_wide", "_law_far"] (spRow K)) (b4 : Binds K gd4 ["_law_script", "_law_start", "_law_wide", "_law_far"] []) (k4 : PySem.W.keepIn K (.ref g4) = true) (m4 : mg "_law_row" = some (.ref g4))
    (G5 : FnOk P w K mg base CX0 4 g5 gd5 ["_law_shown", "_law_matrix"] (spNullL K)) (b5 : Binds K gd5 ["_law_shown", "_law_matrix"] []) (k5 : PySem.W.keepIn K (.ref g5) = true) (m5 : mg "_law_null" = some (.ref g5))
    (G6 : FnOk P w K mg base CX0 6 g6 gd6 ["_law_matrix", "_law_right"] (spLSolved K)) (b6 : Binds K gd6 ["_law_matrix", "_law_right"] []) (k6 : PySem.W.keepIn K (.ref g6) = true) (m6 : mg "_law_solved" = some (.ref g6))
    (G7 : FnOk P w K mg base CX0 6 g7 gd7 ["_law_matrix", "_law_right"] (spBase K)) (b7 : Binds K gd7 ["_law_matrix", "_law_right"] []) (k7 : PySem.W.keepIn K (.ref g7) = true) (m7 : mg "_law_base" = some (.ref g7))
    (G8 : FnOk P w K mg base CX0 6 g8 gd8 ["_law_matrix"] (spPapered K)) (b8 : Binds K gd8 ["_law_matrix"] []) (k8 : PySem.W.keepIn K (.ref g8) = true) (m8 : mg "_law_papered" = some (.ref g8))
    (G9 : FnOk P w K mg base CX0 4 g9 gd9 ["matrix"] (spWeightS K)) (b9 : Binds K gd9 ["matrix"] []) (k9 : PySem.W.keepIn K (.ref g9) = true) (m9 : mg "weight" = some (.ref g9))
    (G10 : FnOk P w K mg base CX0 5 g10 gd10 ["matrix", "right"] (spSolvedC K CL)) (b10 : Binds K gd10 ["matrix", "right"] []) (k10 : PySem.W.keepIn K (.ref g10) = true) (m10 : mg "solved" = some (.ref g10))
    (G11 : FnOk P w K mg base CX0 2 g11 gd11 ["_law_top", "_law_bottom"] spLowP) (b11 : Binds K gd11 ["_law_top", "_law_bottom"] []) (k11 : PySem.W.keepIn K (.ref g11) = true) (m11 : mg "_law_lowest" = some (.ref g11)) :
    FnOk P w K mg base CX 7 f fd ["_law_script"] (spLaw K) := by
  refine F.ok scLaw (fun vs H Q E h => ?_) (fun cdv A outer s H vs Q E hr h => ?_)
  · obtain ⟨a, ns, rfl, hS, h63, q⟩ := h
    rfl
  obtain ⟨a, ns, rfl, hS, h63, q⟩ := h
  have hu := hr.units
  have r1 := hr.mono (show 1 ≤ 6 by omega)
  have r2 := hr.mono (show 2 ≤ 6 by omega)
  have r3 := hr.mono (show 3 ≤ 6 by omega)
  have r4 := hr.mono (show 4 ≤ 6 by omega)
  have r5 := hr.mono (show 5 ≤ 6 by omega)
  refine ⟨_, (pss_cons (ps_set (i := 1) scLaw.nd rfl (Or.inr rfl) (pe_op op_add pe_int (pe_op op_mod (pe_call G1 r1 rfl m1 k1 b1 .nil pass0 (pa_cons (pv 0) (pa_cons pe_int pa_nil))) pe_int)))
    (pss_cons (ps_set (i := 2) scLaw.nd rfl (Or.inl rfl) (pe_call G2 r5 rfl m2 k2 b2 .nil pass0 (pa_cons (pv 0) (pa_cons (pv 1) pa_nil))))
    (pss_cons (ps_set (i := 3) scLaw.nd rfl (Or.inl rfl) (pe_op op_rep (pe_lst (pa_cons (pe_tup (pa_cons pe_int (pa_cons pe_int pa_nil))) pa_nil)) (pv 1)))
    (pss_cons (ps_if (pt_cmpR op_eq (pe_op op_mod (pe_call G1 r1 rfl m1 k1 b1 .nil pass0 (pa_cons (pv 0) (pa_cons pe_int pa_nil))) pe_int) pe_int (nomark _)) (pss_one (ps_setC (i := 3) (nl := 1) (fr := [1]) (Nc := ["_law_row_here", "_law_many"]) (cl := [("_law_many", s.heap.objs.size + 1)]) scLaw.nd rfl rfl rfl ⟨rfl, rfl, by decide +kernel, by decide +kernel, fun x c h => h, has_of rfl, rfl, fun i n h => match i, h with | 0, h => by cases h; exact ⟨1, rfl, rfl, rfl, rfl, .inl rfl⟩ | k + 1, h => by rw [show 1 + (k + 1) = k + 2 by omega] at h; cases h⟩
        (pi_list (pv 2)) (fun C s3 H3 fp pins => (pg_name (i := 0) Lnd_row_here_many rfl (Or.inl rfl))) (fun C s3 H3 fp pins => pif_nil)
        (fun C s3 H3 fp pins => (pe_call G3 r3 rfl m3 k3 b3 .nil pass0 (pa_cons (pv 0) (pa_cons (pe_op op_rep (pe_lst (pa_cons (pe_tup (pa_cons pe_int (pa_cons pe_int pa_nil))) pa_nil)) (pv 1)) pa_nil)))) rfl)) pss_nil)
    (pss_cons (ps_if (pt_cmpR op_eq (pe_op op_mod (pe_call G1 r1 rfl m1 k1 b1 .nil pass0 (pa_cons (pv 0) (pa_cons pe_int pa_nil))) pe_int) pe_int (nomark _)) (pss_one (ps_set (i := 3) scLaw.nd rfl (Or.inl rfl) (pe_call G4 r4 rfl m4 k4 b4 .nil pass0 (pa_cons (pv 0) (pa_cons (pe_op op_add (pe_op op_add pe_int (pe_op op_mulB (pv 1) (pv 1))) (pv 1)) (pa_cons (pv 1) (pa_cons pe_bl pa_nil))))))) pss_nil)
    (pss_cons (ps_set (i := 4) scLaw.nd rfl (Or.inl rfl) (pe_lst (pa_cons (pe_comp (nl := 1) (fr := []) (Nc := ["_law_row_here"]) (cl := []) rfl ⟨rfl, rfl, by decide +kernel, by decide +kernel, fun x c h => (by cases h), has_of rfl, rfl, fun i n h => (by simp at h)⟩
        (pi_list (pv 2)) (fun C s3 H3 fp pins => (pg_name (i := 0) Lnd_row_here rfl (Or.inl rfl))) (fun C s3 H3 fp pins => pif_nil)
        (fun C s3 H3 fp pins => (pe_callTy (call_list_ofK (K := K) rfl) rfl mli PyProof.Rows.boot_list (pa_cons (pv 0) pa_nil)))) (pa_cons (pe_callTy call_list_of rfl mli PyProof.Rows.boot_list (pa_cons (pv 3) pa_nil)) pa_nil))))
    (pss_cons (ps_if (PW.pt (pw_or (pt_not (pt_val (pe_call G5 r4 rfl m5 k5 b5 .nil pass0 (pa_cons (pe_call G6 hr rfl m6 k6 b6 .nil pass0 (pa_cons (pe_ix ix_list (pv 4) pe_int (fun _ _ => rfl)) (pa_cons (pe_ix ix_list (pv 4) pe_int (fun _ _ => rfl)) pa_nil))) (pa_cons (pv 2) pa_nil))))) (pw_or1 (pt_not (pt_val (pe_call G7 hr rfl m7 k7 b7 .nil pass0 (pa_cons (pe_ix ix_list (pv 4) pe_int (fun _ _ => rfl)) (pa_cons (pe_ix ix_list (pv 4) pe_int (fun _ _ => rfl)) pa_nil)))))))) (pss_one (ps_ret pe_bl)) pss_nil)
    (pss_cons (ps_if (PW.pt (pw_or (pt_not (pt_val (pe_call G5 r4 rfl m5 k5 b5 .nil pass0 (pa_cons (pe_call G8 hr rfl m8 k8 b8 .nil pass0 (pa_cons (pe_ix ix_list (pv 4) pe_int (fun _ _ => rfl)) pa_nil)) (pa_cons (pv 2) pa_nil))))) (pw_or1 (pt_cmpR (op_neD hu) (pe_call G9 r4 rfl m9 k9 b9 .nil pass0 (pa_cons (pe_ix ix_list (pv 4) pe_int (fun _ _ => rfl)) pa_nil)) (pe_tup (pa_cons pe_int (pa_cons pe_int pa_nil))) (nomark _))))) (pss_one (ps_ret pe_bl)) pss_nil)
    (pss_cons (ps_if (PW.pt (pw_or (pt_cmpR (op_neD hu) (pv 4) (pe_lst (pa_cons (pv 2) (pa_cons (pv 3) pa_nil))) (nomark _)) (pw_or1 (pt_cmpR op_gt (pv 1) pe_int (nomark _))))) (pss_one (ps_ret (pe_cmpR (op_eqD hu) (pv 4) (pe_lst (pa_cons (pv 2) (pa_cons (pv 3) pa_nil))) (nomark _)))) pss_nil)
    (pss_one (ps_ret (pe_cmpR (op_eqD hu) (pe_call G10 r5 rfl m10 k10 b10 .nil pass0 (pa_cons (pe_lst (pa_cons (pe_lst (pa_cons (pe_tup (pa_cons pe_int (pa_cons pe_int pa_nil))) pa_nil)) pa_nil)) (pa_cons (pv 3) pa_nil))) (pe_lst (pa_cons (pe_call G11 r2 rfl m11 k11 b11 .nil pass0 (pa_cons (pe_ix ix_tup (pe_ix ix_list (pv 3) pe_int (fun _ _ => rfl)) pe_int (fun _ _ => rfl)) (pa_cons (pe_op op_mul pe_int (pe_ix ix_tup (pe_ix ix_list (pv 3) pe_int (fun _ _ => rfl)) pe_int (fun _ _ => rfl))) pa_nil))) pa_nil)) (nomark _))))))))))))), ?_⟩
  refine ⟨_, rfl, a, ns, 0, 0, rfl, rfl, hS, h63, by omega, fun v0 H0 s0 => ⟨_, _, rfl, rfl, (show (0 : Int) < 4 by decide), _, _, rfl, rfl, ?_⟩⟩
  have m1 := em_lo v0 (show (0 : Int) < 4 by decide)
  have m2 := em_hi v0 (show (0 : Int) < 4 by decide)
  obtain ⟨M, hM⟩ : ∃ M : Nat, 1 + v0 % 4 = (M : Int) := ⟨(1 + v0 % 4).toNat, by omega⟩
  have hM1 : 1 ≤ M := by omega
  have hM4 : M ≤ 4 := by omega
  show tSeq _ _ _ [some (.ref a), some (.int (1 + v0 % 4)), none, none, none] H0
  rw [hM]
  clear m1 m2 hM
  -- matrix
  refine ⟨_, rfl, _, rfl, a, ns, M, rfl, hM1, hM4, s0.seq hS, h63, fun lm us X HM sM nlm eM XM hP xl wg => ?_⟩
  subst xl
  have mx : MxS X := hP.ok hM4
  have lus := XM.length
  have sHM := s0.trans sM
  have mm : X.length * X.length ≤ 4 * 4 := Nat.mul_le_mul hM4 hM4
  -- right
  refine ⟨by show 2 ≤ sizeLine; decide, fun t0 ht0 => ?_⟩
  have st0 := same_new ht0 (.tup [.int 0, .int 1])
  have ft0 : Fq K (upd HM t0 (.tup [.int 0, .int 1])) t0 (0, 1) := Fq.of upd_same
  generalize upd HM t0 (.tup [.int 0, .int 1]) = Ht0 at st0 ft0 ⊢
  refine ⟨by show 1 ≤ sizeLine; decide, fun l0 hl0 => ?_⟩
  have sl0 := same_new hl0 (.lst [.ref t0])
  have el0 : upd Ht0 l0 (.lst [.ref t0]) l0 = some (.lst [.ref t0]) := upd_same
  generalize upd Ht0 l0 (.lst [.ref t0]) = Hl0 at sl0 el0 ⊢
  refine ⟨_, rfl, l0, (X.length : Int), [.ref t0], rfl, rfl, el0, by omega, by omega, ?_, fun rz hrz => ?_⟩
  · rw [Int.toNat_natCast, sizeLine_eq]; simp only [List.length_cons, List.length_nil]; omega
  rw [Int.toNat_natCast, flat_one]
  have srz := same_new hrz (.lst (List.replicate X.length (.ref t0)))
  have erz : upd Hl0 rz (.lst (List.replicate X.length (.ref t0))) rz = some (.lst (List.replicate X.length (.ref t0))) := upd_same
  have Frz : Fqs K (upd Hl0 rz (.lst (List.replicate X.length (.ref t0)))) (List.replicate X.length (.ref t0)) (List.replicate X.length (0, 1)) := fqs_repl ((sl0.trans srz).fq ft0) _
  generalize upd Hl0 rz (.lst (List.replicate X.length (.ref t0))) = HR0 at srz erz Frz ⊢
  have sR0 := (st0.trans sl0).trans srz
  have rt0 : RtS X (List.replicate X.length (0, 1)) := ⟨List.length_replicate, repl_low Mq.low01 _, repl_bd (bd01.mono (by omega)) _⟩
  refine (fun (hrest : ∀ (r : Addr) (Hx : Hp) (zr : List V) (qs : List Mq.Q2), Same HM Hx → Hx r = some (.lst zr) → Fqs K Hx zr qs → RtS X qs → PySem.W.KIN.Hid ((?T : Addr → Hp → Prop) r Hx)) => ?main) ?rest
  case main =>
    show tSeq _ _ _ [some (.ref a), some (.int ((X.length : Nat) : Int)), some (.ref lm), some (.ref rz), none] HR0
    refine ⟨_, rfl, a, ns, 3, 3, rfl, rfl, (sHM.trans sR0).seq hS, h63, by omega, fun v1 H1 s1 => ⟨_, _, rfl, rfl, (show (0 : Int) < 3 by decide), rfl, _, rfl, ite2 (fun _ => ?_) (fun _ => ?_)⟩⟩
    · have sR1 := sR0.trans s1
      have eM1 := sR1 _ _ eM
      have XM1 := XM.same sR1
      refine ⟨_, rfl, lm, rfl, ⟨_, SqL.of eM1⟩, fun DR hDR => ?_⟩
      have sDR := same_new hDR (.lst [])
      refine comp_list (xs := us) (fun i ws H' => Same H1 H' ∧ H' DR = some (.lst ws) ∧ ∃ qs, Fqs K H' ws qs ∧ Mq.AllLow qs ∧ (∀ p ∈ qs, Mq.Bd 340 p) ∧ qs.length = i) ⟨sDR, upd_same, [], .nil, fun _ h => by simp at h, fun _ h => by simp at h, rfl⟩ (fun i ws H' h => h.2.1) (fun i ws H' _ h => h.1.seq (SqL.of eM1)) ?_ ?_
      · rintro i ws x H3 hx ⟨s3, e3, qs, F3, qL, qB, ql⟩ C hC
        obtain ⟨u, ys, row, rfl, er, hu', fu⟩ := XM1.get hx
        have hi : i < X.length := (List.getElem?_eq_some_iff.mp er).1
        obtain ⟨rL, rB, rl⟩ := hP row (List.mem_of_getElem? er)
        refine ⟨keep1.1, keep1.2, iteT ?_⟩
        refine ⟨_, rfl, ?_⟩
        refine ⟨by show 2 ≤ sizeLine; decide, fun t1 ht1 => ?_⟩
        have st1 := same_new ht1 (.tup [.int 1, .int 1])
        have ft1 : Fq K (upd H3 t1 (.tup [.int 1, .int 1])) t1 (1, 1) := Fq.of upd_same
        generalize upd H3 t1 (.tup [.int 1, .int 1]) = Ht1 at st1 ft1 ⊢
        refine ⟨by show 1 ≤ sizeLine; decide, fun l1 hl1 => ?_⟩
        have sl1 := same_new hl1 (.lst [.ref t1])
        have el1 : upd Ht1 l1 (.lst [.ref t1]) l1 = some (.lst [.ref t1]) := upd_same
        generalize upd Ht1 l1 (.lst [.ref t1]) = Hl1 at sl1 el1 ⊢
        refine ⟨_, rfl, l1, (X.length : Int), [.ref t1], rfl, rfl, el1, by omega, by omega, ?_, fun rn hrn => ?_⟩
        · rw [Int.toNat_natCast, sizeLine_eq]; simp only [List.length_cons, List.length_nil]; omega
        rw [Int.toNat_natCast, flat_one]
        have srn := same_new hrn (.lst (List.replicate X.length (.ref t1)))
        have ern : upd Hl1 rn (.lst (List.replicate X.length (.ref t1))) rn = some (.lst (List.replicate X.length (.ref t1))) := upd_same
        have Frn : Fqs K (upd Hl1 rn (.lst (List.replicate X.length (.ref t1)))) (List.replicate X.length (.ref t1)) (List.replicate X.length (1, 1)) := fqs_repl ((sl1.trans srn).fq ft1) _
        generalize upd Hl1 rn (.lst (List.replicate X.length (.ref t1))) = H4 at srn ern Frn ⊢
        have s34 := (st1.trans sl1).trans srn
        refine ⟨u, rn, ys, _, row, _, 73, 1, rfl, (s3.trans s34).seq hu', fu.same (s3.trans s34), SqL.of ern, Frn, rB, repl_bd bd11 _, rL.pos, (repl_low low11 _).pos, by omega, by rw [rl]; omega, by rw [List.length_replicate, rl], fun r p H5 s5 f5 l5 b5 v5 => ?_⟩
        rw [rl] at b5
        have s35 := s34.trans s5
        have e3' := s35 _ _ e3
        have lz := F3.length
        refine ⟨e3', small1000 (by omega), hC _ _ ⟨(s3.trans s35).change hDR, upd_same, qs ++ [p], ((F3.same s35).app (.cons f5 .nil)).upd e3', fun p' h' => ?_, fun p' h' => ?_, by simp [ql]⟩⟩
        · rcases List.mem_append.mp h' with z | z
          · exact qL p' z
          · have : p' = p := by simpa using z
            rw [this]; exact l5
        · rcases List.mem_append.mp h' with z | z
          · exact qB p' z
          · have : p' = p := by simpa using z
            rw [this]; exact b5.mono (by omega)
      rintro wr H3 ⟨s3, e3, qs, F3, qL, qB, ql⟩
      rw [lus] at ql
      show tSeq _ _ _ [some (.ref a), some (.int ((X.length : Nat) : Int)), some (.ref lm), some (.ref DR), none] H3
      exact (hrest DR H3 wr qs (sR1.trans s3) e3 F3 ⟨ql, qL, qB⟩).out
    · show tSeq _ _ _ [some (.ref a), some (.int ((X.length : Nat) : Int)), some (.ref lm), some (.ref rz), none] H1
      exact (hrest rz H1 _ _ (sR0.trans s1) (s1 _ _ erz) (Frz.same s1) rt0).out
  case rest =>
  clear rt0 Frz erz
  intro r1' HA zr1 qs1 sA1 eA1 FA1 rtA1
  refine ⟨?_⟩
  refine (fun (hrest : ∀ (r : Addr) (Hx : Hp) (zr : List V) (qs : List Mq.Q2), Same HM Hx → Hx r = some (.lst zr) → Fqs K Hx zr qs → RtS X qs → PySem.W.KIN.Hid ((?T1 : Addr → Hp → Prop) r Hx)) => ?main1) ?rest1
  case main1 =>
    refine ⟨_, rfl, a, ns, 3, 3, rfl, rfl, (sHM.trans sA1).seq hS, h63, by omega, fun v1 H1 s1 => ⟨_, _, rfl, rfl, (show (0 : Int) < 3 by decide), rfl, _, rfl, ite2 (fun _ => ?_) (fun _ => ?_)⟩⟩
    · have em : (4 : Int) + (X.length : Int) * (X.length : Int) + (X.length : Int) = ((4 + X.length * X.length + X.length : Nat) : Int) := by rw [Int.natCast_add, Int.natCast_add, Int.natCast_mul]; rfl
      refine ⟨_, rfl, _, rfl, _, rfl, rd_mulB (n := 40) (m := 40) (B_of (by omega) (by omega)) (B_of (by omega) (by omega)) (by omega) (by omega) ⟨_, _, rfl, rfl, _, rfl, _, _, rfl, rfl, _, rfl, a, ns, 4 + X.length * X.length + X.length, X.length, ?_, ((sHM.trans sA1).trans s1).seq hS, h63, by omega, fun lr zr ps H5 s5 nlr e5 F5 pL pB hpl => ?_⟩⟩
      · show [V.ref a, V.int ((4 : Int) + (X.length : Int) * (X.length : Int) + (X.length : Int)), V.int (X.length : Int), V.bl false] = _
        rw [em]
      show tSeq _ _ _ [some (.ref a), some (.int ((X.length : Nat) : Int)), some (.ref lm), some (.ref lr), none] H5
      exact (hrest lr H5 zr ps (sA1.trans (s1.trans s5)) e5 F5 ⟨hpl, pL, fun p hp => (pB p hp).mono (by omega)⟩).out
    · show tSeq _ _ _ [some (.ref a), some (.int ((X.length : Nat) : Int)), some (.ref lm), some (.ref r1'), none] H1
      exact (hrest r1' H1 zr1 qs1 (sA1.trans s1) (s1 _ _ eA1) (FA1.same s1) rtA1).out
  case rest1 =>
  clear eA1 FA1 rtA1 sA1
  intro DR HR wr qs sR eR FR rt
  refine ⟨?_⟩
  have eMR := sR _ _ eM
  have XMR := XM.same sR
  have sHR := sHM.trans sR
  -- handed
  refine ⟨_, rfl, lm, rfl, ⟨_, SqL.of eMR⟩, fun D2 hD2 => ?_⟩
  have sD2 := same_new hD2 (.lst [])
  refine comp_list (xs := us) (fun i zs H' => Same HR H' ∧ H' D2 = some (.lst zs) ∧ Fmd K HR D2 H' zs (X.take i) ∧ zs.Nodup) ⟨sD2, upd_same, .nil, List.nodup_nil⟩ (fun i zs H' h => h.2.1) (fun i zs H' _ h => h.1.seq (SqL.of eMR)) ?_ ?_
  · rintro i zs x Ha hx ⟨sa, ea, Ya, nda⟩ C hC
    obtain ⟨u, ys, row, rfl, er, hu', fu⟩ := (XMR).get hx
    have hi : i < X.length := (List.getElem?_eq_some_iff.mp er).1
    have lz := Ya.length
    rw [List.length_take] at lz
    refine ⟨keep1.1, keep1.2, iteT ?_⟩
    refine ⟨_, rfl, u, ys, rfl, .inl (sa.seq hu'), fun lc hlc => ?_⟩
    have sb := same_new hlc (.lst ys)
    have eb : upd Ha lc (.lst ys) lc = some (.lst ys) := upd_same
    generalize upd Ha lc (.lst ys) = Hb at sb eb ⊢
    have ne : lc ≠ D2 := fun z => by rw [z, ea] at hlc; cases hlc
    have ea' := sb _ _ ea
    refine ⟨ea', small1000 (by omega), hC _ _ ⟨(sa.trans sb).change hD2, upd_same, ?_, nodup_new Ya hlc nda⟩⟩
    rw [List.take_add_one, er]
    exact ((Ya.same sb).app (.cons (same_none sa hlc) ne eb (fu.same (sa.trans sb)) .nil)).upd ea'
  rintro zy HH ⟨sH, eH, YH, ndH⟩
  rw [lus, List.take_length] at YH
  have lzy := YH.length
  refine ⟨_, rfl, DR, wr, rfl, .inl (SqL.of (sH _ _ eR)), fun l1 hl1 => ?_⟩
  have sI := same_new hl1 (.lst wr)
  have eI : upd HH l1 (.lst wr) l1 = some (.lst wr) := upd_same
  generalize upd HH l1 (.lst wr) = HI at sI eI ⊢
  refine ⟨by show 2 ≤ sizeLine; decide, fun lh hlh => ?_⟩
  have sK := same_new hlh (.lst [.ref D2, .ref l1])
  have eK : upd HI lh (.lst [.ref D2, .ref l1]) lh = some (.lst [.ref D2, .ref l1]) := upd_same
  generalize upd HI lh (.lst [.ref D2, .ref l1]) = HK at sK eK ⊢
  have sHK := sI.trans sK
  have sRK := sH.trans sHK
  have e2 := sHK _ _ eH
  have Y2 := YH.same sHK
  have e1 := sK _ _ eI
  have FK := FR.same sRK
  have eMK := sRK _ _ eMR
  have XK := XMR.same sRK
  have eRK := sRK _ _ eR
  clear eH YH eI sHK
  show tSeq _ _ _ [some (.ref a), some (.int ((X.length : Nat) : Int)), some (.ref lm), some (.ref DR), some (.ref lh)] HK
  -- solved, base
  refine ⟨_, rfl, lh, _, _, _, rfl, rfl, SqL.of eK, rfl, _, rfl, lh, _, _, _, rfl, rfl, SqL.of eK, rfl, D2, l1, D2, HR, zy, wr, X, qs, rfl, SqL.of e2, Y2, SqL.of e1, FK, rt, mx, wg, fun l zs ps HB s_B eB FB NB => ?_⟩
  refine ⟨_, rfl, l, lm, lm, zs, us, ps, X, rfl, SqL.of eB, FB, SqL.of (s_B _ _ eMK), XK.same s_B, mx, NB, fun HC sBC => ⟨_, rfl, iteF ?_⟩⟩
  have sC := s_B.trans sBC
  refine ⟨_, rfl, lh, _, _, _, rfl, rfl, SqL.of (sC _ _ eK), rfl, _, rfl, lh, _, _, _, rfl, rfl, SqL.of (sC _ _ eK), rfl, D2, l1, D2, HR, zy, wr, X, qs, rfl, SqL.of (sC _ _ e2), Y2.same sC, SqL.of (sC _ _ e1), FK.same sC, rt, mx, wg, fun HD sCD => ⟨_, rfl, iteF ?_⟩⟩
  have sD := sC.trans sCD
  clear sBC sCD s_B eB FB NB
  -- papered, weight
  refine ⟨_, rfl, lh, _, _, _, rfl, rfl, SqL.of (sD _ _ eK), rfl, D2, D2, zy, X, rfl, SqL.of (sD _ _ e2), Y2.mx.same sD, mx, wg, fun l zs ps HE sDE eE FE NE => ?_⟩
  have sE := sD.trans sDE
  refine ⟨_, rfl, l, lm, lm, zs, us, ps, X, rfl, SqL.of eE, FE, SqL.of (sE _ _ eMK), XK.same sE, mx, NE, fun HF sEF => ⟨_, rfl, iteF ?_⟩⟩
  have sF := sE.trans sEF
  refine ⟨_, rfl, lh, _, _, _, rfl, rfl, SqL.of (sF _ _ eK), rfl, D2, D2, zy, X, rfl, SqL.of (sF _ _ e2), Y2.mx.same sF, mx, fun aw pw HG sFG fw lw bw vw => ?_⟩
  have ew := low_nought lw (vw.trans wg)
  rw [ew] at fw
  refine ⟨by show 2 ≤ sizeLine; decide, fun tw htw => ?_⟩
  have sGW := same_new htw (.tup [.int 0, .int 1])
  have fW : Fq K (upd HG tw (.tup [.int 0, .int 1])) tw (0, 1) := Fq.of upd_same
  generalize upd HG tw (.tup [.int 0, .int 1]) = HW at sGW fW ⊢
  refine rd_eqF (sGW.fq fw) fW ?_
  rw [decide_eq_true rfl]
  refine ⟨_, rfl, iteF ?_⟩
  have sW := (sF.trans sFG).trans sGW
  clear sDE sEF sFG sGW fW eE FE NE
  -- handed != ..
  refine ⟨_, rfl, _, rfl, _, rfl, by show 2 ≤ sizeLine; decide, fun lz hlz => ?_⟩
  have sZ1 := same_new hlz (.lst [.ref lm, .ref DR])
  have eZ : upd HW lz (.lst [.ref lm, .ref DR]) lz = some (.lst [.ref lm, .ref DR]) := upd_same
  generalize upd HW lz (.lst [.ref lm, .ref DR]) = HZ at sZ1 eZ ⊢
  have sZ := sW.trans sZ1
  refine rd_eqS (d := .list [.list (X.map lqd), .list (qs.map qd)]) (.lst (SqL.of (sZ _ _ eK)) (.cons (.lst (SqL.of (sZ _ _ e2)) (Y2.mx.same sZ).dat) (.cons (.lst (SqL.of (sZ _ _ e1)) (FK.same sZ).dat) .nil))) (.lst (SqL.of eZ) (.cons (.lst (SqL.of (sZ _ _ eMK)) (XK.same sZ).dat) (.cons (.lst (SqL.of (sZ _ _ eRK)) (FK.same sZ).dat) .nil))) (two_lay X qs) (two_depth X qs) ⟨_, rfl, iteF ?_⟩
  refine ⟨_, rfl, _, _, rfl, rfl, _, rfl, ite2 (fun c => ?_) (fun c => ?_)⟩
  · refine ⟨_, rfl, _, rfl, _, rfl, by show 2 ≤ sizeLine; decide, fun ly hly => ?_⟩
    have sY1 := same_new hly (.lst [.ref lm, .ref DR])
    have eY : upd HZ ly (.lst [.ref lm, .ref DR]) ly = some (.lst [.ref lm, .ref DR]) := upd_same
    generalize upd HZ ly (.lst [.ref lm, .ref DR]) = HY at sY1 eY ⊢
    have sY := sZ.trans sY1
    refine rd_eqS (d := .list [.list (X.map lqd), .list (qs.map qd)]) (.lst (SqL.of (sY _ _ eK)) (.cons (.lst (SqL.of (sY _ _ e2)) (Y2.mx.same sY).dat) (.cons (.lst (SqL.of (sY _ _ e1)) (FK.same sY).dat) .nil))) (.lst (SqL.of eY) (.cons (.lst (SqL.of (sY _ _ eMK)) (XK.same sY).dat) (.cons (.lst (SqL.of (sY _ _ eRK)) (FK.same sY).dat) .nil))) (two_lay X qs) (two_depth X qs) ?_
    exact q _
  -- one row
  have hX1 : X.length = 1 := by
    have : ¬ ((X.length : Int) > 1) := by simpa using c
    omega
  have ql : qs.length = 1 := by rw [rt.1, hX1]
  obtain ⟨p, rfl⟩ : ∃ p, qs = [p] := by
    match qs, ql with
    | [p], _ => exact ⟨p, rfl⟩
  have pL := rt.2.1 p (by simp)
  have pB := rt.2.2 p (by simp)
  have pp := pL.pos
  refine ⟨by show 2 ≤ sizeLine; decide, fun t3 ht3 => ?_⟩
  have s3 := same_new ht3 (.tup [.int 3, .int 1])
  have f3 : Fq K (upd HZ t3 (.tup [.int 3, .int 1])) t3 (3, 1) := Fq.of upd_same
  generalize upd HZ t3 (.tup [.int 3, .int 1]) = H3 at s3 f3 ⊢
  refine ⟨by show 1 ≤ sizeLine; decide, fun i3 hi3 => ?_⟩
  have s4 := same_new hi3 (.lst [.ref t3])
  have e4 : upd H3 i3 (.lst [.ref t3]) i3 = some (.lst [.ref t3]) := upd_same
  generalize upd H3 i3 (.lst [.ref t3]) = H4 at s4 e4 ⊢
  refine ⟨by show 1 ≤ sizeLine; decide, fun o3 ho3 => ?_⟩
  have s5 := same_new ho3 (.lst [.ref i3])
  have e5 : upd H4 o3 (.lst [.ref i3]) o3 = some (.lst [.ref i3]) := upd_same
  have no : i3 ≠ o3 := fun z => by rw [z, ho3] at e4; cases e4
  generalize upd H4 o3 (.lst [.ref i3]) = H5 at s5 e5 ⊢
  have sZ5 := (s3.trans s4).trans s5
  have s05 := sZ.trans sZ5
  have T3 : Fmd K HZ o3 H5 [.ref i3] thr := .cons (same_none s3 hi3) no (s5 _ _ e4) (.cons ((s4.trans s5).fq f3) .nil) .nil
  have mt : MxS thr := ⟨fun row hr' p' hp' => by
      have : row = [(3, 1)] := by simpa [thr] using hr'
      rw [this] at hp'
      have : p' = (3, 1) := by simpa using hp'
      rw [this]; decide, fun row hr' => by
      have : row = [(3, 1)] := by simpa [thr] using hr'
      rw [this]
      refine ⟨fun p' hp' => ?_, rfl⟩
      have : p' = (3, 1) := by simpa using hp'
      rw [this]
      exact Mq.Bd.mono (n := 2) ⟨show (3 : Nat) < 2 ^ 2 by decide, show (1 : Nat) < 2 ^ 2 by decide⟩ (by omega), by show 1 ≤ 4; decide⟩
  refine ⟨_, rfl, o3, DR, o3, HZ, [.ref i3], wr, thr, [p], rfl, SqL.of e5, T3, SqL.of (s05 _ _ eRK), FK.same s05, ⟨rfl, rt.2.1, rt.2.2⟩, mt, fun lf zf pf H6 s6 _ nlf ef Ff sv => ?_, fun dx l zs ps H' s hz => absurd hz wgt_thr⟩
  have epf := slv_thr pL sv
  rw [epf] at Ff
  have s06 := s05.trans s6
  have e6R := s06 _ _ eRK
  have F6 := FK.same s06
  obtain ⟨v, av, fv⟩ := F6.at (i := 0) rfl
  refine ⟨_, rfl, DR, wr, _, _, rfl, rfl, SqL.of e6R, atI_nat (j := 0) av, v, _, _, _, rfl, rfl, fv, rfl, ?_⟩
  refine ⟨_, rfl, DR, wr, _, _, rfl, rfl, SqL.of e6R, atI_nat (j := 0) av, v, _, _, _, rfl, rfl, fv, rfl, ?_⟩
  refine ⟨_, _, rfl, rfl, Or.inl ⟨by decide, by decide⟩, ?_⟩
  refine ⟨p.1, 3 * p.2, 342, rfl, by omega, Mq.B.mul (n := 2) (m := 340) (i := 3) (show (3 : Nat) < 2 ^ 2 by decide) pB.b, by omega, fun tn H7 s7 e7 => ?_⟩
  refine ⟨by show 1 ≤ sizeLine; decide, fun ll hll => ?_⟩
  have s8 := same_new hll (.lst [.ref tn])
  have e8 : upd H7 ll (.lst [.ref tn]) ll = some (.lst [.ref tn]) := upd_same
  have F8 : Fqs K (upd H7 ll (.lst [.ref tn])) [.ref tn] [Mq.red p.1 (3 * p.2)] := .cons (s8.fq (Fq.of e7)) .nil
  generalize upd H7 ll (.lst [.ref tn]) = H8 at s8 e8 F8 ⊢
  have s78 := s7.trans s8
  exact rd_eqL (SqL.of (s78 _ _ ef)) (SqL.of e8) (Ff.same s78) F8 (q _)
end
end K25

set_option Elab.async false
set_option linter.all false
set_option maxRecDepth 100000
set_option maxHeartbeats 4000000
namespace K25
open PySem L2 Shp
/-! the program's top -/
theorem all_mk {l : PySem.W.OpenLaw} {w : World} {K : PySem.W.Frag} {h : Heap} {mg : Str → Option Value} {fa : Addr} (X : K.In h) (G : h.Ns mainGlobals mg) (hfa : mg "law" = some (.ref fa))
    {c_Lame : Addr}
    {c_OhmError : Addr}
    {c_Floats : Addr}
    {c_Held : Addr}
    {c_Ring : Addr}
    {c_NoNumber : Addr}
    {c_NoSize : Addr}
    {c_NoName : Addr}
    {c_NoPoint : Addr}
    {c_NoRow : Addr}
    {c_NoWord : Addr}
    {c_NoStreams : Addr}
    {c_NoRoad : Addr}
    {c_TooMany : Addr}
    {f1 : Addr} {od1 an1 : Option Addr} {sl1 : Array (Option Value)} {oc1 kV1 dc1 pm1 cd1 ct1 : Value}
    {f2 : Addr} {od2 an2 : Option Addr} {sl2 : Array (Option Value)} {oc2 kV2 dc2 pm2 cd2 ct2 : Value}
    {f3 : Addr} {od3 an3 : Option Addr} {sl3 : Array (Option Value)} {oc3 kV3 dc3 pm3 cd3 ct3 : Value}
    {f4 : Addr} {od4 an4 : Option Addr} {sl4 : Array (Option Value)} {oc4 kV4 dc4 pm4 cd4 ct4 : Value}
    {T4 : Addr} {oT4 : Value} {dT4 : Option Addr} {nT4 : Nat} {sT4 : Array (Option Value)} {tk4 : Tok}
    {f5 : Addr} {od5 an5 : Option Addr} {sl5 : Array (Option Value)} {oc5 kV5 dc5 pm5 cd5 ct5 : Value}
    {f6 : Addr} {od6 an6 : Option Addr} {sl6 : Array (Option Value)} {oc6 kV6 dc6 pm6 cd6 ct6 : Value}
    {f7 : Addr} {od7 an7 : Option Addr} {sl7 : Array (Option Value)} {oc7 kV7 dc7 pm7 cd7 ct7 : Value}
    {f8 : Addr} {od8 an8 : Option Addr} {sl8 : Array (Option Value)} {oc8 kV8 dc8 pm8 cd8 ct8 : Value}
    {f9 : Addr} {od9 an9 : Option Addr} {sl9 : Array (Option Value)} {oc9 kV9 dc9 pm9 cd9 ct9 : Value}
    {f10 : Addr} {od10 an10 : Option Addr} {sl10 : Array (Option Value)} {oc10 kV10 dc10 pm10 cd10 ct10 : Value}
    {f11 : Addr} {od11 an11 : Option Addr} {sl11 : Array (Option Value)} {oc11 kV11 dc11 pm11 cd11 ct11 : Value}
    {f12 : Addr} {od12 an12 : Option Addr} {sl12 : Array (Option Value)} {oc12 kV12 dc12 pm12 cd12 ct12 : Value}
    {f13 : Addr} {od13 an13 : Option Addr} {sl13 : Array (Option Value)} {oc13 kV13 dc13 pm13 cd13 ct13 : Value}
    {f14 : Addr} {od14 an14 : Option Addr} {sl14 : Array (Option Value)} {oc14 kV14 dc14 pm14 cd14 ct14 : Value}
    {f15 : Addr} {od15 an15 : Option Addr} {sl15 : Array (Option Value)} {oc15 kV15 dc15 pm15 cd15 ct15 : Value}
    {f16 : Addr} {od16 an16 : Option Addr} {sl16 : Array (Option Value)} {oc16 kV16 dc16 pm16 cd16 ct16 : Value}
    {f17 : Addr} {od17 an17 : Option Addr} {sl17 : Array (Option Value)} {oc17 kV17 dc17 pm17 cd17 ct17 : Value}
    {f18 : Addr} {od18 an18 : Option Addr} {sl18 : Array (Option Value)} {oc18 kV18 dc18 pm18 cd18 ct18 : Value}
    {f19 : Addr} {od19 an19 : Option Addr} {sl19 : Array (Option Value)} {oc19 kV19 dc19 pm19 cd19 ct19 : Value}
    {f20 : Addr} {od20 an20 : Option Addr} {sl20 : Array (Option Value)} {oc20 kV20 dc20 pm20 cd20 ct20 : Value}
    {f21 : Addr} {od21 an21 : Option Addr} {sl21 : Array (Option Value)} {oc21 kV21 dc21 pm21 cd21 ct21 : Value}
    {f22 : Addr} {od22 an22 : Option Addr} {sl22 : Array (Option Value)} {oc22 kV22 dc22 pm22 cd22 ct22 : Value}
    {f23 : Addr} {od23 an23 : Option Addr} {sl23 : Array (Option Value)} {oc23 kV23 dc23 pm23 cd23 ct23 : Value}
    {f24 : Addr} {od24 an24 : Option Addr} {sl24 : Array (Option Value)} {oc24 kV24 dc24 pm24 cd24 ct24 : Value}
    {f25 : Addr} {od25 an25 : Option Addr} {sl25 : Array (Option Value)} {oc25 kV25 dc25 pm25 cd25 ct25 : Value}
    {f26 : Addr} {od26 an26 : Option Addr} {sl26 : Array (Option Value)} {oc26 kV26 dc26 pm26 cd26 ct26 : Value}
    {f27 : Addr} {od27 an27 : Option Addr} {sl27 : Array (Option Value)} {oc27 kV27 dc27 pm27 cd27 ct27 : Value}
    {f28 : Addr} {od28 an28 : Option Addr} {sl28 : Array (Option Value)} {oc28 kV28 dc28 pm28 cd28 ct28 : Value}
    {f29 : Addr} {od29 an29 : Option Addr} {sl29 : Array (Option Value)} {oc29 kV29 dc29 pm29 cd29 ct29 : Value}
    {f30 : Addr} {od30 an30 : Option Addr} {sl30 : Array (Option Value)} {oc30 kV30 dc30 pm30 cd30 ct30 : Value}
    {aN : Addr} {dN : Option Addr} {nN : Nat} {sN : Array (Option Value)} {t0 t1 : Tok}
    (y_Lame : PySem.W.nsIn K mainGlobals "Lame" = some (some (.ref c_Lame)))
    (y_OhmError : PySem.W.nsIn K mainGlobals "OhmError" = some (some (.ref c_OhmError)))
    (y_Floats : PySem.W.nsIn K mainGlobals "Floats" = some (some (.ref c_Floats)))
    (y_Held : PySem.W.nsIn K mainGlobals "Held" = some (some (.ref c_Held)))
    (y_Ring : PySem.W.nsIn K mainGlobals "Ring" = some (some (.ref c_Ring)))
    (y_NoNumber : PySem.W.nsIn K mainGlobals "NoNumber" = some (some (.ref c_NoNumber)))
    (y_NoSize : PySem.W.nsIn K mainGlobals "NoSize" = some (some (.ref c_NoSize)))
    (y_NoName : PySem.W.nsIn K mainGlobals "NoName" = some (some (.ref c_NoName)))
    (y_NoPoint : PySem.W.nsIn K mainGlobals "NoPoint" = some (some (.ref c_NoPoint)))
    (y_NoRow : PySem.W.nsIn K mainGlobals "NoRow" = some (some (.ref c_NoRow)))
    (y_NoWord : PySem.W.nsIn K mainGlobals "NoWord" = some (some (.ref c_NoWord)))
    (y_NoStreams : PySem.W.nsIn K mainGlobals "NoStreams" = some (some (.ref c_NoStreams)))
    (y_NoRoad : PySem.W.nsIn K mainGlobals "NoRoad" = some (some (.ref c_NoRoad)))
    (y_TooMany : PySem.W.nsIn K mainGlobals "TooMany" = some (some (.ref c_TooMany)))
    (a1_0 : PySem.W.findIn K (.ref c_Lame) "__init__" = some (some (.ref f1)))
    (i1 : PySem.W.isFn K (.ref f1) = true)
    (l1 : K.lookup f1 = some ⟨oc1, od1, .func (PySem.W.fnOf "__init__" "Lame.__init__" (defArgs sLInit) (defBody sLInit) (defScope sLInit) .none kV1 dc1 pm1 an1 cd1 ct1), sl1⟩) (c1 : PySem.W.codeIn K cd1 "Lame.__init__" = true) (k1 : PySem.W.keepIn K (.ref f1) = true)
    (a2 : PySem.W.nsIn K mainGlobals "is_whole" = some (some (.ref f2)))
    (l2 : K.lookup f2 = some ⟨oc2, od2, .func (PySem.W.fnOf "is_whole" "is_whole" (defArgs sWhole) (defBody sWhole) (defScope sWhole) .none kV2 dc2 pm2 an2 cd2 ct2), sl2⟩) (c2 : PySem.W.codeIn K cd2 "is_whole" = true) (k2 : PySem.W.keepIn K (.ref f2) = true)
    (a3 : PySem.W.nsIn K mainGlobals "greatest_common" = some (some (.ref f3)))
    (l3 : K.lookup f3 = some ⟨oc3, od3, .func (PySem.W.fnOf "greatest_common" "greatest_common" (defArgs sGc) (defBody sGc) (defScope sGc) .none kV3 dc3 pm3 an3 cd3 ct3), sl3⟩) (c3 : PySem.W.codeIn K cd3 "greatest_common" = true) (k3 : PySem.W.keepIn K (.ref f3) = true)
    (a4 : PySem.W.nsIn K mainGlobals "fraction" = some (some (.ref f4)))
    (l4 : K.lookup f4 = some ⟨oc4, od4, .func (PySem.W.fnOf "fraction" "fraction" (defArgs sFrac) (defBody sFrac) (defScope sFrac) (.ref T4) kV4 dc4 pm4 an4 cd4 ct4), sl4⟩) (c4 : PySem.W.codeIn K cd4 "fraction" = true) (k4 : PySem.W.keepIn K (.ref f4) = true)
    (lt4 : K.lookup T4 = some ⟨oT4, dT4, .seq #[.int 1 tk4] nT4, sT4⟩)
    (a5 : PySem.W.nsIn K mainGlobals "in_wholes" = some (some (.ref f5)))
    (l5 : K.lookup f5 = some ⟨oc5, od5, .func (PySem.W.fnOf "in_wholes" "in_wholes" (defArgs sIW) (defBody sIW) (defScope sIW) .none kV5 dc5 pm5 an5 cd5 ct5), sl5⟩) (c5 : PySem.W.codeIn K cd5 "in_wholes" = true) (k5 : PySem.W.keepIn K (.ref f5) = true)
    (a6 : PySem.W.nsIn K mainGlobals "pivot_place" = some (some (.ref f6)))
    (l6 : K.lookup f6 = some ⟨oc6, od6, .func (PySem.W.fnOf "pivot_place" "pivot_place" (defArgs sPiv) (defBody sPiv) (defScope sPiv) .none kV6 dc6 pm6 an6 cd6 ct6), sl6⟩) (c6 : PySem.W.codeIn K cd6 "pivot_place" = true) (k6 : PySem.W.keepIn K (.ref f6) = true)
    (a7 : PySem.W.nsIn K mainGlobals "cleared" = some (some (.ref f7)))
    (l7 : K.lookup f7 = some ⟨oc7, od7, .func (PySem.W.fnOf "cleared" "cleared" (defArgs sClr) (defBody sClr) (defScope sClr) .none kV7 dc7 pm7 an7 cd7 ct7), sl7⟩) (c7 : PySem.W.codeIn K cd7 "cleared" = true) (k7 : PySem.W.keepIn K (.ref f7) = true)
    (a8 : PySem.W.nsIn K mainGlobals "cleared_rows" = some (some (.ref f8)))
    (l8 : K.lookup f8 = some ⟨oc8, od8, .func (PySem.W.fnOf "cleared_rows" "cleared_rows" (defArgs sClrRows) (defBody sClrRows) (defScope sClrRows) .none kV8 dc8 pm8 an8 cd8 ct8), sl8⟩) (c8 : PySem.W.codeIn K cd8 "cleared_rows" = true) (k8 : PySem.W.keepIn K (.ref f8) = true)
    (a9 : PySem.W.nsIn K mainGlobals "eliminated" = some (some (.ref f9)))
    (l9 : K.lookup f9 = some ⟨oc9, od9, .func (PySem.W.fnOf "eliminated" "eliminated" (defArgs sElim) (defBody sElim) (defScope sElim) .none kV9 dc9 pm9 an9 cd9 ct9), sl9⟩) (c9 : PySem.W.codeIn K cd9 "eliminated" = true) (k9 : PySem.W.keepIn K (.ref f9) = true)
    (a10 : PySem.W.nsIn K mainGlobals "beside_unit" = some (some (.ref f10)))
    (l10 : K.lookup f10 = some ⟨oc10, od10, .func (PySem.W.fnOf "beside_unit" "beside_unit" (defArgs sUnit) (defBody sUnit) (defScope sUnit) .none kV10 dc10 pm10 an10 cd10 ct10), sl10⟩) (c10 : PySem.W.codeIn K cd10 "beside_unit" = true) (k10 : PySem.W.keepIn K (.ref f10) = true)
    (a11 : PySem.W.nsIn K mainGlobals "over_pivot" = some (some (.ref f11)))
    (l11 : K.lookup f11 = some ⟨oc11, od11, .func (PySem.W.fnOf "over_pivot" "over_pivot" (defArgs sOverP) (defBody sOverP) (defScope sOverP) .none kV11 dc11 pm11 an11 cd11 ct11), sl11⟩) (c11 : PySem.W.codeIn K cd11 "over_pivot" = true) (k11 : PySem.W.keepIn K (.ref f11) = true)
    (a12 : PySem.W.nsIn K mainGlobals "lame_multiples" = some (some (.ref f12)))
    (l12 : K.lookup f12 = some ⟨oc12, od12, .func (PySem.W.fnOf "lame_multiples" "lame_multiples" (defArgs sLameM) (defBody sLameM) (defScope sLameM) .none kV12 dc12 pm12 an12 cd12 ct12), sl12⟩) (c12 : PySem.W.codeIn K cd12 "lame_multiples" = true) (k12 : PySem.W.keepIn K (.ref f12) = true)
    (a13 : PySem.W.nsIn K mainGlobals "multiples" = some (some (.ref f13)))
    (l13 : K.lookup f13 = some ⟨oc13, od13, .func (PySem.W.fnOf "multiples" "multiples" (defArgs sMult) (defBody sMult) (defScope sMult) .none kV13 dc13 pm13 an13 cd13 ct13), sl13⟩) (c13 : PySem.W.codeIn K cd13 "multiples" = true) (k13 : PySem.W.keepIn K (.ref f13) = true)
    (a14 : PySem.W.nsIn K mainGlobals "solved" = some (some (.ref f14)))
    (l14 : K.lookup f14 = some ⟨oc14, od14, .func (PySem.W.fnOf "solved" "solved" (defArgs sSolved) (defBody sSolved) (defScope sSolved) .none kV14 dc14 pm14 an14 cd14 ct14), sl14⟩) (c14 : PySem.W.codeIn K cd14 "solved" = true) (k14 : PySem.W.keepIn K (.ref f14) = true)
    (a15 : PySem.W.nsIn K mainGlobals "weight" = some (some (.ref f15)))
    (l15 : K.lookup f15 = some ⟨oc15, od15, .func (PySem.W.fnOf "weight" "weight" (defArgs sWeight) (defBody sWeight) (defScope sWeight) .none kV15 dc15 pm15 an15 cd15 ct15), sl15⟩) (c15 : PySem.W.codeIn K cd15 "weight" = true) (k15 : PySem.W.keepIn K (.ref f15) = true)
    (a16 : PySem.W.nsIn K mainGlobals "_law_nth" = some (some (.ref f16)))
    (l16 : K.lookup f16 = some ⟨oc16, od16, .func (PySem.W.fnOf "_law_nth" "_law_nth" (defArgs sNth) (defBody sNth) (defScope sNth) .none kV16 dc16 pm16 an16 cd16 ct16), sl16⟩) (c16 : PySem.W.codeIn K cd16 "_law_nth" = true) (k16 : PySem.W.keepIn K (.ref f16) = true)
    (a17 : PySem.W.nsIn K mainGlobals "_law_divisor" = some (some (.ref f17)))
    (l17 : K.lookup f17 = some ⟨oc17, od17, .func (PySem.W.fnOf "_law_divisor" "_law_divisor" (defArgs sDiv) (defBody sDiv) (defScope sDiv) .none kV17 dc17 pm17 an17 cd17 ct17), sl17⟩) (c17 : PySem.W.codeIn K cd17 "_law_divisor" = true) (k17 : PySem.W.keepIn K (.ref f17) = true)
    (a18 : PySem.W.nsIn K mainGlobals "_law_lowest" = some (some (.ref f18)))
    (l18 : K.lookup f18 = some ⟨oc18, od18, .func (PySem.W.fnOf "_law_lowest" "_law_lowest" (defArgs sLowest) (defBody sLowest) (defScope sLowest) .none kV18 dc18 pm18 an18 cd18 ct18), sl18⟩) (c18 : PySem.W.codeIn K cd18 "_law_lowest" = true) (k18 : PySem.W.keepIn K (.ref f18) = true)
    (a19 : PySem.W.nsIn K mainGlobals "_law_is" = some (some (.ref f19)))
    (l19 : K.lookup f19 = some ⟨oc19, od19, .func (PySem.W.fnOf "_law_is" "_law_is" (defArgs sIs) (defBody sIs) (defScope sIs) .none kV19 dc19 pm19 an19 cd19 ct19), sl19⟩) (c19 : PySem.W.codeIn K cd19 "_law_is" = true) (k19 : PySem.W.keepIn K (.ref f19) = true)
    (a20 : PySem.W.nsIn K mainGlobals "_law_list" = some (some (.ref f20)))
    (l20 : K.lookup f20 = some ⟨oc20, od20, .func (PySem.W.fnOf "_law_list" "_law_list" (defArgs sLList) (defBody sLList) (defScope sLList) .none kV20 dc20 pm20 an20 cd20 ct20), sl20⟩) (c20 : PySem.W.codeIn K cd20 "_law_list" = true) (k20 : PySem.W.keepIn K (.ref f20) = true)
    (a21 : PySem.W.nsIn K mainGlobals "_law_meets" = some (some (.ref f21)))
    (l21 : K.lookup f21 = some ⟨oc21, od21, .func (PySem.W.fnOf "_law_meets" "_law_meets" (defArgs sMeets) (defBody sMeets) (defScope sMeets) .none kV21 dc21 pm21 an21 cd21 ct21), sl21⟩) (c21 : PySem.W.codeIn K cd21 "_law_meets" = true) (k21 : PySem.W.keepIn K (.ref f21) = true)
    (a22 : PySem.W.nsIn K mainGlobals "_law_drawn" = some (some (.ref f22)))
    (l22 : K.lookup f22 = some ⟨oc22, od22, .func (PySem.W.fnOf "_law_drawn" "_law_drawn" (defArgs sDrawn) (defBody sDrawn) (defScope sDrawn) .none kV22 dc22 pm22 an22 cd22 ct22), sl22⟩) (c22 : PySem.W.codeIn K cd22 "_law_drawn" = true) (k22 : PySem.W.keepIn K (.ref f22) = true)
    (a23 : PySem.W.nsIn K mainGlobals "_law_row" = some (some (.ref f23)))
    (l23 : K.lookup f23 = some ⟨oc23, od23, .func (PySem.W.fnOf "_law_row" "_law_row" (defArgs sRow) (defBody sRow) (defScope sRow) .none kV23 dc23 pm23 an23 cd23 ct23), sl23⟩) (c23 : PySem.W.codeIn K cd23 "_law_row" = true) (k23 : PySem.W.keepIn K (.ref f23) = true)
    (a24 : PySem.W.nsIn K mainGlobals "_law_sum" = some (some (.ref f24)))
    (l24 : K.lookup f24 = some ⟨oc24, od24, .func (PySem.W.fnOf "_law_sum" "_law_sum" (defArgs sSumL) (defBody sSumL) (defScope sSumL) .none kV24 dc24 pm24 an24 cd24 ct24), sl24⟩) (c24 : PySem.W.codeIn K cd24 "_law_sum" = true) (k24 : PySem.W.keepIn K (.ref f24) = true)
    (a25 : PySem.W.nsIn K mainGlobals "_law_hung" = some (some (.ref f25)))
    (l25 : K.lookup f25 = some ⟨oc25, od25, .func (PySem.W.fnOf "_law_hung" "_law_hung" (defArgs sHung) (defBody sHung) (defScope sHung) .none kV25 dc25 pm25 an25 cd25 ct25), sl25⟩) (c25 : PySem.W.codeIn K cd25 "_law_hung" = true) (k25 : PySem.W.keepIn K (.ref f25) = true)
    (a26 : PySem.W.nsIn K mainGlobals "_law_null" = some (some (.ref f26)))
    (l26 : K.lookup f26 = some ⟨oc26, od26, .func (PySem.W.fnOf "_law_null" "_law_null" (defArgs sNull) (defBody sNull) (defScope sNull) .none kV26 dc26 pm26 an26 cd26 ct26), sl26⟩) (c26 : PySem.W.codeIn K cd26 "_law_null" = true) (k26 : PySem.W.keepIn K (.ref f26) = true)
    (a27 : PySem.W.nsIn K mainGlobals "_law_solved" = some (some (.ref f27)))
    (l27 : K.lookup f27 = some ⟨oc27, od27, .func (PySem.W.fnOf "_law_solved" "_law_solved" (defArgs sLSolved) (defBody sLSolved) (defScope sLSolved) .none kV27 dc27 pm27 an27 cd27 ct27), sl27⟩) (c27 : PySem.W.codeIn K cd27 "_law_solved" = true) (k27 : PySem.W.keepIn K (.ref f27) = true)
    (a28 : PySem.W.nsIn K mainGlobals "_law_papered" = some (some (.ref f28)))
    (l28 : K.lookup f28 = some ⟨oc28, od28, .func (PySem.W.fnOf "_law_papered" "_law_papered" (defArgs sPap) (defBody sPap) (defScope sPap) .none kV28 dc28 pm28 an28 cd28 ct28), sl28⟩) (c28 : PySem.W.codeIn K cd28 "_law_papered" = true) (k28 : PySem.W.keepIn K (.ref f28) = true)
    (a29 : PySem.W.nsIn K mainGlobals "_law_base" = some (some (.ref f29)))
    (l29 : K.lookup f29 = some ⟨oc29, od29, .func (PySem.W.fnOf "_law_base" "_law_base" (defArgs sBase) (defBody sBase) (defScope sBase) .none kV29 dc29 pm29 an29 cd29 ct29), sl29⟩) (c29 : PySem.W.codeIn K cd29 "_law_base" = true) (k29 : PySem.W.keepIn K (.ref f29) = true)
    (a30 : PySem.W.nsIn K mainGlobals "law" = some (some (.ref f30)))
    (l30 : K.lookup f30 = some ⟨oc30, od30, .func (PySem.W.fnOf "law" "law" (defArgs sLaw) (defBody sLaw) (defScope sLaw) .none kV30 dc30 pm30 an30 cd30 ct30), sl30⟩) (c30 : PySem.W.codeIn K cd30 "law" = true) (k30 : PySem.W.keepIn K (.ref f30) = true)
    (v_NOUGHT : PySem.W.nsIn K mainGlobals "NOUGHT" = some (some (.ref aN)))
    {nL qL : Str} {NL : Addr} {bsL : List Value} {snL : List Str} {suL : List Value} {abL : Bool} {coL : Option Bool} {ddL : Option Addr} {k0L k1L k2L k3L k5L : Option Value} (lL : K.lookup c_Lame = some (excClassObj nL qL c_Lame NL bsL (.ref c_OhmError :: bmVE) true snL suL abL coL ddL k0L k1L k2L k3L k5L "ValueError.__new__"))
    {nO qO : Str} {NO : Addr} {bsO : List Value} {snO : List Str} {suO : List Value} {abO : Bool} {coO : Option Bool} {ddO : Option Addr} {k0O k1O k2O k3O k5O : Option Value} {hdO : Bool} (lO : K.lookup c_OhmError = some (excClassObj nO qO c_OhmError NO bsO bmVE hdO snO suO abO coO ddO k0O k1O k2O k3O k5O "ValueError.__new__"))
    (x1_OhmError : PySem.W.excIn K c_OhmError bmVE "ValueError.__new__" = true)
    (tyL : PySem.W.typeIn K (.ref f1) = some (.type "function"))
    (ci1 : PySem.W.specialIn K (.ref c_OhmError) "__getattribute__" = some (some (.builtin "type.__getattribute__")))
    (ci2 : PySem.W.readsIn K c_OhmError (.type "type") = true)
    (ci3 : PySem.W.findCls K (.ref c_OhmError) (.type "type") "__init__" = some (.val (.builtin "ValueError.__init__")))
    (sa_L : PySem.W.findIn K (.ref c_Lame) "__setattr__" = some (some (.builtin "object.__setattr__")))
    (no_L : PySem.W.findIn K (.ref c_Lame) "multiples" = some none)
    (hd_L : PySem.W.hasDictIn K c_Lame = true)
    (xm_L : PySem.W.exmOne K (.ref c_Lame) (.ref c_Lame) = some true)
    (q1 : PySem.W.exmOne K (.ref c_Lame) (.ref c_OhmError) = some true)
    (q3 : PySem.W.kitOne K (.ref c_Lame) (.type "ValueError") = some true)
    (q4 : PySem.W.kitAny K (.ref c_Lame) [.ref c_Floats, .ref c_Held, .ref c_Ring, .ref c_NoNumber, .ref c_NoSize, .ref c_NoName] = some false)
    (q5 : PySem.W.kitAny K (.ref c_Lame) [.ref c_NoPoint, .ref c_NoRow, .ref c_NoWord, .ref c_NoStreams, .ref c_NoRoad, .ref c_TooMany] = some false)
    (lN : K.lookup aN = some ⟨.type "tuple", dN, .seq #[.int 0 t0, .int 1 t1] nN, sN⟩)
    (x2_Lame : PySem.W.findIn K (.ref c_Lame) "__getattribute__" = some (some (.builtin "BaseException.__getattribute__")))
    (x3_Lame : PySem.W.findIn K (.ref c_Lame) "__getattr__" = some none)
    (x4_Lame : PySem.W.mroIn K c_Lame (.type "BaseException") = some true)
    (x5_Lame : PySem.W.mroIn K c_Lame (.type "object") = some true)
    (x6_Lame : PySem.W.findIn K (.ref c_Lame) "__class__" = some (some (.builtin "object.__class__")))
    (x7_Lame : PySem.W.specialIn K (.builtin "object.__class__") "__get__" = some (some (.builtin "getset_descriptor.__get__")))
    (x8_Lame : PySem.W.takesIn K (.builtin "object.__class__") = some true)
    (x9_Lame : (PySem.W.clsIn K c_Lame).isSome = true)
    (z1 : PySem.W.nsIn K mainGlobals "isinstance" = some none)
    (z2 : PySem.W.nsIn K mainGlobals "int" = some none)
    (z3 : PySem.W.nsIn K mainGlobals "bool" = some none)
    (z4 : PySem.W.nsIn K mainGlobals "abs" = some none)
    (z5 : PySem.W.nsIn K mainGlobals "len" = some none)
    (z6 : PySem.W.nsIn K mainGlobals "range" = some none)
    (z7 : PySem.W.nsIn K mainGlobals "tuple" = some none)
    (z8 : PySem.W.nsIn K mainGlobals "list" = some none)
    (z9 : PySem.W.nsIn K mainGlobals "enumerate" = some none)
    (z10 : PySem.W.nsIn K mainGlobals "zip" = some none)
    (z11 : PySem.W.nsIn K mainGlobals "all" = some none)
    (z12 : PySem.W.nsIn K mainGlobals "ValueError" = some none) :
    ∃ fd : FuncData, (∀ (s : Shared) (v : Value), BindsTo s fd ⟨[v], []⟩ [("_law_script", v)]) ∧ ∀ base : Heap, K.In base → base.Ns mainGlobals mg → FnOk l.prog w K mg base CX0 7 fa fd ["_law_script"] (spLaw K) := by
  have e := hfa.symm.trans (PySem.W.mg_of X G a30)
  cases e
  have mc_Lame := PySem.W.mg_of X G y_Lame
  have mc_OhmError := PySem.W.mg_of X G y_OhmError
  have mc_Floats := PySem.W.mg_of X G y_Floats
  have mc_Held := PySem.W.mg_of X G y_Held
  have mc_Ring := PySem.W.mg_of X G y_Ring
  have mc_NoNumber := PySem.W.mg_of X G y_NoNumber
  have mc_NoSize := PySem.W.mg_of X G y_NoSize
  have mc_NoName := PySem.W.mg_of X G y_NoName
  have mc_NoPoint := PySem.W.mg_of X G y_NoPoint
  have mc_NoRow := PySem.W.mg_of X G y_NoRow
  have mc_NoWord := PySem.W.mg_of X G y_NoWord
  have mc_NoStreams := PySem.W.mg_of X G y_NoStreams
  have mc_NoRoad := PySem.W.mg_of X G y_NoRoad
  have mc_TooMany := PySem.W.mg_of X G y_TooMany
  have F1 := fund_mk (st := sLInit) l1 c1 k1
  have b1 := F1.binds (ps := ["self", "multiples"]) fun _ _ _ _ _ _ us hl => match us, hl with | [_, _], _ => rfl
  have F2 := fund_mk (st := sWhole) l2 c2 k2
  have m2 := PySem.W.mg_of X G a2
  have b2 := F2.binds (ps := ["thing"]) fun _ _ _ _ _ _ us hl => match us, hl with | [_], _ => rfl
  have F3 := fund_mk (st := sGc) l3 c3 k3
  have m3 := PySem.W.mg_of X G a3
  have b3 := F3.binds (ps := ["one", "other"]) fun _ _ _ _ _ _ us hl => match us, hl with | [_, _], _ => rfl
  have F4 := fund_mk (st := sFrac) l4 c4 k4
  have m4 := PySem.W.mg_of X G a4
  have b4 : Binds K _ ["top", "bottom"] [] := fun s us XX hl => match us, hl with | [_, _], _ => PySem.W.binds_K (fd := PySem.W.fnOf "fraction" "fraction" (defArgs sFrac) (defBody sFrac) (defScope sFrac) (.ref T4) kV4 dc4 pm4 an4 cd4 ct4) XX rfl lt4 rfl rfl rfl
  have bd4 : Binds K _ ["top", "bottom"] [.int 1 tk4] := fun s us XX hl => match us, (show us.length = 1 by simp at hl; omega) with | [_], _ => PySem.W.binds_K (fd := PySem.W.fnOf "fraction" "fraction" (defArgs sFrac) (defBody sFrac) (defScope sFrac) (.ref T4) kV4 dc4 pm4 an4 cd4 ct4) XX rfl lt4 rfl rfl rfl
  have F5 := fund_mk (st := sIW) l5 c5 k5
  have m5 := PySem.W.mg_of X G a5
  have b5 := F5.binds (ps := ["some"]) fun _ _ _ _ _ _ us hl => match us, hl with | [_], _ => rfl
  have F6 := fund_mk (st := sPiv) l6 c6 k6
  have m6 := PySem.W.mg_of X G a6
  have b6 := F6.binds (ps := ["rows", "rank", "column"]) fun _ _ _ _ _ _ us hl => match us, hl with | [_, _, _], _ => rfl
  have F7 := fund_mk (st := sClr) l7 c7 k7
  have m7 := PySem.W.mg_of X G a7
  have b7 := F7.binds (ps := ["row", "upper", "column", "divisor"]) fun _ _ _ _ _ _ us hl => match us, hl with | [_, _, _, _], _ => rfl
  have F8 := fund_mk (st := sClrRows) l8 c8 k8
  have m8 := PySem.W.mg_of X G a8
  have b8 := F8.binds (ps := ["rows", "rank", "column", "divisor"]) fun _ _ _ _ _ _ us hl => match us, hl with | [_, _, _, _], _ => rfl
  have F9 := fund_mk (st := sElim) l9 c9 k9
  have m9 := PySem.W.mg_of X G a9
  have b9 := F9.binds (ps := ["rows", "width"]) fun _ _ _ _ _ _ us hl => match us, hl with | [_, _], _ => rfl
  have F10 := fund_mk (st := sUnit) l10 c10 k10
  have m10 := PySem.W.mg_of X G a10
  have b10 := F10.binds (ps := ["matrix"]) fun _ _ _ _ _ _ us hl => match us, hl with | [_], _ => rfl
  have F11 := fund_mk (st := sOverP) l11 c11 k11
  have m11 := PySem.W.mg_of X G a11
  have b11 := F11.binds (ps := ["tops", "pivot"]) fun _ _ _ _ _ _ us hl => match us, hl with | [_, _], _ => rfl
  have F12 := fund_mk (st := sLameM) l12 c12 k12
  have m12 := PySem.W.mg_of X G a12
  have b12 := F12.binds (ps := ["matrix"]) fun _ _ _ _ _ _ us hl => match us, hl with | [_], _ => rfl
  have F13 := fund_mk (st := sMult) l13 c13 k13
  have m13 := PySem.W.mg_of X G a13
  have b13 := F13.binds (ps := ["matrix"]) fun _ _ _ _ _ _ us hl => match us, hl with | [_], _ => rfl
  have F14 := fund_mk (st := sSolved) l14 c14 k14
  have m14 := PySem.W.mg_of X G a14
  have b14 := F14.binds (ps := ["matrix", "right"]) fun _ _ _ _ _ _ us hl => match us, hl with | [_, _], _ => rfl
  have F15 := fund_mk (st := sWeight) l15 c15 k15
  have m15 := PySem.W.mg_of X G a15
  have b15 := F15.binds (ps := ["matrix"]) fun _ _ _ _ _ _ us hl => match us, hl with | [_], _ => rfl
  have F16 := fund_mk (st := sNth) l16 c16 k16
  have m16 := PySem.W.mg_of X G a16
  have b16 := F16.binds (ps := ["_law_script", "_law_k"]) fun _ _ _ _ _ _ us hl => match us, hl with | [_, _], _ => rfl
  have F17 := fund_mk (st := sDiv) l17 c17 k17
  have m17 := PySem.W.mg_of X G a17
  have b17 := F17.binds (ps := ["_law_one", "_law_other"]) fun _ _ _ _ _ _ us hl => match us, hl with | [_, _], _ => rfl
  have F18 := fund_mk (st := sLowest) l18 c18 k18
  have m18 := PySem.W.mg_of X G a18
  have b18 := F18.binds (ps := ["_law_top", "_law_bottom"]) fun _ _ _ _ _ _ us hl => match us, hl with | [_, _], _ => rfl
  have F19 := fund_mk (st := sIs) l19 c19 k19
  have m19 := PySem.W.mg_of X G a19
  have b19 := F19.binds (ps := ["_law_found"]) fun _ _ _ _ _ _ us hl => match us, hl with | [_], _ => rfl
  have F20 := fund_mk (st := sLList) l20 c20 k20
  have m20 := PySem.W.mg_of X G a20
  have b20 := F20.binds (ps := ["_law_found", "_law_many"]) fun _ _ _ _ _ _ us hl => match us, hl with | [_, _], _ => rfl
  have F21 := fund_mk (st := sMeets) l21 c21 k21
  have m21 := PySem.W.mg_of X G a21
  have b21 := F21.binds (ps := ["_law_some", "_law_others", "_law_due"]) fun _ _ _ _ _ _ us hl => match us, hl with | [_, _, _], _ => rfl
  have F22 := fund_mk (st := sDrawn) l22 c22 k22
  have m22 := PySem.W.mg_of X G a22
  have b22 := F22.binds (ps := ["_law_cell", "_law_far"]) fun _ _ _ _ _ _ us hl => match us, hl with | [_, _], _ => rfl
  have F23 := fund_mk (st := sRow) l23 c23 k23
  have m23 := PySem.W.mg_of X G a23
  have b23 := F23.binds (ps := ["_law_script", "_law_start", "_law_wide", "_law_far"]) fun _ _ _ _ _ _ us hl => match us, hl with | [_, _, _, _], _ => rfl
  have F24 := fund_mk (st := sSumL) l24 c24 k24
  have m24 := PySem.W.mg_of X G a24
  have b24 := F24.binds (ps := ["_law_some", "_law_others"]) fun _ _ _ _ _ _ us hl => match us, hl with | [_, _], _ => rfl
  have F25 := fund_mk (st := sHung) l25 c25 k25
  have m25 := PySem.W.mg_of X G a25
  have b25 := F25.binds (ps := ["_law_script", "_law_many"]) fun _ _ _ _ _ _ us hl => match us, hl with | [_, _], _ => rfl
  have F26 := fund_mk (st := sNull) l26 c26 k26
  have m26 := PySem.W.mg_of X G a26
  have b26 := F26.binds (ps := ["_law_shown", "_law_matrix"]) fun _ _ _ _ _ _ us hl => match us, hl with | [_, _], _ => rfl
  have F27 := fund_mk (st := sLSolved) l27 c27 k27
  have m27 := PySem.W.mg_of X G a27
  have b27 := F27.binds (ps := ["_law_matrix", "_law_right"]) fun _ _ _ _ _ _ us hl => match us, hl with | [_, _], _ => rfl
  have F28 := fund_mk (st := sPap) l28 c28 k28
  have m28 := PySem.W.mg_of X G a28
  have b28 := F28.binds (ps := ["_law_matrix"]) fun _ _ _ _ _ _ us hl => match us, hl with | [_], _ => rfl
  have F29 := fund_mk (st := sBase) l29 c29 k29
  have m29 := PySem.W.mg_of X G a29
  have b29 := F29.binds (ps := ["_law_matrix", "_law_right"]) fun _ _ _ _ _ _ us hl => match us, hl with | [_, _], _ => rfl
  have F30 := fund_mk (st := sLaw) l30 c30 k30
  have m30 := PySem.W.mg_of X G a30
  have b30 := F30.binds (ps := ["_law_script"]) fun _ _ _ _ _ _ us hl => match us, hl with | [_], _ => rfl
  have mv_NOUGHT := PySem.W.mg_of X G v_NOUGHT
  have n_isinstance := PySem.W.mg_none_of X G z1
  have n_int := PySem.W.mg_none_of X G z2
  have n_bool := PySem.W.mg_none_of X G z3
  have n_abs := PySem.W.mg_none_of X G z4
  have n_len := PySem.W.mg_none_of X G z5
  have n_range := PySem.W.mg_none_of X G z6
  have n_tuple := PySem.W.mg_none_of X G z7
  have n_list := PySem.W.mg_none_of X G z8
  have n_enumerate := PySem.W.mg_none_of X G z9
  have n_zip := PySem.W.mg_none_of X G z10
  have n_all := PySem.W.mg_none_of X G z11
  have n_ValueError := PySem.W.mg_none_of X G z12
  refine ⟨PySem.W.fnOf "law" "law" (defArgs sLaw) (defBody sLaw) (defScope sLaw) .none kV30 dc30 pm30 an30 cd30 ct30, fun s v => .of_eq rfl, fun base _ _ => ?_⟩
  have bl : Bl mg := ⟨n_isinstance, n_int, n_bool, n_abs⟩
  have fN : ∀ H, Fq K H aN (0, 1) := Fq.modT lN
  have qI : ExcI K c_Lame c_OhmError f1 := ⟨⟨_, _, _, _, _, _, _, _, _, _, _, _, _, _, lL⟩, ⟨_, _, _, _, _, _, _, _, _, _, _, _, _, _, _, lO⟩, x1_OhmError, a1_0, tyL⟩
  have cI : ClsI K c_OhmError := ⟨ci1, ci2, ci3⟩
  have qF : ExcF K c_Lame "multiples" := ⟨sa_L, no_L⟩
  have qC : LameC K c_Lame := ⟨⟨x2_Lame, x3_Lame, x4_Lame, x5_Lame, x6_Lame, x7_Lame, x8_Lame, x9_Lame⟩, hd_L, no_L, xm_L⟩
  have qB : BaseC K mg c_Lame := ⟨⟨_, mc_OhmError, q1⟩, ⟨n_ValueError, q3⟩, ⟨_, _, _, _, _, _, mc_Floats, mc_Held, mc_Ring, mc_NoNumber, mc_NoSize, mc_NoName, q4⟩, ⟨_, _, _, _, _, _, mc_NoPoint, mc_NoRow, mc_NoWord, mc_NoStreams, mc_NoRoad, mc_TooMany, q5⟩⟩
  have R1 := ok_linit (P := l.prog) (w := w) (K := K) (mg := mg) (base := base) (CX := CX0) F1 qI cI qF mc_OhmError n_tuple n_list
  have R2 := ok_whole (P := l.prog) (w := w) (K := K) (mg := mg) (base := base) (CX := CX0) F2 bl
  have R3 := ok_gc (P := l.prog) (w := w) (K := K) (mg := mg) (base := base) (CX := CX0) F3 bl
  have R4 := ok_frac (P := l.prog) (w := w) (K := K) (mg := mg) (base := base) (CX := CX0) F4  R2 b2 k2 m2 R3 b3 k3 m3
  have R5 := ok_iw (P := l.prog) (w := w) (K := K) (mg := mg) (base := base) (CX := CX0) F5  R3 b3 k3 m3
  have R6 := ok_piv (P := l.prog) (w := w) (K := K) (mg := mg) (base := base) (CX := CX0) F6 n_len n_range
  have R7 := ok_clr (P := l.prog) (w := w) (K := K) (mg := mg) (base := base) (CX := CX0) F7 n_zip
  have R8 := ok_clrrows (P := l.prog) (w := w) (K := K) (mg := mg) (base := base) (CX := CX0) F8 n_enumerate R7 b7 k7 m7
  have R9 := ok_elim (P := l.prog) (w := w) (K := K) (mg := mg) (base := base) (CX := CX0) F9 n_range n_list R6 b6 k6 m6 R8 b8 k8 m8
  have R10 := ok_unit (P := l.prog) (w := w) (K := K) (mg := mg) (base := base) (CX := CX0) F10 n_len n_range n_enumerate R5 b5 k5 m5
  have R11 := ok_overp (P := l.prog) (w := w) (K := K) (mg := mg) (base := base) (CX := CX0) F11  R4 b4 k4 m4
  have R12 := ok_lamem (P := l.prog) (w := w) (K := K) (mg := mg) (base := base) (CX := CX0) F12 n_len R10 b10 k10 m10 R9 b9 k9 m9 R11 b11 k11 m11
  have R13 := ok_mult (P := l.prog) (w := w) (K := K) (mg := mg) (base := base) F13 n_len R10 b10 k10 m10 R9 b9 k9 m9 R11 b11 k11 m11 R12 b12 k12 m12 mc_Lame qI R1 b1
  have R14 := ok_solved (P := l.prog) (w := w) (K := K) (mg := mg) (base := base) F14 n_len n_zip R5 b5 k5 m5 R9 b9 k9 m9 R4 b4 k4 m4 R12 b12 k12 m12 mc_Lame qI R1 b1
  have R15 := ok_weight (P := l.prog) (w := w) (K := K) (mg := mg) (base := base) (CX := CX0) F15 fN mv_NOUGHT n_len R5 b5 k5 m5 R9 b9 k9 m9 R4 b4 k4 m4
  have R16 := ok_nth (P := l.prog) (w := w) (K := K) (mg := mg) (base := base) (CX := CX0) F16 
  have R17 := ok_div (P := l.prog) (w := w) (K := K) (mg := mg) (base := base) (CX := CX0) F17 bl
  have R18 := ok_lowest (P := l.prog) (w := w) (K := K) (mg := mg) (base := base) (CX := CX0) F18  R17 b17 k17 m17
  have R19 := ok_is (P := l.prog) (w := w) (K := K) (mg := mg) (base := base) (CX := CX0) F19 bl n_len n_tuple R17 b17 k17 m17
  have R20 := ok_llist (P := l.prog) (w := w) (K := K) (mg := mg) (base := base) (CX := CX0) F20 bl n_len n_list n_all R19 b19 k19 m19
  have R21 := ok_meets (P := l.prog) (w := w) (K := K) (mg := mg) (base := base) (CX := CX0) F21 n_zip
  have R22 := ok_drawn (P := l.prog) (w := w) (K := K) (mg := mg) (base := base) (CX := CX0) F22  R18 b18 k18 m18
  have R23 := ok_row (P := l.prog) (w := w) (K := K) (mg := mg) (base := base) (CX := CX0) F23 n_range R16 b16 k16 m16 R22 b22 k22 m22
  have R24 := ok_suml (P := l.prog) (w := w) (K := K) (mg := mg) (base := base) (CX := CX0) F24 n_zip R18 b18 k18 m18
  have R25 := ok_hung (P := l.prog) (w := w) (K := K) (mg := mg) (base := base) (CX := CX0) F25 n_range R16 b16 k16 m16 R23 b23 k23 m23 R22 b22 k22 m22 R24 b24 k24 m24
  have R26 := ok_null (P := l.prog) (w := w) (K := K) (mg := mg) (base := base) (CX := CX0) F26 bl n_len n_range n_all R20 b20 k20 m20 R21 b21 k21 m21
  have R27 := ok_lsolved (P := l.prog) (w := w) (K := K) (mg := mg) (base := base) (CX := CX0) F27 mc_Lame qC R14 b14 k14 m14
  have R28 := ok_pap (P := l.prog) (w := w) (K := K) (mg := mg) (base := base) (CX := CX0) F28 mc_Lame qC R13 b13 k13 m13
  have R29 := ok_base (P := l.prog) (w := w) (K := K) (mg := mg) (base := base) (CX := CX0) F29 bl qC qB R14 b14 k14 m14
  have RS : FnOk l.prog w K mg base CX0 5 f14 _ ["matrix", "right"] (spSolvedC K c_Lame) := R14.calm
  exact ok_law (P := l.prog) (w := w) (K := K) (mg := mg) (base := base) (CX := CX0) F30 bl n_list R16 b16 k16 m16 R25 b25 k25 m25 R24 b24 k24 m24 R23 b23 k23 m23 R26 b26 k26 m26 R27 b27 k27 m27 R29 b29 k29 m29 R28 b28 k28 m28 R15 b15 k15 m15 RS b14 k14 m14 R18 b18 k18 m18
theorem walk {l : PySem.W.OpenLaw} {q : Program} {loose : List Str} {XP : (Str → Option Value) → Heap → Prop} {YP : World → Heap → Prop} {d : DefRec} {K : Params → PySem.W.Frag} (hn : l.most = some 63) (hdf : d.params.defaults = [])
    (hY : ∀ (w : World) (h : Heap), YP w h → (K w.params).In h)
    (F : ∀ (w : World) (mg : Str → Option Value) (fa : Addr) (h : Heap), (K w.params).In h → h.Ns mainGlobals mg → mg d.name = some (.ref fa) →
      ∃ fd : FuncData, (∀ (s : Shared) (u : Value), BindsTo s fd ⟨[u], []⟩ [("_law_script", u)]) ∧ ∀ base : Heap, (K w.params).In base → base.Ns mainGlobals mg → FnOk l.prog w (K w.params) mg base CX0 7 fa fd ["_law_script"] (spLaw (K w.params))) :
    PySem.W.WalkO q loose XP YP l.row.toRowW d [] (fun f vs => PySem.call f vs) :=
  L2.walk_of (n := 63) (k := 7) (x := "_law_script") (CX := fun _ => CX0) (sp := fun w => spLaw (K w.params)) hn (by decide) hdf ⟨rfl, by decide, by decide⟩ hY F (fun _ _ a ns hl _ hS => ⟨a, ns, rfl, hS, hl, fun _ => rfl⟩) fun _ _ _ _ _ z => z
end K25
def PySem.W.Fast.tw17827925951589854823 : Nat := 0
def PySem.W.Fast.tw9822601172196782400 : Nat := 0
def PySem.W.Fast.tw4715928917485121248 : Nat := 0
def PySem.W.Fast.tw2437509068279268765 : Nat := 0
def PySem.W.Fast.tw10386275098626177655 : Nat := 0
def PySem.W.Fast.tw2680018172025533726 : Nat := 0
def PySem.W.Fast.tw17824160975119229938 : Nat := 0
def PySem.W.Fast.tw11139607759026713987 : Nat := 0
def PySem.W.Fast.tw655780223045439137 : Nat := 0
def PySem.W.Fast.tw13174423688789132929 : Nat := 0
def PySem.W.Fast.tw5225371328280282667 : Nat := 0
def PySem.W.Fast.tw12853611019399569024 : Nat := 0
def PySem.W.Fast.tw745457831634760752 : Nat := 0
def PySem.W.Fast.tw16190378547011499064 : Nat := 0
def PySem.W.Fast.tw592061106511444251 : Nat := 0
def PySem.W.Fast.tw3576361517840173895 : Nat := 0
def PySem.W.Fast.tw492976771854929793 : Nat := 0
def PySem.W.Fast.tw17604058010346493721 : Nat := 0
def PySem.W.Fast.tw15523110007237794546 : Nat := 0
open PySem PySem.W PyProof.Rows
set_option maxRecDepth 100000 in
set_option maxHeartbeats 0 in
theorem PySem.Challenge.cw_ohmyard_k25_lame_refused_holds : PySem.Challenge.rw_ohmyard_k25_lame_refused.Holds := by
  w_on; o_law; z_head; (case hw => w_witness2)
  k_fill
  refine L2.walkX_of (fun _ => by kernel_rfl) (K25.walk (l := PySem.Challenge.rw_ohmyard_k25_lame_refused) rfl rfl (fun w h Y => Y) ?F)
  case F =>
    intro w mg fa h KX G hmg
    refine' K25.all_mk KX G hmg ?y_Lame ?y_OhmError ?y_Floats ?y_Held ?y_Ring ?y_NoNumber ?y_NoSize ?y_NoName ?y_NoPoint ?y_NoRow ?y_NoWord ?y_NoStreams ?y_NoRoad ?y_TooMany ?a1_0 ?i1 ?l1 ?c1 ?k1 ?a2 ?l2 ?c2 ?k2 ?a3 ?l3 ?c3 ?k3 ?a4 ?l4 ?c4 ?k4 ?lt4 ?a5 ?l5 ?c5 ?k5 ?a6 ?l6 ?c6 ?k6 ?a7 ?l7 ?c7 ?k7 ?a8 ?l8 ?c8 ?k8 ?a9 ?l9 ?c9 ?k9 ?a10 ?l10 ?c10 ?k10 ?a11 ?l11 ?c11 ?k11 ?a12 ?l12 ?c12 ?k12 ?a13 ?l13 ?c13 ?k13 ?a14 ?l14 ?c14 ?k14 ?a15 ?l15 ?c15 ?k15 ?a16 ?l16 ?c16 ?k16 ?a17 ?l17 ?c17 ?k17 ?a18 ?l18 ?c18 ?k18 ?a19 ?l19 ?c19 ?k19 ?a20 ?l20 ?c20 ?k20 ?a21 ?l21 ?c21 ?k21 ?a22 ?l22 ?c22 ?k22 ?a23 ?l23 ?c23 ?k23 ?a24 ?l24 ?c24 ?k24 ?a25 ?l25 ?c25 ?k25 ?a26 ?l26 ?c26 ?k26 ?a27 ?l27 ?c27 ?k27 ?a28 ?l28 ?c28 ?k28 ?a29 ?l29 ?c29 ?k29 ?a30 ?l30 ?c30 ?k30 ?v_NOUGHT ?lL ?lO ?x1_OhmError ?tyL ?ci1 ?ci2 ?ci3 ?sa_L ?no_L ?hd_L ?xm_L ?q1 ?q3 ?q4 ?q5 ?lN ?x2_Lame ?x3_Lame ?x4_Lame ?x5_Lame ?x6_Lame ?x7_Lame ?x8_Lame ?x9_Lame ?z1 ?z2 ?z3 ?z4 ?z5 ?z6 ?z7 ?z8 ?z9 ?z10 ?z11 ?z12
    (case y_Lame => k_is)
    (case y_OhmError => k_is)
    (case y_Floats => k_is)
    (case y_Held => k_is)
    (case y_Ring => k_is)
    (case y_NoNumber => k_is)
    (case y_NoSize => k_is)
    (case y_NoName => k_is)
    (case y_NoPoint => k_is)
    (case y_NoRow => k_is)
    (case y_NoWord => k_is)
    (case y_NoStreams => k_is)
    (case y_NoRoad => k_is)
    (case y_TooMany => k_is)
    (case a1_0 => k_is); (case i1 => k_is); (case l1 => k_is); (case c1 => k_is); (case k1 => k_is)
    (case a2 => k_is); (case l2 => k_is); (case c2 => k_is); (case k2 => k_is)
    (case a3 => k_is); (case l3 => k_is); (case c3 => k_is); (case k3 => k_is)
    (case a4 => k_is); (case l4 => k_is); (case c4 => k_is); (case k4 => k_is); (case lt4 => k_is)
    (case a5 => k_is); (case l5 => k_is); (case c5 => k_is); (case k5 => k_is)
    (case a6 => k_is); (case l6 => k_is); (case c6 => k_is); (case k6 => k_is)
    (case a7 => k_is); (case l7 => k_is); (case c7 => k_is); (case k7 => k_is)
    (case a8 => k_is); (case l8 => k_is); (case c8 => k_is); (case k8 => k_is)
    (case a9 => k_is); (case l9 => k_is); (case c9 => k_is); (case k9 => k_is)
    (case a10 => k_is); (case l10 => k_is); (case c10 => k_is); (case k10 => k_is)
    (case a11 => k_is); (case l11 => k_is); (case c11 => k_is); (case k11 => k_is)
    (case a12 => k_is); (case l12 => k_is); (case c12 => k_is); (case k12 => k_is)
    (case a13 => k_is); (case l13 => k_is); (case c13 => k_is); (case k13 => k_is)
    (case a14 => k_is); (case l14 => k_is); (case c14 => k_is); (case k14 => k_is)
    (case a15 => k_is); (case l15 => k_is); (case c15 => k_is); (case k15 => k_is)
    (case a16 => k_is); (case l16 => k_is); (case c16 => k_is); (case k16 => k_is)
    (case a17 => k_is); (case l17 => k_is); (case c17 => k_is); (case k17 => k_is)
    (case a18 => k_is); (case l18 => k_is); (case c18 => k_is); (case k18 => k_is)
    (case a19 => k_is); (case l19 => k_is); (case c19 => k_is); (case k19 => k_is)
    (case a20 => k_is); (case l20 => k_is); (case c20 => k_is); (case k20 => k_is)
    (case a21 => k_is); (case l21 => k_is); (case c21 => k_is); (case k21 => k_is)
    (case a22 => k_is); (case l22 => k_is); (case c22 => k_is); (case k22 => k_is)
    (case a23 => k_is); (case l23 => k_is); (case c23 => k_is); (case k23 => k_is)
    (case a24 => k_is); (case l24 => k_is); (case c24 => k_is); (case k24 => k_is)
    (case a25 => k_is); (case l25 => k_is); (case c25 => k_is); (case k25 => k_is)
    (case a26 => k_is); (case l26 => k_is); (case c26 => k_is); (case k26 => k_is)
    (case a27 => k_is); (case l27 => k_is); (case c27 => k_is); (case k27 => k_is)
    (case a28 => k_is); (case l28 => k_is); (case c28 => k_is); (case k28 => k_is)
    (case a29 => k_is); (case l29 => k_is); (case c29 => k_is); (case k29 => k_is)
    (case a30 => k_is); (case l30 => k_is); (case c30 => k_is); (case k30 => k_is)
    (case v_NOUGHT => k_is)
    (case lL => k_is)
    (case lO => k_is)
    (case x1_OhmError => k_exc)
    (case tyL => k_is)
    (case ci1 => k_is)
    (case ci2 => k_is)
    (case ci3 => k_is)
    (case sa_L => k_is)
    (case no_L => k_is)
    (case hd_L => k_is)
    (case xm_L => kts_exm)
    (case q1 => kts_exm)
    (case q3 => kit_is)
    (case q4 => kit_is)
    (case q5 => kit_is)
    (case lN => k_is)
    (case x2_Lame => k_is)
    (case x3_Lame => k_is)
    (case x4_Lame => k_is)
    (case x5_Lame => k_is)
    (case x6_Lame => k_is)
    (case x7_Lame => k_is)
    (case x8_Lame => k_is)
    (case x9_Lame => first | k_is | rfl | decide)
    (case z1 => k_is)
    (case z2 => k_is)
    (case z3 => k_is)
    (case z4 => k_is)
    (case z5 => k_is)
    (case z6 => k_is)
    (case z7 => k_is)
    (case z8 => k_is)
    (case z9 => k_is)
    (case z10 => k_is)
    (case z11 => k_is)
    (case z12 => k_is)
