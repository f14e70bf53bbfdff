import PyProof.Rows.All
import Wide.All
import OpenK.AllK
import Wide.FinOn
import Lean
import PyProof.EqAt
import PyProof.EqKinds
import PyProof.TupleCall
import PyProof.EnumStmt
import PyProof.EnumMake
import PyProof.Cells
import PyProof.SumWalkG
import PySem.Challenge.RW_ohmyard_k21_rows_summed
set_option Elab.async false
set_option linter.all false
set_option maxRecDepth 100000
/-! THE HAND LAYER, for ints, bools, texts, own classes, LISTS and tuples (index, slices, in, append, pop ..), calls, loops. Paste it whole ahead of your own text; what your proof does not reach may be deleted. -/
namespace L2
open PySem PySem.Spec PyProof.Rows

/-- a key: an int or a str -/
abbrev Key := Sum Int Str
def keyIs : Key → Value → Bool
  | .inl k, v => Value.isInt k v
  | .inr x, v => Value.isStrOf x v
def keyH (w : World) : Key → Int
  | .inl k => hashInt k
  | .inr x => hashStr w x
theorem keyIs_shape : ∀ {k : Key} {v : Value}, keyIs k v = true → (∃ i t, k = Sum.inl i ∧ v = Value.int i t) ∨ (∃ x t, k = Sum.inr x ∧ v = Value.str x t)
  | .inl i, v, h => by
    obtain ⟨t, e⟩ := Value.isInt_shape (k := i) (v := v) h
    exact .inl ⟨i, t, rfl, e⟩
  | .inr x, v, h => by
    obtain ⟨t, e⟩ := Value.isStrOf_shape (x := x) (v := v) h
    exact .inr ⟨x, t, rfl, e⟩
theorem key_ll (a b : Int) : decide ((Sum.inl a : Key) = Sum.inl b) = (a == b) := by
  by_cases e : a = b
  · subst e; simp
  · have h : ¬ (Sum.inl a : Key) = Sum.inl b := fun q => e (Sum.inl.inj q)
    rw [decide_eq_false h]
    exact (beq_eq_false_iff_ne.mpr e).symm
theorem key_rr (a b : Str) : decide ((Sum.inr a : Key) = Sum.inr b) = decide (a = b) := by
  by_cases e : a = b
  · subst e; simp
  · have h : ¬ (Sum.inr a : Key) = Sum.inr b := fun q => e (Sum.inr.inj q)
    rw [decide_eq_false h, decide_eq_false e]
theorem key_lr (a : Int) (b : Str) : decide ((Sum.inl a : Key) = Sum.inr b) = false := decide_eq_false (fun q => nomatch q)
theorem key_rl (a : Str) (b : Int) : decide ((Sum.inr a : Key) = Sum.inl b) = false := decide_eq_false (fun q => nomatch q)

def mixKind (prog : Program) (w : World) : PySem.KeyKind prog w Key where
  is := keyIs
  hash := keyH w
  inj := fun v a b ha hb => by
    rcases keyIs_shape ha with ⟨i, t, rfl, rfl⟩ | ⟨x, t, rfl, rfl⟩
    · rcases keyIs_shape hb with ⟨j, u, rfl, e⟩ | ⟨y, u, rfl, e⟩
      · injection e with e1 _; rw [e1]
      · exact nomatch e
    · rcases keyIs_shape hb with ⟨j, u, rfl, e⟩ | ⟨y, u, rfl, e⟩
      · exact nomatch e
      · injection e with e1 _; rw [e1]
  byValue := fun k v h => by
    rcases keyIs_shape h with ⟨i, t, rfl, rfl⟩ | ⟨x, t, rfl, rfl⟩ <;> rfl
  pyHash := fun hv h => by
    rcases keyIs_shape hv with ⟨i, t, rfl, rfl⟩ | ⟨x, t, rfl, rfl⟩
    · exact wpAny_pyHash_int h
    · exact wpAny_pyHash_str h
  eqBool := fun hu hv h => by
    rcases keyIs_shape hu with ⟨i, t, rfl, rfl⟩ | ⟨x, t, rfl, rfl⟩
    · rcases keyIs_shape hv with ⟨j, u, rfl, rfl⟩ | ⟨y, u, rfl, rfl⟩
      · rw [key_ll] at h; exact wpAny_eqBool_int h
      · rw [key_lr] at h; exact SeqAt.EqAt.int_str i t y u _ _ _ _ h
    · rcases keyIs_shape hv with ⟨j, u, rfl, rfl⟩ | ⟨y, u, rfl, rfl⟩
      · rw [key_rl] at h; exact SeqAt.EqAt.str_int x t j u _ _ _ _ h
      · rw [key_rr] at h; exact wpAny_eqBool_str h
  «strs» := fun k x t v h => by
    rcases keyIs_shape h with ⟨i, u, rfl, e⟩ | ⟨y, u, rfl, e⟩
    · exact nomatch e
    · injection e with e1 _
      subst e1
      cases v <;> rfl

end L2

namespace L2
open PySem PySem.Spec PyProof.Rows

/-- a value, without the heap -/
inductive V where
  | non | bl (b : Bool) | int (i : Int) | str (x : Str) | byt (b : Array UInt8) | flt (b : UInt64) | ref (a : Addr) | ty (n : String)
  deriving DecidableEq

def RelV : V → Value → Prop
  | .non, u => u = Value.none
  | .bl b, u => u = Value.bool b
  | .int i, u => ∃ t, u = Value.int i t
  | .str x, u => ∃ t, u = Value.str x t
  | .byt b, u => ∃ t, u = Value.bytes b t
  | .flt b, u => ∃ t, u = Value.float b t
  | .ref a, u => u = Value.ref a
  | .ty n, u => u = Value.type n

abbrev Vals : List V → List Value → Prop := Paired RelV
theorem Vals.length {xs : List V} {us : List Value} (r : Vals xs us) : xs.length = us.length := Paired.length r
theorem Vals.get : ∀ {xs : List V} {us : List Value} {i : Nat} {x : V}, Vals xs us → xs[i]? = some x → ∃ u, us[i]? = some u ∧ RelV x u
  | _, _, _, _, .nil, e => by simp at e
  | _, _, 0, _, .cons r _, e => by simp at e; subst e; exact ⟨_, rfl, r⟩
  | _, _, i + 1, x, .cons _ t, e => by
    obtain ⟨u, h1, h2⟩ := Vals.get (i := i) (x := x) t (by simpa using e)
    exact ⟨u, by simpa using h1, h2⟩
theorem Vals.append : ∀ {xs ys : List V} {us ws : List Value}, Vals xs us → Vals ys ws → Vals (xs ++ ys) (us ++ ws)
  | _, _, _, _, .nil, s => s
  | _, _, _, _, .cons r t, s => .cons r (Vals.append t s)
theorem Vals.take : ∀ {xs : List V} {us : List Value} (n : Nat), Vals xs us → Vals (xs.take n) (us.take n)
  | _, _, 0, _ => .nil
  | _, _, _ + 1, .nil => .nil
  | _, _, n + 1, .cons r t => .cons r (Vals.take n t)
theorem Vals.drop : ∀ {xs : List V} {us : List Value} (n : Nat), Vals xs us → Vals (xs.drop n) (us.drop n)
  | _, _, 0, r => r
  | _, _, _ + 1, .nil => .nil
  | _, _, n + 1, .cons _ t => Vals.drop n t
def RelO : Option V → Option Value → Prop
  | some v, some u => RelV v u
  | none, none => True
  | _, _ => False
def KV {κ : Type} : List (κ × V) → List (κ × Value) → Prop := Paired fun (p : κ × V) (q : κ × Value) => p.1 = q.1 ∧ RelV p.2 q.2

/-- a key of a dict (00_mix): an int or a text -/
def kV : Key → V
  | .inl i => .int i
  | .inr x => .str x

/-- what stands at a tracked address -/
inductive HO where
  /-- a list -/
  | lst (xs : List V)
  /-- a tuple (never changes) -/
  | tup (xs : List V)
  /-- a dict whose keys are ints and texts; one whose keys are tuples of ints and texts (the empty one is both) -/
  | dK (kvs : List (Key × V)) | dT (kvs : List (List Key × V))
  /-- a set of ints: its members, its size -/
  | set (S : Int → Bool) (n : Nat)
  /-- an instance of the class at C, its dict at dx, its attributes -/
  | ins (C dx : Addr) (fs : List (Str × V))
  /-- the dict of the instance at x -/
  | own (x : Addr)
  /-- the dict of an exception -/
  | xd (fs : List (Str × V))
  /-- a bound method, f of x -/
  | met (f x : Addr)
  /-- a range object lo, lo + 1, .. below hi -/
  | rng (lo hi : Int)
  /-- a thing that is known to the object (the script; a dict while a loop walks it): read, never written while it is so -/
  | frz (o : Obj) (u : HO)
  /-- a code object's table -/
  | tbl (ps : Array Value)
  /-- any other thing, by what is true of its one object (a def of one's own: SetO a S n := HO.ext fun h => ..) -/
  | ext (φ : Heap → Prop)

abbrev Hp := Addr → Option HO
def upd (H : Hp) (a : Addr) (o : HO) : Hp := fun b => if b = a then some o else H b
theorem upd_same {H : Hp} {a : Addr} {o : HO} : upd H a o a = some o := by unfold upd; rw [if_pos rfl]
theorem upd_ne {H : Hp} {a b : Addr} {o : HO} (h : b ≠ a) : upd H a o b = H b := by unfold upd; rw [if_neg h]
/-- two objects of different content stand apart -/
theorem ne_of {H : Hp} {a b : Addr} {o u : HO} (h : H a = some o) (h' : H b = some u) (d : o ≠ u) : a ≠ b := by
  intro e; subst e; rw [h] at h'; exact d (Option.some.inj h')
theorem ne_of_none {H : Hp} {a b : Addr} {o : HO} (h : H a = some o) (h' : H b = none) : a ≠ b := by
  intro e; subst e; rw [h] at h'; cases h'

section
variable (P : Program) (w : World)
def ObjOk (H : Hp) (h : Heap) (a : Addr) : HO → Prop
  | .lst xs => xs.length ≤ sizeLine ∧ ∃ (its : List Value) (n : Nat), Vals xs its ∧ h.get? a = some { cls := .type "list", data := .seq its.toArray n }
  | .tup xs => xs.length ≤ sizeLine ∧ ∃ its : List Value, Vals xs its ∧ IsTup h a its.toArray
  | .dK kvs => kvs.length ≤ sizeLine ∧ (a == sysModules) = false ∧ ∃ vs, KV kvs vs ∧ h.DictOf (mixKind P w) a vs
  | .dT kvs => kvs.length ≤ sizeLine ∧ (a == sysModules) = false ∧ ∃ xs : List (List Key × Addr × Value),
      Paired (fun (p : List Key × V) (q : List Key × Addr × Value) => p.1 = q.1 ∧ H q.2.1 = some (.tup (p.1.map kV)) ∧ RelV p.2 q.2.2) kvs xs ∧
      ∃ o es ep, h.get? a = some o ∧ o.ExactDict ∧ o.data = .dict es ep ∧ es.toList = xs.map (entryOfKey (tupleKind (mixKind P w))) ∧ (xs.map (·.1)).Nodup
  | .set S n => h.SetOf (intKind P w) a S n
  | .ins C dx fs => H dx = some (.own a) ∧ fs.length ≤ 1000 ∧ dx ≠ a ∧ h.get? a = some (PySem.W.instObj C dx) ∧
      ∃ mA, h.Ns1 dx mA ∧ (∀ f, RelO (fs.lookup f) (mA f)) ∧ PySem.Within mA (fs.map (·.1))
  | .own _ => ∃ o, h.get? a = some o
  | .xd fs => ∃ mA, h.Ns1 a mA ∧ ∀ f, RelO (fs.lookup f) (mA f)
  | .rng lo hi => ∃ t u v, h.get? a = some { cls := .type "range", data := .fields #[.int lo t, .int hi u, .int 1 v] }
  | .frz o u => h.get? a = some o ∧ ObjOk H h a u
  | .tbl ps => h.get? a = some { cls := .none, data := .fields ps }
  | .met f x => h.get? a = some (PySem.W.methodObj (.ref f) (.ref x))
  | .ext φ => φ h ∧ (∃ o, h.get? a = some o) ∧ ∀ h1 h2 : Heap, φ h1 → (∀ o, h1.get? a = some o → h2.get? a = some o) → φ h2
/-- the abstract heap is held -/
def HOk (H : Hp) (h : Heap) : Prop := ∀ a o, H a = some o → ObjOk P w H h a o
end

section
variable {P : Program} {w : World} {H H' : Hp} {h h' : Heap} {a : Addr} {o : HO}
theorem ObjOk.lt (x : ObjOk P w H h a o) : a < h.objs.size := by
  cases o with
  | lst xs => obtain ⟨_, _, _, _, e⟩ := x; exact Heap.lt_size e
  | tup xs => obtain ⟨_, _, _, p⟩ := x; exact p.lt
  | dK kvs => obtain ⟨_, _, _, _, o, _, _, e, _⟩ := x; exact Heap.lt_size e
  | dT kvs => obtain ⟨_, _, _, _, o, _, _, e, _⟩ := x; exact Heap.lt_size e
  | set S n => obtain ⟨o, _, _, _, e, _⟩ := x; exact Heap.lt_size e
  | ins C dx fs => obtain ⟨_, _, _, e, _⟩ := x; exact Heap.lt_size e
  | own y => obtain ⟨_, e⟩ := x; exact Heap.lt_size e
  | xd fs => obtain ⟨_, ⟨_, _, _, e, _⟩, _⟩ := x; exact Heap.lt_size e
  | rng lo hi => obtain ⟨_, _, _, e⟩ := x; exact Heap.lt_size e
  | frz ob u => obtain ⟨e, _⟩ := x; exact Heap.lt_size e
  | tbl ps => exact Heap.lt_size (show h.get? a = some _ from x)
  | met f y => exact Heap.lt_size (show h.get? a = some _ from x)
  | ext φ => obtain ⟨_, ⟨_, e⟩, _⟩ := x; exact Heap.lt_size e
theorem Paired.mapP {α β : Type} {F G : α → β → Prop} : ∀ {l₁ : List α} {l₂ : List β}, Paired F l₁ l₂ → (∀ a b, F a b → G a b) → Paired G l₁ l₂
  | _, _, .nil, _ => .nil
  | _, _, .cons r t, f => .cons (f _ _ r) (Paired.mapP t f)
/-- what an object's description leans on: its own object, its own dict, the tuples -/
theorem ObjOk.stay (x : ObjOk P w H h a o) (k : ∀ b u, (b = a ∨ H b = some (.own a)) → h.get? b = some u → h'.get? b = some u)
    (ho : ∀ b, H b = some (.own a) → H' b = some (.own a)) (ht : ∀ b xs, H b = some (.tup xs) → H' b = some (.tup xs)) : ObjOk P w H' h' a o := by
  induction o with
  | lst xs => obtain ⟨z, its, n, r, e⟩ := x; exact ⟨z, its, n, r, k _ _ (.inl rfl) e⟩
  | tup xs => obtain ⟨z, its, r, ob, e, c⟩ := x; exact ⟨z, its, r, ob, k _ _ (.inl rfl) e, c⟩
  | dK kvs => obtain ⟨z, y, vs, r, ob, es, ep, e, c⟩ := x; exact ⟨z, y, vs, r, ob, es, ep, k _ _ (.inl rfl) e, c⟩
  | dT kvs =>
    obtain ⟨z, y, xs, r, ob, es, ep, e, c⟩ := x
    exact ⟨z, y, xs, Paired.mapP r fun p q z => ⟨z.1, ht _ _ z.2.1, z.2.2⟩, ob, es, ep, k _ _ (.inl rfl) e, c⟩
  | set S n => obtain ⟨ob, es, ep, t, e, c⟩ := x; exact ⟨ob, es, ep, t, k _ _ (.inl rfl) e, c⟩
  | ins C dx fs =>
    obtain ⟨d, z, ne, e, mA, ⟨od, es, ep, e2, c⟩, r⟩ := x
    exact ⟨ho _ d, z, ne, k _ _ (.inl rfl) e, mA, ⟨od, es, ep, k _ _ (.inr d) e2, c⟩, r⟩
  | own y => obtain ⟨ob, e⟩ := x; exact ⟨ob, k _ _ (.inl rfl) e⟩
  | xd fs => obtain ⟨mA, ⟨od, es, ep, e, c⟩, r⟩ := x; exact ⟨mA, ⟨od, es, ep, k _ _ (.inl rfl) e, c⟩, r⟩
  | rng lo hi => obtain ⟨t, u, v, e⟩ := x; exact ⟨t, u, v, k _ _ (.inl rfl) e⟩
  | frz ob u ih => obtain ⟨e, q⟩ := x; exact ⟨k _ _ (.inl rfl) e, ih q⟩
  | tbl ps =>
    have e : h.get? a = some { cls := .none, data := .fields ps } := x
    show h'.get? a = some { cls := .none, data := .fields ps }
    exact k a _ (.inl rfl) e
  | met f y =>
    have e : h.get? a = some (PySem.W.methodObj (.ref f) (.ref y)) := x
    show h'.get? a = some (PySem.W.methodObj (.ref f) (.ref y))
    exact k a _ (.inl rfl) e
  | ext φ => obtain ⟨p, ⟨o, e⟩, st⟩ := x; exact ⟨st _ _ p fun o q => k _ _ (.inl rfl) q, ⟨o, k _ _ (.inl rfl) e⟩, st⟩
theorem HOk.lt (x : HOk P w H h) (e : H a = some o) : a < h.objs.size := (x a o e).lt
theorem HOk.fresh (x : HOk P w H h) (e : h.objs.size ≤ a) : H a = none := by
  cases q : H a with
  | none => rfl
  | some u => exact absurd (Nat.lt_of_lt_of_le (x.lt q) e) (Nat.lt_irrefl _)
/-- every object of the heap is kept -/
theorem HOk.kept (x : HOk P w H h) (k : ∀ b u, h.get? b = some u → h'.get? b = some u) : HOk P w H h' := fun a o e =>
  (x a o e).stay (fun b u _ q => k b u q) (fun _ q => q) fun _ _ q => q
/-- a new object is laid and tracked -/
theorem HOk.laid (x : HOk P w H h) (k : ∀ b u, h.get? b = some u → h'.get? b = some u) (hp : h.objs.size ≤ a) (new : ObjOk P w (upd H a o) h' a o) : HOk P w (upd H a o) h' := fun b u e => by
  have hn := x.fresh hp
  by_cases hb : b = a
  · subst hb; rw [upd_same] at e; cases e; exact new
  · rw [upd_ne hb] at e
    exact (x b u e).stay (fun c v _ q => k c v q) (fun c q => by rw [upd_ne (ne_of_none q hn)]; exact q) fun c xs q => by rw [upd_ne (ne_of_none q hn)]; exact q
end

/-- what may be read as u: it is u, or a known u -/
def Rd (H : Hp) (a : Addr) (u : HO) : Prop := H a = some u ∨ ∃ o, H a = some (.frz o u)
theorem Rd.ok {P : Program} {w : World} {H : Hp} {h : Heap} {a : Addr} {u : HO} (r : Rd H a u) (x : HOk P w H h) : ObjOk P w H h a u := by
  rcases r with r | ⟨o, r⟩
  · exact x a u r
  · obtain ⟨_, q⟩ := x a _ r
    exact q
/-- what may be written -/
def Mut : Option HO → Prop
  | some (.lst _) => True
  | some (.dK _) => True
  | some (.dT _) => True
  | some (.set _ _) => True
  | some (.ins _ _ _) => True
  | some (.ext _) => True
  | _ => False
section
variable {P : Program} {w : World} {H : Hp} {h h' : Heap} {x e : Addr} {o' : HO}
/-- the object at e is changed: x itself, or the dict of the instance x -/
theorem HOk.write (ok : HOk P w H h) (mu : Mut (H x)) (he : e = x ∨ H e = some (.own x)) (k : ∀ b u, b ≠ e → h.get? b = some u → h'.get? b = some u) (heo : ∃ u, h'.get? e = some u)
    (new : ObjOk P w (upd H x o') h' x o') : HOk P w (upd H x o') h' := fun b u q => by
  have nown : ∀ c y, H c = some (.own y) → c ≠ x := fun c y r z => by subst z; rw [r] at mu; exact mu
  have ntup : ∀ c xs, H c = some (.tup xs) → c ≠ x := fun c xs r z => by subst z; rw [r] at mu; exact mu
  by_cases hb : b = x
  · subst hb; rw [upd_same] at q; cases q; exact new
  · rw [upd_ne hb] at q
    by_cases hbe : b = e
    · have q' : H b = some (.own x) := by
        rcases he with z | z
        · exact absurd (hbe.trans z) hb
        · rw [hbe]; exact z
      rw [q] at q'; cases q'
      obtain ⟨v, hv⟩ := heo
      exact ⟨v, by rw [hbe]; exact hv⟩
    · refine (ok b u q).stay (fun c v hc r => k c v ?_ r) (fun c r => by rw [upd_ne (nown c b r)]; exact r) fun c xs r => by rw [upd_ne (ntup c xs r)]; exact r
      rcases hc with rfl | hc
      · exact hbe
      · rintro rfl
        rcases he with z | z
        · exact nown c b hc z
        · rw [hc] at z; cases z; exact hb rfl
end

/-! ### kept unless tracked; of the frames at fs (the callers') the slots may change (an exception that passes writes there); of the records at ex (iterators) nothing is said -/
structure Un (fs ex : List Addr) (H H' : Hp) (h h' : Heap) : Prop where
  keep : ∀ b o, h.get? b = some o → H b = none → b ∉ fs → b ∉ ex → h'.get? b = some o
  slot : ∀ b o, h.get? b = some o → H b = none → b ∈ fs → b ∉ ex → ∃ sl, h'.get? b = some { o with slots := sl }
  free : ∀ b o, h.get? b = some o → H b = none → b ∉ ex → H' b = none
  there : ∀ b o, h.get? b = some o → b ∉ ex → ∃ o', h'.get? b = some o'
  tups : ∀ b xs, H b = some (.tup xs) → H' b = some (.tup xs)
  frzs : ∀ b o u, H b = some (.frz o u) → H' b = some (.frz o u)
  tbls : ∀ b ps, H b = some (.tbl ps) → ∃ more, H' b = some (.tbl (ps ++ more))
section
variable {fs fs' ex ex' : List Addr} {H H1 H2 : Hp} {h h1 h2 h' : Heap} {a x e : Addr} {o : HO}
theorem Un.any (u : Un fs ex H H1 h h1) {b : Addr} {ob : Obj} (q : h.get? b = some ob) (n : H b = none) (hx : b ∉ ex) : ∃ sl, h1.get? b = some { ob with slots := sl } := by
  by_cases hb : b ∈ fs
  · exact u.slot b ob q n hb hx
  · exact ⟨ob.slots, u.keep b ob q n hb hx⟩
theorem Un.kept (k : ∀ b u, h.get? b = some u → h'.get? b = some u) : Un fs ex H H h h' :=
  ⟨fun b ob q _ _ _ => k b ob q, fun b ob q _ _ _ => ⟨ob.slots, k b ob q⟩, fun _ _ _ n _ => n, fun b ob q _ => ⟨ob, k b ob q⟩, fun _ _ q => q, fun _ _ _ q => q, fun _ ps q => ⟨#[], by rw [q]; simp⟩⟩
theorem Un.refl : Un fs ex H H h h := Un.kept fun _ _ q => q
theorem Un.laid (k : ∀ b u, h.get? b = some u → h'.get? b = some u) (hp : h.objs.size ≤ a) (hn : H a = none) : Un fs ex H (upd H a o) h h' where
  keep := fun b u q _ _ _ => k b u q
  slot := fun b u q _ _ _ => ⟨u.slots, k b u q⟩
  free := fun b u q n _ => by rw [upd_ne (Nat.ne_of_lt (Nat.lt_of_lt_of_le (Heap.lt_size q) hp))]; exact n
  there := fun b u q _ => ⟨u, k b u q⟩
  tups := fun b xs q => by rw [upd_ne (ne_of_none q hn)]; exact q
  frzs := fun b u xs q => by rw [upd_ne (ne_of_none q hn)]; exact q
  tbls := fun b ps q => ⟨#[], by rw [upd_ne (ne_of_none q hn), q]; simp⟩
theorem Un.write (mu : Mut (H x)) (he : e = x ∨ H e = some (.own x)) (k : ∀ b u, b ≠ e → h.get? b = some u → h'.get? b = some u) (heo : ∃ u, h'.get? e = some u) : Un fs ex H (upd H x o) h h' := by
  have hx : ∀ b, H b = none → b ≠ x := fun b n z => by subst z; rw [n] at mu; exact mu
  have hb : ∀ b, H b = none → b ≠ e := fun b n z => by
    subst z
    rcases he with r | r
    · exact hx b n r
    · rw [n] at r; cases r
  have hm : ∀ b u, H b = some u → ¬ Mut (some u) → b ≠ x := fun b u q nm z => by subst z; rw [q] at mu; exact nm mu
  refine ⟨fun b u q n _ _ => k b u (hb b n) q, fun b u q n _ _ => ⟨u.slots, k b u (hb b n) q⟩, fun b u q n _ => by rw [upd_ne (hx b n)]; exact n, fun b u q _ => ?_,
    fun b xs q => by rw [upd_ne (hm b _ q fun z => z)]; exact q, fun b u xs q => by rw [upd_ne (hm b _ q fun z => z)]; exact q, fun b ps q => ⟨#[], by rw [upd_ne (hm b _ q fun z => z), q]; simp⟩⟩
  by_cases hbe : b = e
  · subst hbe; exact heo
  · exact ⟨u, k b u hbe q⟩
end

/-! ### the heap without what is tracked -/
def trk (h : Heap) (H : Hp) : List Addr := (List.range h.objs.size).filter fun a => (H a).isSome
def hidT (h : Heap) (H : Hp) : Heap := PySem.W.hideAll h (trk h H)
theorem hidT_size (h : Heap) (H : Hp) : (hidT h H).objs.size = h.objs.size := PySem.W.hideAll_size _ _
theorem hidT_get {h : Heap} {H : Hp} {b : Addr} {o : Obj} (e : h.get? b = some o) (n : H b = none) : (hidT h H).get? b = some o :=
  PySem.W.hideAll_get _ e fun hm => by
    have q : (H b).isSome = true := (List.mem_filter.mp hm).2
    rw [n] at q; simp at q
theorem of_hidT {h : Heap} {H : Hp} {b : Addr} {o : Obj} (e : (hidT h H).get? b = some o) : h.get? b = some o ∧ H b = none := by
  have e' : h.get? b = some o := PySem.W.of_hideAll (trk h H) e
  refine ⟨e', ?_⟩
  cases q : H b with
  | none => rfl
  | some x =>
    have hm : b ∈ trk h H := List.mem_filter.mpr ⟨List.mem_range.mpr (Heap.lt_size e'), by simp [q]⟩
    have z : (hidT h H).get? b = none := PySem.W.hideAll_none (trk h H) hm
    rw [z] at e; cases e

/-! ### OpenK's ledger, filled with every new object but one -/
def allNews (g h : Heap) (L : Addr) : List (Addr × Obj) := (List.range h.objs.size).filterMap fun a => if a = L ∨ (g.get? a).isSome = true then none else (h.get? a).map fun o => (a, o)
def rest (g h : Heap) (L d : Addr) : List (Addr × Obj) := (allNews g h L).filter fun p => decide (p.1 ≠ d)
end L2

namespace L2
open PySem PySem.Spec PyProof.Rows

/-- the module's facts, over the base: the heap at the law's entry without what is tracked there -/
structure Mod (K : PySem.W.Frag) (mg : Str → Option Value) (base : Heap) : Prop where
  kin : K.In base
  glob : base.Ns mainGlobals mg
  blt : ∃ mb, base.Ns builtinsNs mb ∧ ∀ x : Str, x ≠ "__name__" → mb x = bootBuiltins x
  nolimit : base.NoLimit

/-- the context: a def's body (or a comprehension's block) running. base: fixed through the whole law; s₀, H₀: the entry; outer: the frames whose slots others may change (a def's callers); stack: all frames that run;
   ex: iterators that were made ahead of the entry and are walked here (a comprehension's); fn: the names whose cells were made at the entry (a def: all; a comprehension's block: its own); calm: not within an except suite; pn: pins that every state bears; xe: what is wanted of an exception that leaves the code -/
structure Cx where
  prog : Program
  w : World
  K : PySem.W.Frag
  mg : Str → Option Value
  base : Heap
  A : Around
  N : List Str
  s₀ : Shared
  H₀ : Hp
  env : Env
  outer : List Env
  stack : List Env
  ex : List Addr
  fn : Str → Bool
  calm : Bool
  pn : List (Addr × Obj)
  xe : Value → Shared → Prop
/-- the callers' frames -/
def frs (l : List Env) : List Addr := l.filterMap (·.frame)
abbrev Cx.fs (X : Cx) : List Addr := frs X.outer

def Vis (sc : Scope) (x : Str) : Prop := sc.names.lookup x = some .local ∨ sc.names.lookup x = some .cell ∨ sc.names.lookup x = some .free
def Loc (sc : Scope) (x : Str) : Prop := sc.names.lookup x = some .local ∨ sc.names.lookup x = some .cell
def Look (env : Env) (h : Heap) (m : Str → Option Value) (x : Str) (u : Value) : Prop :=
  (env.kindOf x = some .local ∧ m x = some u) ∨ ((env.kindOf x = some .cell ∨ env.kindOf x = some .free) ∧ ∃ c, env.cells.lookup x = some c ∧ h.IsCell c (some u))

structure Cx.Ok (X : Cx) : Prop where
  mod : Mod X.K X.mg X.base
  kind : X.env.scope.kind = .function
  glob : X.env.globals = mainGlobals
  blt : X.env.builtins = builtinsNs
  above : X.s₀.heap.objs.size ≤ X.env.locals
  inj : ∀ x y c, X.env.cells.lookup x = some c → X.env.cells.lookup y = some c → x = y
  has : ∀ x, (X.env.kindOf x = some .cell ∨ X.env.kindOf x = some .free) → ∃ c, X.env.cells.lookup x = some c
  cab : ∀ x c, X.fn x = true → X.env.cells.lookup x = some c → X.s₀.heap.objs.size ≤ c
  hd : X.calm = true → X.A.handled = none
  frames : X.A.frames = some X.stack
  stk : X.stack = X.outer ∨ (X.stack = X.env :: X.outer ∧ X.env.frame = some X.env.locals)
  exf : ∀ b ∈ X.ex, b ≠ X.env.locals ∧ ∀ x c, X.env.cells.lookup x = some c → c ≠ b
  bs : ∀ b o, X.base.get? b = some o → X.s₀.heap.get? b = some o ∧ X.H₀ b = none
  bsz : X.base.objs.size ≤ X.s₀.heap.objs.size
  noex : ∀ b o, X.base.get? b = some o → b ∉ X.ex
  exfs : ∀ b ∈ X.ex, b ∉ X.fs
  funs : X.s₀.heap.FunFrames X.base X.outer
  frf : ∀ b ∈ X.fs, X.H₀ b = none

structure Inv (X : Cx) (pins : List (Addr × Obj)) (σ : List (Option V)) (H : Hp) (s : Shared) : Prop where
  ok : X.Ok
  os : s.os = X.s₀.os
  bare : AllBare s.gens
  base : Un X.fs X.ex X.H₀ H X.s₀.heap s.heap
  loc : ∃ m, s.heap.Ns X.env.locals m ∧ ∀ (i : Nat) (x : Str) (v : V), X.N[i]? = some x → σ[i]? = some (some v) → Vis X.env.scope x → ∃ u, RelV v u ∧ Look X.env s.heap m x u
  cell : ∀ x c, X.env.cells.lookup x = some c → ∃ v, s.heap.IsCell c v
  free : H X.env.locals = none
  freeC : ∀ x c, X.env.cells.lookup x = some c → H c = none
  pin : ∀ p ∈ X.pn ++ pins, s.heap.get? p.1 = some p.2 ∧ H p.1 = none ∧ p.1 ≠ X.env.locals ∧ p.1 ∉ X.fs ∧ ∀ v, p.2.data ≠ .cell v
  hok : HOk X.prog X.w H s.heap
  len : σ.length = X.N.length

section
variable {X : Cx} {pins : List (Addr × Obj)} {σ : List (Option V)} {H H' : Hp} {s : Shared} {h' : Heap}

theorem Cx.Ok.nofr (ok : X.Ok) {b : Addr} {o : Obj} (e : X.base.get? b = some o) : b ∉ X.fs := fun hb => by
  have := (ok.funs.mem hb).1
  rw [e] at this; cases this
theorem Inv.bs (I : Inv X pins σ H s) : ∀ b o, X.base.get? b = some o → s.heap.get? b = some o ∧ H b = none := fun b o e =>
  ⟨I.base.keep b o (I.ok.bs b o e).1 (I.ok.bs b o e).2 (I.ok.nofr e) (I.ok.noex b o e), I.base.free b o (I.ok.bs b o e).1 (I.ok.bs b o e).2 (I.ok.noex b o e)⟩
theorem Inv.bk (I : Inv X pins σ H s) : ∀ b o, X.base.get? b = some o → s.heap.get? b = some o := fun b o e => (I.bs b o e).1
theorem Inv.mod (I : Inv X pins σ H s) : Mod X.K X.mg X.base := I.ok.mod
theorem Inv.kIn (I : Inv X pins σ H s) : X.K.In s.heap := I.ok.mod.kin.keeps I.bk
theorem Inv.lt (I : Inv X pins σ H s) : X.env.locals < s.heap.objs.size := let ⟨_, hn, _⟩ := I.loc; hn.lt
theorem Inv.sz (I : Inv X pins σ H s) : X.s₀.heap.objs.size ≤ s.heap.objs.size := Nat.le_trans I.ok.above (Nat.le_of_lt I.lt)
theorem Inv.nofs (I : Inv X pins σ H s) {a : Addr} (h : s.heap.objs.size ≤ a) : a ∉ X.fs := fun hb => by
  obtain ⟨_, o, ho, _⟩ := I.ok.funs.mem hb
  exact absurd (Nat.lt_of_lt_of_le (Heap.lt_size ho) (Nat.le_trans I.sz h)) (Nat.lt_irrefl _)
theorem Inv.cne (I : Inv X pins σ H s) : ∀ x c, X.env.cells.lookup x = some c → c ≠ X.env.locals := fun x c e z => by
  obtain ⟨v, o, ho, hd⟩ := I.cell x c e
  obtain ⟨m, ⟨o', es, ep, ho', hd', _⟩, _⟩ := I.loc
  rw [z, ho'] at ho; cases ho; rw [hd'] at hd; cases hd
theorem Inv.funs (I : Inv X pins σ H s) : s.heap.FunFrames X.base X.outer := by
  have all : ∀ (l : List Env), (∀ b ∈ frs l, b ∈ X.fs) → X.s₀.heap.FunFrames X.base l → s.heap.FunFrames X.base l := by
    intro l
    induction l with
    | nil => intro _ _; trivial
    | cons env r ih =>
      intro hs hl
      obtain ⟨hk, ⟨L, o, hf, hn, ho, hd⟩, hr⟩ := hl
      have hL : L ∈ X.fs := hs L (by unfold frs; rw [List.filterMap_cons, hf]; exact List.mem_cons_self)
      obtain ⟨sl, e⟩ := I.base.slot L o ho (I.ok.frf L hL) hL fun z => I.ok.exfs L z hL
      exact ⟨hk, ⟨L, _, hf, hn, e, hd⟩, ih (fun b hb => hs b (by unfold frs; rw [List.filterMap_cons, hf]; exact List.mem_cons_of_mem _ hb)) hr⟩
  exact all X.outer (fun _ hb => hb) I.ok.funs

/-- the frames that run, for a call -/
theorem Inv.stack (I : Inv X pins σ H s) : s.heap.FunFrames X.base X.stack := by
  rcases I.ok.stk with e | ⟨e, hf⟩
  · rw [e]; exact I.funs
  · rw [e]
    obtain ⟨m, hn, _⟩ := I.loc
    refine .cons (by rw [I.ok.kind]; decide) hf hn ?_ I.funs
    exact Heap.get?_none_of_le (Nat.le_trans I.ok.bsz I.ok.above)
theorem Inv.stkSub (I : Inv X pins σ H s) : ∀ b ∈ frs X.stack, b ∈ X.env.locals :: X.fs := fun b hb => by
  rcases I.ok.stk with e | ⟨e, hf⟩
  · rw [e] at hb; exact List.mem_cons_of_mem _ hb
  · rw [e] at hb
    unfold frs at hb
    rw [List.filterMap_cons, hf] at hb
    exact hb
theorem Inv.stkFree (I : Inv X pins σ H s) : ∀ b ∈ frs X.stack, H b = none := fun b hb => by
  rcases List.mem_cons.mp (I.stkSub b hb) with e | hb
  · rw [e]; exact I.free
  · obtain ⟨_, o, ho, _⟩ := I.ok.funs.mem hb
    exact I.base.free b o ho (I.ok.frf b hb) fun z => I.ok.exfs b z hb

/-- THE STEP: the untracked objects but the frame and the records at ch are kept (the callers' frames up to slots), the frame's map is kept, the new abstract heap is held -/
theorem Inv.step {g' : Array GenState} {t' : Nat} {d' : Drawn} {ch : List Addr} (I : Inv X pins σ H s)
    (hch : ∀ b ∈ ch, (b ∈ X.ex ∨ X.s₀.heap.objs.size ≤ b) ∧ b ≠ X.env.locals ∧ (∀ x c, X.env.cells.lookup x = some c → c ≠ b) ∧ ∀ p ∈ X.pn ++ pins, p.1 ≠ b)
    (keep : ∀ b o, b ≠ X.env.locals → b ∉ X.fs → b ∉ ch → s.heap.get? b = some o → H b = none → h'.get? b = some o)
    (slot : ∀ b o, b ≠ X.env.locals → b ∈ X.fs → b ∉ ch → s.heap.get? b = some o → H b = none → ∃ sl, h'.get? b = some { o with slots := sl }) (free : ∀ b o, b ∉ ch → s.heap.get? b = some o → H b = none → H' b = none)
    (there : ∀ b o, b ∉ ch → s.heap.get? b = some o → ∃ o', h'.get? b = some o')
    (tups : ∀ b xs, H b = some (.tup xs) → H' b = some (.tup xs)) (frzs : ∀ b o u, H b = some (.frz o u) → H' b = some (.frz o u)) (tbls : ∀ b ps, H b = some (.tbl ps) → ∃ more, H' b = some (.tbl (ps ++ more)))
    (ns : ∀ m, s.heap.Ns X.env.locals m → h'.Ns X.env.locals m) (hok : HOk X.prog X.w H' h') (hg : AllBare g') :
    Inv X pins σ H' { s with heap := h', gens := g', drawn := d', toks := t' } := by
  have neL : ∀ b o, X.s₀.heap.get? b = some o → b ≠ X.env.locals := fun b o e => Nat.ne_of_lt (Nat.lt_of_lt_of_le (Heap.lt_size e) I.ok.above)
  have neC : ∀ b o, X.s₀.heap.get? b = some o → b ∉ X.ex → b ∉ ch := fun b o e hx hb => by
    rcases (hch b hb).1 with z | z
    · exact hx z
    · exact absurd (Nat.lt_of_lt_of_le (Heap.lt_size e) z) (Nat.lt_irrefl _)
  have cellK : ∀ x c, X.env.cells.lookup x = some c → ∀ v, s.heap.IsCell c v → h'.IsCell c v := fun x c e v ⟨o, ho, hd⟩ => by
    have nch : c ∉ ch := fun z => (hch c z).2.2.1 x c e rfl
    by_cases hc : c ∈ X.fs
    · obtain ⟨sl, q⟩ := slot c o (I.cne x c e) hc nch ho (I.freeC x c e)
      exact ⟨_, q, hd⟩
    · exact ⟨o, keep c o (I.cne x c e) hc nch ho (I.freeC x c e), hd⟩
  refine ⟨I.ok, I.os, hg, ⟨fun b o e n hb hx => ?_, fun b o e n hb hx => ?_, fun b o e n hx => ?_, fun b o e hx => ?_, fun b xs e => tups b xs (I.base.tups b xs e), fun b o xs e => frzs b o xs (I.base.frzs b o xs e), fun b ps e => ?_⟩, ?_, fun x c e => ?_, ?_, fun x c e => ?_, fun p hp => ?_, hok, I.len⟩
  · exact keep b o (neL b o e) hb (neC b o e hx) (I.base.keep b o e n hb hx) (I.base.free b o e n hx)
  · obtain ⟨sl, e1⟩ := I.base.slot b o e n hb hx
    obtain ⟨sl', e2⟩ := slot b _ (neL b o e) hb (neC b o e hx) e1 (I.base.free b o e n hx)
    exact ⟨sl', e2⟩
  · obtain ⟨o', e1⟩ := I.base.there b o e hx
    exact free b o' (neC b o e hx) e1 (I.base.free b o e n hx)
  · obtain ⟨o', e1⟩ := I.base.there b o e hx
    exact there b o' (neC b o e hx) e1
  · obtain ⟨m1, e1⟩ := I.base.tbls b ps e
    obtain ⟨m2, e2⟩ := tbls b _ e1
    exact ⟨m1 ++ m2, by rw [e2, Array.append_assoc]⟩
  · obtain ⟨m, hn, hl⟩ := I.loc
    refine ⟨m, ns m hn, fun i x v e1 e2 e3 => ?_⟩
    obtain ⟨u, r, l⟩ := hl i x v e1 e2 e3
    refine ⟨u, r, ?_⟩
    rcases l with l | ⟨k, c, e, z⟩
    · exact .inl l
    · exact .inr ⟨k, c, e, cellK x c e _ z⟩
  · obtain ⟨v, z⟩ := I.cell x c e
    exact ⟨v, cellK x c e v z⟩
  · obtain ⟨m, ⟨o, _, _, ho, _⟩, _⟩ := I.loc
    exact free _ o (fun z => (hch _ z).2.1 rfl) ho I.free
  · obtain ⟨v, o, ho, hd⟩ := I.cell x c e
    exact free c o (fun z => (hch c z).2.2.1 x c e rfl) ho (I.freeC x c e)
  · obtain ⟨e, n, ne, nf, d⟩ := I.pin p hp
    have nch : p.1 ∉ ch := fun z => (hch p.1 z).2.2.2 p hp rfl
    exact ⟨keep p.1 p.2 ne nf nch e n, free p.1 p.2 nch e n, ne, nf, d⟩
/-- .. where the frame's own object is kept too -/
theorem Inv.un {t' : Nat} (I : Inv X pins σ H s) (u : Un X.fs [] H H' s.heap h') (hok : HOk X.prog X.w H' h') : Inv X pins σ H' { s with heap := h', toks := t' } := by
  obtain ⟨m, ⟨o, es, ep, ho, r⟩, _⟩ := id I.loc
  obtain ⟨sl, hL⟩ := u.any ho I.free (by simp)
  exact I.step (g' := s.gens) (d' := s.drawn) (ch := []) (fun _ z => nomatch z) (fun b o _ hb _ e n => u.keep b o e n hb (by simp)) (fun b o _ hb _ e n => u.slot b o e n hb (by simp)) (fun b o _ e n => u.free b o e n (by simp)) (fun b o _ e => u.there b o e (by simp)) u.tups u.frzs u.tbls (fun m' hm => by
    obtain ⟨o', es', ep', ho', r'⟩ := hm
    rw [ho] at ho'; cases ho'
    exact ⟨_, es', ep', hL, r'⟩) hok I.bare
/-- behind a call (or a comprehension's block): the slots of this frame may have changed too, the records at ch may have turned -/
theorem Inv.call {g' : Array GenState} {t' : Nat} {d' : Drawn} {ch : List Addr} (I : Inv X pins σ H s) (u : Un (frs X.stack) ch H H' s.heap h') (hok : HOk X.prog X.w H' h') (hg : AllBare g')
    (hch : ∀ b ∈ ch, (b ∈ X.ex ∨ X.s₀.heap.objs.size ≤ b) ∧ b ≠ X.env.locals ∧ (∀ x c, X.env.cells.lookup x = some c → c ≠ b) ∧ ∀ p ∈ X.pn ++ pins, p.1 ≠ b) :
    Inv X pins σ H' { s with heap := h', gens := g', drawn := d', toks := t' } := by
  obtain ⟨m, ⟨o, es, ep, ho, r⟩, _⟩ := id I.loc
  obtain ⟨sl, hL⟩ := u.any ho I.free fun z => (hch _ z).2.1 rfl
  exact I.step (ch := ch) hch (fun b o hL hb hc e n => u.keep b o e n (fun z => (List.mem_cons.mp (I.stkSub b z)).elim hL hb) hc) (fun b o _ _ hc e n => u.any e n hc) (fun b o hc e n => u.free b o e n hc) (fun b o hc e => u.there b o e hc) u.tups u.frzs u.tbls (fun m' hm => by
    obtain ⟨o', es', ep', ho', r'⟩ := hm
    rw [ho] at ho'; cases ho'
    exact ⟨_, es', ep', hL, r'⟩) hok hg
/-- an untracked record of ours (an iterator) has turned -/
theorem Inv.turned {t' : Nat} {it : Addr} (I : Inv X pins σ H s) (k : ∀ b o, b ≠ it → s.heap.get? b = some o → h'.get? b = some o) (hn : H it = none) (hL : it ≠ X.env.locals)
    (h1 : it ∈ X.ex ∨ X.s₀.heap.objs.size ≤ it) (h2 : ∀ x c, X.env.cells.lookup x = some c → c ≠ it) (h3 : ∀ p ∈ X.pn ++ pins, p.1 ≠ it) : Inv X pins σ H { s with heap := h', toks := t' } := by
  have nit : ∀ b u, H b = some u → b ≠ it := fun b u e z => by rw [z, hn] at e; cases e
  refine I.step (g' := s.gens) (d' := s.drawn) (ch := [it]) (fun b hb => ?_) (fun b o _ _ hc e _ => k b o (fun z => hc (by simp [z])) e) (fun b o _ _ hc e _ => ⟨o.slots, k b o (fun z => hc (by simp [z])) e⟩) (fun _ _ _ _ n => n)
    (fun b o hc e => ⟨o, k b o (fun z => hc (by simp [z])) e⟩) (fun _ _ e => e) (fun _ _ _ e => e) (fun b ps e => ⟨#[], by rw [e]; simp⟩) (fun m hm => ?_) (fun b u e => ?_) I.bare
  · have e : b = it := by simpa using hb
    subst e
    exact ⟨h1, hL, h2, h3⟩
  · obtain ⟨o, es, ep, ho, r⟩ := hm
    exact ⟨o, es, ep, k _ o (Ne.symm hL) ho, r⟩
  · refine (I.hok b u e).stay (fun c v hc q => k c v ?_ q) (fun _ q => q) fun _ _ q => q
    rcases hc with z | z
    · rw [z]; exact nit b u e
    · exact nit c _ z
theorem Inv.tok (I : Inv X pins σ H s) (t : Nat) : Inv X pins σ H { s with toks := t } := I.un (h' := s.heap) (t' := t) Un.refl I.hok
/-- all objects kept -/
theorem Inv.kept {t' : Nat} (I : Inv X pins σ H s) (k : ∀ b u, s.heap.get? b = some u → h'.get? b = some u) : Inv X pins σ H { s with heap := h', toks := t' } := I.un (Un.kept k) (I.hok.kept k)
/-- a new object laid and tracked -/
theorem Inv.laid {a : Addr} {o : HO} {t' : Nat} (I : Inv X pins σ H s) (k : ∀ b u, s.heap.get? b = some u → h'.get? b = some u) (hp : s.heap.objs.size ≤ a) (new : ObjOk X.prog X.w (upd H a o) h' a o) :
    Inv X pins σ (upd H a o) { s with heap := h', toks := t' } := I.un (Un.laid k hp (I.hok.fresh hp)) (I.hok.laid k hp new)
/-- an object written -/
theorem Inv.write {x e : Addr} {o : HO} {t' : Nat} (I : Inv X pins σ H s) (mu : Mut (H x)) (he : e = x ∨ H e = some (.own x)) (k : ∀ b u, b ≠ e → s.heap.get? b = some u → h'.get? b = some u) (heo : ∃ u, h'.get? e = some u)
    (new : ObjOk X.prog X.w (upd H x o) h' x o) : Inv X pins σ (upd H x o) { s with heap := h', toks := t' } := I.un (Un.write mu he k heo) (I.hok.write mu he k heo new)
/-- forgetting slots, pins -/
theorem Inv.weak {σ' : List (Option V)} (I : Inv X pins σ H s) (hl : σ'.length = σ.length) (w : ∀ (i : Nat) v, σ'[i]? = some (some v) → σ[i]? = some (some v)) : Inv X pins σ' H s :=
  ⟨I.ok, I.os, I.bare, I.base, let ⟨m, hn, hl'⟩ := I.loc; ⟨m, hn, fun i x v e1 e2 e3 => hl' i x v e1 (w i v e2) e3⟩, I.cell, I.free, I.freeC, I.pin, I.hok, hl.trans I.len⟩
theorem Inv.pins_of {pins' : List (Addr × Obj)} (I : Inv X pins σ H s) (h : ∀ p ∈ pins', s.heap.get? p.1 = some p.2 ∧ H p.1 = none ∧ p.1 ≠ X.env.locals ∧ p.1 ∉ X.fs ∧ ∀ v, p.2.data ≠ .cell v) : Inv X pins' σ H s :=
  ⟨I.ok, I.os, I.bare, I.base, I.loc, I.cell, I.free, I.freeC, fun p hp => (List.mem_append.mp hp).elim (fun z => I.pin p (List.mem_append_left _ z)) (h p), I.hok, I.len⟩

theorem nodup_ix {N : List Str} (hN : N.Nodup) {i j : Nat} {x : Str} (a : N[i]? = some x) (b : N[j]? = some x) : i = j := by
  obtain ⟨h1, e1⟩ := List.getElem?_eq_some_iff.mp a
  obtain ⟨h2, e2⟩ := List.getElem?_eq_some_iff.mp b
  exact (List.getElem_inj hN).mp (e1.trans e2.symm)

/-- a name is stored; what changed -/
theorem store_ok2 {M : Model} {A : Around} {E : Value → Shared → Prop} {i : Nat} {x : Str} {v : V} {u : Value} {Q : Unit → Shared → Prop} (I : Inv X pins σ H s) (hN : X.N.Nodup) (hi : X.N[i]? = some x) (hx : Loc X.env.scope x) (r : RelV v u)
    (h : ∀ s', Inv X pins (σ.set i (some v)) H s' → (∃ a, Heap.SameBut a s.heap s'.heap ∧ (a = X.env.locals ∨ X.env.cells.lookup x = some a)) → Q () s') (hf : X.fn x = true ∨ X.env.scope.names.lookup x = some .local := by first | exact .inl rfl | exact .inr rfl | assumption) : wpAny M A (storeName X.env x u) Q E s := by
  obtain ⟨m, hn, hl⟩ := id I.loc
  have hcls : (X.env.scope.kind == .class || (X.env.scope.kind == .module && X.env.locals != X.env.globals)) = false := by rw [I.ok.kind]; rfl
  have hiσ : i < σ.length := by rw [I.len]; exact (List.getElem?_eq_some_iff.mp hi).1
  have cne := I.cne
  have tracked : ∀ {a : Addr} {h' : Heap}, (∃ o, s.heap.get? a = some o ∧ H a = none) → Heap.SameBut a s.heap h' → HOk X.prog X.w H h' := fun {a h'} ha hs b ob e => by
    obtain ⟨_, _, hfree⟩ := ha
    refine (I.hok b ob e).stay (fun c w' hc q => (hs.2 c ?_).trans q) (fun _ q => q) fun _ _ q => q
    rintro rfl
    rcases hc with rfl | hc
    · rw [hfree] at e; cases e
    · rw [hfree] at hc; cases hc
  rcases hx with hk | hk
  · refine wpAny_storeName_local hk hn (fun h' hn' hs => ?_) hcls
    obtain ⟨oL, _, _, hoL, _⟩ := id hn
    refine h _ ⟨I.ok, I.os, I.bare, ⟨fun b o e n hb hx => ?_, fun b o e n hb hx => ?_, I.base.free, fun b o e hx => ?_, I.base.tups, I.base.frzs, I.base.tbls⟩, ⟨_, hn', fun j y v' e1 e2 e3 => ?_⟩, fun y c e => ?_, I.free, I.freeC, fun p hp => ?_, tracked ⟨oL, hoL, I.free⟩ hs, by simpa using I.len⟩ ⟨_, hs, .inl rfl⟩
    · exact (hs.2 b (Nat.ne_of_lt (Nat.lt_of_lt_of_le (Heap.lt_size e) I.ok.above))).trans (I.base.keep b o e n hb hx)
    · obtain ⟨sl, e1⟩ := I.base.slot b o e n hb hx
      exact ⟨sl, (hs.2 b (Nat.ne_of_lt (Nat.lt_of_lt_of_le (Heap.lt_size e) I.ok.above))).trans e1⟩
    · obtain ⟨o', e1⟩ := I.base.there b o e hx
      exact ⟨o', (hs.2 b (Nat.ne_of_lt (Nat.lt_of_lt_of_le (Heap.lt_size e) I.ok.above))).trans e1⟩
    · by_cases hj : j = i
      · subst hj
        rw [hi] at e1; cases e1
        rw [List.getElem?_set_self hiσ] at e2
        cases e2
        exact ⟨u, r, .inl ⟨hk, by simp⟩⟩
      · rw [List.getElem?_set_ne (Ne.symm hj)] at e2
        obtain ⟨u', r', q⟩ := hl j y v' e1 e2 e3
        refine ⟨u', r', ?_⟩
        rcases q with ⟨k, e⟩ | ⟨k, c, e, z⟩
        · refine .inl ⟨k, ?_⟩
          have : y ≠ x := fun e => hj (nodup_ix hN e1 (e ▸ hi))
          simp [this, e]
        · exact .inr ⟨k, c, e, z.sameBut hs (cne y c e)⟩
    · obtain ⟨w', z⟩ := I.cell y c e
      exact ⟨w', z.sameBut hs (cne y c e)⟩
    · obtain ⟨e, n, ne, nf, d⟩ := I.pin p hp
      exact ⟨(hs.2 p.1 ne).trans e, n, ne, nf, d⟩
  · have hfn : X.fn x = true := by
      rcases hf with z | z
      · exact z
      · rw [z] at hk; cases hk
    obtain ⟨c, hc⟩ := I.ok.has x (.inl hk)
    obtain ⟨w', z⟩ := I.cell x c hc
    refine wpAny_storeName_cell I.ok.kind hk hc z (fun h' hc' hs => ?_)
    obtain ⟨oc, hoc, hocd⟩ := id z
    refine h { s with heap := h' } ⟨I.ok, I.os, I.bare, ⟨fun b o e n hb hx => ?_, fun b o e n hb hx => ?_, I.base.free, fun b o e hx => ?_, I.base.tups, I.base.frzs, I.base.tbls⟩, ⟨m, hn.sameBut hs (Ne.symm (cne x c hc)), fun j y v' e1 e2 e3 => ?_⟩, fun y c' e => ?_, I.free, I.freeC, fun p hp => ?_, tracked ⟨oc, hoc, I.freeC x c hc⟩ hs, by simpa using I.len⟩ ⟨c, hs, .inr hc⟩
    · exact (hs.2 b (Nat.ne_of_lt (Nat.lt_of_lt_of_le (Heap.lt_size e) (I.ok.cab x c hfn hc)))).trans (I.base.keep b o e n hb hx)
    · obtain ⟨sl, e1⟩ := I.base.slot b o e n hb hx
      exact ⟨sl, (hs.2 b (Nat.ne_of_lt (Nat.lt_of_lt_of_le (Heap.lt_size e) (I.ok.cab x c hfn hc)))).trans e1⟩
    · obtain ⟨o', e1⟩ := I.base.there b o e hx
      exact ⟨o', (hs.2 b (Nat.ne_of_lt (Nat.lt_of_lt_of_le (Heap.lt_size e) (I.ok.cab x c hfn hc)))).trans e1⟩
    · by_cases hj : j = i
      · subst hj
        rw [hi] at e1; cases e1
        rw [List.getElem?_set_self hiσ] at e2
        cases e2
        exact ⟨u, r, .inr ⟨.inl hk, c, hc, hc'⟩⟩
      · rw [List.getElem?_set_ne (Ne.symm hj)] at e2
        obtain ⟨u', r', q⟩ := hl j y v' e1 e2 e3
        refine ⟨u', r', ?_⟩
        rcases q with q | ⟨k, c', e, z'⟩
        · exact .inl q
        · refine .inr ⟨k, c', e, z'.sameBut hs ?_⟩
          rintro rfl
          exact hj (nodup_ix hN e1 (I.ok.inj _ _ _ e hc ▸ hi))
    · by_cases hcc : c' = c
      · subst hcc; exact ⟨_, hc'⟩
      · obtain ⟨w2, z2⟩ := I.cell y c' e
        exact ⟨w2, z2.sameBut hs hcc⟩
    · obtain ⟨e, n, ne, nf, d⟩ := I.pin p hp
      refine ⟨(hs.2 p.1 ?_).trans e, n, ne, nf, d⟩
      intro q
      rw [q, hoc] at e
      have q' : oc = p.2 := Option.some.inj e
      exact d w' (by rw [← q']; exact hocd)
theorem store_ok {M : Model} {A : Around} {E : Value → Shared → Prop} {i : Nat} {x : Str} {v : V} {u : Value} {Q : Unit → Shared → Prop} (I : Inv X pins σ H s) (hN : X.N.Nodup) (hi : X.N[i]? = some x) (hx : Loc X.env.scope x) (r : RelV v u)
    (h : ∀ s', Inv X pins (σ.set i (some v)) H s' → Q () s') (hf : X.fn x = true ∨ X.env.scope.names.lookup x = some .local := by first | exact .inl rfl | exact .inr rfl | assumption) : wpAny M A (storeName X.env x u) Q E s :=
  store_ok2 I hN hi hx r (fun s' I' _ => h s' I') hf
/-- behind a call or a block, the state as it is -/
theorem Inv.call' {s' : Shared} {ch : List Addr} (I : Inv X pins σ H s) (ho : s'.os = s.os) (u : Un (frs X.stack) ch H H' s.heap s'.heap) (hok : HOk X.prog X.w H' s'.heap) (hg : AllBare s'.gens)
    (hch : ∀ b ∈ ch, (b ∈ X.ex ∨ X.s₀.heap.objs.size ≤ b) ∧ b ≠ X.env.locals ∧ (∀ x c, X.env.cells.lookup x = some c → c ≠ b) ∧ ∀ p ∈ X.pn ++ pins, p.1 ≠ b) : Inv X pins σ H' s' := by
  obtain ⟨h', g', d', t', o'⟩ := s'
  have e : o' = s.os := ho
  subst e
  exact I.call (g' := g') (t' := t') (d' := d') u hok hg hch
end

/-! ### the judgements -/
/-- an exception: its class, its own dict's address (where it has one), the abstract heap behind it -/
abbrev XK := Value → Option Addr → Hp → Prop
abbrev St := List (Option V)
abbrev VK := V → Hp → Prop
/-- an expression's reading; a test's; an argument list's -/
abbrev TE := St → Hp → VK → Prop
abbrev TT := St → Hp → (Bool → Hp → Prop) → Prop
abbrev TA := St → Hp → (List V → Hp → Prop) → Prop
/-- what is wanted behind a statement -/
structure Ends where
  nx : St → Hp → Prop
  rt : VK
  bk : St → Hp → Prop := fun _ _ => False
  ct : St → Hp → Prop := fun _ _ => False
abbrev TS := Ends → St → Hp → Prop

def EP (X : Cx) (pins : List (Addr × Obj)) (σ : St) (Q : VK) (u : Value) (s' : Shared) : Prop := ∃ v H', Inv X pins σ H' s' ∧ RelV v u ∧ Q v H'
def TP (X : Cx) (pins : List (Addr × Obj)) (σ : St) (Q : Bool → Hp → Prop) (b : Bool) (s' : Shared) : Prop := ∃ H', Inv X pins σ H' s' ∧ Q b H'
def AP (X : Cx) (pins : List (Addr × Obj)) (σ : St) (Q : List V → Hp → Prop) (us : List Value) (s' : Shared) : Prop := ∃ vs H', Inv X pins σ H' s' ∧ Vals vs us ∧ Q vs H'
def SP (X : Cx) (pins : List (Addr × Obj)) (D : Ends) (f : Flow) (s' : Shared) : Prop :=
  match f with
  | .next => ∃ σ' H', Inv X pins σ' H' s' ∧ D.nx σ' H'
  | .brk => ∃ σ' H', Inv X pins σ' H' s' ∧ D.bk σ' H'
  | .cont => ∃ σ' H', Inv X pins σ' H' s' ∧ D.ct σ' H'
  | .ret u => ∃ v σ' H', Inv X pins σ' H' s' ∧ RelV v u ∧ D.rt v H'

def PE (X : Cx) (e : Expr) (t : TE) : Prop :=
  ∀ (pins : List (Addr × Obj)) (s : Shared) (σ : St) (H : Hp) (Q : VK), Inv X pins σ H s → t σ H Q → wpAny (model X.prog X.w) X.A (eval e X.env) (EP X pins σ Q) X.xe s
def PT (X : Cx) (e : Expr) (t : TT) : Prop :=
  ∀ (pins : List (Addr × Obj)) (s : Shared) (σ : St) (H : Hp) (Q : Bool → Hp → Prop), Inv X pins σ H s → t σ H Q → wpAny (model X.prog X.w) X.A (isTrue e X.env (eval e X.env)) (TP X pins σ Q) X.xe s
/-- a test whatever its 'whole' is (and, or) -/
def PW (X : Cx) (e : Expr) (t : TT) : Prop :=
  ∀ (whole : Sem Value) (pins : List (Addr × Obj)) (s : Shared) (σ : St) (H : Hp) (Q : Bool → Hp → Prop), Inv X pins σ H s → t σ H Q → wpAny (model X.prog X.w) X.A (isTrue e X.env whole) (TP X pins σ Q) X.xe s
theorem PW.pt {X : Cx} {e : Expr} {t : TT} (h : PW X e t) : PT X e t := h _
/-- an argument list (no star), from the left -/
def PA (X : Cx) (es : List Expr) (t : TA) : Prop :=
  ∀ (pos : Pos) (pins : List (Addr × Obj)) (s : Shared) (σ : St) (H : Hp) (Q : List V → Hp → Prop), Inv X pins σ H s → t σ H Q → wpAny (model X.prog X.w) X.A (spliced (backTo pos (starEach es X.env))) (AP X pins σ Q) X.xe s
def PS (X : Cx) (st : Stmt) (t : TS) : Prop :=
  ∀ (pins : List (Addr × Obj)) (s : Shared) (σ : St) (H : Hp) (D : Ends), Inv X pins σ H s → t D σ H → wpAny (model X.prog X.w) X.A (exec st X.env) (SP X pins D) X.xe s
def PSs (X : Cx) (st : List Stmt) (t : TS) : Prop :=
  ∀ (pins : List (Addr × Obj)) (s : Shared) (σ : St) (H : Hp) (D : Ends), Inv X pins σ H s → t D σ H → wpAny (model X.prog X.w) X.A (execs st X.env) (SP X pins D) X.xe s
/-- weaken the end -/
theorem thn {α : Type} {t : Sem α} {Q Q' : α → Shared → Prop} {M : Model} {A : Around} {E : Value → Shared → Prop} {s : Shared} (h : wpAny M A t Q E s) (hQ : ∀ a s, Q a s → Q' a s) : wpAny M A t Q' E s := wpAny_mono h hQ fun _ _ x => x
end L2

namespace L2
open PySem PySem.Spec PyProof.Rows
section
variable {X : Cx}

/-! ### names and constants -/
def tVar (i : Nat) : TE := fun σ H Q => ∃ v, σ[i]? = some (some v) ∧ Q v H
def tC (v : V) : TE := fun _ H Q => Q v H
theorem pe_var {i : Nat} {x : Str} {pos : Pos} (hN : X.N[i]? = some x) (hv : Vis X.env.scope x) (hd : (x == ("__debug__" : Str)) = false := by decide) (hcd : (x == ("__classdict__" : Str)) = false := by decide) : PE X (.Name x pos) (tVar i) := by
  intro pins s σ H Q I h
  obtain ⟨v, e, h⟩ := h
  obtain ⟨m, hn, hl⟩ := I.loc
  obtain ⟨u, r, l⟩ := hl i x v hN e hv
  have fin : EP X pins σ Q u s := ⟨v, H, I, r, h⟩
  rcases l with ⟨hk, hm⟩ | ⟨hk, c, hc, hcell⟩
  · exact wpAny_Name (wpAny_loadName_local I.ok.kind hk hn hm fin) hd
  · rcases hk with hk | hk
    · exact wpAny_Name (wpAny_loadName_cell I.ok.kind hk hc hcell fin) hd
    · exact wpAny_Name (wpAny_loadName_free I.ok.kind hk hc hcell fin hcd) hd
theorem pe_int {i j pos} : PE X (.Constant (.int i) j pos) (tC (.int i)) := fun _ _ _ H _ I h => wpAny_Constant_int ⟨.int i, H, I.tok _, ⟨_, rfl⟩, h⟩
theorem pe_bl {b j pos} : PE X (.Constant (.bool b) j pos) (tC (.bl b)) := fun _ _ _ H _ I h => Constant_bool ⟨.bl b, H, I, rfl, h⟩
/-- a global name of the def -/
def Gl (X : Cx) (x : Str) : Prop := X.env.kindOf x = some .globalImplicit
theorem ld_glob {E : Value → Shared → Prop} {pins : List (Addr × Obj)} {s : Shared} {σ : St} {H : Hp} {x : Str} {u : Value} {pos : Pos} {Q : Value → Shared → Prop} (I : Inv X pins σ H s) (hg : Gl X x) (hm : X.mg x = some u) (h : Q u s)
    (hd : (x == ("__debug__" : Str)) = false := by decide) : wpAny (model X.prog X.w) X.A (eval (.Name x pos) X.env) Q E s :=
  Calls.Name_function_global I.ok.kind hg (Calls.loadGlobal_global (by rw [I.ok.glob]; exact I.mod.glob.keeps I.bk) hm h) hd
theorem ld_blt {E : Value → Shared → Prop} {pins : List (Addr × Obj)} {s : Shared} {σ : St} {H : Hp} {x : Str} {u : Value} {pos : Pos} {Q : Value → Shared → Prop} (I : Inv X pins σ H s) (hg : Gl X x) (hm : X.mg x = none) (hv : bootBuiltins x = some u) (h : Q u s)
    (hn : x ≠ "__name__" := by decide) (hd : (x == ("__debug__" : Str)) = false := by decide) : wpAny (model X.prog X.w) X.A (eval (.Name x pos) X.env) Q E s := by
  obtain ⟨mb, h1, h2⟩ := I.mod.blt
  exact Calls.Name_function_global I.ok.kind hg (Calls.loadGlobal_builtin (by rw [I.ok.glob]; exact I.mod.glob.keeps I.bk) hm (by rw [I.ok.blt]; exact h1.keeps I.bk) ((h2 x hn).trans hv) h) hd
theorem pe_bltn {x : Str} {v : V} {u : Value} {pos : Pos} (hg : Gl X x) (hm : X.mg x = none) (hv : bootBuiltins x = some u) (r : RelV v u) (hn : x ≠ "__name__" := by decide) (hd : (x == ("__debug__" : Str)) = false := by decide) : PE X (.Name x pos) (tC v) :=
  fun _ _ _ H _ I h => ld_blt I hg hm hv ⟨v, H, I, r, h⟩ hn hd

/-! ### arithmetic -/
/-- two ints -/
def t2I (ta tb : TE) (k : Int → Int → Hp → Prop) : St → Hp → Prop := fun σ H => ta σ H fun x H1 => tb σ H1 fun y H2 => ∃ i j, x = .int i ∧ y = .int j ∧ k i j H2
def tAdd (ta tb : TE) : TE := fun σ H Q => t2I ta tb (fun i j H2 => Q (.int (i + j)) H2) σ H
def tSub (ta tb : TE) : TE := fun σ H Q => t2I ta tb (fun i j H2 => Q (.int (i - j)) H2) σ H
/-- the left factor below 2^64 -/
def tMul (ta tb : TE) : TE := fun σ H Q => t2I ta tb (fun i j H2 => (-(2 ^ 64) < i ∧ i < 2 ^ 64) ∧ Q (.int (i * j)) H2) σ H
variable {a b : Expr} {ta tb : TE} {pos : Pos}
/-! ### comparisons -/
def PC (X : Cx) (op : CmpOp) (a b : Expr) (t : TE) : Prop :=
  ∀ (pins : List (Addr × Obj)) (s : Shared) (σ : St) (H : Hp) (Q : VK), Inv X pins σ H s → t σ H Q →
    wpAny (model X.prog X.w) X.A (eval a X.env) (fun v s₁ => wpAny (model X.prog X.w) X.A (eval b X.env) (fun u s₂ => wpAny (model X.prog X.w) X.A (compareOp op v u) (EP X pins σ Q) X.xe s₂) X.xe s₁) X.xe s
def tCmp (p : Int → Int → Bool) (ta tb : TE) : TE := fun σ H Q => t2I ta tb (fun i j H2 => Q (.bl (p i j)) H2) σ H
abbrev tLt : TE → TE → TE := tCmp fun i j => decide (i < j)
abbrev tLe : TE → TE → TE := tCmp fun i j => decide (i ≤ j)
abbrev tGt : TE → TE → TE := tCmp fun i j => decide (j < i)
abbrev tGe : TE → TE → TE := tCmp fun i j => decide (j ≤ i)
abbrev tEqI : TE → TE → TE := tCmp fun i j => decide (i = j)
abbrev tNeI : TE → TE → TE := tCmp fun i j => !decide (i = j)
/-- is None -/
def tIsN (ta : TE) : TE := fun σ H Q => ta σ H fun x H1 => Q (.bl (decide (x = .non))) H1
def tNotN (ta : TE) : TE := fun σ H Q => ta σ H fun x H1 => Q (.bl (!decide (x = .non))) H1
/-- a comparison as a value, as a test -/
def tB (t : TE) : TT := fun σ H Q => t σ H fun x H1 => ∃ c, x = .bl c ∧ Q c H1
/-- an expression whose value is a bool, as a test -/
theorem pt_val {e : Expr} {t : TE} (h : PE X e t) (he : ∀ whole, isTrue e X.env whole = (do let v ← whole; standAt e.pos; holding [v] (truthy v)) := by intro _; rfl) : PT X e (tB t) := by
  intro pins s σ H Q I hw
  refine isTrue_plain (thn (h pins s σ H _ I hw) fun v s1 ⟨x, H1, I1, r1, q1⟩ => ?_) (he _)
  obtain ⟨d, rfl, q⟩ := q1
  cases r1
  exact wpAny_truthy_bool ⟨H1, I1, q⟩

/-! ### and, or, not -/
variable {tA tB' : TT} {rest : List Expr}
def tAnd (t u : TT) : TT := fun σ H Q => t σ H fun c H1 => if c = true then u σ H1 Q else Q false H1
def tOr (t u : TT) : TT := fun σ H Q => t σ H fun c H1 => if c = true then Q true H1 else u σ H1 Q
def tNot (t : TT) : TT := fun σ H Q => t σ H fun c H1 => Q (!c) H1
theorem pw_or1 (ha : PT X a tA) : PW X (.BoolOp .Or [a] pos) tA := by
  intro wh pins s σ H Q I h
  refine isTrue_or (thn (ha pins s σ H Q I h) fun c s1 e => ?_)
  cases c with
  | false => exact isTrue_or_nil e
  | true => exact e
theorem pw_or (ha : PT X a tA) (hb : PW X (.BoolOp .Or (b :: rest) pos) tB') : PW X (.BoolOp .Or (a :: b :: rest) pos) (tOr tA tB') := by
  intro wh pins s σ H Q I h
  refine isTrue_or (thn (ha pins s σ H _ I h) fun c s1 ⟨H1, I1, q1⟩ => ?_)
  cases c with
  | true => exact ⟨H1, I1, q1⟩
  | false => exact hb wh pins s1 σ H1 Q I1 q1
theorem pt_not (ha : PT X a tA) : PT X (.UnaryOp .Not a pos) (tNot tA) := by
  intro pins s σ H Q I h
  exact isTrue_not (ha pins s σ H (fun c H1 => Q (!c) H1) I h)
/-- .. as values (bools) -/
def tAndV (ta tb : TE) : TE := fun σ H Q => ta σ H fun x H1 => ∃ c, x = .bl c ∧ if c = true then tb σ H1 Q else Q (.bl false) H1
def tOrV (ta tb : TE) : TE := fun σ H Q => ta σ H fun x H1 => ∃ c, x = .bl c ∧ if c = true then Q (.bl true) H1 else tb σ H1 Q
def tNotV (ta : TE) : TE := fun σ H Q => ta σ H fun x H1 => ∃ c, x = .bl c ∧ Q (.bl (!c)) H1
theorem pe_one {op} {t : TE} (h : PE X a t) : PE X (.BoolOp op [a] pos) t := fun pins s σ H Q I hw => BoolOp_one (h pins s σ H Q I hw)
theorem pe_and (ha : PE X a ta) (hb : PE X (.BoolOp .And (b :: rest) pos) tb) : PE X (.BoolOp .And (a :: b :: rest) pos) (tAndV ta tb) := by
  intro pins s σ H Q I h
  refine BoolOp_and (thn (ha pins s σ H _ I h) fun v s1 ⟨x, H1, I1, r1, q1⟩ => ?_)
  obtain ⟨c, rfl, q1⟩ := q1
  cases r1
  refine wpAny_truthy_bool ?_
  cases c with
  | true => exact hb pins s1 σ H1 Q I1 q1
  | false => exact ⟨.bl false, H1, I1, rfl, q1⟩
theorem pe_not (ha : PE X a ta) : PE X (.UnaryOp .Not a pos) (tNotV ta) := by
  intro pins s σ H Q I h
  refine UnaryOp_ (thn (ha pins s σ H _ I h) fun v s1 ⟨x, H1, I1, r1, q1⟩ => ?_)
  obtain ⟨c, rfl, q1⟩ := q1
  cases r1
  exact not_of (wpAny_truthy_bool ⟨.bl (!c), H1, I1, rfl, q1⟩)
/-- a if t else b -/
def tIf (t : TT) (ta tb : TE) : TE := fun σ H Q => t σ H fun c H1 => if c = true then ta σ H1 Q else tb σ H1 Q
theorem pe_ifExp {c : Expr} (hc : PT X c tA) (ha : PE X a ta) (hb : PE X b tb) : PE X (.IfExp c a b pos) (tIf tA ta tb) := by
  intro pins s σ H Q I h
  refine wpAny_IfExp (thn (hc pins s σ H _ I h) fun d s1 ⟨H1, I1, q1⟩ => ?_)
  cases d with
  | true => exact ha pins s1 σ H1 Q I1 q1
  | false => exact hb pins s1 σ H1 Q I1 q1
end
end L2

namespace L2
open PySem PySem.Spec PyProof.Rows

/-! ### a list, a tuple that is read: tracked, frozen, or an object of the module -/
def SqL (K : PySem.W.Frag) (H : Hp) (a : Addr) (xs : List V) : Prop :=
  Rd H a (.lst xs) ∨
    ∃ (o : Obj) (its : Array Value) (n : Nat), K.lookup a = some o ∧ o.cls = .type "list" ∧ o.dict = none ∧ o.data = .seq its n ∧ its.size ≤ sizeLine ∧ Vals xs its.toList
def SqT (K : PySem.W.Frag) (H : Hp) (a : Addr) (xs : List V) : Prop :=
  Rd H a (.tup xs) ∨
    ∃ (o : Obj) (its : Array Value) (n : Nat), K.lookup a = some o ∧ o.cls = .type "tuple" ∧ o.data = .seq its n ∧ its.size ≤ sizeLine ∧ Vals xs its.toList
def absV : Value → Option V
  | .none => some .non
  | .bool b => some (.bl b)
  | .int i _ => some (.int i)
  | .str x _ => some (.str x)
  | .bytes b _ => some (.byt b)
  | .float b _ => some (.flt b)
  | .ref a => some (.ref a)
  | .type n => some (.ty n)
  | _ => none
theorem RelV.abs {x : V} {u : Value} (r : RelV x u) : absV u = some x := by
  cases x with
  | non => cases r; rfl
  | bl _ => cases r; rfl
  | int _ => obtain ⟨t, rfl⟩ := r; rfl
  | str _ => obtain ⟨t, rfl⟩ := r; rfl
  | byt _ => obtain ⟨t, rfl⟩ := r; rfl
  | flt _ => obtain ⟨t, rfl⟩ := r; rfl
  | ref _ => cases r; rfl
  | ty _ => cases r; rfl
theorem RelV.inj {x y : V} {u : Value} (r : RelV x u) (q : RelV y u) : x = y := Option.some.inj (r.abs.symm.trans q.abs)
theorem Vals.inj : ∀ {xs ys : List V} {us : List Value}, Vals xs us → Vals ys us → xs = ys
  | _, _, _, .nil, .nil => rfl
  | _, _, _, .cons r t, .cons r' t' => by rw [r.inj r', Vals.inj t t']
section
variable {X : Cx} {pins : List (Addr × Obj)} {σ : St} {H : Hp} {s : Shared} {a : Addr} {xs ys : List V}
theorem SqL.of {K : PySem.W.Frag} (h : H a = some (.lst xs)) : SqL K H a xs := .inl (.inl h)
theorem SqT.of {K : PySem.W.Frag} (h : H a = some (.tup xs)) : SqT K H a xs := .inl (.inl h)
theorem Inv.list (I : Inv X pins σ H s) (h : SqL X.K H a xs) : ∃ its : List Value, Vals xs its ∧ PlainL s.heap a its.toArray ∧ xs.length ≤ sizeLine := by
  rcases h with h | ⟨o, its, n, hk, hc, hd, hs, hz, r⟩
  · obtain ⟨z, its, n, r, e⟩ := h.ok I.hok
    exact ⟨its, r, ⟨_, n, e, rfl, rfl, rfl⟩, z⟩
  · refine ⟨its.toList, r, ⟨o, n, I.kIn a o hk, hc, hd, by simpa using hs⟩, ?_⟩
    have e := r.length
    simp only [Array.length_toList] at e
    omega
theorem Inv.tuple (I : Inv X pins σ H s) (h : SqT X.K H a xs) : ∃ its : List Value, Vals xs its ∧ IsTup s.heap a its.toArray ∧ xs.length ≤ sizeLine := by
  rcases h with h | ⟨o, its, n, hk, hc, hs, hz, r⟩
  · obtain ⟨z, its, r, p⟩ := h.ok I.hok
    exact ⟨its, r, p, z⟩
  · refine ⟨its.toList, r, ⟨o, I.kIn a o hk, hc, n, by simpa using hs⟩, ?_⟩
    have e := r.length
    simp only [Array.length_toList] at e
    omega
theorem Inv.list_inj (I : Inv X pins σ H s) (h : SqL X.K H a xs) (h' : SqL X.K H a ys) : xs = ys := by
  obtain ⟨its, r, ⟨o, n, e, _, _, d⟩, _⟩ := I.list h
  obtain ⟨its', r', ⟨o', n', e', _, _, d'⟩, _⟩ := I.list h'
  rw [e] at e'; cases e'
  rw [d] at d'
  injection d' with d1 _
  have : its = its' := by simpa using congrArg Array.toList d1
  subst this
  exact r.inj r'
theorem Inv.tuple_inj (I : Inv X pins σ H s) (h : SqT X.K H a xs) (h' : SqT X.K H a ys) : xs = ys := by
  obtain ⟨its, r, ⟨o, e, _, n, d⟩, _⟩ := I.tuple h
  obtain ⟨its', r', ⟨o', e', _, n', d'⟩, _⟩ := I.tuple h'
  rw [e] at e'; cases e'
  rw [d] at d'
  injection d' with d1 _
  have : its = its' := by simpa using congrArg Array.toList d1
  subst this
  exact r.inj r'
end

/-! ### another wish about exceptions -/
abbrev Cx.wish (X : Cx) (E : Value → Shared → Prop) : Cx := { X with xe := E }
/-- no exception leaves -/
abbrev Cx.nox (X : Cx) : Cx := X.wish fun _ _ => False
theorem Cx.Ok.wish {X : Cx} (ok : X.Ok) (E : Value → Shared → Prop) : (X.wish E).Ok :=
  ⟨ok.mod, ok.kind, ok.glob, ok.blt, ok.above, ok.inj, ok.has, ok.cab, ok.hd, ok.frames, ok.stk, ok.exf, ok.bs, ok.bsz, ok.noex, ok.exfs, ok.funs, ok.frf⟩
theorem Cx.Ok.unwish {X : Cx} {E : Value → Shared → Prop} (ok : (X.wish E).Ok) : X.Ok :=
  ⟨ok.mod, ok.kind, ok.glob, ok.blt, ok.above, ok.inj, ok.has, ok.cab, ok.hd, ok.frames, ok.stk, ok.exf, ok.bs, ok.bsz, ok.noex, ok.exfs, ok.funs, ok.frf⟩
section
variable {X : Cx} {pins : List (Addr × Obj)} {σ : St} {H : Hp} {s : Shared} {E : Value → Shared → Prop}
theorem Inv.wish (I : Inv X pins σ H s) (E : Value → Shared → Prop) : Inv (X.wish E) pins σ H s := ⟨I.ok.wish E, I.os, I.bare, I.base, I.loc, I.cell, I.free, I.freeC, I.pin, I.hok, I.len⟩
theorem Inv.unwish (I : Inv (X.wish E) pins σ H s) : Inv X pins σ H s := ⟨I.ok.unwish, I.os, I.bare, I.base, I.loc, I.cell, I.free, I.freeC, I.pin, I.hok, I.len⟩
theorem SP.unwish {D : Ends} {f : Flow} {s' : Shared} (h : SP (X.wish E) pins D f s') : SP X pins D f s' := by
  cases f with
  | next => obtain ⟨σ', H', I, q⟩ := h; exact ⟨σ', H', I.unwish, q⟩
  | brk => obtain ⟨σ', H', I, q⟩ := h; exact ⟨σ', H', I.unwish, q⟩
  | cont => obtain ⟨σ', H', I, q⟩ := h; exact ⟨σ', H', I.unwish, q⟩
  | ret u => obtain ⟨v, σ', H', I, r, q⟩ := h; exact ⟨v, σ', H', I.unwish, r, q⟩
theorem PSs.nox {st : List Stmt} {t : TS} (h : PSs X.nox st t) : PSs X st t := fun pins s σ H D I hw =>
  wpAny_mono (h pins s σ H D (I.wish _) hw) (fun _ _ q => q.unwish) fun _ _ z => False.elim z
end

/-! ### blocks and small statements -/
section
variable {X : Cx} {st : Stmt} {rest : List Stmt} {t u : TS} {e : Expr} {te : TE} {pos : Pos}
def tNext : TS := fun D σ H => D.nx σ H
def tSeq (t u : TS) : TS := fun D σ H => t { D with nx := u D } σ H
theorem pss_nil : PSs X [] tNext := fun _ _ σ H _ I h => wpAny_execs_nil ⟨σ, H, I, h⟩
theorem pss_cons (h1 : PS X st t) (h2 : PSs X rest u) : PSs X (st :: rest) (tSeq t u) := by
  intro pins s σ H D I h
  refine wpAny_execs_cons (thn (h1 pins s σ H { D with nx := u D } I h) fun f s1 q => ?_)
  cases f with
  | next =>
    obtain ⟨σ', H', I', q⟩ := q
    exact h2 pins s1 σ' H' D I' q
  | ret v => exact q
  | brk => exact q
  | cont => exact q
theorem pss_one (h1 : PS X st t) : PSs X [st] t := by
  intro pins s σ H D I h
  refine wpAny_execs_cons (thn (h1 pins s σ H D I h) fun f s1 q => ?_)
  cases f with
  | next => exact wpAny_execs_nil q
  | ret v => exact q
  | brk => exact q
  | cont => exact q
def tBreak : TS := fun D σ H => D.bk σ H
def tCont : TS := fun D σ H => D.ct σ H
/-- in a def's body nothing is shown -/
theorem Inv.quiet {pins : List (Addr × Obj)} {σ : St} {H : Hp} {s : Shared} (I : Inv X pins σ H s) : interactive X.env = false := by simp [interactive, I.ok.kind]
/-- an expression whose value is dropped -/
def tDrop (te : TE) : TS := fun D σ H => te σ H fun _ H1 => D.nx σ H1
theorem ps_expr (he : PE X e te) (hs : swapsWith e none pos.line X.env = pure false := by rfl) : PS X (.Expr e pos) (tDrop te) := by
  intro pins s σ H D I h
  exact wpAny_Expr_any (thn (he pins s σ H _ I h) fun v s1 ⟨x, H1, I1, r1, q1⟩ => ⟨σ, H1, I1, q1⟩) I.quiet hs
def tRet (te : TE) : TS := fun D σ H => te σ H D.rt
theorem ps_ret (he : PE X e te) : PS X (.Return (some e) pos) (tRet te) := by
  intro pins s σ H D I h
  exact wpAny_Return_some (thn (he pins s σ H _ I h) fun v s1 ⟨x, H1, I1, r1, q1⟩ => ⟨x, σ, H1, I1, r1, q1⟩)
def tRetN : TS := fun D _ H => D.rt .non H
def tIfS (c : TT) (t u : TS) : TS := fun D σ H => c σ H fun b H1 => if b = true then t D σ H1 else u D σ H1
theorem ps_if {c : Expr} {a b : List Stmt} {tc : TT} (hc : PT X c tc) (ha : PSs X a t) (hb : PSs X b u) : PS X (.If c a b pos) (tIfS tc t u) := by
  intro pins s σ H D I h
  refine wpAny_If (thn (hc pins s σ H _ I h) fun d s1 ⟨H1, I1, q1⟩ => ?_)
  cases d with
  | true => exact ha pins s1 σ H1 D I1 q1
  | false => exact hb pins s1 σ H1 D I1 q1
/-- code that the proof never comes to -/
def tNever : TS := fun _ _ _ => False
theorem pss_never {sts : List Stmt} : PSs X sts tNever := fun _ _ _ _ _ _ h => h.elim
end

/-! ### targets -/
abbrev TG := V → St → Hp → (St → Hp → Prop) → Prop
abbrev TGs := List V → St → Hp → (St → Hp → Prop) → Prop
def PG (X : Cx) (target : Expr) (t : TG) : Prop :=
  ∀ (pins : List (Addr × Obj)) (s : Shared) (σ : St) (H : Hp) (v : V) (u : Value) (Q : St → Hp → Prop), Inv X pins σ H s → RelV v u → t v σ H Q →
    wpAny (model X.prog X.w) X.A (assign target X.env u) (fun _ s' => ∃ σ' H', Inv X pins σ' H' s' ∧ Q σ' H') X.xe s
/-- several targets, one after another -/
def PGs (X : Cx) (ts : List Expr) (t : TGs) : Prop :=
  ∀ (pins : List (Addr × Obj)) (s : Shared) (σ : St) (H : Hp) (vs : List V) (us : List Value) (Q : St → Hp → Prop), Inv X pins σ H s → Vals vs us → t vs σ H Q →
    wpAny (model X.prog X.w) X.A (assignInOrder ((assignEach ts X.env).map (·.2)) us) (fun _ s' => ∃ σ' H', Inv X pins σ' H' s' ∧ Q σ' H') X.xe s
/-- o[i] = v, by values -/
abbrev TSet := V → V → V → Hp → (Hp → Prop) → Prop
def PSet (X : Cx) (t : TSet) : Prop :=
  ∀ (pins : List (Addr × Obj)) (s : Shared) (σ : St) (H : Hp) (o i v : V) (ov iv u : Value) (Q : Hp → Prop), Inv X pins σ H s → RelV o ov → RelV i iv → RelV v u → t o i v H Q →
    wpAny (model X.prog X.w) X.A (setItem ov iv u) (fun _ s' => ∃ H', Inv X pins σ H' s' ∧ Q H') X.xe s
/-- a op= b, by values -/
abbrev TIp := V → V → Hp → VK → Prop
def PIp (X : Cx) (op : Operator) (t : TIp) : Prop :=
  ∀ (pins : List (Addr × Obj)) (s : Shared) (σ : St) (H : Hp) (x y : V) (v u : Value) (Q : VK), Inv X pins σ H s → RelV x v → RelV y u → t x y H Q →
    wpAny (model X.prog X.w) X.A (inplaceOp op v u) (EP X pins σ Q) X.xe s
section
variable {X : Cx} {pos : Pos}
def gName (i : Nat) : TG := fun v σ H Q => Q (σ.set i (some v)) H
theorem pg_name {i : Nat} {x : Str} (hN : X.N.Nodup) (hi : X.N[i]? = some x) (hx : Loc X.env.scope x) (hf : X.fn x = true ∨ X.env.scope.names.lookup x = some .local := by first | exact .inl rfl | exact .inr rfl | assumption) : PG X (.Name x pos) (gName i) := by
  intro pins s σ H v u Q I r h
  exact wpAny_assign_Name (store_ok I hN hi hx r (fun s' I' => ⟨_, H, I', h⟩) hf)
def gNil : TGs := fun vs σ H Q => vs = [] ∧ Q σ H
def gCons (t : TG) (u : TGs) : TGs := fun vs σ H Q => ∃ v r, vs = v :: r ∧ t v σ H fun σ' H' => u r σ' H' Q
theorem pgs_nil : PGs X [] gNil := by
  intro pins s σ H vs us Q I r h
  obtain ⟨e, h⟩ := h
  subst e
  cases r
  exact assignInOrder_nil ⟨σ, H, I, h⟩
theorem pgs_cons {e : Expr} {es : List Expr} {t : TG} {u : TGs} (h1 : PG X e t) (h2 : PGs X es u)
    (hs : (assignEach (e :: es) X.env).map (·.2) = assign e X.env :: (assignEach es X.env).map (·.2) := by rfl) : PGs X (e :: es) (gCons t u) := by
  intro pins s σ H vs us Q I r h
  obtain ⟨v, vr, e1, h⟩ := h
  subst e1
  cases r with
  | cons r rr =>
    rw [hs]
    refine assignInOrder_cons (thn (h1 pins s σ H _ _ _ I r h) fun _ s1 ⟨σ1, H1, I1, q1⟩ => ?_)
    exact h2 pins s1 σ1 H1 _ _ Q I1 rr q1
/-- (a, b, ..) = a tuple of that length -/
def gTup (K : PySem.W.Frag) (n : Nat) (t : TGs) : TG := fun v σ H Q => ∃ a xs, v = .ref a ∧ SqT K H a xs ∧ xs.length = n ∧ t xs σ H Q
theorem pg_tup {es : List Expr} {k : Nat} {t : TGs} {n : Nat} (hc : X.calm = true) (h : PGs X es t)
    (hn : (assignEach es X.env).length = n := by rfl) (hst : (assignEach es X.env).findIdx? (·.1) = none := by rfl) : PG X (.Tuple es k pos) (gTup X.K n t) := by
  intro pins s σ H v u Q I r hw
  obtain ⟨a, xs, e1, hq, hl, hw⟩ := hw
  subst e1
  cases r
  obtain ⟨its, rv, ht, hz⟩ := I.tuple hq
  refine assign_Tuple_tuple (I.ok.hd hc) ht (by simp [hn, ← hl, rv.length]) hst fun h' hx => ?_
  have I1 : Inv X pins σ H { s with heap := h' } := I.kept (t' := s.toks) fun b o e => hx b o (Nat.ne_of_lt (Heap.lt_size e)) e
  exact h pins _ σ H xs _ Q I1 (by simpa using rv) hw
/-- o[i] = .. -/
def gSub (to ti : TE) (t : TSet) : TG := fun v σ H Q => to σ H fun o H1 => ti σ H1 fun i H2 => t o i v H2 fun H3 => Q σ H3
/-- target = value -/
def tAsg (te : TE) (g : TG) : TS := fun D σ H => te σ H fun x H1 => g x σ H1 D.nx
/-- name = value -/
theorem ps_set {i : Nat} {x : Str} {e : Expr} {te : TE} {pos' : Pos} (hN : X.N.Nodup) (hi : X.N[i]? = some x) (hx : Loc X.env.scope x) (he : PE X e te) (hs : swapsWith e (some (.Name x pos')) pos.line X.env = pure false := by rfl) (hf : X.fn x = true ∨ X.env.scope.names.lookup x = some .local := by first | exact .inl rfl | exact .inr rfl | assumption) :
    PS X (.Assign [.Name x pos'] e pos) (tAsg te (gName i)) := by
  intro pins s σ H D I h
  refine wpAny_Assign_Name (thn (he pins s σ H _ I h) fun v s1 ⟨y, H1, I1, r1, q1⟩ => ?_) hs
  exact store_ok I1 hN hi hx r1 (fun s2 I2 => ⟨_, H1, I2, q1⟩) hf
/-- a, b = x, y with plain local names: stored from the right; the pair itself is not tracked (the opening rows as in PyProof/Rows/TupAssign.lean:23) -/
def tPar (i j : Nat) (ta : TA) : TS := fun D σ H => ta σ H fun vs H1 => ∃ v w, vs = [v, w] ∧ D.nx ((σ.set i (some v)).set j (some w)) H1
theorem ps_par {i j : Nat} {x y : Str} {a b : Expr} {ta : TA} {px py pt : Pos} {kt k2 pt2} (hc : X.calm = true) (hN : X.N.Nodup) (hi : X.N[i]? = some x) (hj : X.N[j]? = some y) (hij : i ≠ j)
    (hx : X.env.scope.names.lookup x = some .local) (hy : X.env.scope.names.lookup y = some .local) (ha : PA X [a, b] ta)
    (hw : swappedStores [.Tuple [.Name x px, .Name y py] kt pt] (.Tuple [a, b] k2 pt2) X.env = pure (some [x, y]))
    (hs : swapsWithSole [.Tuple [.Name x px, .Name y py] kt pt] (.Tuple [a, b] k2 pt2) pos.line X.env = pure false := by rfl) :
    PS X (.Assign [.Tuple [.Name x px, .Name y py] kt pt] (.Tuple [a, b] k2 pt2) pos) (tPar i j ta) := by
  intro pins s σ H D I h
  rw [exec_Assign_arm]
  refine wpAny_bind (wpAny_standAt ?_)
  rw [hs]
  refine wpAny_bind (wpAny_pure ?_)
  rw [if_neg (by decide)]
  refine wpAny_bind (Tuple_ (thn (ha _ pins s σ H _ I h) fun us s1 ⟨vs, H1, I1, r1, q1⟩ => ?_))
  obtain ⟨v, w, e1, q1⟩ := q1
  subst e1
  obtain ⟨u1, u2, rfl, rv, rw'⟩ : ∃ u1 u2, us = [u1, u2] ∧ RelV v u1 ∧ RelV w u2 := by
    cases r1 with
    | cons p q =>
      cases q with
      | cons p' q' =>
        cases q'
        exact ⟨_, _, rfl, p, p'⟩
  refine wpAny_newObj_type ?_ (by show 2 ≤ sizeLine; decide)
  have I2 : Inv X pins σ H1 { s1 with heap := s1.heap.push { cls := .type "tuple", data := .seq [u1, u2].toArray } } := I1.kept (t' := s1.toks) fun b o e => Heap.get?_push_of_some _ e
  rw [hw]
  refine wpAny_bind (wpAny_pure ?_)
  show wpAny (model X.prog X.w) X.A (do rule "assign.swapped-stores"; let items ← unpackItems (.ref s1.heap.objs.size) 2 none; assignInOrder [fun v => bindName X.env y v, fun v => bindName X.env x v] items.reverse; pure Flow.next) _ _ _
  refine wpAny_bind (wpAny_rule (wpAny_bind (unpackItems_tuple (items := #[u1, u2]) (I.ok.hd hc) (IsTup.new s1.heap _) fun h' hx' => ?_)))
  have I3 := I2.kept (h' := h') (t' := s1.toks) fun b o e => hx' b o (Nat.ne_of_lt (Heap.lt_size e)) e
  show wpAny _ _ (assignInOrder [fun v => bindName X.env y v, fun v => bindName X.env x v] [u2, u1] >>= fun _ => pure Flow.next) _ _ _
  refine wpAny_bind (assignInOrder_cons (wpAny_bindName (store_ok I3 hN hj (.inl hy) rw' (fun s2 I4 => ?_) (.inr hy))))
  refine assignInOrder_cons (wpAny_bindName (store_ok I4 hN hi (.inl hx) rv (fun s3 I5 => assignInOrder_nil (wpAny_pure ?_)) (.inr hx)))
  rw [List.set_comm _ _ (Ne.symm hij)] at I5
  exact ⟨_, H1, I5, q1⟩
/-- name op= e -/
def tAug (i : Nat) (te : TE) (ti : TIp) : TS := fun D σ H => ∃ x, σ[i]? = some (some x) ∧ te σ H fun y H1 => ti x y H1 fun z H2 => D.nx (σ.set i (some z)) H2
/-- o[i] op= e -/
def tAugS (to ti te : TE) (tget : V → V → Hp → VK → Prop) (tip : TIp) (tset : TSet) : TS := fun D σ H => to σ H fun o H1 => ti σ H1 fun i H2 => tget o i H2 fun x H3 => te σ H3 fun y H4 => tip x y H4 fun z H5 => tset o i z H5 fun H6 => D.nx σ H6
/-- o[i], by values -/
def PGet (X : Cx) (t : V → V → Hp → VK → Prop) : Prop :=
  ∀ (pins : List (Addr × Obj)) (s : Shared) (σ : St) (H : Hp) (o i : V) (ov iv : Value) (Q : VK), Inv X pins σ H s → RelV o ov → RelV i iv → t o i H Q →
    wpAny (model X.prog X.w) X.A (getItem ov iv) (EP X pins σ Q) X.xe s
/-- ints -/
def ipI (f : Int → Int → Int) : TIp := fun x y H Q => ∃ i j, x = .int i ∧ y = .int j ∧ Q (.int (f i j)) H
end

/-! ### while -/
section
variable {X : Cx} {pos : Pos}
/-- the invariant W with its measure -/
def tWhile (c : TT) (tb : TS) : TS := fun D σ H => ∃ W : Nat → St → Hp → Prop, (∃ m, W m σ H) ∧ ∀ m σ H, W m σ H →
  c σ H fun b H1 => if b = true then ∃ N : St → Hp → Prop, (∀ σ' H', N σ' H' → ∃ m', m' < m ∧ W m' σ' H') ∧ tb { D with nx := N, ct := N, bk := D.nx } σ H1 else D.nx σ H1
theorem ps_while {c : Expr} {body : List Stmt} {tc : TT} {tb : TS} (hp : PassesOwn (model X.prog X.w) X.A X.env X.xe) (hc : PT X c tc) (hb : PSs X body tb) : PS X (.While c body [] pos) (tWhile tc tb) := by
  intro pins s σ H D I h
  obtain ⟨W, ⟨m0, w0⟩, turn⟩ := h
  refine wpAny_While (codeAny_whileLoop (fun n s' => ∃ σ' H', Inv X pins σ' H' s' ∧ W n σ' H') ?_ m0 ⟨σ, H, I, w0⟩)
  rintro n s1 ⟨σ1, H1, I1, w1⟩
  refine wpAny_passesOwn hp (thn (hc pins s1 σ1 H1 _ I1 (turn n σ1 H1 w1)) fun b s2 ⟨H2, I2, q2⟩ => ?_)
  cases b with
  | true =>
    obtain ⟨N, hN, q2⟩ := q2
    rw [if_pos rfl]
    refine wpAny_passesOwn hp (thn (hb pins s2 σ1 H2 _ I2 q2) fun f s3 q3 => ?_)
    cases f with
    | next =>
      obtain ⟨σ3, H3, I3, n3⟩ := q3
      obtain ⟨m', hm, w3⟩ := hN σ3 H3 n3
      exact ⟨m', hm, σ3, H3, I3, w3⟩
    | cont =>
      obtain ⟨σ3, H3, I3, n3⟩ := q3
      obtain ⟨m', hm, w3⟩ := hN σ3 H3 n3
      exact ⟨m', hm, σ3, H3, I3, w3⟩
    | brk => exact q3
    | ret v => exact q3
  | false =>
    rw [if_neg Bool.false_ne_true]
    exact wpAny_execs_nil ⟨σ1, H2, I2, q2⟩
end

/-! ### what a loop or a comprehension walks -/
/-- at turn i: it yields x (the heap may grow), or it stops -/
structure It where
  go : Nat → Hp → Prop
  yld : Nat → Hp → V → Hp → Prop
  stop : Nat → Hp → Prop
/-- the iterator's own objects may turn: they are not the frame's, not pinned, younger than the entry (or a comprehension's own) -/
def FpOk (X : Cx) (pins : List (Addr × Obj)) (H : Hp) (b : Addr) : Prop :=
  H b = none ∧ b ≠ X.env.locals ∧ b ∉ X.fs ∧ (b ∈ X.ex ∨ X.s₀.heap.objs.size ≤ b) ∧ (∀ x c, X.env.cells.lookup x = some c → c ≠ b) ∧ ∀ p ∈ X.pn ++ pins, p.1 ≠ b
theorem Inv.fpOk {X : Cx} {pins : List (Addr × Obj)} {σ : St} {H H' : Hp} {s : Shared} {b : Addr} (I : Inv X pins σ H s) (hb : s.heap.objs.size ≤ b) (hn : H' b = none) : FpOk X pins H' b := by
  refine ⟨hn, Nat.ne_of_gt (Nat.lt_of_lt_of_le I.lt hb), I.nofs hb, .inr (Nat.le_trans I.sz hb), fun x c e z => ?_, fun p hp z => ?_⟩
  · obtain ⟨v, q⟩ := I.cell x c e
    exact absurd (Nat.lt_of_lt_of_le q.lt (by rw [z]; exact hb)) (Nat.lt_irrefl _)
  · exact absurd (Nat.lt_of_lt_of_le (Heap.lt_size (I.pin p hp).1) (by rw [z]; exact hb)) (Nat.lt_irrefl _)
structure Turn (P : Program) (w : World) (K : PySem.W.Frag) (tg : Expr) (J : It) (fp : List Addr) (it : Addr) (tn : Nat → Heap → Prop) : Prop where
  mem : it ∈ fp
  obj : ∀ i h, tn i h → ∀ b ∈ fp, ∃ o, h.get? b = some o ∧ ∀ v, o.data ≠ .cell v
  keep : ∀ i h h', tn i h → (∀ b ∈ fp, ∀ o, h.get? b = some o → h'.get? b = some o) → tn i h'
  item : ∀ (X : Cx), X.prog = P → X.w = w → X.K = K → X.calm = true → ∀ (i : Nat) (pins : List (Addr × Obj)) (s : Shared) (σ : St) (H : Hp) (E : Value → Shared → Prop), Inv X pins σ H s → (∀ b ∈ fp, FpOk X pins H b) → tn i s.heap → J.go i H →
    wpAny (model P w) X.A (pyNext (.ref it)) (fun r s1 => ∃ u, r = some u ∧
      wpAny (model P w) X.A (letOwnedTupleGo tg (.ref it) u) (fun _ s2 => ∃ x H', Inv X pins σ H' s2 ∧ RelV x u ∧ J.yld i H x H' ∧ tn (i + 1) s2.heap ∧ ∀ b ∈ fp, H' b = none) E s1) E s
  done : ∀ (X : Cx), X.prog = P → X.w = w → X.K = K → X.calm = true → ∀ (i : Nat) (pins : List (Addr × Obj)) (s : Shared) (σ : St) (H : Hp) (E : Value → Shared → Prop), Inv X pins σ H s → (∀ b ∈ fp, FpOk X pins H b) → tn i s.heap → J.stop i H →
    wpAny (model P w) X.A (pyNext (.ref it)) (fun r s1 => r = none ∧ Inv X pins σ H s1) E s
  self : ∀ (A : Around) (i : Nat) (s : Shared) (Q : Value → Shared → Prop) (E : Value → Shared → Prop), tn i s.heap → Q (.ref it) s → wpAny (model P w) A (pyIter (.ref it)) Q E s
abbrev TI := St → Hp → (It → Hp → Prop) → Prop
/-- an iterator has come -/
def PIE (X : Cx) (pins : List (Addr × Obj)) (σ : St) (tg : Expr) (R : It → Hp → Prop) (itv : Value) (s2 : Shared) : Prop :=
  ∃ (it : Addr) (fp : List Addr) (tn : Nat → Heap → Prop) (J : It) (H' : Hp), itv = .ref it ∧ Inv X pins σ H' s2 ∧ Turn X.prog X.w X.K tg J fp it tn ∧ tn 0 s2.heap ∧ (∀ b ∈ fp, FpOk X pins H' b) ∧ R J H'
def PI (X : Cx) (tg iter : Expr) (wi : TI) : Prop :=
  ∀ (pins : List (Addr × Obj)) (s : Shared) (σ : St) (H : Hp) (R : It → Hp → Prop), Inv X pins σ H s → wi σ H R →
    wpAny (model X.prog X.w) X.A (eval iter X.env) (fun v s1 => wpAny (model X.prog X.w) X.A (pyIter v) (PIE X pins σ tg R) X.xe s1) X.xe s

/-- the step ahead of the store is nothing for an iterator that keeps no tuple -/
theorem go_of {M : Model} {A : Around} {E : Value → Shared → Prop} {s : Shared} {tg : Expr} {it : Addr} {u : Value} {o : Obj} {n : String} {vs : Array Value} {Q : Unit → Shared → Prop} (ho : s.heap.get? it = some o) (hc : o.cls = .type n) (hd : o.data = .fields vs)
    (hn : ["enumerate", "zip", "dict_itemiterator", "dict_reverseitemiterator", "odict_iterator", "itertools.zip_longest", "itertools.pairwise"].contains n = false) (hQ : Q () s) : wpAny M A (letOwnedTupleGo tg (.ref it) u) Q E s := by
  unfold letOwnedTupleGo
  cases tg <;> first
    | exact wpAny_pure hQ
    | (cases u <;> first
        | exact wpAny_pure hQ
        | (refine wpAny_bind (wpAny_load ho ?_)
           rw [hc, hd]
           show wpAny M A (if (["enumerate", "zip", "dict_itemiterator", "dict_reverseitemiterator", "odict_iterator", "itertools.zip_longest", "itertools.pairwise"].contains n && vs[0]? == some (rawInt _)) = true then _ else _) Q E s
           rw [if_neg (by intro h; rw [hn, Bool.false_and] at h; cases h)]
           exact wpAny_pure hQ))

/-- the list at a, as it stands at each turn (a loop may append to it) -/
def Itl (K : PySem.W.Frag) (a : Addr) : It :=
  ⟨fun i H => ∃ xs x, SqL K H a xs ∧ xs[i]? = some x, fun i H x H' => H' = H ∧ ∀ xs, SqL K H a xs → xs[i]? = some x, fun i H => ∃ xs, SqL K H a xs ∧ xs.length ≤ i⟩
def Itt (K : PySem.W.Frag) (a : Addr) : It :=
  ⟨fun i H => ∃ xs x, SqT K H a xs ∧ xs[i]? = some x, fun i H x H' => H' = H ∧ ∀ xs, SqT K H a xs → xs[i]? = some x, fun i H => ∃ xs, SqT K H a xs ∧ xs.length ≤ i⟩
/-- lo, lo + 1, .. (n of them) -/
def Itr (lo : Int) (n : Nat) : It := ⟨fun i _ => i < n, fun i H x H' => H' = H ∧ x = .int (lo + i), fun i _ => n ≤ i⟩
theorem turn_list {P : Program} {w : World} {K : PySem.W.Frag} {tg : Expr} (a it : Addr) : Turn P w K tg (Itl K a) [it] it (fun i h => h.IsListIter it a i) where
  mem := by simp
  obj := fun i h st b hb => by
    have e : b = it := by simpa using hb
    subst e
    obtain ⟨o, e, c, d⟩ := st
    exact ⟨o, e, fun v z => by rw [d] at z; cases z⟩
  keep := fun i h h' st k => st.at fun o e => k it (by simp) o e
  item := by
    intro X hP hw hK hc i pins s σ H E I hf st hg
    subst hP hw hK
    obtain ⟨xs, x, hq, hx⟩ := hg
    obtain ⟨its, rv, p, hz⟩ := I.list hq
    obtain ⟨u, hu, ru⟩ := rv.get hx
    obtain ⟨f0, f1, f2, f3, f4, f5⟩ := hf it (by simp)
    refine wpAny_pyNext_list_item st p.isList (x := u) (by simpa using hu) fun h' st' sb => ?_
    have I1 : Inv X pins σ H { s with heap := h' } := I.turned (t' := s.toks) (fun b o hb e => (sb.2 b hb).trans e) f0 f1 f3 f4 f5
    obtain ⟨o, e, c, d⟩ := id st'
    exact ⟨u, rfl, go_of (s := { s with heap := h' }) e c d (by decide) ⟨x, H, I1, ru, ⟨rfl, fun ys hy => by rw [I.list_inj hy hq]; exact hx⟩, st', fun b hb => (hf b hb).1⟩⟩
  done := by
    intro X hP hw hK hc i pins s σ H E I hf st hg
    subst hP hw hK
    obtain ⟨xs, hq, hx⟩ := hg
    obtain ⟨its, rv, p, hz⟩ := I.list hq
    obtain ⟨f0, f1, f2, f3, f4, f5⟩ := hf it (by simp)
    have hl := rv.length
    exact wpAny_pyNext_list_end (I.ok.hd hc) st p.isList (by simp; omega) fun h' eb => ⟨rfl, I.turned (t' := s.toks) (fun b o hb e => eb b o hb e) f0 f1 f3 f4 f5⟩
  self := fun _ _ _ _ _ st h => wpAny_pyIter_listiter st h
theorem turn_tuple {P : Program} {w : World} {K : PySem.W.Frag} {tg : Expr} (a it : Addr) : Turn P w K tg (Itt K a) [it] it (fun i h => h.IsTupleIter it a i) where
  mem := by simp
  obj := fun i h st b hb => by
    have e : b = it := by simpa using hb
    subst e
    obtain ⟨o, e, c, d⟩ := st
    exact ⟨o, e, fun v z => by rw [d] at z; cases z⟩
  keep := fun i h h' st k => st.at fun o e => k it (by simp) o e
  item := by
    intro X hP hw hK hc i pins s σ H E I hf st hg
    subst hP hw hK
    obtain ⟨xs, x, hq, hx⟩ := hg
    obtain ⟨its, rv, p, hz⟩ := I.tuple hq
    obtain ⟨u, hu, ru⟩ := rv.get hx
    obtain ⟨f0, f1, f2, f3, f4, f5⟩ := hf it (by simp)
    refine wpAny_pyNext_tuple_item st (show s.heap.IsTuple a its.toArray from p) (x := u) (by simpa using hu) fun h' st' sb => ?_
    have I1 : Inv X pins σ H { s with heap := h' } := I.turned (t' := s.toks) (fun b o hb e => (sb.2 b hb).trans e) f0 f1 f3 f4 f5
    obtain ⟨o, e, c, d⟩ := id st'
    exact ⟨u, rfl, go_of (s := { s with heap := h' }) e c d (by decide) ⟨x, H, I1, ru, ⟨rfl, fun ys hy => by rw [I.tuple_inj hy hq]; exact hx⟩, st', fun b hb => (hf b hb).1⟩⟩
  done := by
    intro X hP hw hK hc i pins s σ H E I hf st hg
    subst hP hw hK
    obtain ⟨xs, hq, hx⟩ := hg
    obtain ⟨its, rv, p, hz⟩ := I.tuple hq
    obtain ⟨f0, f1, f2, f3, f4, f5⟩ := hf it (by simp)
    have hl := rv.length
    exact wpAny_pyNext_tuple_end (I.ok.hd hc) st (show s.heap.IsTuple a its.toArray from p) (by simp; omega) fun h' eb => ⟨rfl, I.turned (t' := s.toks) (fun b o hb e => eb b o hb e) f0 f1 f3 f4 f5⟩
  self := fun _ _ _ _ _ st h => wpAny_pyIter_tupleiter st h
theorem turn_range {P : Program} {w : World} {K : PySem.W.Frag} {tg : Expr} (it : Addr) (lo : Int) (n : Nat) : Turn P w K tg (Itr lo n) [it] it (fun i h => IsRangeIter h it (lo + (i : Nat) * 1) ((n : Int) - (i : Nat)) 1) where
  mem := by simp
  obj := fun i h st b hb => by
    have e : b = it := by simpa using hb
    subst e
    exact ⟨_, st, fun v z => by
      have z' : Data.fields _ = Data.cell v := z
      cases z'⟩
  keep := fun i h h' st k => k it (by simp) _ st
  item := by
    intro X hP hw hK hc i pins s σ H E I hf st hg
    subst hP hw hK
    obtain ⟨f0, f1, f2, f3, f4, f5⟩ := hf it (by simp)
    have W := Walks.range (prog := X.prog) (w := X.w) (I.ok.hd hc) it lo 1 n
    refine W.item i s _ _ hg st fun v h' tk hv st' kk => ?_
    obtain ⟨t, rfl⟩ := hv
    have I1 : Inv X pins σ H { s with heap := h', toks := tk } := I.turned (fun b o hb e => kk b o (by simpa using hb) e) f0 f1 f3 f4 f5
    refine ⟨_, rfl, go_of (s := { s with heap := h', toks := tk }) (n := "range_iterator") st' rfl rfl (by decide) ⟨.int (lo + i), H, I1, ⟨t, ?_⟩, ⟨rfl, rfl⟩, st', fun b hb => (hf b hb).1⟩⟩
    rw [Int.mul_one]
  done := by
    intro X hP hw hK hc i pins s σ H E I hf st hg
    subst hP hw hK
    obtain ⟨f0, f1, f2, f3, f4, f5⟩ := hf it (by simp)
    exact wpAny_pyNext_range_end (I.ok.hd hc) st (by have : n ≤ i := hg; omega) fun h' eb => ⟨rfl, I.turned (t' := s.toks) (fun b o hb e => eb b o hb e) f0 f1 f3 f4 f5⟩
  self := fun _ _ _ _ _ st h => wpAny_pyIter_rangeiter st h
end L2

namespace L2
open PySem PySem.Spec PyProof.Rows
section
variable {X : Cx} {tg : Expr}
def iList (K : PySem.W.Frag) (tl : TE) : TI := fun σ H R => tl σ H fun x H1 => ∃ a, x = .ref a ∧ (∃ xs, SqL K H1 a xs) ∧ R (Itl K a) H1
def iTup (K : PySem.W.Frag) (tl : TE) : TI := fun σ H R => tl σ H fun x H1 => ∃ a, x = .ref a ∧ (∃ xs, SqT K H1 a xs) ∧ R (Itt K a) H1
theorem pi_list {l : Expr} {tl : TE} (hl : PE X l tl) : PI X tg l (iList X.K tl) := by
  intro pins s σ H R I h
  refine thn (hl pins s σ H _ I h) fun v s1 ⟨x, H1, I1, r1, q1⟩ => ?_
  obtain ⟨a, e, ⟨xs, hq⟩, q⟩ := q1
  subst e
  cases r1
  obtain ⟨its, rv, p, hz⟩ := I1.list hq
  refine wpAny_pyIter_list p.isList ?_
  refine ⟨s1.heap.objs.size, [s1.heap.objs.size], _, _, H1, rfl, I1.kept (t' := s1.toks) fun b o e => Heap.get?_push_of_some _ e, turn_list a _, ⟨_, Heap.get?_push_size _ rfl, rfl, rfl⟩, fun b hb => ?_, q⟩
  have e : b = s1.heap.objs.size := by simpa using hb
  subst e
  exact I1.fpOk (Nat.le_refl _) (I1.hok.fresh (Nat.le_refl _))
theorem pi_tup {l : Expr} {tl : TE} (hl : PE X l tl) : PI X tg l (iTup X.K tl) := by
  intro pins s σ H R I h
  refine thn (hl pins s σ H _ I h) fun v s1 ⟨x, H1, I1, r1, q1⟩ => ?_
  obtain ⟨a, e, ⟨xs, hq⟩, q⟩ := q1
  subst e
  cases r1
  obtain ⟨its, rv, p, hz⟩ := I1.tuple hq
  refine wpAny_pyIter_tuple (show s1.heap.IsTuple a its.toArray from p) ?_
  refine ⟨s1.heap.objs.size, [s1.heap.objs.size], _, _, H1, rfl, I1.kept (t' := s1.toks) fun b o e => Heap.get?_push_of_some _ e, turn_tuple a _, ⟨_, Heap.get?_push_size _ rfl, rfl, rfl⟩, fun b hb => ?_, q⟩
  have e : b = s1.heap.objs.size := by simpa using hb
  subst e
  exact I1.fpOk (Nat.le_refl _) (I1.hok.fresh (Nat.le_refl _))
/-- a range object just made, walked -/
theorem range_it {pins : List (Addr × Obj)} {σ : St} {H : Hp} {s : Shared} {R : It → Hp → Prop} {E : Value → Shared → Prop} {lo hi : Int} {t u v : Tok} {tk : Nat} (I : Inv X pins σ H s) (h1 : -(2 ^ 62) ≤ lo) (h2 : lo < 2 ^ 62) (h3 : -(2 ^ 62) ≤ hi) (h4 : hi < 2 ^ 62)
    (q : R (Itr lo (hi - lo).toNat) H) : wpAny (model X.prog X.w) X.A (pyIter (.ref s.heap.objs.size)) (PIE X pins σ tg R) E { s with heap := s.heap.push { cls := .type "range", data := .fields #[.int lo t, .int hi u, .int 1 v] }, toks := tk } := by
  refine wpAny_pyIter_range (IsRange.new ..) (small_one h1 h2 h3 h4) ?_
  have I1 : Inv X pins σ H { s with heap := s.heap.push { cls := .type "range", data := .fields #[.int lo t, .int hi u, .int 1 v] }, toks := tk } := I.kept fun b o e => Heap.get?_push_of_some _ e
  refine ⟨(s.heap.push { cls := .type "range", data := .fields #[.int lo t, .int hi u, .int 1 v] }).objs.size, [(s.heap.push { cls := .type "range", data := .fields #[.int lo t, .int hi u, .int 1 v] }).objs.size], _, _, H, rfl,
    I1.kept (t' := tk) fun b o e => Heap.get?_push_of_some _ e, turn_range _ lo (hi - lo).toNat, ?_, fun b hb => ?_, q⟩
  · have e1 : lo + ((0 : Nat) : Int) * 1 = lo := by simp
    have e2 : (((hi - lo).toNat : Nat) : Int) - ((0 : Nat) : Int) = Builtin.Range.rangeSize lo hi 1 := by rw [rangeSize_one]; split <;> omega
    show IsRangeIter _ _ (lo + ((0 : Nat) : Int) * 1) ((((hi - lo).toNat : Nat) : Int) - ((0 : Nat) : Int)) 1
    rw [e1, e2]
    exact Heap.get?_push_size _ rfl
  · have e : b = (s.heap.push { cls := .type "range", data := .fields #[.int lo t, .int hi u, .int 1 v] }).objs.size := by simpa using hb
    subst e
    exact I1.fpOk (Nat.le_refl _) (I1.hok.fresh (Nat.le_refl _))
def iRng1 (ta : TA) : TI := fun σ H R => ta σ H fun vs H1 => ∃ j : Int, vs = [.int j] ∧ -(2 ^ 62) ≤ j ∧ j < 2 ^ 62 ∧ R (Itr 0 j.toNat) H1
def iRng2 (ta : TA) : TI := fun σ H R => ta σ H fun vs H1 => ∃ i j : Int, vs = [.int i, .int j] ∧ (-(2 ^ 62) ≤ i ∧ i < 2 ^ 62 ∧ -(2 ^ 62) ≤ j ∧ j < 2 ^ 62) ∧ R (Itr i (j - i).toNat) H1
theorem pi_range1 {a : Expr} {ta : TA} {p pos : Pos} (hg : Gl X "range") (hm : X.mg "range" = none) (ha : PA X [a] ta) (hs : starEach [a] X.env = [(false, eval a X.env)] := by rfl) : PI X tg (.Call (.Name "range" p) [a] [] pos) (iRng1 ta) := by
  intro pins s σ H R I h
  refine Call_ (ld_blt I hg hm boot_range (PyProof.Rows.callWith_type1 (thn (ha pos pins s σ H _ I h) fun us s1 ⟨vs, H1, I1, r1, q1⟩ => ?_) hs rfl))
  obtain ⟨j, e, q1, q2, q⟩ := q1
  subst e
  cases r1 with
  | cons r rr =>
    cases rr
    obtain ⟨t, rfl⟩ := r
    exact call_range_1 (range_it I1 (by omega) (by omega) q1 q2 (by simpa using q))
/-! ### for -/
/-- W: the invariant by the turn and a measure; N: what the body is to reach -/
def tFor (wi : TI) (g : TG) (tb : TS) : TS := fun D σ H => wi σ H fun J H1 => ∃ W : Nat → Nat → St → Hp → Prop, (∃ m, W 0 m σ H1) ∧ ∀ i m σ H, W i m σ H →
  (J.stop i H ∧ D.nx σ H) ∨ (J.go i H ∧ ∃ N : St → Hp → Prop, (∀ σ' H', N σ' H' → ∃ m', m' < m ∧ W (i + 1) m' σ' H') ∧ ∀ x H', J.yld i H x H' → g x σ H' fun σ2 H2 => tb { D with nx := N, ct := N, bk := D.nx } σ2 H2)
/-- the records at fp as they stand -/
def pinsAt (fp : List Addr) (h : Heap) : List (Addr × Obj) := fp.filterMap fun b => (h.get? b).map fun o => (b, o)
theorem mem_pinsAt {fp : List Addr} {h : Heap} {b : Addr} {o : Obj} (hb : b ∈ fp) (e : h.get? b = some o) : (b, o) ∈ pinsAt fp h := List.mem_filterMap.mpr ⟨b, hb, by rw [e]; rfl⟩
theorem of_pinsAt {fp : List Addr} {h : Heap} {p : Addr × Obj} (hp : p ∈ pinsAt fp h) : p.1 ∈ fp ∧ h.get? p.1 = some p.2 := by
  obtain ⟨b, hb, e⟩ := List.mem_filterMap.mp hp
  cases q : h.get? b with
  | none => rw [q] at e; cases e
  | some o =>
    rw [q] at e
    have e' : (b, o) = p := Option.some.inj e
    subst e'
    exact ⟨hb, q⟩
theorem Inv.pinned {pins : List (Addr × Obj)} {σ : St} {H : Hp} {s : Shared} {fp : List Addr} (I : Inv X pins σ H s) (hf : ∀ b ∈ fp, FpOk X pins H b) (ho : ∀ b ∈ fp, ∃ o, s.heap.get? b = some o ∧ ∀ v, o.data ≠ .cell v) : Inv X (pins ++ pinsAt fp s.heap) σ H s :=
  I.pins_of fun p hp => (List.mem_append.mp hp).elim (fun z => I.pin p (List.mem_append_right _ z)) fun z => by
    obtain ⟨hb, e⟩ := of_pinsAt z
    obtain ⟨f0, f1, f2, _⟩ := hf p.1 hb
    obtain ⟨o, e', d⟩ := ho p.1 hb
    rw [e] at e'; cases e'
    exact ⟨e, f0, f1, f2, d⟩
theorem Inv.unpinned {pins pl : List (Addr × Obj)} {σ : St} {H : Hp} {s : Shared} (I : Inv X (pins ++ pl) σ H s) : Inv X pins σ H s := I.pins_of fun p hp => I.pin p (List.mem_append_right _ (List.mem_append_left _ hp))
theorem ps_for {iter : Expr} {body : List Stmt} {wi : TI} {g : TG} {tb : TS} {pos : Pos} (hp : PassesOwn (model X.prog X.w) X.A X.env X.xe) (hc : X.calm = true) (hi : PI X tg iter wi) (hg : PG X tg g) (hb : PSs X body tb)
    (hs : ∀ x, foldedSetIterable iter X.env x = pure x := by intro _; rfl) : PS X (.For tg iter body [] pos) (tFor wi g tb) := by
  intro pins s σ H D I h
  refine wpAny_For (thn (hi pins s σ H _ I h) fun v s1 h1 => thn h1 fun itv s2 h2 => ?_) hs
  obtain ⟨it, fp, tn, J, H2, e, I2, T, st2, f2, W, ⟨m0, w0⟩, turn⟩ := h2
  subst e
  -- what stays true of the iterator's objects through the loop
  have stat : ∀ {H' : Hp}, (∀ b ∈ fp, H' b = none) → ∀ b ∈ fp, FpOk X pins H' b := fun hn b hb => ⟨hn b hb, (f2 b hb).2⟩
  refine codeAny_forLoop_any (fun n s' => ∃ i σ' H', Inv X pins σ' H' s' ∧ tn i s'.heap ∧ (∀ b ∈ fp, H' b = none) ∧ W i n σ' H') ?_ m0 ⟨0, σ, H2, I2, st2, fun b hb => (f2 b hb).1, w0⟩
  rintro n s3 ⟨i, σ3, H3, I3, st3, fr3, w3⟩
  rcases turn i n σ3 H3 w3 with ⟨stop, qn⟩ | ⟨go, N, hN, step⟩
  · refine wpAny_passesOwn hp (thn (T.done X rfl rfl rfl hc i pins s3 σ3 H3 X.xe I3 (stat fr3) st3 stop) fun r s4 ⟨hr, I4⟩ => ?_)
    subst hr
    exact wpAny_execs_nil ⟨σ3, H3, I4, qn⟩
  · refine wpAny_passesOwn hp (thn (T.item X rfl rfl rfl hc i pins s3 σ3 H3 X.xe I3 (stat fr3) st3 go) fun r s4 ⟨u, hr, h4⟩ => ?_)
    subst hr
    refine wpAny_passesOwn hp (thn h4 fun _ s5 ⟨x, H5, I5, r5, y5, st5, fr5⟩ => ?_)
    have I5' := I5.pinned (stat fr5) (T.obj _ _ st5)
    refine wpAny_passesOwn hp (thn (hg _ s5 σ3 H5 x u _ I5' r5 (step x H5 y5)) fun _ s6 ⟨σ6, H6, I6, q6⟩ => ?_)
    refine wpAny_passesOwn hp (thn (hb _ s6 σ6 H6 _ I6 q6) fun f s7 q7 => ?_)
    have again : ∀ {σ7 : St} {H7 : Hp}, Inv X (pins ++ pinsAt fp s5.heap) σ7 H7 s7 → N σ7 H7 → ∃ m, m < n ∧ ∃ i σ' H', Inv X pins σ' H' s7 ∧ tn i s7.heap ∧ (∀ b ∈ fp, H' b = none) ∧ W i m σ' H' := fun {σ7 H7} I7 n7 => by
      obtain ⟨m', hm, w7⟩ := hN σ7 H7 n7
      refine ⟨m', hm, i + 1, σ7, H7, I7.unpinned, T.keep _ _ _ st5 fun b hb o e => (I7.pin (b, o) (List.mem_append_right _ (List.mem_append_right _ (mem_pinsAt hb e)))).1, fun b hb => ?_, w7⟩
      obtain ⟨o, e, d⟩ := T.obj _ _ st5 b hb
      exact (I7.pin (b, o) (List.mem_append_right _ (List.mem_append_right _ (mem_pinsAt hb e)))).2.1
    cases f with
    | next => obtain ⟨σ7, H7, I7, n7⟩ := q7; exact again I7 n7
    | cont => obtain ⟨σ7, H7, I7, n7⟩ := q7; exact again I7 n7
    | brk => obtain ⟨σ7, H7, I7, q7⟩ := q7; exact ⟨σ7, H7, I7.unpinned, q7⟩
    | ret v => obtain ⟨x7, σ7, H7, I7, r7, q7⟩ := q7; exact ⟨x7, σ7, H7, I7.unpinned, r7, q7⟩
end

/-! ### the forms one uses -/
/-- over a list that the body leaves as it is -/
theorem for_list {K : PySem.W.Frag} {a : Addr} {xs : List V} {g : TG} {tb : TS} {D : Ends} {σ : St} {H : Hp} (Pv : Nat → St → Hp → Prop) (h0 : Pv 0 σ H) (hl : ∀ i σ H, i ≤ xs.length → Pv i σ H → SqL K H a xs)
    (hs : ∀ i x σ H, xs[i]? = some x → Pv i σ H → g x σ H fun σ2 H2 => tb { D with nx := Pv (i + 1), ct := Pv (i + 1), bk := D.nx } σ2 H2) (hd : ∀ σ H, Pv xs.length σ H → D.nx σ H) :
    ∃ W : Nat → Nat → St → Hp → Prop, (∃ m, W 0 m σ H) ∧ ∀ i m σ H, W i m σ H →
      ((Itl K a).stop i H ∧ D.nx σ H) ∨ ((Itl K a).go i H ∧ ∃ N : St → Hp → Prop, (∀ σ' H', N σ' H' → ∃ m', m' < m ∧ W (i + 1) m' σ' H') ∧ ∀ x H', (Itl K a).yld i H x H' → g x σ H' fun σ2 H2 => tb { D with nx := N, ct := N, bk := D.nx } σ2 H2) := by
  refine ⟨fun i m σ H => m = xs.length - i ∧ i ≤ xs.length ∧ Pv i σ H, ⟨xs.length, by simp, Nat.zero_le _, h0⟩, ?_⟩
  rintro i m σ H ⟨rfl, hi, p⟩
  have q := hl i σ H hi p
  by_cases hlt : i < xs.length
  · refine .inr ⟨⟨xs, xs[i], q, by simp [hlt]⟩, Pv (i + 1), fun σ' H' p' => ⟨xs.length - (i + 1), by omega, rfl, hlt, p'⟩, fun x H' y => ?_⟩
    obtain ⟨e, y⟩ := y
    subst e
    exact hs i x σ _ (y xs q) p
  · have e : i = xs.length := by omega
    subst e
    exact .inl ⟨⟨xs, q, Nat.le_refl _⟩, hd σ H p⟩
theorem for_tup {K : PySem.W.Frag} {a : Addr} {xs : List V} {g : TG} {tb : TS} {D : Ends} {σ : St} {H : Hp} (Pv : Nat → St → Hp → Prop) (h0 : Pv 0 σ H) (hl : ∀ i σ H, i ≤ xs.length → Pv i σ H → SqT K H a xs)
    (hs : ∀ i x σ H, xs[i]? = some x → Pv i σ H → g x σ H fun σ2 H2 => tb { D with nx := Pv (i + 1), ct := Pv (i + 1), bk := D.nx } σ2 H2) (hd : ∀ σ H, Pv xs.length σ H → D.nx σ H) :
    ∃ W : Nat → Nat → St → Hp → Prop, (∃ m, W 0 m σ H) ∧ ∀ i m σ H, W i m σ H →
      ((Itt K a).stop i H ∧ D.nx σ H) ∨ ((Itt K a).go i H ∧ ∃ N : St → Hp → Prop, (∀ σ' H', N σ' H' → ∃ m', m' < m ∧ W (i + 1) m' σ' H') ∧ ∀ x H', (Itt K a).yld i H x H' → g x σ H' fun σ2 H2 => tb { D with nx := N, ct := N, bk := D.nx } σ2 H2) := by
  refine ⟨fun i m σ H => m = xs.length - i ∧ i ≤ xs.length ∧ Pv i σ H, ⟨xs.length, by simp, Nat.zero_le _, h0⟩, ?_⟩
  rintro i m σ H ⟨rfl, hi, p⟩
  have q := hl i σ H hi p
  by_cases hlt : i < xs.length
  · refine .inr ⟨⟨xs, xs[i], q, by simp [hlt]⟩, Pv (i + 1), fun σ' H' p' => ⟨xs.length - (i + 1), by omega, rfl, hlt, p'⟩, fun x H' y => ?_⟩
    obtain ⟨e, y⟩ := y
    subst e
    exact hs i x σ _ (y xs q) p
  · have e : i = xs.length := by omega
    subst e
    exact .inl ⟨⟨xs, q, Nat.le_refl _⟩, hd σ H p⟩
theorem for_range {lo : Int} {n : Nat} {g : TG} {tb : TS} {D : Ends} {σ : St} {H : Hp} (Pv : Nat → St → Hp → Prop) (h0 : Pv 0 σ H)
    (hs : ∀ i σ H, i < n → Pv i σ H → g (.int (lo + i)) σ H fun σ2 H2 => tb { D with nx := Pv (i + 1), ct := Pv (i + 1), bk := D.nx } σ2 H2) (hd : ∀ σ H, Pv n σ H → D.nx σ H) :
    ∃ W : Nat → Nat → St → Hp → Prop, (∃ m, W 0 m σ H) ∧ ∀ i m σ H, W i m σ H →
      ((Itr lo n).stop i H ∧ D.nx σ H) ∨ ((Itr lo n).go i H ∧ ∃ N : St → Hp → Prop, (∀ σ' H', N σ' H' → ∃ m', m' < m ∧ W (i + 1) m' σ' H') ∧ ∀ x H', (Itr lo n).yld i H x H' → g x σ H' fun σ2 H2 => tb { D with nx := N, ct := N, bk := D.nx } σ2 H2) := by
  refine ⟨fun i m σ H => m = n - i ∧ i ≤ n ∧ Pv i σ H, ⟨n, by simp, Nat.zero_le _, h0⟩, ?_⟩
  rintro i m σ H ⟨rfl, hi, p⟩
  by_cases hlt : i < n
  · refine .inr ⟨hlt, Pv (i + 1), fun σ' H' p' => ⟨n - (i + 1), by omega, rfl, hlt, p'⟩, fun x H' y => ?_⟩
    obtain ⟨e, y⟩ := y
    subst e y
    exact hs i σ _ hlt p
  · have e : i = n := by omega
    subst e
    exact .inl ⟨Nat.le_refl _, hd σ H p⟩
/-- while, by a word and a measure of the state -/
theorem while_by {c : TT} {tb : TS} {D : Ends} {σ : St} {H : Hp} (Pv : St → Hp → Prop) (μ : St → Hp → Nat) (h0 : Pv σ H)
    (hs : ∀ σ H, Pv σ H → c σ H fun b H1 => if b = true then tb { D with nx := fun σ' H' => Pv σ' H' ∧ μ σ' H' < μ σ H, ct := fun σ' H' => Pv σ' H' ∧ μ σ' H' < μ σ H, bk := D.nx } σ H1 else D.nx σ H1)
    (mono : ∀ σ H Q Q', (∀ b H1, Q b H1 → Q' b H1) → c σ H Q → c σ H Q') : tWhile c tb D σ H := by
  refine ⟨fun m σ H => m = μ σ H ∧ Pv σ H, ⟨_, rfl, h0⟩, ?_⟩
  rintro m σ H ⟨rfl, p⟩
  refine mono σ H _ _ (fun b H1 q => ?_) (hs σ H p)
  cases b with
  | true => exact ⟨_, fun σ' H' ⟨p', l⟩ => ⟨_, l, rfl, p'⟩, q⟩
  | false => exact q
end L2

namespace L2
open PySem PySem.Spec PyProof.Rows

abbrev R2 := V → V → Hp → VK → Prop
/-- a two-place operation on values: f is binaryOp op, inplaceOp op or compareOp op -/
def OpR (X : Cx) (f : Value → Value → Sem Value) (r : R2) : Prop :=
  ∀ (pins : List (Addr × Obj)) (s : Shared) (σ : St) (H : Hp) (x y : V) (v u : Value) (Q : VK), Inv X pins σ H s → RelV x v → RelV y u → r x y H Q →
    wpAny (model X.prog X.w) X.A (f v u) (EP X pins σ Q) X.xe s
/-- a one-place operation -/
def UnR (X : Cx) (f : Value → Sem Value) (r : V → Hp → VK → Prop) : Prop :=
  ∀ (pins : List (Addr × Obj)) (s : Shared) (σ : St) (H : Hp) (x : V) (v : Value) (Q : VK), Inv X pins σ H s → RelV x v → r x H Q →
    wpAny (model X.prog X.w) X.A (f v) (EP X pins σ Q) X.xe s
/-- a call of a value that is known (a builtin, a type) with values -/
def CallR (X : Cx) (f : Value) (r : List V → Hp → VK → Prop) : Prop :=
  ∀ (pins : List (Addr × Obj)) (s : Shared) (σ : St) (H : Hp) (xs : List V) (us : List Value) (Q : VK), Inv X pins σ H s → Vals xs us → r xs H Q →
    wpAny (model X.prog X.w) X.A (call f us) (EP X pins σ Q) X.xe s
/-- a value's truth -/
def TruR (X : Cx) (r : V → Hp → (Bool → Hp → Prop) → Prop) : Prop :=
  ∀ (pins : List (Addr × Obj)) (s : Shared) (σ : St) (H : Hp) (x : V) (v : Value) (Q : Bool → Hp → Prop), Inv X pins σ H s → RelV x v → r x H Q →
    wpAny (model X.prog X.w) X.A (truthy v) (TP X pins σ Q) X.xe s

def tOp (r : R2) (ta tb : TE) : TE := fun σ H Q => ta σ H fun x H1 => tb σ H1 fun y H2 => r x y H2 Q
def tUn (r : V → Hp → VK → Prop) (ta : TE) : TE := fun σ H Q => ta σ H fun x H1 => r x H1 Q
/-- ints in, under C, and a value out -/
def rI (C : Int → Int → Prop) (g : Int → Int → V) : R2 := fun x y H Q => ∃ i j, x = .int i ∧ y = .int j ∧ C i j ∧ Q (g i j) H
def rI0 (g : Int → Int → V) : R2 := fun x y H Q => ∃ i j, x = .int i ∧ y = .int j ∧ Q (g i j) H
def rU (g : Int → V) : V → Hp → VK → Prop := fun x H Q => ∃ i, x = .int i ∧ Q (g i) H

section
variable {X : Cx} {a b c : Expr} {ta tb tc : TE} {pos : Pos}

theorem binT (ha : PE X a ta) (hb : PE X b tb) {pins : List (Addr × Obj)} {s : Shared} {σ : St} {H : Hp} {R : V → V → Hp → Prop} (I : Inv X pins σ H s)
    (h : ta σ H fun x H1 => tb σ H1 fun y H2 => R x y H2) {Q : Value → Shared → Prop} {f : Value → Value → Sem Value}
    (hf : ∀ v u s2 x y H2, Inv X pins σ H2 s2 → RelV x v → RelV y u → R x y H2 → wpAny (model X.prog X.w) X.A (f v u) Q X.xe s2) :
    wpAny (model X.prog X.w) X.A (eval a X.env) (fun v s₁ => wpAny (model X.prog X.w) X.A (eval b X.env) (fun u s₂ => wpAny (model X.prog X.w) X.A (f v u) Q X.xe s₂) X.xe s₁) X.xe s := by
  refine thn (ha pins s σ H _ I h) fun v s1 ⟨x, H1, I1, r1, q1⟩ => ?_
  refine thn (hb pins s1 σ H1 _ I1 q1) fun u s2 ⟨y, H2, I2, r2, q2⟩ => ?_
  exact hf v u s2 x y H2 I2 r1 r2 q2

theorem pe_op {op : Operator} {r : R2} (ho : OpR X (binaryOp op) r) (ha : PE X a ta) (hb : PE X b tb) : PE X (.BinOp a op b pos) (tOp r ta tb) := by
  intro pins s σ H Q I h
  exact wpAny_BinOp (binT ha hb I h fun v u s2 x y H2 I2 rx ry q => ho pins s2 σ H2 x y v u Q I2 rx ry q)
theorem pe_un {op : UnaryOp} {r : V → Hp → VK → Prop} (ho : UnR X (unaryOp op) r) (ha : PE X a ta) : PE X (.UnaryOp op a pos) (tUn r ta) := by
  intro pins s σ H Q I h
  exact UnaryOp_ (thn (ha pins s σ H _ I h) fun v s1 ⟨x, H1, I1, r1, q1⟩ => ho pins s1 σ H1 x v Q I1 r1 q1)
/-! ### ints -/
theorem opI {f : Value → Value → Sem Value} {C : Int → Int → Prop} {g : Int → Int → Int}
    (rule : ∀ (i j : Int) (t u : Tok) (s : Shared) (Q : Value → Shared → Prop) (E : Value → Shared → Prop), C i j → Q (.int (g i j) s.toks) { s with toks := s.toks + 1 } → wpAny (model X.prog X.w) X.A (f (.int i t) (.int j u)) Q E s) :
    OpR X f (rI C fun i j => .int (g i j)) := by
  intro pins s σ H x y v u Q I rx ry h
  obtain ⟨i, j, rfl, rfl, hc, q⟩ := h
  obtain ⟨t, rfl⟩ := rx
  obtain ⟨t', rfl⟩ := ry
  exact rule i j t t' s _ _ hc ⟨.int (g i j), H, I.tok _, ⟨_, rfl⟩, q⟩
theorem opI0 {f : Value → Value → Sem Value} {g : Int → Int → Int}
    (rule : ∀ (i j : Int) (t u : Tok) (s : Shared) (Q : Value → Shared → Prop) (E : Value → Shared → Prop), Q (.int (g i j) s.toks) { s with toks := s.toks + 1 } → wpAny (model X.prog X.w) X.A (f (.int i t) (.int j u)) Q E s) :
    OpR X f (rI0 fun i j => .int (g i j)) := by
  intro pins s σ H x y v u Q I rx ry h
  obtain ⟨i, j, rfl, rfl, q⟩ := h
  obtain ⟨t, rfl⟩ := rx
  obtain ⟨t', rfl⟩ := ry
  exact rule i j t t' s _ _ ⟨.int (g i j), H, I.tok _, ⟨_, rfl⟩, q⟩
theorem opB0 {f : Value → Value → Sem Value} {g : Int → Int → Bool}
    (rule : ∀ (i j : Int) (t u : Tok) (s : Shared) (Q : Value → Shared → Prop) (E : Value → Shared → Prop), Q (.bool (g i j)) s → wpAny (model X.prog X.w) X.A (f (.int i t) (.int j u)) Q E s) :
    OpR X f (rI0 fun i j => .bl (g i j)) := by
  intro pins s σ H x y v u Q I rx ry h
  obtain ⟨i, j, rfl, rfl, q⟩ := h
  obtain ⟨t, rfl⟩ := rx
  obtain ⟨t', rfl⟩ := ry
  exact rule i j t t' s _ _ ⟨.bl (g i j), H, I, rfl, q⟩

def CDiv (i j : Int) : Prop := 0 < j ∧ j < 1073741824
def CDivN (i j : Int) : Prop := j ≠ 0 ∧ j.natAbs < 1073741824
def CPow (i j : Int) : Prop := 0 ≤ j ∧ j ≤ 1000000 ∧ i.natAbs < 2 ^ 64
def CMul (i j : Int) : Prop := (-(2 ^ 64) < i ∧ i < 2 ^ 64) ∨ (-(2 ^ 64) < j ∧ j < 2 ^ 64)
theorem CMul.ok {i j : Int} (h : CMul i j) : IntMulOk i j := by
  rcases h with ⟨h1, h2⟩ | ⟨h1, h2⟩
  · exact .of_left (intBits_le_64 h1 h2)
  · exact .of_right (intBits_le_64 h1 h2)
theorem op_add : OpR X (binaryOp .Add) (rI0 fun i j => .int (i + j)) := opI0 fun _ _ _ _ _ _ _ q => add_int q
theorem op_sub : OpR X (binaryOp .Sub) (rI0 fun i j => .int (i - j)) := opI0 fun _ _ _ _ _ _ _ q => sub_int q
theorem op_mul : OpR X (binaryOp .Mult) (rI CMul fun i j => .int (i * j)) := opI fun _ _ _ _ _ _ _ hc q => mul_int q hc.ok
/-- // by a positive divisor -/
theorem op_fdiv : OpR X (binaryOp .FloorDiv) (rI CDiv fun i j => .int (i / j)) := opI fun i j _ _ _ _ _ hc q => by
  have h1 : (0 : Int) < j := hc.1
  have h2 : j < 1073741824 := hc.2
  exact floordiv_int (by omega) (by rw [Int.fdiv_eq_ediv_of_nonneg i (by omega)]; exact q) (.inl (PyProof.noPylong_small (by omega)))
/-- % by a positive divisor of any size -/
theorem op_mod : OpR X (binaryOp .Mod) (rI (fun _ j => 0 < j) fun i j => .int (i % j)) := opI fun i j _ _ _ _ _ hc q => by
  have h1 : (0 : Int) < j := hc
  exact mod_int' (by omega) (by rw [Int.fmod_eq_emod_of_nonneg i (by omega)]; exact q)
theorem op_modN : OpR X (binaryOp .Mod) (rI (fun _ j => j ≠ 0) fun i j => .int (i.fmod j)) := opI fun _ _ _ _ _ _ _ hc q => mod_int' hc q
theorem op_pow : OpR X (binaryOp .Pow) (rI CPow fun i j => .int (i ^ j.toNat)) := opI fun _ _ _ _ _ _ _ hc q => pow_int_small hc.1 hc.2.1 hc.2.2 q
theorem unI {f : Value → Sem Value} {g : Int → Int}
    (rule : ∀ (i : Int) (t : Tok) (s : Shared) (Q : Value → Shared → Prop) (E : Value → Shared → Prop), Q (.int (g i) s.toks) { s with toks := s.toks + 1 } → wpAny (model X.prog X.w) X.A (f (.int i t)) Q E s) :
    UnR X f (rU fun i => .int (g i)) := by
  intro pins s σ H x v Q I rx h
  obtain ⟨i, rfl, q⟩ := h
  obtain ⟨t, rfl⟩ := rx
  exact rule i t s _ _ ⟨.int (g i), H, I.tok _, ⟨_, rfl⟩, q⟩
theorem un_neg : UnR X (unaryOp .USub) (rU fun i => .int (-i)) := unI fun _ _ _ _ _ q => neg_int q
/-! ### bools among ints: n += (a < b) -/
end

/-! ### comparisons -/
/-- the scalars that == tells apart as data does -/
def scal : V → V → Bool
  | .non, .non => true | .non, .int _ => true | .int _, .non => true | .non, .bl _ => true | .bl _, .non => true | .non, .str _ => true | .str _, .non => true
  | .int _, .int _ => true | .bl _, .bl _ => true | .str _, .str _ => true | .byt _, .byt _ => true
  | .int _, .str _ => true | .str _, .int _ => true | .bl _, .str _ => true | .str _, .bl _ => true
  | _, _ => false
def rEq : R2 := fun x y H Q => scal x y = true ∧ Q (.bl (decide (x = y))) H
def rNe : R2 := fun x y H Q => scal x y = true ∧ Q (.bl (!decide (x = y))) H

theorem dec_int {i j : Int} : decide (V.int i = V.int j) = (i == j) := by
  rw [Bool.eq_iff_iff]
  simp
theorem dec_bl {i j : Bool} : decide (V.bl i = V.bl j) = (i == j) := by
  rw [Bool.eq_iff_iff]
  simp
theorem dec_str {i j : Str} : decide (V.str i = V.str j) = (i == j) := by
  rw [Bool.eq_iff_iff]
  simp
theorem dec_byt {i j : Array UInt8} : decide (V.byt i = V.byt j) = (i.toList == j.toList) := by
  rw [Bool.eq_iff_iff]
  cases i
  cases j
  simp

section
variable {X : Cx} {a b c : Expr} {ta tb tc : TE} {pos : Pos}
theorem fin_bl {pins : List (Addr × Obj)} {σ : St} {H : Hp} {s : Shared} {Q : VK} {k k' : Bool} (I : Inv X pins σ H s) (q : Q (.bl k) H) (e : k = k') : EP X pins σ Q (.bool k') s := by
  subst e
  exact ⟨.bl k, H, I, rfl, q⟩
theorem op_eq : OpR X (compareOp .Eq) rEq := by
  intro pins s σ H x y v u Q I rx ry h
  obtain ⟨hs, q⟩ := h
  cases x with
  | non =>
    cases rx
    cases y with
    | non => cases ry; exact PySem.EqNone.eq_none_none (fin_bl I q (by simp))
    | bl j => cases ry; exact PySem.EqNone.eq_none_bool (fin_bl I q (by simp))
    | int j => obtain ⟨t', rfl⟩ := ry; exact PySem.EqNone.eq_none_int (fin_bl I q (by simp))
    | str j => obtain ⟨t', rfl⟩ := ry; exact PySem.EqNone.eq_none_str (fin_bl I q (by simp))
    | _ => exact absurd (show false = true from hs) Bool.false_ne_true
  | bl i =>
    cases rx
    cases y with
    | non => cases ry; exact PySem.EqNone.eq_bool_none (fin_bl I q (by simp))
    | bl j => cases ry; exact eq_bool (fin_bl I q dec_bl)
    | str j => obtain ⟨t', rfl⟩ := ry; exact PySem.EqMixed.eq_bool_str (fin_bl I q (by simp))
    | _ => exact absurd (show false = true from hs) Bool.false_ne_true
  | int i =>
    obtain ⟨t, rfl⟩ := rx
    cases y with
    | non => cases ry; exact PySem.EqNone.eq_int_none (fin_bl I q (by simp))
    | int j => obtain ⟨t', rfl⟩ := ry; exact eq_int (fin_bl I q dec_int)
    | str j => obtain ⟨t', rfl⟩ := ry; exact PySem.EqMixed.eq_int_str (fin_bl I q (by simp))
    | _ => exact absurd (show false = true from hs) Bool.false_ne_true
  | str i =>
    obtain ⟨t, rfl⟩ := rx
    cases y with
    | non => cases ry; exact PySem.EqNone.eq_str_none (fin_bl I q (by simp))
    | bl j => cases ry; exact PySem.EqMixed.eq_str_bool (fin_bl I q (by simp))
    | int j => obtain ⟨t', rfl⟩ := ry; exact PySem.EqMixed.eq_str_int (fin_bl I q (by simp))
    | str j => obtain ⟨t', rfl⟩ := ry; exact eq_str (fin_bl I q dec_str)
    | _ => exact absurd (show false = true from hs) Bool.false_ne_true
  | byt i =>
    obtain ⟨t, rfl⟩ := rx
    cases y with
    | byt j => obtain ⟨t', rfl⟩ := ry; exact PySem.W.eq_bytes (fin_bl I q dec_byt)
    | _ => exact absurd (show false = true from hs) Bool.false_ne_true
  | _ => cases y <;> exact absurd (show false = true from hs) Bool.false_ne_true
theorem op_ne : OpR X (compareOp .NotEq) rNe := by
  intro pins s σ H x y v u Q I rx ry h
  obtain ⟨hs, q⟩ := h
  cases x with
  | non =>
    cases rx
    cases y with
    | non => cases ry; exact PySem.EqNone.ne_none_none (fin_bl I q (by simp))
    | bl j => cases ry; exact PySem.EqNone.ne_none_bool (fin_bl I q (by simp))
    | int j => obtain ⟨t', rfl⟩ := ry; exact PySem.EqNone.ne_none_int (fin_bl I q (by simp))
    | str j => obtain ⟨t', rfl⟩ := ry; exact PySem.EqNone.ne_none_str (fin_bl I q (by simp))
    | _ => exact absurd (show false = true from hs) Bool.false_ne_true
  | bl i =>
    cases rx
    cases y with
    | non => cases ry; exact PySem.EqNone.ne_bool_none (fin_bl I q (by simp))
    | bl j => cases ry; exact ne_bool (fin_bl I q (congrArg not dec_bl))
    | str j => obtain ⟨t', rfl⟩ := ry; exact PySem.EqMixed.ne_bool_str (fin_bl I q (by simp))
    | _ => exact absurd (show false = true from hs) Bool.false_ne_true
  | int i =>
    obtain ⟨t, rfl⟩ := rx
    cases y with
    | non => cases ry; exact PySem.EqNone.ne_int_none (fin_bl I q (by simp))
    | int j => obtain ⟨t', rfl⟩ := ry; exact ne_int (fin_bl I q (congrArg not dec_int))
    | str j => obtain ⟨t', rfl⟩ := ry; exact PySem.EqMixed.ne_int_str (fin_bl I q (by simp))
    | _ => exact absurd (show false = true from hs) Bool.false_ne_true
  | str i =>
    obtain ⟨t, rfl⟩ := rx
    cases y with
    | non => cases ry; exact PySem.EqNone.ne_str_none (fin_bl I q (by simp))
    | bl j => cases ry; exact PySem.EqMixed.ne_str_bool (fin_bl I q (by simp))
    | int j => obtain ⟨t', rfl⟩ := ry; exact PySem.EqMixed.ne_str_int (fin_bl I q (by simp))
    | str j => obtain ⟨t', rfl⟩ := ry; exact ne_str (fin_bl I q (congrArg not dec_str))
    | _ => exact absurd (show false = true from hs) Bool.false_ne_true
  | byt i =>
    obtain ⟨t, rfl⟩ := rx
    cases y with
    | byt j => obtain ⟨t', rfl⟩ := ry; exact PySem.W.ne_bytes (fin_bl I q (congrArg not dec_byt))
    | _ => exact absurd (show false = true from hs) Bool.false_ne_true
  | _ => cases y <;> exact absurd (show false = true from hs) Bool.false_ne_true

theorem op_lt : OpR X (compareOp .Lt) (rI0 fun i j => .bl (decide (i < j))) := opB0 fun _ _ _ _ _ _ _ q => lt_int q
theorem op_gt : OpR X (compareOp .Gt) (rI0 fun i j => .bl (decide (j < i))) := opB0 fun _ _ _ _ _ _ _ q => gt_int q
/-- is, is not of two objects that are tracked lists or instances -/
def isObj : HO → Bool
  | .lst _ => true
  | .ins _ _ _ => true
  | _ => false
theorem nomark (b : Expr) {op : CmpOp} (h : op ≠ .In := by decide) (h2 : op ≠ .NotIn := by decide) : behindInMarks op b = false := by
  have e1 : (op == CmpOp.In) = false := by cases op <;> first | rfl | exact absurd rfl h
  have e2 : (op == CmpOp.NotIn) = false := by cases op <;> first | rfl | exact absurd rfl h2
  cases b <;> simp [behindInMarks, e1, e2]
/-- a comparison as a value; hm: nomark b, or (for in, not in) by with_unfolding_all rfl -/
theorem pe_cmpR {op : CmpOp} {r : R2} (ho : OpR X (compareOp op) r) (ha : PE X a ta) (hb : PE X b tb) (hm : behindInMarks op b = false) : PE X (.Compare a [op] [b] pos) (tOp r ta tb) := by
  intro pins s σ H Q I h
  exact wpAny_Compare1 (binT ha hb I h fun v u s2 x y H2 I2 rx ry q => ho pins s2 σ H2 x y v u Q I2 rx ry q) hm
/-- a reading of a value as a test -/
def tTest (t : TE) : TT := fun σ H Q => t σ H fun x H' => ∃ k, x = .bl k ∧ Q k H'
theorem pt_cmpR {op : CmpOp} {r : R2} (ho : OpR X (compareOp op) r) (ha : PE X a ta) (hb : PE X b tb) (hm : behindInMarks op b = false) : PT X (.Compare a [op] [b] pos) (tTest (tOp r ta tb)) := by
  intro pins s σ H Q I h
  refine wpAny_isTrue_Compare1 (thn (ha pins s σ H _ I h) fun v s1 ⟨x, H1, I1, r1, q1⟩ => thn (hb pins s1 σ H1 _ I1 q1) fun u s2 ⟨y, H2, I2, r2, q2⟩ =>
    thn (ho pins s2 σ H2 x y v u _ I2 r1 r2 q2) fun c s3 ⟨z, H3, I3, r3, k, e, q3⟩ => ?_) hm
  subst e
  cases r3
  exact wpAny_truthy_bool ⟨H3, I3, q3⟩
/-- a op1 b op2 c -/
def tChain (r r' : R2) (ta tb tc : TE) : TE := fun σ H Q => ta σ H fun x H1 => tb σ H1 fun y H2 => r x y H2 fun z H3 => ∃ k, z = .bl k ∧
  (if k = true then tc σ H3 fun w' H4 => r' y w' H4 Q else Q (.bl false) H3)
/-! ### truth -/
/-- a value's truth by the abstract heap -/
def TruV (K : PySem.W.Frag) (x : V) (H : Hp) (k : Bool) : Prop :=
  match x with
  | .non => k = false
  | .bl b => k = b
  | .int i => k = (i != 0)
  | .str y => y.length ≤ sizeLine ∧ k = ((y.length : Int) != 0)
  | .byt y => y.size ≤ sizeLine ∧ k = ((y.size : Int) != 0)
  | .ref p => (∃ xs, SqL K H p xs ∧ k = !xs.isEmpty) ∨ (∃ xs, SqT K H p xs ∧ k = !xs.isEmpty) ∨ ∃ kvs, H p = some (.dK kvs) ∧ k = !kvs.isEmpty
  | _ => False
theorem line63 : (sizeLine : Nat) < 2 ^ 63 := by rw [sizeLine_eq]; decide
/-! ### strs and bytes -/
def PlainIxT (b : Expr) : Prop := ∀ o i, subscripted b false o i = operate [o, i] (getItem o i)
/-! ### scalar builtins, by CallR -/
theorem vals1 {x : V} {us : List Value} (r : Vals [x] us) : ∃ u, us = [u] ∧ RelV x u := by
  cases r with
  | cons r1 r2 => cases r2; exact ⟨_, rfl, r1⟩
theorem vals2 {x y : V} {us : List Value} (r : Vals [x, y] us) : ∃ u w', us = [u, w'] ∧ RelV x u ∧ RelV y w' := by
  cases r with
  | cons r1 r2 =>
    cases r2 with
    | cons r3 r4 => cases r4; exact ⟨_, _, rfl, r1, r3⟩
theorem call_abs : CallR X (.builtin "abs") (fun xs H Q => ∃ i, xs = [.int i] ∧ Q (.int (if i < 0 then -i else i)) H) := by
  intro pins s σ H xs us Q I r h
  obtain ⟨i, rfl, q⟩ := h
  obtain ⟨u, rfl, t, rfl⟩ := vals1 r
  exact call_abs_int fun u tk => ⟨.int (if i < 0 then -i else i), H, I.tok _, ⟨_, rfl⟩, q⟩
/-- len of a str, a bytes, a list, a tuple -/
def LenV (K : PySem.W.Frag) (x : V) (H : Hp) (n : Nat) : Prop :=
  match x with
  | .str y => y.length ≤ sizeLine ∧ n = y.length
  | .byt y => y.size ≤ sizeLine ∧ n = y.size
  | .ref p => (∃ xs, SqL K H p xs ∧ n = xs.length) ∨ ∃ xs, SqT K H p xs ∧ n = xs.length
  | _ => False
end
end L2

namespace L2
open PySem PySem.Spec PyProof.Rows

/-! ### an instance, its attributes a map -/
structure ObjM (h : Heap) (x dx C : Addr) (mA : Str → Option Value) : Prop where
  obj : h.get? x = some (PySem.W.instObj C dx)
  ns : h.Ns1 dx mA
  ne : dx ≠ x

theorem lookIn_ns {h : Heap} {dx : Addr} {mA : Str → Option Value} (n : h.Ns1 dx mA) : ∃ od, h.get? dx = some od ∧ ∀ name, PySem.W.lookIn name od = some (mA name) := by
  obtain ⟨o, es, ep, ho, hd, hk, _, hm⟩ := n
  refine ⟨o, ho, fun name => ?_⟩
  have e := hm name
  unfold nsFind findBy at e
  rw [← Array.find?_toList] at e
  unfold PySem.W.lookIn
  rw [hd]
  dsimp only
  split
  · rename_i y q
    rw [q] at e
    exact congrArg some e
  · rename_i q
    rw [q] at e
    have a : es.toList.any (·.refKey) = false := by
      rw [List.any_eq_false]
      intro y hy
      obtain ⟨z, t, hkey⟩ := hk y (Array.mem_toList_iff.mp hy)
      simp [DictEntry.refKey, hkey]
    have a' : ¬ es.toList.any (·.refKey) = true := by rw [a]; exact Bool.false_ne_true
    rw [if_neg a']
    exact congrArg some e

theorem ObjM.look {h : Heap} {x dx C : Addr} {mA : Str → Option Value} (I : ObjM h x dx C mA) : ∃ od, PySem.W.InstAt h x (PySem.W.instObj C dx) C (some od) ∧ ∀ name, PySem.W.lookIn name od = some (mA name) :=
  let ⟨od, ho, hl⟩ := lookIn_ns I.ns
  ⟨od, ⟨I.obj, rfl, rfl, ho⟩, hl⟩

section
variable {prog : Program} {w : World} {A : Around} {E : Value → Shared → Prop} {s : Shared} {K : PySem.W.Frag} {x dx C f : Addr} {mA : Str → Option Value} {name : Str} {v : Value}

end

/-! ### the attributes as a list of pairs -/
def putF (f : Str) (v : V) : List (Str × V) → List (Str × V)
  | [] => [(f, v)]
  | (g, x) :: r => if g = f then (g, v) :: r else (g, x) :: putF f v r
section
variable {P : Program} {w : World} {H H' : Hp} {h h' : Heap} {a C dx : Addr} {fs fs' : List (Str × V)}
theorem ins_get (hok : HOk P w H h) (e : H a = some (.ins C dx fs)) : ∃ mA, ObjM h a dx C mA ∧ (∀ f, RelO (fs.lookup f) (mA f)) ∧ PySem.Within mA (fs.map (·.1)) ∧ fs.length ≤ 1000 ∧ H dx = some (.own a) := by
  obtain ⟨d, z, ne, ob, mA, n, r, q⟩ := (show ObjOk P w H h a (.ins C dx fs) from hok a _ e)
  exact ⟨mA, ⟨ob, n, ne⟩, r, q, z, d⟩
end

/-! ### what of the text a class must have -/
structure Cls (K : PySem.W.Frag) (C : Addr) : Prop where
  pg : PySem.W.plainGet K C Str.empty = true
  hd : PySem.W.hasDictIn K C = true
  po : PySem.W.plainOver K C = true
  sa : PySem.W.findIn K (.ref C) "__setattr__" = some (some (.builtin "object.__setattr__"))
theorem Cls.get {K : PySem.W.Frag} {C : Addr} (c : Cls K C) (f : Str) : PySem.W.plainGet K C f = true := c.pg
/-- no class of it has the name -/
def NoAttr (K : PySem.W.Frag) (C : Addr) (f : Str) : Prop := PySem.W.findIn K (.ref C) f = some none
/-- a constant of the class -/
structure Con (K : PySem.W.Frag) (C : Addr) (f : Str) (v : V) (u : Value) : Prop where
  at_ : PySem.W.findIn K (.ref C) f = some (some u)
  rel : RelV v u
  get : PySem.W.specialIn K u "__get__" = some none
  cp : PySem.W.copiedNames.contains f = false
/-- a method: a plain def of the class or of one above it -/
structure Meth (K : PySem.W.Frag) (C : Addr) (m : Str) (f : Addr) : Prop where
  at_ : PySem.W.findIn K (.ref C) m = some (some (.ref f))
  fn : PySem.W.isFn K (.ref f) = true
  kp : PySem.W.keepIn K (.ref f) = true

section
variable {X : Cx} {pins : List (Addr × Obj)} {σ : St} {H : Hp} {s : Shared} {a C dx : Addr} {fs : List (Str × V)} {f : Str} {v : V} {A : Around} {E : Value → Shared → Prop}

end

/-! ### readings and rules -/
/-- e.f, an attribute of the instance -/
def tFld (K : PySem.W.Frag) (ta : TE) (f : Str) : TE := fun σ H Q => ta σ H fun x H1 => ∃ a C dx fs v, x = .ref a ∧ H1 a = some (.ins C dx fs) ∧ Cls K C ∧ NoAttr K C f ∧ fs.lookup f = some v ∧ Q v H1
/-- e.f, a constant of the class -/
def tCon (K : PySem.W.Frag) (ta : TE) (f : Str) : TE := fun σ H Q => ta σ H fun x H1 => ∃ a C dx fs v u, x = .ref a ∧ H1 a = some (.ins C dx fs) ∧ Cls K C ∧ Con K C f v u ∧ fs.lookup f = none ∧ Q v H1
/-- e.f = value -/
def sFld (K : PySem.W.Frag) (ta tv : TE) (f : Str) : TS := fun D σ H => tv σ H fun y H1 => ta σ H1 fun x H2 => ∃ a C dx fs, x = .ref a ∧ H2 a = some (.ins C dx fs) ∧ Cls K C ∧ NoAttr K C f ∧ fs.length < 1000 ∧
  D.nx σ (upd H2 a (.ins C dx (putF f y fs)))
/-- an augmented operator on two values -/
def InOp (X : Cx) (op : Operator) (rd : V → V → Hp → VK → Prop) : Prop :=
  ∀ (pins : List (Addr × Obj)) (s : Shared) (σ : St) (H : Hp) (x y : V) (u v : Value) (Q : VK), Inv X pins σ H s → RelV x u → RelV y v → rd x y H Q → wpAny (model X.prog X.w) X.A (inplaceOp op u v) (EP X pins σ Q) X.xe s
/-- e.f op= value -/
def sFldAug (K : PySem.W.Frag) (ta tv : TE) (rd : V → V → Hp → VK → Prop) (f : Str) : TS := fun D σ H => ta σ H fun x H1 => ∃ a C dx fs v, x = .ref a ∧ H1 a = some (.ins C dx fs) ∧ Cls K C ∧ NoAttr K C f ∧ fs.lookup f = some v ∧
  tv σ H1 fun y H2 => rd v y H2 fun z H3 => ∃ dx' fs', H3 a = some (.ins C dx' fs') ∧ fs'.length < 1000 ∧ D.nx σ (upd H3 a (.ins C dx' (putF f z fs')))

section
variable {X : Cx} {o e value : Expr} {f : Str} {pos pos' tpos : Pos} {ta tv : TE}
def rAdd : V → V → Hp → VK → Prop := fun x y H Q => ∃ i j, x = .int i ∧ y = .int j ∧ Q (.int (i + j)) H
def rSub : V → V → Hp → VK → Prop := fun x y H Q => ∃ i j, x = .int i ∧ y = .int j ∧ Q (.int (i - j)) H
end

/-! ### isinstance -/
section
variable {X : Cx} {pins : List (Addr × Obj)} {σ : St} {H : Hp} {s : Shared} {A : Around} {E : Value → Shared → Prop} {Q : Value → Shared → Prop} {c : Value} {b : Bool}
/-- the type of a value, as the fragment's deciders take it; for an instance its class -/
inductive TyOf (K : PySem.W.Frag) (H : Hp) : V → Value → Prop where
  | non : TyOf K H .non (.type "NoneType")
  | bl (x : Bool) : TyOf K H (.bl x) (.type "bool")
  | int (i : Int) : TyOf K H (.int i) (.type "int")
  | str (x : Str) : TyOf K H (.str x) (.type "str")
  | flt (x : UInt64) : TyOf K H (.flt x) (.type "float")
  | lst {a : Addr} {xs : List V} (e : H a = some (.lst xs)) : TyOf K H (.ref a) (.type "list")
  | frz {a : Addr} {o : Obj} {xs : List V} (e : H a = some (.frz o (.lst xs))) : TyOf K H (.ref a) (.type "list")
  | tup {a : Addr} {xs : List V} (e : H a = some (.tup xs)) : TyOf K H (.ref a) (.type "tuple")
  | dK {a : Addr} {kvs : List (Key × V)} (e : H a = some (.dK kvs)) : TyOf K H (.ref a) (.type "dict")
  | dT {a : Addr} {kvs : List (List Key × V)} (e : H a = some (.dT kvs)) : TyOf K H (.ref a) (.type "dict")
  | ins {a C dx : Addr} {fs : List (Str × V)} (e : H a = some (.ins C dx fs)) (cl : Cls K C) (ha : PySem.W.findIn K (.ref C) "__class__" = some (some (.builtin "object.__class__")))
      (hn : PySem.W.specialIn K (.builtin "object.__class__") "__get__" = some (some (.builtin "getset_descriptor.__get__"))) (htk : PySem.W.takesIn K (.builtin "object.__class__") = some true)
      (hm : PySem.W.mroIn K C (.type "object") = some true) : TyOf K H (.ref a) (.ref C)
/-- isinstance(x, c) for one class c, a built-in or an own one: kitOne's answer -/
theorem isinst_ok {x : V} {u t : Value} (I : Inv X pins σ H s) (rx : RelV x u) (ty : TyOf X.K H x t) (e : PySem.W.kitOne X.K t c = some b) (h : ∀ tk, Q (.bool b) { s with toks := tk }) :
    wpAny (model X.prog X.w) A (call (.builtin "isinstance") [u, c]) Q E s := by
  cases ty with
  | non => cases (show u = Value.none from rx); exact PySem.W.kia_one PySem.W.kitx_none I.kIn True.intro e (fun z => nomatch z) h
  | bl y => cases (show u = Value.bool y from rx); exact PySem.W.kia_one PySem.W.kitx_bool I.kIn True.intro e (fun z => nomatch z) h
  | int i => obtain ⟨t, q⟩ := (show ∃ t, u = Value.int i t from rx); cases q; exact PySem.W.kia_one PySem.W.kitx_int I.kIn True.intro e (fun z => nomatch z) h
  | str y => obtain ⟨t, q⟩ := (show ∃ t, u = Value.str y t from rx); cases q; exact PySem.W.kia_one PySem.W.kitx_str I.kIn True.intro e (fun z => nomatch z) h
  | flt y => obtain ⟨t, q⟩ := (show ∃ t, u = Value.float y t from rx); cases q; exact PySem.W.kia_one PySem.W.kitx_float I.kIn True.intro e (fun z => nomatch z) h
  | @lst a xs ea =>
    cases (show u = Value.ref a from rx)
    obtain ⟨_, _, n, _, h1⟩ := (show ObjOk X.prog X.w H s.heap a (.lst xs) from I.hok a _ ea)
    exact PySem.W.kia_one PySem.W.kitx_list I.kIn ⟨_, h1, rfl⟩ e (fun z => nomatch z) h
  | @frz a ob xs ea =>
    cases (show u = Value.ref a from rx)
    obtain ⟨_, _, _, n, _, h1⟩ := (show ObjOk X.prog X.w H s.heap a (.frz ob (.lst xs)) from I.hok a _ ea)
    exact PySem.W.kia_one PySem.W.kitx_list I.kIn ⟨_, h1, rfl⟩ e (fun z => nomatch z) h
  | @tup a xs ea =>
    cases (show u = Value.ref a from rx)
    obtain ⟨_, _, _, p⟩ := (show ObjOk X.prog X.w H s.heap a (.tup xs) from I.hok a _ ea)
    obtain ⟨o, h1, h2, _⟩ := p
    exact PySem.W.kia_one PySem.W.kitx_tuple I.kIn ⟨o, h1, h2⟩ e (fun z => nomatch z) h
  | @dK a kvs ea =>
    cases (show u = Value.ref a from rx)
    obtain ⟨_, _, vs, _, p⟩ := (show ObjOk X.prog X.w H s.heap a (.dK kvs) from I.hok a _ ea)
    obtain ⟨o, es, ep, h1, h2, _⟩ := p
    exact PySem.W.kia_one PySem.W.kitx_dict I.kIn ⟨o, h1, h2.1⟩ e (fun z => nomatch z) h
  | @dT a kvs ea =>
    cases (show u = Value.ref a from rx)
    obtain ⟨_, _, xs, _, o, es, ep, h1, h2, _⟩ := (show ObjOk X.prog X.w H s.heap a (.dT kvs) from I.hok a _ ea)
    exact PySem.W.kia_one PySem.W.kitx_dict I.kIn ⟨o, h1, h2.1⟩ e (fun z => nomatch z) h
  | @ins a C dx fs ea cl ha hn htk hm =>
    cases (show u = Value.ref a from rx)
    obtain ⟨mA, O, _⟩ := ins_get I.hok ea
    obtain ⟨od, J, _⟩ := O.look
    exact PySem.W.kia_one (PySem.W.kitx_own (cl.get _) cl.hd ha hn htk hm) I.kIn J e (fun z => nomatch z) h
end
end L2

namespace L2
open PySem PySem.Spec PyProof.Rows

/-! ### room -/
structure Room (k : Nat) (A : Around) : Prop where
  hd : A.handled = none
  dp : A.depth + 3 * k + 5 < recursionLimit
  un : A.units + 16 * k + 200 < cLine
theorem Room.mono {j k : Nat} {A : Around} (r : Room k A) (h : j ≤ k) : Room j A := ⟨r.hd, by have := r.dp; omega, by have := r.un; omega⟩
theorem Room.deeper {k : Nat} {A : Around} (r : Room (k + 1) A) (env : Env) : Room k (A.deeper env) :=
  ⟨r.hd, by have := r.dp; show A.depth + 1 + 3 * k + 5 < _; omega, by have := r.un; show A.units + 3 + 16 * k + 200 < _; omega⟩
theorem Room.depth {k : Nat} {A : Around} (r : Room k A) : A.depth < recursionLimit := by have := r.dp; omega
theorem Room.units {k : Nat} {A : Around} (r : Room k A) : A.units + 64 < cLine := by have := r.un; omega
/-! ### argument lists and displays -/
def tNil : TA := fun _ H Q => Q [] H
def tCons (ta : TE) (tr : TA) : TA := fun σ H Q => ta σ H fun x H1 => tr σ H1 fun xs H2 => Q (x :: xs) H2
section
variable {X : Cx} {e : Expr} {es : List Expr} {te : TE} {t : TA} {pos : Pos}
theorem pa_nil : PA X [] tNil := fun _ _ _ _ H Q I h => Calls.spliced_nil ⟨[], H, I, .nil, h⟩
theorem pa_cons (ha : PE X e te) (hr : PA X es t) (hs : starEach (e :: es) X.env = (false, eval e X.env) :: starEach es X.env := by rfl) : PA X (e :: es) (tCons te t) := by
  intro pos pins s σ H Q I h
  rw [hs]
  show wpAny _ _ (spliced ((false, eval e X.env) :: backTo pos (starEach es X.env))) _ _ s
  refine Calls.spliced_cons (thn (ha pins s σ H _ I h) fun u s1 ⟨x, H1, I1, r1, q1⟩ => ?_)
  exact thn (hr pos pins s1 σ H1 _ I1 q1) fun us s2 ⟨xs, H2, I2, r2, q2⟩ => ⟨x :: xs, H2, I2, .cons r1 r2, q2⟩

/-- a tuple, a list of written items -/
def tTup (t : TA) : TE := fun σ H Q => t σ H fun xs H1 => xs.length ≤ sizeLine ∧ ∀ p, H1 p = none → Q (.ref p) (upd H1 p (.tup xs))
def tLst (t : TA) : TE := fun σ H Q => t σ H fun xs H1 => xs.length ≤ sizeLine ∧ ∀ p, H1 p = none → Q (.ref p) (upd H1 p (.lst xs))
theorem pe_tup {x1} (h : PA X es t) : PE X (.Tuple es x1 pos) (tTup t) := by
  intro pins s σ H Q I hq
  refine wpAny_Tuple_spliced (thn (h pos pins s σ H _ I hq) fun us s1 ⟨xs, H1, I1, r, z, q⟩ => ⟨by rw [← r.length]; exact z, ?_⟩)
  have hf : H1 s1.heap.objs.size = none := I1.hok.fresh (Nat.le_refl _)
  refine ⟨.ref s1.heap.objs.size, upd H1 s1.heap.objs.size (.tup xs), I1.laid (t' := s1.toks) (fun b u e => Heap.get?_push_of_some _ e) (Nat.le_refl _) ?_, rfl, q _ hf⟩
  exact ⟨z, us, r, ⟨_, Heap.get?_push_size _ rfl, rfl, _, rfl⟩⟩
theorem pe_lst (h : PA X es t) : PE X (.List es pos) (tLst t) := by
  intro pins s σ H Q I hq
  refine wpAny_List_spliced (thn (h pos pins s σ H _ I hq) fun us s1 ⟨xs, H1, I1, r, z, q⟩ => ⟨by rw [← r.length]; exact z, ?_⟩)
  have hf : H1 s1.heap.objs.size = none := I1.hok.fresh (Nat.le_refl _)
  refine ⟨.ref s1.heap.objs.size, upd H1 s1.heap.objs.size (.lst xs), I1.laid (t' := s1.toks) (fun b u e => Heap.get?_push_of_some _ e) (Nat.le_refl _) ?_, rfl, q _ hf⟩
  exact ⟨z, us, 0, r, Heap.get?_push_size _ rfl⟩
end

/-! ### what a def promises -/
/-- a def's promise: the bound arguments in the parameters' order, the heap, the wanted end, the wanted exception -/
abbrev Sp := List V → Hp → VK → XK → Prop
/-- how an exception lies behind a call (file 08 gives it): the callers' frames, abstract heap and state ahead of the call, the wish, the exception, the state -/
abbrev CXT := List Env → Hp → Shared → XK → Value → Shared → Prop

/-- the state at a call -/
structure Env0 (P : Program) (w : World) (K : PySem.W.Frag) (mg : Str → Option Value) (base : Heap) (A : Around) (outer : List Env) (s : Shared) (H : Hp) : Prop where
  frames : A.frames = some outer
  mod : Mod K mg base
  bs : ∀ b o, base.get? b = some o → s.heap.get? b = some o ∧ H b = none
  bsz : base.objs.size ≤ s.heap.objs.size
  funs : s.heap.FunFrames base outer
  frf : ∀ b ∈ frs outer, H b = none
  hok : HOk P w H s.heap
  bare : AllBare s.gens
/-- a call's end -/
def CE (outer : List Env) (P : Program) (w : World) (H : Hp) (s : Shared) (Q : VK) (u : Value) (s' : Shared) : Prop :=
  ∃ v H', s'.os = s.os ∧ AllBare s'.gens ∧ Un (frs outer) [] H H' s.heap s'.heap ∧ HOk P w H' s'.heap ∧ RelV v u ∧ Q v H'
def CR (CX : CXT) (outer : List Env) (P : Program) (w : World) (H : Hp) (s : Shared) (Q : VK) (E : XK) (r : Result) (s' : Shared) : Prop :=
  match r with
  | .ok (.ret u) => CE outer P w H s Q u s'
  | .ok _ => False
  | .error e => CX outer H s E e s'
structure FnOk (P : Program) (w : World) (K : PySem.W.Frag) (mg : Str → Option Value) (base : Heap) (CX : CXT) (k : Nat) (f : Addr) (fd : FuncData) (ps : List Str) (sp : Sp) : Prop where
  len : ∀ vs H Q E, sp vs H Q E → vs.length = ps.length
  run : ∀ (A : Around) (outer : List Env) (s : Shared) (H : Hp) (args : Args) (us : List Value) (vs : List V) (Q : VK) (E : XK), Room k A → Env0 P w K mg base A outer s H → BindsTo s fd args (ps.zip us) → Vals vs us → sp vs H Q E →
    codeAny (model P w) A (.call (.ref f) args) (CR CX outer P w H s Q E) s
section
variable {X : Cx} {pins : List (Addr × Obj)} {σ : St} {H : Hp} {s s' : Shared}
/-- from a body: what a callee wants -/
theorem Inv.env0 (I : Inv X pins σ H s) : Env0 X.prog X.w X.K X.mg X.base X.A X.stack s H :=
  ⟨I.ok.frames, I.ok.mod, I.bs, Nat.le_trans I.ok.bsz I.sz, I.stack, I.stkFree, I.hok, I.bare⟩
/-- behind a call -/
theorem Inv.after {Q : VK} {u : Value} (I : Inv X pins σ H s) (h : CE X.stack X.prog X.w H s Q u s') : EP X pins σ Q u s' := by
  obtain ⟨v, H', os, bare, un, hok, r, q⟩ := h
  obtain ⟨hh, g, d, t, os'⟩ := s'
  obtain rfl : os' = s.os := os
  exact ⟨v, H', I.call (h' := hh) (g' := g) (d' := d) (t' := t) (ch := []) un hok bare (fun b z => absurd z (by simp)), r, q⟩
end

/-! ### calls -/
/-- f(..): the written arguments, then the defaults dvs; E: what is wanted of an exception -/
def tCall (sp : Sp) (dvs : List V) (E : XK) (t : TA) : TE := fun σ H Q => t σ H fun vs H1 => sp (vs ++ dvs) H1 Q E
/-- o.m(..) of an instance of the class at C -/
def tMeth (C : Addr) (m : Str) (sp : Sp) (dvs : List V) (E : XK) (ta : TE) (t : TA) : TE := fun σ H Q => ta σ H fun x H1 => ∃ a dx fs, x = .ref a ∧ H1 a = some (.ins C dx fs) ∧ fs.lookup m = none ∧
  t σ H1 fun vs H2 => sp (x :: (vs ++ dvs)) H2 Q E
/-- C(..): a new instance and its dict, then __init__ -/
def tMake (C : Addr) (sp : Sp) (dvs : List V) (E : XK) (t : TA) : TE := fun σ H Q => t σ H fun vs H1 => ∀ x dx, H1 x = none → H1 dx = none → dx ≠ x →
  sp (.ref x :: (vs ++ dvs)) (upd (upd H1 dx (.own x)) x (.ins C dx [])) (fun v H2 => v = .non ∧ Q (.ref x) H2) E

/-- how the parameters are bound: us the positional arguments, kw the keywords' values by name, ds the defaults that fill up -/
def Binds (K : PySem.W.Frag) (fd : FuncData) (ps : List Str) (ds : List Value) : Prop :=
  ∀ (s : Shared) (us : List Value), K.In s.heap → (us ++ ds).length = ps.length → BindsTo s fd ⟨us, []⟩ (ps.zip (us ++ ds))
/-- every parameter is given -/
theorem Binds.all {K : PySem.W.Frag} {fd : FuncData} {ps : List Str} (h : ∀ us : List Value, us.length = ps.length → bindArgs fd ⟨us, []⟩ = pure (ps.zip us)) : Binds K fd ps [] := fun s us _ hl => by
  rw [List.append_nil] at hl ⊢
  exact .of_eq (h us hl)

/-- an exception of a callee reaches what this body wants of exceptions -/
def Passes (CX : CXT) (X : Cx) (E : XK) : Prop := ∀ (pins : List (Addr × Obj)) (σ : St) (H : Hp) (s : Shared) (e : Value) (s' : Shared), Inv X pins σ H s → CX X.stack H s E e s' → X.xe e s'

section
variable {X : Cx} {CX : CXT} {k : Nat} {f C : Addr} {fd : FuncData} {ps : List Str} {sp : Sp} {dvs : List V} {ds : List Value} {E : XK} {x m : Str} {p pos apos : Pos} {e o : Expr} {es : List Expr} {ta : TE} {t : TA}

/-- the callee runs -/
theorem run_fn {pins : List (Addr × Obj)} {σ : St} {H : Hp} {s : Shared} {Q : VK} {us : List Value} {vs : List V} (F : FnOk X.prog X.w X.K X.mg X.base CX k f fd ps sp) (hr : Room k X.A) (hb : Binds X.K fd ps ds) (hd : Vals dvs ds) (hx : Passes CX X E)
    (I : Inv X pins σ H s) (r : Vals vs us) (h : sp (vs ++ dvs) H Q E) : wpAny (model X.prog X.w) X.A (call (.ref f) us) (EP X pins σ Q) X.xe s := by
  have r2 : Vals (vs ++ dvs) (us ++ ds) := r.append hd
  have hl : (us ++ ds).length = ps.length := by rw [← r2.length]; exact F.len _ _ _ _ h
  refine wpAny_call (codeAny_mono (F.run X.A X.stack s H ⟨us, []⟩ (us ++ ds) (vs ++ dvs) Q E hr I.env0 (hb s us I.kIn hl) r2 h) fun r s' hq => ?_)
  cases r with
  | error e => exact hx pins σ H s e s' I hq
  | ok fl =>
    cases fl with
    | ret u => exact I.after hq
    | next => exact False.elim hq
    | brk => exact False.elim hq
    | cont => exact False.elim hq

theorem pe_call (F : FnOk X.prog X.w X.K X.mg X.base CX k f fd ps sp) (hr : Room k X.A) (hg : Gl X x) (hm : X.mg x = some (.ref f)) (hk : PySem.W.keepIn X.K (.ref f) = true) (hb : Binds X.K fd ps ds) (hd : Vals dvs ds) (hx : Passes CX X E)
    (ha : PA X (e :: es) t) (hdb : (x == ("__debug__" : Str)) = false := by decide) (he : starEach (e :: es) X.env = (false, eval e X.env) :: starEach es X.env := by rfl) (hpl : (backTo pos (starEach es X.env)).any (·.1) = false := by rfl) :
    PE X (.Call (.Name x p) (e :: es) [] pos) (tCall sp dvs E t) := by
  intro pins s σ H Q I h
  refine wpAny_Call_Name_kw (ld_glob I hg hm ?_ hdb)
  refine PySem.W.callWith_K (h₀ := X.base) I.ok.mod.kin hk (thn (ha pos pins s σ H _ I h) fun us s1 ⟨vs, H1, I1, r, q⟩ => ⟨I1.kIn, ?_⟩) he hpl
  exact run_fn F hr hb hd hx I1 r q
/-- what a class must have to be made -/
structure Mk (K : PySem.W.Frag) (C f : Addr) : Prop where
  makes : PySem.W.makesIn K C = true
  init : PySem.W.findIn K (.ref C) "__init__" = some (some (.ref f))
  fn : PySem.W.isFn K (.ref f) = true
  kp : PySem.W.keepIn K (.ref C) = true

end

/-! ### keywords -/
/-- the values of the keywords, from the left -/
def PK (X : Cx) (kws : List Keyword) (t : TA) : Prop :=
  ∀ (pos : Pos) (pins : List (Addr × Obj)) (s : Shared) (σ : St) (H : Hp) (Q : List V → Hp → Prop), Inv X pins σ H s → t σ H Q → wpAny (model X.prog X.w) X.A (evalAll ((backToKw pos (keywordEach kws X.env)).map (·.2))) (AP X pins σ Q) X.xe s
section
variable {X : Cx} {CX : CXT} {k : Nat} {f C : Addr} {fd : FuncData} {ps ks : List Str} {sp : Sp} {E : XK} {x m : Str} {p pos apos kpos : Pos} {e o : Expr} {es : List Expr} {kws : List Keyword} {te ta : TE} {t tk : TA} {nm : Option Str}
/-- how a call with keywords binds: g puts the positional values us and the keywords' values ws (names ks) in the parameters' order, defaults among them -/
structure KBinds (K : PySem.W.Frag) (fd : FuncData) (ps ks : List Str) (g : List Value → List Value → List Value) (gV : List V → List V → List V) : Prop where
  to : ∀ (s : Shared) (us ws : List Value), K.In s.heap → (g us ws).length = ps.length → BindsTo s fd ⟨us, ks.zip ws⟩ (ps.zip (g us ws))
  rel : ∀ {vs : List V} {us : List Value} {zs : List V} {ws : List Value}, Vals vs us → Vals zs ws → Vals (gV vs zs) (g us ws)
def tCallK (sp : Sp) (gV : List V → List V → List V) (E : XK) (t tk : TA) : TE := fun σ H Q => t σ H fun vs H1 => tk σ H1 fun zs H2 => sp (gV vs zs) H2 Q E
variable {g : List Value → List Value → List Value} {gV : List V → List V → List V}
end

/-! ### a def's body keeps its promise -/
/-- names: the parameters first -/
structure FnScope (N P : List Str) (sc : Scope) : Prop where
  kind : sc.kind = .function
  co : sc.isCoroutine = false
  gen : sc.isGenerator = false
  nd : N.Nodup
  pre : N.take P.length = P
  par : ∀ x ∈ P, sc.names.lookup x = some .local ∨ sc.names.lookup x = some .cell
  nofree : ∀ y ∈ sc.names, y.2 ≠ .free

theorem bindL_out {kindOf : Str → Option NameKind} {x : Str} : ∀ {binds : List (Str × Value)} {m : Str → Option Value}, (∀ v, (x, v) ∉ binds) → bindL kindOf binds m x = m x
  | [], _, _ => rfl
  | (n, v) :: r, m, h => by
    unfold bindL
    rw [bindL_out fun w hw => h w (List.mem_cons_of_mem _ hw)]
    split
    · have : x ≠ n := by rintro rfl; exact h v List.mem_cons_self
      simp [this]
    · rfl
theorem bindC_out {kindOf : Str → Option NameKind} {x : Str} : ∀ {binds : List (Str × Value)} {m : Str → Option Value}, (∀ v, (x, v) ∉ binds) → bindC kindOf binds m x = m x
  | [], _, _ => rfl
  | (n, v) :: r, m, h => by
    unfold bindC
    rw [bindC_out fun w hw => h w (List.mem_cons_of_mem _ hw)]
    split
    · rfl
    · have : x ≠ n := by rintro rfl; exact h v List.mem_cons_self
      simp [this]
theorem bindL_get {kindOf : Str → Option NameKind} {x : Str} {v : Value} : ∀ {P : List Str} {vs : List Value} {i : Nat} {m : Str → Option Value}, P.Nodup → P[i]? = some x → vs[i]? = some v → kindOf x = some .local →
    bindL kindOf (P.zip vs) m x = some v
  | [], _, _, _, _, h, _, _ => by simp at h
  | _ :: _, [], _, _, _, _, h, _ => by simp at h
  | p :: P, w :: vs, 0, m, nd, h1, h2, hk => by
    simp at h1 h2; subst h1; subst h2
    show bindL kindOf ((p, w) :: P.zip vs) m p = _
    unfold bindL
    rw [bindL_out fun v hv => (List.nodup_cons.mp nd).1 (List.of_mem_zip hv).1, if_pos hk]
    simp
  | p :: P, w :: vs, i + 1, m, nd, h1, h2, hk => by
    show bindL kindOf ((p, w) :: P.zip vs) m x = _
    unfold bindL
    exact bindL_get (i := i) (List.nodup_cons.mp nd).2 (by simpa using h1) (by simpa using h2) hk
theorem bindC_get {kindOf : Str → Option NameKind} {x : Str} {v : Value} : ∀ {P : List Str} {vs : List Value} {i : Nat} {m : Str → Option Value}, P.Nodup → P[i]? = some x → vs[i]? = some v → kindOf x ≠ some .local →
    bindC kindOf (P.zip vs) m x = some v
  | [], _, _, _, _, h, _, _ => by simp at h
  | _ :: _, [], _, _, _, _, h, _ => by simp at h
  | p :: P, w :: vs, 0, m, nd, h1, h2, hk => by
    simp at h1 h2; subst h1; subst h2
    show bindC kindOf ((p, w) :: P.zip vs) m p = _
    unfold bindC
    rw [bindC_out fun v hv => (List.nodup_cons.mp nd).1 (List.of_mem_zip hv).1, if_neg hk]
    simp
  | p :: P, w :: vs, i + 1, m, nd, h1, h2, hk => by
    show bindC kindOf ((p, w) :: P.zip vs) m x = _
    unfold bindC
    exact bindC_get (i := i) (List.nodup_cons.mp nd).2 (by simpa using h1) (by simpa using h2) hk

/-- the names' values at the entry -/
def start (N : List Str) (vs : List V) : St := vs.map some ++ List.replicate (N.length - vs.length) none

/-- the context of a def's body, at its entry; an exception leaves the frame, then lies as CX says -/
def cxOf (CX : CXT) (P : Program) (w : World) (K : PySem.W.Frag) (mg : Str → Option Value) (base : Heap) (N : List Str) (qual : Str) (scope : Scope) (f : Addr) (cd : Value) (A : Around) (outer : List Env) (s : Shared) (H : Hp) (E : XK) : Cx where
  prog := P
  w := w
  K := K
  mg := mg
  base := base
  A := A.deeper (envOfC qual scope s.heap.objs.size f cd)
  N := N
  s₀ := s
  H₀ := H
  env := envOfC qual scope s.heap.objs.size f cd
  outer := outer
  stack := envOfC qual scope s.heap.objs.size f cd :: outer
  ex := []
  calm := true
  fn := fun _ => true
  pn := []
  xe := fun e s' => wpAny (model P w) (A.deeper (envOfC qual scope s.heap.objs.size f cd)) (leaving (envOfC qual scope s.heap.objs.size f cd) e) (fun _ s'' => CX outer H s E e s'') (fun e' s'' => CX outer H s E e' s'') s'

theorem cell_has {sc : Scope} {n : Nat} {x : Str} (h : sc.names.lookup x = some .cell) : ∃ c, (cellsFrom n sc.names []).lookup x = some c := by
  have q := PySem.W.cellsFrom_some sc.names n [] (.inl h)
  exact Option.isSome_iff_exists.mp q

theorem inv_start {CX : CXT} {P : Program} {w : World} {K : PySem.W.Frag} {mg : Str → Option Value} {base : Heap} {N ps : List Str} {qual : Str} {scope : Scope} {f : Addr} {cd : Value} {A : Around} {outer : List Env} {s s1 : Shared} {H : Hp} {E : XK} {us : List Value} {vs : List V}
    (S : FnScope N ps scope) (hd : A.handled = none) (e0 : Env0 P w K mg base A outer s H) (hl : vs.length = ps.length) (r : Vals vs us)
    (x : InCallC s s.heap.objs.size (bindL (envOfC qual scope s.heap.objs.size f cd).kindOf (ps.zip us) fun _ => none) (cellsFrom (s.heap.objs.size + 1) scope.names []) (bindC (envOfC qual scope s.heap.objs.size f cd).kindOf (ps.zip us) fun _ => none) s1) :
    Inv (cxOf CX P w K mg base N qual scope f cd A outer s H E) [] (start N vs) H s1 := by
  have hpl : ps.length ≤ N.length := by have := congrArg List.length S.pre; rw [List.length_take] at this; omega
  obtain ⟨h1, tk, rfl, hk⟩ := x.done
  have noA : ∀ b : Addr, b ∉ (cxOf CX P w K mg base N qual scope f cd A outer s H E).ex := fun b z => absurd (show b ∈ ([] : List Addr) from z) (by simp)
  refine ⟨⟨e0.mod, S.kind, rfl, rfl, Nat.le_refl _, fun y z c h1 h2 => ?_, fun y hy => ?_, fun y c _ h => ?_, fun _ => hd, Around.frames_deeper e0.frames, .inr ⟨rfl, rfl⟩, fun b z => absurd z (noA b), e0.bs, e0.bsz, fun b _ _ => noA b, fun b z => absurd z (noA b), e0.funs, e0.frf⟩,
    rfl, e0.bare, Un.kept hk, ⟨_, x.toInCall.ns, fun i y v h1 h2 h3 => ?_⟩, fun y c h => ⟨_, x.cell y c h⟩, e0.hok.fresh (Nat.le_refl _), fun y c h => ?_, fun p hp => absurd (show p ∈ ([] : List (Addr × Obj)) from hp) (by simp), e0.hok.kept hk, ?_⟩
  · exact name_of_addr x.apart (PySem.mem_of_lookup h1) (PySem.mem_of_lookup h2)
  · have hy : scope.names.lookup y = some .cell ∨ scope.names.lookup y = some .free := hy
    rcases hy with hy | hy
    · exact cell_has hy
    · exact absurd rfl (S.nofree _ (PySem.mem_of_lookup hy))
  · exact Nat.le_of_lt (x.above y c (PySem.mem_of_lookup h))
  · have hi : i < vs.length := by
      unfold start at h2
      by_cases hi : i < vs.length
      · exact hi
      · rw [List.getElem?_append_right (by simpa using hi)] at h2
        rw [List.getElem?_replicate] at h2
        split at h2 <;> cases h2
    have ha : vs[i]? = some v := by
      unfold start at h2
      rw [List.getElem?_append_left (by simpa using hi), List.getElem?_map] at h2
      cases e : vs[i]? with
      | none => rw [e] at h2; cases h2
      | some a => rw [e] at h2; cases h2; rfl
    obtain ⟨u, hu, rv⟩ := r.get ha
    have hp : ps[i]? = some y := by
      rw [← S.pre, List.getElem?_take_of_lt (by omega)]; exact h1
    have ndP : ps.Nodup := by rw [← S.pre]; exact S.nd.sublist (List.take_sublist _ _)
    refine ⟨u, rv, ?_⟩
    rcases S.par y (List.mem_of_getElem? hp) with k | k
    · exact .inl ⟨k, bindL_get ndP hp hu k⟩
    · obtain ⟨c, e⟩ := cell_has (n := s.heap.objs.size + 1) k
      refine .inr ⟨.inl k, c, e, ?_⟩
      have q := x.cell y c e
      rw [bindC_get ndP hp hu (by show scope.names.lookup y ≠ _; rw [k]; decide)] at q
      exact q
  · exact e0.hok.fresh (Nat.le_of_lt (x.above y c (PySem.mem_of_lookup h)))
  · unfold start
    show _ = N.length
    rw [List.length_append, List.length_map, List.length_replicate]
    omega

/-- THE RULE: a def (or a method) of the text, by its body. The body's reading t is chosen for each entry; it is run at the parameters' values -/
theorem fn_of {CX : CXT} {P : Program} {w : World} {K : PySem.W.Frag} {mg : Str → Option Value} {base : Heap} {k : Nat} {f : Addr} {name qual : Str} {params : Arguments} {body : List Stmt} {scope : Scope} {dV kV doc pm cdv ct oc : Value} {an od : Option Addr}
    {osl : Array (Option Value)} {N ps : List Str} {sp : Sp} (lk : K.lookup f = some ⟨oc, od, .func (PySem.W.fnOf name qual params body scope dV kV doc pm an cdv ct), osl⟩) (hcd : PySem.W.codeIn K cdv qual = true) (S : FnScope N ps scope)
    (len : ∀ vs H Q E, sp vs H Q E → vs.length = ps.length)
    (hbody : ∀ (A : Around) (outer : List Env) (s : Shared) (H : Hp) (vs : List V) (Q : VK) (E : XK), Room k (A.deeper (envOfC qual scope s.heap.objs.size f cdv)) → sp vs H Q E →
      ∃ t, PSs (cxOf CX P w K mg base N qual scope f cdv A outer s H E) body t ∧ t { nx := fun _ H' => Q .non H', rt := Q } (start N vs) H) :
    FnOk P w K mg base CX (k + 1) f (PySem.W.fnOf name qual params body scope dV kV doc pm an cdv ct) ps sp := by
  refine ⟨len, fun A outer s H args us vs Q E hr e0 hb r hsp => ?_⟩
  have hl := len _ _ _ _ hsp
  have KX : K.In s.heap := e0.mod.kin.keeps fun b o e => (e0.bs b o e).1
  have lim : s.heap.NoLimit := e0.mod.nolimit.keeps fun b o e => (e0.bs b o e).1
  have hkind : ∀ y ∈ ps.zip us, scope.names.lookup y.1 = some .local ∨ (scope.names.lookup y.1 = some .cell ∧ ((cellsFrom (s.heap.objs.size + 1) scope.names []).lookup y.1).isSome = true) := fun ⟨n, v⟩ hy => by
    rcases S.par n (List.of_mem_zip hy).1 with q | q
    · exact .inl q
    · exact .inr ⟨q, PySem.W.cellsFrom_some _ _ _ (.inl q)⟩
  refine codeAny_call_function hr.depth (KX _ _ lk) rfl S.co S.gen rfl (PySem.W.codeRec_of KX hcd) (hb _ _ _ _ ?_)
  refine wpAny_newFunctionEnv_cells S.kind hkind fun env he s1 x => ?_
  subst he
  refine ⟨lim.keeps x.toInCall.keep, codeAny_func ?_⟩
  obtain ⟨t, ht, hq⟩ := hbody A outer s H vs Q E (hr.deeper _) hsp
  have I : Inv (cxOf CX P w K mg base N qual scope f cdv A outer s H E) [] (start N vs) H s1 := inv_start S hr.hd e0 hl r x
  refine wpAny_mono (ht [] s1 (start N vs) H _ I hq) (fun fl s' hs => ?_) fun e s' hs => hs
  have fin : ∀ {σ' : St} {H' : Hp} {v : V} {u : Value}, Inv (cxOf CX P w K mg base N qual scope f cdv A outer s H E) [] σ' H' s' → RelV v u → Q v H' → CE outer P w H s Q u s' :=
    fun {σ' H' v u} J rv q => ⟨v, H', J.os, J.bare, J.base, J.hok, rv, q⟩
  cases fl with
  | ret u =>
    obtain ⟨v, σ', H', J, rv, q⟩ := hs
    exact fin J rv q
  | next =>
    obtain ⟨σ', H', J, q⟩ := hs
    exact fin (v := V.non) (u := Value.none) J rfl q
  | brk =>
    obtain ⟨_, _, _, q⟩ := hs
    exact False.elim q
  | cont =>
    obtain ⟨_, _, _, q⟩ := hs
    exact False.elim q
end L2

namespace L2
open PySem PySem.Spec PyProof.Rows
section
variable {X : Cx} {x : Str} {p pos : Pos} {e : Expr} {es : List Expr} {t : TA} {id T : String} {r : List V → Hp → VK → Prop}

def tCB (r : List V → Hp → VK → Prop) (t : TA) : TE := fun σ H Q => t σ H fun vs H1 => r vs H1 Q
/-- f(e, ..), f a built-in function -/
theorem pe_callB (hc : CallR X (.builtin id) r) (hg : Gl X x) (hm : X.mg x = none) (hv : bootBuiltins x = some (.builtin id)) (ha : PA X (e :: es) t) (hn : x ≠ "__name__" := by decide) (hdb : (x == ("__debug__" : Str)) = false := by decide)
    (he : starEach (e :: es) X.env = (false, eval e X.env) :: starEach es X.env := by rfl) (hpl : (backTo pos (starEach es X.env)).any (·.1) = false := by rfl) : PE X (.Call (.Name x p) (e :: es) [] pos) (tCB r t) := by
  intro pins s σ H Q I h
  refine wpAny_Call_Name_kw (ld_blt I hg hm hv ?_ hn hdb)
  exact PyProof.Rows.callWith_builtin1 (thn (ha pos pins s σ H _ I h) fun us s1 ⟨vs, H1, I1, r1, q1⟩ => hc pins s1 σ H1 vs us Q I1 r1 q1) he hpl
/-- T(e, ..), T a built-in type -/
theorem pe_callTy (hc : CallR X (.type T) r) (hg : Gl X x) (hm : X.mg x = none) (hv : bootBuiltins x = some (.type T)) (ha : PA X (e :: es) t) (hn : x ≠ "__name__" := by decide) (hdb : (x == ("__debug__" : Str)) = false := by decide)
    (he : starEach (e :: es) X.env = (false, eval e X.env) :: starEach es X.env := by rfl) (hpl : (backTo pos (starEach es X.env)).any (·.1) = false := by rfl) : PE X (.Call (.Name x p) (e :: es) [] pos) (tCB r t) := by
  intro pins s σ H Q I h
  refine wpAny_Call_Name_kw (ld_blt I hg hm hv ?_ hn hdb)
  exact PyProof.Rows.callWith_type1 (thn (ha pos pins s σ H _ I h) fun us s1 ⟨vs, H1, I1, r1, q1⟩ => hc pins s1 σ H1 vs us Q I1 r1 q1) he hpl
end
end L2

namespace HT
open PySem PyProof.Rows

/-- t < u of tuples of ints -/
def lexLt : List Int → List Int → Bool
  | [], [] => false
  | [], _ :: _ => true
  | _ :: _, [] => false
  | x :: xs, y :: ys => if x = y then lexLt xs ys else decide (x < y)
section
open PySem.SeqAt
open PySem.AutoSeq1 (wpAny_loadPart')
open PySem.MeetsSeq PySem.MeetsSeq2 PySem.MeetsSeq3

end

section
variable {prog : Program} {w : World} {A : Around} {E : Value → Shared → Prop} {s : Shared}

/-! ### t[a:b], not the whole -/
/-- a slice's bound as a place among n (d where it is left out) -/
def sIx (n d : Nat) : Option Int → Nat
  | none => d
  | some v => if v < 0 then (v + (n : Int)).toNat else min v.toNat n
end
end HT

namespace L2
open PySem PySem.Spec PyProof.Rows

/-! ### the parts of a slice -/
abbrev TO := St → Hp → (Option Int → Hp → Prop) → Prop
/-- a slice's part (left out, or an int) -/
def PO (X : Cx) (e : Option Expr) (t : TO) : Prop :=
  ∀ (pins : List (Addr × Obj)) (s : Shared) (σ : St) (H : Hp) (Q : Option Int → Hp → Prop), Inv X pins σ H s → t σ H Q →
    wpAny (model X.prog X.w) X.A (evalPart e X.env) (fun u s' => ∃ o H', Inv X pins σ H' s' ∧ IsPart u o ∧ Q o H') X.xe s
def tNoPart : TO := fun _ H Q => Q none H
def tPart (t : TE) : TO := fun σ H Q => t σ H fun x H1 => ∃ i, x = .int i ∧ Q (some i) H1

section
variable {X : Cx} {e : Expr} {te : TE} {lo hi : Option Expr} {tl th : TO} {pos p2 : Pos}

theorem po_some (h : PE X e te) : PO X (some e) (tPart te) := by
  intro pins s σ H Q I hw
  rw [evalPart_some]
  refine thn (h pins s σ H _ I hw) fun u s1 ⟨x, H1, I1, r1, q1⟩ => ?_
  obtain ⟨i, rfl, q⟩ := q1
  obtain ⟨t, rfl⟩ := r1
  exact ⟨some i, H1, I1, .int i t, q⟩

/-- what a slice of a value is, by values: the slice object stands at sl -/
def SlR (X : Cx) (r : V → Option Int → Option Int → Hp → VK → Prop) : Prop :=
  ∀ (pins : List (Addr × Obj)) (s : Shared) (σ : St) (H : Hp) (x : V) (v vl vu : Value) (lo hi : Option Int) (sl : Addr) (Q : VK), Inv X pins σ H s → RelV x v → s.heap.IsSliceOf sl vl vu .none → IsPart vl lo → IsPart vu hi → r x lo hi H Q →
    ∃ T id, typeLookup (.type T) "__getitem__" = pure (some (.builtin id)) ∧ s.TypeIs v T ∧ wpAny (model X.prog X.w) X.A (getItem v (.ref sl)) (EP X pins σ Q) X.xe s
def tSl (r : V → Option Int → Option Int → Hp → VK → Prop) (te : TE) (tl th : TO) : TE := fun σ H Q => te σ H fun x H1 => tl σ H1 fun l H2 => th σ H2 fun u H3 => r x l u H3 Q
/-- a[lo:hi], any a -/
theorem pe_slice {r : V → Option Int → Option Int → Hp → VK → Prop} (hr : SlR X r) (he : PE X e te) (hl : PO X lo tl) (hu : PO X hi th) : PE X (.Subscript e (.Slice lo hi none p2) pos) (tSl r te tl th) := by
  intro pins s σ H Q I h
  refine Subscript_ (thn (he pins s σ H _ I h) fun v s1 ⟨x, H1, I1, r1, q1⟩ => ?_)
  refine wpAny_Slice (thn (hl pins s1 σ H1 _ I1 q1) fun vl s2 ⟨l, H2, I2, pl, q2⟩ => thn (hu pins s2 σ H2 _ I2 q2) fun vu s3 ⟨u, H3, I3, pu, q3⟩ => ?_)
  rw [evalPart_none]
  refine wpAny_pure ?_
  have I4 : Inv X pins σ H3 { s3 with heap := s3.heap.push { cls := .type "slice", data := .fields #[vl, vu, .none] } } := I3.kept (t' := s3.toks) fun b ob q => Heap.get?_push_of_some _ q
  obtain ⟨T, id, hT, ht, hg⟩ := hr pins { s3 with heap := s3.heap.push { cls := .type "slice", data := .fields #[vl, vu, .none] } } σ H3 x v vl vu l u s3.heap.objs.size Q I4 r1 (Heap.IsSliceOf.new ..) pl pu q3
  show wpAny (model X.prog X.w) X.A (subscriptTail e (.Slice lo hi none p2) v (.ref s3.heap.objs.size)) (EP X pins σ Q) X.xe { s3 with heap := s3.heap.push { cls := .type "slice", data := .fields #[vl, vu, .none] } }
  exact tail_any (ops := [.ref s3.heap.objs.size, v]) ht hT hg (by with_unfolding_all rfl)

/-- the items of xs[lo:hi] -/
def cutV (xs : List V) (lo hi : Option Int) : List V := (xs.drop (HT.sIx xs.length 0 lo)).take (HT.sIx xs.length xs.length hi - HT.sIx xs.length 0 lo)
theorem cutV_length (xs : List V) (lo hi : Option Int) : (cutV xs lo hi).length ≤ xs.length := by
  unfold cutV
  rw [List.length_take, List.length_drop]
  omega
/-- t[lo:hi], not the whole of it (the whole would be t itself) -/
def rSlT (K : PySem.W.Frag) : V → Option Int → Option Int → Hp → VK → Prop := fun x lo hi H Q => ∃ a xs, x = .ref a ∧ SqT K H a xs ∧
  ¬ (HT.sIx xs.length 0 lo = 0 ∧ HT.sIx xs.length xs.length hi = xs.length) ∧ ∀ p, H p = none → Q (.ref p) (upd H p (.tup (cutV xs lo hi)))
/-! ### t < u, t + u -/
def rLtT (K : PySem.W.Frag) : R2 := fun x y H Q => ∃ a b ns ms, x = .ref a ∧ y = .ref b ∧ SqT K H a (ns.map V.int) ∧ SqT K H b (ms.map V.int) ∧ Q (.bl (HT.lexLt ns ms)) H
/-- t + u, t not empty: u empty gives t itself -/
def rCatT (K : PySem.W.Frag) : R2 := fun x y H Q => ∃ a b xs ys, x = .ref a ∧ y = .ref b ∧ SqT K H a xs ∧ SqT K H b ys ∧ xs ≠ [] ∧ xs.length + ys.length ≤ sizeLine ∧
  (ys = [] → Q (.ref a) H) ∧ (ys ≠ [] → ∀ p, H p = none → Q (.ref p) (upd H p (.tup (xs ++ ys))))
end
end L2

namespace L2
open PySem PySem.Spec PyProof.Rows

/-! ### places -/
/-- the place that an index of any sign means -/
def ixN (n : Nat) (i : Int) : Option Nat := if 0 ≤ i then (if i < n then some i.toNat else none) else if -(n : Int) ≤ i then some (i + n).toNat else none
def atI {α : Type} (xs : List α) (i : Int) : Option α := (ixN xs.length i).bind fun j => xs[j]?
theorem ixN_seq {n : Nat} {i : Int} {j : Nat} (h : ixN n i = some j) : seqIndex? i n = some j ∧ j < n ∧ -(n : Int) ≤ i ∧ i < n := by
  unfold ixN at h
  by_cases h0 : 0 ≤ i
  · rw [if_pos h0] at h
    by_cases h1 : i < n
    · rw [if_pos h1] at h
      have e : i.toNat = j := Option.some.inj h
      exact ⟨by rw [seqIndex_of h0 h1, e], by omega, by omega, h1⟩
    · rw [if_neg h1] at h; cases h
  · rw [if_neg h0] at h
    by_cases h1 : -(n : Int) ≤ i
    · rw [if_pos h1] at h
      have e : (i + n).toNat = j := Option.some.inj h
      exact ⟨by rw [seqIndex_neg (by omega) h1, e], by omega, h1, by omega⟩
    · rw [if_neg h1] at h; cases h
theorem atI_get {α : Type} {xs : List α} {i : Int} {v : α} (h : atI xs i = some v) : ∃ j, seqIndex? i xs.length = some j ∧ xs[j]? = some v ∧ j < xs.length ∧ -(xs.length : Int) ≤ i ∧ i < xs.length := by
  unfold atI at h
  cases e : ixN xs.length i with
  | none => rw [e] at h; cases h
  | some j =>
    rw [e] at h
    obtain ⟨h1, h2, h3, h4⟩ := ixN_seq e
    exact ⟨j, h1, h, h2, h3, h4⟩
theorem atI_nat {α : Type} {xs : List α} {j : Nat} {v : α} (h : xs[j]? = some v) : atI xs (j : Int) = some v := by
  have hj : j < xs.length := (List.getElem?_eq_some_iff.mp h).1
  have e : ixN xs.length (j : Int) = some j := by
    unfold ixN
    rw [if_pos (by omega), if_pos (by omega)]; simp
  unfold atI; rw [e]; exact h
/-! ### what may be subscripted -/
/-- what stands as an index of a plain subscript -/
def PlainIx (b : Expr) : Prop := ∀ o i, subscripted b false o i = operate [o, i] (getItem o i)
/-- a subscript by values -/
def IxR (X : Cx) (r : R2) : Prop :=
  ∀ (value slice : Expr) (pins : List (Addr × Obj)) (s : Shared) (σ : St) (H : Hp) (x y : V) (v u : Value) (Q : VK), Inv X pins σ H s → RelV x v → RelV y u → r x y H Q →
    subscripted slice false v u = operate [v, u] (getItem v u) → wpAny (model X.prog X.w) X.A (subscriptTail value slice v u) (EP X pins σ Q) X.xe s
/-- a call of a builtin's method by values: the receiver, the arguments -/
def MtR (X : Cx) (id : String) (r : V → List V → Hp → VK → Prop) : Prop :=
  ∀ (pins : List (Addr × Obj)) (s : Shared) (σ : St) (H : Hp) (x : V) (xs : List V) (v : Value) (us : List Value) (Q : VK), Inv X pins σ H s → RelV x v → Vals xs us → r x xs H Q →
    wpAny (model X.prog X.w) X.A (call (.builtin id) (v :: us)) (EP X pins σ Q) X.xe s
section
variable {X : Cx} {a b : Expr} {ta tb : TE} {pos : Pos}
/-- a[b] -/
theorem pe_ix {r : R2} (hr : IxR X r) (ha : PE X a ta) (hb : PE X b tb) (hs : PlainIx b) : PE X (.Subscript a b pos) (tOp r ta tb) := by
  intro pins s σ H Q I h
  exact Subscript_ (binT ha hb I h fun v u s2 x y H2 I2 rx ry q => hr a b pins s2 σ H2 x y v u Q I2 rx ry q (hs _ _))

def rIxL (K : PySem.W.Frag) : R2 := fun x y H Q => ∃ p xs i v, x = .ref p ∧ y = .int i ∧ SqL K H p xs ∧ atI xs i = some v ∧ Q v H
def rIxT (K : PySem.W.Frag) : R2 := fun x y H Q => ∃ p xs i v, x = .ref p ∧ y = .int i ∧ SqT K H p xs ∧ atI xs i = some v ∧ Q v H
def rIxS : R2 := fun x y H Q => ∃ z i c, x = .str z ∧ y = .int i ∧ z.length ≤ sizeLine ∧ atI z.cps.toList i = some c ∧ Q (.str ⟨#[c]⟩) H
theorem ix_list : IxR X (rIxL X.K) := by
  intro value slice pins s σ H x y v u Q I rx ry h hs
  obtain ⟨p, xs, i, z, rfl, rfl, hq, he, q⟩ := h
  cases rx
  obtain ⟨t, rfl⟩ := ry
  obtain ⟨its, r, pl, hz⟩ := I.list hq
  obtain ⟨j, h1, h2, h3, h4, h5⟩ := atI_get he
  obtain ⟨w, ew, rw'⟩ := r.get h2
  have hl := r.length
  have hn := line63
  have fin : EP X pins σ Q w s := ⟨z, H, I, rw', q⟩
  by_cases h0 : 0 ≤ i
  · have hj : i.toNat = j := by
      rw [seqIndex_of h0 h5] at h1
      exact Option.some.inj h1
    exact item_listR pl.isList h0 (by omega) (by rw [hj]; simpa using ew) fin hs
  · have hj : (i + (its.toArray.size : Int)).toNat = j := by
      rw [seqIndex_neg (by omega) h4] at h1
      rw [List.size_toArray, ← hl]
      exact Option.some.inj h1
    exact subscriptTail_builtinR (x := w) pl.isList.typeIs slot_list_getitem.lookup
      (wpAny_getItem_list_neg (Q := fun r s' => r = w ∧ EP X pins σ Q r s') pl.isList (by omega) (by rw [List.size_toArray] <;> omega) (by omega) (by rw [hj]; simpa using ew) ⟨rfl, fin⟩) hs
theorem ix_tup : IxR X (rIxT X.K) := by
  intro value slice pins s σ H x y v u Q I rx ry h hs
  obtain ⟨p, xs, i, z, rfl, rfl, hq, he, q⟩ := h
  cases rx
  obtain ⟨t, rfl⟩ := ry
  obtain ⟨its, r, pl, hz⟩ := I.tuple hq
  obtain ⟨j, h1, h2, h3, h4, h5⟩ := atI_get he
  obtain ⟨w, ew, rw'⟩ := r.get h2
  have hl := r.length
  have hn := line63
  have fin : EP X pins σ Q w s := ⟨z, H, I, rw', q⟩
  exact subscriptTail_builtinR (x := w) pl.typeIs slot_tuple_getitem.lookup
    (getItem_tuple (j := j) (Q := fun r s' => r = w ∧ EP X pins σ Q r s') pl (by omega) (by omega) (by rw [List.size_toArray, ← hl]; exact h1) (by simpa using ew) ⟨rfl, fin⟩) hs
/-- list, tuple or str -/
def rIx (K : PySem.W.Frag) : R2 := fun x y H Q => rIxL K x y H Q ∨ rIxT K x y H Q ∨ rIxS x y H Q
/-! ### xs[i] = v, any sign -/
def rSetL : V → V → V → Hp → (Hp → Prop) → Prop := fun o i v H Q => ∃ p xs k j, o = .ref p ∧ i = .int k ∧ H p = some (.lst xs) ∧ ixN xs.length k = some j ∧ Q (upd H p (.lst (xs.set j v)))
/-! ### slices -/
theorem slice_bounds (lo hi : Option Int) (n : Nat) : (sliceBounds lo hi none n).1 = ((HT.sIx n 0 lo : Nat) : Int) ∧ (sliceBounds lo hi none n).2.1 = ((HT.sIx n n hi : Nat) : Int) ∧ (sliceBounds lo hi none n).2.2 = 1 := by
  refine ⟨?_, ?_, rfl⟩
  · cases lo with
    | none => simp [sliceBounds, HT.sIx]
    | some i =>
      simp only [sliceBounds, HT.sIx, Option.getD_none, show (1 : Int) > 0 by decide, if_true]
      by_cases h : i < 0
      · simp only [h, if_true] <;> omega
      · simp only [h, if_false] <;> omega
  · cases hi with
    | none => simp [sliceBounds, HT.sIx]
    | some i =>
      simp only [sliceBounds, HT.sIx, Option.getD_none, show (1 : Int) > 0 by decide, if_true]
      by_cases h : i < 0
      · simp only [h, if_true] <;> omega
      · simp only [h, if_false] <;> omega
theorem slicePick_cut (its : List Value) (lo hi : Option Int) : slicePick its.toArray lo hi none = ((its.drop (HT.sIx its.length 0 lo)).take (HT.sIx its.length its.length hi - HT.sIx its.length 0 lo)).toArray := by
  obtain ⟨h1, h2, h3⟩ := slice_bounds lo hi its.toArray.size
  unfold slicePick
  rw [h1, h2, h3]
  simp only [sliceRange_one, pick_run, List.size_toArray] <;> rfl
/-- xs[lo:hi] of a list: a new list -/
def rSlL (K : PySem.W.Frag) : V → Option Int → Option Int → Hp → VK → Prop := fun x lo hi H Q => ∃ a xs, x = .ref a ∧ SqL K H a xs ∧ ∀ p, H p = none → Q (.ref p) (upd H p (.lst (cutV xs lo hi)))
theorem sl_list : SlR X (rSlL X.K) := by
  intro pins s σ H x v vl vu lo hi sl Q I rx hs pl pu h
  obtain ⟨a, xs, rfl, hx, q⟩ := h
  cases rx
  obtain ⟨its, r, ht, hz⟩ := I.list hx
  have hlen := r.length
  refine ⟨"list", _, slot_list_getitem.lookup, ht.isList.typeIs, ?_⟩
  refine wpAny_getItem_list_slice ht.isList hs pl pu .none (by simp) ?_ (by rw [List.size_toArray] <;> omega)
  rw [slicePick_cut, ← hlen]
  refine ⟨.ref s.heap.objs.size, _, I.laid (t' := s.toks) (o := .lst (cutV xs lo hi)) (fun b ob q => Heap.get?_push_of_some _ q) (Nat.le_refl _) ?_, rfl, q _ (I.hok.fresh (Nat.le_refl _))⟩
  exact ⟨Nat.le_trans (cutV_length xs lo hi) hz, _, 0, (r.drop (HT.sIx xs.length 0 lo)).take (HT.sIx xs.length xs.length hi - HT.sIx xs.length 0 lo), Heap.get?_push_size _ rfl⟩

/-! ### in, not in: flat items -/
def flatV : V → Bool
  | .non => true
  | .bl _ => true
  | .int _ => true
  | .str _ => true
  | _ => false
/-- == of flat values -/
def eqV : V → V → Bool
  | .non, .non => true
  | .bl a, .bl b => a == b
  | .bl a, .int b => (if a then 1 else 0) == b
  | .int a, .bl b => a == (if b then 1 else 0)
  | .int a, .int b => a == b
  | .str a, .str b => a == b
  | _, _ => false
/-- the items' answers, read off the values (a value's own answer does not lean on its token) -/
def eqU (x : V) (u : Value) : Bool := match u with
  | .none => eqV .non x
  | .bool b => eqV (.bl b) x
  | .int i _ => eqV (.int i) x
  | .str z _ => eqV (.str z) x
  | _ => false
def inV (x : V) (xs : List V) : Bool := xs.any fun y => eqV y x
/-- x in a list or tuple of flat items -/
def rIn (K : PySem.W.Frag) (neg : Bool) : R2 := fun x y H Q => ∃ p xs, y = .ref p ∧ (SqL K H p xs ∨ SqT K H p xs) ∧ flatV x = true ∧ xs.all flatV = true ∧ Q (.bl (if neg then !inV x xs else inV x xs)) H
/-! ### len, list(x), tuple(x) of any list or tuple that is read -/
theorem call_len_seq : CallR X (.builtin "len") (fun xs H Q => ∃ p ys, xs = [.ref p] ∧ (SqL X.K H p ys ∨ SqT X.K H p ys) ∧ Q (.int ys.length) H) := by
  intro pins s σ H xs us Q I r h
  obtain ⟨p, ys, rfl, hq, q⟩ := h
  obtain ⟨u, rfl, rx⟩ := vals1 r
  cases rx
  have hn := line63
  rcases hq with hq | hq
  · obtain ⟨its, r', pl, hz⟩ := I.list hq
    have hlen := r'.length
    exact Calls.call_len_list pl.isList (by simp only [List.size_toArray] <;> omega) ⟨.int ys.length, H, I.tok _, ⟨s.toks + 1, by rw [List.size_toArray, hlen]⟩, q⟩
  · obtain ⟨its, r', pl, hz⟩ := I.tuple hq
    have hlen := r'.length
    exact len_tuple pl (by simp only [List.size_toArray] <;> omega) ⟨.int ys.length, H, I.tok _, ⟨s.toks + 1, by rw [List.size_toArray, hlen]⟩, q⟩
theorem call_list_of : CallR X (.type "list") (fun xs H Q => ∃ p ys, xs = [.ref p] ∧ (SqL X.K H p ys ∨ SqT X.K H p ys) ∧ ∀ l, H l = none → Q (.ref l) (upd H l (.lst ys))) := by
  intro pins s σ H xs us Q I r h
  obtain ⟨p, ys, rfl, hq, q⟩ := h
  obtain ⟨u, rfl, rx⟩ := vals1 r
  cases rx
  have fin : ∀ (its : List Value), Vals ys its → ys.length ≤ sizeLine → ∀ (h' : Heap) (c' : Nat), (∀ b o', s.heap.get? b = some o' → h'.get? b = some o') →
      h'.get? s.heap.objs.size = some { cls := .type "list", dict := none, data := .seq its.toArray c', slots := #[] } → EP X pins σ Q (.ref s.heap.objs.size) { s with heap := h' } := fun its r' hz h' c' kp e =>
    ⟨.ref s.heap.objs.size, _, I.laid (t' := s.toks) kp (Nat.le_refl _) (show ObjOk X.prog X.w _ h' _ (.lst ys) from ⟨hz, its, c', r', e⟩), rfl, q _ (I.hok.fresh (Nat.le_refl _))⟩
  rcases hq with hq | hq
  · obtain ⟨its, r', pl, hz⟩ := I.list hq
    have hlen := r'.length
    obtain ⟨o, ho, hc, n, hd⟩ := pl.isList
    exact call_list_seq p (.inl rfl) ho hc hd (fun h' c' kp e => fin its r' hz h' c' kp e) (by simp only [List.size_toArray] <;> omega)
  · obtain ⟨its, r', pl, hz⟩ := I.tuple hq
    have hlen := r'.length
    obtain ⟨o, ho, hc, n, hd⟩ := pl
    exact call_list_seq p (.inr rfl) ho hc hd (fun h' c' kp e => fin its r' hz h' c' kp e) (by simp only [List.size_toArray] <;> omega)
/-! ### the call of a builtin's method: o.m(..) -/
/-- the value is of that builtin type -/
def tyV (K : PySem.W.Frag) (T : String) (x : V) (H : Hp) : Prop := match x with
  | .str _ => T = "str"
  | .int _ => T = "int"
  | .ref p => (T = "list" ∧ ∃ xs, SqL K H p xs) ∨ (T = "tuple" ∧ ∃ o, K.lookup p = some o ∧ o.cls = .type "tuple" ∧ o.dict = none) ∨
      (T = "dict" ∧ ((∃ kvs, H p = some (.dK kvs)) ∨ ∃ kvs, H p = some (.dT kvs))) ∨ (T = "set" ∧ ∃ S n, H p = some (.set S n))
  | _ => False
theorem tyV_is {pins : List (Addr × Obj)} {σ : St} {H : Hp} {s : Shared} {T : String} {x : V} {v : Value} (I : Inv X pins σ H s) (r : RelV x v) (ty : tyV X.K T x H) :
    s.TypeIs v T ∧ ∀ a, v = .ref a → ∃ ob, s.heap.get? a = some ob ∧ ob.dict = none := by
  cases x with
  | str z =>
    obtain ⟨t, rfl⟩ := r
    cases (show T = "str" from ty)
    exact ⟨typeIs_str s z t, fun _ e => nomatch e⟩
  | int i =>
    obtain ⟨t, rfl⟩ := r
    cases (show T = "int" from ty)
    exact ⟨typeIs_int s i t, fun _ e => nomatch e⟩
  | ref p =>
    cases r
    rcases ty with ⟨rfl, xs, hq⟩ | ⟨rfl, o, hk, hc, hd⟩ | ⟨rfl, hk⟩ | ⟨rfl, S, n, hk⟩
    · obtain ⟨its, _, pl, _⟩ := I.list hq
      refine ⟨pl.isList.typeIs, fun a e => ?_⟩
      cases e
      obtain ⟨o, n, e, c, hd, _⟩ := pl
      exact ⟨o, e, hd⟩
    · refine ⟨⟨o, I.kIn p o hk, hc⟩, fun a e => ?_⟩
      cases e
      exact ⟨o, I.kIn _ o hk, hd⟩
    · have z : ∃ o, s.heap.get? p = some o ∧ o.ExactDict := by
        rcases hk with ⟨kvs, hk⟩ | ⟨kvs, hk⟩
        · obtain ⟨_, _, _, _, o, _, _, e, ex, _⟩ := I.hok p _ hk
          exact ⟨o, e, ex⟩
        · obtain ⟨_, _, _, _, o, _, _, e, ex, _⟩ := I.hok p _ hk
          exact ⟨o, e, ex⟩
      obtain ⟨o, e, ex⟩ := z
      refine ⟨⟨o, e, ex.1⟩, fun a e2 => ?_⟩
      cases e2
      exact ⟨o, e, ex.2.1⟩
    · obtain ⟨o, _, _, _, e, ex, _⟩ := I.hok p _ hk
      refine ⟨⟨o, e, ex.1⟩, fun a e2 => ?_⟩
      cases e2
      exact ⟨o, e, ex.2.1⟩
  | _ => exact False.elim ty
def tBM0 (K : PySem.W.Frag) (T : String) (r : V → List V → Hp → VK → Prop) (to : TE) : TE := fun σ H Q => to σ H fun x H1 => tyV K T x H1 ∧ r x [] H1 Q
def tBM (K : PySem.W.Frag) (T : String) (r : V → List V → Hp → VK → Prop) (to : TE) (t : TA) : TE := fun σ H Q => to σ H fun x H1 => tyV K T x H1 ∧ t σ H1 fun xs H2 => r x xs H2 Q
variable {o e : Expr} {es : List Expr} {to : TE} {t : TA} {name : Str} {apos cpos : Pos} {T id : String} {r : V → List V → Hp → VK → Prop}
theorem pe_bm (pa : PlainAttrs T) (slot : Slot T name id) (hty : typeOf (.builtin id) = pure (.type "method_descriptor")) (hm : MtR X id r) (ho : PE X o to) (ha : PA X (e :: es) t)
    (hbase : attributeBase o name X.env (eval o X.env) = eval o X.env := by rfl)
    (hfew : ((backTo cpos (starEach (e :: es) X.env)).all (fun x => !x.1) && (backToKw cpos (keywordEach [] X.env)).all (fun x => x.1.isSome)
      && decide ((e :: es).length + ([] : List Keyword).length + (if ([] : List Keyword).isEmpty then 0 else 1) < 30)) = true := by rfl)
    (hline : (apos.endLine == cpos.line) = true := by rfl) (hs : starEach (e :: es) X.env = (false, eval e X.env) :: starEach es X.env := by rfl) (hplain : (backTo cpos (starEach es X.env)).any (·.1) = false := by rfl) :
    PE X (.Call (.Attribute o name apos) (e :: es) [] cpos) (tBM X.K T r to t) := by
  intro pins s σ H Q I h
  refine wpAny_Call_method_late hbase hfew hline rfl (thn (ho pins s σ H _ I h) fun v s1 ⟨x, H1, I1, r1, ty, q1⟩ => ?_)
  obtain ⟨h1, h2⟩ := tyV_is I1 r1 ty
  refine ⟨T, id, pa, slot, hty, h1, h2, ?_⟩
  have hA := ha cpos pins s1 σ H1 _ I1 q1
  rw [hs] at hA ⊢
  refine Calls.callWith_builtin (by show (false || (backTo cpos (starEach es X.env)).any (·.1)) = false; rw [hplain] <;> rfl) (Calls.evalArgs_plain ?_)
  exact thn hA fun us s2 ⟨vs, H2, I2, r2, q2⟩ => hm pins s2 σ H2 x vs v us Q I2 r1 r2 q2
/- xs.append(e), list.index on a module's tuple .. are MtR facts of 06m -/
end
end L2

namespace L2
open PySem PySem.Spec PyProof.Rows

def MtM (X : Cx) (id : String) (r : V → List V → Hp → VK → Prop) : Prop :=
  ∀ (pins : List (Addr × Obj)) (s : Shared) (σ : St) (H : Hp) (x : V) (xs : List V) (v : Value) (us : List Value) (Q : VK), Inv X pins σ H s → RelV x v → Vals xs us → r x xs H Q →
    wpAny (model X.prog X.w) X.A (call (.builtin id) (v :: us)) (EP X pins σ Q) X.xe s

/-! ### lists of values -/
theorem Vals.one : ∀ {x : V} {us : List Value}, Vals [x] us → ∃ u, us = [u] ∧ RelV x u
  | _, _, .cons r .nil => ⟨_, rfl, r⟩
theorem Vals.reverse {xs : List V} {us : List Value} (h : Vals xs us) : Vals xs.reverse us.reverse := by
  induction h with
  | nil => exact .nil
  | cons r t ih => rw [List.reverse_cons, List.reverse_cons]; exact Vals.append ih (.cons r .nil)
section
variable {X : Cx} {pins : List (Addr × Obj)} {σ : St} {H : Hp} {s : Shared} {l b : Addr} {xs ys zs : List V}

/-! ### the two steps: a tracked list is rewritten, a new list is laid -/
theorem Inv.lset {its its' : List Value} {n : Nat} {f : Array Value → Array Value} {t' : Nat} (I : Inv X pins σ H s) (hH : H l = some (.lst xs))
    (e : s.heap.get? l = some { cls := .type "list", data := .seq its.toArray n }) (hf : f its.toArray = its'.toArray) (hv : Vals ys its') (hz : ys.length ≤ sizeLine) :
    Inv X pins σ (upd H l (.lst ys)) { s with heap := s.heap.update l (Obj.mapSeq f), toks := t' } := by
  have q := PySem.IsL.update e f
  rw [hf] at q
  refine I.write (x := l) (e := l) (by rw [hH]; exact trivial) (.inl rfl) (fun b' u hb hu => (Heap.get?_update_other s.heap (Obj.mapSeq f) (Ne.symm hb)).trans hu) ⟨_, q⟩ ?_
  exact ⟨hz, its', _, hv, q⟩
theorem Inv.lstM (I : Inv X pins σ H s) (hH : H l = some (.lst xs)) : xs.length ≤ sizeLine ∧ ∃ (its : List Value) (n : Nat), Vals xs its ∧ xs.length = its.length ∧ s.heap.get? l = some { cls := .type "list", data := .seq its.toArray n } := by
  obtain ⟨z, its, n, r, e⟩ := I.hok l _ hH
  exact ⟨z, its, n, r, r.length, e⟩

end

section
variable {X : Cx}

/-! ### methods -/
def rAppend : V → List V → Hp → VK → Prop := fun x vs H Q => ∃ l xs y, x = .ref l ∧ vs = [y] ∧ H l = some (.lst xs) ∧ xs.length < sizeLine ∧ Q .non (upd H l (.lst (xs ++ [y])))
theorem mt_append : MtM X "list.append" rAppend := by
  intro pins s σ H x vs v us Q I rx rv h
  obtain ⟨l, xs, y, rfl, rfl, hH, hz, q⟩ := h
  cases rx
  obtain ⟨u, rfl, ru⟩ := rv.one
  obtain ⟨z, its, n, r, hl, e⟩ := I.lstM hH
  refine call_meets F.slot_list_append ⟨_, e, rfl⟩ F.entry_list_append (F.args_list_append_2 _ _) (PySem.list_append l its.toArray n u (by rw [List.size_toArray]; omega)) ⟨e, ?_⟩
  refine ⟨.non, _, I.lset (its' := its ++ [u]) hH e (by simp) (r.append (.cons ru .nil)) ?_, rfl, q⟩
  rw [List.length_append, List.length_singleton]
  omega

def rExtend : V → List V → Hp → VK → Prop := fun x vs H Q => ∃ l b xs zs, x = .ref l ∧ vs = [.ref b] ∧ H l = some (.lst xs) ∧ H b = some (.lst zs) ∧ xs.length + zs.length ≤ sizeLine ∧ Q .non (upd H l (.lst (xs ++ zs)))
def rPop : V → List V → Hp → VK → Prop := fun x vs H Q => ∃ l xs y, x = .ref l ∧ vs = [] ∧ H l = some (.lst xs) ∧ xs[xs.length - 1]? = some y ∧ Q y (upd H l (.lst xs.dropLast))
def rPopAt : V → List V → Hp → VK → Prop := fun x vs H Q => ∃ l xs i k y, x = .ref l ∧ vs = [.int i] ∧ H l = some (.lst xs) ∧ -(2 ^ 63) ≤ i ∧ i < 2 ^ 63 ∧ seqIndex? i xs.length = some k ∧ xs[k]? = some y ∧ Q y (upd H l (.lst (xs.eraseIdx k)))
def rReverse : V → List V → Hp → VK → Prop := fun x vs H Q => ∃ l xs, x = .ref l ∧ vs = [] ∧ H l = some (.lst xs) ∧ Q .non (upd H l (.lst xs.reverse))
def rClear : V → List V → Hp → VK → Prop := fun x vs H Q => ∃ l xs, x = .ref l ∧ vs = [] ∧ H l = some (.lst xs) ∧ Q .non (upd H l (.lst []))
/-! ### list + list, list += list, list * int -/
def rCat : R2 := fun x y H Q => ∃ l b xs zs, x = .ref l ∧ y = .ref b ∧ H l = some (.lst xs) ∧ H b = some (.lst zs) ∧ xs.length + zs.length ≤ sizeLine ∧ ∀ p, H p = none → Q (.ref p) (upd H p (.lst (xs ++ zs)))
/-- a list times an int (a negative one is nothing) -/
def rRep : R2 := fun x y H Q => ∃ l k xs, x = .ref l ∧ y = .int k ∧ H l = some (.lst xs) ∧ -(2 ^ 63) ≤ k ∧ k < 2 ^ 63 ∧ xs.length * k.toNat ≤ sizeLine ∧
  ∀ p, H p = none → Q (.ref p) (upd H p (.lst (List.replicate k.toNat xs).flatten))
/-! ### del xs[i] -/
end

/-! ### xs[a:b] = ys -/
section
variable {prog : Program} {w : World} {A : Around} {E : Value → Shared → Prop} {s : Shared}
set_option maxRecDepth 100000 in
end

section
variable {X : Cx}
end
end L2

namespace Att
open PySem PySem.W PySem.Calls PyProof.Rows

/-! ### the script -/
theorem ints_of_wellAll {P : Params} {h : Heap} : ∀ (ns : List Int) (vs : List Value), WellAll P h vs (ns.map WData.int) → IntsAre vs ns := by
  intro ns
  induction ns with
  | nil =>
    intro vs w
    rw [List.map_nil] at w
    cases w
    exact .nil
  | cons n ns ih =>
    intro vs w
    rw [List.map_cons] at w
    cases w with
    | cons a b =>
      cases a
      exact .cons _ _ (ih _ b)

theorem script_of {l : OpenLaw} {n : Nat} (hn : l.most = some n) {P : Params} {h : Heap} {args : List WData} {vals : List Value}
    (hpre : l.row.toRowW.claim.pre args = true) (hwl : WellAll P h vals args) :
    ∃ a vs ns, vals = [Value.ref a] ∧ args = [WData.list (ns.map WData.int)] ∧ h.get? a = some { cls := .type "list", data := .seq vs.toArray } ∧ IntsAre vs ns ∧ ns.length ≤ n := by
  have hsh : WShape.hasAll [] args [.list .int] = true := (pre_splitW hpre).1
  have hc : l.pre.holds [] { args := args } = true := (pre_splitW hpre).2
  obtain ⟨d, r, rfl, h1, h2⟩ := hasAllW_cons hsh
  obtain rfl := hasAllW_nil h2
  obtain ⟨xs, rfl, h3⟩ := hasW_list h1
  obtain ⟨ns, rfl⟩ := items_int h3
  have hlen : ns.length ≤ n := by
    unfold OpenLaw.pre at hc
    have h4 : (WTm.not (.lt (.lit (.int (n : Int))) (.len (.arg 0)))).holds [] { args := [.list (ns.map .int)] } = true := by
      have h4 := (holds_andW hc).1
      rw [hn] at h4
      exact h4
    have h5 := condW_of h4 (w_not (w_lt w_lit (w_len_list (w_arg rfl))))
    rw [List.length_map] at h5
    refine Nat.le_of_not_lt fun q => ?_
    have q' : (n : Int) < ((ns.length : Nat) : Int) := by omega
    first
      | (rw [decide_eq_true q'] at h5; exact absurd h5 (by decide))
      | (simp at h5; omega)
  cases hwl with
  | cons w1 w2 =>
    cases w2
    cases w1 with
    | list ho hall => exact ⟨_, _, ns, rfl, rfl, ho, ints_of_wellAll ns _ hall, hlen⟩

theorem post_true (l : OpenLaw) (args : List WData) : l.row.toRowW.claim.post args (.bool true) args = true :=
  postW_of (r := l.row.toRowW) (X := (true == true))
    (show WShape.has [] (.bool true) .bool = true by first | rfl | decide | simp [WShape.has, WShape.arms, WShape.armsAll])
    (show (WTm.eq .res (.lit (.bool true))).value [] { args := args, res := some (.bool true), after := args } = some (.bool (true == true)) from w_eq_bool (w_res rfl) w_lit) rfl

/-! ### the attachment: holds_open's last premise (the goal 'hc' behind k_head) from a wpAny of the law's body -/
/-- the same from a codeAny of the CALL (for a layer whose function contracts speak of calls) -/
theorem attach_call {l : OpenLaw} {n : Nat} {q : Program} {loose : List Str} {XP : (Str → Option Value) → Heap → Prop} {YP : World → Heap → Prop} {d : DefRec}
    (hn : l.most = some n) (hdf : d.params.defaults = [])
    (call : ∀ (w : World) (s₀ s₁ : Shared) (mg mb : Str → Option Value) (fa : Addr) (o : Obj) (pm cd doc : Value) (a : Addr) (vs : List Value) (ns : List Int),
      Ground q loose [] XP w s₀ mg mb s₁.heap → YP w s₁.heap →
      s₁.heap.get? fa = some o → o.data = .func (docDef d.name d.params d.body d.scope pm cd doc) → s₁.heap.CodeRec cd d.name → mg d.name = some (.ref fa) →
      s₁.heap.get? a = some { cls := .type "list", data := .seq vs.toArray } → IntsAre vs ns → ns.length ≤ n → s₁.gens = #[] →
      codeAny (model l.prog w) callerA (.call (.ref fa) ⟨[.ref a], []⟩) (fun r s' => r = .ok (.ret (.bool true)) ∧ OldK s₁.heap s'.heap ∧ s'.os = s₁.os ∧ AllBare s'.gens) s₁) :
    WalkO q loose XP YP l.row.toRowW d [] (fun f vs => PySem.call f vs) := by
  intro w s₀ s₁ mg mb G Y fa o pm cd doc dV kV ho hd hcd hD hmg hg args vals as hpre hlay hrd hwl hlo
  obtain rfl : dV = .none := Dflts.none hD hdf
  obtain rfl : kV = .none := Dflts.noKw hD
  obtain ⟨a, vs, ns, rfl, rfl, hobj, hints, hlen⟩ := script_of hn hpre hwl
  refine enter_call (codeAny_mono (call w s₀ s₁ mg mb fa o pm cd doc a vs ns G Y ho (fd_plain hd) hcd hmg hobj hints hlen hg) fun r s' hq => ?_)
  obtain ⟨rfl, h2, h3, h4⟩ := hq
  exact ⟨.inl ⟨.bool true, .bool true, [], rfl, fun _ => rfl, .bool true, post_true l _, fun _ => ⟨List.Pairwise.nil, fun _ hm => (nomatch hm)⟩⟩, h2, h3, h4⟩

/-! ### rules over ANY heap (no ledger) from facts about the written part K: the library's own take a ledger (News) for what they write -/
section
variable {prog : Program} {w : World} {A : Around} {E : Value → Shared → Prop} {s : Shared} {K : Frag}

/-! the whole heap as the ledger: makes every rule that writes through a ledger a rule over any heap -/
def noObjs (h : Heap) : Heap := { h with objs := #[] }
def ledger (h : Heap) (L d : Addr) : List (Addr × Obj) := (List.range h.objs.size).filterMap fun a => if a = L ∨ a = d then none else (h.get? a).map fun o => (a, o)
end
end Att

namespace L2
open PySem PySem.Spec PyProof.Rows

theorem vals_ints : ∀ {vs : List Value} {ns : List Int}, IntsAre vs ns → Vals (ns.map V.int) vs
  | _, _, .nil => .nil
  | _, _, .cons n t h => .cons ⟨t, rfl⟩ (vals_ints h)

/-- nothing is tracked but the script, known to the object (or it is an object of the module) -/
def Only (H : Hp) : Prop := ∀ b, H b = none ∨ ∃ o xs, H b = some (.frz o (.lst xs))

/-- THE HEAD: the law's promise, at the heap behind the top. F, the promise of the law's def, may use that base is part of the heap (so K.In base, base.Ns mainGlobals mg stand in Mod) -/
theorem law_call {P : Program} {w : World} {K : PySem.W.Frag} {mg mb : Str → Option Value} {CX : CXT} {k : Nat} {fa a : Addr} {fd : FuncData} {x : Str} {sp : Sp} {s₁ : Shared} {vs : List Value} {ns : List Int}
    (KX : K.In s₁.heap) (hns : s₁.heap.Ns mainGlobals mg) (hb : s₁.heap.Ns builtinsNs mb) (hbb : ∀ x : Str, x ≠ "__name__" → mb x = bootBuiltins x) (hlim : s₁.heap.NoLimit) (hg : s₁.gens = #[])
    (ha : s₁.heap.get? a = some { cls := .type "list", data := .seq vs.toArray }) (hi : IntsAre vs ns) (hl : ns.length ≤ sizeLine) (hr : Room k callerA)
    (F : ∀ base : Heap, K.In base → base.Ns mainGlobals mg → FnOk P w K mg base CX k fa fd [x] sp) (hbind : ∀ (s : Shared) (u : Value), BindsTo s fd ⟨[u], []⟩ [(x, u)])
    (hsp : ∀ H : Hp, Only H → SqL K H a (ns.map V.int) → sp [.ref a] H (fun v _ => v = .bl true) fun _ _ _ => False)
    (hCX : ∀ H e s', CX [] H s₁ (fun _ _ _ => False) e s' → False) :
    codeAny (model P w) callerA (.call (.ref fa) ⟨[.ref a], []⟩) (fun r s' => r = .ok (.ret (.bool true)) ∧ OldK s₁.heap s'.heap ∧ s'.os = s₁.os ∧ AllBare s'.gens) s₁ := by
  have rv := vals_ints hi
  have lenV := hi.length
  -- from an abstract heap in which nothing but the script may be tracked
  have core : ∀ H : Hp, Only H → SqL K H a (ns.map V.int) → HOk P w H s₁.heap → (∀ b, H b ≠ none → b = a) → (H a ≠ none → K.lookup a = none) →
      codeAny (model P w) callerA (.call (.ref fa) ⟨[.ref a], []⟩) (fun r s' => r = .ok (.ret (.bool true)) ∧ OldK s₁.heap s'.heap ∧ s'.os = s₁.os ∧ AllBare s'.gens) s₁ := by
    intro H hO hS hok hA hK
    have base_of : ∀ {b : Addr} {o : Obj}, s₁.heap.get? b = some o → H b = none → (hidT s₁.heap H).get? b = some o := fun e n => hidT_get e n
    have noA : ∀ {b : Addr} {o : Obj} {es : Array DictEntry} {ep : Nat}, s₁.heap.get? b = some o → o.data = .dict es ep → H b = none := fun {b o es ep} e d => by
      cases q : H b with
      | none => rfl
      | some u =>
        have e' : b = a := hA b (by rw [q]; simp)
        subst e'
        rw [ha] at e; cases e
        have d' : Data.seq vs.toArray _ = Data.dict es ep := d
        cases d'
    have nsK : ∀ {b : Addr} {m : Str → Option Value}, s₁.heap.Ns b m → (hidT s₁.heap H).Ns b m := fun {b m} ⟨o, es, ep, e, d, r⟩ => ⟨o, es, ep, base_of e (noA e d), d, r⟩
    have hKb : K.In (hidT s₁.heap H) := fun b o e => base_of (KX b o e) (by
      cases q : H b with
      | none => rfl
      | some u =>
        have e' : b = a := hA b (by rw [q]; simp)
        subst e'
        rw [hK (by rw [q]; simp)] at e; cases e)
    have hM : Mod K mg (hidT s₁.heap H) := ⟨hKb, nsK hns, ⟨mb, nsK hb, hbb⟩, let ⟨mc, h1, h2⟩ := hlim; ⟨mc, nsK h1, h2⟩⟩
    have e0 : Env0 P w K mg (hidT s₁.heap H) callerA [] s₁ H := ⟨rfl, hM, fun b o e => of_hidT e, Nat.le_of_eq (hidT_size _ _), trivial, fun b hb => absurd (show b ∈ ([] : List Addr) from hb) (by simp), hok, .of_eq hg⟩
    refine codeAny_mono ((F _ hKb (nsK hns)).run callerA [] s₁ H ⟨[.ref a], []⟩ [.ref a] [.ref a] _ _ hr e0 (hbind s₁ (.ref a)) (.cons rfl .nil) (hsp H hO hS)) fun r s' h => ?_
    cases r with
    | error e => exact (hCX H e s' h).elim
    | ok fl =>
      cases fl with
      | next => exact False.elim h
      | brk => exact False.elim h
      | cont => exact False.elim h
      | ret u =>
        obtain ⟨v, H', os, bare, un, hok', r', q⟩ := h
        have q' : v = .bl true := q
        subst q'
        obtain rfl : u = Value.bool true := r'
        refine ⟨rfl, OldK.of_keep fun b o e => ?_, os, bare⟩
        cases q : H b with
        | none => exact un.keep b o e q (by intro z; exact absurd (show b ∈ ([] : List Addr) from z) (by simp)) (by simp)
        | some u =>
          rcases hO b with z | ⟨ob, xs, z⟩
          · rw [q] at z; cases z
          · have z2 := un.frzs b ob _ z
            obtain ⟨e1, _⟩ := hok b _ z
            obtain ⟨e2, _⟩ := hok' b _ z2
            rw [e] at e1; cases e1
            exact e2
  cases hk : K.lookup a with
  | some o =>
    -- the script is one of the module's own objects
    have e := KX a o hk
    rw [ha] at e
    cases e
    refine core (fun _ => none) (fun _ => .inl rfl) (.inr ⟨_, vs.toArray, _, hk, rfl, rfl, rfl, by rw [List.size_toArray, lenV]; exact hl, by simpa using rv⟩) (fun b u z => by have z' : (none : Option HO) = some u := z; cases z') (fun b z => absurd rfl z) fun z => absurd rfl z
  | none =>
    refine core (fun b => if b = a then some (.frz { cls := .type "list", data := .seq vs.toArray } (.lst (ns.map V.int))) else none) (fun b => ?_) (.inl (.inr ⟨{ cls := .type "list", data := .seq vs.toArray }, if_pos rfl⟩)) (fun b u z => ?_) (fun b z => ?_) fun _ => hk
    · by_cases hb : b = a
      · exact .inr ⟨_, _, if_pos hb⟩
      · exact .inl (if_neg hb)
    · by_cases hb : b = a
      · have z' := (if_pos hb).symm.trans z
        cases z'
        subst hb
        exact ⟨ha, by rw [List.length_map]; exact hl, vs, _, rv, ha⟩
      · have z' := (if_neg hb).symm.trans z
        cases z'
    · by_cases hb : b = a
      · exact hb
      · exact absurd (if_neg hb) z
end L2

namespace L2
open PySem PySem.Spec PyProof.Rows

abbrev KOf {K : PySem.W.Frag} {h : Heap} (_ : K.In h) : PySem.W.Frag := K

/-- the goal that k_head leaves (case hc), from the law's promise. F gives the function object fd (K's own) once, then the promise over every base -/
theorem walk_of {l : PySem.W.OpenLaw} {n k : Nat} {q : Program} {loose : List Str} {XP : (Str → Option Value) → Heap → Prop} {YP : World → Heap → Prop} {d : DefRec} {K : Params → PySem.W.Frag} {CX : World → CXT} {sp : World → Sp} {x : Str}
    (hn : l.most = some n) (hn2 : n ≤ sizeLine) (hdf : d.params.defaults = []) (hr : Room k callerA)
    (hY : ∀ (w : World) (h : Heap), YP w h → (K w.params).In h)
    (F : ∀ (w : World) (mg : Str → Option Value) (fa : Addr) (h : Heap), (K w.params).In h → h.Ns mainGlobals mg → mg d.name = some (.ref fa) →
      ∃ fd : FuncData, (∀ (s : Shared) (u : Value), BindsTo s fd ⟨[u], []⟩ [(x, u)]) ∧
        ∀ base : Heap, (K w.params).In base → base.Ns mainGlobals mg → FnOk l.prog w (K w.params) mg base (CX w) k fa fd [x] (sp w))
    (hsp : ∀ (w : World) (H : Hp) (a : Addr) (ns : List Int), ns.length ≤ n → Only H → SqL (K w.params) H a (ns.map V.int) → sp w [.ref a] H (fun v _ => v = .bl true) fun _ _ _ => False)
    (hCX : ∀ (w : World) (H : Hp) (s : Shared) (e : Value) (s' : Shared), CX w [] H s (fun _ _ _ => False) e s' → False) :
    PySem.W.WalkO q loose XP YP l.row.toRowW d [] (fun f vs => PySem.call f vs) := by
  refine Att.attach_call hn hdf fun w s₀ s₁ mg mb fa o pm cd doc a vs ns G Y ho hd hcd hmg hobj hints hlen hg => ?_
  have KX := hY w _ Y
  obtain ⟨fd, hb, hF⟩ := F w mg fa _ KX G.T.g hmg
  exact law_call KX G.T.g G.T.b G.T.builtins G.T.nolimit hg hobj hints (Nat.le_trans hlen hn2) hr hF hb (fun H hO hS => hsp w H a ns hlen hO hS) fun H e s' => hCX w H s₁ e s'
end L2

/- THE LAST THEOREM (shape; LID, My.* are yours):
   My.Adr: a structure of the addresses that your layer names (classes, functions); My.Txt K t: a structure (Prop) of the equations over K;
   My.txt_mk : {K} {implicit addresses ..} (e1 : nsIn K mainGlobals "law" = some (some (.ref f))) (e2 : K.lookup f = some ⟨oc, od, .func (fnOf "law" "law" params body scope dV kV doc pm an cdv ct), sl⟩) (e3 : codeIn K cdv "law" = true) .. : ∃ t, My.Txt K t

set_option maxRecDepth 100000 in
set_option maxHeartbeats 0 in
theorem PySem.Challenge.cw_LID_holds : PySem.Challenge.rw_LID.Holds := by
  w_on; o_law; k_head; (case hw => w_witness2)
  k_fill
  refine L2.walk_of (l := PySem.Challenge.rw_LID) (n := 63) (k := 40) (x := "script") (CX := fun w => ..) (sp := fun _ => My.sp_law) rfl (by decide) rfl ⟨rfl, by decide, by decide⟩ (fun w h Y => PySem.W.kIn_of Y) ?F ?S ?C
  case F =>
    intro w mg fa h KX G hmg
    have T : ∃ t, My.Txt (L2.KOf KX) t := by
      dsimp only [L2.KOf]                          -- K must stand as «<heap const> w.params» for k_is
      refine' My.txt_mk ?e1 ?e2 ?e3 ..
      (case e1 => PySem.W.k_is)                    -- in the order: a name -> its address -> its object -> its parts
      (case e2 => PySem.W.k_is)
      ..
    obtain ⟨t, T⟩ := T
    have e0 := hmg.symm.trans (PySem.W.mg_of KX G T.law)
    cases e0                                       -- fa is the law's own address
    exact ⟨_, fun s u => .of_eq rfl, fun base kb nb => My.law_fn T kb nb⟩     -- if «.of_eq rfl» comes too early: refine' ⟨_, ?b, fun base kb nb => My.law_fn T kb nb⟩; exact fun s u => .of_eq rfl
  case S => exact fun w H a ns hl hO hS => ..
  case C => exact ..
(the tactic k_is has no namespace: write k_is) -/

/-! SHORT WORDS over the layer: a def of the text, its body, what a loop and a test want. -/
namespace L2
open PySem PySem.Spec PyProof.Rows

/-! ### the text by places -/
/-- the j-th statement of a class's body -/
def inClass (s : Stmt) (j : Nat) : Stmt := match s with
  | .ClassDef _ _ _ body _ _ _ _ _ _ _ => body.getD j (.Pass ⟨0, 0, 0, 0⟩)
  | _ => .Pass ⟨0, 0, 0, 0⟩
def defArgs (s : Stmt) : Arguments := match s with
  | .FunctionDef _ a _ _ _ _ _ _ _ _ => a
  | _ => { posonlyargs := [], args := [], vararg := none, kwonlyargs := [], kw_defaults := [], kwarg := none, defaults := [] }
def defBody (s : Stmt) : List Stmt := match s with
  | .FunctionDef _ _ b _ _ _ _ _ _ _ => b
  | _ => []
def defScope (s : Stmt) : Scope := match s with
  | .FunctionDef _ _ _ _ _ _ sc _ _ _ => sc
  | _ => { kind := .function, names := [], isGenerator := false, isCoroutine := false }

/-! ### no exception leaves a def -/
abbrev CX0 : CXT := fun _ _ _ _ _ _ => False
abbrev E0 : XK := fun _ _ _ => False
theorem pass0 {X : Cx} : Passes CX0 X E0 := fun _ _ _ _ _ _ _ h => h.elim

/-! ### a def (or method) of the text as it stands behind the top -/
structure Fun (K : PySem.W.Frag) (x qual : Str) (st : Stmt) (f : Addr) (fd : FuncData) : Prop where
  ex : ∃ (oc : Value) (od : Option Addr) (kV doc pm : Value) (an : Option Addr) (cdv ct : Value) (osl : Array (Option Value)),
    fd = PySem.W.fnOf x qual (defArgs st) (defBody st) (defScope st) .none kV doc pm an cdv ct ∧ K.lookup f = some ⟨oc, od, .func fd, osl⟩ ∧ PySem.W.codeIn K cdv qual = true
  kp : PySem.W.keepIn K (.ref f) = true
section
variable {P : Program} {w : World} {K : PySem.W.Frag} {mg : Str → Option Value} {base : Heap}
end
theorem small1000 {n : Nat} (h : n ≤ 1000) : n < sizeLine := Nat.lt_of_le_of_lt h (by decide)

/-! ### expressions in short: the name that stands in the i-th slot -/
section
variable {X : Cx}
theorem pv (i : Nat) {x : Str} {pos : Pos} (hN : X.N[i]? = some x := by rfl) (hv : Vis X.env.scope x := by first | exact Or.inl rfl | exact Or.inr (Or.inl rfl) | exact Or.inr (Or.inr rfl)) (hd : (x == ("__debug__" : Str)) = false := by decide)
    (hcd : (x == ("__classdict__" : Str)) = false := by decide) : PE X (.Name x pos) (tVar i) := pe_var hN hv hd hcd
end

/-! ### tests -/
theorem iteF {A B : Prop} (h : B) : if false = true then A else B := by
  rw [if_neg Bool.false_ne_true]
  exact h
theorem iteT {A B : Prop} (h : A) : if true = true then A else B := by
  rw [if_pos rfl]
  exact h
theorem ite2 {c A B : Prop} [Decidable c] (h1 : c → A) (h2 : ¬ c → B) : if c then A else B := by
  by_cases h : c
  · rw [if_pos h]
    exact h1 h
  · rw [if_neg h]
    exact h2 h
theorem iteNS {c A B : Prop} [Decidable c] (hc : c) (h : B) : if (!decide c) = true then A else B := by
  rw [decide_eq_true hc]
  exact iteF h

/-! ### heaps -/
/-- all that was tracked is as it was -/
def Same (H H' : Hp) : Prop := ∀ b o, H b = some o → H' b = some o
theorem Same.refl (H : Hp) : Same H H := fun _ _ h => h
theorem Same.trans {H H1 H2 : Hp} (a : Same H H1) (b : Same H1 H2) : Same H H2 := fun c o h => b c o (a c o h)
theorem Same.free {H H' : Hp} (e : Same H H') {l : Addr} (h : H' l = Option.none) : H l = Option.none := by
  cases q : H l with
  | none => rfl
  | some o =>
    rw [e l o q] at h
    cases h
theorem Same.seq {K : PySem.W.Frag} {H H' : Hp} {a : Addr} {xs : List V} (e : Same H H') (h : SqL K H a xs) : SqL K H' a xs := by
  rcases h with (h | ⟨o, h⟩) | h
  · exact .inl (.inl (e _ _ h))
  · exact .inl (.inr ⟨o, e _ _ h⟩)
  · exact .inr h

end L2

set_option Elab.async false
set_option linter.all false
set_option maxRecDepth 100000
set_option maxHeartbeats 1000000
namespace L2
open PySem PySem.Spec PyProof.Rows
section
variable {X : Cx}

/-! isinstance of one class -/
theorem call_isi : CallR X (.builtin "isinstance") (fun xs H Q => ∃ x n t b, xs = [x, .ty n] ∧ TyOf X.K H x t ∧ PySem.W.kitOne X.K t (.type n) = some b ∧ Q (.bl b) H) := by
  intro pins s σ H xs us Q I r h
  obtain ⟨x, n, t, b, rfl, ty, e, q⟩ := h
  obtain ⟨u, w', rfl, rx, rn⟩ := vals2 r
  cases (show w' = Value.type n from rn)
  exact isinst_ok I rx ty e fun tk => ⟨.bl b, H, I.tok tk, rfl, q⟩

/-! numbers of many bits -/
def Bt (n : Nat) (i : Int) : Prop := i.natAbs < 2 ^ n
theorem intBits_of {n : Nat} {i : Int} (h : Bt n i) : Builtin.Int.intBits i ≤ n := by
  unfold Builtin.Int.intBits
  split
  · exact Nat.zero_le _
  · rename_i h0
    have hp : i.natAbs ≠ 0 := by
      intro z
      apply h0
      simp at z ⊢
      exact z
    have : i.natAbs.log2 < n := (Nat.log2_lt hp).mpr h
    omega
def CBig (i j : Int) : Prop := ∃ n m, Bt n i ∧ Bt m j ∧ n ≤ 1048576 ∧ m ≤ 1048576
theorem CBig.ok {i j : Int} (h : CBig i j) : IntMulOk i j := by
  obtain ⟨n, m, h1, h2, h3, h4⟩ := h
  have e : (2 : Nat) ^ 20 = 1048576 := by decide
  exact IntMulOk.of_bits (by have := intBits_of h1; omega) (by have := intBits_of h2; omega)
theorem op_mulB : OpR X (binaryOp .Mult) (rI CBig fun i j => .int (i * j)) := opI fun _ _ _ _ _ _ _ hc q => mul_int q hc.ok
def CDivB (i j : Int) : Prop := j ≠ 0 ∧ ∃ n, Bt n j ∧ n ≤ 9000
theorem CDivB.ok {i j : Int} (h : CDivB i j) : Builtin.divisionGoesByPylong i j = false := by
  obtain ⟨h0, n, h1, h2⟩ := h
  refine PyProof.noPylong_of_log2 ?_
  have hp : j.natAbs ≠ 0 := by omega
  have : j.natAbs.log2 < n := (Nat.log2_lt hp).mpr h1
  omega
theorem op_fdivB : OpR X (binaryOp .FloorDiv) (rI CDivB fun i j => .int (i.fdiv j)) := opI fun _ _ _ _ _ _ _ hc q => floordiv_int hc.1 q (.inl hc.ok)

/-! plain data, deep -/
mutual
inductive DatV (K : PySem.W.Frag) (H : Hp) : V → PyData → Prop where
  | non : DatV K H .non .none
  | bl (b : Bool) : DatV K H (.bl b) (.bool b)
  | int (i : Int) : DatV K H (.int i) (.int i)
  | str (x : Str) : DatV K H (.str x) (.str x)
  | lst {a : Addr} {xs : List V} {ds : List PyData} (h : SqL K H a xs) (q : DatVs K H xs ds) : DatV K H (.ref a) (.list ds)
  | tup {a : Addr} {xs : List V} {ds : List PyData} (h : SqT K H a xs) (q : DatVs K H xs ds) : DatV K H (.ref a) (.tuple ds)
inductive DatVs (K : PySem.W.Frag) (H : Hp) : List V → List PyData → Prop where
  | nil : DatVs K H [] []
  | cons {x : V} {d : PyData} {xs : List V} {ds : List PyData} (p : DatV K H x d) (q : DatVs K H xs ds) : DatVs K H (x :: xs) (d :: ds)
end
theorem datV_reads {pins : List (Addr × Obj)} {s : Shared} {σ : St} {H : Hp} (I : Inv X pins σ H s) : ∀ {x : V} {d : PyData}, DatV X.K H x d → ∀ {u : Value}, RelV x u → ∃ as, Reads s.heap u d as := by
  intro x d h
  induction h using DatV.rec (motive_2 := fun xs ds _ => ∀ {us : List Value}, Vals xs us → ∃ as, ReadsAll s.heap us ds as) with
  | non => intro u r; cases (show u = Value.none from r); exact ⟨_, .none⟩
  | bl b => intro u r; cases (show u = Value.bool b from r); exact ⟨_, .bool b⟩
  | int i => intro u r; obtain ⟨t, rfl⟩ := (show ∃ t, u = Value.int i t from r); exact ⟨_, .int i t⟩
  | str y => intro u r; obtain ⟨t, rfl⟩ := (show ∃ t, u = Value.str y t from r); exact ⟨_, .str y t⟩
  | lst h q ih =>
    intro u r
    cases (show u = Value.ref _ from r)
    obtain ⟨its, rv, pl, _⟩ := I.list h
    obtain ⟨as, ra⟩ := ih rv
    obtain ⟨o, h1, h2, n, h3⟩ := pl.isList
    exact ⟨_, .list h1 h2 h3 (by simpa using ra)⟩
  | tup h q ih =>
    intro u r
    cases (show u = Value.ref _ from r)
    obtain ⟨its, rv, pl, _⟩ := I.tuple h
    obtain ⟨as, ra⟩ := ih rv
    obtain ⟨o, h1, h2, n, h3⟩ := pl
    exact ⟨_, .tuple h1 h2 h3 (by simpa using ra)⟩
  | nil => rename_i us r; cases r; exact ⟨_, .nil⟩
  | cons p q ih1 ih2 =>
    rename_i us r
    cases r with
    | cons r1 r2 =>
      obtain ⟨as, h1⟩ := ih1 r1
      obtain ⟨bs, h2⟩ := ih2 r2
      exact ⟨_, .cons h1 h2⟩
def rDat (K : PySem.W.Frag) (neg : Bool) : R2 := fun x y H Q => ∃ d e, DatV K H x d ∧ DatV K H y e ∧ d.canLay0 = true ∧ e.canLay0 = true ∧ min d.depth e.depth ≤ 16 ∧ Q (.bl (if neg then !PyData.eqv d e else PyData.eqv d e)) H
theorem op_eqD (hu : X.A.units + 64 < cLine) : OpR X (compareOp .Eq) (rDat X.K false) := by
  intro pins s σ H x y v u Q I rx ry h
  obtain ⟨d, e, h1, h2, c1, c2, hm, q⟩ := h
  obtain ⟨as, r1⟩ := datV_reads I h1 rx
  obtain ⟨bs, r2⟩ := datV_reads I h2 ry
  exact PySem.SeqAt.compareEq_reads r1 r2 c1 c2 (by omega) ⟨.bl (PyData.eqv d e), H, I, rfl, q⟩
end
end L2

set_option maxHeartbeats 1000000
namespace Mq
abbrev Q2 := Int × Int
def gc (a b : Int) : Int := (Int.gcd a b : Nat)
theorem gc_step (a b : Int) : gc b (Int.fmod a b) = gc a b := by
  unfold gc
  rw [Int.fmod_def, Int.gcd_comm a b, Int.sub_eq_add_neg, ← Int.mul_neg, Int.gcd_add_mul_left_right]
theorem fmod_less {a b : Int} (h : b ≠ 0) : (Int.fmod a b).natAbs < b.natAbs := by
  rcases (by omega : 0 < b ∨ b < 0) with h1 | h1
  · have := Int.fmod_nonneg_of_pos a h1
    have := Int.fmod_lt_of_pos a h1
    omega
  · have h2 : 0 < -b := by omega
    have e : Int.fmod a b = - Int.fmod (-a) (-b) := by
      rw [Int.neg_fmod_neg]; omega
    have := Int.fmod_nonneg_of_pos (-a) h2
    have := Int.fmod_lt_of_pos (-a) h2
    omega
theorem gc_zero (a : Int) : gc a 0 = if a < 0 then -a else a := by
  unfold gc
  rw [Int.gcd_zero]
  split <;> omega
theorem gc_pos {a b : Int} (h : b ≠ 0) : 0 < gc a b := by
  have := Int.gcd_pos_of_ne_zero_right a h
  unfold gc; omega
structure Low (p : Q2) : Prop where
  pos : 1 ≤ p.2
  one : gc p.1 p.2 = 1
/-- the divisor by which both are divided -/
def dvr (t b : Int) : Int := if b < 0 then -gc t b else gc t b
def red (t b : Int) : Q2 := (Int.fdiv t (dvr t b), Int.fdiv b (dvr t b))
theorem dvr_ne {t b : Int} (h : b ≠ 0) : dvr t b ≠ 0 := by
  have := gc_pos (a := t) h
  unfold dvr; split <;> omega
theorem fdiv_exact {a g k : Int} (hg : g ≠ 0) (h : a = g * k) : Int.fdiv a g = k := by
  rw [h, Int.mul_fdiv_cancel_left _ hg]
theorem dvr_dvd (t b : Int) : dvr t b ∣ t ∧ dvr t b ∣ b := by
  have h1 : gc t b ∣ t := Int.gcd_dvd_left t b
  have h2 : gc t b ∣ b := Int.gcd_dvd_right t b
  unfold dvr; split
  · exact ⟨Int.neg_dvd.mpr h1, Int.neg_dvd.mpr h2⟩
  · exact ⟨h1, h2⟩
theorem red_parts {t b : Int} (h : b ≠ 0) : t = dvr t b * (red t b).1 ∧ b = dvr t b * (red t b).2 := by
  obtain ⟨⟨x, hx⟩, ⟨y, hy⟩⟩ := dvr_dvd t b
  have hg := dvr_ne (t := t) h
  have e1 : (red t b).1 = x := fdiv_exact hg hx
  have e2 : (red t b).2 = y := fdiv_exact hg hy
  rw [e1, e2]; exact ⟨hx, hy⟩
theorem red_low {t b : Int} (h : b ≠ 0) : Low (red t b) := by
  obtain ⟨h1, h2⟩ := red_parts (t := t) h
  have hg := dvr_ne (t := t) h
  have hp := gc_pos (a := t) h
  have nd : (dvr t b).natAbs = (gc t b).natAbs := by unfold dvr; split <;> simp
  have e : Int.gcd t b = (dvr t b).natAbs * Int.gcd (red t b).1 (red t b).2 := by
    rw [← Int.gcd_mul_left, ← h1, ← h2]
  have e2 : (gc t b).natAbs = Int.gcd t b := by unfold gc; simp
  rw [nd, e2] at e
  have hp' : 0 < Int.gcd t b := by unfold gc at hp; omega
  have one : Int.gcd (red t b).1 (red t b).2 = 1 := by
    have : Int.gcd t b * Int.gcd (red t b).1 (red t b).2 = Int.gcd t b * 1 := by omega
    exact Nat.eq_of_mul_eq_mul_left hp' this
  refine ⟨?_, by unfold gc; rw [one]; rfl⟩
  have sgn : 0 < (red t b).2 := by
    by_cases hb : b < 0
    · have hd : dvr t b < 0 := by unfold dvr; rw [if_pos hb]; omega
      have hq : ¬ (red t b).2 ≤ 0 := fun q => by
        have := Int.mul_nonneg_of_nonpos_of_nonpos (Int.le_of_lt hd) q
        omega
      omega
    · have hd : 0 < dvr t b := by unfold dvr; rw [if_neg hb]; omega
      have hq : ¬ (red t b).2 ≤ 0 := fun q => by
        have := Int.mul_nonpos_of_nonneg_of_nonpos (Int.le_of_lt hd) q
        omega
      omega
  omega
theorem red_cross {t b : Int} (h : b ≠ 0) : (red t b).1 * b = t * (red t b).2 := by
  obtain ⟨h1, h2⟩ := red_parts (t := t) h
  generalize (red t b).1 = x at *
  generalize (red t b).2 = y at *
  generalize dvr t b = g at *
  subst h1 h2; grind
theorem natAbs_fdiv_le {a g k : Int} (hg : g ≠ 0) (h : a = g * k) : k.natAbs ≤ a.natAbs := by
  rw [h, Int.natAbs_mul]
  exact Nat.le_mul_of_pos_left _ (by omega)
theorem red_le {t b : Int} (h : b ≠ 0) : (red t b).1.natAbs ≤ t.natAbs ∧ (red t b).2.natAbs ≤ b.natAbs := by
  obtain ⟨h1, h2⟩ := red_parts (t := t) h
  exact ⟨natAbs_fdiv_le (dvr_ne h) h1, natAbs_fdiv_le (dvr_ne h) h2⟩
theorem dvr_le {t b : Int} (h : b ≠ 0) : (dvr t b).natAbs ≤ b.natAbs := by
  have e : (dvr t b).natAbs = Int.gcd t b := by unfold dvr gc; split <;> simp
  rw [e]; exact Int.gcd_le_natAbs_right t h
theorem low_same {p q : Q2} (hp : Low p) (hq : Low q) (h : p.1 * q.2 = q.1 * p.2) : p = q := by
  have gp : Int.gcd p.2 p.1 = 1 := by have := hp.one; rw [Int.gcd_comm]; unfold gc at this; omega
  have gq : Int.gcd q.2 q.1 = 1 := by have := hq.one; rw [Int.gcd_comm]; unfold gc at this; omega
  have d1 : p.2 ∣ q.2 := by
    have : p.2 ∣ p.1 * q.2 := ⟨q.1, by rw [h, Int.mul_comm]⟩
    have := Int.dvd_gcd_mul_iff_dvd_mul.mpr this
    rw [gp] at this
    simpa using this
  have d2 : q.2 ∣ p.2 := by
    have : q.2 ∣ q.1 * p.2 := ⟨p.1, by rw [← h, Int.mul_comm]⟩
    have := Int.dvd_gcd_mul_iff_dvd_mul.mpr this
    rw [gq] at this
    simpa using this
  have l1 := Int.le_of_dvd (by have := hq.pos; omega) d1
  have l2 := Int.le_of_dvd (by have := hp.pos; omega) d2
  have e2 : p.2 = q.2 := by omega
  have e1 : p.1 = q.1 := by
    rw [e2] at h
    exact Int.eq_of_mul_eq_mul_right (by have := hq.pos; omega) h
  exact Prod.ext e1 e2
/-! sums -/
def plus (p q : Q2) : Q2 := red (p.1 * q.2 + q.1 * p.2) (p.2 * q.2)
def minus (p q : Q2) : Q2 := red (p.1 * q.2 - q.1 * p.2) (p.2 * q.2)
def times (p q : Q2) : Q2 := red (p.1 * q.1) (p.2 * q.2)
def over (p q : Q2) : Q2 := red (p.1 * q.2) (p.2 * q.1)
def tot (l : List Q2) : Q2 := l.foldl plus (0, 1)
theorem mul_ne {a b : Int} (ha : 1 ≤ a) (hb : 1 ≤ b) : a * b ≠ 0 := by
  have := Int.mul_pos (show 0 < a by omega) (show 0 < b by omega)
  omega
theorem plus_low {p q : Q2} (hp : 1 ≤ p.2) (hq : 1 ≤ q.2) : Low (plus p q) := red_low (mul_ne hp hq)
theorem plus_cross {p q : Q2} (hp : 1 ≤ p.2) (hq : 1 ≤ q.2) : (plus p q).1 * (p.2 * q.2) = (p.1 * q.2 + q.1 * p.2) * (plus p q).2 := red_cross (mul_ne hp hq)
/-- numbers of so many bits -/
def B (n : Nat) (i : Int) : Prop := i.natAbs < 2 ^ n
structure Bd (n : Nat) (p : Q2) : Prop where
  a : B n p.1
  b : B n p.2
theorem B.mono {n m : Nat} {i : Int} (h : B n i) (l : n ≤ m) : B m i := Nat.lt_of_lt_of_le h (Nat.pow_le_pow_right (by decide) l)
theorem B.mul {n m : Nat} {i j : Int} (h : B n i) (q : B m j) : B (n + m) (i * j) := by
  unfold B at *
  rw [Int.natAbs_mul, Nat.pow_add]
  exact Nat.mul_lt_mul'' h q
theorem B.add {n : Nat} {i j : Int} (h : B n i) (q : B n j) : B (n + 1) (i + j) := by
  unfold B at *
  have := Int.natAbs_add_le i j
  rw [Nat.pow_succ]; omega
theorem B.le {n : Nat} {i j : Int} (h : B n i) (l : j.natAbs ≤ i.natAbs) : B n j := Nat.lt_of_le_of_lt l h
theorem Bd.mono {n m : Nat} {p : Q2} (h : Bd n p) (l : n ≤ m) : Bd m p := ⟨h.a.mono l, h.b.mono l⟩
theorem plus_bd {n m : Nat} {p q : Q2} (h : Bd n p) (g : Bd m q) (hp : 1 ≤ p.2) (hq : 1 ≤ q.2) : Bd (n + m + 1) (plus p q) := by
  have k := red_le (t := p.1 * q.2 + q.1 * p.2) (mul_ne hp hq)
  have a2 : B (n + m) (q.1 * p.2) := by rw [Nat.add_comm]; exact g.a.mul h.b
  exact ⟨((h.a.mul g.b).add a2).le k.1, ((h.b.mul g.b).mono (Nat.le_succ _)).le k.2⟩
/-- over one bottom -/
def D : List Q2 → Int
  | [] => 1
  | f :: r => f.2 * D r
def N : List Q2 → Int
  | [] => 0
  | f :: r => f.1 * D r + f.2 * N r
theorem D_app (xs ys : List Q2) : D (xs ++ ys) = D xs * D ys := by
  induction xs with
  | nil => simp [D]
  | cons x r ih => simp only [List.cons_append, D, ih]; grind
theorem N_app (xs ys : List Q2) : N (xs ++ ys) = N xs * D ys + D xs * N ys := by
  induction xs with
  | nil => simp [N, D]
  | cons x r ih => simp only [List.cons_append, N, D, ih, D_app]; grind
theorem D_rev (xs : List Q2) : D xs.reverse = D xs := by
  induction xs with
  | nil => rfl
  | cons x r ih => rw [List.reverse_cons, D_app, ih]; simp only [D]; grind
theorem N_rev (xs : List Q2) : N xs.reverse = N xs := by
  induction xs with
  | nil => rfl
  | cons x r ih => rw [List.reverse_cons, N_app, ih, D_rev]; simp only [D, N]; grind
def Pos (l : List Q2) : Prop := ∀ f ∈ l, 1 ≤ f.2
theorem D_pos {l : List Q2} (h : Pos l) : 1 ≤ D l := by
  induction l with
  | nil => exact Int.le_refl 1
  | cons x r ih =>
    have a := h x (by simp)
    have b := ih fun f hf => h f (by simp [hf])
    have := Int.mul_pos (show 0 < x.2 by omega) (show 0 < D r by omega)
    show 1 ≤ x.2 * D r
    omega
theorem foldl_low {l : List Q2} : ∀ {p : Q2}, Low p → Pos l → Low (l.foldl plus p) := by
  induction l with
  | nil => intro p h _; exact h
  | cons x r ih => intro p h k; exact ih (plus_low h.pos (k x (by simp))) fun f hf => k f (by simp [hf])
theorem low01 : Low (0, 1) := ⟨Int.le_refl 1, rfl⟩
theorem tot_low {l : List Q2} (h : Pos l) : Low (tot l) := foldl_low low01 h
theorem foldl_cross {l : List Q2} : ∀ {p : Q2}, 1 ≤ p.2 → Pos l → (l.foldl plus p).1 * (p.2 * D l) = (p.1 * D l + p.2 * N l) * (l.foldl plus p).2 := by
  induction l with
  | nil => intro p h _; simp [D, N]
  | cons x r ih =>
    intro p h k
    have hx := k x (by simp)
    have kr : Pos r := fun f hf => k f (by simp [hf])
    have c := plus_cross h hx
    have hl := plus_low h hx
    have i := ih hl.pos kr
    simp only [List.foldl_cons, D, N]
    generalize (List.foldl plus (plus p x) r).1 = a at *
    generalize (List.foldl plus (plus p x) r).2 = b at *
    have ne : (plus p x).2 ≠ 0 := by have := hl.pos; omega
    generalize (plus p x).1 = u at *
    generalize (plus p x).2 = v at *
    generalize D r = d at *
    generalize N r = n at *
    have : v * (a * (p.2 * (x.2 * d))) = v * ((p.1 * (x.2 * d) + p.2 * (x.1 * d + x.2 * n)) * b) := by grind
    exact Int.eq_of_mul_eq_mul_left ne this
theorem tot_cross {l : List Q2} (h : Pos l) : (tot l).1 * D l = N l * (tot l).2 := by
  have := foldl_cross (p := (0, 1)) (Int.le_refl 1) h
  unfold tot
  simpa using this
theorem tot_of {l : List Q2} {p : Q2} (h : Pos l) (hp : Low p) (c : p.1 * D l = N l * p.2) : tot l = p := by
  refine low_same (tot_low h) hp ?_
  have k := tot_cross h
  have d := D_pos h
  generalize tot l = t at *
  have : D l * (t.1 * p.2) = D l * (p.1 * t.2) := by grind
  exact Int.eq_of_mul_eq_mul_left (by omega) this
theorem tot_rev {l : List Q2} (h : Pos l) : tot l.reverse = tot l := by
  refine tot_of (fun f hf => h f (by simpa using hf)) (tot_low h) ?_
  rw [D_rev, N_rev]; exact tot_cross h
theorem foldl_bd {k : Nat} {l : List Q2} : ∀ {n : Nat} {p : Q2}, Bd n p → Low p → Pos l → (∀ f ∈ l, Bd k f) → Bd (n + (k + 1) * l.length) (l.foldl plus p) := by
  induction l with
  | nil => intro n p h _ _ _; simpa using h
  | cons x r ih =>
    intro n p h hl hp hb
    have q := plus_bd h (hb x (by simp)) hl.pos (hp x (by simp))
    have := ih q (plus_low hl.pos (hp x (by simp))) (fun f hf => hp f (by simp [hf])) fun f hf => hb f (by simp [hf])
    refine this.mono ?_
    simp only [List.length_cons, Nat.mul_add, Nat.mul_one]
    omega
theorem tot_bd {k : Nat} {l : List Q2} (hp : Pos l) (hb : ∀ f ∈ l, Bd k f) : Bd (1 + (k + 1) * l.length) (tot l) :=
  foldl_bd ⟨show (0 : Nat) < 2 ^ 1 by decide, show (1 : Nat) < 2 ^ 1 by decide⟩ low01 hp hb
end Mq

set_option Elab.async false
set_option linter.all false
set_option maxRecDepth 100000
set_option maxHeartbeats 1000000
namespace L2
open PySem PySem.Spec PyProof.Rows
section
variable {X : Cx} {e st : Expr} {te ts : TE} {p2 pos : Pos}
/-! a list turned about -/
def tRev (K : PySem.W.Frag) (te ts : TE) : TE := fun σ H Q => te σ H fun x H1 => ts σ H1 fun y H2 => ∃ a xs, x = .ref a ∧ y = .int (-1) ∧ SqL K H2 a xs ∧ ∀ p, H2 p = none → Q (.ref p) (upd H2 p (.lst xs.reverse))
theorem pe_rev (he : PE X e te) (hst : PE X st ts) : PE X (.Subscript e (.Slice none none (some st) p2) pos) (tRev X.K te ts) := by
  intro pins s σ H Q I h
  refine Subscript_ (thn (he pins s σ H _ I h) fun v s1 ⟨x, H1, I1, r1, q1⟩ => ?_)
  refine wpAny_Slice ?_
  rw [evalPart_none]
  refine wpAny_pure ?_
  rw [evalPart_some]
  refine wpAny_pure ?_
  refine thn (hst pins s1 σ H1 _ I1 q1) fun vk s3 ⟨y, H3, I3, rk, a, xs, ex, ey, hx, q⟩ => ?_
  subst ex ey
  cases r1
  obtain ⟨tk, rfl⟩ := (show ∃ t, vk = Value.int (-1) t from rk)
  have I4 : Inv X pins σ H3 { s3 with heap := s3.heap.push { cls := .type "slice", data := .fields #[.none, .none, .int (-1) tk] } } := I3.kept (t' := s3.toks) fun b ob q => Heap.get?_push_of_some _ q
  obtain ⟨its, r, ht, hz⟩ := I4.list hx
  show wpAny (model X.prog X.w) X.A (subscriptTail e (.Slice none none (some st) p2) (.ref a) (.ref s3.heap.objs.size)) (EP X pins σ Q) X.xe { s3 with heap := s3.heap.push { cls := .type "slice", data := .fields #[.none, .none, .int (-1) tk] } }
  refine tail_any (ops := [.ref a, .ref s3.heap.objs.size]) ht.isList.typeIs slot_list_getitem.lookup ?_ (by with_unfolding_all rfl)
  refine wpAny_getItem_list_slice ht.isList (Heap.IsSliceOf.new ..) .none .none (.int (-1) tk) (by decide) ?_ (by rw [List.size_toArray, ← r.length]; exact hz)
  rw [PySem.W.krv_pick]
  refine ⟨.ref _, _, I4.laid (t' := s3.toks) (o := .lst xs.reverse) (fun b ob q => Heap.get?_push_of_some _ q) (Nat.le_refl _) ?_, rfl, q _ (I4.hok.fresh (Nat.le_refl _))⟩
  exact ⟨by rw [List.length_reverse]; exact hz, _, 0, r.reverse, Heap.get?_push_size _ rfl⟩
end

/-! a def with defaults, in any world of exceptions -/
structure FunD (K : PySem.W.Frag) (x qual : Str) (st : Stmt) (dV : Value) (f : Addr) (fd : FuncData) : Prop where
  ex : ∃ (oc : Value) (od : Option Addr) (kV doc pm : Value) (an : Option Addr) (cdv ct : Value) (osl : Array (Option Value)),
    fd = PySem.W.fnOf x qual (defArgs st) (defBody st) (defScope st) dV kV doc pm an cdv ct ∧ K.lookup f = some ⟨oc, od, .func fd, osl⟩ ∧ PySem.W.codeIn K cdv qual = true
  kp : PySem.W.keepIn K (.ref f) = true
section
variable {P : Program} {w : World} {K : PySem.W.Frag} {mg : Str → Option Value} {base : Heap} {CX : CXT}
theorem FunD.okX {x qual : Str} {st : Stmt} {dV : Value} {f : Addr} {fd : FuncData} {N ps : List Str} {k : Nat} {sp : Sp} (F : FunD K x qual st dV f fd) (S : FnScope N ps (defScope st)) (len : ∀ vs H Q E, sp vs H Q E → vs.length = ps.length)
    (hbody : ∀ (cdv : Value) (A : Around) (outer : List Env) (s : Shared) (H : Hp) (vs : List V) (Q : VK) (E : XK), Room k (A.deeper (envOfC qual (defScope st) s.heap.objs.size f cdv)) → sp vs H Q E →
      ∃ t, PSs (cxOf CX P w K mg base N qual (defScope st) f cdv A outer s H E) (defBody st) t ∧ t { nx := fun _ H' => Q .non H', rt := Q } (start N vs) H) : FnOk P w K mg base CX (k + 1) f fd ps sp := by
  obtain ⟨oc, od, kV, doc, pm, an, cdv, ct, osl, rfl, lk, hcd⟩ := F.ex
  exact fn_of lk hcd S len fun A outer s H vs Q E hr hsp => hbody cdv A outer s H vs Q E hr hsp
theorem FunD.ok {x qual : Str} {st : Stmt} {dV : Value} {f : Addr} {fd : FuncData} {N ps : List Str} {k : Nat} {sp : Sp} (F : FunD K x qual st dV f fd) (S : FnScope N ps (defScope st)) (len : ∀ vs H Q E, sp vs H Q E → vs.length = ps.length)
    (hbody : ∀ (cdv : Value) (A : Around) (outer : List Env) (s : Shared) (H : Hp) (vs : List V) (Q : VK) (E : XK), Room k (A.deeper (envOfC qual (defScope st) s.heap.objs.size f cdv)) → sp vs H Q E →
      ∃ t, PSs (cxOf CX P w K mg base N qual (defScope st) f cdv A outer s H E).nox (defBody st) t ∧ t { nx := fun _ H' => Q .non H', rt := Q } (start N vs) H) : FnOk P w K mg base CX (k + 1) f fd ps sp :=
  F.okX S len fun cdv A outer s H vs Q E hr hsp => by
    obtain ⟨t, h, q⟩ := hbody cdv A outer s H vs Q E hr hsp
    exact ⟨t, h.nox, q⟩
theorem FunD.binds {x qual : Str} {st : Stmt} {dV : Value} {f : Addr} {fd : FuncData} {ps : List Str} (F : FunD K x qual st dV f fd)
    (h : ∀ (kV doc pm : Value) (an : Option Addr) (cdv ct : Value) (us : List Value), us.length = ps.length → bindArgs (PySem.W.fnOf x qual (defArgs st) (defBody st) (defScope st) dV kV doc pm an cdv ct) ⟨us, []⟩ = pure (ps.zip us)) : Binds K fd ps [] := by
  obtain ⟨oc, od, kV, doc, pm, an, cdv, ct, osl, rfl, lk, hcd⟩ := F.ex
  exact .all (h kV doc pm an cdv ct)
theorem fund_mk {x qual : Str} {st : Stmt} {dV : Value} {f : Addr} {oc : Value} {od an : Option Addr} {osl : Array (Option Value)} {kV doc pm cdv ct : Value} (l : K.lookup f = some ⟨oc, od, .func (PySem.W.fnOf x qual (defArgs st) (defBody st) (defScope st) dV kV doc pm an cdv ct), osl⟩)
    (c : PySem.W.codeIn K cdv qual = true) (k : PySem.W.keepIn K (.ref f) = true) : FunD K x qual st dV f (PySem.W.fnOf x qual (defArgs st) (defBody st) (defScope st) dV kV doc pm an cdv ct) := ⟨⟨oc, od, kV, doc, pm, an, cdv, ct, osl, rfl, l, c⟩, k⟩
end

/-! fractions as tuples -/
abbrev fT (p : Mq.Q2) : HO := .tup [.int p.1, .int p.2]
def Fq (K : PySem.W.Frag) (H : Hp) (a : Addr) (p : Mq.Q2) : Prop := SqT K H a [.int p.1, .int p.2]
theorem Same.seqT {K : PySem.W.Frag} {H H' : Hp} {a : Addr} {xs : List V} (e : Same H H') (h : SqT K H a xs) : SqT K H' a xs := by
  rcases h with (h | ⟨o, h⟩) | h
  · exact .inl (.inl (e _ _ h))
  · exact .inl (.inr ⟨o, e _ _ h⟩)
  · exact .inr h
theorem same_new {H : Hp} {p : Addr} (h : H p = none) (o : HO) : Same H (upd H p o) := fun b u q => by rw [upd_ne (ne_of_none q h)]; exact q
theorem Same.fq {K : PySem.W.Frag} {H H' : Hp} {a : Addr} {p : Mq.Q2} (e : Same H H') (h : Fq K H a p) : Fq K H' a p := e.seqT h
theorem Fq.of {K : PySem.W.Frag} {H : Hp} {a : Addr} {p : Mq.Q2} (h : H a = some (fT p)) : Fq K H a p := SqT.of h
theorem rd_ix0 {K : PySem.W.Frag} {σ : St} {H : Hp} {i : Nat} {a : Addr} {p : Mq.Q2} {Q : VK} (hv : σ[i]? = some (some (.ref a))) (h : Fq K H a p) (q : Q (.int p.1) H) : tOp (rIxT K) (tVar i) (tC (.int 0)) σ H Q :=
  ⟨_, hv, a, _, _, _, rfl, rfl, h, rfl, q⟩
theorem rd_ix1 {K : PySem.W.Frag} {σ : St} {H : Hp} {i : Nat} {a : Addr} {p : Mq.Q2} {Q : VK} (hv : σ[i]? = some (some (.ref a))) (h : Fq K H a p) (q : Q (.int p.2) H) : tOp (rIxT K) (tVar i) (tC (.int 1)) σ H Q :=
  ⟨_, hv, a, _, _, _, rfl, rfl, h, rfl, q⟩
theorem rd_mulB {H : Hp} {n m : Nat} {i j : Int} {Q : VK} (h1 : Mq.B n i) (h2 : Mq.B m j) (h3 : n ≤ 1048576) (h4 : m ≤ 1048576) (q : Q (.int (i * j)) H) : rI CBig (fun i j => .int (i * j)) (.int i) (.int j) H Q :=
  ⟨_, _, rfl, rfl, ⟨n, m, h1, h2, h3, h4⟩, q⟩
theorem rd_fdivB {H : Hp} {n : Nat} {i j : Int} {Q : VK} (h1 : j ≠ 0) (h2 : Mq.B n j) (h3 : n ≤ 9000) (q : Q (.int (i.fdiv j)) H) : rI CDivB (fun i j => .int (i.fdiv j)) (.int i) (.int j) H Q :=
  ⟨_, _, rfl, rfl, ⟨h1, n, h2, h3⟩, q⟩
/-- what the program's text leaves to the built-ins -/
structure Bl (mg : Str → Option Value) : Prop where
  isi : mg "isinstance" = none
  int : mg "int" = none
  bool : mg "bool" = none
  abs : mg "abs" = none
/-- isinstance(name in slot i, T) -/
theorem pe_isi {X : Cx} {i : Nat} {x T : Str} {T' : String} {p1 p2 p3 pos : Pos} (hN : X.N[i]? = some x) (hv : Vis X.env.scope x) (b : X.mg "isinstance" = none) (b2 : X.mg T = none) (g1 : Gl X "isinstance") (g2 : Gl X T) (hT : bootBuiltins T = some (.type T'))
    (hd : (x == ("__debug__" : Str)) = false := by decide) (hcd : (x == ("__classdict__" : Str)) = false := by decide) (hTn : T ≠ "__name__" := by decide) (hTd : (T == ("__debug__" : Str)) = false := by decide)
    (he : starEach [.Name x p2, .Name T p3] X.env = (false, eval (.Name x p2) X.env) :: starEach [.Name T p3] X.env := by rfl)
    (he2 : starEach [.Name T p3] X.env = (false, eval (.Name T p3) X.env) :: starEach [] X.env := by rfl) (hpl : (backTo pos (starEach [.Name T p3] X.env)).any (·.1) = false := by rfl) :
    PE X (.Call (.Name "isinstance" p1) [.Name x p2, .Name T p3] [] pos) (fun σ H Q => ∃ v t b, σ[i]? = some (some v) ∧ TyOf X.K H v t ∧ PySem.W.kitOne X.K t (.type T') = some b ∧ Q (.bl b) H) := by
  have h := pe_callB (X := X) (pos := pos) (p := p1) call_isi g1 b PyProof.Rows.boot_isinstance (pa_cons (pe_var (i := i) (pos := p2) hN hv hd hcd) (pa_cons (pe_bltn (v := .ty T') (pos := p3) g2 b2 hT rfl hTn hTd) pa_nil he2) he) (by decide) (by decide) he hpl
  intro pins s σ H Q I q
  obtain ⟨v, t, bb, h1, h2, h3, h4⟩ := q
  exact h pins s σ H Q I ⟨v, h1, v, T', t, bb, rfl, h2, h3, h4⟩
end L2

set_option Elab.async false
set_option linter.all false
namespace L2
open PySem PySem.Spec PyProof.Rows
/-! the promises of the first modules' defs -/
def NotWhole (t : Value) : Prop := t = .type "bool" ∨ t = .type "str" ∨ t = .type "NoneType" ∨ t = .type "tuple" ∨ t = .type "list"
def spWhole (K : PySem.W.Frag) : Sp := fun vs H Q _ => ∃ x, vs = [x] ∧ ((∃ i, x = .int i ∧ Q (.bl true) H) ∨ (∃ t, TyOf K H x t ∧ NotWhole t ∧ Q (.bl false) H))
def spGc : Sp := fun vs H Q _ => ∃ a b : Int, vs = [.int a, .int b] ∧ Q (.int (Mq.gc a b)) H
def NewF (H : Hp) (Q : VK) (p : Mq.Q2) : Prop := ∀ a H', Same H H' → H' a = some (fT p) → Q (.ref a) H'
def spFrac : Sp := fun vs H Q _ => ∃ (t b : Int) (n : Nat), vs = [.int t, .int b] ∧ b ≠ 0 ∧ Mq.B n b ∧ n ≤ 9000 ∧ NewF H Q (Mq.red t b)
def spTwo (K : PySem.W.Frag) (f : Mq.Q2 → Mq.Q2 → Mq.Q2) : Sp := fun vs H Q _ => ∃ (a b : Addr) (p q : Mq.Q2) (n m : Nat), vs = [.ref a, .ref b] ∧ Fq K H a p ∧ Fq K H b q ∧ 1 ≤ p.2 ∧ 1 ≤ q.2 ∧ Mq.Bd n p ∧ Mq.Bd m q ∧ n + m + 1 ≤ 9000 ∧ NewF H Q (f p q)
/-- addresses of fractions -/
inductive Fqs (K : PySem.W.Frag) (H : Hp) : List V → List Mq.Q2 → Prop where
  | nil : Fqs K H [] []
  | cons {a : Addr} {p : Mq.Q2} {xs : List V} {ps : List Mq.Q2} (h : Fq K H a p) (q : Fqs K H xs ps) : Fqs K H (.ref a :: xs) (p :: ps)
theorem Fqs.same {K : PySem.W.Frag} {H H' : Hp} (e : Same H H') : ∀ {xs : List V} {ps : List Mq.Q2}, Fqs K H xs ps → Fqs K H' xs ps
  | _, _, .nil => .nil
  | _, _, .cons h q => .cons (e.fq h) (Fqs.same e q)
theorem Fqs.length {K : PySem.W.Frag} {H : Hp} : ∀ {xs : List V} {ps : List Mq.Q2}, Fqs K H xs ps → xs.length = ps.length
  | _, _, .nil => rfl
  | _, _, .cons _ q => by simp [Fqs.length q]
theorem Fqs.get {K : PySem.W.Frag} {H : Hp} : ∀ {xs : List V} {ps : List Mq.Q2} {i : Nat} {x : V}, Fqs K H xs ps → xs[i]? = some x → ∃ a p, x = .ref a ∧ ps[i]? = some p ∧ Fq K H a p
  | _, _, _, _, .nil, h => by simp at h
  | _, _, 0, _, .cons h _, e => by simp at e; exact ⟨_, _, e.symm, rfl, h⟩
  | _, _, i + 1, _, .cons _ q, e => by simpa using Fqs.get q (by simpa using e)
theorem Fqs.app {K : PySem.W.Frag} {H : Hp} : ∀ {xs ys : List V} {ps qs : List Mq.Q2}, Fqs K H xs ps → Fqs K H ys qs → Fqs K H (xs ++ ys) (ps ++ qs)
  | _, _, _, _, .nil, r => r
  | _, _, _, _, .cons h q, r => .cons h (Fqs.app q r)
theorem Fqs.rev {K : PySem.W.Frag} {H : Hp} : ∀ {xs : List V} {ps : List Mq.Q2}, Fqs K H xs ps → Fqs K H xs.reverse ps.reverse
  | _, _, .nil => .nil
  | _, _, .cons h q => by rw [List.reverse_cons, List.reverse_cons]; exact (Fqs.rev q).app (.cons h .nil)
def spTot (K : PySem.W.Frag) : Sp := fun vs H Q _ => ∃ (a : Addr) (xs : List V) (ps : List Mq.Q2) (n : Nat), vs = [.ref a] ∧ SqL K H a xs ∧ Fqs K H xs ps ∧ Mq.Pos ps ∧ (∀ p ∈ ps, Mq.Bd n p) ∧ n + 1 + (1 + (n + 1) * ps.length) ≤ 9000 ∧ NewF H Q (Mq.tot ps)
end L2

set_option Elab.async false
set_option linter.all false
set_option maxHeartbeats 1000000
namespace L2
open PySem PySem.Spec PyProof.Rows
theorem Fq.upd {K : PySem.W.Frag} {H : Hp} {a l : Addr} {p : Mq.Q2} {xs : List V} {o : HO} (h : Fq K H a p) (hl : H l = some (.lst xs)) : Fq K (L2.upd H l o) a p := by
  rcases h with (h | ⟨u, h⟩) | h
  · exact .inl (.inl (by rw [upd_ne (ne_of h hl (fun z => by cases z))]; exact h))
  · exact .inl (.inr ⟨u, by rw [upd_ne (ne_of h hl (fun z => by cases z))]; exact h⟩)
  · exact .inr h
theorem Fqs.upd {K : PySem.W.Frag} {H : Hp} {l : Addr} {ys : List V} {o : HO} (hl : H l = some (.lst ys)) : ∀ {xs : List V} {ps : List Mq.Q2}, Fqs K H xs ps → Fqs K (L2.upd H l o) xs ps
  | _, _, .nil => .nil
  | _, _, .cons h q => .cons (h.upd hl) (Fqs.upd hl q)
/-- an object that was not there ahead is changed -/
theorem Same.change {H H' : Hp} {l : Addr} {o : HO} (s : Same H H') (h : H l = none) : Same H (L2.upd H' l o) := fun b u q => by
  rw [upd_ne (ne_of_none q h)]; exact s b u q
/-- fractions as data -/
def qd (p : Mq.Q2) : PyData := .tuple [.int p.1, .int p.2]
theorem Fq.dat {K : PySem.W.Frag} {H : Hp} {a : Addr} {p : Mq.Q2} (h : Fq K H a p) : DatV K H (.ref a) (qd p) := .tup h (.cons (.int _) (.cons (.int _) .nil))
theorem Fqs.dat {K : PySem.W.Frag} {H : Hp} : ∀ {xs : List V} {ps : List Mq.Q2}, Fqs K H xs ps → DatVs K H xs (ps.map qd)
  | _, _, .nil => .nil
  | _, _, .cons h q => .cons h.dat (Fqs.dat q)
theorem qd_lay (p : Mq.Q2) : (qd p).canLay0 = true := rfl
theorem qds_lay : ∀ ps : List Mq.Q2, PyData.canLayAll0 (ps.map qd) = true
  | [] => rfl
  | p :: r => by
    show ((qd p).canLay0 && PyData.canLayAll0 (r.map qd)) = true
    rw [qd_lay, qds_lay r]; rfl
theorem qd_depth (p : Mq.Q2) : (qd p).depth ≤ 1 := by simp [qd, PyData.depth, PyData.depthAll]
theorem qds_depth : ∀ ps : List Mq.Q2, PyData.depthAll (ps.map qd) ≤ 1
  | [] => by simp [PyData.depthAll]
  | p :: r => by
    have a := qd_depth p
    have b := qds_depth r
    simp only [List.map_cons, PyData.depthAll]
    omega
theorem list_depth (ps : List Mq.Q2) : (PyData.list (ps.map qd)).depth ≤ 2 := by
  have := qds_depth ps
  simp only [PyData.depth]; omega
theorem rd_eqL {K : PySem.W.Frag} {H : Hp} {a b : Addr} {xs ys : List V} {ps : List Mq.Q2} {neg : Bool} {Q : VK} (h1 : SqL K H a xs) (h2 : SqL K H b ys) (f1 : Fqs K H xs ps) (f2 : Fqs K H ys ps) (z : Q (.bl (!neg)) H) : rDat K neg (.ref a) (.ref b) H Q := by
  refine ⟨_, _, .lst h1 f1.dat, .lst h2 f2.dat, ?_, ?_, ?_, ?_⟩
  · exact qds_lay ps
  · exact qds_lay ps
  · have := list_depth ps; omega
  · have e : PyData.eqv (.list (ps.map qd)) (.list (ps.map qd)) = true := PySem.SeqAt.eqv_refl _ (qds_lay ps)
    rw [e]
    cases neg <;> exact z
end L2

set_option Elab.async false
set_option linter.all false
set_option maxHeartbeats 1000000
namespace L2
open PySem PySem.Spec PyProof.Rows
section
variable {X : Cx}
/-! is, of truths -/
end
end L2

set_option Elab.async false
set_option linter.all false
set_option maxRecDepth 100000
set_option maxHeartbeats 1000000
namespace L2
open PySem PySem.Spec PyProof.Rows

/-! ### an exception in flight: new since h0, untracked; its entry (if it has one) too -/
def Tb (h0 : Heap) (H : Hp) (h : Heap) (a : Addr) (v : Value) : Prop :=
  v = .none ∨ ∃ T oT ts, v = .ref T ∧ T ≠ a ∧ h0.get? T = none ∧ H T = none ∧ h.get? T = some oT ∧ oT.data = .fields ts ∧ ts[3]? = some .none
structure Fl (h0 : Heap) (H : Hp) (h : Heap) (a : Addr) (C : Value) (d : Option Addr) : Prop where
  new : h0.get? a = none
  free : H a = none
  at_ : ∃ oe vs v, h.get? a = some oe ∧ oe.cls = C ∧ oe.dict = d ∧ oe.data = .fields vs ∧ vs[1]? = some v ∧ Tb h0 H h a v
section
variable {M : Model} {A : Around} {E : Value → Shared → Prop} {s : Shared}
end

/-! ### the invariant where records that are new turn -/
section
variable {X : Cx} {pins : List (Addr × Obj)} {σ : List (Option V)} {H H' : Hp} {s : Shared} {h' : Heap}
/-- a def's own frame (no comprehension's block) -/
structure Frm (X : Cx) : Prop where
  ex : X.ex = []
  st : X.stack = X.env :: X.outer
  fr : X.env.frame = some X.env.locals
/-- the state where an exception has come up in this frame -/
def Lies (X : Cx) (pins : List (Addr × Obj)) (σ : List (Option V)) (H : Hp) (s : Shared) (a : Addr) (C : Value) (d : Option Addr) : Prop :=
  Inv X pins σ H s ∧ ∃ h0 : Heap, (∀ p ∈ X.pn ++ pins, h0.get? p.1 ≠ none) ∧ (∀ b o, X.s₀.heap.get? b = some o → ∃ o', h0.get? b = some o') ∧ (∀ b o, h0.get? b = some o → ∃ o', s.heap.get? b = some o') ∧ Fl h0 H s.heap a C d
end

/-! ### how an exception lies behind a call -/
def CX1 (P : Program) (w : World) : CXT := fun outer H s E e s' => ∃ a C d H', e = .ref a ∧ s'.os = s.os ∧ AllBare s'.gens ∧ Un (frs outer) [] H H' s.heap s'.heap ∧ HOk P w H' s'.heap ∧ Fl s.heap H' s'.heap a C d ∧ E C d H'
/-- what is wanted of exceptions, by the abstract heap -/
def XeOk (X : Cx) (E : XK) : Prop := ∀ (pins : List (Addr × Obj)) (σ : St) (H : Hp) (s : Shared) (a : Addr) (C : Value) (d : Option Addr), Lies X pins σ H s a C d → E C d H → X.xe (.ref a) s
section
variable {X : Cx} {pins : List (Addr × Obj)} {σ : List (Option V)} {H : Hp} {s s' : Shared} {E : XK} {e : Value}
end
end L2

set_option Elab.async false
set_option linter.all false
set_option maxRecDepth 100000
set_option maxHeartbeats 1000000
namespace L2
open PySem PySem.Spec PyProof.Rows

/-! ### raise -/
abbrev bmVE : List Value := [.type "ValueError", .type "Exception", .type "BaseException", .type "object"]
/-- an own class under ValueError, without __init__ -/
def ExcC (K : PySem.W.Frag) (C : Addr) : Prop := PySem.W.excIn K C bmVE "ValueError.__new__" = true
section
variable {X : Cx} {pins : List (Addr × Obj)} {σ : List (Option V)} {H : Hp} {s : Shared}
/-- raise C(e, ..) -/
def tRaise (C : Addr) (E : XK) (ta : TA) : TS := fun _ σ H => ta σ H fun vs H1 => vs.length ≤ sizeLine ∧ E (.ref C) none H1
end

/-! ### what may raise -/
abbrev TEX := St → Hp → VK → XK → Prop
abbrev TSX := Ends → (St → XK) → St → Hp → Prop
def XP (X : Cx) (pins : List (Addr × Obj)) (E : St → XK) (e : Value) (s' : Shared) : Prop := ∃ a C d σ' H', e = .ref a ∧ Lies X pins σ' H' s' a C d ∧ E σ' C d H'
def PX (X : Cx) (e : Expr) (t : TEX) : Prop :=
  ∀ (pins : List (Addr × Obj)) (s : Shared) (σ : St) (H : Hp) (Q : VK) (E : XK), Inv X pins σ H s → t σ H Q E → wpAny (model X.prog X.w) X.A (eval e X.env) (EP X pins σ Q) (XP X pins fun σ' C d H' => σ' = σ ∧ E C d H') s
def PSX (X : Cx) (st : Stmt) (t : TSX) : Prop :=
  ∀ (pins : List (Addr × Obj)) (s : Shared) (σ : St) (H : Hp) (D : Ends) (E : St → XK), Inv X pins σ H s → t D E σ H → wpAny (model X.prog X.w) X.A (exec st X.env) (SP X pins D) (XP X pins E) s
def PSXs (X : Cx) (st : List Stmt) (t : TSX) : Prop :=
  ∀ (pins : List (Addr × Obj)) (s : Shared) (σ : St) (H : Hp) (D : Ends) (E : St → XK), Inv X pins σ H s → t D E σ H → wpAny (model X.prog X.w) X.A (execs st X.env) (SP X pins D) (XP X pins E) s
section
variable {X : Cx} {k : Nat} {f C : Addr} {fd : FuncData} {ps : List Str} {sp : Sp} {dvs : List V} {ds : List Value} {x m : Str} {p pos apos : Pos} {e o : Expr} {es : List Expr} {ta : TE} {t : TA}
def xCall (sp : Sp) (dvs : List V) (t : TA) : TEX := fun σ H Q E => t σ H fun vs H1 => sp (vs ++ dvs) H1 Q E
/-- o.m(e, ..) that may raise -/
def xMeth (C : Addr) (m : Str) (sp : Sp) (dvs : List V) (ta : TE) (t : TA) : TEX := fun σ H Q E => ta σ H fun x H1 => ∃ a dx fs, x = .ref a ∧ H1 a = some (.ins C dx fs) ∧ fs.lookup m = none ∧ t σ H1 fun vs H2 => sp (x :: (vs ++ dvs)) H2 Q E
def xExpr (te : TEX) : TSX := fun D E σ H => te σ H (fun _ H1 => D.nx σ H1) (E σ)
def xSet (i : Nat) (te : TEX) : TSX := fun D E σ H => te σ H (fun v H1 => D.nx (σ.set i (some v)) H1) (E σ)
def xRet (te : TEX) : TSX := fun D E σ H => te σ H D.rt (E σ)
def xOf (t : TS) : TSX := fun D _ σ H => t D σ H
def xSeq (t u : TSX) : TSX := fun D E σ H => t { D with nx := u D E } E σ H
def xIf (c : TT) (t u : TSX) : TSX := fun D E σ H => c σ H fun b H1 => if b = true then t D E σ H1 else u D E σ H1
end

/-! ### the suite of an except clause -/
abbrev Cx.sup (X : Cx) (a : Addr) : Cx := { X with A := X.A.mark (some (.ref a)), calm := false, xe := fun _ _ => False }
section
variable {X : Cx} {pins : List (Addr × Obj)} {σ : List (Option V)} {H : Hp} {s : Shared} {a : Addr}
/-- an exception that was caught, as a thing -/
def excO (a : Addr) (C : Value) (d : Option Addr) : HO := .ext fun h => ∃ o vs, h.get? a = some o ∧ o.cls = C ∧ o.dict = d ∧ o.data = .fields vs
end

/-! ### try .. except -/
abbrev TH := Addr → Value → Option Addr → Ends → St → Hp → Prop
def PH (X : Cx) (hs : List ExceptHandler) (t : TH) : Prop :=
  ∀ (pins : List (Addr × Obj)) (s : Shared) (σ : St) (H : Hp) (D : Ends) (a : Addr) (C : Value) (d : Option Addr), Lies X pins σ H s a C d → t a C d D σ H → wpAny (model X.prog X.w) X.A (handleBy (.ref a) X.env hs) (SP X pins D) X.xe s
section
variable {X : Cx} {pos np : Pos} {T : Str} {tc : Value} {b₀ : Stmt} {suite : List Stmt} {rest : List ExceptHandler} {ts : TS} {tr : TH}
def hNever : TH := fun _ _ _ _ _ _ => False
/-- the class that an except clause names -/
def NameC (X : Cx) (T : Str) (c : Value) : Prop := X.mg T = some c ∨ (X.mg T = none ∧ bootBuiltins T = some c ∧ T ≠ "__name__")
def hTest (K : PySem.W.Frag) (tc : Value) (ts : TS) (tr : TH) : TH := fun a C d D σ H => ∃ b, PySem.W.exmOne K C tc = some b ∧ if b = true then ts D σ H else tr a C d D σ H
/-- except T as n: .. -/
def hTestAs (K : PySem.W.Frag) (tc : Value) (j : Nat) (ts : TS) (tr : TH) : TH := fun a C d D σ H => ∃ b, PySem.W.exmOne K C tc = some b ∧
  if b = true then ts { nx := fun σ' H' => D.nx (σ'.set j none) H', rt := D.rt, bk := fun σ' H' => D.bk (σ'.set j none) H', ct := fun σ' H' => D.ct (σ'.set j none) H' } (σ.set j (some (.ref a))) (upd H a (excO a C d)) else tr a C d D σ H
def tTry (tb : TSX) (to : TS) (th : TH) : TS := fun D σ H => tb { D with nx := to D } (fun σ' C d H' => ∀ a, H' a = none → th a C d D σ' H') σ H
end

/-! ### isinstance of an exception -/
structure ExcK (K : PySem.W.Frag) (C : Addr) : Prop where
  ga : PySem.W.findIn K (.ref C) "__getattribute__" = some (some (.builtin "BaseException.__getattribute__"))
  gn : PySem.W.findIn K (.ref C) "__getattr__" = some none
  bx : PySem.W.mroIn K C (.type "BaseException") = some true
  ob : PySem.W.mroIn K C (.type "object") = some true
  ca : PySem.W.findIn K (.ref C) "__class__" = some (some (.builtin "object.__class__"))
  hn : PySem.W.specialIn K (.builtin "object.__class__") "__get__" = some (some (.builtin "getset_descriptor.__get__"))
  tk : PySem.W.takesIn K (.builtin "object.__class__") = some true
  cl : (PySem.W.clsIn K C).isSome = true
end L2

set_option Elab.async false
set_option linter.all false
set_option maxRecDepth 100000
set_option maxHeartbeats 1000000
namespace L2
open PySem PySem.Spec PyProof.Rows

/-! ### an attribute of an exception of an own class -/
section
variable {prog : Program} {w : World} {A : Around} {E : Value → Shared → Prop} {s : Shared} {K : PySem.W.Frag} {x D : Addr} {ox : Obj} {odo : Option Obj} {name : Str}
end
/-! ### isinstance -/
section
variable {X : Cx}
end
end L2

set_option maxHeartbeats 1000000
namespace Mq
theorem times_low {p q : Q2} (hp : 1 ≤ p.2) (hq : 1 ≤ q.2) : Low (times p q) := red_low (mul_ne hp hq)
theorem times_bd {n m : Nat} {p q : Q2} (h : Bd n p) (g : Bd m q) (hp : 1 ≤ p.2) (hq : 1 ≤ q.2) : Bd (n + m) (times p q) := by
  have k := red_le (t := p.1 * q.1) (mul_ne hp hq)
  exact ⟨(h.a.mul g.a).le k.1, (h.b.mul g.b).le k.2⟩
end Mq

set_option Elab.async false
set_option linter.all false
set_option maxHeartbeats 1000000
namespace L2
open PySem PySem.Spec PyProof.Rows
/-- no whole number -/
def NW (K : PySem.W.Frag) (H : Hp) (x : V) : Prop := ∃ t, TyOf K H x t ∧ NotWhole t
/-- what fraction refuses -/
def BadF (K : PySem.W.Frag) (H : Hp) (x y : V) : Prop := NW K H x ∨ (∃ t, x = .int t) ∧ (NW K H y ∨ y = .int 0)
def spFracX (K : PySem.W.Frag) (CN : Addr) : Sp := fun vs H Q E => ∃ x y, vs = [x, y] ∧
  ((∃ (t b : Int) (n : Nat), x = .int t ∧ y = .int b ∧ b ≠ 0 ∧ Mq.B n b ∧ n ≤ 9000 ∧ NewF H Q (Mq.red t b)) ∨ (BadF K H x y ∧ E (.ref CN) none H))
def spOver (K : PySem.W.Frag) (CN : Addr) : Sp := fun vs H Q E => ∃ (a b : Addr) (p q : Mq.Q2) (n m : Nat), vs = [.ref a, .ref b] ∧ Fq K H a p ∧ Fq K H b q ∧ 1 ≤ p.2 ∧ 1 ≤ q.2 ∧ Mq.Bd n p ∧ Mq.Bd m q ∧ n + m + 1 ≤ 9000 ∧
  ((q.1 ≠ 0 ∧ NewF H Q (Mq.over p q)) ∨ (q.1 = 0 ∧ E (.ref CN) none H))
def spUnder (K : PySem.W.Frag) : Sp := fun vs H Q _ => ∃ (a b : Addr) (p q : Mq.Q2) (n m : Nat), vs = [.ref a, .ref b] ∧ Fq K H a p ∧ Fq K H b q ∧ Mq.Bd n p ∧ Mq.Bd m q ∧ n + m + 1 ≤ 9000 ∧ Q (.bl (decide (p.1 * q.2 < q.1 * p.2))) H
/-- _law_pick -/
def pickN (ns : List Int) (k : Nat) : Int := ns.getD k 0
def spPick (K : PySem.W.Frag) : Sp := fun vs H Q _ => ∃ (a : Addr) (ns : List Int) (j : Int) (k : Nat), vs = [.ref a, .int j] ∧ j = (k : Int) ∧ SqL K H a (ns.map V.int) ∧ ns.length ≤ 63 ∧ ∀ H', Same H H' → Q (.int (pickN ns k)) H'
end L2

set_option Elab.async false
set_option linter.all false
set_option maxRecDepth 100000
set_option maxHeartbeats 2000000
namespace L2
open PySem PySem.Spec PyProof.Rows

/-! ### list comprehensions -/
section
variable {prog : Program} {w : World} {A : Around} {R : Result → Shared → Prop} {s : Shared}
abbrev tests (ifs : List Expr) (env : Env) : Sem Bool := forIn ifs true fun c r => if r = true then do let ok ← isTrue c env (eval c env); pure (ForInStep.yield ok) else pure (ForInStep.yield r)
theorem comp_loop {elt target iter : Expr} {ifs : List Expr} {scope : Scope} {pos : Pos} {it acc : Value} {env : Env} (I : Nat → Shared → Prop)
    (turn : ∀ n s, I n s → wpAny (model prog w) A (pyNext it) (fun r s₁ => match r with
      | none => R (.ok .next) s₁
      | some v => wpAny (model prog w) A (letOwnedTupleGo target it v) (fun _ s₀ => wpAny (model prog w) A (assign target env v) (fun _ s₂ =>
          wpAny (model prog w) A (tests ifs env) (fun ok s₃ =>
            if ok = true then wpAny (model prog w) A (eval elt env) (fun x s₄ =>
              wpAny (model prog w) A (call (.builtin "list.append") [acc, x]) (fun _ s₅ => ∃ m, m < n ∧ I m s₅) (fun _ _ => False) s₄) (fun _ _ => False) s₃
            else ∃ m, m < n ∧ I m s₃) (fun _ _ => False) s₂) (fun _ _ => False) s₀) (fun _ _ => False) s₁) (fun _ _ => False) s)
    (n : Nat) (h : I n s) :
    codeAny (model prog w) A (.compLoop (.ListComp elt [⟨target, iter, ifs, 0⟩] scope pos) 0 it acc env) R s := by
  refine codeAny_loop rfl I (fun n s hI => ?_) n h
  show wpAny _ A ((compTurn (.ListComp elt [⟨target, iter, ifs, 0⟩] scope pos) 0 it acc env).onRaise (fun x => do noteFrame x env; theTreesLotGoes x)) _ _ s
  refine wpAny_noted ?_
  rw [compTurn_list]
  refine wpAny_bind (wpAny_standAt (wpAny_bind (wpAny_mono (turn n s hI) (fun r s₁ h₁ => ?_) fun _ _ z => z.elim)))
  cases r with
  | none => exact wpAny_pure h₁
  | some v =>
    refine wpAny_bind (wpAny_mono h₁ (fun _ s₀ h₀ => ?_) fun _ _ z => z.elim)
    refine wpAny_bind (wpAny_mono h₀ (fun _ s₂ h₂ => wpAny_bind (wpAny_mono h₂ (fun ok s₃ h₃ => ?_) fun _ _ z => z.elim)) fun _ _ z => z.elim)
    cases ok with
    | false => exact wpAny_pure ⟨rfl, h₃⟩
    | true =>
      rw [if_pos rfl] at h₃
      show wpAny _ _ ((do let _ ← call (.builtin "list.append") [acc, ← eval elt env]) >>= fun _ => again (.compLoop (.ListComp elt [⟨target, iter, ifs, 0⟩] scope pos) 0 it acc env)) _ _ _
      exact wpAny_bind (wpAny_bind (wpAny_mono h₃ (fun x s₄ h₄ => wpAny_bind (wpAny_mono h₄ (fun _ s₅ h₅ => wpAny_pure (wpAny_pure ⟨rfl, h₅⟩)) fun _ _ z => z.elim)) fun _ _ z => z.elim))
end

/-- a comprehension's names: its own first (nl of them), then those of the def around it that it reads, at the slots fr there -/
structure CompOk (X : Cx) (scope : Scope) (cl : List (Str × Addr)) (Nc : List Str) (nl : Nat) (fr : List Nat) : Prop where
  clos : closureFor scope X.env = pure cl
  kind : scope.kind = .function
  names : ∀ y ∈ scope.names, y.2 = .local → scope.names.lookup y.1 = some .local
  cell : ∀ y ∈ scope.names, y.2 ≠ .cell
  sub : ∀ x c, cl.lookup x = some c → X.env.cells.lookup x = some c
  has : ∀ x, (relabel scope X.env).names.lookup x = some .cell ∨ (relabel scope X.env).names.lookup x = some .free → ∃ c, cl.lookup x = some c
  len : Nc.length = nl + fr.length
  tail : ∀ i n, Nc[nl + i]? = some n → ∃ j, fr[i]? = some j ∧ X.N[j]? = some n ∧ X.env.kindOf n = some .cell ∧ cl.lookup n = X.env.cells.lookup n ∧ ((relabel scope X.env).names.lookup n = some .cell ∨ (relabel scope X.env).names.lookup n = some .free)
abbrev compCx (X : Cx) (scope : Scope) (cl : List (Str × Addr)) (Nc : List Str) (C : Addr) (s3 : Shared) (H3 : Hp) (fp : List Addr) (pins : List (Addr × Obj)) : Cx :=
  { X with N := Nc, s₀ := s3, H₀ := H3, env := compEnvC scope cl C X.env, outer := X.stack, ex := fp, fn := fun _ => false, pn := X.pn ++ pins, xe := fun _ _ => False }
def σC (nl : Nat) (fr : List Nat) (σ : St) : St := List.replicate nl none ++ fr.map fun j => (σ[j]?).join
abbrev PIf (X : Cx) (ifs : List Expr) (t : TT) : Prop :=
  ∀ (pins : List (Addr × Obj)) (s : Shared) (σ : St) (H : Hp) (Q : Bool → Hp → Prop), Inv X pins σ H s → t σ H Q → wpAny (model X.prog X.w) X.A (tests ifs X.env) (TP X pins σ Q) X.xe s
theorem pif_nil {X : Cx} : PIf X [] (fun _ H Q => Q true H) := fun _ _ _ H _ I h => wpAny_pure ⟨H, I, h⟩
section
variable {X : Cx} {scope : Scope} {cl : List (Str × Addr)} {Nc : List Str} {nl : Nat} {fr : List Nat} {pins : List (Addr × Obj)} {σ : St} {H3 : Hp} {s3 : Shared} {fp : List Addr} {h4 : Heap} {tk : Nat}
theorem comp_start (ck : CompOk X scope cl Nc nl fr) (I : Inv X pins σ H3 s3) (hf : ∀ b ∈ fp, FpOk X pins H3 b) (hfs : ∀ b ∈ fp, b < s3.heap.objs.size)
    (hns : h4.Ns s3.heap.objs.size fun _ => none) (hk : ∀ b o, s3.heap.get? b = some o → h4.get? b = some o) :
    Inv (compCx X scope cl Nc s3.heap.objs.size s3 H3 fp pins) [] (σC nl fr σ) H3 { s3 with heap := h4, toks := tk } := by
  have stk : ∀ b ∈ frs X.stack, b ∈ X.env.locals :: X.fs := I.stkSub
  have nfs : ∀ b, b ≠ X.env.locals → b ∉ X.fs → b ∉ frs X.stack := fun b h1 h2 z => (List.mem_cons.mp (stk b z)).elim h1 h2
  have ltc : ∀ x c, cl.lookup x = some c → c < s3.heap.objs.size := fun x c e => by
    obtain ⟨v, z⟩ := I.cell x c (ck.sub x c e)
    exact z.lt
  refine ⟨⟨I.ok.mod, ck.kind, I.ok.glob, I.ok.blt, Nat.le_refl _, fun x y c h1 h2 => I.ok.inj x y c (ck.sub x c h1) (ck.sub y c h2), fun x hx => ck.has x hx, fun x c hz => Bool.noConfusion hz, I.ok.hd, I.ok.frames, .inl rfl, fun b hb => ?_, I.bs, Nat.le_trans I.ok.bsz I.sz, fun b o e hb => ?_, fun b hb => ?_, I.stack, I.stkFree⟩,
    rfl, I.bare, Un.kept hk, ⟨_, hns, fun i x v h1 h2 h3 => ?_⟩, fun x c e => ?_, I.hok.fresh (Nat.le_refl _), fun x c e => I.freeC x c (ck.sub x c e), fun p hp => ?_, I.hok.kept hk, ?_⟩
  · obtain ⟨f0, f1, f2, f3, f4, f5⟩ := hf b hb
    exact ⟨Nat.ne_of_lt (hfs b hb), fun x c e => f4 x c (ck.sub x c e)⟩
  · obtain ⟨f0, f1, f2, f3, f4, f5⟩ := hf b hb
    rcases f3 with z | z
    · exact I.ok.noex b o e z
    · exact absurd (Nat.lt_of_lt_of_le (Heap.lt_size e) (Nat.le_trans I.ok.bsz z)) (Nat.lt_irrefl _)
  · obtain ⟨f0, f1, f2, f3, f4, f5⟩ := hf b hb
    exact nfs b f1 f2
  · -- a name's value
    unfold σC at h2
    by_cases hi : i < nl
    · rw [List.getElem?_append_left (by simpa using hi), List.getElem?_replicate] at h2
      split at h2 <;> cases h2
    · have hi' : nl ≤ i := by omega
      rw [List.getElem?_append_right (by simpa using hi'), List.length_replicate, List.getElem?_map] at h2
      obtain ⟨k, rfl⟩ : ∃ k, i = nl + k := ⟨i - nl, by omega⟩
      obtain ⟨j, e1, e2, e3, e4, e5⟩ := ck.tail k x h1
      rw [Nat.add_sub_cancel_left, e1] at h2
      have h2' : (σ[j]?).join = some v := by simpa using h2
      have h2'' : σ[j]? = some (some v) := by
        cases q : σ[j]? with
        | none => rw [q] at h2'; cases h2'
        | some z => rw [q] at h2'; exact congrArg some h2'
      obtain ⟨m, hn, hl⟩ := I.loc
      obtain ⟨u, r, l⟩ := hl j x v e2 h2'' (.inr (.inl e3))
      refine ⟨u, r, ?_⟩
      rcases l with ⟨k1, _⟩ | ⟨k1, c, ec, z⟩
      · rw [e3] at k1; cases k1
      · obtain ⟨o, ho, hd⟩ := z
        exact .inr ⟨e5, c, by show cl.lookup x = some c; rw [e4]; exact ec, o, hk _ _ ho, hd⟩
  · obtain ⟨v, o, ho, hd⟩ := I.cell x c (ck.sub x c e)
    exact ⟨v, o, hk _ _ ho, hd⟩
  · have hp' : p ∈ X.pn ++ pins := by simpa using hp
    obtain ⟨e, n, ne, nf, d⟩ := I.pin p hp'
    exact ⟨hk _ _ e, n, Nat.ne_of_lt (Heap.lt_size e), nfs _ ne nf, d⟩
  · unfold σC
    show _ = Nc.length
    rw [List.length_append, List.length_replicate, List.length_map, ck.len]
/-- behind the block -/
theorem comp_end {pins' : List (Addr × Obj)} {σ' : St} {H' : Hp} {s' : Shared} (I : Inv X pins σ H3 s3) (hf : ∀ b ∈ fp, FpOk X pins H3 b)
    (J : Inv (compCx X scope cl Nc s3.heap.objs.size s3 H3 fp pins) pins' σ' H' s') : Inv X pins σ H' s' ∧ FpOk X pins H' s3.heap.objs.size := by
  refine ⟨I.call' (ch := fp) J.os J.base J.hok J.bare fun b hb => ?_, I.fpOk (Nat.le_refl _) J.free⟩
  obtain ⟨f0, f1, f2, f3, f4, f5⟩ := hf b hb
  exact ⟨f3, f1, f4, f5⟩
theorem Inv.off {b : Addr} {H : Hp} {s : Shared} {h' : Heap} (I : Inv X pins σ H s) (f : FpOk X pins H b) (hs : Heap.SameBut b s.heap h') : Inv X pins σ H { s with heap := h' } := by
  obtain ⟨f0, f1, f2, f3, f4, f5⟩ := f
  exact I.turned (t' := s.toks) (it := b) (fun c o hb e => (hs.2 c hb).trans e) f0 f1 f3 f4 f5
end

/-- what a comprehension's walk asks, by the iterator -/
def CompW (J : It) (nl : Nat) (fr : List Nat) (g : TG) (tt : TT) (te : TE) (σ : St) (D : Addr) (H1 : Hp) (Q : VK) : Prop :=
  ∃ W : Nat → Nat → List V → Hp → Prop, (∃ m, W 0 m [] (upd H1 D (.lst []))) ∧ ∀ i m ys H2, W i m ys H2 → H2 D = some (.lst ys) ∧
    ((J.stop i H2 ∧ Q (.ref D) H2) ∨ (J.go i H2 ∧ ∀ x H3, J.yld i H2 x H3 → g x (σC nl fr σ) H3 fun σ2 H4 => σ2.length = (σC nl fr σ).length ∧ (∀ (i : Nat) v, (σC nl fr σ)[i]? = some (some v) → σ2[i]? = some (some v)) ∧
      tt σ2 H4 fun b H5 => if b = true then te σ2 H5 fun y H6 => H6 D = some (.lst ys) ∧ ys.length < sizeLine ∧ ∃ m', m' < m ∧ W (i + 1) m' (ys ++ [y]) (upd H6 D (.lst (ys ++ [y])))
        else ∃ m', m' < m ∧ W (i + 1) m' ys H5))
/-- [elt for tg in iter if ..] -/
def tComp (wi : TI) (nl : Nat) (fr : List Nat) (g : TG) (tt : TT) (te : TE) : TE := fun σ H Q => wi σ H fun J H1 => ∀ D, H1 D = none → CompW J nl fr g tt te σ D H1 Q
section
variable {X : Cx} {scope : Scope} {cl : List (Str × Addr)} {Nc : List Str} {nl : Nat} {fr : List Nat} {elt tg iter : Expr} {ifs : List Expr} {pos : Pos} {wi : TI} {g : TG} {tt : TT} {te : TE}
theorem comp_run (hc : X.calm = true) (ck : CompOk X scope cl Nc nl fr) (hi : PI X tg iter wi)
    (hg : ∀ C s3 H3 fp pins, PG (compCx X scope cl Nc C s3 H3 fp pins) tg g) (ht : ∀ C s3 H3 fp pins, PIf (compCx X scope cl Nc C s3 H3 fp pins) ifs tt) (he : ∀ C s3 H3 fp pins, PE (compCx X scope cl Nc C s3 H3 fp pins) elt te)
    {pins : List (Addr × Obj)} {s : Shared} {σ : St} {H : Hp} {Q : VK} (I : Inv X pins σ H s) (h : tComp wi nl fr g tt te σ H Q) {RR : Value → Addr → Result → Shared → Prop}
    (fin : ∀ D C s', (∃ H', (∃ m, s'.heap.Ns C m) ∧ Inv X pins σ H' s' ∧ FpOk X pins H' C ∧ Q (.ref D) H') → RR (.ref D) C (.ok .next) s') :
    wpAny (model X.prog X.w) X.A (eval iter X.env) (fun x s₁ => wpAny (model X.prog X.w) X.A (pyIter x) (fun it s₂ => wpAny (model X.prog X.w) X.A (newList []) (fun acc s₃ =>
      wpAny (model X.prog X.w) X.A (newFunctionEnv scope X.env.globals cl [] X.env.qual none .none (some X.env)) (fun cenv s₄ =>
        codeAny (model X.prog X.w) X.A (.compStart (.ListComp elt [⟨tg, iter, ifs, 0⟩] scope pos) 0 it acc { cenv with scope := relabel scope X.env }) (RR acc cenv.locals) s₄) X.xe s₃) X.xe s₂) X.xe s₁) X.xe s := by
  refine thn (hi pins s σ H _ I h) fun v s1 h1 => thn h1 fun itv s2 h2 => ?_
  obtain ⟨it, fp, tn, J, H2, e, I2, T, st2, f2, hD⟩ := h2
  subst e
  have hn2 : H2 s2.heap.objs.size = none := I2.hok.fresh (Nat.le_refl _)
  obtain ⟨W, ⟨m0, w0⟩, turn⟩ := hD s2.heap.objs.size hn2
  refine wpAny_newObj_type (wpAny_newFunctionEnv ck.cell (by intro y hy; simp at hy) (fun h4 hns hsb => ?_) ck.kind)
  dsimp only at hns hsb ⊢
  have I3 : Inv X pins σ (upd H2 s2.heap.objs.size (.lst [])) { s2 with heap := s2.heap.push { cls := .type "list", dict := none, data := .seq ([] : List Value).toArray } } :=
    I2.laid (t' := s2.toks) (fun b u e => Heap.get?_push_of_some _ e) (Nat.le_refl _) ⟨Nat.zero_le _, [], 0, .nil, Heap.get?_push_size _ rfl⟩
  have hfs : ∀ b ∈ fp, b < s2.heap.objs.size := fun b hb => by
    obtain ⟨o, e, _⟩ := T.obj 0 _ st2 b hb
    exact Heap.lt_size e
  have f3 : ∀ b ∈ fp, FpOk X pins (upd H2 s2.heap.objs.size (.lst [])) b := fun b hb => ⟨by rw [upd_ne (Nat.ne_of_lt (hfs b hb))]; exact (f2 b hb).1, (f2 b hb).2⟩
  generalize hH3 : upd H2 s2.heap.objs.size (.lst []) = H3 at *
  generalize hs3 : ({ s2 with heap := s2.heap.push { cls := .type "list", dict := none, data := .seq ([] : List Value).toArray } } : Shared) = s3 at *
  have z3 : s3.heap = s2.heap.push { cls := .type "list", dict := none, data := .seq ([] : List Value).toArray } := by rw [← hs3]
  have hsz3 : s3.heap.objs.size = s2.heap.objs.size + 1 := by rw [z3, Heap.size_push]
  rw [← z3] at hns hsb ⊢
  have hk4 : ∀ b o, s3.heap.get? b = some o → h4.get? b = some o := fun b o e => hsb.extBut b o (Nat.ne_of_lt (Heap.lt_size e)) (Heap.get?_push_of_some _ e)
  have hfs3 : ∀ b ∈ fp, b < s3.heap.objs.size := fun b hb => Nat.lt_of_lt_of_le (hfs b hb) (by rw [hsz3]; exact Nat.le_succ _)
  have hns' : h4.Ns s3.heap.objs.size fun _ => none := by simpa using hns
  have K0 := fun tk => comp_start (tk := tk) ck I3 f3 hfs3 hns' hk4
  have stat : ∀ {H' : Hp}, (∀ b ∈ fp, H' b = none) → ∀ b ∈ fp, FpOk (compCx X scope cl Nc s3.heap.objs.size s3 H3 fp pins) [] H' b := fun {H'} hn b hb => by
    obtain ⟨f0, g1, g2, g3, g4, g5⟩ := f3 b hb
    refine ⟨hn b hb, Nat.ne_of_lt (hfs3 b hb), fun z => ?_, .inl hb, fun x c e => g4 x c (ck.sub x c e), fun p hp => g5 p (by simpa using hp)⟩
    exact (List.mem_cons.mp (I3.stkSub b z)).elim g1 g2
  have st4 : tn 0 h4 := T.keep 0 _ _ st2 fun b hb o e => hk4 b o (by rw [z3]; exact Heap.get?_push_of_some _ e)
  have loop : ∀ tk, codeAny (model X.prog X.w) X.A (.compLoop (.ListComp elt [⟨tg, iter, ifs, 0⟩] scope pos) 0 (.ref it) (.ref s2.heap.objs.size) (compEnvC scope cl s3.heap.objs.size X.env)) (RR (.ref s2.heap.objs.size) s3.heap.objs.size) { s3 with heap := h4, toks := tk } := by
    intro tk
    refine comp_loop (fun n s' => ∃ i ys H', Inv (compCx X scope cl Nc s3.heap.objs.size s3 H3 fp pins) [] (σC nl fr σ) H' s' ∧ tn i s'.heap ∧ (∀ b ∈ fp, H' b = none) ∧ W i n ys H') ?_ m0 ⟨0, [], H3, K0 tk, st4, fun b hb => (f3 b hb).1, w0⟩
    rintro n s5 ⟨i, ys, H5, I5, st5, fr5, w5⟩
    obtain ⟨hl5, q5⟩ := turn i n ys H5 w5
    rcases q5 with ⟨stop, qn⟩ | ⟨go, step⟩
    · refine wpAny_mono (T.done (compCx X scope cl Nc s3.heap.objs.size s3 H3 fp pins) rfl rfl rfl hc i [] s5 (σC nl fr σ) H5 (fun _ _ => False) I5 (stat fr5) st5 stop) (fun r s6 h6 => ?_) fun _ _ z => z
      obtain ⟨hr, I6⟩ := h6
      subst hr
      obtain ⟨z1, z2⟩ := comp_end I3 f3 I6
      refine fin _ _ _ ⟨H5, ?_, z1, z2, qn⟩
      obtain ⟨m, hm, _⟩ := I6.loc
      exact ⟨m, hm⟩
    · refine wpAny_mono (T.item (compCx X scope cl Nc s3.heap.objs.size s3 H3 fp pins) rfl rfl rfl hc i [] s5 (σC nl fr σ) H5 (fun _ _ => False) I5 (stat fr5) st5 go) (fun r s6 h6 => ?_) fun _ _ z => z
      obtain ⟨u, hr, h6⟩ := h6
      subst hr
      refine wpAny_mono h6 (fun _ s7 h7 => ?_) fun _ _ z => z
      obtain ⟨x, H7, I7, r7, y7, st7, fr7⟩ := h7
      have I7' := I7.pinned (stat fr7) (T.obj _ _ st7)
      refine wpAny_mono (hg s3.heap.objs.size s3 H3 fp pins _ s7 _ H7 x u _ I7' r7 (step x H7 y7)) (fun _ s8 h8 => ?_) fun _ _ z => z
      obtain ⟨σ8, H8, I8, l8, k8, q8⟩ := h8
      refine wpAny_mono (ht s3.heap.objs.size s3 H3 fp pins _ s8 σ8 H8 _ I8 q8) (fun b s9 h9 => ?_) fun _ _ z => z
      obtain ⟨H9, I9, q9⟩ := h9
      have again : ∀ {ys' : List V} {H' : Hp} {s' : Shared} {m' : Nat}, Inv (compCx X scope cl Nc s3.heap.objs.size s3 H3 fp pins) ([] ++ pinsAt fp s7.heap) σ8 H' s' → m' < n → W (i + 1) m' ys' H' →
          ∃ m, m < n ∧ ∃ i ys H', Inv (compCx X scope cl Nc s3.heap.objs.size s3 H3 fp pins) [] (σC nl fr σ) H' s' ∧ tn i s'.heap ∧ (∀ b ∈ fp, H' b = none) ∧ W i m ys H' := fun {ys' H' s' m'} I' hm w' => by
        refine ⟨m', hm, i + 1, ys', H', I'.unpinned.weak l8.symm k8, T.keep _ _ _ st7 fun b hb o e => (I'.pin (b, o) (List.mem_append_right _ (List.mem_append_right _ (mem_pinsAt hb e)))).1, fun b hb => ?_, w'⟩
        obtain ⟨o, e, d⟩ := T.obj _ _ st7 b hb
        exact (I'.pin (b, o) (List.mem_append_right _ (List.mem_append_right _ (mem_pinsAt hb e)))).2.1
      cases b with
      | false =>
        rw [if_neg Bool.false_ne_true] at q9 ⊢
        obtain ⟨m', hm, w9⟩ := q9
        exact again I9 hm w9
      | true =>
        rw [if_pos rfl] at q9 ⊢
        refine wpAny_mono (he s3.heap.objs.size s3 H3 fp pins _ s9 σ8 H9 _ I9 q9) (fun yv s10 h10 => ?_) fun _ _ z => z
        obtain ⟨y, H10, I10, r10, hl10, hz10, m', hm, w10⟩ := h10
        refine wpAny_mono (mt_append (X := compCx X scope cl Nc s3.heap.objs.size s3 H3 fp pins) _ s10 σ8 H10 (.ref s2.heap.objs.size) [y] _ [yv] (fun v H' => H' = upd H10 s2.heap.objs.size (.lst (ys ++ [y]))) I10 rfl (.cons r10 .nil) ⟨_, ys, y, rfl, rfl, hl10, hz10, rfl⟩) (fun _ s11 h11 => ?_) fun _ _ z => z
        obtain ⟨_, H11, I11, _, e11⟩ := h11
        subst e11
        exact again I11 hm w10
  have L := loop (s2.toks + ([] : List (Str × Value)).length)
  rw [show s3.gens = s2.gens by rw [← hs3], show s3.drawn = s2.drawn by rw [← hs3], show s3.os = s2.os by rw [← hs3]] at L
  exact codeAny_compStart_list L (T.self _ 0 _ _ _ st4 L)
theorem pe_comp (hc : X.calm = true) (ck : CompOk X scope cl Nc nl fr) (hi : PI X tg iter wi)
    (hg : ∀ C s3 H3 fp pins, PG (compCx X scope cl Nc C s3 H3 fp pins) tg g) (ht : ∀ C s3 H3 fp pins, PIf (compCx X scope cl Nc C s3 H3 fp pins) ifs tt) (he : ∀ C s3 H3 fp pins, PE (compCx X scope cl Nc C s3 H3 fp pins) elt te)
    (hs : ∀ x, foldedSetIterable iter X.env x = pure x := by intro _; rfl) : PE X (.ListComp elt [⟨tg, iter, ifs, 0⟩] scope pos) (tComp wi nl fr g tt te) := by
  intro pins s σ H Q I h
  rw [eval_ListComp]
  refine wpAny_comprehension_free (use := none) rfl hs ck.clos ck.kind ck.names (comp_run (RR := fun acc C => compPost (model X.prog X.w) X.A X.xe none (EP X pins σ Q) acc C) hc ck hi hg ht he I h fun D C s' hh => ?_)
  obtain ⟨H', ⟨m, hm⟩, hI, hF, q⟩ := hh
  exact ⟨m, hm, fun h' hs' => ⟨.ref D, H', hI.off hF hs', rfl, q⟩⟩
/-- y = [..] (the store comes ahead of the block's end) -/
theorem ps_setC {i : Nat} {y : Str} {py spos : Pos} (hN : X.N.Nodup) (hiy : X.N[i]? = some y) (hy : X.env.scope.names.lookup y = some .local) (hc : X.calm = true) (ck : CompOk X scope cl Nc nl fr) (hi : PI X tg iter wi)
    (hg : ∀ C s3 H3 fp pins, PG (compCx X scope cl Nc C s3 H3 fp pins) tg g) (ht : ∀ C s3 H3 fp pins, PIf (compCx X scope cl Nc C s3 H3 fp pins) ifs tt) (he : ∀ C s3 H3 fp pins, PE (compCx X scope cl Nc C s3 H3 fp pins) elt te)
    (hsw : swapsWith (.ListComp elt [⟨tg, iter, ifs, 0⟩] scope pos) (some (.Name y py)) spos.line X.env = pure true)
    (hs : ∀ x, foldedSetIterable iter X.env x = pure x := by intro _; rfl) : PS X (.Assign [.Name y py] (.ListComp elt [⟨tg, iter, ifs, 0⟩] scope pos) spos) (tAsg (tComp wi nl fr g tt te) (gName i)) := by
  intro pins s σ H D I h
  rw [exec_Assign_Name_used _ _ _ _ hsw]
  refine wpAny_bind (wpAny_standAt (wpAny_bind ?_))
  show wpAny _ X.A (do let _ ← comprehension (.ListComp elt [⟨tg, iter, ifs, 0⟩] scope pos) scope X.env _ (newList []) false (eval iter X.env) (some (assign (.Name y py) X.env))) _ _ s
  refine wpAny_bind (wpAny_mono (wpAny_comprehension_free (use := some (assign (.Name y py) X.env)) (Q := fun _ s' => SP X pins D .next s') rfl hs ck.clos ck.kind ck.names
    (comp_run (RR := fun acc C => compPost (model X.prog X.w) X.A X.xe (some (assign (.Name y py) X.env)) (fun _ s' => SP X pins D .next s') acc C) hc ck hi hg ht he I h fun Dd C s' hh => ?_)) (fun _ s' hq => wpAny_pure (wpAny_pure hq)) fun _ _ e => e)
  obtain ⟨H', ⟨m, hm⟩, hI, hF, q⟩ := hh
  show wpAny _ X.A (assign (.Name y py) X.env (.ref Dd)) _ _ _
  refine wpAny_assign_Name (store_ok2 hI hN hiy (.inl hy) (v := .ref Dd) rfl (fun s2 I2 hsb => ?_) (.inr hy))
  obtain ⟨a, sb, ha⟩ := hsb
  have hCa : C ≠ a := by
    rcases ha with z | z
    · rw [z]; exact hF.2.1
    · exact Ne.symm (hF.2.2.2.2.1 y a z)
  refine ⟨m, hm.sameBut sb hCa, fun h' hs' => ⟨_, H', I2.off hF hs', q⟩⟩
end
end L2

set_option Elab.async false
set_option linter.all false
set_option maxRecDepth 100000
set_option maxHeartbeats 2000000
namespace L2
open PySem PySem.Spec PyProof.Rows
/-- one turn -/
abbrev CompT (nl : Nat) (fr : List Nat) (g : TG) (tt : TT) (te : TE) (σ : St) (D : Addr) (Pv : Nat → List V → Hp → Prop) (i : Nat) (ys : List V) (x : V) (H : Hp) : Prop :=
  g x (σC nl fr σ) H fun σ2 H4 => σ2.length = (σC nl fr σ).length ∧ (∀ (i : Nat) v, (σC nl fr σ)[i]? = some (some v) → σ2[i]? = some (some v)) ∧
    tt σ2 H4 fun b H5 => if b = true then te σ2 H5 fun y H6 => H6 D = some (.lst ys) ∧ ys.length < sizeLine ∧ Pv (i + 1) (ys ++ [y]) (upd H6 D (.lst (ys ++ [y]))) else Pv (i + 1) ys H5
/-- the names' readings are monotone in what is wanted -/
structure Mono (g : TG) (tt : TT) (te : TE) : Prop where
  g : ∀ x σ H Q Q', (∀ σ' H', Q σ' H' → Q' σ' H') → g x σ H Q → g x σ H Q'
  t : ∀ σ H Q Q', (∀ b H', Q b H' → Q' b H') → tt σ H Q → tt σ H Q'
  e : ∀ σ H Q Q', (∀ v H', Q v H' → Q' v H') → te σ H Q → te σ H Q'
section
variable {nl : Nat} {fr : List Nat} {g : TG} {tt : TT} {te : TE} {σ : St} {D : Addr} {H1 : Hp} {Q : VK}
theorem comp_range {lo : Int} {n : Nat} (Pv : Nat → List V → Hp → Prop) (h0 : Pv 0 [] (upd H1 D (.lst []))) (hl : ∀ i ys H, Pv i ys H → H D = some (.lst ys))
    (hs : ∀ i ys H, i < n → Pv i ys H → ∀ (C : Nat → List V → Hp → Prop), (∀ ys H, Pv (i + 1) ys H → C (i + 1) ys H) → CompT nl fr g tt te σ D C i ys (.int (lo + i)) H) (hd : ∀ ys H, Pv n ys H → Q (.ref D) H) :
    CompW (Itr lo n) nl fr g tt te σ D H1 Q := by
  refine ⟨fun i m ys H => m = n - i ∧ i ≤ n ∧ Pv i ys H, ⟨n, by simp, Nat.zero_le _, h0⟩, ?_⟩
  rintro i m ys H ⟨rfl, hi, p⟩
  refine ⟨hl i ys H p, ?_⟩
  by_cases hlt : i < n
  · refine .inr ⟨hlt, fun x H' y => ?_⟩
    obtain ⟨e, y⟩ := y
    subst e y
    exact hs i ys _ hlt p (fun j zs Hz => ∃ m', m' < n - i ∧ m' = n - j ∧ j ≤ n ∧ Pv j zs Hz) fun zs Hz z => ⟨n - (i + 1), by omega, rfl, hlt, z⟩
  · have e : i = n := by omega
    subst e
    exact .inl ⟨Nat.le_refl _, hd ys H p⟩
theorem comp_list {K : PySem.W.Frag} {a : Addr} {xs : List V} (Pv : Nat → List V → Hp → Prop) (h0 : Pv 0 [] (upd H1 D (.lst []))) (hl : ∀ i ys H, Pv i ys H → H D = some (.lst ys)) (hx : ∀ i ys H, i ≤ xs.length → Pv i ys H → SqL K H a xs)
    (hs : ∀ i ys x H, xs[i]? = some x → Pv i ys H → ∀ (C : Nat → List V → Hp → Prop), (∀ ys H, Pv (i + 1) ys H → C (i + 1) ys H) → CompT nl fr g tt te σ D C i ys x H) (hd : ∀ ys H, Pv xs.length ys H → Q (.ref D) H) :
    CompW (Itl K a) nl fr g tt te σ D H1 Q := by
  refine ⟨fun i m ys H => m = xs.length - i ∧ i ≤ xs.length ∧ Pv i ys H, ⟨xs.length, by simp, Nat.zero_le _, h0⟩, ?_⟩
  rintro i m ys H ⟨rfl, hi, p⟩
  refine ⟨hl i ys H p, ?_⟩
  have q := hx i ys H hi p
  by_cases hlt : i < xs.length
  · refine .inr ⟨⟨xs, xs[i], q, by simp [hlt]⟩, fun x H' y => ?_⟩
    obtain ⟨e, y⟩ := y
    subst e
    exact hs i ys x _ (y xs q) p (fun j zs Hz => ∃ m', m' < xs.length - i ∧ m' = xs.length - j ∧ j ≤ xs.length ∧ Pv j zs Hz) fun zs Hz z => ⟨xs.length - (i + 1), by omega, rfl, hlt, z⟩
  · have e : i = xs.length := by omega
    subst e
    exact .inl ⟨⟨xs, q, Nat.le_refl _⟩, hd ys H p⟩
end
/-- a block with one name of its own: the others are as they were -/
theorem keep1 {fr : List Nat} {σ : St} {x : V} : ((σC 1 fr σ).set 0 (some x)).length = (σC 1 fr σ).length ∧ ∀ (i : Nat) v, (σC 1 fr σ)[i]? = some (some v) → ((σC 1 fr σ).set 0 (some x))[i]? = some (some v) := by
  refine ⟨by simp, fun i v h => ?_⟩
  match i with
  | 0 => unfold σC at h; simp at h
  | k + 1 => rw [List.getElem?_set_ne (by omega)]; exact h
/-- a check of what a block's scope has -/
theorem has_of {names : List (Str × NameKind)} {cl : List (Str × Addr)} (h : names.all (fun y => !(y.2 == .cell || y.2 == .free) || (cl.lookup y.1).isSome) = true) (x : Str) (hx : names.lookup x = some .cell ∨ names.lookup x = some .free) : ∃ c, cl.lookup x = some c := by
  have key : ∀ k, (k = NameKind.cell ∨ k = NameKind.free) → names.lookup x = some k → ∃ c, cl.lookup x = some c := fun k hk e => by
    have m := List.all_eq_true.mp h _ (PySem.mem_of_lookup e)
    have : (k == NameKind.cell || k == NameKind.free) = true := by rcases hk with rfl | rfl <;> rfl
    simp only [this, Bool.not_true, Bool.false_or] at m
    exact Option.isSome_iff_exists.mp m
  rcases hx with e | e
  · exact key _ (.inl rfl) e
  · exact key _ (.inr rfl) e
end L2

set_option Elab.async false
set_option linter.all false
set_option maxRecDepth 100000
set_option maxHeartbeats 2000000
namespace L2
open PySem PySem.Spec PyProof.Rows
/-! ### for a, b in zip(xs, ys) -/
section
variable {X : Cx} {pins : List (Addr × Obj)} {σ : St} {H : Hp} {s : Shared} {h' : Heap}
theorem Inv.turnedL {t' : Nat} {fp : List Addr} (I : Inv X pins σ H s) (k : ∀ b o, b ∉ fp → s.heap.get? b = some o → h'.get? b = some o) (hf : ∀ b ∈ fp, FpOk X pins H b) : Inv X pins σ H { s with heap := h', toks := t' } := by
  have nit : ∀ b u, H b = some u → b ∉ fp := fun b u e z => by rw [(hf b z).1] at e; cases e
  have nL : X.env.locals ∉ fp := fun z => (hf _ z).2.1 rfl
  refine I.step (g' := s.gens) (d' := s.drawn) (ch := fp) (fun b hb => ?_) (fun b o _ _ hc e _ => k b o hc e) (fun b o _ _ hc e _ => ⟨o.slots, k b o hc e⟩) (fun _ _ _ _ n => n)
    (fun b o hc e => ⟨o, k b o hc e⟩) (fun _ _ e => e) (fun _ _ _ e => e) (fun b ps e => ⟨#[], by rw [e]; simp⟩) (fun m hm => ?_) (fun b u e => ?_) I.bare
  · obtain ⟨f0, f1, f2, f3, f4, f5⟩ := hf b hb
    exact ⟨f3, f1, f4, f5⟩
  · obtain ⟨o, es, ep, ho, r⟩ := hm
    exact ⟨o, es, ep, k _ o nL ho, r⟩
  · refine (I.hok b u e).stay (fun c v hc q => k c v ?_ q) (fun _ q => q) fun _ _ q => q
    rcases hc with z | z
    · rw [z]; exact nit b u e
    · exact nit c _ z
end
/-- the pairs of two lists, each a new tuple -/
def Itz (K : PySem.W.Frag) (a b : Addr) : It :=
  ⟨fun i H => ∃ xs ys x y, SqL K H a xs ∧ SqL K H b ys ∧ xs[i]? = some x ∧ ys[i]? = some y,
   fun i H v H' => ∃ T x y, v = .ref T ∧ H T = none ∧ H' = upd H T (.tup [x, y]) ∧ ∀ xs ys, SqL K H a xs → SqL K H b ys → xs[i]? = some x ∧ ys[i]? = some y,
   fun i H => ∃ xs ys, SqL K H a xs ∧ SqL K H b ys ∧ (xs.length ≤ i ∨ ys.length ≤ i)⟩
def ZipTn (z TI TO i1 i2 l1 l2 : Addr) (i : Nat) (h : Heap) : Prop :=
  ZipApart z TI TO i1 i2 l1 l2 ∧ IsZip h z TI TO .none ∧ IsPair h TI (.ref i1) (.ref i2) ∧ (∃ a b, IsPair h TO a b) ∧ h.IsListIter i1 l1 i ∧ h.IsListIter i2 l2 i
theorem turn_zip {P : Program} {w : World} {K : PySem.W.Frag} {elts : List Expr} {kk : Nat} {tpos : Pos} (z TI TO i1 i2 l1 l2 : Addr) :
    Turn P w K (.Tuple elts kk tpos) (Itz K l1 l2) [z, TI, TO, i1, i2] z (ZipTn z TI TO i1 i2 l1 l2) where
  mem := by simp
  obj := fun i h st b hb => by
    obtain ⟨ap, hz, hi, ⟨a, c, ho⟩, ⟨o1, e1, c1, d1⟩, ⟨o2, e2, c2, d2⟩⟩ := st
    simp only [List.mem_cons, List.not_mem_nil, or_false] at hb
    rcases hb with rfl | rfl | rfl | rfl | rfl
    · exact ⟨_, hz, fun v q => by cases q⟩
    · exact ⟨_, hi, fun v q => by cases q⟩
    · exact ⟨_, ho, fun v q => by cases q⟩
    · exact ⟨o1, e1, fun v q => by rw [d1] at q; cases q⟩
    · exact ⟨o2, e2, fun v q => by rw [d2] at q; cases q⟩
  keep := fun i h h' st k => by
    obtain ⟨ap, hz, hi, ⟨a, c, ho⟩, ⟨o1, e1, c1, d1⟩, ⟨o2, e2, c2, d2⟩⟩ := st
    exact ⟨ap, k _ (by simp) _ hz, k _ (by simp) _ hi, ⟨a, c, k _ (by simp) _ ho⟩, ⟨o1, k _ (by simp) _ e1, c1, d1⟩, ⟨o2, k _ (by simp) _ e2, c2, d2⟩⟩
  item := by
    intro X hP hw hK hc i pins s σ H E I hf st hg
    subst hP hw hK
    obtain ⟨ap, hz, hi, ⟨a, c, ho⟩, t1, t2⟩ := st
    obtain ⟨xs, ys, x, y, hx, hy, ex, ey⟩ := hg
    obtain ⟨its1, rv1, p1, z1⟩ := I.list hx
    obtain ⟨its2, rv2, p2, z2⟩ := I.list hy
    obtain ⟨u1, hu1, ru1⟩ := rv1.get ex
    obtain ⟨u2, hu2, ru2⟩ := rv2.get ey
    refine wpAny_pyNext_zip_item ap hz hi ho t1 t2 p1.isList p2.isList (x := u1) (y := u2) (by simpa using hu1) (by simpa using hu2) fun h' g1 g2 g3 g4 g5 g6 kk' => ?_
    have hn : H s.heap.objs.size = none := I.hok.fresh (Nat.le_refl _)
    have lt : ∀ b ∈ [z, TI, TO, i1, i2], b < s.heap.objs.size := fun b hb => by
      simp only [List.mem_cons, List.not_mem_nil, or_false] at hb
      obtain ⟨o1, e1, _⟩ := t1
      obtain ⟨o2, e2, _⟩ := t2
      rcases hb with rfl | rfl | rfl | rfl | rfl
      · exact Heap.lt_size hz
      · exact Heap.lt_size hi
      · exact Heap.lt_size ho
      · exact Heap.lt_size e1
      · exact Heap.lt_size e2
    have I1 : Inv X pins σ (upd H s.heap.objs.size (.tup [x, y])) { s with heap := s.heap.push { cls := .type "tuple", data := .seq #[u1, u2] } } :=
      I.laid (t' := s.toks) (fun b o e => Heap.get?_push_of_some _ e) (Nat.le_refl _) (show ObjOk X.prog X.w _ _ _ (.tup [x, y]) from ⟨by show 2 ≤ sizeLine; decide, [u1, u2], .cons ru1 (.cons ru2 .nil), IsTup.new _ _⟩)
    have hf1 : ∀ b ∈ [z, TI, TO, i1, i2], FpOk X pins (upd H s.heap.objs.size (.tup [x, y])) b := fun b hb => ⟨by rw [upd_ne (Nat.ne_of_lt (lt b hb))]; exact (hf b hb).1, (hf b hb).2⟩
    have k1 : ∀ b o, b ∉ [z, TI, TO, i1, i2] → (s.heap.push { cls := .type "tuple", data := .seq #[u1, u2] }).get? b = some o → h'.get? b = some o := fun b o nb e => by
      simp only [List.mem_cons, List.not_mem_nil, or_false, not_or] at nb
      by_cases hb : b = s.heap.objs.size
      · subst hb
        rw [Heap.get?_push_size _ rfl] at e
        cases e
        exact g5
      · have e0 : s.heap.get? b = some o := by rw [Heap.get?_push_ne _ _ _ hb] at e; exact e
        exact kk' b o nb.1 nb.2.2.1 nb.2.2.2.1 nb.2.2.2.2 e0
    have I2 : Inv X pins σ (upd H s.heap.objs.size (.tup [x, y])) { s with heap := h', toks := s.toks } := I1.turnedL (t' := s.toks) k1 hf1
    refine ⟨_, rfl, wpAny_letOwnedTupleGo_zip (s := { s with heap := h' }) g1 fun h2 q1 q2 => ?_⟩
    have kz : ∀ b o, b ≠ z → h'.get? b = some o → h2.get? b = some o := fun b o nb e => (q2.2 b nb).trans e
    have I3 : Inv X pins σ (upd H s.heap.objs.size (.tup [x, y])) { s with heap := h2, toks := s.toks } := Inv.turnedL (s := { s with heap := h', toks := s.toks }) (t' := s.toks) (fp := [z]) I2 (fun b o nb e => kz b o (by simpa using nb) e) fun b hb => hf1 b (by simp at hb; simp [hb])
    have hTI : h'.get? TI = some { cls := .type "tuple", data := .seq #[.ref i1, .ref i2] } := kk' TI _ ap.TIz ap.TITO ap.TIi1 ap.TIi2 hi
    obtain ⟨o3, e3, c3, d3⟩ := g3
    obtain ⟨o4, e4, c4, d4⟩ := g4
    refine ⟨.ref s.heap.objs.size, _, I3, rfl, ⟨_, x, y, rfl, hn, rfl, fun xs' ys' h1 h2 => ?_⟩, ⟨ap, q1, kz _ _ ap.TIz hTI, ⟨_, _, kz _ _ ap.TOz g2⟩, ⟨o3, kz _ _ ap.i1z e3, c3, d3⟩, ⟨o4, kz _ _ ap.i2z e4, c4, d4⟩⟩, fun b hb => (hf1 b hb).1⟩
    rw [I.list_inj h1 hx, I.list_inj h2 hy]
    exact ⟨ex, ey⟩
  done := by
    intro X hP hw hK hc i pins s σ H E I hf st hg
    subst hP hw hK
    obtain ⟨ap, hz, hi, ⟨a, c, ho⟩, t1, t2⟩ := st
    obtain ⟨xs, ys, hx, hy, hor⟩ := hg
    obtain ⟨its1, rv1, p1, z1⟩ := I.list hx
    obtain ⟨its2, rv2, p2, z2⟩ := I.list hy
    have l1' := rv1.length
    have l2' := rv2.length
    refine wpAny_pyNext_zip_end (I.ok.hd hc) ap hz hi ho t1 t2 p1.isList p2.isList (by rcases hor with h | h; left; simp; omega; right; simp; omega) fun h' kk' => ⟨rfl, ?_⟩
    refine I.turnedL (t' := s.toks) (fun b o nb e => ?_) hf
    simp only [List.mem_cons, List.not_mem_nil, or_false, not_or] at nb
    exact kk' b o nb.1 nb.2.2.1 nb.2.2.2.1 nb.2.2.2.2 e
  self := fun A i s Q E st h => by
    obtain ⟨ap, hz, hi, ⟨a, c, ho⟩, t1, t2⟩ := st
    exact wpAny_pyIter_zip hz h
section
variable {X : Cx}
def iZip (K : PySem.W.Frag) (ta : TA) : TI := fun σ H R => ta σ H fun vs H1 => ∃ a b, vs = [.ref a, .ref b] ∧ (∃ xs, SqL K H1 a xs) ∧ (∃ ys, SqL K H1 b ys) ∧ R (Itz K a b) H1
theorem pi_zip {e1 e2 : Expr} {ta : TA} {p pos : Pos} {elts : List Expr} {kk : Nat} {tpos : Pos} (hg : Gl X "zip") (hm : X.mg "zip" = none) (hv : bootBuiltins "zip" = some (.type "zip")) (ha : PA X [e1, e2] ta)
    (hs : starEach [e1, e2] X.env = (false, eval e1 X.env) :: starEach [e2] X.env := by rfl) (hpl : (backTo pos (starEach [e2] X.env)).any (·.1) = false := by rfl) : PI X (.Tuple elts kk tpos) (.Call (.Name "zip" p) [e1, e2] [] pos) (iZip X.K ta) := by
  intro pins s σ H R I h
  refine Call_ (ld_blt I hg hm hv (PyProof.Rows.callWith_type1 (thn (ha pos pins s σ H _ I h) fun us s1 ⟨vs, H1, I1, r1, q1⟩ => ?_) hs hpl))
  obtain ⟨a, b, rfl, ⟨xs, hx⟩, ⟨ys, hy⟩, q⟩ := q1
  obtain ⟨u, w', rfl, ra, rb⟩ := vals2 r1
  cases (show u = Value.ref a from ra)
  cases (show w' = Value.ref b from rb)
  obtain ⟨its1, rv1, p1, z1⟩ := I1.list hx
  obtain ⟨its2, rv2, p2, z2⟩ := I1.list hy
  have la : a < s1.heap.objs.size := by obtain ⟨o, e, _⟩ := p1.isList; exact Heap.lt_size e
  have lb : b < s1.heap.objs.size := by obtain ⟨o, e, _⟩ := p2.isList; exact Heap.lt_size e
  refine call_zip_2 p1.isList p2.isList fun h' g1 g2 g3 g4 g5 g6 kk' => ?_
  refine wpAny_pyIter_zip g1 ?_
  have ne : ∀ i j : Nat, i ≠ j → s1.heap.objs.size + i ≠ s1.heap.objs.size + j := fun i j n e => n (Nat.add_left_cancel e)
  have nl : ∀ (c : Addr) (i : Nat), c < s1.heap.objs.size → c ≠ s1.heap.objs.size + i := fun c i l e => absurd (Nat.lt_of_lt_of_le l (Nat.le_add_right _ i)) (by rw [← e]; exact Nat.lt_irrefl _)
  have n0 : ∀ j : Nat, j ≠ 0 → s1.heap.objs.size + j ≠ s1.heap.objs.size := fun j n e => n (Nat.add_left_cancel (e.trans (Nat.add_zero _).symm))
  refine ⟨s1.heap.objs.size + 4, [s1.heap.objs.size + 4, s1.heap.objs.size + 2, s1.heap.objs.size + 3, s1.heap.objs.size, s1.heap.objs.size + 1], _, Itz X.K a b, H1, rfl, I1.kept (t' := s1.toks) kk', turn_zip _ _ _ _ _ a b, ⟨?_, g1, g2, ⟨_, _, g3⟩, g4, g5⟩, fun c hc => ?_, q⟩
  · exact ⟨ne 2 4 (by decide), ne 3 4 (by decide), (n0 4 (by decide)).symm, ne 1 4 (by decide), ne 2 3 (by decide), n0 2 (by decide), ne 2 1 (by decide), n0 3 (by decide), ne 3 1 (by decide), (n0 1 (by decide)).symm,
      nl a 4 la, nl a 3 la, Nat.ne_of_lt la, nl a 1 la, nl b 4 lb, nl b 3 lb, Nat.ne_of_lt lb, nl b 1 lb⟩
  · have hle : s1.heap.objs.size ≤ c := by
      simp only [List.mem_cons, List.not_mem_nil, or_false] at hc
      rcases hc with rfl | rfl | rfl | rfl | rfl <;> first | exact Nat.le_add_right _ _ | exact Nat.le_refl _
    exact I1.fpOk hle (I1.hok.fresh hle)
/-- a walk over two lists that stay, the tuples forgotten -/
theorem for_zip {K : PySem.W.Frag} {a b : Addr} {xs ys : List V} {g : TG} {tb : TS} {D : Ends} {σ : St} {H : Hp} (Pv : Nat → St → Hp → Prop) (h0 : Pv 0 σ H) (hl : ∀ i σ H, i ≤ min xs.length ys.length → Pv i σ H → SqL K H a xs ∧ SqL K H b ys)
    (hs : ∀ i x y σ H T, xs[i]? = some x → ys[i]? = some y → Pv i σ H → H T = none → g (.ref T) σ (upd H T (.tup [x, y])) fun σ2 H2 => tb { D with nx := Pv (i + 1), ct := Pv (i + 1), bk := D.nx } σ2 H2) (hd : ∀ σ H, Pv (min xs.length ys.length) σ H → D.nx σ H) :
    ∃ W : Nat → Nat → St → Hp → Prop, (∃ m, W 0 m σ H) ∧ ∀ i m σ H, W i m σ H →
      ((Itz K a b).stop i H ∧ D.nx σ H) ∨ ((Itz K a b).go i H ∧ ∃ N : St → Hp → Prop, (∀ σ' H', N σ' H' → ∃ m', m' < m ∧ W (i + 1) m' σ' H') ∧ ∀ x H', (Itz K a b).yld i H x H' → g x σ H' fun σ2 H2 => tb { D with nx := N, ct := N, bk := D.nx } σ2 H2) := by
  refine ⟨fun i m σ H => m = min xs.length ys.length - i ∧ i ≤ min xs.length ys.length ∧ Pv i σ H, ⟨_, rfl, Nat.zero_le _, h0⟩, ?_⟩
  rintro i m σ H ⟨rfl, hi, p⟩
  obtain ⟨qx, qy⟩ := hl i σ H hi p
  by_cases hlt : i < min xs.length ys.length
  · have hx : i < xs.length := by omega
    have hy : i < ys.length := by omega
    refine .inr ⟨⟨xs, ys, xs[i], ys[i], qx, qy, by simp [hx], by simp [hy]⟩, Pv (i + 1), fun σ' H' p' => ⟨min xs.length ys.length - (i + 1), by omega, rfl, hlt, p'⟩, fun v H' z => ?_⟩
    obtain ⟨T, x, y, rfl, hT, rfl, hh⟩ := z
    obtain ⟨ex, ey⟩ := hh xs ys qx qy
    exact hs i x y σ H T ex ey p hT
  · have e : i = min xs.length ys.length := by omega
    subst e
    exact .inl ⟨⟨xs, ys, qx, qy, by omega⟩, hd σ H p⟩
theorem comp_zip {K : PySem.W.Frag} {a b : Addr} {xs ys : List V} {nl : Nat} {fr : List Nat} {g : TG} {tt : TT} {te : TE} {σ : St} {D : Addr} {H1 : Hp} {Q : VK} (Pv : Nat → List V → Hp → Prop) (h0 : Pv 0 [] (upd H1 D (.lst []))) (hl : ∀ i zs H, Pv i zs H → H D = some (.lst zs)) (hx : ∀ i zs H, i ≤ min xs.length ys.length → Pv i zs H → SqL K H a xs ∧ SqL K H b ys)
    (hs : ∀ i zs x y H T, xs[i]? = some x → ys[i]? = some y → Pv i zs H → H T = none → ∀ (C : Nat → List V → Hp → Prop), (∀ zs H, Pv (i + 1) zs H → C (i + 1) zs H) → CompT nl fr g tt te σ D C i zs (.ref T) (upd H T (.tup [x, y]))) (hd : ∀ zs H, Pv (min xs.length ys.length) zs H → Q (.ref D) H) :
    CompW (Itz K a b) nl fr g tt te σ D H1 Q := by
  refine ⟨fun i m zs H => m = min xs.length ys.length - i ∧ i ≤ min xs.length ys.length ∧ Pv i zs H, ⟨_, rfl, Nat.zero_le _, h0⟩, ?_⟩
  rintro i m zs H ⟨rfl, hi, p⟩
  refine ⟨hl i zs H p, ?_⟩
  obtain ⟨qx, qy⟩ := hx i zs H hi p
  by_cases hlt : i < min xs.length ys.length
  · have hx' : i < xs.length := by omega
    have hy' : i < ys.length := by omega
    refine .inr ⟨⟨xs, ys, xs[i], ys[i], qx, qy, by simp [hx'], by simp [hy']⟩, fun v H' z => ?_⟩
    obtain ⟨T, x, y, rfl, hT, rfl, hh⟩ := z
    obtain ⟨ex, ey⟩ := hh xs ys qx qy
    exact hs i zs x y H T ex ey p hT (fun j zs Hz => ∃ m', m' < min xs.length ys.length - i ∧ m' = min xs.length ys.length - j ∧ j ≤ min xs.length ys.length ∧ Pv j zs Hz) fun zs Hz z => ⟨min xs.length ys.length - (i + 1), by omega, rfl, hlt, z⟩
  · have e : i = min xs.length ys.length := by omega
    subst e
    exact .inl ⟨⟨xs, ys, qx, qy, by omega⟩, hd zs H p⟩
end
end L2

set_option Elab.async false
set_option linter.all false
set_option maxRecDepth 100000
set_option maxHeartbeats 2000000
namespace L2
open PySem PySem.Spec PyProof.Rows
section
variable {X : Cx}
/-- xs.insert(k, y), 0 ≤ k ≤ len -/
def rInsert : V → List V → Hp → VK → Prop := fun x vs H Q => ∃ (l : Addr) (xs : List V) (k : Nat) (i : Int) (y : V), x = .ref l ∧ vs = [.int i, y] ∧ i = (k : Int) ∧ k ≤ xs.length ∧ H l = some (.lst xs) ∧ xs.length < sizeLine ∧ Q .non (upd H l (.lst (xs.take k ++ y :: xs.drop k)))
end
end L2

set_option Elab.async false
set_option linter.all false
set_option maxRecDepth 100000
set_option maxHeartbeats 2000000
namespace L2
open PySem PySem.Spec PyProof.Rows
/-! ### isinstance of what is read: tracked, frozen, or an object of the module -/
inductive TyQ (K : PySem.W.Frag) (H : Hp) : V → Value → Prop where
  | of {x : V} {t : Value} (h : TyOf K H x t) : TyQ K H x t
  | tup {a : Addr} {xs : List V} (h : SqT K H a xs) : TyQ K H (.ref a) (.type "tuple")
  | lst {a : Addr} {xs : List V} (h : SqL K H a xs) : TyQ K H (.ref a) (.type "list")
section
variable {X : Cx} {pins : List (Addr × Obj)} {σ : St} {H : Hp} {s : Shared} {A : Around} {E : Value → Shared → Prop} {Q : Value → Shared → Prop} {c : Value} {b : Bool}
theorem isinst_okQ {x : V} {u t : Value} (I : Inv X pins σ H s) (rx : RelV x u) (ty : TyQ X.K H x t) (e : PySem.W.kitOne X.K t c = some b) (h : ∀ tk, Q (.bool b) { s with toks := tk }) :
    wpAny (model X.prog X.w) A (call (.builtin "isinstance") [u, c]) Q E s := by
  cases ty with
  | of ty => exact isinst_ok I rx ty e h
  | @tup a xs ht =>
    cases (show u = Value.ref a from rx)
    obtain ⟨its, _, p, _⟩ := I.tuple ht
    obtain ⟨o, h1, h2, _⟩ := p
    exact PySem.W.kia_one PySem.W.kitx_tuple I.kIn ⟨o, h1, h2⟩ e (fun z => nomatch z) h
  | @lst a xs ht =>
    cases (show u = Value.ref a from rx)
    obtain ⟨its, _, p, _⟩ := I.list ht
    obtain ⟨o, h1, h2, _⟩ := p.isList
    exact PySem.W.kia_one PySem.W.kitx_list I.kIn ⟨_, h1, h2⟩ e (fun z => nomatch z) h
end
section
variable {X : Cx}
theorem call_isiQ : CallR X (.builtin "isinstance") (fun xs H Q => ∃ x n t b, xs = [x, .ty n] ∧ TyQ X.K H x t ∧ PySem.W.kitOne X.K t (.type n) = some b ∧ Q (.bl b) H) := by
  intro pins s σ H vs us Q I rv h
  obtain ⟨x, n, t, b, rfl, ty, e, q⟩ := h
  obtain ⟨u, u2, rfl, r1, r2⟩ := vals2 rv
  cases (show u2 = Value.type n from r2)
  exact isinst_okQ I r1 ty e fun tk => ⟨.bl b, H, I.tok tk, rfl, q⟩
/-- isinstance(name in slot i, T) -/
theorem pe_isiQ {i : Nat} {x T : Str} {T' : String} {p1 p2 p3 pos : Pos} (hN : X.N[i]? = some x) (hv : Vis X.env.scope x) (b : X.mg "isinstance" = none) (b2 : X.mg T = none) (g1 : Gl X "isinstance") (g2 : Gl X T) (hT : bootBuiltins T = some (.type T'))
    (hd : (x == ("__debug__" : Str)) = false := by decide) (hcd : (x == ("__classdict__" : Str)) = false := by decide) (hTn : T ≠ "__name__" := by decide) (hTd : (T == ("__debug__" : Str)) = false := by decide)
    (he : starEach [.Name x p2, .Name T p3] X.env = (false, eval (.Name x p2) X.env) :: starEach [.Name T p3] X.env := by rfl)
    (he2 : starEach [.Name T p3] X.env = (false, eval (.Name T p3) X.env) :: starEach [] X.env := by rfl) (hpl : (backTo pos (starEach [.Name T p3] X.env)).any (·.1) = false := by rfl) :
    PE X (.Call (.Name "isinstance" p1) [.Name x p2, .Name T p3] [] pos) (fun σ H Q => ∃ v t b, σ[i]? = some (some v) ∧ TyQ X.K H v t ∧ PySem.W.kitOne X.K t (.type T') = some b ∧ Q (.bl b) H) := by
  have h := pe_callB (X := X) (pos := pos) (p := p1) call_isiQ g1 b PyProof.Rows.boot_isinstance (pa_cons (pe_var (i := i) (pos := p2) hN hv hd hcd) (pa_cons (pe_bltn (v := .ty T') (pos := p3) g2 b2 hT rfl hTn hTd) pa_nil he2) he) (by decide) (by decide) he hpl
  intro pins s σ H Q I q
  obtain ⟨v, t, bb, h1, h2, h3, h4⟩ := q
  exact h pins s σ H Q I ⟨v, h1, v, T', t, bb, rfl, h2, h3, h4⟩
end
/-! ### lists that stay while another one changes -/
theorem SqL.upd {K : PySem.W.Frag} {H : Hp} {a l : Addr} {xs : List V} {o : HO} (h : SqL K H a xs) (ne : a ≠ l) : SqL K (L2.upd H l o) a xs := by
  rcases h with (h | ⟨u, h⟩) | h
  · exact .inl (.inl (by rw [upd_ne ne]; exact h))
  · exact .inl (.inr ⟨u, by rw [upd_ne ne]; exact h⟩)
  · exact .inr h
theorem SqT.upd {K : PySem.W.Frag} {H : Hp} {a l : Addr} {xs ys : List V} {o : HO} (h : SqT K H a xs) (hl : H l = some (.lst ys)) : SqT K (L2.upd H l o) a xs := by
  rcases h with (h | ⟨u, h⟩) | h
  · exact .inl (.inl (by rw [upd_ne (ne_of h hl (fun z => by cases z))]; exact h))
  · exact .inl (.inr ⟨u, by rw [upd_ne (ne_of h hl (fun z => by cases z))]; exact h⟩)
  · exact .inr h
/-! ### ints as data -/
theorem cut_ints (ns : List Int) (lo hi : Option Int) : ∃ ms : List Int, cutV (ns.map V.int) lo hi = ms.map V.int ∧ ms.length ≤ ns.length := by
  refine ⟨(ns.drop (HT.sIx (ns.map V.int).length 0 lo)).take (HT.sIx (ns.map V.int).length (ns.map V.int).length hi - HT.sIx (ns.map V.int).length 0 lo), ?_, ?_⟩
  · unfold cutV; rw [List.map_take, List.map_drop]
  · rw [List.length_take, List.length_drop]; omega
/-- a block with two names of its own -/
theorem keep2 {fr : List Nat} {σ : St} {x y : V} : (((σC 2 fr σ).set 0 (some x)).set 1 (some y)).length = (σC 2 fr σ).length ∧ ∀ (i : Nat) v, (σC 2 fr σ)[i]? = some (some v) → (((σC 2 fr σ).set 0 (some x)).set 1 (some y))[i]? = some (some v) := by
  refine ⟨by simp, fun i v h => ?_⟩
  match i with
  | 0 => unfold σC at h; simp at h
  | 1 => unfold σC at h; simp at h
  | k + 2 => rw [List.getElem?_set_ne (by omega), List.getElem?_set_ne (by omega)]; exact h
theorem Fqs.at {K : PySem.W.Frag} {H : Hp} : ∀ {xs : List V} {ps : List Mq.Q2} {i : Nat} {p : Mq.Q2}, Fqs K H xs ps → ps[i]? = some p → ∃ a, xs[i]? = some (.ref a) ∧ Fq K H a p
  | _, _, _, _, .nil, h => by simp at h
  | _, _, 0, _, .cons h _, e => by simp at e; subst e; exact ⟨_, rfl, h⟩
  | _, _, i + 1, _, .cons _ q, e => by simpa using Fqs.at q (by simpa using e)
theorem B_of {n : Nat} {i : Int} (lo : -(2 ^ n : Int) < i) (hi : i < 2 ^ n) : Mq.B n i := by
  unfold Mq.B
  have e : ((2 ^ n : Nat) : Int) = 2 ^ n := by simp
  omega
end L2

set_option Elab.async false
set_option linter.all false
set_option maxRecDepth 100000
set_option maxHeartbeats 2000000
namespace L2
open PySem PySem.Spec PyProof.Rows
/-! ### texts -/
section
variable {X : Cx} {tg : Expr}
/-- str of an int of any size that the limit lets through -/
def rStrI : List V → Hp → VK → Prop := fun xs H Q => ∃ i n, xs = [.int i] ∧ Bt n i ∧ n ≤ 12900 ∧ Q (.str (Str.ofString (toString i))) H
def CPowB (i j : Int) : Prop := 0 ≤ j ∧ ∃ n, Bt n i ∧ n * j.toNat ≤ 2 ^ 27
/-- int(text) -/
def rIntT : List V → Hp → VK → Prop := fun xs H Q => ∃ x n, xs = [.str x] ∧ intText? x = some n ∧ x.length ≤ 640 ∧ Q (.int n) H
/-- x.partition(y) -/
def rPart : V → List V → Hp → VK → Prop := fun x vs H Q => ∃ a b, x = .str a ∧ vs = [.str b] ∧ b.length ≠ 0 ∧ a.length ≤ sizeLine ∧
  ∀ p, H p = none → Q (.ref p) (upd H p (.tup [.str (Txt.partition a b).1, .str (Txt.partition a b).2.1, .str (Txt.partition a b).2.2]))
/-- x[lo:hi] of a text -/
def rSlS : V → Option Int → Option Int → Hp → VK → Prop := fun x lo hi H Q => ∃ a, x = .str a ∧ a.length ≤ sizeLine ∧ Q (.str (Txt.slice a lo hi)) H
/-- the signs of a text -/
def Its (x : Str) : It := ⟨fun i _ => i < x.cps.size, fun i H v H' => H' = H ∧ ∃ c, x.cps[i]? = some c ∧ v = .str ⟨#[c]⟩, fun i _ => x.cps.size ≤ i⟩
def iStr (tl : TE) : TI := fun σ H R => tl σ H fun x H1 => ∃ a, x = .str a ∧ R (Its a) H1
/-- all(list of truths) -/
def rAll (K : PySem.W.Frag) : List V → Hp → VK → Prop := fun xs H Q => ∃ (p : Addr) (bs : List Bool), xs = [.ref p] ∧ SqL K H p (bs.map V.bl) ∧ Q (.bl (bs.all id)) H
theorem call_all (hc : X.calm = true) : CallR X (.builtin "all") (rAll X.K) := by
  intro pins s σ H xs us Q I r h
  obtain ⟨p, bs, rfl, hq, q⟩ := h
  obtain ⟨u, rfl, rx⟩ := vals1 r
  cases rx
  obtain ⟨its, rv, pl, hz⟩ := I.list hq
  have hlen : its.toArray.size = bs.length := by rw [List.size_toArray, ← rv.length, List.length_map]
  have hne : p ≠ s.heap.objs.size := by
    obtain ⟨o, e, _⟩ := pl.isList
    exact Nat.ne_of_lt (Heap.lt_size e)
  refine call_all_walk (wpAny_pyIter_list pl.isList ?_)
  refine ⟨s.heap.objs.size, _, _, _, _, _, fun i => bs.getD i false, rfl, Walks.list (by exact I.ok.hd hc) s.heap.objs.size p hne its.toArray, ⟨⟨_, Heap.get?_push_size _ rfl, rfl, rfl⟩, ?_⟩, ?_, ?_⟩
  · obtain ⟨o, e, c⟩ := pl.isList
    exact ⟨o, Heap.get?_push_of_some _ e, c⟩
  · intro i v s' Q' E' hv q'
    have hv' : its[i]? = some v := by simpa using hv
    have hi : i < its.length := (List.getElem?_eq_some_iff.mp hv').1
    have hb : (bs.map V.bl)[i]? = some (.bl (bs.getD i false)) := by
      rw [List.getElem?_map, List.getElem?_eq_getElem (by rw [← hlen]; simpa using hi)]
      simp [List.getD, List.getElem?_eq_getElem (show i < bs.length by rw [← hlen]; simpa using hi)]
    obtain ⟨u, hu, ru⟩ := rv.get hb
    have e : u = v := by rw [hv'] at hu; cases hu; rfl
    subst e
    cases ru
    exact wpAny_truthy_bool q'
  · intro h' tk kk
    have e : (List.range its.toArray.size).all (fun i => bs.getD i false) = bs.all id := by
      rw [hlen, Bool.eq_iff_iff, List.all_eq_true, List.all_eq_true]
      constructor
      · intro z b hb
        obtain ⟨i, hi, rfl⟩ := List.getElem_of_mem hb
        have := z i (List.mem_range.mpr hi)
        simpa [List.getD, List.getElem?_eq_getElem hi] using this
      · intro z i hi
        have hi' := List.mem_range.mp hi
        have := z bs[i] (List.getElem_mem hi')
        simpa [List.getD, List.getElem?_eq_getElem hi'] using this
    rw [e]
    refine ⟨.bl _, H, I.kept (t' := tk) fun b o hb => ?_, rfl, q⟩
    have hb2 : b ≠ s.heap.objs.size := Nat.ne_of_lt (Heap.lt_size hb)
    exact kk b o (by simpa using hb2) (Heap.get?_push_of_some _ hb)
end
end L2

set_option maxHeartbeats 1000000
namespace Mq
/-! streams led round -/
def neg (p : Q2) : Q2 := (-p.1, p.2)
/-- way 1 or -1 -/
def Way (w : Int) : Prop := w = 1 ∨ w = -1
def addAt (ps : List Q2) (k : Nat) (a : Q2) : List Q2 := ps.set k (plus (ps.getD k (0, 1)) a)
def AllLow (ps : List Q2) : Prop := ∀ p ∈ ps, Low p
def ledS (am : Q2) (ps : List Q2) (r : Q2) : List Q2 := addAt ps r.1.toNat (times (r.2, 1) am)
def led (ps rg : List Q2) (am : Q2) : List Q2 := rg.foldl (ledS am) ps
def RingOk (n : Nat) (rg : List Q2) : Prop := ∀ r ∈ rg, 0 ≤ r.1 ∧ r.1 < n ∧ Way r.2
end Mq

set_option Elab.async false
set_option linter.all false
namespace L2
open PySem PySem.Spec PyProof.Rows
/-- total, told by a module's own nought where there is nothing -/
def spTotF (K : PySem.W.Frag) : Sp := fun vs H Q _ => ∃ (a : Addr) (xs : List V) (ps : List Mq.Q2) (n : Nat), vs = [.ref a] ∧ SqL K H a xs ∧ Fqs K H xs ps ∧ Mq.Pos ps ∧ (∀ p ∈ ps, Mq.Bd n p) ∧ n + 1 + (1 + (n + 1) * ps.length) ≤ 9000 ∧ ∀ r H', Same H H' → Fq K H' r (Mq.tot ps) → Q (.ref r) H'
end L2

set_option linter.all false
namespace Mq
/-! the worth of a pair, as a rational number -/
def val (p : Q2) : Rat := (p.1 : Rat) / (p.2 : Rat)
theorem cast_ne {b : Int} (h : b ≠ 0) : (b : Rat) ≠ 0 := fun e => h (Rat.intCast_inj.mp (by simpa using e))
theorem val_eq_div {p : Q2} {t b : Int} (hp : p.2 ≠ 0) (hb : b ≠ 0) (h : p.1 * b = t * p.2) : val p = (t : Rat) / (b : Rat) := by
  unfold val
  have h1 := cast_ne hp
  have h2 := cast_ne hb
  have h3 : (p.1 : Rat) * (b : Rat) = (t : Rat) * (p.2 : Rat) := by rw [← Rat.intCast_mul, ← Rat.intCast_mul, h]
  grind
theorem val_red {t b : Int} (hb : b ≠ 0) : val (red t b) = (t : Rat) / (b : Rat) := by
  have := (red_low (t := t) hb).pos
  exact val_eq_div (by omega) hb (red_cross hb)
theorem low_ext {p q : Q2} (hp : Low p) (hq : Low q) (h : val p = val q) : p = q := by
  refine low_same hp hq ?_
  have p1 := cast_ne (show p.2 ≠ 0 by have := hp.pos; omega)
  have q1 := cast_ne (show q.2 ≠ 0 by have := hq.pos; omega)
  unfold val at h
  have : (p.1 : Rat) * (q.2 : Rat) = (q.1 : Rat) * (p.2 : Rat) := by grind
  rw [← Rat.intCast_mul, ← Rat.intCast_mul] at this
  exact Rat.intCast_inj.mp this
theorem val_plus {p q : Q2} (hp : 1 ≤ p.2) (hq : 1 ≤ q.2) : val (plus p q) = val p + val q := by
  have p1 := cast_ne (show p.2 ≠ 0 by omega)
  have q1 := cast_ne (show q.2 ≠ 0 by omega)
  unfold plus
  rw [val_red (mul_ne hp hq), Rat.intCast_add, Rat.intCast_mul, Rat.intCast_mul, Rat.intCast_mul]
  unfold val
  grind
theorem val_times {p q : Q2} (hp : 1 ≤ p.2) (hq : 1 ≤ q.2) : val (times p q) = val p * val q := by
  have p1 := cast_ne (show p.2 ≠ 0 by omega)
  have q1 := cast_ne (show q.2 ≠ 0 by omega)
  unfold times
  rw [val_red (mul_ne hp hq), Rat.intCast_mul, Rat.intCast_mul]
  unfold val
  grind
theorem val01 : val (0, 1) = 0 := by unfold val; simp; grind
/-- positive fractions -/
structure Ps (p : Q2) : Prop where
  low : Low p
  pos : 0 < p.1
/-- the sum of numbers -/
def rsum : List Rat → Rat
  | [] => 0
  | x :: l => x + rsum l
theorem val_foldl : ∀ {l : List Q2} {p : Q2}, 1 ≤ p.2 → Pos l → val (l.foldl plus p) = val p + rsum (l.map val)
  | [], p, _, _ => by simp [rsum]; grind
  | q :: l, p, hp, h => by
    have hq := h q (by simp)
    rw [List.foldl_cons, val_foldl (plus_low hp hq).pos (fun f hf => h f (List.mem_cons_of_mem _ hf)), val_plus hp hq]
    simp only [List.map_cons, rsum]
    grind
theorem val_tot {l : List Q2} (h : Pos l) : val (tot l) = rsum (l.map val) := by
  unfold tot
  rw [val_foldl (by decide) h, val01]
  grind
/-- sums over the first numbers -/
def rs (n : Nat) (F : Nat → Rat) : Rat := match n with
  | 0 => 0
  | n + 1 => rs n F + F n
end Mq

set_option linter.all false
namespace Mq
/-! stars and meshes -/
abbrev z0 : Q2 := (0, 1)
def inv (p : Q2) : Q2 := (p.2, p.1)
def most (ls : List Q2) : Q2 := tot (ls.map inv)
def drawn (ls hs : List Q2) : Q2 := tot (List.zipWith over hs ls)
def middle (ls hs : List Q2) : Q2 := over (drawn ls hs) (most ls)
def intoLegs (ls hs : List Q2) : List Q2 := List.zipWith (fun h l => over (minus h (middle ls hs)) l) hs ls
abbrev Row := Nat × Nat × Q2
def stepM (hs sent : List Q2) (r : Row) : List Q2 :=
  let f := over (minus (hs.getD r.1 z0) (hs.getD r.2.1 z0)) r.2.2
  let s1 := sent.set r.1 (tot [sent.getD r.1 z0, f])
  s1.set r.2.1 (minus (s1.getD r.2.1 z0) f)
def intoMesh (ms : List Row) (hs : List Q2) : List Q2 := ms.foldl (stepM hs) (List.replicate hs.length z0)
structure RowOk (n c : Nat) (r : Row) : Prop where
  i : r.1 < n
  j : r.2.1 < n
  ne : r.1 ≠ r.2.1
  ps : Ps r.2.2
  bd : Bd c r.2.2
def flow (hs : List Q2) (r : Row) : Q2 := over (minus (hs.getD r.1 z0) (hs.getD r.2.1 z0)) r.2.2
theorem getD_bd {hs : List Q2} {m : Nat} (h1 : 1 ≤ m) (h : ∀ p ∈ hs, Bd m p) (k : Nat) : Bd m (hs.getD k z0) := by
  rw [List.getD_eq_getElem?_getD]
  cases e : hs[k]? with
  | none => exact Bd.mono (n := 1) ⟨show (0 : Nat) < 2 ^ 1 by decide, show (1 : Nat) < 2 ^ 1 by decide⟩ h1
  | some v => exact h v (List.mem_of_getElem? e)
def sg (k : Nat) (r : Row) (x : Rat) : Rat := if k = r.1 then x else if k = r.2.1 then -x else 0
/-- the sums over pairs -/
def A (n : Nat) (c : Nat → Nat → Rat) : Rat := rs n fun i => rs (n - (i + 1)) fun t => c i (i + 1 + t)
/-- the mesh of a star -/
def shares (ls : List Q2) : Q2 := tot (ls.map (over (1, 1)))
def meshRow (ls : List Q2) (i t : Nat) : Row := (i, i + 1 + t, times (times (ls.getD i z0) (ls.getD (i + 1 + t) z0)) (shares ls))
def meshRows (ls : List Q2) (i : Nat) : List Row := (List.range (ls.length - (i + 1))).map (meshRow ls i)
def meshUpTo (ls : List Q2) (k : Nat) : List Row := (List.range k).flatMap (meshRows ls)
def meshOf (ls : List Q2) : List Row := meshUpTo ls ls.length
def AllPs (ls : List Q2) : Prop := ∀ p ∈ ls, Ps p
theorem AllLow.pos {ls : List Q2} (h : AllLow ls) : Pos ls := fun p hp => (h p hp).pos
/-! the star of a mesh of three -/
def starOf (a b c : Q2) : List Q2 := [over (times c a) (tot [a, b, c]), over (times a b) (tot [a, b, c]), over (times b c) (tot [a, b, c])]
def tri (a b c : Q2) : List Row := [(0, 1, a), (1, 2, b), (2, 0, c)]
end Mq

set_option Elab.async false
set_option linter.all false
set_option maxRecDepth 100000
set_option maxHeartbeats 2000000
namespace L2
open PySem PySem.Spec PyProof.Rows
/-! ### for i, x in enumerate(xs) -/
def Ite (K : PySem.W.Frag) (a : Addr) : It :=
  ⟨fun i H => ∃ xs x, SqL K H a xs ∧ xs[i]? = some x,
   fun i H v H' => ∃ T x, v = .ref T ∧ H T = none ∧ H' = upd H T (.tup [.int (i : Int), x]) ∧ ∀ xs, SqL K H a xs → xs[i]? = some x,
   fun i H => ∃ xs, SqL K H a xs ∧ xs.length ≤ i⟩
def EnumTn (e it l : Addr) (i : Nat) (h : Heap) : Prop := e ≠ it ∧ (∃ old, IsEnum h e it (i : Int) old) ∧ h.IsListIter it l i
section
variable {X : Cx}
def iEnum (K : PySem.W.Frag) (ta : TA) : TI := fun σ H R => ta σ H fun vs H1 => ∃ a, vs = [.ref a] ∧ (∃ xs, SqL K H1 a xs) ∧ R (Ite K a) H1
end
end L2

set_option Elab.async false
set_option linter.all false
set_option maxRecDepth 100000
set_option maxHeartbeats 4000000
namespace Shp
open PySem L2
theorem ifT {c : Bool} {A B : Prop} (h : c = true) (x : A) : if c = true then A else B := by rw [if_pos h]; exact x
theorem ifF {c : Bool} {A B : Prop} (h : c = false) (x : B) : if c = true then A else B := by rw [if_neg (by rw [h]; decide)]; exact x
theorem ix_listK {X : Cx} {K : PySem.W.Frag} (h : X.K = K) : IxR X (rIxL K) := by subst h; exact ix_list
theorem ix_tupK {X : Cx} {K : PySem.W.Frag} (h : X.K = K) : IxR X (rIxT K) := by subst h; exact ix_tup
theorem sub_nil {ec : List (Str × Addr)} : ∀ (x : Str) (c : Addr), ([] : List (Str × Addr)).lookup x = some c → ec.lookup x = some c := fun _ _ h => by cases h
theorem sub_cons {ec cl : List (Str × Addr)} {a : Str} {d : Addr} (h : ec.lookup a = some d) (r : ∀ x c, cl.lookup x = some c → ec.lookup x = some c) : ∀ x c, ((a, d) :: cl).lookup x = some c → ec.lookup x = some c := fun x c e => by
  rw [List.lookup_cons] at e
  cases q : x == a with
  | true => rw [q] at e; rw [eq_of_beq q, h]; exact e
  | false => rw [q] at e; exact r x c e
def spIsF (K : PySem.W.Frag) : Sp := fun vs H Q _ => ∃ (a : Addr) (p : Mq.Q2), vs = [.ref a] ∧ Fq K H a p ∧ Mq.Low p ∧ Q (.bl true) H
def spPS (K : PySem.W.Frag) : Sp := fun vs H Q _ => ∃ (a : Addr) (p : Mq.Q2) (n : Nat), vs = [.ref a] ∧ Fq K H a p ∧ Mq.Low p ∧ 0 < p.1 ∧ Mq.Bd n p ∧ n ≤ 8000 ∧ Q (.bl true) H
def spDiv (K : PySem.W.Frag) : Sp := fun vs H Q _ => ∃ (a b : Addr) (p q : Mq.Q2) (n m : Nat), vs = [.ref a, .ref b] ∧ Fq K H a p ∧ Fq K H b q ∧ 1 ≤ p.2 ∧ 1 ≤ q.2 ∧ 0 < q.1 ∧ Mq.Bd n p ∧ Mq.Bd m q ∧ n + m + 1 ≤ 9000 ∧ NewF H Q (Mq.over p q)
/-- a list of positive fractions -/
structure Lg (K : PySem.W.Frag) (H : Hp) (a : Addr) (xs : List V) (ps : List Mq.Q2) (n : Nat) : Prop where
  sq : SqL K H a xs
  fs : Fqs K H xs ps
  al : Mq.AllPs ps
  ne : ps ≠ []
  bd : ∀ p ∈ ps, Mq.Bd n p
  len : ps.length ≤ 100
def spRefuse (K : PySem.W.Frag) : Sp := fun vs H Q _ => ∃ (a : Addr) (xs : List V) (ps : List Mq.Q2) (n : Nat), vs = [.ref a] ∧ Lg K H a xs ps n ∧ n ≤ 8000 ∧ ∀ H', Same H H' → Q .non H'
def spShares (K : PySem.W.Frag) : Sp := fun vs H Q _ => ∃ (a : Addr) (xs : List V) (ps : List Mq.Q2) (n : Nat), vs = [.ref a] ∧ Lg K H a xs ps n ∧ 10 + n + (n + 2) * ps.length ≤ 8000 ∧ ∀ r H', Same H H' → Fq K H' r (Mq.shares ps) → Q (.ref r) H'
def spInRow (K : PySem.W.Frag) : Sp := fun vs H Q _ => ∃ (a : Addr) (xs : List V) (ps : List Mq.Q2) (n : Nat), vs = [.ref a] ∧ Lg K H a xs ps n ∧ 10 + n + (n + 2) * ps.length ≤ 8000 ∧ ∀ r H', Same H H' → Fq K H' r (Mq.tot ps) → Q (.ref r) H'
def spSide (K : PySem.W.Frag) : Sp := fun vs H Q _ => ∃ (a : Addr) (xs : List V) (ps : List Mq.Q2) (n : Nat), vs = [.ref a] ∧ Lg K H a xs ps n ∧ 10 + n + (n + 2) * ps.length ≤ 8000 ∧ NewF H Q (Mq.over (1, 1) (Mq.shares ps))
/-- the rows of a mesh -/
inductive Mss (K : PySem.W.Frag) (H : Hp) : List V → List Mq.Row → Prop where
  | nil : Mss K H [] []
  | cons {t z : Addr} {r : Mq.Row} {xs : List V} {ms : List Mq.Row} (h : SqT K H t [.int (r.1 : Int), .int (r.2.1 : Int), .ref z]) (f : Fq K H z r.2.2) (q : Mss K H xs ms) : Mss K H (.ref t :: xs) (r :: ms)
def spMeshOf (K : PySem.W.Frag) : Sp := fun vs H Q _ => ∃ (a : Addr) (xs : List V) (ps : List Mq.Q2) (n : Nat), vs = [.ref a] ∧ Lg K H a xs ps n ∧ ps.length ≤ 10 ∧ 10 + n + n + n + (n + 2) * ps.length ≤ 8000 ∧ ∀ l zs H', Same H H' → H l = none → H' l = some (.lst zs) → Mss K H' zs (Mq.meshOf ps) → Q (.ref l) H'
def spStarOf (K : PySem.W.Frag) : Sp := fun vs H Q _ => ∃ (a : Addr) (xs : List V) (p1 p2 p3 : Mq.Q2) (n : Nat), vs = [.ref a] ∧ Lg K H a xs [p1, p2, p3] n ∧ n ≤ 1000 ∧ ∀ l zs H', Same H H' → H l = none → H' l = some (.lst zs) → Fqs K H' zs (Mq.starOf p1 p2 p3) → Q (.ref l) H'
/-- lowest terms of a top and a bottom above nought -/
def spLowP : Sp := fun vs H Q _ => ∃ (t b : Int) (n : Nat), vs = [.int t, .int b] ∧ 0 < b ∧ Mq.B n b ∧ n ≤ 9000 ∧ NewF H Q (Mq.red t b)
theorem dvr_pos {t b : Int} (h : 0 < b) : Mq.dvr t b = Mq.gc t b := by unfold Mq.dvr; rw [if_neg (by omega)]
end Shp

set_option Elab.async false
set_option linter.all false
set_option maxRecDepth 100000
set_option maxHeartbeats 2000000
namespace L2
open PySem PySem.Spec PyProof.Rows
/-! ### a comprehension whose name is read by one within it: the name lies in a cell of the block's own -/
section
variable {M : Model} {A : Around} {E : Value → Shared → Prop} {s : Shared}
theorem newEnv_comp {scope : Scope} {globals : Addr} {cl : List (Str × Addr)} {qual : Str} {env : Env} {Q : Env → Shared → Prop}
    (hQ : Q { scope := scope, locals := s.heap.objs.size, globals := globals, cells := cellsFrom (s.heap.objs.size + 1) scope.names cl, qual := qual, func := none, code := env.code, frame := env.frame, builtins := env.builtins } { s with heap := pushCells (s.heap.push { cls := .type "dict", data := .dict #[] }) scope.names }) :
    wpAny M A (newFunctionEnv scope globals cl [] qual none .none (some env)) Q E s := by
  simp only [newFunctionEnv, Option.isSome_some, if_true]
  refine wpAny_bind (wpAny_alloc ?_)
  refine wpAny_bind (wpAny_layCells _ (fun name kind cells => by cases hkc : kind == NameKind.cell <;> simp [hkc]) _ _ _ _ ?_)
  rw [show ({ s with heap := s.heap.push { cls := .type "dict", data := .dict #[] } } : Shared).heap.objs.size = s.heap.objs.size + 1 from Heap.size_push ..]
  exact wpAny_bind (wpAny_pure (wpAny_pure hQ))
end
abbrev compEnv1 (scope : Scope) (cl : List (Str × Addr)) (x0 : Str) (C : Addr) (env : Env) : Env := { compEnvC scope cl C env with cells := (x0, C + 1) :: cl }
structure CompOk1 (X : Cx) (scope : Scope) (cl : List (Str × Addr)) (x0 : Str) (Nc : List Str) (nl : Nat) (fr : List Nat) : Prop where
  clos : closureFor scope X.env = pure cl
  kind : scope.kind = .function
  names : ∀ y ∈ scope.names, y.2 = .local → scope.names.lookup y.1 = some .local
  one : ∀ n, cellsFrom n scope.names cl = (x0, n) :: cl
  psh : ∀ h, pushCells h scope.names = h.push { cls := .type "cell", data := .cell none }
  nin : cl.lookup x0 = none
  sub : ∀ x c, cl.lookup x = some c → X.env.cells.lookup x = some c
  has : ∀ C x, (relabel scope X.env).names.lookup x = some .cell ∨ (relabel scope X.env).names.lookup x = some .free → ∃ c, ((x0, C) :: cl).lookup x = some c
  len : Nc.length = nl + fr.length
  tail : ∀ i n, Nc[nl + i]? = some n → ∃ j, fr[i]? = some j ∧ X.N[j]? = some n ∧ X.env.kindOf n = some .cell ∧ cl.lookup n = X.env.cells.lookup n ∧ ((relabel scope X.env).names.lookup n = some .cell ∨ (relabel scope X.env).names.lookup n = some .free)
abbrev compCx1 (X : Cx) (scope : Scope) (cl : List (Str × Addr)) (x0 : Str) (Nc : List Str) (C : Addr) (s3 : Shared) (H3 : Hp) (fp : List Addr) (pins : List (Addr × Obj)) : Cx :=
  { X with N := Nc, s₀ := s3, H₀ := H3, env := compEnv1 scope cl x0 C X.env, outer := X.stack, ex := fp, fn := fun x => x == x0, pn := X.pn ++ pins, xe := fun _ _ => False }
section
variable {X : Cx} {scope : Scope} {cl : List (Str × Addr)} {x0 : Str} {Nc : List Str} {nl : Nat} {fr : List Nat} {pins : List (Addr × Obj)} {σ : St} {H3 : Hp} {s3 : Shared} {fp : List Addr} {h4 : Heap} {tk : Nat}
theorem comp_start1 (ck : CompOk1 X scope cl x0 Nc nl fr) (I : Inv X pins σ H3 s3) (hf : ∀ b ∈ fp, FpOk X pins H3 b) (hfs : ∀ b ∈ fp, b < s3.heap.objs.size)
    (hns : h4.Ns s3.heap.objs.size fun _ => none) (hce : h4.IsCell (s3.heap.objs.size + 1) none) (hk : ∀ b o, s3.heap.get? b = some o → h4.get? b = some o) :
    Inv (compCx1 X scope cl x0 Nc s3.heap.objs.size s3 H3 fp pins) [] (σC nl fr σ) H3 { s3 with heap := h4, toks := tk } := by
  have stk : ∀ b ∈ frs X.stack, b ∈ X.env.locals :: X.fs := I.stkSub
  have nfs : ∀ b, b ≠ X.env.locals → b ∉ X.fs → b ∉ frs X.stack := fun b h1 h2 z => (List.mem_cons.mp (stk b z)).elim h1 h2
  have ltc : ∀ x c, cl.lookup x = some c → c < s3.heap.objs.size := fun x c e => by
    obtain ⟨v, z⟩ := I.cell x c (ck.sub x c e)
    exact z.lt
  have lk : ∀ x c, ((x0, s3.heap.objs.size + 1) :: cl).lookup x = some c → (x = x0 ∧ c = s3.heap.objs.size + 1) ∨ cl.lookup x = some c := fun x c e => by
    rw [List.lookup_cons] at e
    cases q : x == x0 with
    | true => rw [q] at e; cases e; exact .inl ⟨eq_of_beq q, rfl⟩
    | false => rw [q] at e; exact .inr e
  refine ⟨⟨I.ok.mod, ck.kind, I.ok.glob, I.ok.blt, Nat.le_refl _, fun x y c h1 h2 => ?inj, fun x hx => ck.has _ x hx, fun x c hz hl => ?cab, I.ok.hd, I.ok.frames, .inl rfl, fun b hb => ?_, I.bs, Nat.le_trans I.ok.bsz I.sz, fun b o e hb => ?_, fun b hb => ?_, I.stack, I.stkFree⟩,
    rfl, I.bare, Un.kept hk, ⟨_, hns, fun i x v h1 h2 h3 => ?_⟩, fun x c e => ?_, I.hok.fresh (Nat.le_refl _), fun x c e => ?frC, fun p hp => ?_, I.hok.kept hk, ?_⟩
  case inj =>
    rcases lk x c h1 with ⟨e1, e2⟩ | h1 <;> rcases lk y c h2 with ⟨e3, e4⟩ | h2
    · rw [e1, e3]
    · have h := ltc y c h2; rw [e2] at h; exact absurd h (Nat.not_lt.mpr (Nat.le_succ _))
    · have h := ltc x c h1; rw [e4] at h; exact absurd h (Nat.not_lt.mpr (Nat.le_succ _))
    · exact I.ok.inj x y c (ck.sub x c h1) (ck.sub y c h2)
  case cab =>
    rcases lk x c hl with ⟨e1, e2⟩ | h1
    · rw [e2]; exact Nat.le_succ _
    · have hz' : (x == x0) = true := hz
      rw [eq_of_beq hz', ck.nin] at h1; cases h1
  case frC =>
    rcases lk x c e with ⟨e1, e2⟩ | h1
    · rw [e2]; exact I.hok.fresh (Nat.le_succ _)
    · exact I.freeC x c (ck.sub x c h1)
  · obtain ⟨f0, f1, f2, f3, f4, f5⟩ := hf b hb
    refine ⟨Nat.ne_of_lt (hfs b hb), fun x c e => ?_⟩
    rcases lk x c e with ⟨e1, e2⟩ | h1
    · rw [e2]; exact Nat.ne_of_gt (Nat.lt_succ_of_lt (hfs b hb))
    · exact f4 x c (ck.sub x c h1)
  · obtain ⟨f0, f1, f2, f3, f4, f5⟩ := hf b hb
    rcases f3 with z | z
    · exact I.ok.noex b o e z
    · exact absurd (Nat.lt_of_lt_of_le (Heap.lt_size e) (Nat.le_trans I.ok.bsz z)) (Nat.lt_irrefl _)
  · obtain ⟨f0, f1, f2, f3, f4, f5⟩ := hf b hb
    exact nfs b f1 f2
  · -- a name's value
    unfold σC at h2
    by_cases hi : i < nl
    · rw [List.getElem?_append_left (by simpa using hi), List.getElem?_replicate] at h2
      split at h2 <;> cases h2
    · have hi' : nl ≤ i := by omega
      rw [List.getElem?_append_right (by simpa using hi'), List.length_replicate, List.getElem?_map] at h2
      obtain ⟨k, rfl⟩ : ∃ k, i = nl + k := ⟨i - nl, by omega⟩
      obtain ⟨j, e1, e2, e3, e4, e5⟩ := ck.tail k x h1
      rw [Nat.add_sub_cancel_left, e1] at h2
      have h2' : (σ[j]?).join = some v := by simpa using h2
      have h2'' : σ[j]? = some (some v) := by
        cases q : σ[j]? with
        | none => rw [q] at h2'; cases h2'
        | some z => rw [q] at h2'; exact congrArg some h2'
      obtain ⟨m, hn, hl⟩ := I.loc
      obtain ⟨u, r, l⟩ := hl j x v e2 h2'' (.inr (.inl e3))
      refine ⟨u, r, ?_⟩
      rcases l with ⟨k1, _⟩ | ⟨k1, c, ec, z⟩
      · rw [e3] at k1; cases k1
      · obtain ⟨o, ho, hd⟩ := z
        refine .inr ⟨e5, c, ?_, o, hk _ _ ho, hd⟩
        show ((x0, s3.heap.objs.size + 1) :: cl).lookup x = some c
        rw [List.lookup_cons]
        have ec' : cl.lookup x = some c := by rw [e4]; exact ec
        cases q : x == x0 with
        | true => rw [eq_of_beq q, ck.nin] at ec'; cases ec'
        | false => exact ec'
  · rcases lk x c e with ⟨e1, e2⟩ | h1
    · rw [e2]; exact ⟨none, hce⟩
    · obtain ⟨v, o, ho, hd⟩ := I.cell x c (ck.sub x c h1)
      exact ⟨v, o, hk _ _ ho, hd⟩
  · have hp' : p ∈ X.pn ++ pins := by simpa using hp
    obtain ⟨e, n, ne, nf, d⟩ := I.pin p hp'
    exact ⟨hk _ _ e, n, Nat.ne_of_lt (Heap.lt_size e), nfs _ ne nf, d⟩
  · unfold σC
    show _ = Nc.length
    rw [List.length_append, List.length_replicate, List.length_map, ck.len]
/-- behind the block -/
theorem comp_end1 {pins' : List (Addr × Obj)} {σ' : St} {H' : Hp} {s' : Shared} (I : Inv X pins σ H3 s3) (hf : ∀ b ∈ fp, FpOk X pins H3 b)
    (J : Inv (compCx1 X scope cl x0 Nc s3.heap.objs.size s3 H3 fp pins) pins' σ' H' s') : Inv X pins σ H' s' ∧ FpOk X pins H' s3.heap.objs.size := by
  refine ⟨I.call' (ch := fp) J.os J.base J.hok J.bare fun b hb => ?_, I.fpOk (Nat.le_refl _) J.free⟩
  obtain ⟨f0, f1, f2, f3, f4, f5⟩ := hf b hb
  exact ⟨f3, f1, f4, f5⟩
end
section
variable {X : Cx} {scope : Scope} {cl : List (Str × Addr)} {x0 : Str} {Nc : List Str} {nl : Nat} {fr : List Nat} {elt tg iter : Expr} {ifs : List Expr} {pos : Pos} {wi : TI} {g : TG} {tt : TT} {te : TE}
theorem comp_run1 (hc : X.calm = true) (ck : CompOk1 X scope cl x0 Nc nl fr) (hi : PI X tg iter wi)
    (hg : ∀ C s3 H3 fp pins, PG (compCx1 X scope cl x0 Nc C s3 H3 fp pins) tg g) (ht : ∀ C s3 H3 fp pins, PIf (compCx1 X scope cl x0 Nc C s3 H3 fp pins) ifs tt) (he : ∀ C s3 H3 fp pins, PE (compCx1 X scope cl x0 Nc C s3 H3 fp pins) elt te)
    {pins : List (Addr × Obj)} {s : Shared} {σ : St} {H : Hp} {Q : VK} (I : Inv X pins σ H s) (h : tComp wi nl fr g tt te σ H Q) {RR : Value → Addr → Result → Shared → Prop}
    (fin : ∀ D C s', (∃ H', (∃ m, s'.heap.Ns C m) ∧ Inv X pins σ H' s' ∧ FpOk X pins H' C ∧ Q (.ref D) H') → RR (.ref D) C (.ok .next) s') :
    wpAny (model X.prog X.w) X.A (eval iter X.env) (fun x s₁ => wpAny (model X.prog X.w) X.A (pyIter x) (fun it s₂ => wpAny (model X.prog X.w) X.A (newList []) (fun acc s₃ =>
      wpAny (model X.prog X.w) X.A (newFunctionEnv scope X.env.globals cl [] X.env.qual none .none (some X.env)) (fun cenv s₄ =>
        codeAny (model X.prog X.w) X.A (.compStart (.ListComp elt [⟨tg, iter, ifs, 0⟩] scope pos) 0 it acc { cenv with scope := relabel scope X.env }) (RR acc cenv.locals) s₄) X.xe s₃) X.xe s₂) X.xe s₁) X.xe s := by
  refine thn (hi pins s σ H _ I h) fun v s1 h1 => thn h1 fun itv s2 h2 => ?_
  obtain ⟨it, fp, tn, J, H2, e, I2, T, st2, f2, hD⟩ := h2
  subst e
  have hn2 : H2 s2.heap.objs.size = none := I2.hok.fresh (Nat.le_refl _)
  obtain ⟨W, ⟨m0, w0⟩, turn⟩ := hD s2.heap.objs.size hn2
  refine wpAny_newObj_type (newEnv_comp ?_)
  dsimp only
  rw [ck.one, ck.psh]
  have I3 : Inv X pins σ (upd H2 s2.heap.objs.size (.lst [])) { s2 with heap := s2.heap.push { cls := .type "list", dict := none, data := .seq ([] : List Value).toArray } } :=
    I2.laid (t' := s2.toks) (fun b u e => Heap.get?_push_of_some _ e) (Nat.le_refl _) ⟨Nat.zero_le _, [], 0, .nil, Heap.get?_push_size _ rfl⟩
  have hfs : ∀ b ∈ fp, b < s2.heap.objs.size := fun b hb => by
    obtain ⟨o, e, _⟩ := T.obj 0 _ st2 b hb
    exact Heap.lt_size e
  have f3 : ∀ b ∈ fp, FpOk X pins (upd H2 s2.heap.objs.size (.lst [])) b := fun b hb => ⟨by rw [upd_ne (Nat.ne_of_lt (hfs b hb))]; exact (f2 b hb).1, (f2 b hb).2⟩
  generalize hH3 : upd H2 s2.heap.objs.size (.lst []) = H3 at *
  generalize hs3 : ({ s2 with heap := s2.heap.push { cls := .type "list", dict := none, data := .seq ([] : List Value).toArray } } : Shared) = s3 at *
  have z3 : s3.heap = s2.heap.push { cls := .type "list", dict := none, data := .seq ([] : List Value).toArray } := by rw [← hs3]
  have hsz3 : s3.heap.objs.size = s2.heap.objs.size + 1 := by rw [z3, Heap.size_push]
  rw [← z3]
  generalize hh4 : (s3.heap.push { cls := .type "dict", data := .dict #[] }).push { cls := .type "cell", data := .cell none } = h4
  have hk4 : ∀ b o, s3.heap.get? b = some o → h4.get? b = some o := fun b o e => by rw [← hh4]; exact Heap.get?_push_of_some _ (Heap.get?_push_of_some _ e)
  have hce4 : h4.IsCell (s3.heap.objs.size + 1) none := by
    rw [← hh4]
    refine ⟨{ cls := .type "cell", data := .cell none }, ?_, rfl⟩
    have := Heap.get?_push_size (s3.heap.push { cls := .type "dict", data := .dict #[] }) (o := { cls := .type "cell", data := .cell none }) rfl
    rw [Heap.size_push] at this
    exact this
  have hfs3 : ∀ b ∈ fp, b < s3.heap.objs.size := fun b hb => Nat.lt_of_lt_of_le (hfs b hb) (by rw [hsz3]; exact Nat.le_succ _)
  have hns' : h4.Ns s3.heap.objs.size fun _ => none := by
    rw [← hh4]
    exact (Heap.Ns.new s3.heap (.type "dict")).keeps fun b o e => Heap.get?_push_of_some _ e
  have K0 := fun tk => comp_start1 (tk := tk) ck I3 f3 hfs3 hns' hce4 hk4
  have stat : ∀ {H' : Hp}, (∀ b ∈ fp, H' b = none) → ∀ b ∈ fp, FpOk (compCx1 X scope cl x0 Nc s3.heap.objs.size s3 H3 fp pins) [] H' b := fun {H'} hn b hb => by
    obtain ⟨f0, g1, g2, g3, g4, g5⟩ := f3 b hb
    refine ⟨hn b hb, Nat.ne_of_lt (hfs3 b hb), fun z => ?_, .inl hb, fun x c e => ?cl, fun p hp => g5 p (by simpa using hp)⟩
    case cl =>
      have e' : ((x0, s3.heap.objs.size + 1) :: cl).lookup x = some c := e
      rw [List.lookup_cons] at e'
      cases q : x == x0 with
      | true => rw [q] at e'; cases e'; exact Nat.ne_of_gt (Nat.lt_succ_of_lt (hfs3 b hb))
      | false => rw [q] at e'; exact g4 x c (ck.sub x c e')
    exact (List.mem_cons.mp (I3.stkSub b z)).elim g1 g2
  have st4 : tn 0 h4 := T.keep 0 _ _ st2 fun b hb o e => hk4 b o (by rw [z3]; exact Heap.get?_push_of_some _ e)
  have loop : ∀ tk, codeAny (model X.prog X.w) X.A (.compLoop (.ListComp elt [⟨tg, iter, ifs, 0⟩] scope pos) 0 (.ref it) (.ref s2.heap.objs.size) (compEnv1 scope cl x0 s3.heap.objs.size X.env)) (RR (.ref s2.heap.objs.size) s3.heap.objs.size) { s3 with heap := h4, toks := tk } := by
    intro tk
    refine comp_loop (fun n s' => ∃ i ys H', Inv (compCx1 X scope cl x0 Nc s3.heap.objs.size s3 H3 fp pins) [] (σC nl fr σ) H' s' ∧ tn i s'.heap ∧ (∀ b ∈ fp, H' b = none) ∧ W i n ys H') ?_ m0 ⟨0, [], H3, K0 tk, st4, fun b hb => (f3 b hb).1, w0⟩
    rintro n s5 ⟨i, ys, H5, I5, st5, fr5, w5⟩
    obtain ⟨hl5, q5⟩ := turn i n ys H5 w5
    rcases q5 with ⟨stop, qn⟩ | ⟨go, step⟩
    · refine wpAny_mono (T.done (compCx1 X scope cl x0 Nc s3.heap.objs.size s3 H3 fp pins) rfl rfl rfl hc i [] s5 (σC nl fr σ) H5 (fun _ _ => False) I5 (stat fr5) st5 stop) (fun r s6 h6 => ?_) fun _ _ z => z
      obtain ⟨hr, I6⟩ := h6
      subst hr
      obtain ⟨z1, z2⟩ := comp_end1 I3 f3 I6
      refine fin _ _ _ ⟨H5, ?_, z1, z2, qn⟩
      obtain ⟨m, hm, _⟩ := I6.loc
      exact ⟨m, hm⟩
    · refine wpAny_mono (T.item (compCx1 X scope cl x0 Nc s3.heap.objs.size s3 H3 fp pins) rfl rfl rfl hc i [] s5 (σC nl fr σ) H5 (fun _ _ => False) I5 (stat fr5) st5 go) (fun r s6 h6 => ?_) fun _ _ z => z
      obtain ⟨u, hr, h6⟩ := h6
      subst hr
      refine wpAny_mono h6 (fun _ s7 h7 => ?_) fun _ _ z => z
      obtain ⟨x, H7, I7, r7, y7, st7, fr7⟩ := h7
      have I7' := I7.pinned (stat fr7) (T.obj _ _ st7)
      refine wpAny_mono (hg s3.heap.objs.size s3 H3 fp pins _ s7 _ H7 x u _ I7' r7 (step x H7 y7)) (fun _ s8 h8 => ?_) fun _ _ z => z
      obtain ⟨σ8, H8, I8, l8, k8, q8⟩ := h8
      refine wpAny_mono (ht s3.heap.objs.size s3 H3 fp pins _ s8 σ8 H8 _ I8 q8) (fun b s9 h9 => ?_) fun _ _ z => z
      obtain ⟨H9, I9, q9⟩ := h9
      have again : ∀ {ys' : List V} {H' : Hp} {s' : Shared} {m' : Nat}, Inv (compCx1 X scope cl x0 Nc s3.heap.objs.size s3 H3 fp pins) ([] ++ pinsAt fp s7.heap) σ8 H' s' → m' < n → W (i + 1) m' ys' H' →
          ∃ m, m < n ∧ ∃ i ys H', Inv (compCx1 X scope cl x0 Nc s3.heap.objs.size s3 H3 fp pins) [] (σC nl fr σ) H' s' ∧ tn i s'.heap ∧ (∀ b ∈ fp, H' b = none) ∧ W i m ys H' := fun {ys' H' s' m'} I' hm w' => by
        refine ⟨m', hm, i + 1, ys', H', I'.unpinned.weak l8.symm k8, T.keep _ _ _ st7 fun b hb o e => (I'.pin (b, o) (List.mem_append_right _ (List.mem_append_right _ (mem_pinsAt hb e)))).1, fun b hb => ?_, w'⟩
        obtain ⟨o, e, d⟩ := T.obj _ _ st7 b hb
        exact (I'.pin (b, o) (List.mem_append_right _ (List.mem_append_right _ (mem_pinsAt hb e)))).2.1
      cases b with
      | false =>
        rw [if_neg Bool.false_ne_true] at q9 ⊢
        obtain ⟨m', hm, w9⟩ := q9
        exact again I9 hm w9
      | true =>
        rw [if_pos rfl] at q9 ⊢
        refine wpAny_mono (he s3.heap.objs.size s3 H3 fp pins _ s9 σ8 H9 _ I9 q9) (fun yv s10 h10 => ?_) fun _ _ z => z
        obtain ⟨y, H10, I10, r10, hl10, hz10, m', hm, w10⟩ := h10
        refine wpAny_mono (mt_append (X := compCx1 X scope cl x0 Nc s3.heap.objs.size s3 H3 fp pins) _ s10 σ8 H10 (.ref s2.heap.objs.size) [y] _ [yv] (fun v H' => H' = upd H10 s2.heap.objs.size (.lst (ys ++ [y]))) I10 rfl (.cons r10 .nil) ⟨_, ys, y, rfl, rfl, hl10, hz10, rfl⟩) (fun _ s11 h11 => ?_) fun _ _ z => z
        obtain ⟨_, H11, I11, _, e11⟩ := h11
        subst e11
        exact again I11 hm w10
  have L := loop s2.toks
  rw [show s3.gens = s2.gens by rw [← hs3], show s3.drawn = s2.drawn by rw [← hs3], show s3.os = s2.os by rw [← hs3]] at L
  exact codeAny_compStart_list L (T.self _ 0 _ _ _ st4 L)
/-- y = [..] (the store comes ahead of the block's end) -/
theorem ps_setC1 {i : Nat} {y : Str} {py spos : Pos} (hN : X.N.Nodup) (hiy : X.N[i]? = some y) (hy : X.env.scope.names.lookup y = some .local) (hc : X.calm = true) (ck : CompOk1 X scope cl x0 Nc nl fr) (hi : PI X tg iter wi)
    (hg : ∀ C s3 H3 fp pins, PG (compCx1 X scope cl x0 Nc C s3 H3 fp pins) tg g) (ht : ∀ C s3 H3 fp pins, PIf (compCx1 X scope cl x0 Nc C s3 H3 fp pins) ifs tt) (he : ∀ C s3 H3 fp pins, PE (compCx1 X scope cl x0 Nc C s3 H3 fp pins) elt te)
    (hsw : swapsWith (.ListComp elt [⟨tg, iter, ifs, 0⟩] scope pos) (some (.Name y py)) spos.line X.env = pure true)
    (hs : ∀ x, foldedSetIterable iter X.env x = pure x := by intro _; rfl) : PS X (.Assign [.Name y py] (.ListComp elt [⟨tg, iter, ifs, 0⟩] scope pos) spos) (tAsg (tComp wi nl fr g tt te) (gName i)) := by
  intro pins s σ H D I h
  rw [exec_Assign_Name_used _ _ _ _ hsw]
  refine wpAny_bind (wpAny_standAt (wpAny_bind ?_))
  show wpAny _ X.A (do let _ ← comprehension (.ListComp elt [⟨tg, iter, ifs, 0⟩] scope pos) scope X.env _ (newList []) false (eval iter X.env) (some (assign (.Name y py) X.env))) _ _ s
  refine wpAny_bind (wpAny_mono (wpAny_comprehension_free (use := some (assign (.Name y py) X.env)) (Q := fun _ s' => SP X pins D .next s') rfl hs ck.clos ck.kind ck.names
    (comp_run1 (RR := fun acc C => compPost (model X.prog X.w) X.A X.xe (some (assign (.Name y py) X.env)) (fun _ s' => SP X pins D .next s') acc C) hc ck hi hg ht he I h fun Dd C s' hh => ?_)) (fun _ s' hq => wpAny_pure (wpAny_pure hq)) fun _ _ e => e)
  obtain ⟨H', ⟨m, hm⟩, hI, hF, q⟩ := hh
  show wpAny _ X.A (assign (.Name y py) X.env (.ref Dd)) _ _ _
  refine wpAny_assign_Name (store_ok2 hI hN hiy (.inl hy) (v := .ref Dd) rfl (fun s2 I2 hsb => ?_) (.inr hy))
  obtain ⟨a, sb, ha⟩ := hsb
  have hCa : C ≠ a := by
    rcases ha with z | z
    · rw [z]; exact hF.2.1
    · exact Ne.symm (hF.2.2.2.2.1 y a z)
  refine ⟨m, hm.sameBut sb hCa, fun h' hs' => ⟨_, H', I2.off hF hs', q⟩⟩
end
end L2

set_option Elab.async false
set_option linter.all false
set_option maxRecDepth 100000
set_option maxHeartbeats 2000000
namespace L2
open PySem PySem.Spec PyProof.Rows
section
variable {X : Cx}
def isum : List Int → Int
  | [] => 0
  | n :: l => n + isum l
theorem isum_app (a b : List Int) : isum (a ++ b) = isum a + isum b := by
  induction a with
  | nil => simp [isum]
  | cons x l ih => simp only [List.cons_append, isum, ih]; omega
theorem preSum_isum (ns : List Int) : ∀ n, n ≤ ns.length → preSum (fun i => ns.getD i 0) n = isum (ns.take n)
  | 0, _ => rfl
  | n + 1, h => by
    rw [List.take_add_one, isum_app, ← preSum_isum ns n (by omega)]
    have : ns[n]? = some ns[n] := List.getElem?_eq_getElem (by omega)
    rw [this]
    simp only [preSum, Option.toList, isum, List.getD_eq_getElem?_getD, this, Option.getD_some]
    omega
/-- sum(list of numbers) -/
def rSum (K : PySem.W.Frag) : List V → Hp → VK → Prop := fun xs H Q => ∃ (p : Addr) (ns : List Int), xs = [.ref p] ∧ SqL K H p (ns.map V.int) ∧ Q (.int (isum ns)) H
theorem call_sum (hc : X.calm = true) : CallR X (.builtin "sum") (rSum X.K) := by
  intro pins s σ H xs us Q I r h
  obtain ⟨p, ns, rfl, hq, q⟩ := h
  obtain ⟨u, rfl, rx⟩ := vals1 r
  cases rx
  obtain ⟨its, rv, pl, hz⟩ := I.list hq
  have hlen : its.toArray.size = ns.length := by rw [List.size_toArray, ← rv.length, List.length_map]
  have hp : p < s.heap.objs.size := by
    obtain ⟨o, e, _⟩ := pl.isList
    exact Heap.lt_size e
  have hne : p ≠ s.heap.objs.size := Nat.ne_of_lt hp
  refine call_sum_walkG (wpAny_pyIter_list pl.isList ?_)
  refine ⟨s.heap.objs.size, _, _, _, _, _, fun i => ns.getD i 0, rfl, Walks.list (by exact I.ok.hd hc) s.heap.objs.size p hne its.toArray, ⟨⟨_, Heap.get?_push_size _ rfl, rfl, rfl⟩, ?_⟩, ?_, ?_, ?_⟩
  · obtain ⟨o, e, c⟩ := pl.isList
    exact ⟨o, Heap.get?_push_of_some _ e, c⟩
  · intro b hb
    simp only [List.mem_cons, List.not_mem_nil, or_false] at hb
    rw [show ({ s with heap := s.heap.push { cls := .type "list_iterator", data := .fields #[.ref p, .int 0 0] } } : Shared).heap.objs.size = s.heap.objs.size + 1 from Heap.size_push ..]
    rcases hb with rfl | rfl
    · exact Nat.lt_succ_self _
    · exact Nat.lt_succ_of_lt hp
  · intro i v hv
    have hv' : its[i]? = some v := by simpa using hv
    have hi : i < its.length := (List.getElem?_eq_some_iff.mp hv').1
    have hin : i < ns.length := by rw [← hlen]; simpa using hi
    have hb : (ns.map V.int)[i]? = some (.int (ns.getD i 0)) := by
      rw [List.getElem?_map, List.getElem?_eq_getElem hin, List.getD_eq_getElem?_getD, List.getElem?_eq_getElem hin]; rfl
    obtain ⟨u, hu, ru⟩ := rv.get hb
    have e : u = v := by rw [hv'] at hu; cases hu; rfl
    subst e
    exact ru
  · intro h' tk t' kk
    rw [hlen, preSum_isum ns _ (Nat.le_refl _), List.take_length]
    refine ⟨.int (isum ns), H, I.kept (t' := tk) fun b o e => kk b o (fun z => ?_) (Heap.get?_push_of_some _ e), ⟨_, rfl⟩, q⟩
    have zb : b = s.heap.objs.size := by simpa using z
    exact absurd (Heap.lt_size e) (by rw [zb]; exact Nat.lt_irrefl _)
end
end L2
namespace L2
open PySem PySem.Spec PyProof.Rows
theorem call_sumK {X : Cx} {K : PySem.W.Frag} (h : X.K = K) (hc : X.calm = true) : CallR X (.builtin "sum") (rSum K) := by subst h; exact call_sum hc
end L2
namespace L2
open PySem PySem.Spec PyProof.Rows
theorem pi_zipK {X : Cx} {K : PySem.W.Frag} (h : X.K = K) {e1 e2 : Expr} {ta : TA} {p pos : Pos} {elts : List Expr} {kk : Nat} {tpos : Pos} (hg : Gl X "zip") (hm : X.mg "zip" = none) (hv : bootBuiltins "zip" = some (.type "zip")) (ha : PA X [e1, e2] ta)
    (hs : starEach [e1, e2] X.env = (false, eval e1 X.env) :: starEach [e2] X.env := by rfl) (hpl : (backTo pos (starEach [e2] X.env)).any (·.1) = false := by rfl) : PI X (.Tuple elts kk tpos) (.Call (.Name "zip" p) [e1, e2] [] pos) (iZip K ta) := by
  subst h; exact pi_zip hg hm hv ha hs hpl
end L2
namespace L2
open PySem PySem.Spec PyProof.Rows
theorem call_list_ofK {X : Cx} {K : PySem.W.Frag} (h : X.K = K) : CallR X (.type "list") (fun xs H Q => ∃ p ys, xs = [.ref p] ∧ (SqL K H p ys ∨ SqT K H p ys) ∧ ∀ l, H l = none → Q (.ref l) (upd H l (.lst ys))) := by subst h; exact call_list_of
end L2

set_option linter.all false
namespace Mq
/-! rows in whole numbers -/
def lcmS (L b : Int) : Int := Int.fdiv L (gc L b) * b
theorem lcmS_parts {L b : Int} (hL : 1 ≤ L) (hb : 1 ≤ b) : 1 ≤ lcmS L b ∧ (∃ j, lcmS L b = L * j) ∧ (∃ k, lcmS L b = k * b ∧ 1 ≤ k) ∧ lcmS L b ≤ L * b := by
  have gp : 0 < gc L b := gc_pos (by omega)
  have d1 : gc L b ∣ L := by unfold gc; exact Int.gcd_dvd_left ..
  have d2 : gc L b ∣ b := by unfold gc; exact Int.gcd_dvd_right ..
  obtain ⟨k, hk⟩ := d1
  obtain ⟨j, hj⟩ := d2
  have ek : Int.fdiv L (gc L b) = k := fdiv_exact (by omega) hk
  have k1 : 1 ≤ k := by
    have : 0 < gc L b * k := by omega
    have := Int.pos_of_mul_pos_right this (by omega)
    omega
  unfold lcmS
  rw [ek]
  refine ⟨?_, ⟨j, ?_⟩, ⟨k, rfl, k1⟩, ?_⟩
  · have : 0 < k * b := Int.mul_pos (by omega) (by omega)
    omega
  · generalize gc L b = g at *
    rw [hk, hj]; grind
  · have : k ≤ L := by
      rw [hk]
      have := Int.mul_le_mul_of_nonneg_right (show 1 ≤ gc L b by omega) (show 0 ≤ k by omega)
      omega
    exact Int.mul_le_mul_of_nonneg_right this (by omega)
def lcmB (ps : List Q2) : Int := ps.foldl (fun L p => lcmS L p.2) 1
theorem lcmB_snoc (ps : List Q2) (p : Q2) : lcmB (ps ++ [p]) = lcmS (lcmB ps) p.2 := by unfold lcmB; rw [List.foldl_append]; rfl
theorem lcmB_take {ps : List Q2} {i : Nat} {p : Q2} (h : ps[i]? = some p) : lcmB (ps.take (i + 1)) = lcmS (lcmB (ps.take i)) p.2 := by
  rw [List.take_add_one, h]; exact lcmB_snoc _ _
theorem lcmB_facts {ps : List Q2} (hp : Pos ps) {n : Nat} (hb : ∀ p ∈ ps, Bd n p) : ∀ i, i ≤ ps.length → 1 ≤ lcmB (ps.take i) ∧ B (1 + n * i) (lcmB (ps.take i)) ∧ ∀ p ∈ ps.take i, ∃ k, lcmB (ps.take i) = k * p.2
  | 0, _ => ⟨by show (1 : Int) ≤ 1; omega, show (1 : Nat) < 2 ^ (1 + n * 0) by simp, fun p h => by simp at h⟩
  | i + 1, hi => by
    obtain ⟨h1, h2, h3⟩ := lcmB_facts hp hb i (by omega)
    have e : ps[i]? = some ps[i] := List.getElem?_eq_getElem (by omega)
    have mem : ps[i] ∈ ps := List.getElem_mem _
    rw [lcmB_take e]
    obtain ⟨l1, ⟨j, l2⟩, ⟨k, l3, l4⟩, l5⟩ := lcmS_parts h1 (hp _ mem)
    refine ⟨l1, ?_, fun p hpp => ?_⟩
    · have := h2.mul (hb _ mem).b
      refine B.mono (n := 1 + n * i + n) (this.le ?_) (by rw [Nat.mul_succ]; omega)
      have h0 : 1 ≤ ps[i].2 := hp _ mem
      have : 0 ≤ lcmB (ps.take i) * ps[i].2 := Int.mul_nonneg (by omega) (by omega)
      omega
    · rw [List.take_add_one, e] at hpp
      rcases List.mem_append.mp hpp with z | z
      · obtain ⟨q, hq⟩ := h3 p z
        exact ⟨q * j, by rw [l2, hq]; grind⟩
      · have : p = ps[i] := by simpa using z
        rw [this]; exact ⟨k, l3⟩
theorem lcmB_ge {ps : List Q2} (hp : Pos ps) : 1 ≤ lcmB ps := by
  have : ∀ (l : List Q2) (L : Int), 1 ≤ L → Pos l → 1 ≤ l.foldl (fun L p => lcmS L p.2) L := fun l => by
    induction l with
    | nil => intro L h _; exact h
    | cons p l ih => intro L h q; exact ih _ (lcmS_parts h (q p (by simp))).1 fun x hx => q x (List.mem_cons_of_mem _ hx)
  exact this ps 1 (by omega) hp
def iwOf (L : Int) (p : Q2) : Int := p.1 * Int.fdiv L p.2
def iw (ps : List Q2) : List Int := ps.map (iwOf (lcmB ps))
theorem iw_val {L k : Int} {p : Q2} (h : 1 ≤ p.2) (e : L = k * p.2) : ((iwOf L p : Int) : Rat) = val p * (L : Rat) := by
  have e1 : Int.fdiv L p.2 = k := fdiv_exact (by omega) (by rw [e, Int.mul_comm])
  have n := cast_ne (show p.2 ≠ 0 by omega)
  unfold iwOf val
  rw [e1, e, Rat.intCast_mul, Rat.intCast_mul]
  grind
theorem lcmB_dvd {ps : List Q2} (hp : Pos ps) : ∀ p ∈ ps, ∃ k, lcmB ps = k * p.2 := fun p hpp => by
  have : ∀ (l : List Q2) (L : Int), 1 ≤ L → Pos l → (∃ j, l.foldl (fun L p => lcmS L p.2) L = L * j) ∧ ∀ p ∈ l, ∃ k, l.foldl (fun L p => lcmS L p.2) L = k * p.2 := fun l => by
    induction l with
    | nil => intro L h _; exact ⟨⟨1, by simp⟩, fun p h => by simp at h⟩
    | cons q l ih =>
      intro L h hq
      obtain ⟨l1, ⟨j, l2⟩, ⟨k, l3, l4⟩, l5⟩ := lcmS_parts h (hq q (by simp))
      obtain ⟨⟨j2, i1⟩, i2⟩ := ih (lcmS L q.2) l1 fun x hx => hq x (List.mem_cons_of_mem _ hx)
      refine ⟨⟨j * j2, by rw [List.foldl_cons, i1, l2]; grind⟩, fun p hp => ?_⟩
      rcases List.mem_cons.mp hp with rfl | hp
      · exact ⟨k * j2, by rw [List.foldl_cons, i1, l3]; grind⟩
      · exact i2 p hp
  exact (this ps 1 (by omega) hp).2 p hpp
/-! the sum of rows by multiples -/
def frs (ms : List Q2) (X : List (List Q2)) : List Q2 := List.zipWith (fun m row => red m.1 (m.2 * lcmB row)) ms X
def prodAt (ms : List Q2) (X : List (List Q2)) (j : Nat) : List Int := List.zipWith (fun t (R : List Int) => t * R.getD j 0) (iw (frs ms X)) (X.map iw)
def sumAt (ms : List Q2) (X : List (List Q2)) (j : Nat) : Q2 := tot (List.zipWith (fun m row => times m (row.getD j z0)) ms X)
def AllPos (X : List (List Q2)) : Prop := ∀ row ∈ X, Pos row
def isumR : List Int → Int
  | [] => 0
  | n :: l => n + isumR l
theorem getD_pos {row : List Q2} (h : Pos row) (j : Nat) : 1 ≤ (row.getD j z0).2 := by
  rw [List.getD_eq_getElem?_getD]
  cases e : row[j]? with
  | none => exact Int.le_refl 1
  | some v => exact h v (List.mem_of_getElem? e)
theorem zip3 : ∀ (ms : List Q2) (X : List (List Q2)) (L : Int) (j : Nat), Pos ms → AllPos X → (∀ p ∈ frs ms X, ∃ k, L = k * p.2) → (∀ row ∈ X, j < row.length) →
    ((isumR (List.zipWith (fun t (R : List Int) => t * R.getD j 0) ((frs ms X).map (iwOf L)) (X.map iw)) : Int) : Rat) = (L : Rat) * rsum ((List.zipWith (fun m row => times m (row.getD j z0)) ms X).map val)
  | [], _, L, j, _, _, _, _ => by simp [frs, isumR, rsum]
  | _ :: _, [], L, j, _, _, _, _ => by simp [frs, isumR, rsum]
  | m :: ms, row :: X, L, j, hm, hX, hd, hj => by
    have ih := zip3 ms X L j (fun p hp => hm p (List.mem_cons_of_mem _ hp)) (fun r hr => hX r (List.mem_cons_of_mem _ hr)) (fun p hp => hd p (by unfold frs at *; simp only [List.zipWith_cons_cons]; exact List.mem_cons_of_mem _ hp)) (fun r hr => hj r (List.mem_cons_of_mem _ hr))
    have m1 := hm m (by simp)
    have rp := hX row (by simp)
    have b1 := lcmB_ge rp
    have bn := cast_ne (show lcmB row ≠ 0 by omega)
    have mb : m.2 * lcmB row ≠ 0 := mul_ne m1 b1
    have hjr := hj row (by simp)
    obtain ⟨k, hk⟩ := hd (red m.1 (m.2 * lcmB row)) (by unfold frs; simp only [List.zipWith_cons_cons]; exact List.mem_cons_self)
    have v1 := iw_val (p := red m.1 (m.2 * lcmB row)) (red_low mb).pos hk
    have vr : val (red m.1 (m.2 * lcmB row)) = val m / (lcmB row : Rat) := by
      rw [val_red mb, Rat.intCast_mul]
      have := cast_ne (show m.2 ≠ 0 by omega)
      unfold val
      grind
    have ej : row[j]? = some (row.getD j z0) := by rw [List.getD_eq_getElem?_getD, List.getElem?_eq_getElem hjr]; rfl
    have mem : row.getD j z0 ∈ row := List.mem_of_getElem? ej
    obtain ⟨k2, hk2⟩ := lcmB_dvd rp _ mem
    have v2 := iw_val (rp _ mem) hk2
    have e2 : (iw row).getD j 0 = iwOf (lcmB row) (row.getD j z0) := by
      unfold iw
      rw [List.getD_eq_getElem?_getD, List.getElem?_map, ej]; rfl
    have s1 : frs (m :: ms) (row :: X) = red m.1 (m.2 * lcmB row) :: frs ms X := rfl
    rw [s1]
    simp only [List.map_cons, List.zipWith_cons_cons, isumR, rsum]
    rw [Rat.intCast_add, Rat.intCast_mul, ih, e2, v1, v2, vr, val_times m1 (getD_pos rp j)]
    generalize rsum ((List.zipWith (fun m row => times m (row.getD j z0)) ms X).map val) = s
    grind
theorem frs_low {ms : List Q2} {X : List (List Q2)} (hm : Pos ms) (hX : AllPos X) : AllLow (frs ms X) := fun p hp => by
  unfold frs at hp
  obtain ⟨i, hi, rfl⟩ := List.getElem_of_mem hp
  rw [List.getElem_zipWith]
  have h1 : i < ms.length := by simp at hi; omega
  have h2 : i < X.length := by simp at hi; omega
  exact red_low (mul_ne (hm _ (List.getElem_mem h1)) (lcmB_ge (hX _ (List.getElem_mem h2))))
theorem sum_pos {ms : List Q2} {X : List (List Q2)} (hm : Pos ms) (hX : AllPos X) (j : Nat) : Pos (List.zipWith (fun m row => times m (row.getD j z0)) ms X) := fun p hp => by
  obtain ⟨i, hi, rfl⟩ := List.getElem_of_mem hp
  rw [List.getElem_zipWith]
  have h1 : i < ms.length := by simp at hi; omega
  have h2 : i < X.length := by simp at hi; omega
  exact (times_low (hm _ (List.getElem_mem h1)) (getD_pos (hX _ (List.getElem_mem h2)) j)).pos
theorem sumAt_low {ms : List Q2} {X : List (List Q2)} (hm : Pos ms) (hX : AllPos X) (j : Nat) : Low (sumAt ms X j) := tot_low (sum_pos hm hX j)
theorem summed_at {ms : List Q2} {X : List (List Q2)} (hm : Pos ms) (hX : AllPos X) {j : Nat} (hj : ∀ row ∈ X, j < row.length) : red (isumR (prodAt ms X j)) (lcmB (frs ms X)) = sumAt ms X j := by
  have fl := frs_low hm hX
  have L1 := lcmB_ge fl.pos
  have Ln := cast_ne (show lcmB (frs ms X) ≠ 0 by omega)
  refine low_ext (red_low (by omega)) (sumAt_low hm hX j) ?_
  rw [val_red (by omega)]
  unfold sumAt
  rw [val_tot (sum_pos hm hX j)]
  have := zip3 ms X (lcmB (frs ms X)) j hm hX (lcmB_dvd fl.pos) hj
  unfold prodAt iw
  unfold iw at this
  rw [this]
  grind
end Mq

set_option Elab.async false
set_option linter.all false
set_option maxRecDepth 100000
set_option maxHeartbeats 4000000
namespace Shp
open PySem L2
theorem isum_R : ∀ l : List Int, isum l = Mq.isumR l
  | [] => rfl
  | n :: l => by simp only [isum, Mq.isumR, isum_R l]
/-- a list of lists of fractions, none of them the list at D -/
inductive Fmx (K : PySem.W.Frag) (D : Addr) (H : Hp) : List V → List (List Mq.Q2) → Prop where
  | nil : Fmx K D H [] []
  | cons {u : Addr} {xs : List V} {ps : List Mq.Q2} {us : List V} {X : List (List Mq.Q2)} (ne : u ≠ D) (h : SqL K H u xs) (f : Fqs K H xs ps) (q : Fmx K D H us X) : Fmx K D H (.ref u :: us) (ps :: X)
theorem Fmx.same {K : PySem.W.Frag} {D : Addr} {H H' : Hp} (e : Same H H') : ∀ {xs : List V} {X : List (List Mq.Q2)}, Fmx K D H xs X → Fmx K D H' xs X
  | _, _, .nil => .nil
  | _, _, .cons n h f q => .cons n (e.seq h) (f.same e) (q.same e)
theorem Fmx.upd {K : PySem.W.Frag} {D : Addr} {H : Hp} {ys : List V} {o : HO} (hl : H D = some (.lst ys)) : ∀ {xs : List V} {X : List (List Mq.Q2)}, Fmx K D H xs X → Fmx K D (L2.upd H D o) xs X
  | _, _, .nil => .nil
  | _, _, .cons n h f q => .cons n (h.upd n) (f.upd hl) (q.upd hl)
theorem Fmx.length {K : PySem.W.Frag} {D : Addr} {H : Hp} : ∀ {xs : List V} {X : List (List Mq.Q2)}, Fmx K D H xs X → xs.length = X.length
  | _, _, .nil => rfl
  | _, _, .cons _ _ _ q => by rw [List.length_cons, List.length_cons, q.length]
theorem Fmx.get {K : PySem.W.Frag} {D : Addr} {H : Hp} : ∀ {xs : List V} {X : List (List Mq.Q2)} {i : Nat} {x : V}, Fmx K D H xs X → xs[i]? = some x → ∃ u ys ps, x = .ref u ∧ X[i]? = some ps ∧ SqL K H u ys ∧ Fqs K H ys ps
  | _, _, 0, _, .cons n h f q, e => by simp at e; exact ⟨_, _, _, e.symm, rfl, h, f⟩
  | _, _, i + 1, _, .cons n h f q, e => by simp at e; exact q.get e
theorem Fmx.app {K : PySem.W.Frag} {D : Addr} {H : Hp} : ∀ {xs ys : List V} {X Y : List (List Mq.Q2)}, Fmx K D H xs X → Fmx K D H ys Y → Fmx K D H (xs ++ ys) (X ++ Y)
  | _, _, _, _, .nil, k => k
  | _, _, _, _, .cons n h f q, k => .cons n h f (q.app k)
theorem Fmx.rev {K : PySem.W.Frag} {D : Addr} {H : Hp} : ∀ {xs : List V} {X : List (List Mq.Q2)}, Fmx K D H xs X → Fmx K D H xs.reverse X.reverse
  | _, _, .nil => .nil
  | _, _, .cons n h f q => by rw [List.reverse_cons, List.reverse_cons]; exact q.rev.app (.cons n h f .nil)
/-- rows in whole numbers, each with its bottom -/
inductive Whs (K : PySem.W.Frag) (D : Addr) (H : Hp) : List V → List (List Int × Int) → Prop where
  | nil : Whs K D H [] []
  | cons {t l : Addr} {r : List Int × Int} {us : List V} {rs : List (List Int × Int)} (ne : l ≠ D) (h : SqT K H t [.ref l, .int r.2]) (f : SqL K H l (r.1.map V.int)) (q : Whs K D H us rs) : Whs K D H (.ref t :: us) (r :: rs)
theorem Whs.same {K : PySem.W.Frag} {D : Addr} {H H' : Hp} (e : Same H H') : ∀ {xs : List V} {rs : List (List Int × Int)}, Whs K D H xs rs → Whs K D H' xs rs
  | _, _, .nil => .nil
  | _, _, .cons n h f q => .cons n (e.seqT h) (e.seq f) (q.same e)
theorem Whs.upd {K : PySem.W.Frag} {D : Addr} {H : Hp} {ys : List V} {o : HO} (hl : H D = some (.lst ys)) : ∀ {xs : List V} {rs : List (List Int × Int)}, Whs K D H xs rs → Whs K D (L2.upd H D o) xs rs
  | _, _, .nil => .nil
  | _, _, .cons n h f q => .cons n (h.upd hl) (f.upd n) (q.upd hl)
theorem Whs.length {K : PySem.W.Frag} {D : Addr} {H : Hp} : ∀ {xs : List V} {rs : List (List Int × Int)}, Whs K D H xs rs → xs.length = rs.length
  | _, _, .nil => rfl
  | _, _, .cons _ _ _ q => by rw [List.length_cons, List.length_cons, q.length]
theorem Whs.get {K : PySem.W.Frag} {D : Addr} {H : Hp} : ∀ {xs : List V} {rs : List (List Int × Int)} {i : Nat} {x : V}, Whs K D H xs rs → xs[i]? = some x → ∃ t l r, x = .ref t ∧ rs[i]? = some r ∧ SqT K H t [.ref l, .int r.2] ∧ SqL K H l (r.1.map V.int)
  | _, _, 0, _, .cons n h f q, e => by simp at e; exact ⟨_, _, _, e.symm, rfl, h, f⟩
  | _, _, i + 1, _, .cons n h f q, e => by simp at e; exact q.get e
theorem Whs.app {K : PySem.W.Frag} {D : Addr} {H : Hp} : ∀ {xs ys : List V} {rs ss : List (List Int × Int)}, Whs K D H xs rs → Whs K D H ys ss → Whs K D H (xs ++ ys) (rs ++ ss)
  | _, _, _, _, .nil, k => k
  | _, _, _, _, .cons n h f q, k => .cons n h f (q.app k)
def wh (row : List Mq.Q2) : List Int × Int := (Mq.iw row, Mq.lcmB row)
def spIW (K : PySem.W.Frag) : Sp := fun vs H Q _ => ∃ (a : Addr) (xs : List V) (ps : List Mq.Q2) (n : Nat), vs = [.ref a] ∧ SqL K H a xs ∧ Fqs K H xs ps ∧ Mq.Pos ps ∧ (∀ p ∈ ps, Mq.Bd n p) ∧ ps.length ≤ 100 ∧ 10 + n + n * ps.length ≤ 8000 ∧
  ∀ t l H', Same H H' → H l = none → SqT K H' t [.ref l, .int (Mq.lcmB ps)] → SqL K H' l ((Mq.iw ps).map V.int) → Q (.ref t) H'
def sumL (ms : List Mq.Q2) (X : List (List Mq.Q2)) (w : Nat) : List Mq.Q2 := (List.range w).map (Mq.sumAt ms X)
def spSummed (K : PySem.W.Frag) : Sp := fun vs H Q _ => ∃ (a g D : Addr) (xs us : List V) (ms : List Mq.Q2) (X : List (List Mq.Q2)) (w : Nat), vs = [.ref a, .ref g] ∧ SqL K H a xs ∧ Fqs K H xs ms ∧ SqL K H g us ∧ Fmx K D H us X ∧ Mq.AllLow ms ∧ Mq.AllPos X ∧ (∀ p ∈ ms, Mq.Bd 60 p) ∧ (∀ row ∈ X, (∀ p ∈ row, Mq.Bd 60 p) ∧ row.length = w) ∧ ms.length = X.length ∧ X.length ≤ 6 ∧ w ≤ 6 ∧ (X = [] → w = 0) ∧
  ∀ l zs H', Same H H' → H l = none → H' l = some (.lst zs) → Fqs K H' zs (sumL ms X w) → Q (.ref l) H'
end Shp

set_option Elab.async false
set_option linter.all false
set_option maxRecDepth 100000
set_option maxHeartbeats 4000000
namespace K21
open PySem L2 Shp
def top (i : Nat) : Stmt := PySem.Challenge.pw_ohmyard_k21_rows_summed.main.body.getD i (.Pass ⟨0, 0, 0, 0⟩)
section
variable {P : Program} {w : World} {K : PySem.W.Frag} {mg : Str → Option Value} {base : Heap} {f g1 g2 g3 g4 g5 g6 g7 g8 g9 : Addr} {fd gd1 gd2 gd3 gd4 gd5 gd6 gd7 gd8 gd9 : FuncData} {CX : CXT}
abbrev sWhole : Stmt := top 4
theorem scWhole : FnScope ["thing"] ["thing"] (defScope sWhole) := ⟨rfl, rfl, rfl, by decide +kernel, rfl, by decide +kernel, by decide +kernel⟩
theorem ok_whole {dV : Value} (F : FunD K "is_whole" "is_whole" sWhole dV f fd) (b : Bl mg) : FnOk P w K mg base CX 1 f fd ["thing"] (spWhole K) := by
  refine F.ok scWhole (fun vs H Q E h => ?_) (fun cdv A outer s H vs Q E hr h => ?_)
  · obtain ⟨x, rfl, _⟩ := h
    rfl
  obtain ⟨x, rfl, h⟩ := h
  refine ⟨_, pss_one (ps_ret (pe_and (pe_isi (i := 0) rfl (Or.inl rfl) b.isi b.int rfl rfl PyProof.Rows.boot_int) (pe_one (pe_not (pe_isi (i := 0) rfl (Or.inl rfl) b.isi b.bool rfl rfl PyProof.Rows.boot_bool))))), ?_⟩
  rcases h with ⟨i, rfl, q⟩ | ⟨t, ty, nw, q⟩
  · exact ⟨_, _, _, rfl, .int i, rfl, _, rfl, iteT ⟨_, _, false, rfl, .int i, (by with_unfolding_all rfl), _, rfl, q⟩⟩
  · rcases nw with rfl | rfl | rfl | rfl | rfl
    · exact ⟨_, _, true, rfl, ty, (by with_unfolding_all rfl), _, rfl, iteT ⟨_, _, _, rfl, ty, rfl, _, rfl, q⟩⟩
    all_goals exact ⟨_, _, false, rfl, ty, (by with_unfolding_all rfl), _, rfl, iteF q⟩
abbrev sGc : Stmt := top 5
theorem scGc : FnScope ["one", "other", "rest"] ["one", "other"] (defScope sGc) := ⟨rfl, rfl, rfl, by decide +kernel, rfl, by decide +kernel, by decide +kernel⟩
theorem ok_gc {dV : Value} (F : FunD K "greatest_common" "greatest_common" sGc dV f fd) (b : Bl mg) : FnOk P w K mg base CX 1 f fd ["one", "other"] spGc := by
  refine F.ok scGc (fun vs H Q E h => ?_) (fun cdv A outer s H vs Q E hr h => ?_)
  · obtain ⟨x, y, rfl, _⟩ := h
    rfl
  obtain ⟨x, y, rfl, q⟩ := h
  refine ⟨_, pss_cons (ps_while PassesOwn.never (pt_cmpR op_ne (pv 1) pe_int (nomark _)) (pss_cons (ps_set (i := 2) scGc.nd rfl (Or.inl rfl) (pe_op op_modN (pv 0) (pv 1)))
    (pss_cons (ps_set (i := 0) scGc.nd rfl (Or.inl rfl) (pv 1)) (pss_one (ps_set (i := 1) scGc.nd rfl (Or.inl rfl) (pv 2))))))
    (pss_one (ps_ret (pe_callB call_abs rfl b.abs PyProof.Rows.boot_abs (pa_cons (pv 0) pa_nil)))), ?_⟩
  refine while_by (fun σ H' => H' = H ∧ ∃ u v z, σ = [some (.int u), some (.int v), z] ∧ Mq.gc u v = Mq.gc x y) (fun σ _ => match σ with | [_, some (.int v), _] => v.natAbs | _ => 0) ⟨rfl, x, y, none, rfl, rfl⟩ ?_ ?_
  · rintro σ H' ⟨rfl, u, v, z, rfl, e⟩
    refine ⟨_, rfl, rfl, _, rfl, ?_⟩
    refine ite2 (fun c => ?_) (fun c => ?_)
    · have hv : v ≠ 0 := by intro q; subst q; simp at c
      refine ⟨_, rfl, _, rfl, _, _, rfl, rfl, hv, _, rfl, _, rfl, ⟨rfl, v, Int.fmod u v, _, rfl, (Mq.gc_step u v).trans e⟩, Mq.fmod_less hv⟩
    · have hv : v = 0 := by
        simp at c
        exact c
      subst hv
      refine ⟨_, rfl, _, rfl, ?_⟩
      rw [← Mq.gc_zero, e]
      exact q
  · rintro σ H Q Q' m ⟨v, h1, h2, k, h3, h4⟩
    exact ⟨v, h1, h2, k, h3, m _ _ h4⟩
abbrev sFrac : Stmt := top 6
theorem scFrac : FnScope ["top", "bottom", "shared"] ["top", "bottom"] (defScope sFrac) := ⟨rfl, rfl, rfl, by decide +kernel, rfl, by decide +kernel, by decide +kernel⟩
theorem ok_frac {dV : Value} (F : FunD K "fraction" "fraction" sFrac dV f fd)
    (G1 : FnOk P w K mg base CX0 1 g1 gd1 ["thing"] (spWhole K)) (b1 : Binds K gd1 ["thing"] []) (k1 : PySem.W.keepIn K (.ref g1) = true) (m1 : mg "is_whole" = some (.ref g1))
    (G2 : FnOk P w K mg base CX0 1 g2 gd2 ["one", "other"] spGc) (b2 : Binds K gd2 ["one", "other"] []) (k2 : PySem.W.keepIn K (.ref g2) = true) (m2 : mg "greatest_common" = some (.ref g2)) :
    FnOk P w K mg base CX 2 f fd ["top", "bottom"] spFrac := by
  refine F.ok scFrac (fun vs H Q E h => ?_) (fun cdv A outer s H vs Q E hr h => ?_)
  · obtain ⟨t, b, n, rfl, _⟩ := h
    rfl
  obtain ⟨t, b, n, rfl, hb, hB, hn, q⟩ := h
  refine ⟨_, pss_cons (ps_if (PW.pt (pw_or (pt_not (pt_val (pe_call G1 hr rfl m1 k1 b1 .nil pass0 (pa_cons (pv 0) pa_nil)))) (pw_or (pt_not (pt_val (pe_call G1 hr rfl m1 k1 b1 .nil pass0 (pa_cons (pv 1) pa_nil)))) (pw_or1 (pt_cmpR op_eq (pv 1) pe_int (nomark _)))))) pss_never pss_nil)
    (pss_cons (ps_set (i := 2) scFrac.nd rfl (Or.inl rfl) (pe_call G2 hr rfl m2 k2 b2 .nil pass0 (pa_cons (pv 0) (pa_cons (pv 1) pa_nil))))
    (pss_cons (ps_if (pt_cmpR op_lt (pv 1) pe_int (nomark _)) (pss_one (ps_set (i := 2) scFrac.nd rfl (Or.inl rfl) (pe_un un_neg (pv 2)))) pss_nil)
    (pss_one (ps_ret (pe_tup (pa_cons (pe_op op_fdivB (pv 0) (pv 2)) (pa_cons (pe_op op_fdivB (pv 1) (pv 2)) pa_nil))))))), ?_⟩
  have hd := Mq.dvr_ne (t := t) hb
  have hdB : Mq.B n (Mq.dvr t b) := hB.le (Mq.dvr_le hb)
  have c0 : decide (V.int b = V.int 0) = false := decide_eq_false (fun z => hb (by cases z; rfl))
  refine ⟨_, rfl, _, rfl, .inl ⟨t, rfl, _, rfl, iteF ⟨_, rfl, _, rfl, .inl ⟨b, rfl, _, rfl, iteF ⟨_, rfl, rfl, _, rfl, ?_⟩⟩⟩⟩⟩
  rw [c0]
  refine iteF ⟨_, rfl, _, rfl, t, b, rfl, ?_⟩
  refine ⟨_, rfl, _, _, rfl, rfl, _, rfl, ?_⟩
  refine ite2 (fun c => ?_) (fun c => ?_)
  · have hlt : b < 0 := of_decide_eq_true c
    have e : Mq.dvr t b = -Mq.gc t b := by unfold Mq.dvr; rw [if_pos hlt]
    rw [e] at hd hdB
    have q' : NewF H Q (t.fdiv (-Mq.gc t b), b.fdiv (-Mq.gc t b)) := by
      have z := q
      unfold Mq.red at z
      rw [e] at z
      exact z
    refine ⟨_, rfl, _, rfl, ?_⟩
    refine ⟨_, rfl, _, rfl, ?_⟩
    refine rd_fdivB hd hdB hn ⟨_, rfl, _, rfl, rd_fdivB hd hdB hn ⟨by show 2 ≤ sizeLine; decide, fun p hp => ?_⟩⟩
    exact q' p _ (same_new hp _) upd_same
  · have hlt : ¬ b < 0 := fun z => c (decide_eq_true z)
    have e : Mq.dvr t b = Mq.gc t b := by unfold Mq.dvr; rw [if_neg hlt]
    rw [e] at hd hdB
    have q' : NewF H Q (t.fdiv (Mq.gc t b), b.fdiv (Mq.gc t b)) := by
      have z := q
      unfold Mq.red at z
      rw [e] at z
      exact z
    refine ⟨_, rfl, _, rfl, ?_⟩
    refine rd_fdivB hd hdB hn ⟨_, rfl, _, rfl, rd_fdivB hd hdB hn ⟨by show 2 ≤ sizeLine; decide, fun p hp => ?_⟩⟩
    exact q' p _ (same_new hp _) upd_same
theorem nd_one_bottom : (["one", "bottom"] : List Str).Nodup := by decide +kernel
abbrev sIW : Stmt := top 9
theorem scIW : FnScope ["some", "bottom", "one"] ["some"] (defScope sIW) := ⟨rfl, rfl, rfl, by decide +kernel, rfl, by decide +kernel, by decide +kernel⟩
theorem ok_iw {dV : Value} (F : FunD K "in_wholes" "in_wholes" sIW dV f fd)
    (G1 : FnOk P w K mg base CX0 1 g1 gd1 ["one", "other"] spGc) (b1 : Binds K gd1 ["one", "other"] []) (k1 : PySem.W.keepIn K (.ref g1) = true) (m1 : mg "greatest_common" = some (.ref g1)) :
    FnOk P w K mg base CX 2 f fd ["some"] (spIW K) := by
  refine F.ok scIW (fun vs H Q E h => ?_) (fun cdv A outer s H vs Q E hr h => ?_)
  · obtain ⟨a, xs, ps, n, rfl, hS, hF, hP, hB, h100, hn, q⟩ := h
    rfl
  obtain ⟨a, xs, ps, n, rfl, hS, hF, hP, hB, h100, hn, q⟩ := h
  refine ⟨_, (pss_cons (ps_set (i := 1) scIW.nd rfl (Or.inr rfl) pe_int)
    (pss_cons (ps_for PassesOwn.never rfl (pi_list (pv 0)) (pg_name (i := 2) scIW.nd rfl (Or.inl rfl))
      (pss_one (ps_set (i := 1) scIW.nd rfl (Or.inr rfl) (pe_op op_mulB (pe_op op_fdivB (pv 1) (pe_call G1 hr rfl m1 k1 b1 .nil pass0 (pa_cons (pv 1) (pa_cons (pe_ix ix_tup (pv 2) pe_int (fun _ _ => rfl)) pa_nil)))) (pe_ix ix_tup (pv 2) pe_int (fun _ _ => rfl))))))
    (pss_one (ps_ret (pe_tup (pa_cons (pe_comp (nl := 1) (fr := [1]) (Nc := ["one", "bottom"]) (cl := [("bottom", s.heap.objs.size + 1)]) rfl ⟨rfl, rfl, by decide +kernel, by decide +kernel, fun x c h => h, has_of rfl, rfl, fun i n h => match i, h with | 0, h => by cases h; exact ⟨1, rfl, rfl, rfl, rfl, .inl rfl⟩ | k + 1, h => by rw [show 1 + (k + 1) = k + 2 by omega] at h; cases h⟩
        (pi_list (pv 0)) (fun C s3 H3 fp pins => (pg_name (i := 0) nd_one_bottom rfl (Or.inl rfl))) (fun C s3 H3 fp pins => pif_nil)
        (fun C s3 H3 fp pins => (pe_op op_mulB (pe_ix (ix_tupK (K := K) rfl) (pv 0) pe_int (fun _ _ => rfl)) (pe_op op_fdivB (pv 1) (pe_ix (ix_tupK (K := K) rfl) (pv 0) pe_int (fun _ _ => rfl)))))) (pa_cons (pv 1) pa_nil))))))), ?_⟩
  have lx := hF.length
  refine ⟨_, rfl, a, rfl, ⟨_, hS⟩, ?_⟩
  refine for_list (xs := xs) (fun i σ H' => H' = H ∧ i ≤ ps.length ∧ ∃ z, σ = [some (.ref a), some (.int (Mq.lcmB (ps.take i))), z]) ⟨rfl, Nat.zero_le _, none, rfl⟩ (fun i σ H' _ h => by rw [h.1]; exact hS) ?_ ?_
  · rintro i x σ H' hx ⟨rfl, hi, z, rfl⟩
    obtain ⟨u, p, rfl, ep, fu⟩ := hF.get hx
    have hi' : i < ps.length := (List.getElem?_eq_some_iff.mp ep).1
    obtain ⟨f1, f2, _⟩ := Mq.lcmB_facts hP hB i hi
    have mono := Nat.mul_le_mul_left n hi
    have hp := hP p (List.mem_of_getElem? ep)
    have pb := (hB p (List.mem_of_getElem? ep)).b
    have g0 : Mq.gc (Mq.lcmB (ps.take i)) p.2 ≠ 0 := by have := Mq.gc_pos (a := Mq.lcmB (ps.take i)) (show p.2 ≠ 0 by omega); omega
    have gb : Mq.B n (Mq.gc (Mq.lcmB (ps.take i)) p.2) := by
      have := Mq.dvr_le (t := Mq.lcmB (ps.take i)) (show p.2 ≠ 0 by omega)
      rw [dvr_pos (by omega)] at this
      exact pb.le this
    have qb : Mq.B (1 + n * i) (Int.fdiv (Mq.lcmB (ps.take i)) (Mq.gc (Mq.lcmB (ps.take i)) p.2)) := by
      have d1 : Mq.gc (Mq.lcmB (ps.take i)) p.2 ∣ Mq.lcmB (ps.take i) := by unfold Mq.gc; exact Int.gcd_dvd_left ..
      obtain ⟨k, hk⟩ := d1
      have := Mq.natAbs_fdiv_le g0 hk
      rw [Mq.fdiv_exact g0 hk]
      exact f2.le this
    refine ⟨_, rfl, _, rfl, rd_ix1 rfl fu ⟨_, _, rfl, rd_fdivB g0 gb (by omega) (rd_ix1 rfl fu (rd_mulB qb pb (by omega) (by omega) ?_))⟩⟩
    refine ⟨rfl, hi', some (.ref u), ?_⟩
    rw [Mq.lcmB_take ep]
    rfl
  rintro σ H' ⟨rfl, _, z, rfl⟩
  rw [lx, List.take_length]
  obtain ⟨f1, f2, f3⟩ := Mq.lcmB_facts hP hB ps.length (Nat.le_refl _)
  rw [List.take_length] at f1 f2 f3
  refine ⟨_, rfl, a, rfl, ⟨_, hS⟩, fun D hD => ?_⟩
  have sD := same_new hD (.lst [])
  refine comp_list (xs := xs) (fun i zs H1 => Same H' H1 ∧ H1 D = some (.lst zs) ∧ zs = ((ps.take i).map (Mq.iwOf (Mq.lcmB ps))).map V.int) ⟨sD, upd_same, rfl⟩ (fun i zs H1 h => h.2.1) (fun i zs H1 _ h => h.1.seq hS) ?_ ?_
  · rintro i zs x H1 hx ⟨s1, e1, rfl⟩ C hC
    obtain ⟨u, p, rfl, ep, fu⟩ := hF.get hx
    have hi' : i < ps.length := (List.getElem?_eq_some_iff.mp ep).1
    have mem := List.mem_of_getElem? ep
    have hp := hP p mem
    obtain ⟨k, hk⟩ := f3 p mem
    have fu1 := s1.fq fu
    have kb : Mq.B (1 + n * ps.length) (Int.fdiv (Mq.lcmB ps) p.2) := by
      have e := Mq.fdiv_exact (show p.2 ≠ 0 by omega) (show Mq.lcmB ps = p.2 * k by rw [hk, Int.mul_comm])
      rw [e]
      refine f2.le ?_
      rw [hk, Int.natAbs_mul]
      exact Nat.le_mul_of_pos_right _ (by omega)
    refine ⟨keep1.1, keep1.2, iteT ?_⟩
    refine rd_ix0 rfl fu1 ⟨_, rfl, rd_ix1 rfl fu1 (rd_fdivB (show p.2 ≠ 0 by omega) (hB p mem).b (by omega) (rd_mulB (hB p mem).a kb (by omega) (by omega) ?_))⟩
    refine ⟨e1, small1000 (by rw [List.length_map, List.length_map, List.length_take]; omega), hC _ _ ⟨s1.change hD, upd_same, ?_⟩⟩
    rw [List.take_add_one, ep, List.map_append, List.map_append]; rfl
  rintro zs H1 ⟨s1, e1, rfl⟩
  rw [lx, List.take_length] at e1
  refine ⟨_, rfl, by show 2 ≤ sizeLine; decide, fun t ht => ?_⟩
  have s2 := same_new ht (.tup [.ref D, .int (Mq.lcmB ps)])
  exact q t D _ (s1.trans s2) hD (SqT.of upd_same) (s2.seq (SqL.of e1))
end
end K21

set_option Elab.async false
set_option linter.all false
set_option maxRecDepth 100000
set_option maxHeartbeats 4000000
namespace K21
open PySem L2 Shp
section
variable {P : Program} {w : World} {K : PySem.W.Frag} {mg : Str → Option Value} {base : Heap} {f g1 g2 g3 g4 g5 g6 g7 g8 g9 : Addr} {fd gd1 gd2 gd3 gd4 gd5 gd6 gd7 gd8 gd9 : FuncData} {CX : CXT}
theorem frs_take {ms : List Mq.Q2} {X : List (List Mq.Q2)} {i : Nat} {m : Mq.Q2} {row : List Mq.Q2} (e1 : ms[i]? = some m) (e2 : X[i]? = some row) : (Mq.frs ms X).take (i + 1) = (Mq.frs ms X).take i ++ [Mq.red m.1 (m.2 * Mq.lcmB row)] := by
  unfold Mq.frs
  rw [List.take_add_one, List.getElem?_zipWith, e1, e2]; rfl
theorem nd_row : (["row"] : List Str).Nodup := by decide +kernel
theorem nd_one_row : (["one", "row"] : List Str).Nodup := by decide +kernel
theorem nd_column_rows_by_row : (["column", "rows", "by_row"] : List Str).Nodup := by decide +kernel
theorem nd_top_row_column : (["top", "row", "column"] : List Str).Nodup := by decide +kernel
theorem nd_top_by_row : (["top", "by_row"] : List Str).Nodup := by decide +kernel
abbrev sSummed : Stmt := top 8
theorem scSummed : FnScope ["multiples", "matrix", "rows", "by_row", "width", "tops"] ["multiples", "matrix"] (defScope sSummed) := ⟨rfl, rfl, rfl, by decide +kernel, rfl, by decide +kernel, by decide +kernel⟩
theorem ok_summed {dV : Value} (F : FunD K "summed" "summed" sSummed dV f fd)
    (ml : mg "len" = none) (mr : mg "range" = none) (mz : mg "zip" = none) (msu : mg "sum" = none)
    (G1 : FnOk P w K mg base CX0 2 g1 gd1 ["some"] (spIW K)) (b1 : Binds K gd1 ["some"] []) (k1 : PySem.W.keepIn K (.ref g1) = true) (m1 : mg "in_wholes" = some (.ref g1))
    (G2 : FnOk P w K mg base CX0 2 g2 gd2 ["top", "bottom"] spFrac) (b2 : Binds K gd2 ["top", "bottom"] []) (k2 : PySem.W.keepIn K (.ref g2) = true) (m2 : mg "fraction" = some (.ref g2)) :
    FnOk P w K mg base CX 3 f fd ["multiples", "matrix"] (spSummed K) := by
  refine F.ok scSummed (fun vs H Q E h => ?_) (fun cdv A outer s H vs Q E hr h => ?_)
  · obtain ⟨a, g, D0, xs, us, ms, X, w', rfl, hS, hF, hU, hX, mL, xP, mB, xB, hlen, x6, w6, w0, q⟩ := h
    rfl
  obtain ⟨a, g, D0, xs, us, ms, X, w', rfl, hS, hF, hU, hX, mL, xP, mB, xB, hlen, x6, w6, w0, q⟩ := h
  refine ⟨_, (pss_cons (ps_set (i := 2) scSummed.nd rfl (Or.inr rfl) (pe_comp (nl := 1) (fr := []) (Nc := ["row"]) (cl := []) rfl ⟨rfl, rfl, by decide +kernel, by decide +kernel, fun x c h => (by cases h), has_of rfl, rfl, fun i n h => (by simp at h)⟩
        (pi_list (pv 1)) (fun C s3 H3 fp pins => (pg_name (i := 0) nd_row rfl (Or.inl rfl))) (fun C s3 H3 fp pins => pif_nil)
        (fun C s3 H3 fp pins => (pe_call G1 hr rfl m1 k1 b1 .nil pass0 (pa_cons (pv 0) pa_nil)))))
    (pss_cons (ps_set (i := 3) scSummed.nd rfl (Or.inr rfl) (pe_call G1 hr rfl m1 k1 b1 .nil pass0 (pa_cons (pe_comp (nl := 2) (fr := []) (Nc := ["one", "row"]) (cl := []) (g := (gTup K 2 (gCons (gName 0) (gCons (gName 1) gNil)))) rfl ⟨rfl, rfl, by decide +kernel, by decide +kernel, fun x c h => (by cases h), has_of rfl, rfl, fun i n h => (by simp at h)⟩
        (pi_zip rfl mz rfl (pa_cons (pv 0) (pa_cons (pv 2) pa_nil))) (fun C s3 H3 fp pins => (pg_tup rfl (pgs_cons (pg_name (i := 0) nd_one_row rfl (Or.inl rfl)) (pgs_cons (pg_name (i := 1) nd_one_row rfl (Or.inl rfl)) pgs_nil)))) (fun C s3 H3 fp pins => pif_nil)
        (fun C s3 H3 fp pins => (pe_call G2 hr rfl m2 k2 b2 .nil pass0 (pa_cons (pe_ix (ix_tupK (K := K) rfl) (pv 0) pe_int (fun _ _ => rfl)) (pa_cons (pe_op op_mulB (pe_ix (ix_tupK (K := K) rfl) (pv 0) pe_int (fun _ _ => rfl)) (pe_ix (ix_tupK (K := K) rfl) (pv 1) pe_int (fun _ _ => rfl))) pa_nil))))) pa_nil)))
    (pss_cons (ps_set (i := 4) scSummed.nd rfl (Or.inl rfl) (pe_ifExp (pt_cmpR op_gt (pe_callB call_len_seq rfl ml PySem.boot_len (pa_cons (pv 1) pa_nil)) pe_int (nomark _)) (pe_callB call_len_seq rfl ml PySem.boot_len (pa_cons (pe_ix ix_list (pv 1) pe_int (fun _ _ => rfl)) pa_nil)) pe_int))
    (pss_cons (ps_setC1 (i := 5) (nl := 1) (fr := [2, 3]) (Nc := ["column", "rows", "by_row"]) (cl := [("rows", s.heap.objs.size + 1), ("by_row", s.heap.objs.size + 2)]) (x0 := "column") scSummed.nd rfl rfl rfl ⟨rfl, rfl, by decide +kernel, fun _ => rfl, fun _ => rfl, rfl, (sub_cons rfl (sub_cons rfl (sub_nil))), fun _ => has_of rfl, rfl, fun i n h => match i, h with | 0, h => by cases h; exact ⟨2, rfl, rfl, rfl, rfl, .inl rfl⟩ | 1, h => by cases h; exact ⟨3, rfl, rfl, rfl, rfl, .inl rfl⟩ | k + 2, h => by rw [show 1 + (k + 2) = k + 3 by omega] at h; cases h⟩
        (pi_range1 rfl mr (pa_cons (pv 4) pa_nil)) (fun C s3 H3 fp pins => (pg_name (i := 0) nd_column_rows_by_row rfl (Or.inr rfl))) (fun C s3 H3 fp pins => pif_nil)
        (fun C s3 H3 fp pins => (pe_callB (call_sumK (K := K) rfl rfl) rfl msu PyProof.Rows.boot_sum (pa_cons (pe_comp (nl := 2) (fr := [0]) (Nc := ["top", "row", "column"]) (cl := [("column", C + 1)]) (g := (gTup K 2 (gCons (gName 0) (gCons (gName 1) gNil)))) rfl ⟨rfl, rfl, by decide +kernel, by decide +kernel, (sub_cons rfl (sub_nil)), has_of rfl, rfl, fun i n h => match i, h with | 0, h => by cases h; exact ⟨0, rfl, rfl, rfl, rfl, .inl rfl⟩ | k + 1, h => by rw [show 2 + (k + 1) = k + 3 by omega] at h; cases h⟩
        (pi_zipK (K := K) rfl rfl mz rfl (pa_cons (pe_ix (ix_tupK (K := K) rfl) (pv 2) pe_int (fun _ _ => rfl)) (pa_cons (pv 1) pa_nil))) (fun C s3 H3 fp pins => (pg_tup rfl (pgs_cons (pg_name (i := 0) nd_top_row_column rfl (Or.inl rfl)) (pgs_cons (pg_name (i := 1) nd_top_row_column rfl (Or.inl rfl)) pgs_nil)))) (fun C s3 H3 fp pins => pif_nil)
        (fun C s3 H3 fp pins => (pe_op op_mulB (pv 0) (pe_ix (ix_listK (K := K) rfl) (pe_ix (ix_tupK (K := K) rfl) (pv 1) pe_int (fun _ _ => rfl)) (pv 2) (fun _ _ => rfl))))) pa_nil))) rfl)
    (pss_one (ps_ret (pe_comp (nl := 1) (fr := [3]) (Nc := ["top", "by_row"]) (cl := [("by_row", s.heap.objs.size + 2)]) rfl ⟨rfl, rfl, by decide +kernel, by decide +kernel, (sub_cons rfl (sub_nil)), has_of rfl, rfl, fun i n h => match i, h with | 0, h => by cases h; exact ⟨3, rfl, rfl, rfl, rfl, .inl rfl⟩ | k + 1, h => by rw [show 1 + (k + 1) = k + 2 by omega] at h; cases h⟩
        (pi_list (pv 5)) (fun C s3 H3 fp pins => (pg_name (i := 0) nd_top_by_row rfl (Or.inl rfl))) (fun C s3 H3 fp pins => pif_nil)
        (fun C s3 H3 fp pins => (pe_call G2 hr rfl m2 k2 b2 .nil pass0 (pa_cons (pv 0) (pa_cons (pe_ix (ix_tupK (K := K) rfl) (pv 1) pe_int (fun _ _ => rfl)) pa_nil))))))))))), ?_⟩
  have lx := hF.length
  have lu := hX.length
  -- rows
  refine ⟨_, rfl, g, rfl, ⟨_, hU⟩, fun D1 hD1 => ?_⟩
  have sD1 := same_new hD1 (.lst [])
  refine comp_list (xs := us) (fun i zs H' => Same H H' ∧ H' D1 = some (.lst zs) ∧ Whs K D1 H' zs ((X.take i).map wh)) ⟨sD1, upd_same, .nil⟩ (fun i zs H' h => h.2.1) (fun i zs H' _ h => h.1.seq hU) ?_ ?_
  · rintro i zs x H1 hx ⟨s1, e1, W1⟩ C hC
    obtain ⟨u, ys, row, rfl, er, hu', fu⟩ := hX.get hx
    have hi : i < X.length := (List.getElem?_eq_some_iff.mp er).1
    have mem := List.mem_of_getElem? er
    obtain ⟨rb, rl⟩ := xB row mem
    have lz := W1.length
    rw [List.length_map, List.length_take] at lz
    refine ⟨keep1.1, keep1.2, iteT ?_⟩
    refine ⟨_, rfl, u, ys, row, 60, rfl, s1.seq hu', fu.same s1, xP row mem, rb, by omega, by rw [rl]; omega, fun t l H2 s2 nl ht hl => ?_⟩
    have e2 := s2 _ _ e1
    have ne : l ≠ D1 := fun z => by rw [z, e1] at nl; cases nl
    refine ⟨e2, small1000 (by omega), hC _ _ ⟨(s1.trans s2).change hD1, upd_same, ?_⟩⟩
    have ee : (X.take (i + 1)).map wh = (X.take i).map wh ++ [wh row] := by rw [List.take_add_one, er, List.map_append]; rfl
    rw [ee]
    exact ((W1.same s2).app (.cons ne ht hl .nil)).upd e2
  rintro zs1 H1 ⟨s1, e1, W1⟩
  rw [lu, List.take_length] at W1
  have lz1 := W1.length
  rw [List.length_map] at lz1
  -- by_row
  have mP := mL.pos
  have fl := Mq.frs_low mP xP
  have lfr : (Mq.frs ms X).length = X.length := by unfold Mq.frs; simp [hlen]
  have rowB : ∀ row ∈ X, Mq.B 400 (Mq.lcmB row) := fun row hr => by
    obtain ⟨rb, rl⟩ := xB row hr
    obtain ⟨_, h2, _⟩ := Mq.lcmB_facts (xP row hr) rb row.length (Nat.le_refl _)
    rw [List.take_length] at h2
    exact h2.mono (by rw [rl]; omega)
  have frB : ∀ p ∈ Mq.frs ms X, Mq.Bd 460 p := fun p hp => by
    unfold Mq.frs at hp
    obtain ⟨i, hi, rfl⟩ := List.getElem_of_mem hp
    rw [List.getElem_zipWith]
    have h1 : i < ms.length := by simp at hi; omega
    have h2 : i < X.length := by simp at hi; omega
    have mb := mB _ (List.getElem_mem h1)
    have rb := rowB _ (List.getElem_mem h2)
    have ne := Mq.mul_ne (mP _ (List.getElem_mem h1)) (Mq.lcmB_ge (xP _ (List.getElem_mem h2)))
    have le := Mq.red_le (t := (ms[i]).1) ne
    exact ⟨(mb.a.mono (by omega)).le le.1, (mb.b.mul rb).le le.2⟩
  refine ⟨_, rfl, _, rfl, a, D1, rfl, ⟨_, s1.seq hS⟩, ⟨_, SqL.of e1⟩, fun D2 hD2 => ?_⟩
  have sD2 := same_new hD2 (.lst [])
  refine comp_zip (xs := xs) (ys := zs1) (fun i zs H' => Same H1 H' ∧ H' D2 = some (.lst zs) ∧ Fqs K H' zs ((Mq.frs ms X).take i)) ⟨sD2, upd_same, .nil⟩ (fun i zs H' h => h.2.1) (fun i zs H' _ h => ⟨(s1.trans h.1).seq hS, h.1.seq (SqL.of e1)⟩) ?_ ?_
  · rintro i zs x y H3 T1 ex ey ⟨s3, e3, hF3⟩ hT C hC
    obtain ⟨u, m, rfl, em, fu⟩ := hF.get ex
    obtain ⟨t, l, r, rfl, er, ht, hl⟩ := W1.get ey
    obtain ⟨row, erow, rfl⟩ : ∃ row, X[i]? = some row ∧ r = wh row := by
      rw [List.getElem?_map] at er
      cases e : X[i]? with
      | none => rw [e] at er; cases er
      | some row => rw [e] at er; cases er; exact ⟨row, rfl, rfl⟩
    have hi : i < X.length := (List.getElem?_eq_some_iff.mp erow).1
    have lz := hF3.length
    rw [List.length_take, lfr] at lz
    have sT := same_new hT (.tup [.ref u, .ref t])
    refine ⟨T1, _, rfl, SqT.of upd_same, rfl, _, _, rfl, _, _, rfl, rfl, keep2.1, keep2.2, iteT ?_⟩
    have sB := s1.trans (s3.trans sT)
    have fu' := sB.fq fu
    have ht' := (s3.trans sT).seqT ht
    have mm := List.mem_of_getElem? em
    have xm := List.mem_of_getElem? erow
    have ne := Mq.mul_ne (mP m mm) (Mq.lcmB_ge (xP row xm))
    refine rd_ix0 rfl fu' (rd_ix1 rfl fu' ⟨_, rfl, t, _, _, _, rfl, rfl, ht', rfl, rd_mulB (mB m mm).b (rowB row xm) (by omega) (by omega) ?_⟩)
    refine ⟨_, _, 460, rfl, ne, (mB m mm).b.mul (rowB row xm), by omega, fun r4 H4 s4 e4 => ?_⟩
    have eA := s4 _ _ (sT _ _ e3)
    refine ⟨eA, small1000 (by omega), hC _ _ ⟨((s3.trans sT).trans s4).change hD2, upd_same, ?_⟩⟩
    rw [frs_take em erow]
    exact ((hF3.same (sT.trans s4)).app (.cons (Fq.of e4) .nil)).upd eA
  rintro zs2 H3 ⟨s3, e3, hF3⟩
  rw [show min xs.length zs1.length = (Mq.frs ms X).length by rw [lfr]; omega, List.take_length] at hF3
  refine ⟨D2, zs2, _, 460, rfl, SqL.of e3, hF3, fl.pos, frB, by rw [lfr]; omega, by rw [lfr]; omega, fun tB lB H4 s4 _ hB hlB => ?_⟩
  have sA := s1.trans (s3.trans s4)
  have W4 := W1.same (s3.trans s4)
  have e4 := (s3.trans s4) _ _ e1
  -- width
  have Lge := Mq.lcmB_ge fl.pos
  have LB : Mq.B 3000 (Mq.lcmB (Mq.frs ms X)) := by
    obtain ⟨_, h2, _⟩ := Mq.lcmB_facts fl.pos frB (Mq.frs ms X).length (Nat.le_refl _)
    rw [List.take_length] at h2
    exact h2.mono (by rw [lfr]; omega)
  have ld := Mq.lcmB_dvd fl.pos
  have at_ := fun (j : Nat) (hj : ∀ row ∈ X, j < row.length) => Mq.summed_at mP xP hj
  have TB : ∀ x ∈ Mq.iw (Mq.frs ms X), Mq.B 3500 x := fun x hx => by
    unfold Mq.iw at hx
    obtain ⟨p, hp, rfl⟩ := List.mem_map.mp hx
    obtain ⟨k, hk⟩ := ld p hp
    have p1 := (fl p hp).pos
    have e := Mq.fdiv_exact (show p.2 ≠ 0 by omega) (show Mq.lcmB (Mq.frs ms X) = p.2 * k by rw [hk, Int.mul_comm])
    unfold Mq.iwOf
    rw [e]
    refine ((frB p hp).a.mul (LB.le (j := k) ?_)).mono (by omega)
    rw [hk, Int.natAbs_mul]
    exact Nat.le_mul_of_pos_right _ (by omega)
  have RB : ∀ row ∈ X, ∀ x ∈ Mq.iw row, Mq.B 500 x := fun row hr x hx => by
    unfold Mq.iw at hx
    obtain ⟨p, hp, rfl⟩ := List.mem_map.mp hx
    obtain ⟨k, hk⟩ := Mq.lcmB_dvd (xP row hr) p hp
    have p1 := xP row hr p hp
    have e := Mq.fdiv_exact (show p.2 ≠ 0 by omega) (show Mq.lcmB row = p.2 * k by rw [hk, Int.mul_comm])
    unfold Mq.iwOf
    rw [e]
    refine (((xB row hr).1 p hp).a.mul ((rowB row hr).le (j := k) ?_)).mono (by omega)
    rw [hk, Int.natAbs_mul]
    exact Nat.le_mul_of_pos_right _ (by omega)
  refine ⟨_, rfl, g, us, rfl, .inl (sA.seq hU), _, _, rfl, rfl, _, rfl, ?_⟩
  by_cases hx0 : X = []
  · -- no rows
    have hw := w0 hx0
    subst hw
    refine ifF (decide_eq_false (by rw [lu, hx0]; simp)) ?_
    refine ⟨_, rfl, 0, rfl, by omega, by omega, fun D3 hD3 => ?_⟩
    refine comp_range (n := 0) (fun i zs H' => i = 0 ∧ zs = [] ∧ Same H4 H' ∧ H' D3 = some (.lst [])) ⟨rfl, rfl, same_new hD3 _, upd_same⟩ (fun i zs H' h => by rw [h.2.1]; exact h.2.2.2) (fun i zs H' hi => absurd hi (by omega)) ?_
    rintro zs H5 ⟨_, rfl, s5, e5⟩
    refine ⟨_, rfl, D3, rfl, ⟨_, SqL.of e5⟩, fun D5 hD5 => ?_⟩
    refine comp_list (xs := []) (fun i zs H' => zs = [] ∧ Same H5 H' ∧ H' D5 = some (.lst [])) ⟨rfl, same_new hD5 _, upd_same⟩ (fun i zs H' h => by rw [h.1]; exact h.2.2) (fun i zs H' _ h => h.2.1.seq (SqL.of e5)) (fun i zs x H' hx => by simp at hx) ?_
    rintro zs H6 ⟨rfl, s6, e6⟩
    exact q D5 [] H6 (sA.trans (s5.trans s6)) ((sA.trans s5).free hD5) e6 .nil
  have X0 : 0 < X.length := List.length_pos_iff.mpr hx0
  refine ifT (decide_eq_true (show ((us.length : Nat) : Int) > 0 by omega)) ?_
  have eu0 : us[0]? = some us[0] := List.getElem?_eq_getElem (by omega)
  obtain ⟨u0, ys0, row0, ex0, er0, hu0, fu0⟩ := (hX.same sA).get eu0
  have ly0 : ys0.length = w' := by rw [fu0.length]; exact (xB row0 (List.mem_of_getElem? er0)).2
  rw [ex0] at eu0
  refine ⟨_, rfl, g, us, _, _, rfl, rfl, sA.seq hU, atI_nat (j := 0) eu0, u0, ys0, rfl, .inl hu0, ?_⟩
  rw [ly0]
  have hrl : ∀ row ∈ X, row.length = w' := fun row hr => (xB row hr).2
  -- tops
  refine ⟨_, rfl, (w' : Int), rfl, by omega, by omega, fun D3 hD3 => ?_⟩
  rw [Int.toNat_natCast]
  have sD3 := same_new hD3 (.lst [])
  refine comp_range (n := w') (fun j zs H' => Same H4 H' ∧ H' D3 = some (.lst zs) ∧ zs = ((List.range j).map fun j => Mq.isumR (Mq.prodAt ms X j)).map V.int) ⟨sD3, upd_same, rfl⟩ (fun i zs H' h => h.2.1) ?_ ?_
  · rintro j zs H5 hj ⟨s5, e5, rfl⟩ C hC
    refine ⟨keep1.1, keep1.2, iteT ?_⟩
    have hB5 := s5.seqT hB
    have hl5 := s5.seq hlB
    have e15 := s5 _ _ e4
    have W5 := W4.same s5
    refine ⟨_, rfl, tB, _, _, _, rfl, rfl, hB5, rfl, _, rfl, lB, D1, rfl, ⟨_, hl5⟩, ⟨_, SqL.of e15⟩, fun D4 hD4 => ?_⟩
    have sD4 := same_new hD4 (.lst [])
    have lT : (Mq.iw (Mq.frs ms X)).length = X.length := by unfold Mq.iw; rw [List.length_map, lfr]
    have lP : (Mq.prodAt ms X j).length = X.length := by unfold Mq.prodAt; simp [lT]
    refine comp_zip (xs := (Mq.iw (Mq.frs ms X)).map V.int) (ys := zs1) (fun i ws H' => Same H5 H' ∧ H' D4 = some (.lst ws) ∧ ws = ((Mq.prodAt ms X j).take i).map V.int) ⟨sD4, upd_same, rfl⟩ (fun i ws H' h => h.2.1) (fun i ws H' _ h => ⟨h.1.seq hl5, h.1.seq (SqL.of e15)⟩) ?_ ?_
    · rintro i ws x y H6 T1 ex ey ⟨s6, e6, rfl⟩ hT C' hC'
      rw [List.getElem?_map] at ex
      obtain ⟨tp, etp, rfl⟩ : ∃ tp, (Mq.iw (Mq.frs ms X))[i]? = some tp ∧ x = .int tp := by
        cases e : (Mq.iw (Mq.frs ms X))[i]? with
        | none => rw [e] at ex; cases ex
        | some v => rw [e] at ex; cases ex; exact ⟨v, rfl, rfl⟩
      obtain ⟨t, l, r, rfl, er, ht, hl⟩ := W5.get ey
      obtain ⟨row, erow, rfl⟩ : ∃ row, X[i]? = some row ∧ r = wh row := by
        rw [List.getElem?_map] at er
        cases e : X[i]? with
        | none => rw [e] at er; cases er
        | some row => rw [e] at er; cases er; exact ⟨row, rfl, rfl⟩
      have hi : i < X.length := (List.getElem?_eq_some_iff.mp erow).1
      have xm := List.mem_of_getElem? erow
      have sT := same_new hT (.tup [.int tp, .ref t])
      refine ⟨T1, _, rfl, SqT.of upd_same, rfl, _, _, rfl, _, _, rfl, rfl, keep2.1, keep2.2, iteT ?_⟩
      have sB := s6.trans sT
      have ht' := sB.seqT ht
      have hl' := sB.seq hl
      have lr : (Mq.iw row).length = w' := by unfold Mq.iw; rw [List.length_map]; exact hrl row xm
      have ej : (Mq.iw row)[j]? = some ((Mq.iw row).getD j 0) := by rw [List.getD_eq_getElem?_getD, List.getElem?_eq_getElem (by omega)]; rfl
      have eat : atI ((Mq.iw row).map V.int) (0 + (j : Int)) = some (.int ((Mq.iw row).getD j 0)) := by
        rw [Int.zero_add]; exact atI_nat (by rw [List.getElem?_map, ej]; rfl)
      refine ⟨_, rfl, _, rfl, t, _, _, _, rfl, rfl, ht', rfl, _, rfl, l, _, _, _, rfl, rfl, hl', eat, rd_mulB (TB tp (List.mem_of_getElem? etp)) (RB row xm _ (List.mem_of_getElem? ej)) (by omega) (by omega) ?_⟩
      have e6' := sT _ _ e6
      refine ⟨e6', small1000 (by rw [List.length_map, List.length_take]; omega), hC' _ _ ⟨(s6.trans sT).change hD4, upd_same, ?_⟩⟩
      have ep : (Mq.prodAt ms X j)[i]? = some (tp * (Mq.iw row).getD j 0) := by
        unfold Mq.prodAt
        rw [List.getElem?_zipWith, etp, List.getElem?_map, erow]; rfl
      rw [List.take_add_one, ep, List.map_append]; rfl
    · rintro ws H6 ⟨s6, e6, rfl⟩
      rw [show min ((Mq.iw (Mq.frs ms X)).map V.int).length zs1.length = (Mq.prodAt ms X j).length by rw [List.length_map, lT, lP]; omega, List.take_length] at e6
      refine ⟨D4, _, rfl, SqL.of e6, ?_⟩
      have e5' := s6 _ _ e5
      refine ⟨e5', small1000 (by rw [List.length_map, List.length_map, List.length_range]; omega), hC _ _ ⟨(s5.trans s6).change hD3, upd_same, ?_⟩⟩
      rw [isum_R, List.range_succ, List.map_append, List.map_append]; rfl
  rintro zs3 H5 ⟨s5, e5, rfl⟩
  -- the fractions
  refine ⟨_, rfl, D3, rfl, ⟨_, SqL.of e5⟩, fun D5 hD5 => ?_⟩
  have sD5 := same_new hD5 (.lst [])
  refine comp_list (xs := ((List.range w').map fun j => Mq.isumR (Mq.prodAt ms X j)).map V.int) (fun i zs H' => Same H5 H' ∧ H' D5 = some (.lst zs) ∧ Fqs K H' zs ((sumL ms X w').take i)) ⟨sD5, upd_same, .nil⟩ (fun i zs H' h => h.2.1) (fun i zs H' _ h => h.1.seq (SqL.of e5)) ?_ ?_
  · rintro i zs x H6 hx ⟨s6, e6, F6⟩ C hC
    rw [List.getElem?_map, List.getElem?_map] at hx
    have hi : i < w' := by
      cases e : (List.range w')[i]? with
      | none => rw [e] at hx; cases hx
      | some v => have := (List.getElem?_eq_some_iff.mp e).1; simpa using this
    rw [List.getElem?_range hi] at hx
    cases hx
    have lz := F6.length
    rw [List.length_take] at lz
    refine ⟨keep1.1, keep1.2, iteT ?_⟩
    refine ⟨_, rfl, _, rfl, tB, _, _, _, rfl, rfl, (s5.trans s6).seqT hB, rfl, _, _, 3000, rfl, by omega, LB, by omega, fun r H7 s7 e7 => ?_⟩
    rw [at_ i (fun row hr => by rw [hrl row hr]; exact hi)] at e7
    have e6' := s7 _ _ e6
    have es : (sumL ms X w')[i]? = some (Mq.sumAt ms X i) := by unfold sumL; rw [List.getElem?_map, List.getElem?_range hi]; rfl
    refine ⟨e6', small1000 (by omega), hC _ _ ⟨(s6.trans s7).change hD5, upd_same, ?_⟩⟩
    rw [List.take_add_one, es]
    exact ((F6.same s7).app (.cons (Fq.of e7) .nil)).upd e6'
  rintro zs H6 ⟨s6, e6, F6⟩
  rw [show (((List.range w').map fun j => Mq.isumR (Mq.prodAt ms X j)).map V.int).length = (sumL ms X w').length by unfold sumL; simp, List.take_length] at F6
  exact q D5 zs H6 (sA.trans (s5.trans s6)) ((sA.trans s5).free hD5) e6 F6
end
end K21

set_option Elab.async false
set_option linter.all false
set_option maxRecDepth 100000
set_option maxHeartbeats 4000000
namespace K21
open PySem L2 Shp
section
variable {P : Program} {w : World} {K : PySem.W.Frag} {mg : Str → Option Value} {base : Heap} {f g1 g2 g3 g4 g5 g6 g7 g8 g9 : Addr} {fd gd1 gd2 gd3 gd4 gd5 gd6 gd7 gd8 gd9 : FuncData} {CX : CXT}
def spNth (K : PySem.W.Frag) : Sp := fun vs H Q _ => ∃ (a : Addr) (ns : List Int) (j : Int) (k : Nat), vs = [.ref a, .int j] ∧ j = (k : Int) ∧ SqL K H a (ns.map V.int) ∧ ns.length ≤ 63 ∧ k ≤ 63 ∧ ∀ i H', Same H H' → Q (.int i) H'
abbrev sNth : Stmt := top 11
theorem scNth : FnScope ["_law_script", "_law_k", "_law_cell"] ["_law_script", "_law_k"] (defScope sNth) := ⟨rfl, rfl, rfl, by decide +kernel, rfl, by decide +kernel, by decide +kernel⟩
theorem ok_nth {dV : Value} (F : FunD K "_law_nth" "_law_nth" sNth dV f fd) :
    FnOk P w K mg base CX 1 f fd ["_law_script", "_law_k"] (spNth K) := by
  refine F.ok scNth (fun vs H Q E h => ?_) (fun cdv A outer s H vs Q E hr h => ?_)
  · obtain ⟨a, ns, j, k, rfl, hj, hS, h63, hk, q⟩ := h
    rfl
  obtain ⟨a, ns, j, k, rfl, hj, hS, h63, hk, q⟩ := h
  refine ⟨_, (pss_cons (ps_for PassesOwn.never rfl (pi_list (pe_slice sl_list (pv 0) (po_some (pv 1)) (po_some (pe_op op_add (pv 1) pe_int)))) (pg_name (i := 2) scNth.nd rfl (Or.inl rfl))
      (pss_one (ps_ret (pv 2))))
    (pss_one (ps_ret (pe_op op_mod (pe_op op_mulB (pe_op op_mul pe_int (pv 1)) (pv 1)) pe_int)))), ?_⟩
  refine ⟨_, rfl, _, rfl, j, rfl, _, rfl, _, _, rfl, rfl, j + 1, rfl, a, _, rfl, hS, fun l hl => ?_⟩
  have s1 := same_new hl (.lst (cutV (ns.map V.int) (some j) (some (j + 1))))
  have e1 : upd H l (.lst (cutV (ns.map V.int) (some j) (some (j + 1)))) l = some (.lst (cutV (ns.map V.int) (some j) (some (j + 1)))) := upd_same
  obtain ⟨ms, em, lm⟩ := cut_ints ns (some j) (some (j + 1))
  rw [em] at e1 s1 ⊢
  generalize upd H l (.lst (ms.map V.int)) = H1 at e1 s1 ⊢
  refine ⟨l, rfl, ⟨_, SqL.of e1⟩, ?_⟩
  refine for_list (xs := ms.map V.int) (fun i σ H' => H' = H1 ∧ ∃ z, σ = [some (.ref a), some (.int j), z]) ⟨rfl, none, rfl⟩ (fun i σ H' _ h => by rw [h.1]; exact SqL.of e1) ?_ ?_
  · rintro i x σ H' hx ⟨rfl, z, rfl⟩
    obtain ⟨c, rfl⟩ : ∃ c, x = .int c := by
      rw [List.getElem?_map] at hx
      cases hm : ms[i]? with
      | none => rw [hm] at hx; cases hx
      | some c => rw [hm] at hx; cases hx; exact ⟨c, rfl⟩
    exact ⟨_, rfl, q c _ s1⟩
  · rintro σ H' ⟨rfl, z, rfl⟩
    refine ⟨_, rfl, _, _, rfl, rfl, Or.inl ⟨by decide, by decide⟩, _, rfl, rd_mulB (n := 40) (m := 40) (B_of (by omega) (by omega)) (B_of (by omega) (by omega)) (by omega) (by omega) ⟨_, _, rfl, rfl, (show (0 : Int) < 1009 by decide), q _ _ s1⟩⟩
abbrev sDiv : Stmt := top 12
theorem scDiv : FnScope ["_law_one", "_law_other"] ["_law_one", "_law_other"] (defScope sDiv) := ⟨rfl, rfl, rfl, by decide +kernel, rfl, by decide +kernel, by decide +kernel⟩
theorem ok_div {dV : Value} (F : FunD K "_law_divisor" "_law_divisor" sDiv dV f fd)
    (b : Bl mg) :
    FnOk P w K mg base CX 1 f fd ["_law_one", "_law_other"] spGc := by
  refine F.ok scDiv (fun vs H Q E h => ?_) (fun cdv A outer s H vs Q E hr h => ?_)
  · obtain ⟨x, y, rfl, q⟩ := h
    rfl
  obtain ⟨x, y, rfl, q⟩ := h
  refine ⟨_, (pss_cons (ps_while PassesOwn.never (pt_cmpR op_ne (pv 1) pe_int (nomark _)) (pss_one (ps_par (i := 0) (j := 1) rfl scDiv.nd rfl rfl (by decide) rfl rfl (pa_cons (pv 1) (pa_cons (pe_op op_modN (pv 0) (pv 1)) pa_nil)) rfl)))
    (pss_one (ps_ret (pe_callB call_abs rfl b.abs PyProof.Rows.boot_abs (pa_cons (pv 0) pa_nil))))), ?_⟩
  refine while_by (fun σ H' => H' = H ∧ ∃ u v, σ = [some (.int u), some (.int v)] ∧ Mq.gc u v = Mq.gc x y) (fun σ _ => match σ with | [_, some (.int v)] => v.natAbs | _ => 0) ⟨rfl, x, y, rfl, rfl⟩ ?_ ?_
  · rintro σ H' ⟨rfl, u, v, rfl, e⟩
    refine ⟨_, rfl, rfl, _, rfl, ?_⟩
    refine ite2 (fun c => ?_) (fun c => ?_)
    · have hv : v ≠ 0 := by intro q; subst q; simp at c
      refine ⟨_, rfl, _, rfl, _, rfl, _, _, rfl, rfl, hv, _, _, rfl, ⟨rfl, v, Int.fmod u v, rfl, (Mq.gc_step u v).trans e⟩, Mq.fmod_less hv⟩
    · have hv : v = 0 := by
        simp at c
        exact c
      subst hv
      refine ⟨_, rfl, _, rfl, ?_⟩
      rw [← Mq.gc_zero, e]
      exact q
  · rintro σ H Q Q' m ⟨v, h1, h2, k, h3, h4⟩
    exact ⟨v, h1, h2, k, h3, m _ _ h4⟩
abbrev sLowest : Stmt := top 13
theorem scLowest : FnScope ["_law_top", "_law_bottom", "_law_part"] ["_law_top", "_law_bottom"] (defScope sLowest) := ⟨rfl, rfl, rfl, by decide +kernel, rfl, by decide +kernel, by decide +kernel⟩
theorem ok_lowest {dV : Value} (F : FunD K "_law_lowest" "_law_lowest" sLowest dV f fd)
    (G1 : FnOk P w K mg base CX0 1 g1 gd1 ["_law_one", "_law_other"] spGc) (b1 : Binds K gd1 ["_law_one", "_law_other"] []) (k1 : PySem.W.keepIn K (.ref g1) = true) (m1 : mg "_law_divisor" = some (.ref g1)) :
    FnOk P w K mg base CX 2 f fd ["_law_top", "_law_bottom"] spLowP := by
  refine F.ok scLowest (fun vs H Q E h => ?_) (fun cdv A outer s H vs Q E hr h => ?_)
  · obtain ⟨t, b', n, rfl, hb, hB, hn, q⟩ := h
    rfl
  obtain ⟨t, b', n, rfl, hb, hB, hn, q⟩ := h
  refine ⟨_, (pss_cons (ps_set (i := 2) scLowest.nd rfl (Or.inl rfl) (pe_call G1 hr rfl m1 k1 b1 .nil pass0 (pa_cons (pv 0) (pa_cons (pv 1) pa_nil))))
    (pss_one (ps_ret (pe_tup (pa_cons (pe_op op_fdivB (pv 0) (pv 2)) (pa_cons (pe_op op_fdivB (pv 1) (pv 2)) pa_nil)))))), ?_⟩
  have hd := Mq.dvr_ne (t := t) (show b' ≠ 0 by omega)
  have hdB : Mq.B n (Mq.dvr t b') := hB.le (Mq.dvr_le (by omega))
  have e := dvr_pos (t := t) hb
  rw [e] at hd hdB
  have q' : NewF H Q (t.fdiv (Mq.gc t b'), b'.fdiv (Mq.gc t b')) := by
    have z := q
    unfold Mq.red at z
    rw [e] at z
    exact z
  refine ⟨_, rfl, _, rfl, t, b', rfl, ?_⟩
  refine ⟨_, rfl, _, rfl, rd_fdivB hd hdB hn ⟨_, rfl, _, rfl, rd_fdivB hd hdB hn ⟨by show 2 ≤ sizeLine; decide, fun p hp => ?_⟩⟩⟩
  exact q' p _ (same_new hp _) upd_same
def spIs (K : PySem.W.Frag) : Sp := fun vs H Q _ => ∃ (a : Addr) (p : Mq.Q2), vs = [.ref a] ∧ Fq K H a p ∧ Mq.Low p ∧ Q (.bl true) H
abbrev sIs : Stmt := top 14
theorem scIs : FnScope ["_law_found", "_law_number"] ["_law_found"] (defScope sIs) := ⟨rfl, rfl, rfl, by decide +kernel, rfl, by decide +kernel, by decide +kernel⟩
theorem ok_is {dV : Value} (F : FunD K "_law_is" "_law_is" sIs dV f fd)
    (b : Bl mg) (ml : mg "len" = none) (mt : mg "tuple" = none)
    (G1 : FnOk P w K mg base CX0 1 g1 gd1 ["_law_one", "_law_other"] spGc) (b1 : Binds K gd1 ["_law_one", "_law_other"] []) (k1 : PySem.W.keepIn K (.ref g1) = true) (m1 : mg "_law_divisor" = some (.ref g1)) :
    FnOk P w K mg base CX 2 f fd ["_law_found"] (spIs K) := by
  refine F.ok scIs (fun vs H Q E h => ?_) (fun cdv A outer s H vs Q E hr h => ?_)
  · obtain ⟨a, p, rfl, fa, hp, q⟩ := h
    rfl
  obtain ⟨a, p, rfl, fa, hp, q⟩ := h
  refine ⟨_, (pss_cons (ps_if (PW.pt (pw_or (pt_not (pt_val (pe_isiQ (i := 0) rfl (Or.inl rfl) b.isi mt rfl rfl PyProof.Rows.boot_tuple))) (pw_or1 (pt_cmpR op_ne (pe_callB call_len_seq rfl ml PySem.boot_len (pa_cons (pv 0) pa_nil)) pe_int (nomark _))))) (pss_one (ps_ret pe_bl)) pss_nil)
    (pss_cons (ps_for PassesOwn.never rfl (pi_tup (pv 0)) (pg_name (i := 1) scIs.nd rfl (Or.inl rfl))
      (pss_one (ps_if (PW.pt (pw_or (pt_not (pt_val (pe_isiQ (i := 1) rfl (Or.inl rfl) b.isi b.int rfl rfl PyProof.Rows.boot_int))) (pw_or1 (pt_val (pe_isiQ (i := 1) rfl (Or.inl rfl) b.isi b.bool rfl rfl PyProof.Rows.boot_bool))))) (pss_one (ps_ret pe_bl)) pss_nil)))
    (pss_one (ps_ret (pe_and (pe_cmpR op_gt (pe_ix ix_tup (pv 0) pe_int (fun _ _ => rfl)) pe_int (nomark _)) (pe_one (pe_cmpR op_eq (pe_call G1 hr rfl m1 k1 b1 .nil pass0 (pa_cons (pe_ix ix_tup (pv 0) pe_int (fun _ _ => rfl)) (pa_cons (pe_ix ix_tup (pv 0) pe_int (fun _ _ => rfl)) pa_nil))) pe_int (nomark _)))))))), ?_⟩
  refine ⟨_, _, true, rfl, .tup fa, rfl, _, rfl, iteF ⟨_, rfl, a, _, rfl, .inr fa, rfl, _, rfl, iteF ?_⟩⟩
  refine ⟨_, rfl, a, rfl, ⟨_, fa⟩, ?_⟩
  refine for_tup (xs := [.int p.1, .int p.2]) (fun i σ H' => H' = H ∧ ∃ z, σ = [some (.ref a), z]) ⟨rfl, none, rfl⟩ (fun i σ H' _ h => by rw [h.1]; exact fa) ?_ ?_
  · rintro i x σ H' hx ⟨rfl, z, rfl⟩
    have hint : ∃ j, x = .int j := by
      match i, hx with
      | 0, h => exact ⟨p.1, by simpa using h.symm⟩
      | 1, h => exact ⟨p.2, by simpa using h.symm⟩
      | n + 2, h => simp at h
    obtain ⟨j, rfl⟩ := hint
    exact ⟨_, _, true, rfl, .of (.int j), rfl, _, rfl, iteF ⟨_, _, false, rfl, .of (.int j), (by with_unfolding_all rfl), _, rfl, iteF ⟨rfl, _, rfl⟩⟩⟩
  · rintro σ H' ⟨rfl, z, rfl⟩
    have h1 := hp.pos
    refine rd_ix1 rfl fa ⟨_, _, rfl, rfl, _, rfl, ifT (decide_eq_true (show p.2 > 0 by omega)) (rd_ix0 rfl fa (rd_ix1 rfl fa ⟨_, _, rfl, rfl, ?_⟩))⟩
    rw [hp.one]
    exact q
def spLList (K : PySem.W.Frag) : Sp := fun vs H Q _ => ∃ (a : Addr) (xs : List V) (ps : List Mq.Q2), vs = [.ref a, .int (ps.length : Int)] ∧ SqL K H a xs ∧ Fqs K H xs ps ∧ Mq.AllLow ps ∧ ps.length ≤ 100 ∧ ∀ H', Same H H' → Q (.bl true) H'
theorem nd_one : (["_law_one"] : List Str).Nodup := by decide +kernel
abbrev sLList : Stmt := top 15
theorem scLList : FnScope ["_law_found", "_law_many"] ["_law_found", "_law_many"] (defScope sLList) := ⟨rfl, rfl, rfl, by decide +kernel, rfl, by decide +kernel, by decide +kernel⟩
theorem ok_llist {dV : Value} (F : FunD K "_law_list" "_law_list" sLList dV f fd)
    (b : Bl mg) (ml : mg "len" = none) (mli : mg "list" = none) (ma : mg "all" = none)
    (G1 : FnOk P w K mg base CX0 2 g1 gd1 ["_law_found"] (spIs K)) (b1 : Binds K gd1 ["_law_found"] []) (k1 : PySem.W.keepIn K (.ref g1) = true) (m1 : mg "_law_is" = some (.ref g1)) :
    FnOk P w K mg base CX 3 f fd ["_law_found", "_law_many"] (spLList K) := by
  refine F.ok scLList (fun vs H Q E h => ?_) (fun cdv A outer s H vs Q E hr h => ?_)
  · obtain ⟨a, xs, ps, rfl, hS, hF, hP, h100, q⟩ := h
    rfl
  obtain ⟨a, xs, ps, rfl, hS, hF, hP, h100, q⟩ := h
  refine ⟨_, (pss_cons (ps_if (PW.pt (pw_or (pt_not (pt_val (pe_isiQ (i := 0) rfl (Or.inl rfl) b.isi mli rfl rfl PyProof.Rows.boot_list))) (pw_or1 (pt_cmpR op_ne (pe_callB call_len_seq rfl ml PySem.boot_len (pa_cons (pv 0) pa_nil)) (pv 1) (nomark _))))) (pss_one (ps_ret pe_bl)) pss_nil)
    (pss_one (ps_ret (pe_callB (call_all rfl) rfl ma PyProof.Rows.boot_all (pa_cons (pe_comp (nl := 1) (fr := []) (Nc := ["_law_one"]) (cl := []) rfl ⟨rfl, rfl, by decide +kernel, by decide +kernel, fun x c h => (by cases h), has_of rfl, rfl, fun i n h => (by simp at h)⟩
        (pi_list (pv 0)) (fun C s3 H3 fp pins => (pg_name (i := 0) nd_one rfl (Or.inl rfl))) (fun C s3 H3 fp pins => pif_nil)
        (fun C s3 H3 fp pins => (pe_call G1 hr rfl m1 k1 b1 .nil pass0 (pa_cons (pv 0) pa_nil)))) pa_nil))))), ?_⟩
  have lx := hF.length
  refine ⟨_, _, true, rfl, .lst hS, rfl, _, rfl, iteF ⟨_, rfl, a, _, rfl, .inl hS, _, rfl, rfl, _, rfl, ?_⟩⟩
  rw [lx]
  refine iteNS rfl ?_
  refine ⟨_, rfl, a, rfl, ⟨_, hS⟩, fun D hD => ?_⟩
  have sD := same_new hD (.lst [])
  refine comp_list (xs := xs) (fun i zs H' => Same H H' ∧ H' D = some (.lst zs) ∧ zs = (List.replicate i true).map V.bl) ⟨sD, upd_same, rfl⟩ (fun i zs H' h => h.2.1) (fun i zs H' _ h => h.1.seq hS) ?_ ?_
  · rintro i zs x H1 hx ⟨s1, e1, rfl⟩ C hC
    obtain ⟨u, p, rfl, ep, fu⟩ := hF.get hx
    have hi : i < ps.length := (List.getElem?_eq_some_iff.mp ep).1
    refine ⟨keep1.1, keep1.2, iteT ?_⟩
    refine ⟨_, rfl, u, p, rfl, s1.fq fu, hP p (List.mem_of_getElem? ep), ?_⟩
    refine ⟨e1, small1000 (by rw [List.length_map, List.length_replicate]; omega), hC _ _ ⟨s1.change hD, upd_same, ?_⟩⟩
    rw [List.replicate_succ', List.map_append]; rfl
  · rintro zs H1 ⟨s1, e1, rfl⟩
    refine ⟨D, _, rfl, SqL.of e1, ?_⟩
    rw [show (List.replicate xs.length true).all id = true by simp]
    exact q _ s1
theorem em_lo (x : Int) {m : Int} (h : 0 < m) : 0 ≤ x % m := Int.emod_nonneg x (by omega)
theorem em_hi (x : Int) {m : Int} (h : 0 < m) : x % m < m := Int.emod_lt_of_pos x h
theorem nd_take {ps : List Mq.Q2} {i : Nat} {p : Mq.Q2} (h : ps[i]? = some p) : Mq.N (ps.take (i + 1)) = Mq.N (ps.take i) * p.2 + p.1 * Mq.D (ps.take i) ∧ Mq.D (ps.take (i + 1)) = Mq.D (ps.take i) * p.2 := by
  have ee : ps.take (i + 1) = ps.take i ++ [p] := by rw [List.take_add_one, h]; rfl
  rw [ee, Mq.N_app, Mq.D_app]
  simp only [Mq.N, Mq.D]
  refine ⟨?_, ?_⟩
  · grind
  · grind
/-- the products, as they are -/
def pp (m x : Mq.Q2) : Mq.Q2 := (m.1 * x.1, m.2 * x.2)
theorem pp_pos {ms xs : List Mq.Q2} (hm : Mq.Pos ms) (hx : Mq.Pos xs) : Mq.Pos (List.zipWith pp ms xs) := fun p hp => by
  obtain ⟨i, hi, rfl⟩ := List.getElem_of_mem hp
  rw [List.getElem_zipWith]
  have h1 : i < ms.length := by simp at hi; omega
  have h2 : i < xs.length := by simp at hi; omega
  have := Mq.mul_ne (hm _ (List.getElem_mem h1)) (hx _ (List.getElem_mem h2))
  have : 0 < ms[i].2 * xs[i].2 := Int.mul_pos (by have := hm _ (List.getElem_mem h1); omega) (by have := hx _ (List.getElem_mem h2); omega)
  show 1 ≤ ms[i].2 * xs[i].2
  omega
theorem pp_sum : ∀ {ms xs : List Mq.Q2}, Mq.Pos ms → Mq.Pos xs → Mq.rsum ((List.zipWith pp ms xs).map Mq.val) = Mq.rsum ((List.zipWith Mq.times ms xs).map Mq.val)
  | [], _, _, _ => by simp
  | _ :: _, [], _, _ => by simp
  | m :: ms, x :: xs, hm, hx => by
    have h1 := hm m (by simp)
    have h2 := hx x (by simp)
    simp only [List.zipWith_cons_cons, List.map_cons, Mq.rsum]
    rw [pp_sum (fun p hp => hm p (List.mem_cons_of_mem _ hp)) (fun p hp => hx p (List.mem_cons_of_mem _ hp)), Mq.val_times h1 h2]
    congr 1
    have a1 := Mq.cast_ne (show m.2 ≠ 0 by omega)
    have a2 := Mq.cast_ne (show x.2 ≠ 0 by omega)
    unfold pp Mq.val
    show ((m.1 * x.1 : Int) : Rat) / ((m.2 * x.2 : Int) : Rat) = _
    rw [Rat.intCast_mul, Rat.intCast_mul]
    grind
theorem times_pos {ms xs : List Mq.Q2} (hm : Mq.Pos ms) (hx : Mq.Pos xs) : Mq.Pos (List.zipWith Mq.times ms xs) := fun p hp => by
  obtain ⟨i, hi, rfl⟩ := List.getElem_of_mem hp
  rw [List.getElem_zipWith]
  have h1 : i < ms.length := by simp at hi; omega
  have h2 : i < xs.length := by simp at hi; omega
  exact (Mq.times_low (hm _ (List.getElem_mem h1)) (hx _ (List.getElem_mem h2))).pos
theorem pp_meets {ms xs : List Mq.Q2} (hm : Mq.Pos ms) (hx : Mq.Pos xs) : Mq.N (List.zipWith pp ms xs) * (Mq.tot (List.zipWith Mq.times ms xs)).2 = (Mq.tot (List.zipWith Mq.times ms xs)).1 * Mq.D (List.zipWith pp ms xs) := by
  have e : Mq.tot (List.zipWith Mq.times ms xs) = Mq.tot (List.zipWith pp ms xs) := by
    refine Mq.low_ext (Mq.tot_low (times_pos hm hx)) (Mq.tot_low (pp_pos hm hx)) ?_
    rw [Mq.val_tot (times_pos hm hx), Mq.val_tot (pp_pos hm hx), pp_sum hm hx]
  rw [e]
  exact (Mq.tot_cross (pp_pos hm hx)).symm
def spMeets (K : PySem.W.Frag) : Sp := fun vs H Q _ => ∃ (a o d : Addr) (xs ys : List V) (ms ps : List Mq.Q2) (q : Mq.Q2), vs = [.ref a, .ref o, .ref d] ∧ SqL K H a xs ∧ Fqs K H xs ms ∧ SqL K H o ys ∧ Fqs K H ys ps ∧ Fq K H d q ∧ (∀ p ∈ ms, Mq.Bd 60 p) ∧ (∀ p ∈ ps, Mq.Bd 60 p) ∧ Mq.Bd 9000 q ∧ ms.length ≤ 10 ∧ ps.length = ms.length ∧ Mq.N (List.zipWith pp ms ps) * q.2 = q.1 * Mq.D (List.zipWith pp ms ps) ∧ ∀ H', Same H H' → Q (.bl true) H'
abbrev sMeets : Stmt := top 16
theorem scMeets : FnScope ["_law_some", "_law_others", "_law_due_here", "_law_top", "_law_bottom", "_law_one", "_law_other"] ["_law_some", "_law_others", "_law_due_here"] (defScope sMeets) := ⟨rfl, rfl, rfl, by decide +kernel, rfl, by decide +kernel, by decide +kernel⟩
theorem ok_meets {dV : Value} (F : FunD K "_law_meets" "_law_meets" sMeets dV f fd)
    (mz : mg "zip" = none) :
    FnOk P w K mg base CX 1 f fd ["_law_some", "_law_others", "_law_due_here"] (spMeets K) := by
  refine F.ok scMeets (fun vs H Q E h => ?_) (fun cdv A outer s H vs Q E hr h => ?_)
  · obtain ⟨a, o, d, xs, ys, ms, ps, q, rfl, hX, fX, hO, fO, fd', hb, hb2, hq, hl, hpl, hE, z⟩ := h
    rfl
  obtain ⟨a, o, d, xs, ys, ms, ps, q, rfl, hX, fX, hO, fO, fd', hb, hb2, hq, hl, hpl, hE, z⟩ := h
  refine ⟨_, (pss_cons (ps_set (i := 3) scMeets.nd rfl (Or.inl rfl) pe_int)
    (pss_cons (ps_set (i := 4) scMeets.nd rfl (Or.inl rfl) pe_int)
    (pss_cons (ps_for PassesOwn.never rfl (pi_zip rfl mz rfl (pa_cons (pv 0) (pa_cons (pv 1) pa_nil))) (pg_tup rfl (pgs_cons (pg_name (i := 5) scMeets.nd rfl (Or.inl rfl)) (pgs_cons (pg_name (i := 6) scMeets.nd rfl (Or.inl rfl)) pgs_nil)))
      (pss_cons (ps_set (i := 3) scMeets.nd rfl (Or.inl rfl) (pe_op op_add (pe_op op_mulB (pe_op op_mulB (pv 3) (pe_ix ix_tup (pv 5) pe_int (fun _ _ => rfl))) (pe_ix ix_tup (pv 6) pe_int (fun _ _ => rfl))) (pe_op op_mulB (pe_op op_mulB (pe_ix ix_tup (pv 5) pe_int (fun _ _ => rfl)) (pe_ix ix_tup (pv 6) pe_int (fun _ _ => rfl))) (pv 4))))
    (pss_one (ps_set (i := 4) scMeets.nd rfl (Or.inl rfl) (pe_op op_mulB (pe_op op_mulB (pv 4) (pe_ix ix_tup (pv 5) pe_int (fun _ _ => rfl))) (pe_ix ix_tup (pv 6) pe_int (fun _ _ => rfl)))))))
    (pss_one (ps_ret (pe_cmpR op_eq (pe_op op_mulB (pv 3) (pe_ix ix_tup (pv 2) pe_int (fun _ _ => rfl))) (pe_op op_mulB (pe_ix ix_tup (pv 2) pe_int (fun _ _ => rfl)) (pv 4)) (nomark _))))))), ?_⟩
  have lx := fX.length
  have ly := fO.length
  have lL : (List.zipWith pp ms ps).length = ms.length := by simp [hpl]
  refine ⟨_, rfl, _, rfl, a, o, rfl, ⟨_, hX⟩, ⟨_, hO⟩, ?_⟩
  refine for_zip (xs := xs) (ys := ys) (fun i σ H' => Same H H' ∧ ∃ z5 z6, σ = [some (.ref a), some (.ref o), some (.ref d), some (.int (Mq.N ((List.zipWith pp ms ps).take i))), some (.int (Mq.D ((List.zipWith pp ms ps).take i))), z5, z6] ∧ Mq.B (1 + 130 * i) (Mq.N ((List.zipWith pp ms ps).take i)) ∧ Mq.B (1 + 130 * i) (Mq.D ((List.zipWith pp ms ps).take i))) ⟨Same.refl _, none, none, rfl, show (0 : Nat) < 2 ^ 1 by decide, show (1 : Nat) < 2 ^ 1 by decide⟩ (fun i σ H' _ h => ⟨h.1.seq hX, h.1.seq hO⟩) ?_ ?_
  · rintro i x y σ H1 T1 ex ey ⟨s1, z5, z6, rfl, bN, bD⟩ hT
    obtain ⟨u, p, rfl, ep, fu⟩ := fX.get ex
    obtain ⟨v, r, rfl, er, fv⟩ := fO.get ey
    have hi : i < ms.length := (List.getElem?_eq_some_iff.mp ep).1
    have pb := hb p (List.mem_of_getElem? ep)
    have ob := hb2 r (List.mem_of_getElem? er)
    have sT := same_new hT (.tup [.ref u, .ref v])
    refine ⟨T1, _, rfl, SqT.of upd_same, rfl, _, _, rfl, _, _, rfl, rfl, ?_⟩
    have sx := s1.trans sT
    have fu' := sx.fq fu
    have fv' := sx.fq fv
    generalize upd H1 T1 (.tup [.ref u, .ref v]) = H2 at sx fu' fv' ⊢
    obtain ⟨eN, eD⟩ := nd_take (ps := List.zipWith pp ms ps) (i := i) (p := pp p r) (by rw [List.getElem?_zipWith, ep, er])
    have b1 := bN.mul pb.b
    have b2 := b1.mul ob.b
    have b3 := pb.a.mul ob.a
    have b4 := b3.mul bD
    have b5 := bD.mul pb.b
    have b6 := b5.mul ob.b
    refine ⟨_, rfl, rd_ix1 rfl fu' (rd_mulB bN pb.b (by omega) (by omega) (rd_ix1 rfl fv' (rd_mulB b1 ob.b (by omega) (by omega) (rd_ix0 rfl fu' (rd_ix0 rfl fv' (rd_mulB pb.a ob.a (by omega) (by omega) ⟨_, rfl, rd_mulB b3 bD (by omega) (by omega) ⟨_, _, rfl, rfl, ?_⟩⟩))))))⟩
    refine ⟨_, rfl, rd_ix1 rfl fu' (rd_mulB bD pb.b (by omega) (by omega) (rd_ix1 rfl fv' (rd_mulB b5 ob.b (by omega) (by omega) ?_)))⟩
    have x1 : Mq.N ((List.zipWith pp ms ps).take i) * p.2 * r.2 + p.1 * r.1 * Mq.D ((List.zipWith pp ms ps).take i) = Mq.N ((List.zipWith pp ms ps).take (i + 1)) := by rw [eN]; show _ = _ * (p.2 * r.2) + (p.1 * r.1) * _; rw [Int.mul_assoc]
    have x2 : Mq.D ((List.zipWith pp ms ps).take i) * p.2 * r.2 = Mq.D ((List.zipWith pp ms ps).take (i + 1)) := by rw [eD]; show _ = _ * (p.2 * r.2); rw [Int.mul_assoc]
    refine ⟨sx, some (.ref u), some (.ref v), by rw [← x1, ← x2]; rfl, ?_, ?_⟩
    · rw [← x1]
      exact (Mq.B.add (n := 129 + 130 * i) (b2.mono (by omega)) (b4.mono (by omega))).mono (by omega)
    · rw [← x2]
      exact b6.mono (by omega)
  · rintro σ H1 ⟨s1, z5, z6, rfl, bN, bD⟩
    rw [show min xs.length ys.length = (List.zipWith pp ms ps).length by omega, List.take_length] at bN bD ⊢
    have fd1 := s1.fq fd'
    refine ⟨_, rfl, rd_ix1 rfl fd1 (rd_mulB bN hq.b (by omega) (by omega) (rd_ix0 rfl fd1 ⟨_, rfl, rd_mulB hq.a bD (by omega) (by omega) ⟨rfl, ?_⟩⟩))⟩
    rw [hE, decide_eq_true rfl]
    exact z _ s1
theorem p18 : (10 : Int) ^ (18 : Int).toNat = 1000000000000000000 := by decide
def spDrawn : Sp := fun vs H Q _ => ∃ (c : Int) (fr : Bool), vs = [.int c, .bl fr] ∧ ∀ p, Mq.Low p → Mq.Bd 60 p → NewF H Q p
theorem drawn_fin {H : Hp} {Q : VK} (q : ∀ p, Mq.Low p → Mq.Bd 60 p → NewF H Q p) {H' : Hp} (s : Same H H') {t b : Int} (h1 : -1000000000000000000 ≤ t) (h2 : t ≤ 1000000000000000000) (h3 : 1 ≤ b) (h4 : b ≤ 1000000000000000000) : spLowP [.int t, .int b] H' Q E0 := by
  have e : (2 : Int) ^ 60 = 1152921504606846976 := by decide
  have bT : Mq.B 60 t := B_of (by omega) (by omega)
  have bB : Mq.B 60 b := B_of (by omega) (by omega)
  have le := Mq.red_le (t := t) (show b ≠ 0 by omega)
  exact ⟨t, b, 60, rfl, by omega, bB, by omega, fun a H2 s2 e2 => q _ (Mq.red_low (by omega)) ⟨bT.le le.1, bB.le le.2⟩ a H2 (s.trans s2) e2⟩
theorem at6 {r : Int} (h0 : 0 ≤ r) (h5 : r < 6) : ∃ v : Int, atI [V.int 1, .int 1, .int 1, .int 2, .int 3, .int 4] r = some (.int v) ∧ 1 ≤ v ∧ v ≤ 4 := by
  have : r = 0 ∨ r = 1 ∨ r = 2 ∨ r = 3 ∨ r = 4 ∨ r = 5 := by omega
  rcases this with rfl | rfl | rfl | rfl | rfl | rfl
  all_goals exact ⟨_, rfl, by decide, by decide⟩
abbrev sDrawn : Stmt := top 17
theorem scDrawn : FnScope ["_law_cell", "_law_far", "_law_top"] ["_law_cell", "_law_far"] (defScope sDrawn) := ⟨rfl, rfl, rfl, by decide +kernel, rfl, by decide +kernel, by decide +kernel⟩
theorem ok_drawn {dV : Value} (F : FunD K "_law_drawn" "_law_drawn" sDrawn dV f fd)
    (G1 : FnOk P w K mg base CX0 2 g1 gd1 ["_law_top", "_law_bottom"] spLowP) (b1 : Binds K gd1 ["_law_top", "_law_bottom"] []) (k1 : PySem.W.keepIn K (.ref g1) = true) (m1 : mg "_law_lowest" = some (.ref g1)) :
    FnOk P w K mg base CX 3 f fd ["_law_cell", "_law_far"] spDrawn := by
  refine F.ok scDrawn (fun vs H Q E h => ?_) (fun cdv A outer s H vs Q E hr h => ?_)
  · obtain ⟨c, fr, rfl, q⟩ := h
    rfl
  obtain ⟨c, fr, rfl, q⟩ := h
  refine ⟨_, (pss_cons (ps_if (pt_cmpR op_eq (pe_op op_mod (pv 0) pe_int) pe_int (nomark _)) (pss_one (ps_ret (pe_tup (pa_cons pe_int (pa_cons pe_int pa_nil))))) pss_nil)
    (pss_cons (ps_if (pt_val (pv 1)) (pss_cons (ps_set (i := 2) scDrawn.nd rfl (Or.inl rfl) (pe_op op_sub (pe_op op_mod (pe_op op_mul (pv 0) pe_int) (pe_op op_add (pe_op op_mul pe_int (pe_op op_pow pe_int pe_int)) pe_int)) (pe_op op_pow pe_int pe_int)))
    (pss_one (ps_ret (pe_call G1 hr rfl m1 k1 b1 .nil pass0 (pa_cons (pv 2) (pa_cons (pe_op op_add pe_int (pe_op op_mod (pe_op op_mul (pe_op op_fdiv (pv 0) pe_int) pe_int) (pe_op op_pow pe_int pe_int))) pa_nil)))))) pss_nil)
    (pss_one (ps_ret (pe_call G1 hr rfl m1 k1 b1 .nil pass0 (pa_cons (pe_op op_sub (pe_op op_mod (pe_op op_mod (pe_op op_mul (pv 0) pe_int) pe_int) pe_int) pe_int) (pa_cons (pe_ix ix_list (pe_lst (pa_cons pe_int (pa_cons pe_int (pa_cons pe_int (pa_cons pe_int (pa_cons pe_int (pa_cons pe_int pa_nil))))))) (pe_op op_mod (pe_op op_mod (pe_op op_mul (pv 0) pe_int) pe_int) pe_int) (fun _ _ => rfl)) pa_nil))))))), ?_⟩
  refine ⟨_, rfl, _, _, rfl, rfl, (show (0 : Int) < 4 by decide), rfl, _, rfl, ite2 (fun _ => ?_) (fun _ => ?_)⟩
  · refine ⟨by show 2 ≤ sizeLine; decide, fun t ht => ?_⟩
    exact q (0, 1) Mq.low01 ⟨show (0 : Nat) < 2 ^ 60 by decide, show (1 : Nat) < 2 ^ 60 by decide⟩ t _ (same_new ht _) upd_same
  refine ⟨_, rfl, _, rfl, ?_⟩
  cases fr
  · refine iteF ⟨_, rfl, _, _, rfl, rfl, Or.inr ⟨by decide, by decide⟩, _, _, rfl, rfl, (show (0 : Int) < 10007 by decide), _, _, rfl, rfl, (show (0 : Int) < 19 by decide), _, _, rfl, rfl, by show 6 ≤ sizeLine; decide, fun l hl => ?_⟩
    have s1 := same_new hl (.lst [.int 1, .int 1, .int 1, .int 2, .int 3, .int 4])
    have e1 : upd H l (.lst [.int 1, .int 1, .int 1, .int 2, .int 3, .int 4]) l = some (.lst [.int 1, .int 1, .int 1, .int 2, .int 3, .int 4]) := upd_same
    generalize upd H l (.lst [.int 1, .int 1, .int 1, .int 2, .int 3, .int 4]) = H1 at s1 e1 ⊢
    have a1 := em_lo (c * 48271 % 10007) (show (0 : Int) < 19 by decide)
    have a2 := em_hi (c * 48271 % 10007) (show (0 : Int) < 19 by decide)
    obtain ⟨v, ev, v1, v2⟩ := at6 (em_lo (c * 16807 % 31) (show (0 : Int) < 6 by decide)) (em_hi (c * 16807 % 31) (show (0 : Int) < 6 by decide))
    refine ⟨_, rfl, _, _, rfl, rfl, Or.inr ⟨by decide, by decide⟩, _, _, rfl, rfl, (show (0 : Int) < 31 by decide), _, _, rfl, rfl, (show (0 : Int) < 6 by decide), l, _, _, _, rfl, rfl, SqL.of e1, ev, ?_⟩
    exact drawn_fin q s1 (by omega) (by omega) (by omega) (by omega)
  · refine iteT ⟨_, rfl, _, _, rfl, rfl, Or.inr ⟨by decide, by decide⟩, _, _, rfl, rfl, ⟨by decide, by decide, by decide⟩, _, _, rfl, rfl, Or.inl ⟨by decide, by decide⟩, _, _, rfl, rfl, _, _, rfl, rfl, (show (0 : Int) < 2 * 10 ^ (18 : Int).toNat + 1 by decide), _, _, rfl, rfl, ⟨by decide, by decide, by decide⟩, _, _, rfl, rfl, ?_⟩
    have a1 := em_lo (c * 48271) (show (0 : Int) < 2 * 10 ^ (18 : Int).toNat + 1 by decide)
    have a2 := em_hi (c * 48271) (show (0 : Int) < 2 * 10 ^ (18 : Int).toNat + 1 by decide)
    have b1 := em_lo (c / 4 * 69621) (show (0 : Int) < 10 ^ (18 : Int).toNat by decide)
    have b2 := em_hi (c / 4 * 69621) (show (0 : Int) < 10 ^ (18 : Int).toNat by decide)
    refine ⟨_, rfl, _, rfl, _, _, rfl, rfl, ⟨by decide, by decide⟩, _, _, rfl, rfl, Or.inr ⟨by decide, by decide⟩, _, _, rfl, rfl, ⟨by decide, by decide, by decide⟩, _, _, rfl, rfl, (show (0 : Int) < 10 ^ (18 : Int).toNat by decide), _, _, rfl, rfl, ?_⟩
    rw [p18] at a1 a2 b1 b2
    refine drawn_fin q (Same.refl _) ?_ ?_ ?_ ?_
    · rw [p18]; omega
    · rw [p18]; omega
    · rw [p18]; omega
    · rw [p18]; omega
def spRow (K : PySem.W.Frag) : Sp := fun vs H Q _ => ∃ (a : Addr) (ns : List Int) (st w : Nat) (fr : Bool), vs = [.ref a, .int (st : Int), .int (w : Int), .bl fr] ∧ SqL K H a (ns.map V.int) ∧ ns.length ≤ 63 ∧ st + w ≤ 63 ∧ ∀ l zs ps H', Same H H' → H l = none → H' l = some (.lst zs) → Fqs K H' zs ps → Mq.AllLow ps → (∀ p ∈ ps, Mq.Bd 60 p) → ps.length = w → Q (.ref l) H'
theorem nd_k_start_script_far : (["_law_k", "_law_start", "_law_script", "_law_far"] : List Str).Nodup := by decide +kernel
abbrev sRow : Stmt := top 18
theorem scRow : FnScope ["_law_script", "_law_start", "_law_wide", "_law_far"] ["_law_script", "_law_start", "_law_wide", "_law_far"] (defScope sRow) := ⟨rfl, rfl, rfl, by decide +kernel, rfl, by decide +kernel, by decide +kernel⟩
theorem ok_row {dV : Value} (F : FunD K "_law_row" "_law_row" sRow dV f fd)
    (mr : mg "range" = none)
    (G1 : FnOk P w K mg base CX0 1 g1 gd1 ["_law_script", "_law_k"] (spNth K)) (b1 : Binds K gd1 ["_law_script", "_law_k"] []) (k1 : PySem.W.keepIn K (.ref g1) = true) (m1 : mg "_law_nth" = some (.ref g1))
    (G2 : FnOk P w K mg base CX0 3 g2 gd2 ["_law_cell", "_law_far"] spDrawn) (b2 : Binds K gd2 ["_law_cell", "_law_far"] []) (k2 : PySem.W.keepIn K (.ref g2) = true) (m2 : mg "_law_drawn" = some (.ref g2)) :
    FnOk P w K mg base CX 4 f fd ["_law_script", "_law_start", "_law_wide", "_law_far"] (spRow K) := by
  refine F.ok scRow (fun vs H Q E h => ?_) (fun cdv A outer s H vs Q E hr h => ?_)
  · obtain ⟨a, ns, st, w', fr, rfl, hS, h63, hsw, q⟩ := h
    rfl
  obtain ⟨a, ns, st, w', fr, rfl, hS, h63, hsw, q⟩ := h
  have r1 := hr.mono (show 1 ≤ 3 by omega)
  refine ⟨_, (pss_one (ps_ret (pe_comp (nl := 1) (fr := [1, 0, 3]) (Nc := ["_law_k", "_law_start", "_law_script", "_law_far"]) (cl := [("_law_start", s.heap.objs.size + 2), ("_law_script", s.heap.objs.size + 1), ("_law_far", s.heap.objs.size + 3)]) rfl ⟨rfl, rfl, by decide +kernel, by decide +kernel, (sub_cons rfl (sub_cons rfl (sub_cons rfl (sub_nil)))), has_of rfl, rfl, fun i n h => match i, h with | 0, h => by cases h; exact ⟨1, rfl, rfl, rfl, rfl, .inl rfl⟩ | 1, h => by cases h; exact ⟨0, rfl, rfl, rfl, rfl, .inl rfl⟩ | 2, h => by cases h; exact ⟨3, rfl, rfl, rfl, rfl, .inl rfl⟩ | k + 3, h => by rw [show 1 + (k + 3) = k + 4 by omega] at h; cases h⟩
        (pi_range1 rfl mr (pa_cons (pv 2) pa_nil)) (fun C s3 H3 fp pins => (pg_name (i := 0) nd_k_start_script_far rfl (Or.inl rfl))) (fun C s3 H3 fp pins => pif_nil)
        (fun C s3 H3 fp pins => (pe_call G2 hr rfl m2 k2 b2 .nil pass0 (pa_cons (pe_call G1 r1 rfl m1 k1 b1 .nil pass0 (pa_cons (pv 2) (pa_cons (pe_op op_add (pv 1) (pv 0)) pa_nil))) (pa_cons (pv 3) pa_nil))))))), ?_⟩
  refine ⟨_, rfl, (w' : Int), rfl, by omega, by omega, fun D hD => ?_⟩
  rw [Int.toNat_natCast]
  have sD := same_new hD (.lst [])
  refine comp_range (n := w') (fun i zs H' => Same H H' ∧ H' D = some (.lst zs) ∧ ∃ ps, Fqs K H' zs ps ∧ Mq.AllLow ps ∧ (∀ p ∈ ps, Mq.Bd 60 p) ∧ ps.length = i) ⟨sD, upd_same, [], .nil, fun _ h => by simp at h, fun _ h => by simp at h, rfl⟩ (fun i zs H' h => h.2.1) ?_ ?_
  · rintro i zs H1 hi ⟨s1, e1, ps, hF, hP, hB, hlen⟩ C hC
    refine ⟨keep1.1, keep1.2, iteT ?_⟩
    refine ⟨_, rfl, _, rfl, _, rfl, _, _, rfl, rfl, a, ns, _, st + i, rfl, by omega, s1.seq hS, h63, by omega, fun v H2 s2 => ?_⟩
    refine ⟨_, rfl, v, fr, rfl, fun p hp bp r H3 s3 e3 => ?_⟩
    have sx := s2.trans s3
    have e1' := sx _ _ e1
    have lz := hF.length
    refine ⟨e1', small1000 (by omega), hC _ _ ⟨(s1.trans sx).change hD, upd_same, ps ++ [p], ((hF.same sx).app (.cons (Fq.of e3) .nil)).upd e1', fun p' h' => ?_, fun p' h' => ?_, by simp [hlen]⟩⟩
    · rcases List.mem_append.mp h' with z | z
      · exact hP p' z
      · have : p' = p := by simpa using z
        rw [this]; exact hp
    · rcases List.mem_append.mp h' with z | z
      · exact hB p' z
      · have : p' = p := by simpa using z
        rw [this]; exact bp
  · rintro zs H1 ⟨s1, e1, ps, hF, hP, hB, hlen⟩
    exact q D zs ps H1 s1 hD e1 hF hP hB hlen
theorem sum_bd {ms : List Mq.Q2} {X : List (List Mq.Q2)} {j : Nat} (hm : Mq.Pos ms) (hX : Mq.AllPos X) (mB : ∀ p ∈ ms, Mq.Bd 60 p) (xB : ∀ row ∈ X, ∀ p ∈ row, Mq.Bd 60 p) (h6 : ms.length ≤ 6) : Mq.Bd 9000 (Mq.sumAt ms X j) := by
  unfold Mq.sumAt
  have := Mq.tot_bd (k := 120) (Mq.sum_pos hm hX j) fun p hp => by
    obtain ⟨i, hi, rfl⟩ := List.getElem_of_mem hp
    rw [List.getElem_zipWith]
    have h1 : i < ms.length := by simp at hi; omega
    have h2 : i < X.length := by simp at hi; omega
    exact Mq.times_bd (mB _ (List.getElem_mem h1)) (Mq.getD_bd (by omega) (xB _ (List.getElem_mem h2)) j) (hm _ (List.getElem_mem h1)) (Mq.getD_pos (hX _ (List.getElem_mem h2)) j)
  refine this.mono ?_
  have : (List.zipWith (fun m row => Mq.times m (row.getD j Mq.z0)) ms X).length ≤ 6 := by simp; omega
  omega
def col (X : List (List Mq.Q2)) (j : Nat) : List Mq.Q2 := X.map fun row => row.getD j Mq.z0
theorem sumAt_col (ms : List Mq.Q2) (X : List (List Mq.Q2)) (j : Nat) : Mq.sumAt ms X j = Mq.tot (List.zipWith Mq.times ms (col X j)) := by
  unfold Mq.sumAt col
  rw [List.zipWith_map_right]
def spDue (K : PySem.W.Frag) : Sp := fun vs H Q _ => ∃ (l a g D : Addr) (zs xs us : List V) (ms : List Mq.Q2) (X : List (List Mq.Q2)) (w : Nat), vs = [.ref l, .ref a, .ref g, .int (w : Int)] ∧ SqL K H l zs ∧ Fqs K H zs (sumL ms X w) ∧ SqL K H a xs ∧ Fqs K H xs ms ∧ SqL K H g us ∧ Fmx K D H us X ∧ Mq.AllLow ms ∧ Mq.AllPos X ∧ (∀ p ∈ ms, Mq.Bd 60 p) ∧ (∀ row ∈ X, (∀ p ∈ row, Mq.Bd 60 p) ∧ row.length = w) ∧ ms.length = X.length ∧ X.length ≤ 6 ∧ w ≤ 6 ∧ ∀ H', Same H H' → Q (.bl true) H'
theorem nd_row_here_j : (["_law_row_here", "_law_j"] : List Str).Nodup := by decide +kernel
abbrev sDue : Stmt := top 19
theorem scDue : FnScope ["_law_found", "_law_factors", "_law_matrix", "_law_wide", "_law_j"] ["_law_found", "_law_factors", "_law_matrix", "_law_wide"] (defScope sDue) := ⟨rfl, rfl, rfl, by decide +kernel, rfl, by decide +kernel, by decide +kernel⟩
theorem ok_due {dV : Value} (F : FunD K "_law_due" "_law_due" sDue dV f fd)
    (mr : mg "range" = none)
    (G1 : FnOk P w K mg base CX0 3 g1 gd1 ["_law_found", "_law_many"] (spLList K)) (b1 : Binds K gd1 ["_law_found", "_law_many"] []) (k1 : PySem.W.keepIn K (.ref g1) = true) (m1 : mg "_law_list" = some (.ref g1))
    (G2 : FnOk P w K mg base CX0 1 g2 gd2 ["_law_some", "_law_others", "_law_due_here"] (spMeets K)) (b2 : Binds K gd2 ["_law_some", "_law_others", "_law_due_here"] []) (k2 : PySem.W.keepIn K (.ref g2) = true) (m2 : mg "_law_meets" = some (.ref g2)) :
    FnOk P w K mg base CX 4 f fd ["_law_found", "_law_factors", "_law_matrix", "_law_wide"] (spDue K) := by
  refine F.ok scDue (fun vs H Q E h => ?_) (fun cdv A outer s H vs Q E hr h => ?_)
  · obtain ⟨l, a, g, D0, zs, xs, us, ms, X, w', rfl, hL, fL, hS, hF, hU, hX, mL, xP, mB, xB, hlen, x6, w6, q⟩ := h
    rfl
  obtain ⟨l, a, g, D0, zs, xs, us, ms, X, w', rfl, hL, fL, hS, hF, hU, hX, mL, xP, mB, xB, hlen, x6, w6, q⟩ := h
  have r1 := hr.mono (show 1 ≤ 3 by omega)
  refine ⟨_, (pss_cons (ps_if (pt_not (pt_val (pe_call G1 hr rfl m1 k1 b1 .nil pass0 (pa_cons (pv 0) (pa_cons (pv 3) pa_nil))))) (pss_one (ps_ret pe_bl)) pss_nil)
    (pss_cons (ps_for PassesOwn.never rfl (pi_range1 rfl mr (pa_cons (pv 3) pa_nil)) (pg_name (i := 4) scDue.nd rfl (Or.inr rfl))
      (pss_one (ps_if (pt_not (pt_val (pe_call G2 r1 rfl m2 k2 b2 .nil pass0 (pa_cons (pv 1) (pa_cons (pe_comp (nl := 1) (fr := [4]) (Nc := ["_law_row_here", "_law_j"]) (cl := [("_law_j", s.heap.objs.size + 1)]) rfl ⟨rfl, rfl, by decide +kernel, by decide +kernel, fun x c h => h, has_of rfl, rfl, fun i n h => match i, h with | 0, h => by cases h; exact ⟨4, rfl, rfl, rfl, rfl, .inl rfl⟩ | k + 1, h => by rw [show 1 + (k + 1) = k + 2 by omega] at h; cases h⟩
        (pi_list (pv 2)) (fun C s3 H3 fp pins => (pg_name (i := 0) nd_row_here_j rfl (Or.inl rfl))) (fun C s3 H3 fp pins => pif_nil)
        (fun C s3 H3 fp pins => (pe_ix (ix_listK (K := K) rfl) (pv 0) (pv 1) (fun _ _ => rfl)))) (pa_cons (pe_ix ix_list (pv 0) (pv 4) (fun _ _ => rfl)) pa_nil)))))) (pss_one (ps_ret pe_bl)) pss_nil)))
    (pss_one (ps_ret pe_bl)))), ?_⟩
  have mP := mL.pos
  have lz := fL.length
  have ls : (sumL ms X w').length = w' := by unfold sumL; simp
  have lu := hX.length
  refine ⟨_, rfl, _, rfl, l, zs, sumL ms X w', by rw [ls]; rfl, hL, fL, fun p hp => ?_, by omega, fun H1 s1 => ?_⟩
  · unfold sumL at hp
    obtain ⟨j, _, rfl⟩ := List.mem_map.mp hp
    exact Mq.sumAt_low mP xP j
  refine ⟨_, rfl, iteF ?_⟩
  refine ⟨_, rfl, (w' : Int), rfl, by omega, by omega, ?_⟩
  rw [Int.toNat_natCast]
  refine for_range (n := w') (fun j σ H' => Same H H' ∧ ∃ z, σ = [some (.ref l), some (.ref a), some (.ref g), some (.int (w' : Int)), z]) ⟨s1, _, rfl⟩ ?_ ?_
  · rintro j σ H2 hj ⟨s2, z, rfl⟩
    have ej0 : (0 + (j : Int)) = (j : Int) := by omega
    rw [ej0]
    refine ⟨_, rfl, _, rfl, g, rfl, ⟨_, s2.seq hU⟩, fun D hD => ?_⟩
    have sD := same_new hD (.lst [])
    refine comp_list (xs := us) (fun i ws H' => Same H2 H' ∧ H' D = some (.lst ws) ∧ Fqs K H' ws ((col X j).take i)) ⟨sD, upd_same, .nil⟩ (fun i ws H' h => h.2.1) (fun i ws H' _ h => (s2.trans h.1).seq hU) ?_ ?_
    · rintro i ws x H3 hx ⟨s3, e3, F3⟩ C hC
      obtain ⟨u, ys, row, rfl, er, hu', fu⟩ := hX.get hx
      have hi : i < X.length := (List.getElem?_eq_some_iff.mp er).1
      have rl := (xB row (List.mem_of_getElem? er)).2
      have lw := F3.length
      rw [List.length_take] at lw
      have lc : (col X j).length = X.length := List.length_map _
      have ej : row[j]? = some (row.getD j Mq.z0) := by rw [List.getD_eq_getElem?_getD, List.getElem?_eq_getElem (by omega)]; rfl
      have sA := s2.trans s3
      obtain ⟨v, av, fv⟩ := (fu.same sA).at ej
      refine ⟨keep1.1, keep1.2, iteT ?_⟩
      refine ⟨_, rfl, _, rfl, u, ys, _, _, rfl, rfl, sA.seq hu', atI_nat av, ?_⟩
      refine ⟨e3, small1000 (by omega), hC _ _ ⟨s3.change hD, upd_same, ?_⟩⟩
      have ec : (col X j)[i]? = some (row.getD j Mq.z0) := by unfold col; rw [List.getElem?_map, er]; rfl
      rw [List.take_add_one, ec]
      exact (F3.app (.cons fv .nil)).upd e3
    rintro ws H3 ⟨s3, e3, F3⟩
    have lc : (col X j).length = X.length := List.length_map _
    rw [lu, ← lc, List.take_length] at F3
    have sA := s2.trans s3
    have es : (sumL ms X w')[j]? = some (Mq.sumAt ms X j) := by unfold sumL; rw [List.getElem?_map, List.getElem?_range hj]; rfl
    obtain ⟨v, av, fv⟩ := (fL.same sA).at es
    have cP : Mq.Pos (col X j) := fun p hp => by
      unfold col at hp
      obtain ⟨row, hr', rfl⟩ := List.mem_map.mp hp
      exact Mq.getD_pos (xP row hr') j
    refine ⟨_, rfl, _, rfl, l, zs, _, _, rfl, rfl, sA.seq hL, atI_nat av, a, D, v, xs, ws, ms, col X j, _, rfl, sA.seq hS, hF.same sA, SqL.of e3, F3, fv, mB, fun p hp => ?_, sum_bd mP xP mB (fun row hr => (xB row hr).1) (by omega), by omega, by rw [lc, hlen], ?_, fun H4 s4 => ?_⟩
    · unfold col at hp
      obtain ⟨row, hr', rfl⟩ := List.mem_map.mp hp
      exact Mq.getD_bd (by omega) (xB row hr').1 j
    · rw [sumAt_col]
      exact pp_meets mP cP
    · exact ⟨_, rfl, iteF ⟨sA.trans s4, _, rfl⟩⟩
  · rintro σ H2 ⟨s2, z, rfl⟩
    exact q _ s2
end
end K21

set_option Elab.async false
set_option linter.all false
set_option maxRecDepth 100000
set_option maxHeartbeats 4000000
namespace K21
open PySem L2 Shp
section
variable {P : Program} {w : World} {K : PySem.W.Frag} {mg : Str → Option Value} {base : Heap} {f g1 g2 g3 g4 g5 g6 g7 g8 g9 g10 g11 : Addr} {fd gd1 gd2 gd3 gd4 gd5 gd6 gd7 gd8 gd9 gd10 gd11 : FuncData} {CX : CXT}
def spLaw (K : PySem.W.Frag) : Sp := fun vs H Q _ => ∃ (a : Addr) (ns : List Int), vs = [.ref a] ∧ SqL K H a (ns.map V.int) ∧ ns.length ≤ 63 ∧ ∀ H', Q (.bl true) H'
theorem rd_eqS {K : PySem.W.Frag} {H : Hp} {x y : V} {d : PyData} {neg : Bool} {Q : VK} (h1 : DatV K H x d) (h2 : DatV K H y d) (hl : d.canLay0 = true) (hd : d.depth ≤ 16) (z : Q (.bl (!neg)) H) : rDat K neg x y H Q := by
  refine ⟨d, d, h1, h2, hl, hl, by omega, ?_⟩
  have e : PyData.eqv d d = true := PySem.SeqAt.eqv_refl _ hl
  rw [e]
  cases neg <;> exact z
def lqd (ps : List Mq.Q2) : PyData := .list (ps.map qd)
theorem _root_.Shp.Fmx.dat {K : PySem.W.Frag} {D : Addr} {H : Hp} : ∀ {xs : List V} {X : List (List Mq.Q2)}, Fmx K D H xs X → DatVs K H xs (X.map lqd)
  | _, _, .nil => .nil
  | _, _, .cons n h f q => .cons (.lst h f.dat) q.dat
theorem lqds_lay : ∀ X : List (List Mq.Q2), PyData.canLayAll0 (X.map lqd) = true
  | [] => rfl
  | r :: X => by
    show (PyData.canLayAll0 (r.map qd) && PyData.canLayAll0 (X.map lqd)) = true
    rw [lqds_lay X, qds_lay]; rfl
theorem lqds_depth : ∀ X : List (List Mq.Q2), PyData.depthAll (X.map lqd) ≤ 2
  | [] => by simp [PyData.depthAll]
  | r :: X => by
    have h := lqds_depth X
    have h1 := qds_depth r
    simp only [List.map_cons, PyData.depthAll]
    have : (lqd r).depth ≤ 2 := by simp only [lqd, PyData.depth]; omega
    omega
def two (ps : List Mq.Q2) (X : List (List Mq.Q2)) : PyData := .list [.list (ps.map qd), .list (X.map lqd)]
theorem two_lay (ps : List Mq.Q2) (X : List (List Mq.Q2)) : (two ps X).canLay0 = true := by
  show (PyData.canLayAll0 (ps.map qd) && (PyData.canLayAll0 (X.map lqd) && true)) = true
  rw [qds_lay, lqds_lay]; rfl
theorem two_depth (ps : List Mq.Q2) (X : List (List Mq.Q2)) : (two ps X).depth ≤ 16 := by
  have h1 := qds_depth ps
  have h2 := lqds_depth X
  simp only [two, PyData.depth, PyData.depthAll]; omega
theorem zip_rev {α β γ : Type} (f : α → β → γ) : ∀ {xs : List α} {ys : List β}, xs.length = ys.length → List.zipWith f xs.reverse ys.reverse = (List.zipWith f xs ys).reverse
  | [], [], _ => rfl
  | x :: xs, y :: ys, h => by
    have h' : xs.length = ys.length := by simpa using h
    rw [List.reverse_cons, List.reverse_cons, List.zipWith_append (by simp [h']), zip_rev f h']
    show _ = (f x y :: List.zipWith f xs ys).reverse
    rw [List.reverse_cons]
    rfl
theorem sumL_rev {ms : List Mq.Q2} {X : List (List Mq.Q2)} {w : Nat} (hm : Mq.Pos ms) (hX : Mq.AllPos X) (h : ms.length = X.length) : sumL ms.reverse X.reverse w = sumL ms X w := by
  unfold sumL
  refine List.map_congr_left fun j _ => ?_
  unfold Mq.sumAt
  rw [zip_rev _ h]
  exact Mq.tot_rev (Mq.sum_pos hm hX j)
theorem nd_k_wide_script_many_far : (["_law_k", "_law_wide", "_law_script", "_law_many", "_law_far"] : List Str).Nodup := by decide +kernel
theorem nd_row_here : (["_law_row_here"] : List Str).Nodup := by decide +kernel
abbrev sLaw : Stmt := top 20
theorem scLaw : FnScope ["_law_script", "_law_far", "_law_many", "_law_wide", "_law_factors", "_law_matrix", "_law_handed", "_law_found", "_law_kept", "_law_turned", "_law_again"] ["_law_script"] (defScope sLaw) := ⟨rfl, rfl, rfl, by decide +kernel, rfl, by decide +kernel, by decide +kernel⟩
theorem ok_law {dV : Value} (F : FunD K "law" "law" sLaw dV f fd)
    (b : Bl mg) (mr : mg "range" = none) (mli : mg "list" = none)
    (G1 : FnOk P w K mg base CX0 1 g1 gd1 ["_law_script", "_law_k"] (spNth K)) (b1 : Binds K gd1 ["_law_script", "_law_k"] []) (k1 : PySem.W.keepIn K (.ref g1) = true) (m1 : mg "_law_nth" = some (.ref g1))
    (G2 : FnOk P w K mg base CX0 4 g2 gd2 ["_law_script", "_law_start", "_law_wide", "_law_far"] (spRow K)) (b2 : Binds K gd2 ["_law_script", "_law_start", "_law_wide", "_law_far"] []) (k2 : PySem.W.keepIn K (.ref g2) = true) (m2 : mg "_law_row" = some (.ref g2))
    (G3 : FnOk P w K mg base CX0 3 g3 gd3 ["multiples", "matrix"] (spSummed K)) (b3 : Binds K gd3 ["multiples", "matrix"] []) (k3 : PySem.W.keepIn K (.ref g3) = true) (m3 : mg "summed" = some (.ref g3))
    (G4 : FnOk P w K mg base CX0 4 g4 gd4 ["_law_found", "_law_factors", "_law_matrix", "_law_wide"] (spDue K)) (b4 : Binds K gd4 ["_law_found", "_law_factors", "_law_matrix", "_law_wide"] []) (k4 : PySem.W.keepIn K (.ref g4) = true) (m4 : mg "_law_due" = some (.ref g4)) :
    FnOk P w K mg base CX 5 f fd ["_law_script"] (spLaw K) := by
  refine F.ok scLaw (fun vs H Q E h => ?_) (fun cdv A outer s H vs Q E hr h => ?_)
  · obtain ⟨a, ns, rfl, hS, h63, q⟩ := h
    rfl
  obtain ⟨a, ns, rfl, hS, h63, q⟩ := h
  have hu := hr.units
  have r1 := hr.mono (show 1 ≤ 4 by omega)
  have r3 := hr.mono (show 3 ≤ 4 by omega)
  refine ⟨_, (pss_cons (ps_set (i := 1) scLaw.nd rfl (Or.inr rfl) (pe_cmpR op_eq (pe_op op_mod (pe_call G1 r1 rfl m1 k1 b1 .nil pass0 (pa_cons (pv 0) (pa_cons pe_int pa_nil))) pe_int) pe_int (nomark _)))
    (pss_cons (ps_set (i := 2) scLaw.nd rfl (Or.inr rfl) (pe_op op_mod (pe_call G1 r1 rfl m1 k1 b1 .nil pass0 (pa_cons (pv 0) (pa_cons pe_int pa_nil))) pe_int))
    (pss_cons (ps_set (i := 3) scLaw.nd rfl (Or.inr rfl) (pe_op op_add pe_int (pe_op op_mod (pe_call G1 r1 rfl m1 k1 b1 .nil pass0 (pa_cons (pv 0) (pa_cons pe_int pa_nil))) pe_int)))
    (pss_cons (ps_if (pt_val (pv 1)) (pss_cons (ps_set (i := 2) scLaw.nd rfl (Or.inr rfl) (pe_op op_mod (pv 2) pe_int))
    (pss_one (ps_set (i := 3) scLaw.nd rfl (Or.inr rfl) (pe_op op_add pe_int (pe_op op_mod (pv 3) pe_int))))) pss_nil)
    (pss_cons (ps_if (pt_cmpR op_eq (pv 2) pe_int (nomark _)) (pss_one (ps_set (i := 3) scLaw.nd rfl (Or.inr rfl) pe_int)) pss_nil)
    (pss_cons (ps_set (i := 4) scLaw.nd rfl (Or.inl rfl) (pe_call G2 hr rfl m2 k2 b2 .nil pass0 (pa_cons (pv 0) (pa_cons pe_int (pa_cons (pv 2) (pa_cons (pv 1) pa_nil))))))
    (pss_cons (ps_setC (i := 5) (nl := 1) (fr := [3, 0, 2, 1]) (Nc := ["_law_k", "_law_wide", "_law_script", "_law_many", "_law_far"]) (cl := [("_law_wide", s.heap.objs.size + 4), ("_law_script", s.heap.objs.size + 1), ("_law_many", s.heap.objs.size + 3), ("_law_far", s.heap.objs.size + 2)]) scLaw.nd rfl rfl rfl ⟨rfl, rfl, by decide +kernel, by decide +kernel, (sub_cons rfl (sub_cons rfl (sub_cons rfl (sub_cons rfl (sub_nil))))), has_of rfl, rfl, fun i n h => match i, h with | 0, h => by cases h; exact ⟨3, rfl, rfl, rfl, rfl, .inl rfl⟩ | 1, h => by cases h; exact ⟨0, rfl, rfl, rfl, rfl, .inl rfl⟩ | 2, h => by cases h; exact ⟨2, rfl, rfl, rfl, rfl, .inl rfl⟩ | 3, h => by cases h; exact ⟨1, rfl, rfl, rfl, rfl, .inl rfl⟩ | k + 4, h => by rw [show 1 + (k + 4) = k + 5 by omega] at h; cases h⟩
        (pi_range1 rfl mr (pa_cons (pv 2) pa_nil)) (fun C s3 H3 fp pins => (pg_name (i := 0) nd_k_wide_script_many_far rfl (Or.inl rfl))) (fun C s3 H3 fp pins => pif_nil)
        (fun C s3 H3 fp pins => (pe_call G2 hr rfl m2 k2 b2 .nil pass0 (pa_cons (pv 2) (pa_cons (pe_op op_add (pe_op op_add pe_int (pv 3)) (pe_op op_mulB (pv 1) (pv 0))) (pa_cons (pv 1) (pa_cons (pv 4) pa_nil)))))) rfl)
    (pss_cons (ps_set (i := 6) scLaw.nd rfl (Or.inl rfl) (pe_lst (pa_cons (pe_callTy call_list_of rfl mli PyProof.Rows.boot_list (pa_cons (pv 4) pa_nil)) (pa_cons (pe_comp (nl := 1) (fr := []) (Nc := ["_law_row_here"]) (cl := []) rfl ⟨rfl, rfl, by decide +kernel, by decide +kernel, fun x c h => (by cases h), has_of rfl, rfl, fun i n h => (by simp at h)⟩
        (pi_list (pv 5)) (fun C s3 H3 fp pins => (pg_name (i := 0) nd_row_here rfl (Or.inl rfl))) (fun C s3 H3 fp pins => pif_nil)
        (fun C s3 H3 fp pins => (pe_callTy (call_list_ofK (K := K) rfl) rfl mli PyProof.Rows.boot_list (pa_cons (pv 0) pa_nil)))) pa_nil))))
    (pss_cons (ps_set (i := 7) scLaw.nd rfl (Or.inl rfl) (pe_call G3 r3 rfl m3 k3 b3 .nil pass0 (pa_cons (pe_ix ix_list (pv 6) pe_int (fun _ _ => rfl)) (pa_cons (pe_ix ix_list (pv 6) pe_int (fun _ _ => rfl)) pa_nil))))
    (pss_cons (ps_if (pt_not (pt_val (pe_call G4 hr rfl m4 k4 b4 .nil pass0 (pa_cons (pv 7) (pa_cons (pv 4) (pa_cons (pv 5) (pa_cons (pv 3) pa_nil))))))) (pss_one (ps_ret pe_bl)) pss_nil)
    (pss_cons (ps_set (i := 8) scLaw.nd rfl (Or.inl rfl) (pe_callTy call_list_of rfl mli PyProof.Rows.boot_list (pa_cons (pv 7) pa_nil)))
    (pss_cons (ps_set (i := 9) scLaw.nd rfl (Or.inl rfl) (pe_call G3 r3 rfl m3 k3 b3 .nil pass0 (pa_cons (pe_rev (pe_ix ix_list (pv 6) pe_int (fun _ _ => rfl)) (pe_un un_neg pe_int)) (pa_cons (pe_rev (pe_ix ix_list (pv 6) pe_int (fun _ _ => rfl)) (pe_un un_neg pe_int)) pa_nil))))
    (pss_cons (ps_if (pt_not (pt_val (pe_call G4 hr rfl m4 k4 b4 .nil pass0 (pa_cons (pv 9) (pa_cons (pv 4) (pa_cons (pv 5) (pa_cons (pv 3) pa_nil))))))) (pss_one (ps_ret pe_bl)) pss_nil)
    (pss_cons (ps_expr (pe_bm PySem.F.plainAttrs_list PySem.F.slot_list_append PySem.F.type_list_append mt_append (pv 9) (pa_cons (pe_tup (pa_cons pe_int (pa_cons pe_int pa_nil))) pa_nil)))
    (pss_cons (ps_set (i := 10) scLaw.nd rfl (Or.inl rfl) (pe_call G3 r3 rfl m3 k3 b3 .nil pass0 (pa_cons (pe_ix ix_list (pv 6) pe_int (fun _ _ => rfl)) (pa_cons (pe_ix ix_list (pv 6) pe_int (fun _ _ => rfl)) pa_nil))))
    (pss_one (ps_ret (pe_and (pe_cmpR (op_eqD hu) (pv 6) (pe_lst (pa_cons (pv 4) (pa_cons (pv 5) pa_nil))) (nomark _)) (pe_and (pe_cmpR (op_eqD hu) (pv 7) (pv 8) (nomark _)) (pe_one (pe_cmpR (op_eqD hu) (pv 10) (pv 8) (nomark _)))))))))))))))))))))), ?_⟩
  refine ⟨_, rfl, a, ns, 2, 2, rfl, rfl, hS, h63, by omega, fun v0 H0 s0 => ⟨_, _, rfl, rfl, (show (0 : Int) < 3 by decide), rfl, ?_⟩⟩
  generalize hfr : decide (V.int (v0 % 3) = V.int 1) = fr
  clear hfr
  refine (fun (hrest : ∀ (M W : Nat) (Hx : Hp), Same H Hx → M ≤ 6 → 1 ≤ W → W ≤ 6 → PySem.W.KIN.Hid ((?T : Nat → Nat → Hp → Prop) M W Hx)) => ?main) ?rest
  case main =>
    refine ⟨_, rfl, a, ns, 0, 0, rfl, rfl, s0.seq hS, h63, by omega, fun v1 H1 s1 => ⟨_, _, rfl, rfl, (show (0 : Int) < 7 by decide), ?_⟩⟩
    refine ⟨_, rfl, a, ns, 1, 1, rfl, rfl, (s0.trans s1).seq hS, h63, by omega, fun v2 H2 s2 => ⟨_, _, rfl, rfl, (show (0 : Int) < 6 by decide), _, _, rfl, rfl, ?_⟩⟩
    have m1 := em_lo v1 (show (0 : Int) < 7 by decide)
    have m2 := em_hi v1 (show (0 : Int) < 7 by decide)
    have m3 := em_lo v2 (show (0 : Int) < 6 by decide)
    have m4 := em_hi v2 (show (0 : Int) < 6 by decide)
    have sA := s0.trans (s1.trans s2)
    obtain ⟨M0, hM0⟩ : ∃ M : Nat, v1 % 7 = (M : Int) := ⟨(v1 % 7).toNat, by omega⟩
    obtain ⟨W0, hW0⟩ : ∃ W : Nat, 1 + v2 % 6 = (W : Int) := ⟨(1 + v2 % 6).toNat, by omega⟩
    show tSeq _ _ _ [some (.ref a), some (.bl fr), some (.int (v1 % 7)), some (.int (1 + v2 % 6)), none, none, none, none, none, none, none] H2
    rw [hM0, hW0]
    refine ⟨_, rfl, _, rfl, ite2 (fun _ => ?_) (fun _ => ?_)⟩
    · refine ⟨_, rfl, _, _, rfl, rfl, (show (0 : Int) < 4 by decide), ?_⟩
      refine ⟨_, rfl, _, _, rfl, rfl, (show (0 : Int) < 2 by decide), _, _, rfl, rfl, ?_⟩
      have k1 := em_lo (M0 : Int) (show (0 : Int) < 4 by decide)
      have k2 := em_hi (M0 : Int) (show (0 : Int) < 4 by decide)
      have k3 := em_lo (W0 : Int) (show (0 : Int) < 2 by decide)
      have k4 := em_hi (W0 : Int) (show (0 : Int) < 2 by decide)
      obtain ⟨M, hM⟩ : ∃ M : Nat, (M0 : Int) % 4 = (M : Int) := ⟨((M0 : Int) % 4).toNat, by omega⟩
      obtain ⟨W, hW⟩ : ∃ W : Nat, 1 + (W0 : Int) % 2 = (W : Int) := ⟨(1 + (W0 : Int) % 2).toNat, by omega⟩
      show tSeq _ _ _ [some (.ref a), some (.bl fr), some (.int ((M0 : Int) % 4)), some (.int (1 + (W0 : Int) % 2)), none, none, none, none, none, none, none] H2
      rw [hM, hW]
      exact (hrest M W H2 sA (by omega) (by omega) (by omega)).out
    · show tSeq _ _ _ [some (.ref a), some (.bl fr), some (.int (M0 : Int)), some (.int (W0 : Int)), none, none, none, none, none, none, none] H2
      exact (hrest M0 W0 H2 sA (by omega) (by omega) (by omega)).out
  case rest =>
  intro M W0 H2 sA hM6 hW1 hW6
  refine ⟨?_⟩
  refine (fun (hrest : ∀ (W : Nat), W ≤ 6 → (M = 0 → W = 0) → PySem.W.KIN.Hid ((?T2 : Nat → Prop) W)) => ?main2) ?rest2
  case main2 =>
    refine ⟨_, rfl, rfl, _, rfl, ite2 (fun c => ?c1) (fun c => ?c2)⟩
    case c2 =>
      have hM0 : M ≠ 0 := fun z => c (by rw [z]; rfl)
      show tSeq _ _ _ [some (.ref a), some (.bl fr), some (.int (M : Int)), some (.int (W0 : Int)), none, none, none, none, none, none, none] H2
      obtain ⟨W, hW⟩ : ∃ W : Nat, W0 = W := ⟨W0, rfl⟩
      rw [show (W0 : Int) = (W : Int) by rw [hW]]
      exact (hrest W (by omega) (fun z => absurd z hM0)).out
    case c1 =>
      show tSeq _ _ _ [some (.ref a), some (.bl fr), some (.int (M : Int)), some (.int (0 : Int)), none, none, none, none, none, none, none] H2
      exact (hrest 0 (by omega) (fun _ => rfl)).out
  case rest2 =>
  intro W hW6' hMW
  refine ⟨?_⟩
  clear hW1 hW6
  -- factors
  refine ⟨_, rfl, _, rfl, _, rfl, a, ns, 3, M, fr, rfl, sA.seq hS, h63, by omega, fun la za ms H3 s3 nla e3 F3 mL mB hml => ?_⟩
  have sB := sA.trans s3
  -- matrix
  refine ⟨_, rfl, (M : Int), rfl, by omega, by omega, fun D1 hD1 => ?_⟩
  rw [Int.toNat_natCast]
  have sD1 := same_new hD1 (.lst [])
  refine comp_range (n := M) (fun i zs H' => Same H3 H' ∧ H' D1 = some (.lst zs) ∧ ∃ X : List (List Mq.Q2), Fmx K D1 H' zs X ∧ (∀ row ∈ X, Mq.AllLow row ∧ (∀ p ∈ row, Mq.Bd 60 p) ∧ row.length = W) ∧ X.length = i) ⟨sD1, upd_same, [], .nil, fun _ h => by simp at h, rfl⟩ (fun i zs H' h => h.2.1) ?_ ?_
  · rintro i zs H4 hi ⟨s4, e4, X, hX, hP, hlen⟩ C hC
    refine ⟨keep1.1, keep1.2, iteT ?_⟩
    have wk : W * i ≤ 6 * 5 := Nat.mul_le_mul (by omega) (by omega)
    refine ⟨_, rfl, _, rfl, _, _, rfl, rfl, _, rfl, _, rfl, rd_mulB (n := 40) (m := 40) (B_of (by omega) (by omega)) (B_of (by omega) (by omega)) (by omega) (by omega) ⟨_, _, rfl, rfl, _, rfl, _, rfl, a, ns, 3 + M + W * i, W, fr, ?_, (sB.trans s4).seq hS, h63, by omega, fun lr zr ps H5 s5 nlr e5 F5 pL pB hpl => ?_⟩⟩
    · have e1 : (3 : Int) + (M : Int) + (W : Int) * (0 + (i : Int)) = ((3 + M + W * i : Nat) : Int) := by rw [Int.natCast_add, Int.natCast_add, Int.natCast_mul, Int.zero_add]; rfl
      show [V.ref a, V.int ((3 : Int) + (M : Int) + (W : Int) * (0 + (i : Int))), V.int (W : Int), V.bl fr] = _
      rw [e1]
    have e4' := s5 _ _ e4
    have lz := hX.length
    have ne : lr ≠ D1 := fun z => by rw [z, e4] at nlr; cases nlr
    refine ⟨e4', small1000 (by omega), hC _ _ ⟨(s4.trans s5).change hD1, upd_same, X ++ [ps], ((hX.same s5).app (.cons ne (SqL.of e5) F5 .nil)).upd e4', fun row hr' => ?_, by simp [hlen]⟩⟩
    rcases List.mem_append.mp hr' with z | z
    · exact hP row z
    · have : row = ps := by simpa using z
      rw [this]; exact ⟨pL, pB, hpl⟩
  rintro us H4 ⟨s4, e4, X, hX, hP, hxl⟩
  have xP : Mq.AllPos X := fun row hr' => (hP row hr').1.pos
  have xB : ∀ row ∈ X, (∀ p ∈ row, Mq.Bd 60 p) ∧ row.length = W := fun row hr' => (hP row hr').2
  have mP := mL.pos
  have hlen : ms.length = X.length := by rw [hml, hxl]
  have hX0 : X = [] → W = 0 := fun z => hMW (by rw [z] at hxl; simpa using hxl.symm)
  have e4a := s4 _ _ e3
  have F4a := F3.same s4
  have lus := hX.length
  -- handed
  refine ⟨_, rfl, la, za, rfl, .inl (SqL.of e4a), fun h1 hh1 => ?_⟩
  have c1 := same_new hh1 (.lst za)
  have w1 : upd H4 h1 (.lst za) h1 = some (.lst za) := upd_same
  generalize upd H4 h1 (.lst za) = H5 at c1 w1 ⊢
  refine ⟨_, rfl, D1, rfl, ⟨_, SqL.of (c1 _ _ e4)⟩, fun D2 hD2 => ?_⟩
  have sD2 := same_new hD2 (.lst [])
  refine comp_list (xs := us) (fun i zs H' => Same H5 H' ∧ H' D2 = some (.lst zs) ∧ Fmx K D2 H' zs (X.take i)) ⟨sD2, upd_same, .nil⟩ (fun i zs H' h => h.2.1) (fun i zs H' _ h => h.1.seq (SqL.of (c1 _ _ e4))) ?_ ?_
  · rintro i zs x H6 hx ⟨s6, e6, Y6⟩ C hC
    obtain ⟨u, ys, row, rfl, er, hu', fu⟩ := (hX.same c1).get hx
    have hi : i < X.length := (List.getElem?_eq_some_iff.mp er).1
    have lz := Y6.length
    rw [List.length_take] at lz
    refine ⟨keep1.1, keep1.2, iteT ?_⟩
    refine ⟨_, rfl, u, ys, rfl, .inl (s6.seq hu'), fun lc hlc => ?_⟩
    have s7 := same_new hlc (.lst ys)
    have e7 : upd H6 lc (.lst ys) lc = some (.lst ys) := upd_same
    generalize upd H6 lc (.lst ys) = H7 at s7 e7 ⊢
    have ne : lc ≠ D2 := fun z => by rw [z, e6] at hlc; cases hlc
    have e6' := s7 _ _ e6
    refine ⟨e6', small1000 (by omega), hC _ _ ⟨(s6.trans s7).change hD2, upd_same, ?_⟩⟩
    rw [List.take_add_one, er]
    exact ((Y6.same s7).app (.cons ne (SqL.of e7) (fu.same (s6.trans s7)) .nil)).upd e6'
  rintro zy H6 ⟨s6, e6, Y6⟩
  rw [lus, List.take_length] at Y6
  refine ⟨by show 2 ≤ sizeLine; decide, fun h0 hh0 => ?_⟩
  have c2 := same_new hh0 (.lst [.ref h1, .ref D2])
  have w2 : upd H6 h0 (.lst [.ref h1, .ref D2]) h0 = some (.lst [.ref h1, .ref D2]) := upd_same
  generalize upd H6 h0 (.lst [.ref h1, .ref D2]) = H7 at c2 w2 ⊢
  have c47 := c1.trans (s6.trans c2)
  have e7a := SqL.of (K := K) (c47 _ _ e4a)
  have F7a := F4a.same c47
  have e7x := SqL.of (K := K) (c47 _ _ e4)
  have X7 := hX.same c47
  have e7h := SqL.of (K := K) ((s6.trans c2) _ _ w1)
  have e7y := SqL.of (K := K) (c2 _ _ e6)
  have Y7 := Y6.same c2
  clear c1 c2 w1 s6 e6 Y6 sD2 hD2 hh0 hh1
  have x6 : X.length ≤ 6 := by omega
  -- summed
  refine ⟨_, rfl, h0, _, _, _, rfl, rfl, SqL.of w2, rfl, _, rfl, h0, _, _, _, rfl, rfl, SqL.of w2, rfl, h1, D2, D2, za, zy, ms, X, W, rfl, e7h, F7a, e7y, Y7, mL, xP, mB, xB, hlen, x6, hW6', hX0, fun lf zf H8 s8 nlf e8 F8 => ?_⟩
  refine ⟨_, rfl, _, rfl, _, rfl, _, rfl, lf, la, D1, D1, zf, za, us, ms, X, W, rfl, SqL.of e8, F8, s8.seq e7a, F7a.same s8, s8.seq e7x, X7.same s8, mL, xP, mB, xB, hlen, x6, hW6', fun H9 s9 => ?_⟩
  refine ⟨_, rfl, iteF ?_⟩
  have s79 := s8.trans s9
  -- kept
  refine ⟨_, rfl, lf, zf, rfl, .inl (SqL.of (s9 _ _ e8)), fun lk hlk => ?_⟩
  have cA := same_new hlk (.lst zf)
  have eA : upd H9 lk (.lst zf) lk = some (.lst zf) := upd_same
  generalize upd H9 lk (.lst zf) = HA at cA eA ⊢
  have s7A := s79.trans cA
  have s8A := s9.trans cA
  -- turned
  refine ⟨_, rfl, h0, _, _, _, rfl, rfl, SqL.of (s7A _ _ w2), rfl, 1, rfl, h1, za, rfl, rfl, s7A.seq e7h, fun lm hlm => ?_⟩
  have cB := same_new hlm (.lst za.reverse)
  have eB : upd HA lm (.lst za.reverse) lm = some (.lst za.reverse) := upd_same
  generalize upd HA lm (.lst za.reverse) = HB at cB eB ⊢
  have s7B := s7A.trans cB
  refine ⟨_, rfl, h0, _, _, _, rfl, rfl, SqL.of (s7B _ _ w2), rfl, 1, rfl, D2, zy, rfl, rfl, s7B.seq e7y, fun ln hln => ?_⟩
  have cC := same_new hln (.lst zy.reverse)
  have eC : upd HB ln (.lst zy.reverse) ln = some (.lst zy.reverse) := upd_same
  generalize upd HB ln (.lst zy.reverse) = HC at cC eC ⊢
  have s7C := s7B.trans cC
  have rl : X.reverse.length = X.length := List.length_reverse
  have rl2 : ms.reverse.length = ms.length := List.length_reverse
  refine ⟨lm, ln, D2, _, _, ms.reverse, X.reverse, W, rfl, SqL.of (cC _ _ eB), (F7a.same s7C).rev, SqL.of eC, (Y7.same s7C).rev, fun p hp => mL p (List.mem_reverse.mp hp), fun row hr' => xP row (List.mem_reverse.mp hr'), fun p hp => mB p (List.mem_reverse.mp hp), fun row hr' => xB row (List.mem_reverse.mp hr'), by rw [rl, rl2]; exact hlen, by rw [rl]; exact x6, hW6', fun z => hX0 (by simpa using z), fun lt zt HD sD nlt eD FD => ?_⟩
  rw [sumL_rev mP xP hlen] at FD
  have s7D := s7C.trans sD
  refine ⟨_, rfl, _, rfl, _, rfl, _, rfl, lt, la, D1, D1, zt, za, us, ms, X, W, rfl, SqL.of eD, FD, s7D.seq e7a, F7a.same s7D, s7D.seq e7x, X7.same s7D, mL, xP, mB, xB, hlen, x6, hW6', fun HE sE => ?_⟩
  refine ⟨_, rfl, iteF ?_⟩
  have eDE := sE _ _ eD
  have lzt := FD.length
  have lsum : (sumL ms X W).length = W := by unfold sumL; simp
  -- turned.append((1, 1))
  refine ⟨_, rfl, .inl ⟨rfl, _, SqL.of eDE⟩, by show 2 ≤ sizeLine; decide, fun t1 ht1 => ?_⟩
  have cF := same_new ht1 (.tup [.int 1, .int 1])
  have eF := cF _ _ eDE
  generalize upd HE t1 (.tup [.int 1, .int 1]) = HF at cF eF ⊢
  refine ⟨lt, zt, .ref t1, rfl, rfl, eF, small1000 (by omega), ?_⟩
  have s8C := s8A.trans (cB.trans cC)
  have sCG : Same HC (upd HF lt (.lst (zt ++ [.ref t1]))) := (sD.trans (sE.trans cF)).change nlt
  generalize upd HF lt (.lst (zt ++ [.ref t1])) = HG at sCG ⊢
  have s7G := s7C.trans sCG
  have s8G := s8C.trans sCG
  have sAG : Same HA HG := (cB.trans cC).trans sCG
  -- again
  refine ⟨_, rfl, h0, _, _, _, rfl, rfl, SqL.of (s7G _ _ w2), rfl, _, rfl, h0, _, _, _, rfl, rfl, SqL.of (s7G _ _ w2), rfl, h1, D2, D2, za, zy, ms, X, W, rfl, s7G.seq e7h, F7a.same s7G, s7G.seq e7y, Y7.same s7G, mL, xP, mB, xB, hlen, x6, hW6', hX0, fun lg zg HH sH _ eH FH => ?_⟩
  have s7H := s7G.trans sH
  have s8H := s8G.trans sH
  have sAH := sAG.trans sH
  refine ⟨_, rfl, _, rfl, _, rfl, by show 2 ≤ sizeLine; decide, fun lz' hlz => ?_⟩
  have cI := same_new hlz (.lst [.ref la, .ref D1])
  have eI : upd HH lz' (.lst [.ref la, .ref D1]) lz' = some (.lst [.ref la, .ref D1]) := upd_same
  generalize upd HH lz' (.lst [.ref la, .ref D1]) = HI at cI eI ⊢
  have s7I := s7H.trans cI
  have s8I := s8H.trans cI
  have sAI := sAH.trans cI
  refine rd_eqS (d := two ms X) (.lst (SqL.of (s7I _ _ w2)) (.cons (.lst (s7I.seq e7h) (F7a.same s7I).dat) (.cons (.lst (s7I.seq e7y) (Y7.same s7I).dat) .nil))) (.lst (SqL.of eI) (.cons (.lst (s7I.seq e7a) (F7a.same s7I).dat) (.cons (.lst (s7I.seq e7x) (X7.same s7I).dat) .nil))) (two_lay _ _) (two_depth _ _) ?_
  refine ⟨_, rfl, iteT ?_⟩
  have fk := F8.same s8I
  refine ⟨_, rfl, _, rfl, rd_eqL (SqL.of (s8I _ _ e8)) (SqL.of (sAI _ _ eA)) fk fk ?_⟩
  refine ⟨_, rfl, iteT ?_⟩
  refine ⟨_, rfl, _, rfl, rd_eqL (SqL.of (cI _ _ eH)) (SqL.of (sAI _ _ eA)) (FH.same cI) fk ?_⟩
  exact q HI
end
end K21

set_option Elab.async false
set_option linter.all false
set_option maxRecDepth 100000
set_option maxHeartbeats 4000000
namespace K21
open PySem L2 Shp
/-! the program's top -/
theorem all_mk {l : PySem.W.OpenLaw} {w : World} {K : PySem.W.Frag} {h : Heap} {mg : Str → Option Value} {fa : Addr} (X : K.In h) (G : h.Ns mainGlobals mg) (hfa : mg "law" = some (.ref fa))
    {f1 : Addr} {od1 an1 : Option Addr} {sl1 : Array (Option Value)} {oc1 kV1 dc1 pm1 cd1 ct1 : Value}
    {f2 : Addr} {od2 an2 : Option Addr} {sl2 : Array (Option Value)} {oc2 kV2 dc2 pm2 cd2 ct2 : Value}
    {f3 : Addr} {od3 an3 : Option Addr} {sl3 : Array (Option Value)} {oc3 kV3 dc3 pm3 cd3 ct3 : Value}
    {T3 : Addr} {oT3 : Value} {dT3 : Option Addr} {nT3 : Nat} {sT3 : Array (Option Value)} {tk3 : Tok}
    {f4 : Addr} {od4 an4 : Option Addr} {sl4 : Array (Option Value)} {oc4 kV4 dc4 pm4 cd4 ct4 : Value}
    {f5 : Addr} {od5 an5 : Option Addr} {sl5 : Array (Option Value)} {oc5 kV5 dc5 pm5 cd5 ct5 : Value}
    {f6 : Addr} {od6 an6 : Option Addr} {sl6 : Array (Option Value)} {oc6 kV6 dc6 pm6 cd6 ct6 : Value}
    {f7 : Addr} {od7 an7 : Option Addr} {sl7 : Array (Option Value)} {oc7 kV7 dc7 pm7 cd7 ct7 : Value}
    {f8 : Addr} {od8 an8 : Option Addr} {sl8 : Array (Option Value)} {oc8 kV8 dc8 pm8 cd8 ct8 : Value}
    {f9 : Addr} {od9 an9 : Option Addr} {sl9 : Array (Option Value)} {oc9 kV9 dc9 pm9 cd9 ct9 : Value}
    {f10 : Addr} {od10 an10 : Option Addr} {sl10 : Array (Option Value)} {oc10 kV10 dc10 pm10 cd10 ct10 : Value}
    {f11 : Addr} {od11 an11 : Option Addr} {sl11 : Array (Option Value)} {oc11 kV11 dc11 pm11 cd11 ct11 : Value}
    {f12 : Addr} {od12 an12 : Option Addr} {sl12 : Array (Option Value)} {oc12 kV12 dc12 pm12 cd12 ct12 : Value}
    {f13 : Addr} {od13 an13 : Option Addr} {sl13 : Array (Option Value)} {oc13 kV13 dc13 pm13 cd13 ct13 : Value}
    {f14 : Addr} {od14 an14 : Option Addr} {sl14 : Array (Option Value)} {oc14 kV14 dc14 pm14 cd14 ct14 : Value}
    {f15 : Addr} {od15 an15 : Option Addr} {sl15 : Array (Option Value)} {oc15 kV15 dc15 pm15 cd15 ct15 : Value}
    (a1 : PySem.W.nsIn K mainGlobals "is_whole" = some (some (.ref f1)))
    (l1 : K.lookup f1 = some ⟨oc1, od1, .func (PySem.W.fnOf "is_whole" "is_whole" (defArgs sWhole) (defBody sWhole) (defScope sWhole) .none kV1 dc1 pm1 an1 cd1 ct1), sl1⟩) (c1 : PySem.W.codeIn K cd1 "is_whole" = true) (k1 : PySem.W.keepIn K (.ref f1) = true)
    (a2 : PySem.W.nsIn K mainGlobals "greatest_common" = some (some (.ref f2)))
    (l2 : K.lookup f2 = some ⟨oc2, od2, .func (PySem.W.fnOf "greatest_common" "greatest_common" (defArgs sGc) (defBody sGc) (defScope sGc) .none kV2 dc2 pm2 an2 cd2 ct2), sl2⟩) (c2 : PySem.W.codeIn K cd2 "greatest_common" = true) (k2 : PySem.W.keepIn K (.ref f2) = true)
    (a3 : PySem.W.nsIn K mainGlobals "fraction" = some (some (.ref f3)))
    (l3 : K.lookup f3 = some ⟨oc3, od3, .func (PySem.W.fnOf "fraction" "fraction" (defArgs sFrac) (defBody sFrac) (defScope sFrac) (.ref T3) kV3 dc3 pm3 an3 cd3 ct3), sl3⟩) (c3 : PySem.W.codeIn K cd3 "fraction" = true) (k3 : PySem.W.keepIn K (.ref f3) = true)
    (lt3 : K.lookup T3 = some ⟨oT3, dT3, .seq #[.int 1 tk3] nT3, sT3⟩)
    (a4 : PySem.W.nsIn K mainGlobals "in_wholes" = some (some (.ref f4)))
    (l4 : K.lookup f4 = some ⟨oc4, od4, .func (PySem.W.fnOf "in_wholes" "in_wholes" (defArgs sIW) (defBody sIW) (defScope sIW) .none kV4 dc4 pm4 an4 cd4 ct4), sl4⟩) (c4 : PySem.W.codeIn K cd4 "in_wholes" = true) (k4 : PySem.W.keepIn K (.ref f4) = true)
    (a5 : PySem.W.nsIn K mainGlobals "summed" = some (some (.ref f5)))
    (l5 : K.lookup f5 = some ⟨oc5, od5, .func (PySem.W.fnOf "summed" "summed" (defArgs sSummed) (defBody sSummed) (defScope sSummed) .none kV5 dc5 pm5 an5 cd5 ct5), sl5⟩) (c5 : PySem.W.codeIn K cd5 "summed" = true) (k5 : PySem.W.keepIn K (.ref f5) = true)
    (a6 : PySem.W.nsIn K mainGlobals "_law_nth" = some (some (.ref f6)))
    (l6 : K.lookup f6 = some ⟨oc6, od6, .func (PySem.W.fnOf "_law_nth" "_law_nth" (defArgs sNth) (defBody sNth) (defScope sNth) .none kV6 dc6 pm6 an6 cd6 ct6), sl6⟩) (c6 : PySem.W.codeIn K cd6 "_law_nth" = true) (k6 : PySem.W.keepIn K (.ref f6) = true)
    (a7 : PySem.W.nsIn K mainGlobals "_law_divisor" = some (some (.ref f7)))
    (l7 : K.lookup f7 = some ⟨oc7, od7, .func (PySem.W.fnOf "_law_divisor" "_law_divisor" (defArgs sDiv) (defBody sDiv) (defScope sDiv) .none kV7 dc7 pm7 an7 cd7 ct7), sl7⟩) (c7 : PySem.W.codeIn K cd7 "_law_divisor" = true) (k7 : PySem.W.keepIn K (.ref f7) = true)
    (a8 : PySem.W.nsIn K mainGlobals "_law_lowest" = some (some (.ref f8)))
    (l8 : K.lookup f8 = some ⟨oc8, od8, .func (PySem.W.fnOf "_law_lowest" "_law_lowest" (defArgs sLowest) (defBody sLowest) (defScope sLowest) .none kV8 dc8 pm8 an8 cd8 ct8), sl8⟩) (c8 : PySem.W.codeIn K cd8 "_law_lowest" = true) (k8 : PySem.W.keepIn K (.ref f8) = true)
    (a9 : PySem.W.nsIn K mainGlobals "_law_is" = some (some (.ref f9)))
    (l9 : K.lookup f9 = some ⟨oc9, od9, .func (PySem.W.fnOf "_law_is" "_law_is" (defArgs sIs) (defBody sIs) (defScope sIs) .none kV9 dc9 pm9 an9 cd9 ct9), sl9⟩) (c9 : PySem.W.codeIn K cd9 "_law_is" = true) (k9 : PySem.W.keepIn K (.ref f9) = true)
    (a10 : PySem.W.nsIn K mainGlobals "_law_list" = some (some (.ref f10)))
    (l10 : K.lookup f10 = some ⟨oc10, od10, .func (PySem.W.fnOf "_law_list" "_law_list" (defArgs sLList) (defBody sLList) (defScope sLList) .none kV10 dc10 pm10 an10 cd10 ct10), sl10⟩) (c10 : PySem.W.codeIn K cd10 "_law_list" = true) (k10 : PySem.W.keepIn K (.ref f10) = true)
    (a11 : PySem.W.nsIn K mainGlobals "_law_meets" = some (some (.ref f11)))
    (l11 : K.lookup f11 = some ⟨oc11, od11, .func (PySem.W.fnOf "_law_meets" "_law_meets" (defArgs sMeets) (defBody sMeets) (defScope sMeets) .none kV11 dc11 pm11 an11 cd11 ct11), sl11⟩) (c11 : PySem.W.codeIn K cd11 "_law_meets" = true) (k11 : PySem.W.keepIn K (.ref f11) = true)
    (a12 : PySem.W.nsIn K mainGlobals "_law_drawn" = some (some (.ref f12)))
    (l12 : K.lookup f12 = some ⟨oc12, od12, .func (PySem.W.fnOf "_law_drawn" "_law_drawn" (defArgs sDrawn) (defBody sDrawn) (defScope sDrawn) .none kV12 dc12 pm12 an12 cd12 ct12), sl12⟩) (c12 : PySem.W.codeIn K cd12 "_law_drawn" = true) (k12 : PySem.W.keepIn K (.ref f12) = true)
    (a13 : PySem.W.nsIn K mainGlobals "_law_row" = some (some (.ref f13)))
    (l13 : K.lookup f13 = some ⟨oc13, od13, .func (PySem.W.fnOf "_law_row" "_law_row" (defArgs sRow) (defBody sRow) (defScope sRow) .none kV13 dc13 pm13 an13 cd13 ct13), sl13⟩) (c13 : PySem.W.codeIn K cd13 "_law_row" = true) (k13 : PySem.W.keepIn K (.ref f13) = true)
    (a14 : PySem.W.nsIn K mainGlobals "_law_due" = some (some (.ref f14)))
    (l14 : K.lookup f14 = some ⟨oc14, od14, .func (PySem.W.fnOf "_law_due" "_law_due" (defArgs sDue) (defBody sDue) (defScope sDue) .none kV14 dc14 pm14 an14 cd14 ct14), sl14⟩) (c14 : PySem.W.codeIn K cd14 "_law_due" = true) (k14 : PySem.W.keepIn K (.ref f14) = true)
    (a15 : PySem.W.nsIn K mainGlobals "law" = some (some (.ref f15)))
    (l15 : K.lookup f15 = some ⟨oc15, od15, .func (PySem.W.fnOf "law" "law" (defArgs sLaw) (defBody sLaw) (defScope sLaw) .none kV15 dc15 pm15 an15 cd15 ct15), sl15⟩) (c15 : PySem.W.codeIn K cd15 "law" = true) (k15 : PySem.W.keepIn K (.ref f15) = true)
    (z1 : PySem.W.nsIn K mainGlobals "isinstance" = some none)
    (z2 : PySem.W.nsIn K mainGlobals "int" = some none)
    (z3 : PySem.W.nsIn K mainGlobals "bool" = some none)
    (z4 : PySem.W.nsIn K mainGlobals "abs" = some none)
    (z5 : PySem.W.nsIn K mainGlobals "len" = some none)
    (z6 : PySem.W.nsIn K mainGlobals "range" = some none)
    (z7 : PySem.W.nsIn K mainGlobals "tuple" = some none)
    (z8 : PySem.W.nsIn K mainGlobals "list" = some none)
    (z9 : PySem.W.nsIn K mainGlobals "all" = some none)
    (z10 : PySem.W.nsIn K mainGlobals "zip" = some none)
    (z11 : PySem.W.nsIn K mainGlobals "sum" = some none) :
    ∃ fd : FuncData, (∀ (s : Shared) (v : Value), BindsTo s fd ⟨[v], []⟩ [("_law_script", v)]) ∧ ∀ base : Heap, K.In base → base.Ns mainGlobals mg → FnOk l.prog w K mg base CX0 5 fa fd ["_law_script"] (spLaw K) := by
  have e := hfa.symm.trans (PySem.W.mg_of X G a15)
  cases e
  have F1 := fund_mk (st := sWhole) l1 c1 k1
  have m1 := PySem.W.mg_of X G a1
  have b1 := F1.binds (ps := ["thing"]) fun _ _ _ _ _ _ us hl => match us, hl with | [_], _ => rfl
  have F2 := fund_mk (st := sGc) l2 c2 k2
  have m2 := PySem.W.mg_of X G a2
  have b2 := F2.binds (ps := ["one", "other"]) fun _ _ _ _ _ _ us hl => match us, hl with | [_, _], _ => rfl
  have F3 := fund_mk (st := sFrac) l3 c3 k3
  have m3 := PySem.W.mg_of X G a3
  have b3 : Binds K _ ["top", "bottom"] [] := fun s us XX hl => match us, hl with | [_, _], _ => PySem.W.binds_K (fd := PySem.W.fnOf "fraction" "fraction" (defArgs sFrac) (defBody sFrac) (defScope sFrac) (.ref T3) kV3 dc3 pm3 an3 cd3 ct3) XX rfl lt3 rfl rfl rfl
  have bd3 : Binds K _ ["top", "bottom"] [.int 1 tk3] := fun s us XX hl => match us, (show us.length = 1 by simp at hl; omega) with | [_], _ => PySem.W.binds_K (fd := PySem.W.fnOf "fraction" "fraction" (defArgs sFrac) (defBody sFrac) (defScope sFrac) (.ref T3) kV3 dc3 pm3 an3 cd3 ct3) XX rfl lt3 rfl rfl rfl
  have F4 := fund_mk (st := sIW) l4 c4 k4
  have m4 := PySem.W.mg_of X G a4
  have b4 := F4.binds (ps := ["some"]) fun _ _ _ _ _ _ us hl => match us, hl with | [_], _ => rfl
  have F5 := fund_mk (st := sSummed) l5 c5 k5
  have m5 := PySem.W.mg_of X G a5
  have b5 := F5.binds (ps := ["multiples", "matrix"]) fun _ _ _ _ _ _ us hl => match us, hl with | [_, _], _ => rfl
  have F6 := fund_mk (st := sNth) l6 c6 k6
  have m6 := PySem.W.mg_of X G a6
  have b6 := F6.binds (ps := ["_law_script", "_law_k"]) fun _ _ _ _ _ _ us hl => match us, hl with | [_, _], _ => rfl
  have F7 := fund_mk (st := sDiv) l7 c7 k7
  have m7 := PySem.W.mg_of X G a7
  have b7 := F7.binds (ps := ["_law_one", "_law_other"]) fun _ _ _ _ _ _ us hl => match us, hl with | [_, _], _ => rfl
  have F8 := fund_mk (st := sLowest) l8 c8 k8
  have m8 := PySem.W.mg_of X G a8
  have b8 := F8.binds (ps := ["_law_top", "_law_bottom"]) fun _ _ _ _ _ _ us hl => match us, hl with | [_, _], _ => rfl
  have F9 := fund_mk (st := sIs) l9 c9 k9
  have m9 := PySem.W.mg_of X G a9
  have b9 := F9.binds (ps := ["_law_found"]) fun _ _ _ _ _ _ us hl => match us, hl with | [_], _ => rfl
  have F10 := fund_mk (st := sLList) l10 c10 k10
  have m10 := PySem.W.mg_of X G a10
  have b10 := F10.binds (ps := ["_law_found", "_law_many"]) fun _ _ _ _ _ _ us hl => match us, hl with | [_, _], _ => rfl
  have F11 := fund_mk (st := sMeets) l11 c11 k11
  have m11 := PySem.W.mg_of X G a11
  have b11 := F11.binds (ps := ["_law_some", "_law_others", "_law_due_here"]) fun _ _ _ _ _ _ us hl => match us, hl with | [_, _, _], _ => rfl
  have F12 := fund_mk (st := sDrawn) l12 c12 k12
  have m12 := PySem.W.mg_of X G a12
  have b12 := F12.binds (ps := ["_law_cell", "_law_far"]) fun _ _ _ _ _ _ us hl => match us, hl with | [_, _], _ => rfl
  have F13 := fund_mk (st := sRow) l13 c13 k13
  have m13 := PySem.W.mg_of X G a13
  have b13 := F13.binds (ps := ["_law_script", "_law_start", "_law_wide", "_law_far"]) fun _ _ _ _ _ _ us hl => match us, hl with | [_, _, _, _], _ => rfl
  have F14 := fund_mk (st := sDue) l14 c14 k14
  have m14 := PySem.W.mg_of X G a14
  have b14 := F14.binds (ps := ["_law_found", "_law_factors", "_law_matrix", "_law_wide"]) fun _ _ _ _ _ _ us hl => match us, hl with | [_, _, _, _], _ => rfl
  have F15 := fund_mk (st := sLaw) l15 c15 k15
  have m15 := PySem.W.mg_of X G a15
  have b15 := F15.binds (ps := ["_law_script"]) fun _ _ _ _ _ _ us hl => match us, hl with | [_], _ => rfl
  have n_isinstance := PySem.W.mg_none_of X G z1
  have n_int := PySem.W.mg_none_of X G z2
  have n_bool := PySem.W.mg_none_of X G z3
  have n_abs := PySem.W.mg_none_of X G z4
  have n_len := PySem.W.mg_none_of X G z5
  have n_range := PySem.W.mg_none_of X G z6
  have n_tuple := PySem.W.mg_none_of X G z7
  have n_list := PySem.W.mg_none_of X G z8
  have n_all := PySem.W.mg_none_of X G z9
  have n_zip := PySem.W.mg_none_of X G z10
  have n_sum := PySem.W.mg_none_of X G z11
  refine ⟨PySem.W.fnOf "law" "law" (defArgs sLaw) (defBody sLaw) (defScope sLaw) .none kV15 dc15 pm15 an15 cd15 ct15, fun s v => .of_eq rfl, fun base _ _ => ?_⟩
  have bl : Bl mg := ⟨n_isinstance, n_int, n_bool, n_abs⟩
  have R1 := ok_whole (P := l.prog) (w := w) (K := K) (mg := mg) (base := base) (CX := CX0) F1 bl
  have R2 := ok_gc (P := l.prog) (w := w) (K := K) (mg := mg) (base := base) (CX := CX0) F2 bl
  have R3 := ok_frac (P := l.prog) (w := w) (K := K) (mg := mg) (base := base) (CX := CX0) F3  R1 b1 k1 m1 R2 b2 k2 m2
  have R4 := ok_iw (P := l.prog) (w := w) (K := K) (mg := mg) (base := base) (CX := CX0) F4  R2 b2 k2 m2
  have R5 := ok_summed (P := l.prog) (w := w) (K := K) (mg := mg) (base := base) (CX := CX0) F5 n_len n_range n_zip n_sum R4 b4 k4 m4 R3 b3 k3 m3
  have R6 := ok_nth (P := l.prog) (w := w) (K := K) (mg := mg) (base := base) (CX := CX0) F6 
  have R7 := ok_div (P := l.prog) (w := w) (K := K) (mg := mg) (base := base) (CX := CX0) F7 bl
  have R8 := ok_lowest (P := l.prog) (w := w) (K := K) (mg := mg) (base := base) (CX := CX0) F8  R7 b7 k7 m7
  have R9 := ok_is (P := l.prog) (w := w) (K := K) (mg := mg) (base := base) (CX := CX0) F9 bl n_len n_tuple R7 b7 k7 m7
  have R10 := ok_llist (P := l.prog) (w := w) (K := K) (mg := mg) (base := base) (CX := CX0) F10 bl n_len n_list n_all R9 b9 k9 m9
  have R11 := ok_meets (P := l.prog) (w := w) (K := K) (mg := mg) (base := base) (CX := CX0) F11 n_zip
  have R12 := ok_drawn (P := l.prog) (w := w) (K := K) (mg := mg) (base := base) (CX := CX0) F12  R8 b8 k8 m8
  have R13 := ok_row (P := l.prog) (w := w) (K := K) (mg := mg) (base := base) (CX := CX0) F13 n_range R6 b6 k6 m6 R12 b12 k12 m12
  have R14 := ok_due (P := l.prog) (w := w) (K := K) (mg := mg) (base := base) (CX := CX0) F14 n_range R10 b10 k10 m10 R11 b11 k11 m11
  exact ok_law (P := l.prog) (w := w) (K := K) (mg := mg) (base := base) (CX := CX0) F15 bl n_range n_list R6 b6 k6 m6 R13 b13 k13 m13 R5 b5 k5 m5 R14 b14 k14 m14
theorem walk {l : PySem.W.OpenLaw} {q : Program} {loose : List Str} {XP : (Str → Option Value) → Heap → Prop} {YP : World → Heap → Prop} {d : DefRec} {K : Params → PySem.W.Frag} (hn : l.most = some 63) (hdf : d.params.defaults = [])
    (hY : ∀ (w : World) (h : Heap), YP w h → (K w.params).In h)
    (F : ∀ (w : World) (mg : Str → Option Value) (fa : Addr) (h : Heap), (K w.params).In h → h.Ns mainGlobals mg → mg d.name = some (.ref fa) →
      ∃ fd : FuncData, (∀ (s : Shared) (u : Value), BindsTo s fd ⟨[u], []⟩ [("_law_script", u)]) ∧ ∀ base : Heap, (K w.params).In base → base.Ns mainGlobals mg → FnOk l.prog w (K w.params) mg base CX0 5 fa fd ["_law_script"] (spLaw (K w.params))) :
    PySem.W.WalkO q loose XP YP l.row.toRowW d [] (fun f vs => PySem.call f vs) :=
  L2.walk_of (n := 63) (k := 5) (x := "_law_script") (CX := fun _ => CX0) (sp := fun w => spLaw (K w.params)) hn (by decide) hdf ⟨rfl, by decide, by decide⟩ hY F (fun _ _ a ns hl _ hS => ⟨a, ns, rfl, hS, hl, fun _ => rfl⟩) fun _ _ _ _ _ z => z
end K21
open PySem PySem.W PyProof.Rows
set_option maxRecDepth 100000 in
set_option maxHeartbeats 0 in
theorem PySem.Challenge.cw_ohmyard_k21_rows_summed_holds : PySem.Challenge.rw_ohmyard_k21_rows_summed.Holds := by
  w_on; o_law; k_head; (case hw => w_witness2)
  k_fill
  refine K21.walk (l := PySem.Challenge.rw_ohmyard_k21_rows_summed) rfl rfl (fun w h Y => PySem.W.kIn_of Y) ?F
  case F =>
    intro w mg fa h KX G hmg
    refine' K21.all_mk KX G hmg ?a1 ?l1 ?c1 ?k1 ?a2 ?l2 ?c2 ?k2 ?a3 ?l3 ?c3 ?k3 ?lt3 ?a4 ?l4 ?c4 ?k4 ?a5 ?l5 ?c5 ?k5 ?a6 ?l6 ?c6 ?k6 ?a7 ?l7 ?c7 ?k7 ?a8 ?l8 ?c8 ?k8 ?a9 ?l9 ?c9 ?k9 ?a10 ?l10 ?c10 ?k10 ?a11 ?l11 ?c11 ?k11 ?a12 ?l12 ?c12 ?k12 ?a13 ?l13 ?c13 ?k13 ?a14 ?l14 ?c14 ?k14 ?a15 ?l15 ?c15 ?k15 ?z1 ?z2 ?z3 ?z4 ?z5 ?z6 ?z7 ?z8 ?z9 ?z10 ?z11
    (case a1 => k_is); (case l1 => k_is); (case c1 => k_is); (case k1 => k_is)
    (case a2 => k_is); (case l2 => k_is); (case c2 => k_is); (case k2 => k_is)
    (case a3 => k_is); (case l3 => k_is); (case c3 => k_is); (case k3 => k_is); (case lt3 => k_is)
    (case a4 => k_is); (case l4 => k_is); (case c4 => k_is); (case k4 => k_is)
    (case a5 => k_is); (case l5 => k_is); (case c5 => k_is); (case k5 => k_is)
    (case a6 => k_is); (case l6 => k_is); (case c6 => k_is); (case k6 => k_is)
    (case a7 => k_is); (case l7 => k_is); (case c7 => k_is); (case k7 => k_is)
    (case a8 => k_is); (case l8 => k_is); (case c8 => k_is); (case k8 => k_is)
    (case a9 => k_is); (case l9 => k_is); (case c9 => k_is); (case k9 => k_is)
    (case a10 => k_is); (case l10 => k_is); (case c10 => k_is); (case k10 => k_is)
    (case a11 => k_is); (case l11 => k_is); (case c11 => k_is); (case k11 => k_is)
    (case a12 => k_is); (case l12 => k_is); (case c12 => k_is); (case k12 => k_is)
    (case a13 => k_is); (case l13 => k_is); (case c13 => k_is); (case k13 => k_is)
    (case a14 => k_is); (case l14 => k_is); (case c14 => k_is); (case k14 => k_is)
    (case a15 => k_is); (case l15 => k_is); (case c15 => k_is); (case k15 => k_is)
    (case z1 => k_is)
    (case z2 => k_is)
    (case z3 => k_is)
    (case z4 => k_is)
    (case z5 => k_is)
    (case z6 => k_is)
    (case z7 => k_is)
    (case z8 => k_is)
    (case z9 => k_is)
    (case z10 => k_is)
    (case z11 => k_is)
