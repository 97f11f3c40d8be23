import PyProof.Rows.All
import Wide.All
import OpenK.AllK
import Wide.FinOn
import Lean
import PyProof.EqAt
import PyProof.EqKinds
import PyProof.TupleCall
import PySem.Challenge.RW_hourhouse_k37_whole_clock_walked
set_option Elab.async false
set_option linter.all false
set_option maxRecDepth 100000
/-! THE HAND LAYER, for ints, bools, texts, own classes, LISTS and tuples (index, slices, in, append, pop ..), calls, loops. Paste it whole ahead of your own text; what your proof does not reach may be deleted. -/
namespace L2
open PySem PySem.Spec PyProof.Rows

/-- a key: an int or a str -/
abbrev Key := Sum Int Str
def keyIs : Key → Value → Bool
  | .inl k, v => Value.isInt k v
  | .inr x, v => Value.isStrOf x v
def keyH (w : World) : Key → Int
  | .inl k => hashInt k
  | .inr x => hashStr w x
theorem keyIs_shape : ∀ {k : Key} {v : Value}, keyIs k v = true → (∃ i t, k = Sum.inl i ∧ v = Value.int i t) ∨ (∃ x t, k = Sum.inr x ∧ v = Value.str x t)
  | .inl i, v, h => by
    obtain ⟨t, e⟩ := Value.isInt_shape (k := i) (v := v) h
    exact .inl ⟨i, t, rfl, e⟩
  | .inr x, v, h => by
    obtain ⟨t, e⟩ := Value.isStrOf_shape (x := x) (v := v) h
    exact .inr ⟨x, t, rfl, e⟩
theorem keyIs_int (i : Int) (t : Tok) : keyIs (.inl i) (.int i t) = true := by simp [keyIs, Value.isInt]
theorem keyIs_str (x : Str) (t : Tok) : keyIs (.inr x) (.str x t) = true := by simp [keyIs, Value.isStrOf]
theorem key_ll (a b : Int) : decide ((Sum.inl a : Key) = Sum.inl b) = (a == b) := by
  by_cases e : a = b
  · subst e; simp
  · have h : ¬ (Sum.inl a : Key) = Sum.inl b := fun q => e (Sum.inl.inj q)
    rw [decide_eq_false h]
    exact (beq_eq_false_iff_ne.mpr e).symm
theorem key_rr (a b : Str) : decide ((Sum.inr a : Key) = Sum.inr b) = decide (a = b) := by
  by_cases e : a = b
  · subst e; simp
  · have h : ¬ (Sum.inr a : Key) = Sum.inr b := fun q => e (Sum.inr.inj q)
    rw [decide_eq_false h, decide_eq_false e]
theorem key_lr (a : Int) (b : Str) : decide ((Sum.inl a : Key) = Sum.inr b) = false := decide_eq_false (fun q => nomatch q)
theorem key_rl (a : Str) (b : Int) : decide ((Sum.inr a : Key) = Sum.inl b) = false := decide_eq_false (fun q => nomatch q)

def mixKind (prog : Program) (w : World) : PySem.KeyKind prog w Key where
  is := keyIs
  hash := keyH w
  inj := fun v a b ha hb => by
    rcases keyIs_shape ha with ⟨i, t, rfl, rfl⟩ | ⟨x, t, rfl, rfl⟩
    · rcases keyIs_shape hb with ⟨j, u, rfl, e⟩ | ⟨y, u, rfl, e⟩
      · injection e with e1 _; rw [e1]
      · exact nomatch e
    · rcases keyIs_shape hb with ⟨j, u, rfl, e⟩ | ⟨y, u, rfl, e⟩
      · exact nomatch e
      · injection e with e1 _; rw [e1]
  byValue := fun k v h => by
    rcases keyIs_shape h with ⟨i, t, rfl, rfl⟩ | ⟨x, t, rfl, rfl⟩ <;> rfl
  pyHash := fun hv h => by
    rcases keyIs_shape hv with ⟨i, t, rfl, rfl⟩ | ⟨x, t, rfl, rfl⟩
    · exact wpAny_pyHash_int h
    · exact wpAny_pyHash_str h
  eqBool := fun hu hv h => by
    rcases keyIs_shape hu with ⟨i, t, rfl, rfl⟩ | ⟨x, t, rfl, rfl⟩
    · rcases keyIs_shape hv with ⟨j, u, rfl, rfl⟩ | ⟨y, u, rfl, rfl⟩
      · rw [key_ll] at h; exact wpAny_eqBool_int h
      · rw [key_lr] at h; exact SeqAt.EqAt.int_str i t y u _ _ _ _ h
    · rcases keyIs_shape hv with ⟨j, u, rfl, rfl⟩ | ⟨y, u, rfl, rfl⟩
      · rw [key_rl] at h; exact SeqAt.EqAt.str_int x t j u _ _ _ _ h
      · rw [key_rr] at h; exact wpAny_eqBool_str h
  «strs» := fun k x t v h => by
    rcases keyIs_shape h with ⟨i, u, rfl, e⟩ | ⟨y, u, rfl, e⟩
    · exact nomatch e
    · injection e with e1 _
      subst e1
      cases v <;> rfl

theorem mixKind_int (prog : Program) (w : World) (i : Int) (t : Tok) : (mixKind prog w).is (.inl i) (.int i t) = true := keyIs_int i t
theorem mixKind_str (prog : Program) (w : World) (x : Str) (t : Tok) : (mixKind prog w).is (.inr x) (.str x t) = true := keyIs_str x t
end L2

namespace L2
open PySem PySem.Spec PyProof.Rows

/-- a value, without the heap -/
inductive V where
  | non | bl (b : Bool) | int (i : Int) | str (x : Str) | byt (b : Array UInt8) | flt (b : UInt64) | ref (a : Addr) | ty (n : String)
  deriving DecidableEq

def RelV : V → Value → Prop
  | .non, u => u = Value.none
  | .bl b, u => u = Value.bool b
  | .int i, u => ∃ t, u = Value.int i t
  | .str x, u => ∃ t, u = Value.str x t
  | .byt b, u => ∃ t, u = Value.bytes b t
  | .flt b, u => ∃ t, u = Value.float b t
  | .ref a, u => u = Value.ref a
  | .ty n, u => u = Value.type n

abbrev Vals : List V → List Value → Prop := Paired RelV
theorem Vals.length {xs : List V} {us : List Value} (r : Vals xs us) : xs.length = us.length := Paired.length r
theorem Vals.get : ∀ {xs : List V} {us : List Value} {i : Nat} {x : V}, Vals xs us → xs[i]? = some x → ∃ u, us[i]? = some u ∧ RelV x u
  | _, _, _, _, .nil, e => by simp at e
  | _, _, 0, _, .cons r _, e => by simp at e; subst e; exact ⟨_, rfl, r⟩
  | _, _, i + 1, x, .cons _ t, e => by
    obtain ⟨u, h1, h2⟩ := Vals.get (i := i) (x := x) t (by simpa using e)
    exact ⟨u, by simpa using h1, h2⟩
theorem Vals.set {x : V} {u : Value} (r : RelV x u) : ∀ {xs : List V} {us : List Value} (i : Nat), Vals xs us → Vals (xs.set i x) (us.set i u)
  | _, _, _, .nil => .nil
  | _, _, 0, .cons _ t => .cons r t
  | _, _, i + 1, .cons q t => .cons q (Vals.set r i t)
theorem Vals.append : ∀ {xs ys : List V} {us ws : List Value}, Vals xs us → Vals ys ws → Vals (xs ++ ys) (us ++ ws)
  | _, _, _, _, .nil, s => s
  | _, _, _, _, .cons r t, s => .cons r (Vals.append t s)
theorem Vals.take : ∀ {xs : List V} {us : List Value} (n : Nat), Vals xs us → Vals (xs.take n) (us.take n)
  | _, _, 0, _ => .nil
  | _, _, _ + 1, .nil => .nil
  | _, _, n + 1, .cons r t => .cons r (Vals.take n t)
theorem Vals.drop : ∀ {xs : List V} {us : List Value} (n : Nat), Vals xs us → Vals (xs.drop n) (us.drop n)
  | _, _, 0, r => r
  | _, _, _ + 1, .nil => .nil
  | _, _, n + 1, .cons _ t => Vals.drop n t
def RelO : Option V → Option Value → Prop
  | some v, some u => RelV v u
  | none, none => True
  | _, _ => False
def KV {κ : Type} : List (κ × V) → List (κ × Value) → Prop := Paired fun (p : κ × V) (q : κ × Value) => p.1 = q.1 ∧ RelV p.2 q.2

/-- a key of a dict (00_mix): an int or a text -/
def kV : Key → V
  | .inl i => .int i
  | .inr x => .str x

/-- what stands at a tracked address -/
inductive HO where
  /-- a list -/
  | lst (xs : List V)
  /-- a tuple (never changes) -/
  | tup (xs : List V)
  /-- a dict whose keys are ints and texts; one whose keys are tuples of ints and texts (the empty one is both) -/
  | dK (kvs : List (Key × V)) | dT (kvs : List (List Key × V))
  /-- a set of ints: its members, its size -/
  | set (S : Int → Bool) (n : Nat)
  /-- an instance of the class at C, its dict at dx, its attributes -/
  | ins (C dx : Addr) (fs : List (Str × V))
  /-- the dict of the instance at x -/
  | own (x : Addr)
  /-- the dict of an exception -/
  | xd (fs : List (Str × V))
  /-- a bound method, f of x -/
  | met (f x : Addr)
  /-- a range object lo, lo + 1, .. below hi -/
  | rng (lo hi : Int)
  /-- a thing that is known to the object (the script; a dict while a loop walks it): read, never written while it is so -/
  | frz (o : Obj) (u : HO)
  /-- a code object's table -/
  | tbl (ps : Array Value)
  /-- any other thing, by what is true of its one object (a def of one's own: SetO a S n := HO.ext fun h => ..) -/
  | ext (φ : Heap → Prop)

abbrev Hp := Addr → Option HO
def upd (H : Hp) (a : Addr) (o : HO) : Hp := fun b => if b = a then some o else H b
theorem upd_same {H : Hp} {a : Addr} {o : HO} : upd H a o a = some o := by unfold upd; rw [if_pos rfl]
theorem upd_ne {H : Hp} {a b : Addr} {o : HO} (h : b ≠ a) : upd H a o b = H b := by unfold upd; rw [if_neg h]
/-- two objects of different content stand apart -/
theorem ne_of {H : Hp} {a b : Addr} {o u : HO} (h : H a = some o) (h' : H b = some u) (d : o ≠ u) : a ≠ b := by
  intro e; subst e; rw [h] at h'; exact d (Option.some.inj h')
theorem ne_of_none {H : Hp} {a b : Addr} {o : HO} (h : H a = some o) (h' : H b = none) : a ≠ b := by
  intro e; subst e; rw [h] at h'; cases h'

section
variable (P : Program) (w : World)
def ObjOk (H : Hp) (h : Heap) (a : Addr) : HO → Prop
  | .lst xs => xs.length ≤ sizeLine ∧ ∃ (its : List Value) (n : Nat), Vals xs its ∧ h.get? a = some { cls := .type "list", data := .seq its.toArray n }
  | .tup xs => xs.length ≤ sizeLine ∧ ∃ its : List Value, Vals xs its ∧ IsTup h a its.toArray
  | .dK kvs => kvs.length ≤ sizeLine ∧ (a == sysModules) = false ∧ ∃ vs, KV kvs vs ∧ h.DictOf (mixKind P w) a vs
  | .dT kvs => kvs.length ≤ sizeLine ∧ (a == sysModules) = false ∧ ∃ xs : List (List Key × Addr × Value),
      Paired (fun (p : List Key × V) (q : List Key × Addr × Value) => p.1 = q.1 ∧ H q.2.1 = some (.tup (p.1.map kV)) ∧ RelV p.2 q.2.2) kvs xs ∧
      ∃ o es ep, h.get? a = some o ∧ o.ExactDict ∧ o.data = .dict es ep ∧ es.toList = xs.map (entryOfKey (tupleKind (mixKind P w))) ∧ (xs.map (·.1)).Nodup
  | .set S n => h.SetOf (intKind P w) a S n
  | .ins C dx fs => H dx = some (.own a) ∧ fs.length ≤ 1000 ∧ dx ≠ a ∧ h.get? a = some (PySem.W.instObj C dx) ∧
      ∃ mA, h.Ns1 dx mA ∧ (∀ f, RelO (fs.lookup f) (mA f)) ∧ PySem.Within mA (fs.map (·.1))
  | .own _ => ∃ o, h.get? a = some o
  | .xd fs => ∃ mA, h.Ns1 a mA ∧ ∀ f, RelO (fs.lookup f) (mA f)
  | .rng lo hi => ∃ t u v, h.get? a = some { cls := .type "range", data := .fields #[.int lo t, .int hi u, .int 1 v] }
  | .frz o u => h.get? a = some o ∧ ObjOk H h a u
  | .tbl ps => h.get? a = some { cls := .none, data := .fields ps }
  | .met f x => h.get? a = some (PySem.W.methodObj (.ref f) (.ref x))
  | .ext φ => φ h ∧ (∃ o, h.get? a = some o) ∧ ∀ h1 h2 : Heap, φ h1 → (∀ o, h1.get? a = some o → h2.get? a = some o) → φ h2
/-- the abstract heap is held -/
def HOk (H : Hp) (h : Heap) : Prop := ∀ a o, H a = some o → ObjOk P w H h a o
end

section
variable {P : Program} {w : World} {H H' : Hp} {h h' : Heap} {a : Addr} {o : HO}
theorem ObjOk.lt (x : ObjOk P w H h a o) : a < h.objs.size := by
  cases o with
  | lst xs => obtain ⟨_, _, _, _, e⟩ := x; exact Heap.lt_size e
  | tup xs => obtain ⟨_, _, _, p⟩ := x; exact p.lt
  | dK kvs => obtain ⟨_, _, _, _, o, _, _, e, _⟩ := x; exact Heap.lt_size e
  | dT kvs => obtain ⟨_, _, _, _, o, _, _, e, _⟩ := x; exact Heap.lt_size e
  | set S n => obtain ⟨o, _, _, _, e, _⟩ := x; exact Heap.lt_size e
  | ins C dx fs => obtain ⟨_, _, _, e, _⟩ := x; exact Heap.lt_size e
  | own y => obtain ⟨_, e⟩ := x; exact Heap.lt_size e
  | xd fs => obtain ⟨_, ⟨_, _, _, e, _⟩, _⟩ := x; exact Heap.lt_size e
  | rng lo hi => obtain ⟨_, _, _, e⟩ := x; exact Heap.lt_size e
  | frz ob u => obtain ⟨e, _⟩ := x; exact Heap.lt_size e
  | tbl ps => exact Heap.lt_size (show h.get? a = some _ from x)
  | met f y => exact Heap.lt_size (show h.get? a = some _ from x)
  | ext φ => obtain ⟨_, ⟨_, e⟩, _⟩ := x; exact Heap.lt_size e
theorem Paired.mapP {α β : Type} {F G : α → β → Prop} : ∀ {l₁ : List α} {l₂ : List β}, Paired F l₁ l₂ → (∀ a b, F a b → G a b) → Paired G l₁ l₂
  | _, _, .nil, _ => .nil
  | _, _, .cons r t, f => .cons (f _ _ r) (Paired.mapP t f)
/-- what an object's description leans on: its own object, its own dict, the tuples -/
theorem ObjOk.stay (x : ObjOk P w H h a o) (k : ∀ b u, (b = a ∨ H b = some (.own a)) → h.get? b = some u → h'.get? b = some u)
    (ho : ∀ b, H b = some (.own a) → H' b = some (.own a)) (ht : ∀ b xs, H b = some (.tup xs) → H' b = some (.tup xs)) : ObjOk P w H' h' a o := by
  induction o with
  | lst xs => obtain ⟨z, its, n, r, e⟩ := x; exact ⟨z, its, n, r, k _ _ (.inl rfl) e⟩
  | tup xs => obtain ⟨z, its, r, ob, e, c⟩ := x; exact ⟨z, its, r, ob, k _ _ (.inl rfl) e, c⟩
  | dK kvs => obtain ⟨z, y, vs, r, ob, es, ep, e, c⟩ := x; exact ⟨z, y, vs, r, ob, es, ep, k _ _ (.inl rfl) e, c⟩
  | dT kvs =>
    obtain ⟨z, y, xs, r, ob, es, ep, e, c⟩ := x
    exact ⟨z, y, xs, Paired.mapP r fun p q z => ⟨z.1, ht _ _ z.2.1, z.2.2⟩, ob, es, ep, k _ _ (.inl rfl) e, c⟩
  | set S n => obtain ⟨ob, es, ep, t, e, c⟩ := x; exact ⟨ob, es, ep, t, k _ _ (.inl rfl) e, c⟩
  | ins C dx fs =>
    obtain ⟨d, z, ne, e, mA, ⟨od, es, ep, e2, c⟩, r⟩ := x
    exact ⟨ho _ d, z, ne, k _ _ (.inl rfl) e, mA, ⟨od, es, ep, k _ _ (.inr d) e2, c⟩, r⟩
  | own y => obtain ⟨ob, e⟩ := x; exact ⟨ob, k _ _ (.inl rfl) e⟩
  | xd fs => obtain ⟨mA, ⟨od, es, ep, e, c⟩, r⟩ := x; exact ⟨mA, ⟨od, es, ep, k _ _ (.inl rfl) e, c⟩, r⟩
  | rng lo hi => obtain ⟨t, u, v, e⟩ := x; exact ⟨t, u, v, k _ _ (.inl rfl) e⟩
  | frz ob u ih => obtain ⟨e, q⟩ := x; exact ⟨k _ _ (.inl rfl) e, ih q⟩
  | tbl ps =>
    have e : h.get? a = some { cls := .none, data := .fields ps } := x
    show h'.get? a = some { cls := .none, data := .fields ps }
    exact k a _ (.inl rfl) e
  | met f y =>
    have e : h.get? a = some (PySem.W.methodObj (.ref f) (.ref y)) := x
    show h'.get? a = some (PySem.W.methodObj (.ref f) (.ref y))
    exact k a _ (.inl rfl) e
  | ext φ => obtain ⟨p, ⟨o, e⟩, st⟩ := x; exact ⟨st _ _ p fun o q => k _ _ (.inl rfl) q, ⟨o, k _ _ (.inl rfl) e⟩, st⟩
theorem HOk.lt (x : HOk P w H h) (e : H a = some o) : a < h.objs.size := (x a o e).lt
theorem HOk.fresh (x : HOk P w H h) (e : h.objs.size ≤ a) : H a = none := by
  cases q : H a with
  | none => rfl
  | some u => exact absurd (Nat.lt_of_lt_of_le (x.lt q) e) (Nat.lt_irrefl _)
/-- every object of the heap is kept -/
theorem HOk.kept (x : HOk P w H h) (k : ∀ b u, h.get? b = some u → h'.get? b = some u) : HOk P w H h' := fun a o e =>
  (x a o e).stay (fun b u _ q => k b u q) (fun _ q => q) fun _ _ q => q
/-- a new object is laid and tracked -/
theorem HOk.laid (x : HOk P w H h) (k : ∀ b u, h.get? b = some u → h'.get? b = some u) (hp : h.objs.size ≤ a) (new : ObjOk P w (upd H a o) h' a o) : HOk P w (upd H a o) h' := fun b u e => by
  have hn := x.fresh hp
  by_cases hb : b = a
  · subst hb; rw [upd_same] at e; cases e; exact new
  · rw [upd_ne hb] at e
    exact (x b u e).stay (fun c v _ q => k c v q) (fun c q => by rw [upd_ne (ne_of_none q hn)]; exact q) fun c xs q => by rw [upd_ne (ne_of_none q hn)]; exact q
end

/-- what may be read as u: it is u, or a known u -/
def Rd (H : Hp) (a : Addr) (u : HO) : Prop := H a = some u ∨ ∃ o, H a = some (.frz o u)
theorem Rd.of {H : Hp} {a : Addr} {u : HO} (h : H a = some u) : Rd H a u := .inl h
theorem Rd.ok {P : Program} {w : World} {H : Hp} {h : Heap} {a : Addr} {u : HO} (r : Rd H a u) (x : HOk P w H h) : ObjOk P w H h a u := by
  rcases r with r | ⟨o, r⟩
  · exact x a u r
  · obtain ⟨_, q⟩ := x a _ r
    exact q
/-- what may be written -/
def Mut : Option HO → Prop
  | some (.lst _) => True
  | some (.dK _) => True
  | some (.dT _) => True
  | some (.set _ _) => True
  | some (.ins _ _ _) => True
  | some (.ext _) => True
  | _ => False
section
variable {P : Program} {w : World} {H : Hp} {h h' : Heap} {x e : Addr} {o' : HO}
/-- the object at e is changed: x itself, or the dict of the instance x -/
theorem HOk.write (ok : HOk P w H h) (mu : Mut (H x)) (he : e = x ∨ H e = some (.own x)) (k : ∀ b u, b ≠ e → h.get? b = some u → h'.get? b = some u) (heo : ∃ u, h'.get? e = some u)
    (new : ObjOk P w (upd H x o') h' x o') : HOk P w (upd H x o') h' := fun b u q => by
  have nown : ∀ c y, H c = some (.own y) → c ≠ x := fun c y r z => by subst z; rw [r] at mu; exact mu
  have ntup : ∀ c xs, H c = some (.tup xs) → c ≠ x := fun c xs r z => by subst z; rw [r] at mu; exact mu
  by_cases hb : b = x
  · subst hb; rw [upd_same] at q; cases q; exact new
  · rw [upd_ne hb] at q
    by_cases hbe : b = e
    · have q' : H b = some (.own x) := by
        rcases he with z | z
        · exact absurd (hbe.trans z) hb
        · rw [hbe]; exact z
      rw [q] at q'; cases q'
      obtain ⟨v, hv⟩ := heo
      exact ⟨v, by rw [hbe]; exact hv⟩
    · refine (ok b u q).stay (fun c v hc r => k c v ?_ r) (fun c r => by rw [upd_ne (nown c b r)]; exact r) fun c xs r => by rw [upd_ne (ntup c xs r)]; exact r
      rcases hc with rfl | hc
      · exact hbe
      · rintro rfl
        rcases he with z | z
        · exact nown c b hc z
        · rw [hc] at z; cases z; exact hb rfl
end

/-! ### kept unless tracked; of the frames at fs (the callers') the slots may change (an exception that passes writes there); of the records at ex (iterators) nothing is said -/
structure Un (fs ex : List Addr) (H H' : Hp) (h h' : Heap) : Prop where
  keep : ∀ b o, h.get? b = some o → H b = none → b ∉ fs → b ∉ ex → h'.get? b = some o
  slot : ∀ b o, h.get? b = some o → H b = none → b ∈ fs → b ∉ ex → ∃ sl, h'.get? b = some { o with slots := sl }
  free : ∀ b o, h.get? b = some o → H b = none → b ∉ ex → H' b = none
  there : ∀ b o, h.get? b = some o → b ∉ ex → ∃ o', h'.get? b = some o'
  tups : ∀ b xs, H b = some (.tup xs) → H' b = some (.tup xs)
  frzs : ∀ b o u, H b = some (.frz o u) → H' b = some (.frz o u)
  tbls : ∀ b ps, H b = some (.tbl ps) → ∃ more, H' b = some (.tbl (ps ++ more))
section
variable {fs fs' ex ex' : List Addr} {H H1 H2 : Hp} {h h1 h2 h' : Heap} {a x e : Addr} {o : HO}
theorem Un.any (u : Un fs ex H H1 h h1) {b : Addr} {ob : Obj} (q : h.get? b = some ob) (n : H b = none) (hx : b ∉ ex) : ∃ sl, h1.get? b = some { ob with slots := sl } := by
  by_cases hb : b ∈ fs
  · exact u.slot b ob q n hb hx
  · exact ⟨ob.slots, u.keep b ob q n hb hx⟩
theorem Un.trans (a : Un fs ex H H1 h h1) (b : Un fs ex H1 H2 h1 h2) : Un fs ex H H2 h h2 where
  keep := fun c ob q n hc hx => b.keep c ob (a.keep c ob q n hc hx) (a.free c ob q n hx) hc hx
  slot := fun c ob q n hc hx => by
    obtain ⟨sl, e1⟩ := a.slot c ob q n hc hx
    obtain ⟨sl', e2⟩ := b.slot c _ e1 (a.free c ob q n hx) hc hx
    exact ⟨sl', e2⟩
  free := fun c ob q n hx => by
    obtain ⟨o', e1⟩ := a.there c ob q hx
    exact b.free c o' e1 (a.free c ob q n hx) hx
  there := fun c ob q hx => by
    obtain ⟨o', e1⟩ := a.there c ob q hx
    exact b.there c o' e1 hx
  tups := fun c xs q => b.tups c xs (a.tups c xs q)
  frzs := fun c ob xs q => b.frzs c ob xs (a.frzs c ob xs q)
  tbls := fun c ps q => by
    obtain ⟨m1, e1⟩ := a.tbls c ps q
    obtain ⟨m2, e2⟩ := b.tbls c _ e1
    exact ⟨m1 ++ m2, by rw [e2, Array.append_assoc]⟩
theorem Un.kept (k : ∀ b u, h.get? b = some u → h'.get? b = some u) : Un fs ex H H h h' :=
  ⟨fun b ob q _ _ _ => k b ob q, fun b ob q _ _ _ => ⟨ob.slots, k b ob q⟩, fun _ _ _ n _ => n, fun b ob q _ => ⟨ob, k b ob q⟩, fun _ _ q => q, fun _ _ _ q => q, fun _ ps q => ⟨#[], by rw [q]; simp⟩⟩
theorem Un.refl : Un fs ex H H h h := Un.kept fun _ _ q => q
theorem Un.laid (k : ∀ b u, h.get? b = some u → h'.get? b = some u) (hp : h.objs.size ≤ a) (hn : H a = none) : Un fs ex H (upd H a o) h h' where
  keep := fun b u q _ _ _ => k b u q
  slot := fun b u q _ _ _ => ⟨u.slots, k b u q⟩
  free := fun b u q n _ => by rw [upd_ne (Nat.ne_of_lt (Nat.lt_of_lt_of_le (Heap.lt_size q) hp))]; exact n
  there := fun b u q _ => ⟨u, k b u q⟩
  tups := fun b xs q => by rw [upd_ne (ne_of_none q hn)]; exact q
  frzs := fun b u xs q => by rw [upd_ne (ne_of_none q hn)]; exact q
  tbls := fun b ps q => ⟨#[], by rw [upd_ne (ne_of_none q hn), q]; simp⟩
theorem Un.write (mu : Mut (H x)) (he : e = x ∨ H e = some (.own x)) (k : ∀ b u, b ≠ e → h.get? b = some u → h'.get? b = some u) (heo : ∃ u, h'.get? e = some u) : Un fs ex H (upd H x o) h h' := by
  have hx : ∀ b, H b = none → b ≠ x := fun b n z => by subst z; rw [n] at mu; exact mu
  have hb : ∀ b, H b = none → b ≠ e := fun b n z => by
    subst z
    rcases he with r | r
    · exact hx b n r
    · rw [n] at r; cases r
  have hm : ∀ b u, H b = some u → ¬ Mut (some u) → b ≠ x := fun b u q nm z => by subst z; rw [q] at mu; exact nm mu
  refine ⟨fun b u q n _ _ => k b u (hb b n) q, fun b u q n _ _ => ⟨u.slots, k b u (hb b n) q⟩, fun b u q n _ => by rw [upd_ne (hx b n)]; exact n, fun b u q _ => ?_,
    fun b xs q => by rw [upd_ne (hm b _ q fun z => z)]; exact q, fun b u xs q => by rw [upd_ne (hm b _ q fun z => z)]; exact q, fun b ps q => ⟨#[], by rw [upd_ne (hm b _ q fun z => z), q]; simp⟩⟩
  by_cases hbe : b = e
  · subst hbe; exact heo
  · exact ⟨u, k b u hbe q⟩
theorem Un.mono (u : Un fs ex H H1 h h1) (hs : ∀ b ∈ fs, b ∈ fs') (hx : ∀ b ∈ ex, b ∈ ex') : Un fs' ex' H H1 h h1 :=
  ⟨fun b ob q n hb he => u.keep b ob q n (fun z => hb (hs b z)) fun z => he (hx b z), fun _ _ q n _ he => u.any q n fun z => he (hx _ z), fun b ob q n he => u.free b ob q n fun z => he (hx b z), fun b ob q he => u.there b ob q fun z => he (hx b z), u.tups, u.frzs, u.tbls⟩
end

/-! ### the heap without what is tracked -/
def trk (h : Heap) (H : Hp) : List Addr := (List.range h.objs.size).filter fun a => (H a).isSome
def hidT (h : Heap) (H : Hp) : Heap := PySem.W.hideAll h (trk h H)
theorem hidT_size (h : Heap) (H : Hp) : (hidT h H).objs.size = h.objs.size := PySem.W.hideAll_size _ _
theorem hidT_get {h : Heap} {H : Hp} {b : Addr} {o : Obj} (e : h.get? b = some o) (n : H b = none) : (hidT h H).get? b = some o :=
  PySem.W.hideAll_get _ e fun hm => by
    have q : (H b).isSome = true := (List.mem_filter.mp hm).2
    rw [n] at q; simp at q
theorem of_hidT {h : Heap} {H : Hp} {b : Addr} {o : Obj} (e : (hidT h H).get? b = some o) : h.get? b = some o ∧ H b = none := by
  have e' : h.get? b = some o := PySem.W.of_hideAll (trk h H) e
  refine ⟨e', ?_⟩
  cases q : H b with
  | none => rfl
  | some x =>
    have hm : b ∈ trk h H := List.mem_filter.mpr ⟨List.mem_range.mpr (Heap.lt_size e'), by simp [q]⟩
    have z : (hidT h H).get? b = none := PySem.W.hideAll_none (trk h H) hm
    rw [z] at e; cases e

/-! ### OpenK's ledger, filled with every new object but one -/
def allNews (g h : Heap) (L : Addr) : List (Addr × Obj) := (List.range h.objs.size).filterMap fun a => if a = L ∨ (g.get? a).isSome = true then none else (h.get? a).map fun o => (a, o)
def rest (g h : Heap) (L d : Addr) : List (Addr × Obj) := (allNews g h L).filter fun p => decide (p.1 ≠ d)
end L2

namespace L2
open PySem PySem.Spec PyProof.Rows

/-- the module's facts, over the base: the heap at the law's entry without what is tracked there -/
structure Mod (K : PySem.W.Frag) (mg : Str → Option Value) (base : Heap) : Prop where
  kin : K.In base
  glob : base.Ns mainGlobals mg
  blt : ∃ mb, base.Ns builtinsNs mb ∧ ∀ x : Str, x ≠ "__name__" → mb x = bootBuiltins x
  nolimit : base.NoLimit

/-- the context: a def's body (or a comprehension's block) running. base: fixed through the whole law; s₀, H₀: the entry; outer: the frames whose slots others may change (a def's callers); stack: all frames that run;
   ex: iterators that were made ahead of the entry and are walked here (a comprehension's); fn: the names whose cells were made at the entry (a def: all; a comprehension's block: its own); calm: not within an except suite; pn: pins that every state bears; xe: what is wanted of an exception that leaves the code -/
structure Cx where
  prog : Program
  w : World
  K : PySem.W.Frag
  mg : Str → Option Value
  base : Heap
  A : Around
  N : List Str
  s₀ : Shared
  H₀ : Hp
  env : Env
  outer : List Env
  stack : List Env
  ex : List Addr
  fn : Str → Bool
  calm : Bool
  pn : List (Addr × Obj)
  xe : Value → Shared → Prop
/-- the callers' frames -/
def frs (l : List Env) : List Addr := l.filterMap (·.frame)
abbrev Cx.fs (X : Cx) : List Addr := frs X.outer

def Vis (sc : Scope) (x : Str) : Prop := sc.names.lookup x = some .local ∨ sc.names.lookup x = some .cell ∨ sc.names.lookup x = some .free
def Loc (sc : Scope) (x : Str) : Prop := sc.names.lookup x = some .local ∨ sc.names.lookup x = some .cell
def Look (env : Env) (h : Heap) (m : Str → Option Value) (x : Str) (u : Value) : Prop :=
  (env.kindOf x = some .local ∧ m x = some u) ∨ ((env.kindOf x = some .cell ∨ env.kindOf x = some .free) ∧ ∃ c, env.cells.lookup x = some c ∧ h.IsCell c (some u))

structure Cx.Ok (X : Cx) : Prop where
  mod : Mod X.K X.mg X.base
  kind : X.env.scope.kind = .function
  glob : X.env.globals = mainGlobals
  blt : X.env.builtins = builtinsNs
  above : X.s₀.heap.objs.size ≤ X.env.locals
  inj : ∀ x y c, X.env.cells.lookup x = some c → X.env.cells.lookup y = some c → x = y
  has : ∀ x, (X.env.kindOf x = some .cell ∨ X.env.kindOf x = some .free) → ∃ c, X.env.cells.lookup x = some c
  cab : ∀ x c, X.fn x = true → X.env.cells.lookup x = some c → X.s₀.heap.objs.size ≤ c
  hd : X.calm = true → X.A.handled = none
  frames : X.A.frames = some X.stack
  stk : X.stack = X.outer ∨ (X.stack = X.env :: X.outer ∧ X.env.frame = some X.env.locals)
  exf : ∀ b ∈ X.ex, b ≠ X.env.locals ∧ ∀ x c, X.env.cells.lookup x = some c → c ≠ b
  bs : ∀ b o, X.base.get? b = some o → X.s₀.heap.get? b = some o ∧ X.H₀ b = none
  bsz : X.base.objs.size ≤ X.s₀.heap.objs.size
  noex : ∀ b o, X.base.get? b = some o → b ∉ X.ex
  exfs : ∀ b ∈ X.ex, b ∉ X.fs
  funs : X.s₀.heap.FunFrames X.base X.outer
  frf : ∀ b ∈ X.fs, X.H₀ b = none

structure Inv (X : Cx) (pins : List (Addr × Obj)) (σ : List (Option V)) (H : Hp) (s : Shared) : Prop where
  ok : X.Ok
  os : s.os = X.s₀.os
  bare : AllBare s.gens
  base : Un X.fs X.ex X.H₀ H X.s₀.heap s.heap
  loc : ∃ m, s.heap.Ns X.env.locals m ∧ ∀ (i : Nat) (x : Str) (v : V), X.N[i]? = some x → σ[i]? = some (some v) → Vis X.env.scope x → ∃ u, RelV v u ∧ Look X.env s.heap m x u
  cell : ∀ x c, X.env.cells.lookup x = some c → ∃ v, s.heap.IsCell c v
  free : H X.env.locals = none
  freeC : ∀ x c, X.env.cells.lookup x = some c → H c = none
  pin : ∀ p ∈ X.pn ++ pins, s.heap.get? p.1 = some p.2 ∧ H p.1 = none ∧ p.1 ≠ X.env.locals ∧ p.1 ∉ X.fs ∧ ∀ v, p.2.data ≠ .cell v
  hok : HOk X.prog X.w H s.heap
  len : σ.length = X.N.length

section
variable {X : Cx} {pins : List (Addr × Obj)} {σ : List (Option V)} {H H' : Hp} {s : Shared} {h' : Heap}

theorem Cx.Ok.nofr (ok : X.Ok) {b : Addr} {o : Obj} (e : X.base.get? b = some o) : b ∉ X.fs := fun hb => by
  have := (ok.funs.mem hb).1
  rw [e] at this; cases this
theorem Inv.bs (I : Inv X pins σ H s) : ∀ b o, X.base.get? b = some o → s.heap.get? b = some o ∧ H b = none := fun b o e =>
  ⟨I.base.keep b o (I.ok.bs b o e).1 (I.ok.bs b o e).2 (I.ok.nofr e) (I.ok.noex b o e), I.base.free b o (I.ok.bs b o e).1 (I.ok.bs b o e).2 (I.ok.noex b o e)⟩
theorem Inv.bk (I : Inv X pins σ H s) : ∀ b o, X.base.get? b = some o → s.heap.get? b = some o := fun b o e => (I.bs b o e).1
theorem Inv.mod (I : Inv X pins σ H s) : Mod X.K X.mg X.base := I.ok.mod
theorem Inv.kIn (I : Inv X pins σ H s) : X.K.In s.heap := I.ok.mod.kin.keeps I.bk
theorem Inv.nolimit (I : Inv X pins σ H s) : s.heap.NoLimit := I.ok.mod.nolimit.keeps I.bk
theorem Inv.lt (I : Inv X pins σ H s) : X.env.locals < s.heap.objs.size := let ⟨_, hn, _⟩ := I.loc; hn.lt
theorem Inv.sz (I : Inv X pins σ H s) : X.s₀.heap.objs.size ≤ s.heap.objs.size := Nat.le_trans I.ok.above (Nat.le_of_lt I.lt)
theorem Inv.nofs (I : Inv X pins σ H s) {a : Addr} (h : s.heap.objs.size ≤ a) : a ∉ X.fs := fun hb => by
  obtain ⟨_, o, ho, _⟩ := I.ok.funs.mem hb
  exact absurd (Nat.lt_of_lt_of_le (Heap.lt_size ho) (Nat.le_trans I.sz h)) (Nat.lt_irrefl _)
theorem Inv.cne (I : Inv X pins σ H s) : ∀ x c, X.env.cells.lookup x = some c → c ≠ X.env.locals := fun x c e z => by
  obtain ⟨v, o, ho, hd⟩ := I.cell x c e
  obtain ⟨m, ⟨o', es, ep, ho', hd', _⟩, _⟩ := I.loc
  rw [z, ho'] at ho; cases ho; rw [hd'] at hd; cases hd
theorem Inv.funs (I : Inv X pins σ H s) : s.heap.FunFrames X.base X.outer := by
  have all : ∀ (l : List Env), (∀ b ∈ frs l, b ∈ X.fs) → X.s₀.heap.FunFrames X.base l → s.heap.FunFrames X.base l := by
    intro l
    induction l with
    | nil => intro _ _; trivial
    | cons env r ih =>
      intro hs hl
      obtain ⟨hk, ⟨L, o, hf, hn, ho, hd⟩, hr⟩ := hl
      have hL : L ∈ X.fs := hs L (by unfold frs; rw [List.filterMap_cons, hf]; exact List.mem_cons_self)
      obtain ⟨sl, e⟩ := I.base.slot L o ho (I.ok.frf L hL) hL fun z => I.ok.exfs L z hL
      exact ⟨hk, ⟨L, _, hf, hn, e, hd⟩, ih (fun b hb => hs b (by unfold frs; rw [List.filterMap_cons, hf]; exact List.mem_cons_of_mem _ hb)) hr⟩
  exact all X.outer (fun _ hb => hb) I.ok.funs

/-- the frames that run, for a call -/
theorem Inv.stack (I : Inv X pins σ H s) : s.heap.FunFrames X.base X.stack := by
  rcases I.ok.stk with e | ⟨e, hf⟩
  · rw [e]; exact I.funs
  · rw [e]
    obtain ⟨m, hn, _⟩ := I.loc
    refine .cons (by rw [I.ok.kind]; decide) hf hn ?_ I.funs
    exact Heap.get?_none_of_le (Nat.le_trans I.ok.bsz I.ok.above)
theorem Inv.stkSub (I : Inv X pins σ H s) : ∀ b ∈ frs X.stack, b ∈ X.env.locals :: X.fs := fun b hb => by
  rcases I.ok.stk with e | ⟨e, hf⟩
  · rw [e] at hb; exact List.mem_cons_of_mem _ hb
  · rw [e] at hb
    unfold frs at hb
    rw [List.filterMap_cons, hf] at hb
    exact hb
theorem Inv.stkFree (I : Inv X pins σ H s) : ∀ b ∈ frs X.stack, H b = none := fun b hb => by
  rcases List.mem_cons.mp (I.stkSub b hb) with e | hb
  · rw [e]; exact I.free
  · obtain ⟨_, o, ho, _⟩ := I.ok.funs.mem hb
    exact I.base.free b o ho (I.ok.frf b hb) fun z => I.ok.exfs b z hb

/-- THE STEP: the untracked objects but the frame and the records at ch are kept (the callers' frames up to slots), the frame's map is kept, the new abstract heap is held -/
theorem Inv.step {g' : Array GenState} {t' : Nat} {d' : Drawn} {ch : List Addr} (I : Inv X pins σ H s)
    (hch : ∀ b ∈ ch, (b ∈ X.ex ∨ X.s₀.heap.objs.size ≤ b) ∧ b ≠ X.env.locals ∧ (∀ x c, X.env.cells.lookup x = some c → c ≠ b) ∧ ∀ p ∈ X.pn ++ pins, p.1 ≠ b)
    (keep : ∀ b o, b ≠ X.env.locals → b ∉ X.fs → b ∉ ch → s.heap.get? b = some o → H b = none → h'.get? b = some o)
    (slot : ∀ b o, b ≠ X.env.locals → b ∈ X.fs → b ∉ ch → s.heap.get? b = some o → H b = none → ∃ sl, h'.get? b = some { o with slots := sl }) (free : ∀ b o, b ∉ ch → s.heap.get? b = some o → H b = none → H' b = none)
    (there : ∀ b o, b ∉ ch → s.heap.get? b = some o → ∃ o', h'.get? b = some o')
    (tups : ∀ b xs, H b = some (.tup xs) → H' b = some (.tup xs)) (frzs : ∀ b o u, H b = some (.frz o u) → H' b = some (.frz o u)) (tbls : ∀ b ps, H b = some (.tbl ps) → ∃ more, H' b = some (.tbl (ps ++ more)))
    (ns : ∀ m, s.heap.Ns X.env.locals m → h'.Ns X.env.locals m) (hok : HOk X.prog X.w H' h') (hg : AllBare g') :
    Inv X pins σ H' { s with heap := h', gens := g', drawn := d', toks := t' } := by
  have neL : ∀ b o, X.s₀.heap.get? b = some o → b ≠ X.env.locals := fun b o e => Nat.ne_of_lt (Nat.lt_of_lt_of_le (Heap.lt_size e) I.ok.above)
  have neC : ∀ b o, X.s₀.heap.get? b = some o → b ∉ X.ex → b ∉ ch := fun b o e hx hb => by
    rcases (hch b hb).1 with z | z
    · exact hx z
    · exact absurd (Nat.lt_of_lt_of_le (Heap.lt_size e) z) (Nat.lt_irrefl _)
  have cellK : ∀ x c, X.env.cells.lookup x = some c → ∀ v, s.heap.IsCell c v → h'.IsCell c v := fun x c e v ⟨o, ho, hd⟩ => by
    have nch : c ∉ ch := fun z => (hch c z).2.2.1 x c e rfl
    by_cases hc : c ∈ X.fs
    · obtain ⟨sl, q⟩ := slot c o (I.cne x c e) hc nch ho (I.freeC x c e)
      exact ⟨_, q, hd⟩
    · exact ⟨o, keep c o (I.cne x c e) hc nch ho (I.freeC x c e), hd⟩
  refine ⟨I.ok, I.os, hg, ⟨fun b o e n hb hx => ?_, fun b o e n hb hx => ?_, fun b o e n hx => ?_, fun b o e hx => ?_, fun b xs e => tups b xs (I.base.tups b xs e), fun b o xs e => frzs b o xs (I.base.frzs b o xs e), fun b ps e => ?_⟩, ?_, fun x c e => ?_, ?_, fun x c e => ?_, fun p hp => ?_, hok, I.len⟩
  · exact keep b o (neL b o e) hb (neC b o e hx) (I.base.keep b o e n hb hx) (I.base.free b o e n hx)
  · obtain ⟨sl, e1⟩ := I.base.slot b o e n hb hx
    obtain ⟨sl', e2⟩ := slot b _ (neL b o e) hb (neC b o e hx) e1 (I.base.free b o e n hx)
    exact ⟨sl', e2⟩
  · obtain ⟨o', e1⟩ := I.base.there b o e hx
    exact free b o' (neC b o e hx) e1 (I.base.free b o e n hx)
  · obtain ⟨o', e1⟩ := I.base.there b o e hx
    exact there b o' (neC b o e hx) e1
  · obtain ⟨m1, e1⟩ := I.base.tbls b ps e
    obtain ⟨m2, e2⟩ := tbls b _ e1
    exact ⟨m1 ++ m2, by rw [e2, Array.append_assoc]⟩
  · obtain ⟨m, hn, hl⟩ := I.loc
    refine ⟨m, ns m hn, fun i x v e1 e2 e3 => ?_⟩
    obtain ⟨u, r, l⟩ := hl i x v e1 e2 e3
    refine ⟨u, r, ?_⟩
    rcases l with l | ⟨k, c, e, z⟩
    · exact .inl l
    · exact .inr ⟨k, c, e, cellK x c e _ z⟩
  · obtain ⟨v, z⟩ := I.cell x c e
    exact ⟨v, cellK x c e v z⟩
  · obtain ⟨m, ⟨o, _, _, ho, _⟩, _⟩ := I.loc
    exact free _ o (fun z => (hch _ z).2.1 rfl) ho I.free
  · obtain ⟨v, o, ho, hd⟩ := I.cell x c e
    exact free c o (fun z => (hch c z).2.2.1 x c e rfl) ho (I.freeC x c e)
  · obtain ⟨e, n, ne, nf, d⟩ := I.pin p hp
    have nch : p.1 ∉ ch := fun z => (hch p.1 z).2.2.2 p hp rfl
    exact ⟨keep p.1 p.2 ne nf nch e n, free p.1 p.2 nch e n, ne, nf, d⟩
/-- .. where the frame's own object is kept too -/
theorem Inv.un {t' : Nat} (I : Inv X pins σ H s) (u : Un X.fs [] H H' s.heap h') (hok : HOk X.prog X.w H' h') : Inv X pins σ H' { s with heap := h', toks := t' } := by
  obtain ⟨m, ⟨o, es, ep, ho, r⟩, _⟩ := id I.loc
  obtain ⟨sl, hL⟩ := u.any ho I.free (by simp)
  exact I.step (g' := s.gens) (d' := s.drawn) (ch := []) (fun _ z => nomatch z) (fun b o _ hb _ e n => u.keep b o e n hb (by simp)) (fun b o _ hb _ e n => u.slot b o e n hb (by simp)) (fun b o _ e n => u.free b o e n (by simp)) (fun b o _ e => u.there b o e (by simp)) u.tups u.frzs u.tbls (fun m' hm => by
    obtain ⟨o', es', ep', ho', r'⟩ := hm
    rw [ho] at ho'; cases ho'
    exact ⟨_, es', ep', hL, r'⟩) hok I.bare
/-- behind a call (or a comprehension's block): the slots of this frame may have changed too, the records at ch may have turned -/
theorem Inv.call {g' : Array GenState} {t' : Nat} {d' : Drawn} {ch : List Addr} (I : Inv X pins σ H s) (u : Un (frs X.stack) ch H H' s.heap h') (hok : HOk X.prog X.w H' h') (hg : AllBare g')
    (hch : ∀ b ∈ ch, (b ∈ X.ex ∨ X.s₀.heap.objs.size ≤ b) ∧ b ≠ X.env.locals ∧ (∀ x c, X.env.cells.lookup x = some c → c ≠ b) ∧ ∀ p ∈ X.pn ++ pins, p.1 ≠ b) :
    Inv X pins σ H' { s with heap := h', gens := g', drawn := d', toks := t' } := by
  obtain ⟨m, ⟨o, es, ep, ho, r⟩, _⟩ := id I.loc
  obtain ⟨sl, hL⟩ := u.any ho I.free fun z => (hch _ z).2.1 rfl
  exact I.step (ch := ch) hch (fun b o hL hb hc e n => u.keep b o e n (fun z => (List.mem_cons.mp (I.stkSub b z)).elim hL hb) hc) (fun b o _ _ hc e n => u.any e n hc) (fun b o hc e n => u.free b o e n hc) (fun b o hc e => u.there b o e hc) u.tups u.frzs u.tbls (fun m' hm => by
    obtain ⟨o', es', ep', ho', r'⟩ := hm
    rw [ho] at ho'; cases ho'
    exact ⟨_, es', ep', hL, r'⟩) hok hg
/-- an untracked record of ours (an iterator) has turned -/
theorem Inv.turned {t' : Nat} {it : Addr} (I : Inv X pins σ H s) (k : ∀ b o, b ≠ it → s.heap.get? b = some o → h'.get? b = some o) (hn : H it = none) (hL : it ≠ X.env.locals)
    (h1 : it ∈ X.ex ∨ X.s₀.heap.objs.size ≤ it) (h2 : ∀ x c, X.env.cells.lookup x = some c → c ≠ it) (h3 : ∀ p ∈ X.pn ++ pins, p.1 ≠ it) : Inv X pins σ H { s with heap := h', toks := t' } := by
  have nit : ∀ b u, H b = some u → b ≠ it := fun b u e z => by rw [z, hn] at e; cases e
  refine I.step (g' := s.gens) (d' := s.drawn) (ch := [it]) (fun b hb => ?_) (fun b o _ _ hc e _ => k b o (fun z => hc (by simp [z])) e) (fun b o _ _ hc e _ => ⟨o.slots, k b o (fun z => hc (by simp [z])) e⟩) (fun _ _ _ _ n => n)
    (fun b o hc e => ⟨o, k b o (fun z => hc (by simp [z])) e⟩) (fun _ _ e => e) (fun _ _ _ e => e) (fun b ps e => ⟨#[], by rw [e]; simp⟩) (fun m hm => ?_) (fun b u e => ?_) I.bare
  · have e : b = it := by simpa using hb
    subst e
    exact ⟨h1, hL, h2, h3⟩
  · obtain ⟨o, es, ep, ho, r⟩ := hm
    exact ⟨o, es, ep, k _ o (Ne.symm hL) ho, r⟩
  · refine (I.hok b u e).stay (fun c v hc q => k c v ?_ q) (fun _ q => q) fun _ _ q => q
    rcases hc with z | z
    · rw [z]; exact nit b u e
    · exact nit c _ z
theorem Inv.tok (I : Inv X pins σ H s) (t : Nat) : Inv X pins σ H { s with toks := t } := I.un (h' := s.heap) (t' := t) Un.refl I.hok
/-- all objects kept -/
theorem Inv.kept {t' : Nat} (I : Inv X pins σ H s) (k : ∀ b u, s.heap.get? b = some u → h'.get? b = some u) : Inv X pins σ H { s with heap := h', toks := t' } := I.un (Un.kept k) (I.hok.kept k)
/-- a new object laid and tracked -/
theorem Inv.laid {a : Addr} {o : HO} {t' : Nat} (I : Inv X pins σ H s) (k : ∀ b u, s.heap.get? b = some u → h'.get? b = some u) (hp : s.heap.objs.size ≤ a) (new : ObjOk X.prog X.w (upd H a o) h' a o) :
    Inv X pins σ (upd H a o) { s with heap := h', toks := t' } := I.un (Un.laid k hp (I.hok.fresh hp)) (I.hok.laid k hp new)
/-- an object written -/
theorem Inv.write {x e : Addr} {o : HO} {t' : Nat} (I : Inv X pins σ H s) (mu : Mut (H x)) (he : e = x ∨ H e = some (.own x)) (k : ∀ b u, b ≠ e → s.heap.get? b = some u → h'.get? b = some u) (heo : ∃ u, h'.get? e = some u)
    (new : ObjOk X.prog X.w (upd H x o) h' x o) : Inv X pins σ (upd H x o) { s with heap := h', toks := t' } := I.un (Un.write mu he k heo) (I.hok.write mu he k heo new)
theorem Inv.pins_of {pins' : List (Addr × Obj)} (I : Inv X pins σ H s) (h : ∀ p ∈ pins', s.heap.get? p.1 = some p.2 ∧ H p.1 = none ∧ p.1 ≠ X.env.locals ∧ p.1 ∉ X.fs ∧ ∀ v, p.2.data ≠ .cell v) : Inv X pins' σ H s :=
  ⟨I.ok, I.os, I.bare, I.base, I.loc, I.cell, I.free, I.freeC, fun p hp => (List.mem_append.mp hp).elim (fun z => I.pin p (List.mem_append_left _ z)) (h p), I.hok, I.len⟩

theorem nodup_ix {N : List Str} (hN : N.Nodup) {i j : Nat} {x : Str} (a : N[i]? = some x) (b : N[j]? = some x) : i = j := by
  obtain ⟨h1, e1⟩ := List.getElem?_eq_some_iff.mp a
  obtain ⟨h2, e2⟩ := List.getElem?_eq_some_iff.mp b
  exact (List.getElem_inj hN).mp (e1.trans e2.symm)

/-- a name is stored; what changed -/
theorem store_ok2 {M : Model} {A : Around} {E : Value → Shared → Prop} {i : Nat} {x : Str} {v : V} {u : Value} {Q : Unit → Shared → Prop} (I : Inv X pins σ H s) (hN : X.N.Nodup) (hi : X.N[i]? = some x) (hx : Loc X.env.scope x) (r : RelV v u)
    (h : ∀ s', Inv X pins (σ.set i (some v)) H s' → (∃ a, Heap.SameBut a s.heap s'.heap ∧ (a = X.env.locals ∨ X.env.cells.lookup x = some a)) → Q () s') (hf : X.fn x = true ∨ X.env.scope.names.lookup x = some .local := by first | exact .inl rfl | exact .inr rfl | assumption) : wpAny M A (storeName X.env x u) Q E s := by
  obtain ⟨m, hn, hl⟩ := id I.loc
  have hcls : (X.env.scope.kind == .class || (X.env.scope.kind == .module && X.env.locals != X.env.globals)) = false := by rw [I.ok.kind]; rfl
  have hiσ : i < σ.length := by rw [I.len]; exact (List.getElem?_eq_some_iff.mp hi).1
  have cne := I.cne
  have tracked : ∀ {a : Addr} {h' : Heap}, (∃ o, s.heap.get? a = some o ∧ H a = none) → Heap.SameBut a s.heap h' → HOk X.prog X.w H h' := fun {a h'} ha hs b ob e => by
    obtain ⟨_, _, hfree⟩ := ha
    refine (I.hok b ob e).stay (fun c w' hc q => (hs.2 c ?_).trans q) (fun _ q => q) fun _ _ q => q
    rintro rfl
    rcases hc with rfl | hc
    · rw [hfree] at e; cases e
    · rw [hfree] at hc; cases hc
  rcases hx with hk | hk
  · refine wpAny_storeName_local hk hn (fun h' hn' hs => ?_) hcls
    obtain ⟨oL, _, _, hoL, _⟩ := id hn
    refine h _ ⟨I.ok, I.os, I.bare, ⟨fun b o e n hb hx => ?_, fun b o e n hb hx => ?_, I.base.free, fun b o e hx => ?_, I.base.tups, I.base.frzs, I.base.tbls⟩, ⟨_, hn', fun j y v' e1 e2 e3 => ?_⟩, fun y c e => ?_, I.free, I.freeC, fun p hp => ?_, tracked ⟨oL, hoL, I.free⟩ hs, by simpa using I.len⟩ ⟨_, hs, .inl rfl⟩
    · exact (hs.2 b (Nat.ne_of_lt (Nat.lt_of_lt_of_le (Heap.lt_size e) I.ok.above))).trans (I.base.keep b o e n hb hx)
    · obtain ⟨sl, e1⟩ := I.base.slot b o e n hb hx
      exact ⟨sl, (hs.2 b (Nat.ne_of_lt (Nat.lt_of_lt_of_le (Heap.lt_size e) I.ok.above))).trans e1⟩
    · obtain ⟨o', e1⟩ := I.base.there b o e hx
      exact ⟨o', (hs.2 b (Nat.ne_of_lt (Nat.lt_of_lt_of_le (Heap.lt_size e) I.ok.above))).trans e1⟩
    · by_cases hj : j = i
      · subst hj
        rw [hi] at e1; cases e1
        rw [List.getElem?_set_self hiσ] at e2
        cases e2
        exact ⟨u, r, .inl ⟨hk, by simp⟩⟩
      · rw [List.getElem?_set_ne (Ne.symm hj)] at e2
        obtain ⟨u', r', q⟩ := hl j y v' e1 e2 e3
        refine ⟨u', r', ?_⟩
        rcases q with ⟨k, e⟩ | ⟨k, c, e, z⟩
        · refine .inl ⟨k, ?_⟩
          have : y ≠ x := fun e => hj (nodup_ix hN e1 (e ▸ hi))
          simp [this, e]
        · exact .inr ⟨k, c, e, z.sameBut hs (cne y c e)⟩
    · obtain ⟨w', z⟩ := I.cell y c e
      exact ⟨w', z.sameBut hs (cne y c e)⟩
    · obtain ⟨e, n, ne, nf, d⟩ := I.pin p hp
      exact ⟨(hs.2 p.1 ne).trans e, n, ne, nf, d⟩
  · have hfn : X.fn x = true := by
      rcases hf with z | z
      · exact z
      · rw [z] at hk; cases hk
    obtain ⟨c, hc⟩ := I.ok.has x (.inl hk)
    obtain ⟨w', z⟩ := I.cell x c hc
    refine wpAny_storeName_cell I.ok.kind hk hc z (fun h' hc' hs => ?_)
    obtain ⟨oc, hoc, hocd⟩ := id z
    refine h { s with heap := h' } ⟨I.ok, I.os, I.bare, ⟨fun b o e n hb hx => ?_, fun b o e n hb hx => ?_, I.base.free, fun b o e hx => ?_, I.base.tups, I.base.frzs, I.base.tbls⟩, ⟨m, hn.sameBut hs (Ne.symm (cne x c hc)), fun j y v' e1 e2 e3 => ?_⟩, fun y c' e => ?_, I.free, I.freeC, fun p hp => ?_, tracked ⟨oc, hoc, I.freeC x c hc⟩ hs, by simpa using I.len⟩ ⟨c, hs, .inr hc⟩
    · exact (hs.2 b (Nat.ne_of_lt (Nat.lt_of_lt_of_le (Heap.lt_size e) (I.ok.cab x c hfn hc)))).trans (I.base.keep b o e n hb hx)
    · obtain ⟨sl, e1⟩ := I.base.slot b o e n hb hx
      exact ⟨sl, (hs.2 b (Nat.ne_of_lt (Nat.lt_of_lt_of_le (Heap.lt_size e) (I.ok.cab x c hfn hc)))).trans e1⟩
    · obtain ⟨o', e1⟩ := I.base.there b o e hx
      exact ⟨o', (hs.2 b (Nat.ne_of_lt (Nat.lt_of_lt_of_le (Heap.lt_size e) (I.ok.cab x c hfn hc)))).trans e1⟩
    · by_cases hj : j = i
      · subst hj
        rw [hi] at e1; cases e1
        rw [List.getElem?_set_self hiσ] at e2
        cases e2
        exact ⟨u, r, .inr ⟨.inl hk, c, hc, hc'⟩⟩
      · rw [List.getElem?_set_ne (Ne.symm hj)] at e2
        obtain ⟨u', r', q⟩ := hl j y v' e1 e2 e3
        refine ⟨u', r', ?_⟩
        rcases q with q | ⟨k, c', e, z'⟩
        · exact .inl q
        · refine .inr ⟨k, c', e, z'.sameBut hs ?_⟩
          rintro rfl
          exact hj (nodup_ix hN e1 (I.ok.inj _ _ _ e hc ▸ hi))
    · by_cases hcc : c' = c
      · subst hcc; exact ⟨_, hc'⟩
      · obtain ⟨w2, z2⟩ := I.cell y c' e
        exact ⟨w2, z2.sameBut hs hcc⟩
    · obtain ⟨e, n, ne, nf, d⟩ := I.pin p hp
      refine ⟨(hs.2 p.1 ?_).trans e, n, ne, nf, d⟩
      intro q
      rw [q, hoc] at e
      have q' : oc = p.2 := Option.some.inj e
      exact d w' (by rw [← q']; exact hocd)
theorem store_ok {M : Model} {A : Around} {E : Value → Shared → Prop} {i : Nat} {x : Str} {v : V} {u : Value} {Q : Unit → Shared → Prop} (I : Inv X pins σ H s) (hN : X.N.Nodup) (hi : X.N[i]? = some x) (hx : Loc X.env.scope x) (r : RelV v u)
    (h : ∀ s', Inv X pins (σ.set i (some v)) H s' → Q () s') (hf : X.fn x = true ∨ X.env.scope.names.lookup x = some .local := by first | exact .inl rfl | exact .inr rfl | assumption) : wpAny M A (storeName X.env x u) Q E s :=
  store_ok2 I hN hi hx r (fun s' I' _ => h s' I') hf
/-- behind a call or a block, the state as it is -/
theorem Inv.call' {s' : Shared} {ch : List Addr} (I : Inv X pins σ H s) (ho : s'.os = s.os) (u : Un (frs X.stack) ch H H' s.heap s'.heap) (hok : HOk X.prog X.w H' s'.heap) (hg : AllBare s'.gens)
    (hch : ∀ b ∈ ch, (b ∈ X.ex ∨ X.s₀.heap.objs.size ≤ b) ∧ b ≠ X.env.locals ∧ (∀ x c, X.env.cells.lookup x = some c → c ≠ b) ∧ ∀ p ∈ X.pn ++ pins, p.1 ≠ b) : Inv X pins σ H' s' := by
  obtain ⟨h', g', d', t', o'⟩ := s'
  have e : o' = s.os := ho
  subst e
  exact I.call (g' := g') (t' := t') (d' := d') u hok hg hch
end

/-! ### the judgements -/
/-- an exception: its class, its own dict's address (where it has one), the abstract heap behind it -/
abbrev XK := Value → Option Addr → Hp → Prop
abbrev St := List (Option V)
abbrev VK := V → Hp → Prop
/-- an expression's reading; a test's; an argument list's -/
abbrev TE := St → Hp → VK → Prop
abbrev TT := St → Hp → (Bool → Hp → Prop) → Prop
abbrev TA := St → Hp → (List V → Hp → Prop) → Prop
/-- what is wanted behind a statement -/
structure Ends where
  nx : St → Hp → Prop
  rt : VK
  bk : St → Hp → Prop := fun _ _ => False
  ct : St → Hp → Prop := fun _ _ => False
abbrev TS := Ends → St → Hp → Prop

def EP (X : Cx) (pins : List (Addr × Obj)) (σ : St) (Q : VK) (u : Value) (s' : Shared) : Prop := ∃ v H', Inv X pins σ H' s' ∧ RelV v u ∧ Q v H'
def TP (X : Cx) (pins : List (Addr × Obj)) (σ : St) (Q : Bool → Hp → Prop) (b : Bool) (s' : Shared) : Prop := ∃ H', Inv X pins σ H' s' ∧ Q b H'
def AP (X : Cx) (pins : List (Addr × Obj)) (σ : St) (Q : List V → Hp → Prop) (us : List Value) (s' : Shared) : Prop := ∃ vs H', Inv X pins σ H' s' ∧ Vals vs us ∧ Q vs H'
def SP (X : Cx) (pins : List (Addr × Obj)) (D : Ends) (f : Flow) (s' : Shared) : Prop :=
  match f with
  | .next => ∃ σ' H', Inv X pins σ' H' s' ∧ D.nx σ' H'
  | .brk => ∃ σ' H', Inv X pins σ' H' s' ∧ D.bk σ' H'
  | .cont => ∃ σ' H', Inv X pins σ' H' s' ∧ D.ct σ' H'
  | .ret u => ∃ v σ' H', Inv X pins σ' H' s' ∧ RelV v u ∧ D.rt v H'

def PE (X : Cx) (e : Expr) (t : TE) : Prop :=
  ∀ (pins : List (Addr × Obj)) (s : Shared) (σ : St) (H : Hp) (Q : VK), Inv X pins σ H s → t σ H Q → wpAny (model X.prog X.w) X.A (eval e X.env) (EP X pins σ Q) X.xe s
def PT (X : Cx) (e : Expr) (t : TT) : Prop :=
  ∀ (pins : List (Addr × Obj)) (s : Shared) (σ : St) (H : Hp) (Q : Bool → Hp → Prop), Inv X pins σ H s → t σ H Q → wpAny (model X.prog X.w) X.A (isTrue e X.env (eval e X.env)) (TP X pins σ Q) X.xe s
/-- a test whatever its 'whole' is (and, or) -/
def PW (X : Cx) (e : Expr) (t : TT) : Prop :=
  ∀ (whole : Sem Value) (pins : List (Addr × Obj)) (s : Shared) (σ : St) (H : Hp) (Q : Bool → Hp → Prop), Inv X pins σ H s → t σ H Q → wpAny (model X.prog X.w) X.A (isTrue e X.env whole) (TP X pins σ Q) X.xe s
theorem PW.pt {X : Cx} {e : Expr} {t : TT} (h : PW X e t) : PT X e t := h _
/-- an argument list (no star), from the left -/
def PA (X : Cx) (es : List Expr) (t : TA) : Prop :=
  ∀ (pos : Pos) (pins : List (Addr × Obj)) (s : Shared) (σ : St) (H : Hp) (Q : List V → Hp → Prop), Inv X pins σ H s → t σ H Q → wpAny (model X.prog X.w) X.A (spliced (backTo pos (starEach es X.env))) (AP X pins σ Q) X.xe s
def PS (X : Cx) (st : Stmt) (t : TS) : Prop :=
  ∀ (pins : List (Addr × Obj)) (s : Shared) (σ : St) (H : Hp) (D : Ends), Inv X pins σ H s → t D σ H → wpAny (model X.prog X.w) X.A (exec st X.env) (SP X pins D) X.xe s
def PSs (X : Cx) (st : List Stmt) (t : TS) : Prop :=
  ∀ (pins : List (Addr × Obj)) (s : Shared) (σ : St) (H : Hp) (D : Ends), Inv X pins σ H s → t D σ H → wpAny (model X.prog X.w) X.A (execs st X.env) (SP X pins D) X.xe s
/-- weaken the end -/
theorem thn {α : Type} {t : Sem α} {Q Q' : α → Shared → Prop} {M : Model} {A : Around} {E : Value → Shared → Prop} {s : Shared} (h : wpAny M A t Q E s) (hQ : ∀ a s, Q a s → Q' a s) : wpAny M A t Q' E s := wpAny_mono h hQ fun _ _ x => x
end L2

namespace L2
open PySem PySem.Spec PyProof.Rows
section
variable {X : Cx}

/-! ### names and constants -/
def tVar (i : Nat) : TE := fun σ H Q => ∃ v, σ[i]? = some (some v) ∧ Q v H
def tC (v : V) : TE := fun _ H Q => Q v H
theorem pe_var {i : Nat} {x : Str} {pos : Pos} (hN : X.N[i]? = some x) (hv : Vis X.env.scope x) (hd : (x == ("__debug__" : Str)) = false := by decide) (hcd : (x == ("__classdict__" : Str)) = false := by decide) : PE X (.Name x pos) (tVar i) := by
  intro pins s σ H Q I h
  obtain ⟨v, e, h⟩ := h
  obtain ⟨m, hn, hl⟩ := I.loc
  obtain ⟨u, r, l⟩ := hl i x v hN e hv
  have fin : EP X pins σ Q u s := ⟨v, H, I, r, h⟩
  rcases l with ⟨hk, hm⟩ | ⟨hk, c, hc, hcell⟩
  · exact wpAny_Name (wpAny_loadName_local I.ok.kind hk hn hm fin) hd
  · rcases hk with hk | hk
    · exact wpAny_Name (wpAny_loadName_cell I.ok.kind hk hc hcell fin) hd
    · exact wpAny_Name (wpAny_loadName_free I.ok.kind hk hc hcell fin hcd) hd
theorem pe_int {i j pos} : PE X (.Constant (.int i) j pos) (tC (.int i)) := fun _ _ _ H _ I h => wpAny_Constant_int ⟨.int i, H, I.tok _, ⟨_, rfl⟩, h⟩
theorem pe_bl {b j pos} : PE X (.Constant (.bool b) j pos) (tC (.bl b)) := fun _ _ _ H _ I h => Constant_bool ⟨.bl b, H, I, rfl, h⟩
theorem pe_non {j pos} : PE X (.Constant .none j pos) (tC .non) := fun _ _ _ H _ I h => Constant_none ⟨.non, H, I, rfl, h⟩
theorem pe_str {x j pos} : PE X (.Constant (.str x) j pos) (tC (.str x)) := fun _ _ _ H _ I h => Calls.Constant_str ⟨.str x, H, I.tok _, ⟨_, rfl⟩, h⟩

/-- a global name of the def -/
def Gl (X : Cx) (x : Str) : Prop := X.env.kindOf x = some .globalImplicit
theorem ld_glob {E : Value → Shared → Prop} {pins : List (Addr × Obj)} {s : Shared} {σ : St} {H : Hp} {x : Str} {u : Value} {pos : Pos} {Q : Value → Shared → Prop} (I : Inv X pins σ H s) (hg : Gl X x) (hm : X.mg x = some u) (h : Q u s)
    (hd : (x == ("__debug__" : Str)) = false := by decide) : wpAny (model X.prog X.w) X.A (eval (.Name x pos) X.env) Q E s :=
  Calls.Name_function_global I.ok.kind hg (Calls.loadGlobal_global (by rw [I.ok.glob]; exact I.mod.glob.keeps I.bk) hm h) hd
theorem ld_blt {E : Value → Shared → Prop} {pins : List (Addr × Obj)} {s : Shared} {σ : St} {H : Hp} {x : Str} {u : Value} {pos : Pos} {Q : Value → Shared → Prop} (I : Inv X pins σ H s) (hg : Gl X x) (hm : X.mg x = none) (hv : bootBuiltins x = some u) (h : Q u s)
    (hn : x ≠ "__name__" := by decide) (hd : (x == ("__debug__" : Str)) = false := by decide) : wpAny (model X.prog X.w) X.A (eval (.Name x pos) X.env) Q E s := by
  obtain ⟨mb, h1, h2⟩ := I.mod.blt
  exact Calls.Name_function_global I.ok.kind hg (Calls.loadGlobal_builtin (by rw [I.ok.glob]; exact I.mod.glob.keeps I.bk) hm (by rw [I.ok.blt]; exact h1.keeps I.bk) ((h2 x hn).trans hv) h) hd
/-- a module's constant, a class, a function, as a value -/
theorem pe_glob {x : Str} {v : V} {u : Value} {pos : Pos} (hg : Gl X x) (hm : X.mg x = some u) (r : RelV v u) (hd : (x == ("__debug__" : Str)) = false := by decide) : PE X (.Name x pos) (tC v) :=
  fun _ _ _ H _ I h => ld_glob I hg hm ⟨v, H, I, r, h⟩ hd
theorem pe_bltn {x : Str} {v : V} {u : Value} {pos : Pos} (hg : Gl X x) (hm : X.mg x = none) (hv : bootBuiltins x = some u) (r : RelV v u) (hn : x ≠ "__name__" := by decide) (hd : (x == ("__debug__" : Str)) = false := by decide) : PE X (.Name x pos) (tC v) :=
  fun _ _ _ H _ I h => ld_blt I hg hm hv ⟨v, H, I, r, h⟩ hn hd

/-! ### arithmetic -/
variable {a b : Expr} {ta tb : TE} {pos : Pos}
/-! ### comparisons -/
/-- a comparison as a value, as a test -/
def tB (t : TE) : TT := fun σ H Q => t σ H fun x H1 => ∃ c, x = .bl c ∧ Q c H1
/-- an expression whose value is a bool, as a test -/
theorem pt_val {e : Expr} {t : TE} (h : PE X e t) (he : ∀ whole, isTrue e X.env whole = (do let v ← whole; standAt e.pos; holding [v] (truthy v)) := by intro _; rfl) : PT X e (tB t) := by
  intro pins s σ H Q I hw
  refine isTrue_plain (thn (h pins s σ H _ I hw) fun v s1 ⟨x, H1, I1, r1, q1⟩ => ?_) (he _)
  obtain ⟨d, rfl, q⟩ := q1
  cases r1
  exact wpAny_truthy_bool ⟨H1, I1, q⟩

/-! ### and, or, not -/
variable {tA tB' : TT} {rest : List Expr}
def tAnd (t u : TT) : TT := fun σ H Q => t σ H fun c H1 => if c = true then u σ H1 Q else Q false H1
def tOr (t u : TT) : TT := fun σ H Q => t σ H fun c H1 => if c = true then Q true H1 else u σ H1 Q
def tNot (t : TT) : TT := fun σ H Q => t σ H fun c H1 => Q (!c) H1
theorem pw_and1 (ha : PT X a tA) : PW X (.BoolOp .And [a] pos) tA := by
  intro wh pins s σ H Q I h
  refine isTrue_and (thn (ha pins s σ H Q I h) fun c s1 e => ?_)
  cases c with
  | true => exact isTrue_and_nil e
  | false => exact e
theorem pw_or1 (ha : PT X a tA) : PW X (.BoolOp .Or [a] pos) tA := by
  intro wh pins s σ H Q I h
  refine isTrue_or (thn (ha pins s σ H Q I h) fun c s1 e => ?_)
  cases c with
  | false => exact isTrue_or_nil e
  | true => exact e
theorem pw_and (ha : PT X a tA) (hb : PW X (.BoolOp .And (b :: rest) pos) tB') : PW X (.BoolOp .And (a :: b :: rest) pos) (tAnd tA tB') := by
  intro wh pins s σ H Q I h
  refine isTrue_and (thn (ha pins s σ H _ I h) fun c s1 ⟨H1, I1, q1⟩ => ?_)
  cases c with
  | true => exact hb wh pins s1 σ H1 Q I1 q1
  | false => exact ⟨H1, I1, q1⟩
theorem pw_or (ha : PT X a tA) (hb : PW X (.BoolOp .Or (b :: rest) pos) tB') : PW X (.BoolOp .Or (a :: b :: rest) pos) (tOr tA tB') := by
  intro wh pins s σ H Q I h
  refine isTrue_or (thn (ha pins s σ H _ I h) fun c s1 ⟨H1, I1, q1⟩ => ?_)
  cases c with
  | true => exact ⟨H1, I1, q1⟩
  | false => exact hb wh pins s1 σ H1 Q I1 q1
theorem pt_not (ha : PT X a tA) : PT X (.UnaryOp .Not a pos) (tNot tA) := by
  intro pins s σ H Q I h
  exact isTrue_not (ha pins s σ H (fun c H1 => Q (!c) H1) I h)
/-- .. as values (bools) -/
def tAndV (ta tb : TE) : TE := fun σ H Q => ta σ H fun x H1 => ∃ c, x = .bl c ∧ if c = true then tb σ H1 Q else Q (.bl false) H1
def tNotV (ta : TE) : TE := fun σ H Q => ta σ H fun x H1 => ∃ c, x = .bl c ∧ Q (.bl (!c)) H1
theorem pe_one {op} {t : TE} (h : PE X a t) : PE X (.BoolOp op [a] pos) t := fun pins s σ H Q I hw => BoolOp_one (h pins s σ H Q I hw)
theorem pe_and (ha : PE X a ta) (hb : PE X (.BoolOp .And (b :: rest) pos) tb) : PE X (.BoolOp .And (a :: b :: rest) pos) (tAndV ta tb) := by
  intro pins s σ H Q I h
  refine BoolOp_and (thn (ha pins s σ H _ I h) fun v s1 ⟨x, H1, I1, r1, q1⟩ => ?_)
  obtain ⟨c, rfl, q1⟩ := q1
  cases r1
  refine wpAny_truthy_bool ?_
  cases c with
  | true => exact hb pins s1 σ H1 Q I1 q1
  | false => exact ⟨.bl false, H1, I1, rfl, q1⟩
theorem pe_not (ha : PE X a ta) : PE X (.UnaryOp .Not a pos) (tNotV ta) := by
  intro pins s σ H Q I h
  refine UnaryOp_ (thn (ha pins s σ H _ I h) fun v s1 ⟨x, H1, I1, r1, q1⟩ => ?_)
  obtain ⟨c, rfl, q1⟩ := q1
  cases r1
  exact not_of (wpAny_truthy_bool ⟨.bl (!c), H1, I1, rfl, q1⟩)
/-- a if t else b -/
def tIf (t : TT) (ta tb : TE) : TE := fun σ H Q => t σ H fun c H1 => if c = true then ta σ H1 Q else tb σ H1 Q
theorem pe_ifExp {c : Expr} (hc : PT X c tA) (ha : PE X a ta) (hb : PE X b tb) : PE X (.IfExp c a b pos) (tIf tA ta tb) := by
  intro pins s σ H Q I h
  refine wpAny_IfExp (thn (hc pins s σ H _ I h) fun d s1 ⟨H1, I1, q1⟩ => ?_)
  cases d with
  | true => exact ha pins s1 σ H1 Q I1 q1
  | false => exact hb pins s1 σ H1 Q I1 q1
end
end L2

namespace L2
open PySem PySem.Spec PyProof.Rows

/-! ### a list, a tuple that is read: tracked, frozen, or an object of the module -/
def SqL (K : PySem.W.Frag) (H : Hp) (a : Addr) (xs : List V) : Prop :=
  Rd H a (.lst xs) ∨
    ∃ (o : Obj) (its : Array Value) (n : Nat), K.lookup a = some o ∧ o.cls = .type "list" ∧ o.dict = none ∧ o.data = .seq its n ∧ its.size ≤ sizeLine ∧ Vals xs its.toList
def SqT (K : PySem.W.Frag) (H : Hp) (a : Addr) (xs : List V) : Prop :=
  Rd H a (.tup xs) ∨
    ∃ (o : Obj) (its : Array Value) (n : Nat), K.lookup a = some o ∧ o.cls = .type "tuple" ∧ o.data = .seq its n ∧ its.size ≤ sizeLine ∧ Vals xs its.toList
def absV : Value → Option V
  | .none => some .non
  | .bool b => some (.bl b)
  | .int i _ => some (.int i)
  | .str x _ => some (.str x)
  | .bytes b _ => some (.byt b)
  | .float b _ => some (.flt b)
  | .ref a => some (.ref a)
  | .type n => some (.ty n)
  | _ => none
theorem RelV.abs {x : V} {u : Value} (r : RelV x u) : absV u = some x := by
  cases x with
  | non => cases r; rfl
  | bl _ => cases r; rfl
  | int _ => obtain ⟨t, rfl⟩ := r; rfl
  | str _ => obtain ⟨t, rfl⟩ := r; rfl
  | byt _ => obtain ⟨t, rfl⟩ := r; rfl
  | flt _ => obtain ⟨t, rfl⟩ := r; rfl
  | ref _ => cases r; rfl
  | ty _ => cases r; rfl
theorem RelV.inj {x y : V} {u : Value} (r : RelV x u) (q : RelV y u) : x = y := Option.some.inj (r.abs.symm.trans q.abs)
theorem Vals.inj : ∀ {xs ys : List V} {us : List Value}, Vals xs us → Vals ys us → xs = ys
  | _, _, _, .nil, .nil => rfl
  | _, _, _, .cons r t, .cons r' t' => by rw [r.inj r', Vals.inj t t']
section
variable {X : Cx} {pins : List (Addr × Obj)} {σ : St} {H : Hp} {s : Shared} {a : Addr} {xs ys : List V}
theorem SqL.of {K : PySem.W.Frag} (h : H a = some (.lst xs)) : SqL K H a xs := .inl (.inl h)
theorem SqT.of {K : PySem.W.Frag} (h : H a = some (.tup xs)) : SqT K H a xs := .inl (.inl h)
theorem Inv.list (I : Inv X pins σ H s) (h : SqL X.K H a xs) : ∃ its : List Value, Vals xs its ∧ PlainL s.heap a its.toArray ∧ xs.length ≤ sizeLine := by
  rcases h with h | ⟨o, its, n, hk, hc, hd, hs, hz, r⟩
  · obtain ⟨z, its, n, r, e⟩ := h.ok I.hok
    exact ⟨its, r, ⟨_, n, e, rfl, rfl, rfl⟩, z⟩
  · refine ⟨its.toList, r, ⟨o, n, I.kIn a o hk, hc, hd, by simpa using hs⟩, ?_⟩
    have e := r.length
    simp only [Array.length_toList] at e
    omega
theorem Inv.tuple (I : Inv X pins σ H s) (h : SqT X.K H a xs) : ∃ its : List Value, Vals xs its ∧ IsTup s.heap a its.toArray ∧ xs.length ≤ sizeLine := by
  rcases h with h | ⟨o, its, n, hk, hc, hs, hz, r⟩
  · obtain ⟨z, its, r, p⟩ := h.ok I.hok
    exact ⟨its, r, p, z⟩
  · refine ⟨its.toList, r, ⟨o, I.kIn a o hk, hc, n, by simpa using hs⟩, ?_⟩
    have e := r.length
    simp only [Array.length_toList] at e
    omega
theorem Inv.tuple_inj (I : Inv X pins σ H s) (h : SqT X.K H a xs) (h' : SqT X.K H a ys) : xs = ys := by
  obtain ⟨its, r, ⟨o, e, _, n, d⟩, _⟩ := I.tuple h
  obtain ⟨its', r', ⟨o', e', _, n', d'⟩, _⟩ := I.tuple h'
  rw [e] at e'; cases e'
  rw [d] at d'
  injection d' with d1 _
  have : its = its' := by simpa using congrArg Array.toList d1
  subst this
  exact r.inj r'
end

/-! ### another wish about exceptions -/
abbrev Cx.wish (X : Cx) (E : Value → Shared → Prop) : Cx := { X with xe := E }
/-- no exception leaves -/
abbrev Cx.nox (X : Cx) : Cx := X.wish fun _ _ => False
theorem Cx.Ok.wish {X : Cx} (ok : X.Ok) (E : Value → Shared → Prop) : (X.wish E).Ok :=
  ⟨ok.mod, ok.kind, ok.glob, ok.blt, ok.above, ok.inj, ok.has, ok.cab, ok.hd, ok.frames, ok.stk, ok.exf, ok.bs, ok.bsz, ok.noex, ok.exfs, ok.funs, ok.frf⟩
theorem Cx.Ok.unwish {X : Cx} {E : Value → Shared → Prop} (ok : (X.wish E).Ok) : X.Ok :=
  ⟨ok.mod, ok.kind, ok.glob, ok.blt, ok.above, ok.inj, ok.has, ok.cab, ok.hd, ok.frames, ok.stk, ok.exf, ok.bs, ok.bsz, ok.noex, ok.exfs, ok.funs, ok.frf⟩
section
variable {X : Cx} {pins : List (Addr × Obj)} {σ : St} {H : Hp} {s : Shared} {E : Value → Shared → Prop}
theorem Inv.wish (I : Inv X pins σ H s) (E : Value → Shared → Prop) : Inv (X.wish E) pins σ H s := ⟨I.ok.wish E, I.os, I.bare, I.base, I.loc, I.cell, I.free, I.freeC, I.pin, I.hok, I.len⟩
theorem Inv.unwish (I : Inv (X.wish E) pins σ H s) : Inv X pins σ H s := ⟨I.ok.unwish, I.os, I.bare, I.base, I.loc, I.cell, I.free, I.freeC, I.pin, I.hok, I.len⟩
theorem SP.unwish {D : Ends} {f : Flow} {s' : Shared} (h : SP (X.wish E) pins D f s') : SP X pins D f s' := by
  cases f with
  | next => obtain ⟨σ', H', I, q⟩ := h; exact ⟨σ', H', I.unwish, q⟩
  | brk => obtain ⟨σ', H', I, q⟩ := h; exact ⟨σ', H', I.unwish, q⟩
  | cont => obtain ⟨σ', H', I, q⟩ := h; exact ⟨σ', H', I.unwish, q⟩
  | ret u => obtain ⟨v, σ', H', I, r, q⟩ := h; exact ⟨v, σ', H', I.unwish, r, q⟩
theorem PE.nox {e : Expr} {t : TE} (h : PE X.nox e t) : PE X e t := fun pins s σ H Q I hw =>
  wpAny_mono (h pins s σ H Q (I.wish _) hw) (fun _ _ ⟨v, H', I', r, q⟩ => ⟨v, H', I'.unwish, r, q⟩) fun _ _ z => False.elim z
theorem PT.nox {e : Expr} {t : TT} (h : PT X.nox e t) : PT X e t := fun pins s σ H Q I hw =>
  wpAny_mono (h pins s σ H Q (I.wish _) hw) (fun _ _ ⟨H', I', q⟩ => ⟨H', I'.unwish, q⟩) fun _ _ z => False.elim z
theorem PSs.nox {st : List Stmt} {t : TS} (h : PSs X.nox st t) : PSs X st t := fun pins s σ H D I hw =>
  wpAny_mono (h pins s σ H D (I.wish _) hw) (fun _ _ q => q.unwish) fun _ _ z => False.elim z
end

/-! ### blocks and small statements -/
section
variable {X : Cx} {st : Stmt} {rest : List Stmt} {t u : TS} {e : Expr} {te : TE} {pos : Pos}
def tNext : TS := fun D σ H => D.nx σ H
def tSeq (t u : TS) : TS := fun D σ H => t { D with nx := u D } σ H
theorem pss_nil : PSs X [] tNext := fun _ _ σ H _ I h => wpAny_execs_nil ⟨σ, H, I, h⟩
theorem pss_cons (h1 : PS X st t) (h2 : PSs X rest u) : PSs X (st :: rest) (tSeq t u) := by
  intro pins s σ H D I h
  refine wpAny_execs_cons (thn (h1 pins s σ H { D with nx := u D } I h) fun f s1 q => ?_)
  cases f with
  | next =>
    obtain ⟨σ', H', I', q⟩ := q
    exact h2 pins s1 σ' H' D I' q
  | ret v => exact q
  | brk => exact q
  | cont => exact q
theorem pss_one (h1 : PS X st t) : PSs X [st] t := by
  intro pins s σ H D I h
  refine wpAny_execs_cons (thn (h1 pins s σ H D I h) fun f s1 q => ?_)
  cases f with
  | next => exact wpAny_execs_nil q
  | ret v => exact q
  | brk => exact q
  | cont => exact q
/-- in a def's body nothing is shown -/
theorem Inv.quiet {pins : List (Addr × Obj)} {σ : St} {H : Hp} {s : Shared} (I : Inv X pins σ H s) : interactive X.env = false := by simp [interactive, I.ok.kind]
/-- an expression whose value is dropped -/
def tDrop (te : TE) : TS := fun D σ H => te σ H fun _ H1 => D.nx σ H1
theorem ps_expr (he : PE X e te) (hs : swapsWith e none pos.line X.env = pure false := by rfl) : PS X (.Expr e pos) (tDrop te) := by
  intro pins s σ H D I h
  exact wpAny_Expr_any (thn (he pins s σ H _ I h) fun v s1 ⟨x, H1, I1, r1, q1⟩ => ⟨σ, H1, I1, q1⟩) I.quiet hs
def tRet (te : TE) : TS := fun D σ H => te σ H D.rt
theorem ps_ret (he : PE X e te) : PS X (.Return (some e) pos) (tRet te) := by
  intro pins s σ H D I h
  exact wpAny_Return_some (thn (he pins s σ H _ I h) fun v s1 ⟨x, H1, I1, r1, q1⟩ => ⟨x, σ, H1, I1, r1, q1⟩)
def tIfS (c : TT) (t u : TS) : TS := fun D σ H => c σ H fun b H1 => if b = true then t D σ H1 else u D σ H1
theorem ps_if {c : Expr} {a b : List Stmt} {tc : TT} (hc : PT X c tc) (ha : PSs X a t) (hb : PSs X b u) : PS X (.If c a b pos) (tIfS tc t u) := by
  intro pins s σ H D I h
  refine wpAny_If (thn (hc pins s σ H _ I h) fun d s1 ⟨H1, I1, q1⟩ => ?_)
  cases d with
  | true => exact ha pins s1 σ H1 D I1 q1
  | false => exact hb pins s1 σ H1 D I1 q1
/-- code that the proof never comes to -/
def tNever : TS := fun _ _ _ => False
theorem ps_never : PS X st tNever := fun _ _ _ _ _ _ h => h.elim
end

/-! ### targets -/
abbrev TG := V → St → Hp → (St → Hp → Prop) → Prop
abbrev TGs := List V → St → Hp → (St → Hp → Prop) → Prop
def PG (X : Cx) (target : Expr) (t : TG) : Prop :=
  ∀ (pins : List (Addr × Obj)) (s : Shared) (σ : St) (H : Hp) (v : V) (u : Value) (Q : St → Hp → Prop), Inv X pins σ H s → RelV v u → t v σ H Q →
    wpAny (model X.prog X.w) X.A (assign target X.env u) (fun _ s' => ∃ σ' H', Inv X pins σ' H' s' ∧ Q σ' H') X.xe s
/-- several targets, one after another -/
def PGs (X : Cx) (ts : List Expr) (t : TGs) : Prop :=
  ∀ (pins : List (Addr × Obj)) (s : Shared) (σ : St) (H : Hp) (vs : List V) (us : List Value) (Q : St → Hp → Prop), Inv X pins σ H s → Vals vs us → t vs σ H Q →
    wpAny (model X.prog X.w) X.A (assignInOrder ((assignEach ts X.env).map (·.2)) us) (fun _ s' => ∃ σ' H', Inv X pins σ' H' s' ∧ Q σ' H') X.xe s
section
variable {X : Cx} {pos : Pos}
def gName (i : Nat) : TG := fun v σ H Q => Q (σ.set i (some v)) H
theorem pg_name {i : Nat} {x : Str} (hN : X.N.Nodup) (hi : X.N[i]? = some x) (hx : Loc X.env.scope x) (hf : X.fn x = true ∨ X.env.scope.names.lookup x = some .local := by first | exact .inl rfl | exact .inr rfl | assumption) : PG X (.Name x pos) (gName i) := by
  intro pins s σ H v u Q I r h
  exact wpAny_assign_Name (store_ok I hN hi hx r (fun s' I' => ⟨_, H, I', h⟩) hf)
def gNil : TGs := fun vs σ H Q => vs = [] ∧ Q σ H
def gCons (t : TG) (u : TGs) : TGs := fun vs σ H Q => ∃ v r, vs = v :: r ∧ t v σ H fun σ' H' => u r σ' H' Q
theorem pgs_nil : PGs X [] gNil := by
  intro pins s σ H vs us Q I r h
  obtain ⟨e, h⟩ := h
  subst e
  cases r
  exact assignInOrder_nil ⟨σ, H, I, h⟩
theorem pgs_cons {e : Expr} {es : List Expr} {t : TG} {u : TGs} (h1 : PG X e t) (h2 : PGs X es u)
    (hs : (assignEach (e :: es) X.env).map (·.2) = assign e X.env :: (assignEach es X.env).map (·.2) := by rfl) : PGs X (e :: es) (gCons t u) := by
  intro pins s σ H vs us Q I r h
  obtain ⟨v, vr, e1, h⟩ := h
  subst e1
  cases r with
  | cons r rr =>
    rw [hs]
    refine assignInOrder_cons (thn (h1 pins s σ H _ _ _ I r h) fun _ s1 ⟨σ1, H1, I1, q1⟩ => ?_)
    exact h2 pins s1 σ1 H1 _ _ Q I1 rr q1
/-- (a, b, ..) = a tuple of that length -/
def gTup (K : PySem.W.Frag) (n : Nat) (t : TGs) : TG := fun v σ H Q => ∃ a xs, v = .ref a ∧ SqT K H a xs ∧ xs.length = n ∧ t xs σ H Q
theorem pg_tup {es : List Expr} {k : Nat} {t : TGs} {n : Nat} (hc : X.calm = true) (h : PGs X es t)
    (hn : (assignEach es X.env).length = n := by rfl) (hst : (assignEach es X.env).findIdx? (·.1) = none := by rfl) : PG X (.Tuple es k pos) (gTup X.K n t) := by
  intro pins s σ H v u Q I r hw
  obtain ⟨a, xs, e1, hq, hl, hw⟩ := hw
  subst e1
  cases r
  obtain ⟨its, rv, ht, hz⟩ := I.tuple hq
  refine assign_Tuple_tuple (I.ok.hd hc) ht (by simp [hn, ← hl, rv.length]) hst fun h' hx => ?_
  have I1 : Inv X pins σ H { s with heap := h' } := I.kept (t' := s.toks) fun b o e => hx b o (Nat.ne_of_lt (Heap.lt_size e)) e
  exact h pins _ σ H xs _ Q I1 (by simpa using rv) hw
/-- target = value -/
def tAsg (te : TE) (g : TG) : TS := fun D σ H => te σ H fun x H1 => g x σ H1 D.nx
theorem ps_asg {tg e : Expr} {te : TE} {g : TG} (he : PE X e te) (hg : PG X tg g) (hs : swapsWithSole [tg] e pos.line X.env = pure false := by rfl) (hw : swappedStores [tg] e X.env = pure none := by rfl)
    (h1 : (assignEach [tg] X.env).map (·.2) = [assign tg X.env] := by rfl) : PS X (.Assign [tg] e pos) (tAsg te g) := by
  intro pins s σ H D I h
  refine wpAny_Assign_stores (thn (he pins s σ H _ I h) fun v s1 ⟨x, H1, I1, r1, q1⟩ => ?_) hs hw
  rw [h1]
  exact thn (hg pins s1 σ H1 x v _ I1 r1 q1) fun _ s2 q => q
/-- name = value -/
theorem ps_set {i : Nat} {x : Str} {e : Expr} {te : TE} {pos' : Pos} (hN : X.N.Nodup) (hi : X.N[i]? = some x) (hx : Loc X.env.scope x) (he : PE X e te) (hs : swapsWith e (some (.Name x pos')) pos.line X.env = pure false := by rfl) (hf : X.fn x = true ∨ X.env.scope.names.lookup x = some .local := by first | exact .inl rfl | exact .inr rfl | assumption) :
    PS X (.Assign [.Name x pos'] e pos) (tAsg te (gName i)) := by
  intro pins s σ H D I h
  refine wpAny_Assign_Name (thn (he pins s σ H _ I h) fun v s1 ⟨y, H1, I1, r1, q1⟩ => ?_) hs
  exact store_ok I1 hN hi hx r1 (fun s2 I2 => ⟨_, H1, I2, q1⟩) hf
end

/-! ### while -/
section
variable {X : Cx} {pos : Pos}
/-- the invariant W with its measure -/
def tWhile (c : TT) (tb : TS) : TS := fun D σ H => ∃ W : Nat → St → Hp → Prop, (∃ m, W m σ H) ∧ ∀ m σ H, W m σ H →
  c σ H fun b H1 => if b = true then ∃ N : St → Hp → Prop, (∀ σ' H', N σ' H' → ∃ m', m' < m ∧ W m' σ' H') ∧ tb { D with nx := N, ct := N, bk := D.nx } σ H1 else D.nx σ H1
theorem ps_while {c : Expr} {body : List Stmt} {tc : TT} {tb : TS} (hp : PassesOwn (model X.prog X.w) X.A X.env X.xe) (hc : PT X c tc) (hb : PSs X body tb) : PS X (.While c body [] pos) (tWhile tc tb) := by
  intro pins s σ H D I h
  obtain ⟨W, ⟨m0, w0⟩, turn⟩ := h
  refine wpAny_While (codeAny_whileLoop (fun n s' => ∃ σ' H', Inv X pins σ' H' s' ∧ W n σ' H') ?_ m0 ⟨σ, H, I, w0⟩)
  rintro n s1 ⟨σ1, H1, I1, w1⟩
  refine wpAny_passesOwn hp (thn (hc pins s1 σ1 H1 _ I1 (turn n σ1 H1 w1)) fun b s2 ⟨H2, I2, q2⟩ => ?_)
  cases b with
  | true =>
    obtain ⟨N, hN, q2⟩ := q2
    rw [if_pos rfl]
    refine wpAny_passesOwn hp (thn (hb pins s2 σ1 H2 _ I2 q2) fun f s3 q3 => ?_)
    cases f with
    | next =>
      obtain ⟨σ3, H3, I3, n3⟩ := q3
      obtain ⟨m', hm, w3⟩ := hN σ3 H3 n3
      exact ⟨m', hm, σ3, H3, I3, w3⟩
    | cont =>
      obtain ⟨σ3, H3, I3, n3⟩ := q3
      obtain ⟨m', hm, w3⟩ := hN σ3 H3 n3
      exact ⟨m', hm, σ3, H3, I3, w3⟩
    | brk => exact q3
    | ret v => exact q3
  | false =>
    rw [if_neg Bool.false_ne_true]
    exact wpAny_execs_nil ⟨σ1, H2, I2, q2⟩
end

/-! ### what a loop or a comprehension walks -/
/-- at turn i: it yields x (the heap may grow), or it stops -/
structure It where
  go : Nat → Hp → Prop
  yld : Nat → Hp → V → Hp → Prop
  stop : Nat → Hp → Prop
/-- the iterator's own objects may turn: they are not the frame's, not pinned, younger than the entry (or a comprehension's own) -/
def FpOk (X : Cx) (pins : List (Addr × Obj)) (H : Hp) (b : Addr) : Prop :=
  H b = none ∧ b ≠ X.env.locals ∧ b ∉ X.fs ∧ (b ∈ X.ex ∨ X.s₀.heap.objs.size ≤ b) ∧ (∀ x c, X.env.cells.lookup x = some c → c ≠ b) ∧ ∀ p ∈ X.pn ++ pins, p.1 ≠ b
theorem Inv.fpOk {X : Cx} {pins : List (Addr × Obj)} {σ : St} {H H' : Hp} {s : Shared} {b : Addr} (I : Inv X pins σ H s) (hb : s.heap.objs.size ≤ b) (hn : H' b = none) : FpOk X pins H' b := by
  refine ⟨hn, Nat.ne_of_gt (Nat.lt_of_lt_of_le I.lt hb), I.nofs hb, .inr (Nat.le_trans I.sz hb), fun x c e z => ?_, fun p hp z => ?_⟩
  · obtain ⟨v, q⟩ := I.cell x c e
    exact absurd (Nat.lt_of_lt_of_le q.lt (by rw [z]; exact hb)) (Nat.lt_irrefl _)
  · exact absurd (Nat.lt_of_lt_of_le (Heap.lt_size (I.pin p hp).1) (by rw [z]; exact hb)) (Nat.lt_irrefl _)
structure Turn (P : Program) (w : World) (K : PySem.W.Frag) (tg : Expr) (J : It) (fp : List Addr) (it : Addr) (tn : Nat → Heap → Prop) : Prop where
  mem : it ∈ fp
  obj : ∀ i h, tn i h → ∀ b ∈ fp, ∃ o, h.get? b = some o ∧ ∀ v, o.data ≠ .cell v
  keep : ∀ i h h', tn i h → (∀ b ∈ fp, ∀ o, h.get? b = some o → h'.get? b = some o) → tn i h'
  item : ∀ (X : Cx), X.prog = P → X.w = w → X.K = K → X.calm = true → ∀ (i : Nat) (pins : List (Addr × Obj)) (s : Shared) (σ : St) (H : Hp) (E : Value → Shared → Prop), Inv X pins σ H s → (∀ b ∈ fp, FpOk X pins H b) → tn i s.heap → J.go i H →
    wpAny (model P w) X.A (pyNext (.ref it)) (fun r s1 => ∃ u, r = some u ∧
      wpAny (model P w) X.A (letOwnedTupleGo tg (.ref it) u) (fun _ s2 => ∃ x H', Inv X pins σ H' s2 ∧ RelV x u ∧ J.yld i H x H' ∧ tn (i + 1) s2.heap ∧ ∀ b ∈ fp, H' b = none) E s1) E s
  done : ∀ (X : Cx), X.prog = P → X.w = w → X.K = K → X.calm = true → ∀ (i : Nat) (pins : List (Addr × Obj)) (s : Shared) (σ : St) (H : Hp) (E : Value → Shared → Prop), Inv X pins σ H s → (∀ b ∈ fp, FpOk X pins H b) → tn i s.heap → J.stop i H →
    wpAny (model P w) X.A (pyNext (.ref it)) (fun r s1 => r = none ∧ Inv X pins σ H s1) E s
  self : ∀ (A : Around) (i : Nat) (s : Shared) (Q : Value → Shared → Prop) (E : Value → Shared → Prop), tn i s.heap → Q (.ref it) s → wpAny (model P w) A (pyIter (.ref it)) Q E s
abbrev TI := St → Hp → (It → Hp → Prop) → Prop
/-- an iterator has come -/
def PIE (X : Cx) (pins : List (Addr × Obj)) (σ : St) (tg : Expr) (R : It → Hp → Prop) (itv : Value) (s2 : Shared) : Prop :=
  ∃ (it : Addr) (fp : List Addr) (tn : Nat → Heap → Prop) (J : It) (H' : Hp), itv = .ref it ∧ Inv X pins σ H' s2 ∧ Turn X.prog X.w X.K tg J fp it tn ∧ tn 0 s2.heap ∧ (∀ b ∈ fp, FpOk X pins H' b) ∧ R J H'
def PI (X : Cx) (tg iter : Expr) (wi : TI) : Prop :=
  ∀ (pins : List (Addr × Obj)) (s : Shared) (σ : St) (H : Hp) (R : It → Hp → Prop), Inv X pins σ H s → wi σ H R →
    wpAny (model X.prog X.w) X.A (eval iter X.env) (fun v s1 => wpAny (model X.prog X.w) X.A (pyIter v) (PIE X pins σ tg R) X.xe s1) X.xe s

/-- the step ahead of the store is nothing for an iterator that keeps no tuple -/
theorem go_of {M : Model} {A : Around} {E : Value → Shared → Prop} {s : Shared} {tg : Expr} {it : Addr} {u : Value} {o : Obj} {n : String} {vs : Array Value} {Q : Unit → Shared → Prop} (ho : s.heap.get? it = some o) (hc : o.cls = .type n) (hd : o.data = .fields vs)
    (hn : ["enumerate", "zip", "dict_itemiterator", "dict_reverseitemiterator", "odict_iterator", "itertools.zip_longest", "itertools.pairwise"].contains n = false) (hQ : Q () s) : wpAny M A (letOwnedTupleGo tg (.ref it) u) Q E s := by
  unfold letOwnedTupleGo
  cases tg <;> first
    | exact wpAny_pure hQ
    | (cases u <;> first
        | exact wpAny_pure hQ
        | (refine wpAny_bind (wpAny_load ho ?_)
           rw [hc, hd]
           show wpAny M A (if (["enumerate", "zip", "dict_itemiterator", "dict_reverseitemiterator", "odict_iterator", "itertools.zip_longest", "itertools.pairwise"].contains n && vs[0]? == some (rawInt _)) = true then _ else _) Q E s
           rw [if_neg (by intro h; rw [hn, Bool.false_and] at h; cases h)]
           exact wpAny_pure hQ))

def Itt (K : PySem.W.Frag) (a : Addr) : It :=
  ⟨fun i H => ∃ xs x, SqT K H a xs ∧ xs[i]? = some x, fun i H x H' => H' = H ∧ ∀ xs, SqT K H a xs → xs[i]? = some x, fun i H => ∃ xs, SqT K H a xs ∧ xs.length ≤ i⟩
/-- lo, lo + 1, .. (n of them) -/
def Itr (lo : Int) (n : Nat) : It := ⟨fun i _ => i < n, fun i H x H' => H' = H ∧ x = .int (lo + i), fun i _ => n ≤ i⟩
theorem turn_tuple {P : Program} {w : World} {K : PySem.W.Frag} {tg : Expr} (a it : Addr) : Turn P w K tg (Itt K a) [it] it (fun i h => h.IsTupleIter it a i) where
  mem := by simp
  obj := fun i h st b hb => by
    have e : b = it := by simpa using hb
    subst e
    obtain ⟨o, e, c, d⟩ := st
    exact ⟨o, e, fun v z => by rw [d] at z; cases z⟩
  keep := fun i h h' st k => st.at fun o e => k it (by simp) o e
  item := by
    intro X hP hw hK hc i pins s σ H E I hf st hg
    subst hP hw hK
    obtain ⟨xs, x, hq, hx⟩ := hg
    obtain ⟨its, rv, p, hz⟩ := I.tuple hq
    obtain ⟨u, hu, ru⟩ := rv.get hx
    obtain ⟨f0, f1, f2, f3, f4, f5⟩ := hf it (by simp)
    refine wpAny_pyNext_tuple_item st (show s.heap.IsTuple a its.toArray from p) (x := u) (by simpa using hu) fun h' st' sb => ?_
    have I1 : Inv X pins σ H { s with heap := h' } := I.turned (t' := s.toks) (fun b o hb e => (sb.2 b hb).trans e) f0 f1 f3 f4 f5
    obtain ⟨o, e, c, d⟩ := id st'
    exact ⟨u, rfl, go_of (s := { s with heap := h' }) e c d (by decide) ⟨x, H, I1, ru, ⟨rfl, fun ys hy => by rw [I.tuple_inj hy hq]; exact hx⟩, st', fun b hb => (hf b hb).1⟩⟩
  done := by
    intro X hP hw hK hc i pins s σ H E I hf st hg
    subst hP hw hK
    obtain ⟨xs, hq, hx⟩ := hg
    obtain ⟨its, rv, p, hz⟩ := I.tuple hq
    obtain ⟨f0, f1, f2, f3, f4, f5⟩ := hf it (by simp)
    have hl := rv.length
    exact wpAny_pyNext_tuple_end (I.ok.hd hc) st (show s.heap.IsTuple a its.toArray from p) (by simp; omega) fun h' eb => ⟨rfl, I.turned (t' := s.toks) (fun b o hb e => eb b o hb e) f0 f1 f3 f4 f5⟩
  self := fun _ _ _ _ _ st h => wpAny_pyIter_tupleiter st h
theorem turn_range {P : Program} {w : World} {K : PySem.W.Frag} {tg : Expr} (it : Addr) (lo : Int) (n : Nat) : Turn P w K tg (Itr lo n) [it] it (fun i h => IsRangeIter h it (lo + (i : Nat) * 1) ((n : Int) - (i : Nat)) 1) where
  mem := by simp
  obj := fun i h st b hb => by
    have e : b = it := by simpa using hb
    subst e
    exact ⟨_, st, fun v z => by
      have z' : Data.fields _ = Data.cell v := z
      cases z'⟩
  keep := fun i h h' st k => k it (by simp) _ st
  item := by
    intro X hP hw hK hc i pins s σ H E I hf st hg
    subst hP hw hK
    obtain ⟨f0, f1, f2, f3, f4, f5⟩ := hf it (by simp)
    have W := Walks.range (prog := X.prog) (w := X.w) (I.ok.hd hc) it lo 1 n
    refine W.item i s _ _ hg st fun v h' tk hv st' kk => ?_
    obtain ⟨t, rfl⟩ := hv
    have I1 : Inv X pins σ H { s with heap := h', toks := tk } := I.turned (fun b o hb e => kk b o (by simpa using hb) e) f0 f1 f3 f4 f5
    refine ⟨_, rfl, go_of (s := { s with heap := h', toks := tk }) (n := "range_iterator") st' rfl rfl (by decide) ⟨.int (lo + i), H, I1, ⟨t, ?_⟩, ⟨rfl, rfl⟩, st', fun b hb => (hf b hb).1⟩⟩
    rw [Int.mul_one]
  done := by
    intro X hP hw hK hc i pins s σ H E I hf st hg
    subst hP hw hK
    obtain ⟨f0, f1, f2, f3, f4, f5⟩ := hf it (by simp)
    exact wpAny_pyNext_range_end (I.ok.hd hc) st (by have : n ≤ i := hg; omega) fun h' eb => ⟨rfl, I.turned (t' := s.toks) (fun b o hb e => eb b o hb e) f0 f1 f3 f4 f5⟩
  self := fun _ _ _ _ _ st h => wpAny_pyIter_rangeiter st h
end L2

namespace L2
open PySem PySem.Spec PyProof.Rows
section
variable {X : Cx} {tg : Expr}
def iTup (K : PySem.W.Frag) (tl : TE) : TI := fun σ H R => tl σ H fun x H1 => ∃ a, x = .ref a ∧ (∃ xs, SqT K H1 a xs) ∧ R (Itt K a) H1
theorem pi_tup {l : Expr} {tl : TE} (hl : PE X l tl) : PI X tg l (iTup X.K tl) := by
  intro pins s σ H R I h
  refine thn (hl pins s σ H _ I h) fun v s1 ⟨x, H1, I1, r1, q1⟩ => ?_
  obtain ⟨a, e, ⟨xs, hq⟩, q⟩ := q1
  subst e
  cases r1
  obtain ⟨its, rv, p, hz⟩ := I1.tuple hq
  refine wpAny_pyIter_tuple (show s1.heap.IsTuple a its.toArray from p) ?_
  refine ⟨s1.heap.objs.size, [s1.heap.objs.size], _, _, H1, rfl, I1.kept (t' := s1.toks) fun b o e => Heap.get?_push_of_some _ e, turn_tuple a _, ⟨_, Heap.get?_push_size _ rfl, rfl, rfl⟩, fun b hb => ?_, q⟩
  have e : b = s1.heap.objs.size := by simpa using hb
  subst e
  exact I1.fpOk (Nat.le_refl _) (I1.hok.fresh (Nat.le_refl _))
/-- a range object just made, walked -/
theorem range_it {pins : List (Addr × Obj)} {σ : St} {H : Hp} {s : Shared} {R : It → Hp → Prop} {E : Value → Shared → Prop} {lo hi : Int} {t u v : Tok} {tk : Nat} (I : Inv X pins σ H s) (h1 : -(2 ^ 62) ≤ lo) (h2 : lo < 2 ^ 62) (h3 : -(2 ^ 62) ≤ hi) (h4 : hi < 2 ^ 62)
    (q : R (Itr lo (hi - lo).toNat) H) : wpAny (model X.prog X.w) X.A (pyIter (.ref s.heap.objs.size)) (PIE X pins σ tg R) E { s with heap := s.heap.push { cls := .type "range", data := .fields #[.int lo t, .int hi u, .int 1 v] }, toks := tk } := by
  refine wpAny_pyIter_range (IsRange.new ..) (small_one h1 h2 h3 h4) ?_
  have I1 : Inv X pins σ H { s with heap := s.heap.push { cls := .type "range", data := .fields #[.int lo t, .int hi u, .int 1 v] }, toks := tk } := I.kept fun b o e => Heap.get?_push_of_some _ e
  refine ⟨(s.heap.push { cls := .type "range", data := .fields #[.int lo t, .int hi u, .int 1 v] }).objs.size, [(s.heap.push { cls := .type "range", data := .fields #[.int lo t, .int hi u, .int 1 v] }).objs.size], _, _, H, rfl,
    I1.kept (t' := tk) fun b o e => Heap.get?_push_of_some _ e, turn_range _ lo (hi - lo).toNat, ?_, fun b hb => ?_, q⟩
  · have e1 : lo + ((0 : Nat) : Int) * 1 = lo := by simp
    have e2 : (((hi - lo).toNat : Nat) : Int) - ((0 : Nat) : Int) = Builtin.Range.rangeSize lo hi 1 := by rw [rangeSize_one]; split <;> omega
    show IsRangeIter _ _ (lo + ((0 : Nat) : Int) * 1) ((((hi - lo).toNat : Nat) : Int) - ((0 : Nat) : Int)) 1
    rw [e1, e2]
    exact Heap.get?_push_size _ rfl
  · have e : b = (s.heap.push { cls := .type "range", data := .fields #[.int lo t, .int hi u, .int 1 v] }).objs.size := by simpa using hb
    subst e
    exact I1.fpOk (Nat.le_refl _) (I1.hok.fresh (Nat.le_refl _))
def iRng1 (ta : TA) : TI := fun σ H R => ta σ H fun vs H1 => ∃ j : Int, vs = [.int j] ∧ -(2 ^ 62) ≤ j ∧ j < 2 ^ 62 ∧ R (Itr 0 j.toNat) H1
def iRng2 (ta : TA) : TI := fun σ H R => ta σ H fun vs H1 => ∃ i j : Int, vs = [.int i, .int j] ∧ (-(2 ^ 62) ≤ i ∧ i < 2 ^ 62 ∧ -(2 ^ 62) ≤ j ∧ j < 2 ^ 62) ∧ R (Itr i (j - i).toNat) H1
theorem pi_range1 {a : Expr} {ta : TA} {p pos : Pos} (hg : Gl X "range") (hm : X.mg "range" = none) (ha : PA X [a] ta) (hs : starEach [a] X.env = [(false, eval a X.env)] := by rfl) : PI X tg (.Call (.Name "range" p) [a] [] pos) (iRng1 ta) := by
  intro pins s σ H R I h
  refine Call_ (ld_blt I hg hm boot_range (PyProof.Rows.callWith_type1 (thn (ha pos pins s σ H _ I h) fun us s1 ⟨vs, H1, I1, r1, q1⟩ => ?_) hs rfl))
  obtain ⟨j, e, q1, q2, q⟩ := q1
  subst e
  cases r1 with
  | cons r rr =>
    cases rr
    obtain ⟨t, rfl⟩ := r
    exact call_range_1 (range_it I1 (by omega) (by omega) q1 q2 (by simpa using q))
theorem pi_range2 {a b : Expr} {ta : TA} {p pos : Pos} (hg : Gl X "range") (hm : X.mg "range" = none) (ha : PA X [a, b] ta) (hs : starEach [a, b] X.env = [(false, eval a X.env), (false, eval b X.env)] := by rfl) (hs2 : starEach [b] X.env = [(false, eval b X.env)] := by rfl) :
    PI X tg (.Call (.Name "range" p) [a, b] [] pos) (iRng2 ta) := by
  intro pins s σ H R I h
  refine Call_ (ld_blt I hg hm boot_range (PyProof.Rows.callWith_type1 (thn (ha pos pins s σ H _ I h) fun us s1 ⟨vs, H1, I1, r1, q1⟩ => ?_) (by rw [hs, hs2]) (by rw [hs2]; rfl)))
  obtain ⟨i, j, e, ⟨q1, q2, q3, q4⟩, q⟩ := q1
  subst e
  cases r1 with
  | cons r rr =>
    cases rr with
    | cons r' rr =>
      cases rr
      obtain ⟨t, rfl⟩ := r
      obtain ⟨t', rfl⟩ := r'
      exact call_range_2 (range_it I1 q1 q2 q3 q4 q)

/-! ### for -/
/-- W: the invariant by the turn and a measure; N: what the body is to reach -/
def tFor (wi : TI) (g : TG) (tb : TS) : TS := fun D σ H => wi σ H fun J H1 => ∃ W : Nat → Nat → St → Hp → Prop, (∃ m, W 0 m σ H1) ∧ ∀ i m σ H, W i m σ H →
  (J.stop i H ∧ D.nx σ H) ∨ (J.go i H ∧ ∃ N : St → Hp → Prop, (∀ σ' H', N σ' H' → ∃ m', m' < m ∧ W (i + 1) m' σ' H') ∧ ∀ x H', J.yld i H x H' → g x σ H' fun σ2 H2 => tb { D with nx := N, ct := N, bk := D.nx } σ2 H2)
/-- the records at fp as they stand -/
def pinsAt (fp : List Addr) (h : Heap) : List (Addr × Obj) := fp.filterMap fun b => (h.get? b).map fun o => (b, o)
theorem mem_pinsAt {fp : List Addr} {h : Heap} {b : Addr} {o : Obj} (hb : b ∈ fp) (e : h.get? b = some o) : (b, o) ∈ pinsAt fp h := List.mem_filterMap.mpr ⟨b, hb, by rw [e]; rfl⟩
theorem of_pinsAt {fp : List Addr} {h : Heap} {p : Addr × Obj} (hp : p ∈ pinsAt fp h) : p.1 ∈ fp ∧ h.get? p.1 = some p.2 := by
  obtain ⟨b, hb, e⟩ := List.mem_filterMap.mp hp
  cases q : h.get? b with
  | none => rw [q] at e; cases e
  | some o =>
    rw [q] at e
    have e' : (b, o) = p := Option.some.inj e
    subst e'
    exact ⟨hb, q⟩
theorem Inv.pinned {pins : List (Addr × Obj)} {σ : St} {H : Hp} {s : Shared} {fp : List Addr} (I : Inv X pins σ H s) (hf : ∀ b ∈ fp, FpOk X pins H b) (ho : ∀ b ∈ fp, ∃ o, s.heap.get? b = some o ∧ ∀ v, o.data ≠ .cell v) : Inv X (pins ++ pinsAt fp s.heap) σ H s :=
  I.pins_of fun p hp => (List.mem_append.mp hp).elim (fun z => I.pin p (List.mem_append_right _ z)) fun z => by
    obtain ⟨hb, e⟩ := of_pinsAt z
    obtain ⟨f0, f1, f2, _⟩ := hf p.1 hb
    obtain ⟨o, e', d⟩ := ho p.1 hb
    rw [e] at e'; cases e'
    exact ⟨e, f0, f1, f2, d⟩
theorem Inv.unpinned {pins pl : List (Addr × Obj)} {σ : St} {H : Hp} {s : Shared} (I : Inv X (pins ++ pl) σ H s) : Inv X pins σ H s := I.pins_of fun p hp => I.pin p (List.mem_append_right _ (List.mem_append_left _ hp))
theorem ps_for {iter : Expr} {body : List Stmt} {wi : TI} {g : TG} {tb : TS} {pos : Pos} (hp : PassesOwn (model X.prog X.w) X.A X.env X.xe) (hc : X.calm = true) (hi : PI X tg iter wi) (hg : PG X tg g) (hb : PSs X body tb)
    (hs : ∀ x, foldedSetIterable iter X.env x = pure x := by intro _; rfl) : PS X (.For tg iter body [] pos) (tFor wi g tb) := by
  intro pins s σ H D I h
  refine wpAny_For (thn (hi pins s σ H _ I h) fun v s1 h1 => thn h1 fun itv s2 h2 => ?_) hs
  obtain ⟨it, fp, tn, J, H2, e, I2, T, st2, f2, W, ⟨m0, w0⟩, turn⟩ := h2
  subst e
  -- what stays true of the iterator's objects through the loop
  have stat : ∀ {H' : Hp}, (∀ b ∈ fp, H' b = none) → ∀ b ∈ fp, FpOk X pins H' b := fun hn b hb => ⟨hn b hb, (f2 b hb).2⟩
  refine codeAny_forLoop_any (fun n s' => ∃ i σ' H', Inv X pins σ' H' s' ∧ tn i s'.heap ∧ (∀ b ∈ fp, H' b = none) ∧ W i n σ' H') ?_ m0 ⟨0, σ, H2, I2, st2, fun b hb => (f2 b hb).1, w0⟩
  rintro n s3 ⟨i, σ3, H3, I3, st3, fr3, w3⟩
  rcases turn i n σ3 H3 w3 with ⟨stop, qn⟩ | ⟨go, N, hN, step⟩
  · refine wpAny_passesOwn hp (thn (T.done X rfl rfl rfl hc i pins s3 σ3 H3 X.xe I3 (stat fr3) st3 stop) fun r s4 ⟨hr, I4⟩ => ?_)
    subst hr
    exact wpAny_execs_nil ⟨σ3, H3, I4, qn⟩
  · refine wpAny_passesOwn hp (thn (T.item X rfl rfl rfl hc i pins s3 σ3 H3 X.xe I3 (stat fr3) st3 go) fun r s4 ⟨u, hr, h4⟩ => ?_)
    subst hr
    refine wpAny_passesOwn hp (thn h4 fun _ s5 ⟨x, H5, I5, r5, y5, st5, fr5⟩ => ?_)
    have I5' := I5.pinned (stat fr5) (T.obj _ _ st5)
    refine wpAny_passesOwn hp (thn (hg _ s5 σ3 H5 x u _ I5' r5 (step x H5 y5)) fun _ s6 ⟨σ6, H6, I6, q6⟩ => ?_)
    refine wpAny_passesOwn hp (thn (hb _ s6 σ6 H6 _ I6 q6) fun f s7 q7 => ?_)
    have again : ∀ {σ7 : St} {H7 : Hp}, Inv X (pins ++ pinsAt fp s5.heap) σ7 H7 s7 → N σ7 H7 → ∃ m, m < n ∧ ∃ i σ' H', Inv X pins σ' H' s7 ∧ tn i s7.heap ∧ (∀ b ∈ fp, H' b = none) ∧ W i m σ' H' := fun {σ7 H7} I7 n7 => by
      obtain ⟨m', hm, w7⟩ := hN σ7 H7 n7
      refine ⟨m', hm, i + 1, σ7, H7, I7.unpinned, T.keep _ _ _ st5 fun b hb o e => (I7.pin (b, o) (List.mem_append_right _ (List.mem_append_right _ (mem_pinsAt hb e)))).1, fun b hb => ?_, w7⟩
      obtain ⟨o, e, d⟩ := T.obj _ _ st5 b hb
      exact (I7.pin (b, o) (List.mem_append_right _ (List.mem_append_right _ (mem_pinsAt hb e)))).2.1
    cases f with
    | next => obtain ⟨σ7, H7, I7, n7⟩ := q7; exact again I7 n7
    | cont => obtain ⟨σ7, H7, I7, n7⟩ := q7; exact again I7 n7
    | brk => obtain ⟨σ7, H7, I7, q7⟩ := q7; exact ⟨σ7, H7, I7.unpinned, q7⟩
    | ret v => obtain ⟨x7, σ7, H7, I7, r7, q7⟩ := q7; exact ⟨x7, σ7, H7, I7.unpinned, r7, q7⟩
end

/-! ### the forms one uses -/
theorem for_range {lo : Int} {n : Nat} {g : TG} {tb : TS} {D : Ends} {σ : St} {H : Hp} (Pv : Nat → St → Hp → Prop) (h0 : Pv 0 σ H)
    (hs : ∀ i σ H, i < n → Pv i σ H → g (.int (lo + i)) σ H fun σ2 H2 => tb { D with nx := Pv (i + 1), ct := Pv (i + 1), bk := D.nx } σ2 H2) (hd : ∀ σ H, Pv n σ H → D.nx σ H) :
    ∃ W : Nat → Nat → St → Hp → Prop, (∃ m, W 0 m σ H) ∧ ∀ i m σ H, W i m σ H →
      ((Itr lo n).stop i H ∧ D.nx σ H) ∨ ((Itr lo n).go i H ∧ ∃ N : St → Hp → Prop, (∀ σ' H', N σ' H' → ∃ m', m' < m ∧ W (i + 1) m' σ' H') ∧ ∀ x H', (Itr lo n).yld i H x H' → g x σ H' fun σ2 H2 => tb { D with nx := N, ct := N, bk := D.nx } σ2 H2) := by
  refine ⟨fun i m σ H => m = n - i ∧ i ≤ n ∧ Pv i σ H, ⟨n, by simp, Nat.zero_le _, h0⟩, ?_⟩
  rintro i m σ H ⟨rfl, hi, p⟩
  by_cases hlt : i < n
  · refine .inr ⟨hlt, Pv (i + 1), fun σ' H' p' => ⟨n - (i + 1), by omega, rfl, hlt, p'⟩, fun x H' y => ?_⟩
    obtain ⟨e, y⟩ := y
    subst e y
    exact hs i σ _ hlt p
  · have e : i = n := by omega
    subst e
    exact .inl ⟨Nat.le_refl _, hd σ H p⟩
end L2

namespace L2
open PySem PySem.Spec PyProof.Rows

abbrev R2 := V → V → Hp → VK → Prop
/-- a two-place operation on values: f is binaryOp op, inplaceOp op or compareOp op -/
def OpR (X : Cx) (f : Value → Value → Sem Value) (r : R2) : Prop :=
  ∀ (pins : List (Addr × Obj)) (s : Shared) (σ : St) (H : Hp) (x y : V) (v u : Value) (Q : VK), Inv X pins σ H s → RelV x v → RelV y u → r x y H Q →
    wpAny (model X.prog X.w) X.A (f v u) (EP X pins σ Q) X.xe s
/-- a one-place operation -/
def UnR (X : Cx) (f : Value → Sem Value) (r : V → Hp → VK → Prop) : Prop :=
  ∀ (pins : List (Addr × Obj)) (s : Shared) (σ : St) (H : Hp) (x : V) (v : Value) (Q : VK), Inv X pins σ H s → RelV x v → r x H Q →
    wpAny (model X.prog X.w) X.A (f v) (EP X pins σ Q) X.xe s
/-- a call of a value that is known (a builtin, a type) with values -/
def CallR (X : Cx) (f : Value) (r : List V → Hp → VK → Prop) : Prop :=
  ∀ (pins : List (Addr × Obj)) (s : Shared) (σ : St) (H : Hp) (xs : List V) (us : List Value) (Q : VK), Inv X pins σ H s → Vals xs us → r xs H Q →
    wpAny (model X.prog X.w) X.A (call f us) (EP X pins σ Q) X.xe s
/-- a value's truth -/
def TruR (X : Cx) (r : V → Hp → (Bool → Hp → Prop) → Prop) : Prop :=
  ∀ (pins : List (Addr × Obj)) (s : Shared) (σ : St) (H : Hp) (x : V) (v : Value) (Q : Bool → Hp → Prop), Inv X pins σ H s → RelV x v → r x H Q →
    wpAny (model X.prog X.w) X.A (truthy v) (TP X pins σ Q) X.xe s

def tOp (r : R2) (ta tb : TE) : TE := fun σ H Q => ta σ H fun x H1 => tb σ H1 fun y H2 => r x y H2 Q
def tUn (r : V → Hp → VK → Prop) (ta : TE) : TE := fun σ H Q => ta σ H fun x H1 => r x H1 Q
/-- ints in, under C, and a value out -/
def rI (C : Int → Int → Prop) (g : Int → Int → V) : R2 := fun x y H Q => ∃ i j, x = .int i ∧ y = .int j ∧ C i j ∧ Q (g i j) H
def rI0 (g : Int → Int → V) : R2 := fun x y H Q => ∃ i j, x = .int i ∧ y = .int j ∧ Q (g i j) H
def rU (g : Int → V) : V → Hp → VK → Prop := fun x H Q => ∃ i, x = .int i ∧ Q (g i) H

section
variable {X : Cx} {a b c : Expr} {ta tb tc : TE} {pos : Pos}

theorem binT (ha : PE X a ta) (hb : PE X b tb) {pins : List (Addr × Obj)} {s : Shared} {σ : St} {H : Hp} {R : V → V → Hp → Prop} (I : Inv X pins σ H s)
    (h : ta σ H fun x H1 => tb σ H1 fun y H2 => R x y H2) {Q : Value → Shared → Prop} {f : Value → Value → Sem Value}
    (hf : ∀ v u s2 x y H2, Inv X pins σ H2 s2 → RelV x v → RelV y u → R x y H2 → wpAny (model X.prog X.w) X.A (f v u) Q X.xe s2) :
    wpAny (model X.prog X.w) X.A (eval a X.env) (fun v s₁ => wpAny (model X.prog X.w) X.A (eval b X.env) (fun u s₂ => wpAny (model X.prog X.w) X.A (f v u) Q X.xe s₂) X.xe s₁) X.xe s := by
  refine thn (ha pins s σ H _ I h) fun v s1 ⟨x, H1, I1, r1, q1⟩ => ?_
  refine thn (hb pins s1 σ H1 _ I1 q1) fun u s2 ⟨y, H2, I2, r2, q2⟩ => ?_
  exact hf v u s2 x y H2 I2 r1 r2 q2

theorem pe_op {op : Operator} {r : R2} (ho : OpR X (binaryOp op) r) (ha : PE X a ta) (hb : PE X b tb) : PE X (.BinOp a op b pos) (tOp r ta tb) := by
  intro pins s σ H Q I h
  exact wpAny_BinOp (binT ha hb I h fun v u s2 x y H2 I2 rx ry q => ho pins s2 σ H2 x y v u Q I2 rx ry q)
theorem pe_un {op : UnaryOp} {r : V → Hp → VK → Prop} (ho : UnR X (unaryOp op) r) (ha : PE X a ta) : PE X (.UnaryOp op a pos) (tUn r ta) := by
  intro pins s σ H Q I h
  exact UnaryOp_ (thn (ha pins s σ H _ I h) fun v s1 ⟨x, H1, I1, r1, q1⟩ => ho pins s1 σ H1 x v Q I1 r1 q1)
/-! ### ints -/
theorem opI {f : Value → Value → Sem Value} {C : Int → Int → Prop} {g : Int → Int → Int}
    (rule : ∀ (i j : Int) (t u : Tok) (s : Shared) (Q : Value → Shared → Prop) (E : Value → Shared → Prop), C i j → Q (.int (g i j) s.toks) { s with toks := s.toks + 1 } → wpAny (model X.prog X.w) X.A (f (.int i t) (.int j u)) Q E s) :
    OpR X f (rI C fun i j => .int (g i j)) := by
  intro pins s σ H x y v u Q I rx ry h
  obtain ⟨i, j, rfl, rfl, hc, q⟩ := h
  obtain ⟨t, rfl⟩ := rx
  obtain ⟨t', rfl⟩ := ry
  exact rule i j t t' s _ _ hc ⟨.int (g i j), H, I.tok _, ⟨_, rfl⟩, q⟩
theorem opI0 {f : Value → Value → Sem Value} {g : Int → Int → Int}
    (rule : ∀ (i j : Int) (t u : Tok) (s : Shared) (Q : Value → Shared → Prop) (E : Value → Shared → Prop), Q (.int (g i j) s.toks) { s with toks := s.toks + 1 } → wpAny (model X.prog X.w) X.A (f (.int i t) (.int j u)) Q E s) :
    OpR X f (rI0 fun i j => .int (g i j)) := by
  intro pins s σ H x y v u Q I rx ry h
  obtain ⟨i, j, rfl, rfl, q⟩ := h
  obtain ⟨t, rfl⟩ := rx
  obtain ⟨t', rfl⟩ := ry
  exact rule i j t t' s _ _ ⟨.int (g i j), H, I.tok _, ⟨_, rfl⟩, q⟩
theorem opB0 {f : Value → Value → Sem Value} {g : Int → Int → Bool}
    (rule : ∀ (i j : Int) (t u : Tok) (s : Shared) (Q : Value → Shared → Prop) (E : Value → Shared → Prop), Q (.bool (g i j)) s → wpAny (model X.prog X.w) X.A (f (.int i t) (.int j u)) Q E s) :
    OpR X f (rI0 fun i j => .bl (g i j)) := by
  intro pins s σ H x y v u Q I rx ry h
  obtain ⟨i, j, rfl, rfl, q⟩ := h
  obtain ⟨t, rfl⟩ := rx
  obtain ⟨t', rfl⟩ := ry
  exact rule i j t t' s _ _ ⟨.bl (g i j), H, I, rfl, q⟩

def CDiv (i j : Int) : Prop := 0 < j ∧ j < 1073741824
def CMul (i j : Int) : Prop := (-(2 ^ 64) < i ∧ i < 2 ^ 64) ∨ (-(2 ^ 64) < j ∧ j < 2 ^ 64)
theorem CMul.ok {i j : Int} (h : CMul i j) : IntMulOk i j := by
  rcases h with ⟨h1, h2⟩ | ⟨h1, h2⟩
  · exact .of_left (intBits_le_64 h1 h2)
  · exact .of_right (intBits_le_64 h1 h2)
theorem op_add : OpR X (binaryOp .Add) (rI0 fun i j => .int (i + j)) := opI0 fun _ _ _ _ _ _ _ q => add_int q
theorem op_sub : OpR X (binaryOp .Sub) (rI0 fun i j => .int (i - j)) := opI0 fun _ _ _ _ _ _ _ q => sub_int q
theorem op_mul : OpR X (binaryOp .Mult) (rI CMul fun i j => .int (i * j)) := opI fun _ _ _ _ _ _ _ hc q => mul_int q hc.ok
/-- // by a positive divisor -/
theorem op_fdiv : OpR X (binaryOp .FloorDiv) (rI CDiv fun i j => .int (i / j)) := opI fun i j _ _ _ _ _ hc q => by
  have h1 : (0 : Int) < j := hc.1
  have h2 : j < 1073741824 := hc.2
  exact floordiv_int (by omega) (by rw [Int.fdiv_eq_ediv_of_nonneg i (by omega)]; exact q) (.inl (PyProof.noPylong_small (by omega)))
/-- % by a positive divisor of any size -/
theorem op_mod : OpR X (binaryOp .Mod) (rI (fun _ j => 0 < j) fun i j => .int (i % j)) := opI fun i j _ _ _ _ _ hc q => by
  have h1 : (0 : Int) < j := hc
  exact mod_int' (by omega) (by rw [Int.fmod_eq_emod_of_nonneg i (by omega)]; exact q)
theorem unI {f : Value → Sem Value} {g : Int → Int}
    (rule : ∀ (i : Int) (t : Tok) (s : Shared) (Q : Value → Shared → Prop) (E : Value → Shared → Prop), Q (.int (g i) s.toks) { s with toks := s.toks + 1 } → wpAny (model X.prog X.w) X.A (f (.int i t)) Q E s) :
    UnR X f (rU fun i => .int (g i)) := by
  intro pins s σ H x v Q I rx h
  obtain ⟨i, rfl, q⟩ := h
  obtain ⟨t, rfl⟩ := rx
  exact rule i t s _ _ ⟨.int (g i), H, I.tok _, ⟨_, rfl⟩, q⟩
theorem un_neg : UnR X (unaryOp .USub) (rU fun i => .int (-i)) := unI fun _ _ _ _ _ q => neg_int q
/-! ### bools among ints: n += (a < b) -/
end

/-! ### comparisons -/
/-- the scalars that == tells apart as data does -/
def scal : V → V → Bool
  | .non, .non => true | .non, .int _ => true | .int _, .non => true | .non, .bl _ => true | .bl _, .non => true | .non, .str _ => true | .str _, .non => true
  | .int _, .int _ => true | .bl _, .bl _ => true | .str _, .str _ => true | .byt _, .byt _ => true
  | .int _, .str _ => true | .str _, .int _ => true | .bl _, .str _ => true | .str _, .bl _ => true
  | _, _ => false
def rEq : R2 := fun x y H Q => scal x y = true ∧ Q (.bl (decide (x = y))) H
def rNe : R2 := fun x y H Q => scal x y = true ∧ Q (.bl (!decide (x = y))) H

theorem dec_int {i j : Int} : decide (V.int i = V.int j) = (i == j) := by
  rw [Bool.eq_iff_iff]
  simp
theorem dec_bl {i j : Bool} : decide (V.bl i = V.bl j) = (i == j) := by
  rw [Bool.eq_iff_iff]
  simp
theorem dec_str {i j : Str} : decide (V.str i = V.str j) = (i == j) := by
  rw [Bool.eq_iff_iff]
  simp
theorem dec_byt {i j : Array UInt8} : decide (V.byt i = V.byt j) = (i.toList == j.toList) := by
  rw [Bool.eq_iff_iff]
  cases i
  cases j
  simp

section
variable {X : Cx} {a b c : Expr} {ta tb tc : TE} {pos : Pos}
theorem fin_bl {pins : List (Addr × Obj)} {σ : St} {H : Hp} {s : Shared} {Q : VK} {k k' : Bool} (I : Inv X pins σ H s) (q : Q (.bl k) H) (e : k = k') : EP X pins σ Q (.bool k') s := by
  subst e
  exact ⟨.bl k, H, I, rfl, q⟩
theorem op_eq : OpR X (compareOp .Eq) rEq := by
  intro pins s σ H x y v u Q I rx ry h
  obtain ⟨hs, q⟩ := h
  cases x with
  | non =>
    cases rx
    cases y with
    | non => cases ry; exact PySem.EqNone.eq_none_none (fin_bl I q (by simp))
    | bl j => cases ry; exact PySem.EqNone.eq_none_bool (fin_bl I q (by simp))
    | int j => obtain ⟨t', rfl⟩ := ry; exact PySem.EqNone.eq_none_int (fin_bl I q (by simp))
    | str j => obtain ⟨t', rfl⟩ := ry; exact PySem.EqNone.eq_none_str (fin_bl I q (by simp))
    | _ => exact absurd (show false = true from hs) Bool.false_ne_true
  | bl i =>
    cases rx
    cases y with
    | non => cases ry; exact PySem.EqNone.eq_bool_none (fin_bl I q (by simp))
    | bl j => cases ry; exact eq_bool (fin_bl I q dec_bl)
    | str j => obtain ⟨t', rfl⟩ := ry; exact PySem.EqMixed.eq_bool_str (fin_bl I q (by simp))
    | _ => exact absurd (show false = true from hs) Bool.false_ne_true
  | int i =>
    obtain ⟨t, rfl⟩ := rx
    cases y with
    | non => cases ry; exact PySem.EqNone.eq_int_none (fin_bl I q (by simp))
    | int j => obtain ⟨t', rfl⟩ := ry; exact eq_int (fin_bl I q dec_int)
    | str j => obtain ⟨t', rfl⟩ := ry; exact PySem.EqMixed.eq_int_str (fin_bl I q (by simp))
    | _ => exact absurd (show false = true from hs) Bool.false_ne_true
  | str i =>
    obtain ⟨t, rfl⟩ := rx
    cases y with
    | non => cases ry; exact PySem.EqNone.eq_str_none (fin_bl I q (by simp))
    | bl j => cases ry; exact PySem.EqMixed.eq_str_bool (fin_bl I q (by simp))
    | int j => obtain ⟨t', rfl⟩ := ry; exact PySem.EqMixed.eq_str_int (fin_bl I q (by simp))
    | str j => obtain ⟨t', rfl⟩ := ry; exact eq_str (fin_bl I q dec_str)
    | _ => exact absurd (show false = true from hs) Bool.false_ne_true
  | byt i =>
    obtain ⟨t, rfl⟩ := rx
    cases y with
    | byt j => obtain ⟨t', rfl⟩ := ry; exact PySem.W.eq_bytes (fin_bl I q dec_byt)
    | _ => exact absurd (show false = true from hs) Bool.false_ne_true
  | _ => cases y <;> exact absurd (show false = true from hs) Bool.false_ne_true
theorem op_ne : OpR X (compareOp .NotEq) rNe := by
  intro pins s σ H x y v u Q I rx ry h
  obtain ⟨hs, q⟩ := h
  cases x with
  | non =>
    cases rx
    cases y with
    | non => cases ry; exact PySem.EqNone.ne_none_none (fin_bl I q (by simp))
    | bl j => cases ry; exact PySem.EqNone.ne_none_bool (fin_bl I q (by simp))
    | int j => obtain ⟨t', rfl⟩ := ry; exact PySem.EqNone.ne_none_int (fin_bl I q (by simp))
    | str j => obtain ⟨t', rfl⟩ := ry; exact PySem.EqNone.ne_none_str (fin_bl I q (by simp))
    | _ => exact absurd (show false = true from hs) Bool.false_ne_true
  | bl i =>
    cases rx
    cases y with
    | non => cases ry; exact PySem.EqNone.ne_bool_none (fin_bl I q (by simp))
    | bl j => cases ry; exact ne_bool (fin_bl I q (congrArg not dec_bl))
    | str j => obtain ⟨t', rfl⟩ := ry; exact PySem.EqMixed.ne_bool_str (fin_bl I q (by simp))
    | _ => exact absurd (show false = true from hs) Bool.false_ne_true
  | int i =>
    obtain ⟨t, rfl⟩ := rx
    cases y with
    | non => cases ry; exact PySem.EqNone.ne_int_none (fin_bl I q (by simp))
    | int j => obtain ⟨t', rfl⟩ := ry; exact ne_int (fin_bl I q (congrArg not dec_int))
    | str j => obtain ⟨t', rfl⟩ := ry; exact PySem.EqMixed.ne_int_str (fin_bl I q (by simp))
    | _ => exact absurd (show false = true from hs) Bool.false_ne_true
  | str i =>
    obtain ⟨t, rfl⟩ := rx
    cases y with
    | non => cases ry; exact PySem.EqNone.ne_str_none (fin_bl I q (by simp))
    | bl j => cases ry; exact PySem.EqMixed.ne_str_bool (fin_bl I q (by simp))
    | int j => obtain ⟨t', rfl⟩ := ry; exact PySem.EqMixed.ne_str_int (fin_bl I q (by simp))
    | str j => obtain ⟨t', rfl⟩ := ry; exact ne_str (fin_bl I q (congrArg not dec_str))
    | _ => exact absurd (show false = true from hs) Bool.false_ne_true
  | byt i =>
    obtain ⟨t, rfl⟩ := rx
    cases y with
    | byt j => obtain ⟨t', rfl⟩ := ry; exact PySem.W.ne_bytes (fin_bl I q (congrArg not dec_byt))
    | _ => exact absurd (show false = true from hs) Bool.false_ne_true
  | _ => cases y <;> exact absurd (show false = true from hs) Bool.false_ne_true

theorem op_lt : OpR X (compareOp .Lt) (rI0 fun i j => .bl (decide (i < j))) := opB0 fun _ _ _ _ _ _ _ q => lt_int q
theorem op_le : OpR X (compareOp .LtE) (rI0 fun i j => .bl (decide (i ≤ j))) := opB0 fun _ _ _ _ _ _ _ q => le_int q
theorem op_gt : OpR X (compareOp .Gt) (rI0 fun i j => .bl (decide (j < i))) := opB0 fun _ _ _ _ _ _ _ q => gt_int q
/-- the one string within the other -/
theorem op_in_str : OpR X (compareOp .In) (fun x y H Q => ∃ i j, x = .str i ∧ y = .str j ∧ Q (.bl (!(Builtin.Str.occurrences j i 0 j.length 1).isEmpty)) H) := by
  intro pins s σ H x y v u Q I rx ry h
  obtain ⟨i, j, rfl, rfl, q⟩ := h
  obtain ⟨t, rfl⟩ := rx
  obtain ⟨t', rfl⟩ := ry
  exact in_str (fin_bl I q rfl)

/-- is None, is not None: the right side a value none -/
theorem op_isN : OpR X (compareOp .Is) (fun x y H Q => y = .non ∧ Q (.bl (decide (x = .non))) H) := by
  intro pins s σ H x y v u Q I rx ry h
  obtain ⟨rfl, q⟩ := h
  cases ry
  refine is_none_gen (fin_bl I q ?_)
  cases x <;> first
    | (cases rx; rfl)
    | (obtain ⟨t, rfl⟩ := rx; rfl)
/-- two rules for one operation: by cases -/
theorem OpR.or {f : Value → Value → Sem Value} {r r' : R2} (h : OpR X f r) (h' : OpR X f r') : OpR X f (fun x y H Q => r x y H Q ∨ r' x y H Q) := by
  intro pins s σ H x y v u Q I rx ry q
  rcases q with q | q
  · exact h pins s σ H x y v u Q I rx ry q
  · exact h' pins s σ H x y v u Q I rx ry q

theorem nomark (b : Expr) {op : CmpOp} (h : op ≠ .In := by decide) (h2 : op ≠ .NotIn := by decide) : behindInMarks op b = false := by
  have e1 : (op == CmpOp.In) = false := by cases op <;> first | rfl | exact absurd rfl h
  have e2 : (op == CmpOp.NotIn) = false := by cases op <;> first | rfl | exact absurd rfl h2
  cases b <;> simp [behindInMarks, e1, e2]
/-- a comparison as a value; hm: nomark b, or (for in, not in) by with_unfolding_all rfl -/
theorem pe_cmpR {op : CmpOp} {r : R2} (ho : OpR X (compareOp op) r) (ha : PE X a ta) (hb : PE X b tb) (hm : behindInMarks op b = false) : PE X (.Compare a [op] [b] pos) (tOp r ta tb) := by
  intro pins s σ H Q I h
  exact wpAny_Compare1 (binT ha hb I h fun v u s2 x y H2 I2 rx ry q => ho pins s2 σ H2 x y v u Q I2 rx ry q) hm
/-- a reading of a value as a test -/
def tTest (t : TE) : TT := fun σ H Q => t σ H fun x H' => ∃ k, x = .bl k ∧ Q k H'
theorem pt_cmpR {op : CmpOp} {r : R2} (ho : OpR X (compareOp op) r) (ha : PE X a ta) (hb : PE X b tb) (hm : behindInMarks op b = false) : PT X (.Compare a [op] [b] pos) (tTest (tOp r ta tb)) := by
  intro pins s σ H Q I h
  refine wpAny_isTrue_Compare1 (thn (ha pins s σ H _ I h) fun v s1 ⟨x, H1, I1, r1, q1⟩ => thn (hb pins s1 σ H1 _ I1 q1) fun u s2 ⟨y, H2, I2, r2, q2⟩ =>
    thn (ho pins s2 σ H2 x y v u _ I2 r1 r2 q2) fun c s3 ⟨z, H3, I3, r3, k, e, q3⟩ => ?_) hm
  subst e
  cases r3
  exact wpAny_truthy_bool ⟨H3, I3, q3⟩
/-- a op1 b op2 c -/
def tChain (r r' : R2) (ta tb tc : TE) : TE := fun σ H Q => ta σ H fun x H1 => tb σ H1 fun y H2 => r x y H2 fun z H3 => ∃ k, z = .bl k ∧
  (if k = true then tc σ H3 fun w' H4 => r' y w' H4 Q else Q (.bl false) H3)
theorem pe_chain {op op' : CmpOp} {r r' : R2} (ho : OpR X (compareOp op) r) (ho' : OpR X (compareOp op') r') (ha : PE X a ta) (hb : PE X b tb) (hc : PE X c tc)
    (hm : lastMarks [op, op'] [b, c] = false := by with_unfolding_all rfl) : PE X (.Compare a [op, op'] [b, c] pos) (tChain r r' ta tb tc) := by
  intro pins s σ H Q I h
  refine Compare_chain (thn (ha pins s σ H _ I h) fun v s1 ⟨x, H1, I1, r1, q1⟩ => chain_link (thn (hb pins s1 σ H1 _ I1 q1) fun u s2 ⟨y, H2, I2, r2, q2⟩ =>
    thn (ho pins s2 σ H2 x y v u _ I2 r1 r2 q2) fun d s3 ⟨z, H3, I3, r3, k, e, q3⟩ => ?_)) hm
  subst e
  cases r3
  refine wpAny_truthy_bool ?_
  cases k with
  | false => exact ite_ff ⟨.bl false, H3, I3, rfl, q3⟩
  | true => exact ite_tt (chain_last (thn (hc pins s3 σ H3 _ I3 q3) fun w' s4 ⟨z', H4, I4, r4, q4⟩ => ho' pins s4 σ H4 y z' u w' Q I4 r2 r4 q4))
theorem pt_chain {op op' : CmpOp} {r r' : R2} (ho : OpR X (compareOp op) r) (ho' : OpR X (compareOp op') r') (ha : PE X a ta) (hb : PE X b tb) (hc : PE X c tc)
    (hm : lastMarks [op, op'] [b, c] = false := by with_unfolding_all rfl) : PT X (.Compare a [op, op'] [b, c] pos) (tTest (tChain r r' ta tb tc)) := by
  intro pins s σ H Q I h
  refine isTrue_chain (thn (ha pins s σ H _ I h) fun v s1 ⟨x, H1, I1, r1, q1⟩ => test_link (thn (hb pins s1 σ H1 _ I1 q1) fun u s2 ⟨y, H2, I2, r2, q2⟩ =>
    thn (ho pins s2 σ H2 x y v u _ I2 r1 r2 q2) fun d s3 ⟨z, H3, I3, r3, k, e, q3⟩ => ?_)) hm
  subst e
  cases r3
  refine wpAny_truthy_bool ?_
  cases k with
  | false =>
    obtain ⟨k', e', q'⟩ := q3
    cases e'
    exact ite_ff ⟨H3, I3, q'⟩
  | true =>
    refine ite_tt (test_last (thn (hc pins s3 σ H3 _ I3 q3) fun w' s4 ⟨z', H4, I4, r4, q4⟩ => thn (ho' pins s4 σ H4 y z' u w' _ I4 r2 r4 q4) fun d' s5 ⟨z2, H5, I5, r5, k2, e2, q5⟩ => ?_))
    subst e2
    cases r5
    exact wpAny_truthy_bool ⟨H5, I5, q5⟩

/-! ### truth -/
/-- a value's truth by the abstract heap -/
def TruV (K : PySem.W.Frag) (x : V) (H : Hp) (k : Bool) : Prop :=
  match x with
  | .non => k = false
  | .bl b => k = b
  | .int i => k = (i != 0)
  | .str y => y.length ≤ sizeLine ∧ k = ((y.length : Int) != 0)
  | .byt y => y.size ≤ sizeLine ∧ k = ((y.size : Int) != 0)
  | .ref p => (∃ xs, SqL K H p xs ∧ k = !xs.isEmpty) ∨ (∃ xs, SqT K H p xs ∧ k = !xs.isEmpty) ∨ ∃ kvs, H p = some (.dK kvs) ∧ k = !kvs.isEmpty
  | _ => False
theorem isEmpty_kv {κ : Type} {kvs : List (κ × V)} {vs : List (κ × Value)} (r : KV kvs vs) : (!vs.isEmpty) = !kvs.isEmpty := by
  cases r <;> rfl
theorem isEmpty_of {xs : List V} {its : List Value} (r : Vals xs its) : (!its.toArray.isEmpty) = !xs.isEmpty := by
  cases r <;> simp
theorem line63 : (sizeLine : Nat) < 2 ^ 63 := by rw [sizeLine_eq]; decide
theorem tru_ok : TruR X (fun x H Q => ∃ k, TruV X.K x H k ∧ Q k H) := by
  intro pins s σ H x v Q I rx h
  obtain ⟨k, e, q⟩ := h
  have hl := line63
  have hs : sizeLine = 16777216 := sizeLine_eq
  cases x with
  | non =>
    cases rx
    have e' : k = false := e
    subst e'
    exact truthy_none ⟨H, I, q⟩
  | bl b =>
    cases rx
    have e' : k = b := e
    subst e'
    exact wpAny_truthy_bool ⟨H, I, q⟩
  | int i =>
    obtain ⟨t, rfl⟩ := rx
    have e' : k = (i != 0) := e
    subst e'
    exact PySem.P.truthy_int ⟨H, I, q⟩
  | str y =>
    obtain ⟨t, rfl⟩ := rx
    obtain ⟨hy, e'⟩ : y.length ≤ sizeLine ∧ k = ((y.length : Int) != 0) := e
    subst e'
    exact PySem.P.truthy_str (by omega) ⟨H, I.tok _, q⟩
  | byt y =>
    obtain ⟨t, rfl⟩ := rx
    obtain ⟨hy, e'⟩ : y.size ≤ sizeLine ∧ k = ((y.size : Int) != 0) := e
    subst e'
    exact PySem.W.truthy_bytes (by omega) ⟨H, I.tok _, q⟩
  | ref p =>
    cases rx
    have e' : (∃ xs, SqL X.K H p xs ∧ k = !xs.isEmpty) ∨ (∃ xs, SqT X.K H p xs ∧ k = !xs.isEmpty) ∨ ∃ kvs, H p = some (.dK kvs) ∧ k = !kvs.isEmpty := e
    rcases e' with ⟨xs, hx, e'⟩ | ⟨xs, hx, e'⟩ | ⟨kvs, hx, e'⟩
    · subst e'
      obtain ⟨its, r, pl, hz⟩ := I.list hx
      have hlen := r.length
      exact wpAny_truthy_list pl.isList (by simp only [List.size_toArray]; omega) ⟨H, I.tok _, by rw [isEmpty_of r]; exact q⟩
    · subst e'
      obtain ⟨its, r, pl, hz⟩ := I.tuple hx
      have hlen := r.length
      exact truthy_tuple pl (by simp only [List.size_toArray]; omega) ⟨H, I.tok _, by rw [isEmpty_of r]; exact q⟩
    · subst e'
      obtain ⟨hz, hS, vs, r, m⟩ : kvs.length ≤ sizeLine ∧ (p == sysModules) = false ∧ ∃ vs, KV kvs vs ∧ s.heap.DictOf (mixKind X.prog X.w) p vs := I.hok p _ hx
      have hlen : kvs.length = vs.length := Paired.length r
      exact wpAny_truthy_dict hS m (by omega) ⟨H, I.tok _, by rw [isEmpty_kv r]; exact q⟩
  | _ => exact (show False from e).elim
/-- any expression whose test is its value's truth (a name, a call, a subscript, a field ..: he by fun _ => rfl) -/
theorem pt_truth (ha : PE X a ta) (he : ∀ whole, isTrue a X.env whole = (do let v ← whole; standAt a.pos; holding [v] (truthy v))) :
    PT X a (fun σ H Q => ta σ H fun x H' => ∃ k, TruV X.K x H' k ∧ Q k H') := by
  intro pins s σ H Q I h
  exact isTrue_plain (thn (ha pins s σ H _ I h) fun v s1 ⟨x, H1, I1, r1, q1⟩ => tru_ok pins s1 σ H1 x v Q I1 r1 q1) (he _)

/-! ### strs and bytes -/
theorem op_add_str : OpR X (binaryOp .Add) (fun x y H Q => ∃ i j, x = .str i ∧ y = .str j ∧ i.length + j.length ≤ sizeLine ∧ Q (.str (i ++ j)) H) := by
  intro pins s σ H x y v u Q I rx ry h
  obtain ⟨i, j, rfl, rfl, hz, q⟩ := h
  obtain ⟨t, rfl⟩ := rx
  obtain ⟨t', rfl⟩ := ry
  exact add_str (fun t' tk => ⟨.str (i ++ j), H, I.tok _, ⟨_, rfl⟩, q⟩) hz
/-! ### scalar builtins, by CallR -/
theorem vals1 {x : V} {us : List Value} (r : Vals [x] us) : ∃ u, us = [u] ∧ RelV x u := by
  cases r with
  | cons r1 r2 => cases r2; exact ⟨_, rfl, r1⟩
theorem vals2 {x y : V} {us : List Value} (r : Vals [x, y] us) : ∃ u w', us = [u, w'] ∧ RelV x u ∧ RelV y w' := by
  cases r with
  | cons r1 r2 =>
    cases r2 with
    | cons r3 r4 => cases r4; exact ⟨_, _, rfl, r1, r3⟩
theorem call_int1 : CallR X (.type "int") (fun xs H Q => (∃ i, xs = [.int i] ∧ Q (.int i) H) ∨ ∃ k, xs = [.bl k] ∧ Q (.int (if k then 1 else 0)) H) := by
  intro pins s σ H xs us Q I r h
  rcases h with ⟨i, rfl, q⟩ | ⟨k, rfl, q⟩
  · obtain ⟨u, rfl, t, rfl⟩ := vals1 r
    exact call_int_int ⟨.int i, H, I, ⟨_, rfl⟩, q⟩
  · obtain ⟨u, rfl, r1⟩ := vals1 r
    cases r1
    exact call_int_bool ⟨.int (if k then 1 else 0), H, I.tok _, ⟨_, rfl⟩, q⟩
/-- divmod: a new tuple -/
theorem call_divmod : CallR X (.builtin "divmod") (fun xs H Q => ∃ i j, xs = [.int i, .int j] ∧ CDiv i j ∧ ∀ p, H p = none → Q (.ref p) (upd H p (.tup [.int (i / j), .int (i % j)]))) := by
  intro pins s σ H xs us Q I r h
  obtain ⟨i, j, rfl, ⟨h1, h2⟩, q⟩ := h
  obtain ⟨u, w', rfl, ⟨t, rfl⟩, ⟨t', rfl⟩⟩ := vals2 r
  refine divmod_int (by omega) ?_ (.inl (PyProof.noPylong_small (by omega)))
  rw [Int.fdiv_eq_ediv_of_nonneg i (by omega), Int.fmod_eq_emod_of_nonneg i (by omega)]
  have hn : H s.heap.objs.size = none := I.hok.fresh (Nat.le_refl _)
  refine ⟨.ref s.heap.objs.size, _, ?_, rfl, q _ hn⟩
  refine I.laid (fun b o e => Heap.get?_push_of_some _ e) (Nat.le_refl _) ⟨by simp only [List.length_cons, List.length_nil]; rw [sizeLine_eq]; decide, [.int (i / j) s.toks, .int (i % j) (s.toks + 1)], .cons ⟨_, rfl⟩ (.cons ⟨_, rfl⟩ .nil), ?_⟩
  exact ⟨_, Heap.get?_push_size s.heap rfl, rfl, 0, rfl⟩
end
end L2

namespace L2
open PySem PySem.Spec PyProof.Rows

/-! ### an instance, its attributes a map -/
structure ObjM (h : Heap) (x dx C : Addr) (mA : Str → Option Value) : Prop where
  obj : h.get? x = some (PySem.W.instObj C dx)
  ns : h.Ns1 dx mA
  ne : dx ≠ x

theorem lookIn_ns {h : Heap} {dx : Addr} {mA : Str → Option Value} (n : h.Ns1 dx mA) : ∃ od, h.get? dx = some od ∧ ∀ name, PySem.W.lookIn name od = some (mA name) := by
  obtain ⟨o, es, ep, ho, hd, hk, _, hm⟩ := n
  refine ⟨o, ho, fun name => ?_⟩
  have e := hm name
  unfold nsFind findBy at e
  rw [← Array.find?_toList] at e
  unfold PySem.W.lookIn
  rw [hd]
  dsimp only
  split
  · rename_i y q
    rw [q] at e
    exact congrArg some e
  · rename_i q
    rw [q] at e
    have a : es.toList.any (·.refKey) = false := by
      rw [List.any_eq_false]
      intro y hy
      obtain ⟨z, t, hkey⟩ := hk y (Array.mem_toList_iff.mp hy)
      simp [DictEntry.refKey, hkey]
    have a' : ¬ es.toList.any (·.refKey) = true := by rw [a]; exact Bool.false_ne_true
    rw [if_neg a']
    exact congrArg some e

theorem ObjM.look {h : Heap} {x dx C : Addr} {mA : Str → Option Value} (I : ObjM h x dx C mA) : ∃ od, PySem.W.InstAt h x (PySem.W.instObj C dx) C (some od) ∧ ∀ name, PySem.W.lookIn name od = some (mA name) :=
  let ⟨od, ho, hl⟩ := lookIn_ns I.ns
  ⟨od, ⟨I.obj, rfl, rfl, ho⟩, hl⟩

section
variable {prog : Program} {w : World} {A : Around} {E : Value → Shared → Prop} {s : Shared} {K : PySem.W.Frag} {x dx C f : Addr} {mA : Str → Option Value} {name : Str} {v : Value}

theorem get_map {expr : Bool} {Q : Value → Shared → Prop} (X : K.In s.heap) (I : ObjM s.heap x dx C mA) (hg : PySem.W.plainGet K C name = true) (hh : PySem.W.hasDictIn K C = true)
    (ha : PySem.W.findIn K (.ref C) name = some none) (hv : mA name = some v) (hv' : PySem.W.handedIn v = true) (h : Q v { s with toks := s.toks + 1 }) :
    wpAny (model prog w) A (getAttr (.ref x) name expr) Q E s := by
  obtain ⟨od, J, hl⟩ := I.look
  exact PySem.W.get_value X J (PySem.W.plainGet_of hg).1 (PySem.W.findObj_own hh ha rfl (by rw [hl, hv])) hv' h

theorem set_map {ns : List Str} {Q : Unit → Shared → Prop} (X : K.In s.heap) (I : ObjM s.heap x dx C mA)
    (hs : PySem.W.findIn K (.ref C) "__setattr__" = some (some (.builtin "object.__setattr__"))) (hp : PySem.W.plainOver K C = true) (ht : PySem.W.takerIn K C name = some none) (hh : PySem.W.hasDictIn K C = true)
    (hw : PySem.Within mA ns) (hsz : ns.length ≤ sizeLine)
    (h : ∀ h', ObjM h' x dx C (fun y => if y = name then some v else mA y) → Heap.SameBut dx s.heap h' → Q () { s with heap := h', toks := s.toks + 2 }) :
    wpAny (model prog w) A (setAttr (.ref x) name v) Q E s := by
  obtain ⟨od, J, hl⟩ := I.look
  refine PySem.W.set_plain X J hs (PySem.W.osa_open (s := { s with toks := s.toks + 1 }) (r := none) X J hp ht fun b => ?_)
  obtain ⟨cd, hc, hd'⟩ := PySem.W.any_some hh
  have hx : s.heap.get? x = some ⟨.ref C, some dx, .plain, #[]⟩ := I.obj
  refine wpAny_bind (wpAny_pure (wpAny_bind (wpAny_bind (wpAny_loadPart hx (wpAny_bind (PySem.W.Looks.here (s := { s with toks := s.toks + 1 }) (PySem.W.looks_clsIn X hc) ?_))))))
  rw [hd']
  refine wpAny_pure (a := some dx) (wpAny_bind (wpAny_pure (wpAny_bind ?_)))
  refine wpAny_nsSet1 (s := { s with toks := s.toks + 1 }) I.ns fun h' hn2 hs2 => ?_
  obtain ⟨oD, esD, epD, hoD, hdD, hcD⟩ := hn2.count (PySem.Within.cons name v hw)
  refine wpAny_bind (wpAny_lookBehind hoD (by rw [hdD]; exact pastItsLine_dict (Nat.le_trans hcD (by rw [List.length_cons]; omega))) ?_)
  exact wpAny_pure (h _ ⟨(hs2.2 _ (Ne.symm I.ne)).trans I.obj, hn2, I.ne⟩ hs2)

/-- C(..): the dict at the heap's end, the instance behind it; then its __init__ -/
theorem make_map {R : Result → Shared → Prop} {vs : List Value} {kw : List (Str × Value)} (X : K.In s.heap) (hm : PySem.W.makesIn K C = true)
    (hi : PySem.W.findIn K (.ref C) "__init__" = some (some (.ref f))) (hf : PySem.W.typeIn K (.ref f) = some (.type "function"))
    (h : codeAny (model prog w) (A.under (.builtin "type.__call__" ⟨.ref C :: vs, kw⟩)) (.call (.ref f) ⟨.ref (s.heap.objs.size + 1) :: vs, kw⟩) (PySem.W.InitBack (s.heap.objs.size + 1) R)
      { s with heap := (s.heap.push PySem.W.emptyDict).push (PySem.W.instObj C s.heap.objs.size) }) :
    codeAny (model prog w) A (.call (.ref C) ⟨vs, kw⟩) R s := by
  obtain ⟨hh, g, d, t, os⟩ := s
  exact PySem.W.make_core (PySem.W.makes_of X hm) (PySem.W.looks_findIn X hi) (fun self => PySem.W.bind_fn X self hf) (.inl rfl) h
end

/-! ### the attributes as a list of pairs -/
def putF (f : Str) (v : V) : List (Str × V) → List (Str × V)
  | [] => [(f, v)]
  | (g, x) :: r => if g = f then (g, v) :: r else (g, x) :: putF f v r
theorem lookup_putF (f g : Str) (v : V) : ∀ fs : List (Str × V), (putF f v fs).lookup g = if g = f then some v else fs.lookup g
  | [] => by
    show List.lookup g [(f, v)] = _
    by_cases h : g = f
    · have hb : (g == f) = true := beq_iff_eq.mpr h
      simp only [List.lookup, hb, if_pos h]
    · have hb : (g == f) = false := beq_eq_false_iff_ne.mpr h
      simp only [List.lookup, hb, if_neg h]
  | (k, x) :: r => by
    have ih := lookup_putF f g v r
    rw [show putF f v ((k, x) :: r) = (if k = f then (k, v) :: r else (k, x) :: putF f v r) from rfl]
    by_cases hk : k = f
    · rw [if_pos hk]
      by_cases h : g = k
      · have hb : (g == k) = true := beq_iff_eq.mpr h
        simp only [List.lookup, hb, if_pos (h.trans hk)]
      · have hb : (g == k) = false := beq_eq_false_iff_ne.mpr h
        simp only [List.lookup, hb, if_neg (fun e : g = f => h (e.trans hk.symm))]
    · rw [if_neg hk]
      by_cases h : g = k
      · have hb : (g == k) = true := beq_iff_eq.mpr h
        simp only [List.lookup, hb, if_neg (fun e : g = f => hk (h.symm.trans e))]
      · have hb : (g == k) = false := beq_eq_false_iff_ne.mpr h
        simp only [List.lookup, hb]
        exact ih
theorem keys_putF (f : Str) (v : V) : ∀ fs : List (Str × V), f ∈ (putF f v fs).map (·.1) ∧ ∀ g, g ∈ fs.map (·.1) → g ∈ (putF f v fs).map (·.1)
  | [] => ⟨by simp [putF], fun g h => by simp at h⟩
  | (k, x) :: r => by
    obtain ⟨i1, i2⟩ := keys_putF f v r
    rw [show putF f v ((k, x) :: r) = (if k = f then (k, v) :: r else (k, x) :: putF f v r) from rfl]
    by_cases hk : k = f
    · rw [if_pos hk]
      subst hk
      exact ⟨by simp, fun g h => by simpa using h⟩
    · rw [if_neg hk]
      refine ⟨?_, fun g h => ?_⟩
      · rw [List.map_cons]
        exact List.mem_cons_of_mem _ i1
      · rw [List.map_cons] at h ⊢
        rcases List.mem_cons.mp h with e | e
        · exact List.mem_cons.mpr (.inl e)
        · exact List.mem_cons_of_mem _ (i2 g e)
theorem length_putF (f : Str) (v : V) : ∀ fs : List (Str × V), (putF f v fs).length ≤ fs.length + 1
  | [] => by simp [putF]
  | (k, x) :: r => by
    have ih := length_putF f v r
    rw [show putF f v ((k, x) :: r) = (if k = f then (k, v) :: r else (k, x) :: putF f v r) from rfl]
    by_cases hk : k = f
    · rw [if_pos hk, List.length_cons, List.length_cons]; omega
    · rw [if_neg hk, List.length_cons, List.length_cons]; omega

theorem RelO.some_of {v : V} {o : Option Value} (r : RelO (some v) o) : ∃ u, o = some u ∧ RelV v u := by
  cases o with
  | none => exact (show False from r).elim
  | some u => exact ⟨u, rfl, r⟩
theorem handed_of {v : V} {u : Value} (r : RelV v u) : PySem.W.handedIn u = true := by
  cases v with
  | non => cases (show u = Value.none from r); rfl
  | bl b => cases (show u = Value.bool b from r); rfl
  | int i => obtain ⟨t, e⟩ := (show ∃ t, u = Value.int i t from r); cases e; rfl
  | str x => obtain ⟨t, e⟩ := (show ∃ t, u = Value.str x t from r); cases e; rfl
  | byt b => obtain ⟨t, e⟩ := (show ∃ t, u = Value.bytes b t from r); cases e; rfl
  | flt b => obtain ⟨t, e⟩ := (show ∃ t, u = Value.float b t from r); cases e; rfl
  | ref a => cases (show u = Value.ref a from r); rfl
  | ty n => cases (show u = Value.type n from r); rfl

section
variable {P : Program} {w : World} {H H' : Hp} {h h' : Heap} {a C dx : Addr} {fs fs' : List (Str × V)}
theorem ins_get (hok : HOk P w H h) (e : H a = some (.ins C dx fs)) : ∃ mA, ObjM h a dx C mA ∧ (∀ f, RelO (fs.lookup f) (mA f)) ∧ PySem.Within mA (fs.map (·.1)) ∧ fs.length ≤ 1000 ∧ H dx = some (.own a) := by
  obtain ⟨d, z, ne, ob, mA, n, r, q⟩ := (show ObjOk P w H h a (.ins C dx fs) from hok a _ e)
  exact ⟨mA, ⟨ob, n, ne⟩, r, q, z, d⟩
end

/-! ### what of the text a class must have -/
structure Cls (K : PySem.W.Frag) (C : Addr) : Prop where
  pg : PySem.W.plainGet K C Str.empty = true
  hd : PySem.W.hasDictIn K C = true
  po : PySem.W.plainOver K C = true
  sa : PySem.W.findIn K (.ref C) "__setattr__" = some (some (.builtin "object.__setattr__"))
theorem Cls.get {K : PySem.W.Frag} {C : Addr} (c : Cls K C) (f : Str) : PySem.W.plainGet K C f = true := c.pg
/-- no class of it has the name -/
def NoAttr (K : PySem.W.Frag) (C : Addr) (f : Str) : Prop := PySem.W.findIn K (.ref C) f = some none
theorem NoAttr.taker {K : PySem.W.Frag} {C : Addr} {f : Str} (n : NoAttr K C f) : PySem.W.takerIn K C f = some none := by
  unfold PySem.W.takerIn
  rw [show PySem.W.findIn K (.ref C) f = some none from n]
  rfl
/-- a constant of the class -/
structure Con (K : PySem.W.Frag) (C : Addr) (f : Str) (v : V) (u : Value) : Prop where
  at_ : PySem.W.findIn K (.ref C) f = some (some u)
  rel : RelV v u
  get : PySem.W.specialIn K u "__get__" = some none
  cp : PySem.W.copiedNames.contains f = false
/-- a method: a plain def of the class or of one above it -/
structure Meth (K : PySem.W.Frag) (C : Addr) (m : Str) (f : Addr) : Prop where
  at_ : PySem.W.findIn K (.ref C) m = some (some (.ref f))
  fn : PySem.W.isFn K (.ref f) = true
  kp : PySem.W.keepIn K (.ref f) = true

section
variable {X : Cx} {pins : List (Addr × Obj)} {σ : St} {H : Hp} {s : Shared} {a C dx : Addr} {fs : List (Str × V)} {f : Str} {v : V} {A : Around} {E : Value → Shared → Prop}

theorem getattr_ok {b : Bool} {Q : Value → Shared → Prop} (I : Inv X pins σ H s) (e : H a = some (.ins C dx fs)) (c : Cls X.K C) (n : NoAttr X.K C f) (l : fs.lookup f = some v)
    (h : ∀ u s', Inv X pins σ H s' → RelV v u → Q u s') : wpAny (model X.prog X.w) A (getAttr (.ref a) f b) Q E s := by
  obtain ⟨mA, O, r, _, _, _⟩ := ins_get I.hok e
  obtain ⟨u, hu, ru⟩ := RelO.some_of (v := v) (o := mA f) (by rw [← l]; exact r f)
  exact get_map I.kIn O (c.get f) c.hd n hu (handed_of ru) (h u _ (I.tok _) ru)

theorem setattr_ok {y : V} {u : Value} {Q : Unit → Shared → Prop} (I : Inv X pins σ H s) (e : H a = some (.ins C dx fs)) (c : Cls X.K C) (n : NoAttr X.K C f) (hl : fs.length < 1000) (ry : RelV y u)
    (h : ∀ s', Inv X pins σ (upd H a (.ins C dx (putF f y fs))) s' → Q () s') : wpAny (model X.prog X.w) A (setAttr (.ref a) f u) Q E s := by
  obtain ⟨mA, O, r, wi, _, ho⟩ := ins_get I.hok e
  have hz : (fs.map (·.1)).length ≤ sizeLine := by rw [List.length_map, sizeLine_eq]; omega
  refine set_map I.kIn O c.sa c.po n.taker c.hd wi hz fun h' O' sb => h _ ?_
  have hd : ∃ o, h'.get? dx = some o := let ⟨o, _, _, e', _⟩ := O'.ns; ⟨o, e'⟩
  refine I.write (x := a) (e := dx) (by rw [e]; exact True.intro) (.inr ho) (fun b q hb z => (sb.2 b hb).trans z) hd ?_
  refine ⟨by rw [upd_ne O.ne]; exact ho, ?_, O.ne, O'.obj, _, O'.ns, fun g => ?_, fun g hg => ?_⟩
  · have := length_putF f y fs; omega
  · show RelO ((putF f y fs).lookup g) (if g = f then some u else mA g)
    rw [lookup_putF]
    by_cases q : g = f
    · rw [if_pos q, if_pos q]; exact ry
    · rw [if_neg q, if_neg q]; exact r g
  · by_cases q : g = f
    · rw [q]; exact (keys_putF f y fs).1
    · refine (keys_putF f y fs).2 g (wi g fun z => hg ?_)
      show (if g = f then some u else mA g) = none
      rw [if_neg q]; exact z

/-- a new instance, tracked, without attributes -/
theorem Inv.made (I : Inv X pins σ H s) : Inv X pins σ (upd (upd H s.heap.objs.size (.own (s.heap.objs.size + 1))) (s.heap.objs.size + 1) (.ins C s.heap.objs.size []))
    { s with heap := (s.heap.push PySem.W.emptyDict).push (PySem.W.instObj C s.heap.objs.size) } := by
  have e1 : (s.heap.push PySem.W.emptyDict).get? s.heap.objs.size = some PySem.W.emptyDict := Heap.get?_push_size s.heap rfl
  have e2 : ((s.heap.push PySem.W.emptyDict).push (PySem.W.instObj C s.heap.objs.size)).get? (s.heap.objs.size + 1) = some (PySem.W.instObj C s.heap.objs.size) := by
    have := Heap.get?_push_size (s.heap.push PySem.W.emptyDict) (o := PySem.W.instObj C s.heap.objs.size) rfl
    rwa [Heap.size_push] at this
  have e3 : (s.heap.push PySem.W.emptyDict).Ns s.heap.objs.size (fun _ => none) := ⟨PySem.W.emptyDict, #[], _, e1, rfl, (fun e he => absurd he (by simp)), fun _ => rfl⟩
  have I1 := I.laid (a := s.heap.objs.size) (o := .own (s.heap.objs.size + 1)) (h' := s.heap.push PySem.W.emptyDict) (t' := s.toks) (fun b u q => Heap.get?_push_of_some _ q) (Nat.le_refl _) ⟨_, e1⟩
  refine I1.laid (a := s.heap.objs.size + 1) (o := .ins C s.heap.objs.size []) (t' := s.toks) (fun b u q => Heap.get?_push_of_some _ q) (Nat.le_of_eq (Heap.size_push _ _)) ?_
  have ne : s.heap.objs.size ≠ s.heap.objs.size + 1 := Nat.ne_of_lt (Nat.lt_succ_self _)
  refine ⟨by rw [upd_ne ne, upd_same], Nat.zero_le _, ne, e2, fun _ => none, (Heap.Ns1.of_empty e3).at fun o q => Heap.get?_push_of_some _ q, fun _ => True.intro, fun y hy => absurd rfl hy⟩

/-- e.f where nothing but the object is asked: through attributeBase (super) and the last hold -/
theorem attr_of {prog : Program} {w : World} {env : Env} {e : Expr} {f : Str} {pos : Pos} {s : Shared} {Q : Value → Shared → Prop} (hb : attributeBase e f env (eval e env) = eval e env)
    (h : wpAny (model prog w) A (eval e env) (fun o s₁ => wpAny (model prog w) A (getAttr o f true) Q E s₁) E s) : wpAny (model prog w) A (eval (.Attribute e f pos) env) Q E s :=
  Attribute_any_ h (by rw [arm_eval_Attribute, hb])
end

/-! ### readings and rules -/
/-- e.f, an attribute of the instance -/
def tFld (K : PySem.W.Frag) (ta : TE) (f : Str) : TE := fun σ H Q => ta σ H fun x H1 => ∃ a C dx fs v, x = .ref a ∧ H1 a = some (.ins C dx fs) ∧ Cls K C ∧ NoAttr K C f ∧ fs.lookup f = some v ∧ Q v H1
/-- e.f = value -/
def sFld (K : PySem.W.Frag) (ta tv : TE) (f : Str) : TS := fun D σ H => tv σ H fun y H1 => ta σ H1 fun x H2 => ∃ a C dx fs, x = .ref a ∧ H2 a = some (.ins C dx fs) ∧ Cls K C ∧ NoAttr K C f ∧ fs.length < 1000 ∧
  D.nx σ (upd H2 a (.ins C dx (putF f y fs)))
section
variable {X : Cx} {o e value : Expr} {f : Str} {pos pos' tpos : Pos} {ta tv : TE}
theorem pe_fld (he : PE X e ta) (hb : attributeBase e f X.env (eval e X.env) = eval e X.env) : PE X (.Attribute e f pos) (tFld X.K ta f) := by
  intro pins s σ H Q I h
  refine attr_of hb (thn (he pins s σ H _ I h) fun u s1 ⟨x, H1, I1, rx, a, C, dx, fs, v, ex, ea, c, n, l, q⟩ => ?_)
  subst ex
  obtain rfl : u = Value.ref a := rx
  exact getattr_ok I1 ea c n l fun u' s2 I2 ru => ⟨v, H1, I2, ru, q⟩
theorem ps_fld (ha : PE X o ta) (hv : PE X value tv) (hs : swapsWith value (some (.Attribute o f pos')) pos.line X.env = pure false) : PS X (.Assign [.Attribute o f pos'] value pos) (sFld X.K ta tv f) := by
  intro pins s σ H D I h
  refine plainObj_wpAny_Assign_Attribute (thn (hv pins s σ H _ I h) fun u s1 ⟨y, H1, I1, ry, q⟩ => thn (ha pins s1 σ H1 _ I1 q) fun ov s2 ⟨x, H2, I2, rx, a, C, dx, fs, ex, ea, c, n, l, q2⟩ => ?_) hs
  subst ex
  obtain rfl : ov = Value.ref a := rx
  exact setattr_ok I2 ea c n l ry fun s3 I3 => ⟨σ, _, I3, q2⟩
end

/-! ### isinstance -/
section
variable {X : Cx} {pins : List (Addr × Obj)} {σ : St} {H : Hp} {s : Shared} {A : Around} {E : Value → Shared → Prop} {Q : Value → Shared → Prop} {c : Value} {b : Bool}
/-- the type of a value, as the fragment's deciders take it; for an instance its class -/
inductive TyOf (K : PySem.W.Frag) (H : Hp) : V → Value → Prop where
  | non : TyOf K H .non (.type "NoneType")
  | bl (x : Bool) : TyOf K H (.bl x) (.type "bool")
  | int (i : Int) : TyOf K H (.int i) (.type "int")
  | str (x : Str) : TyOf K H (.str x) (.type "str")
  | flt (x : UInt64) : TyOf K H (.flt x) (.type "float")
  | lst {a : Addr} {xs : List V} (e : H a = some (.lst xs)) : TyOf K H (.ref a) (.type "list")
  | frz {a : Addr} {o : Obj} {xs : List V} (e : H a = some (.frz o (.lst xs))) : TyOf K H (.ref a) (.type "list")
  | tup {a : Addr} {xs : List V} (e : H a = some (.tup xs)) : TyOf K H (.ref a) (.type "tuple")
  | dK {a : Addr} {kvs : List (Key × V)} (e : H a = some (.dK kvs)) : TyOf K H (.ref a) (.type "dict")
  | dT {a : Addr} {kvs : List (List Key × V)} (e : H a = some (.dT kvs)) : TyOf K H (.ref a) (.type "dict")
  | ins {a C dx : Addr} {fs : List (Str × V)} (e : H a = some (.ins C dx fs)) (cl : Cls K C) (ha : PySem.W.findIn K (.ref C) "__class__" = some (some (.builtin "object.__class__")))
      (hn : PySem.W.specialIn K (.builtin "object.__class__") "__get__" = some (some (.builtin "getset_descriptor.__get__"))) (htk : PySem.W.takesIn K (.builtin "object.__class__") = some true)
      (hm : PySem.W.mroIn K C (.type "object") = some true) : TyOf K H (.ref a) (.ref C)
/-- isinstance(x, c) for one class c, a built-in or an own one: kitOne's answer -/
theorem isinst_ok {x : V} {u t : Value} (I : Inv X pins σ H s) (rx : RelV x u) (ty : TyOf X.K H x t) (e : PySem.W.kitOne X.K t c = some b) (h : ∀ tk, Q (.bool b) { s with toks := tk }) :
    wpAny (model X.prog X.w) A (call (.builtin "isinstance") [u, c]) Q E s := by
  cases ty with
  | non => cases (show u = Value.none from rx); exact PySem.W.kia_one PySem.W.kitx_none I.kIn True.intro e (fun z => nomatch z) h
  | bl y => cases (show u = Value.bool y from rx); exact PySem.W.kia_one PySem.W.kitx_bool I.kIn True.intro e (fun z => nomatch z) h
  | int i => obtain ⟨t, q⟩ := (show ∃ t, u = Value.int i t from rx); cases q; exact PySem.W.kia_one PySem.W.kitx_int I.kIn True.intro e (fun z => nomatch z) h
  | str y => obtain ⟨t, q⟩ := (show ∃ t, u = Value.str y t from rx); cases q; exact PySem.W.kia_one PySem.W.kitx_str I.kIn True.intro e (fun z => nomatch z) h
  | flt y => obtain ⟨t, q⟩ := (show ∃ t, u = Value.float y t from rx); cases q; exact PySem.W.kia_one PySem.W.kitx_float I.kIn True.intro e (fun z => nomatch z) h
  | @lst a xs ea =>
    cases (show u = Value.ref a from rx)
    obtain ⟨_, _, n, _, h1⟩ := (show ObjOk X.prog X.w H s.heap a (.lst xs) from I.hok a _ ea)
    exact PySem.W.kia_one PySem.W.kitx_list I.kIn ⟨_, h1, rfl⟩ e (fun z => nomatch z) h
  | @frz a ob xs ea =>
    cases (show u = Value.ref a from rx)
    obtain ⟨_, _, _, n, _, h1⟩ := (show ObjOk X.prog X.w H s.heap a (.frz ob (.lst xs)) from I.hok a _ ea)
    exact PySem.W.kia_one PySem.W.kitx_list I.kIn ⟨_, h1, rfl⟩ e (fun z => nomatch z) h
  | @tup a xs ea =>
    cases (show u = Value.ref a from rx)
    obtain ⟨_, _, _, p⟩ := (show ObjOk X.prog X.w H s.heap a (.tup xs) from I.hok a _ ea)
    obtain ⟨o, h1, h2, _⟩ := p
    exact PySem.W.kia_one PySem.W.kitx_tuple I.kIn ⟨o, h1, h2⟩ e (fun z => nomatch z) h
  | @dK a kvs ea =>
    cases (show u = Value.ref a from rx)
    obtain ⟨_, _, vs, _, p⟩ := (show ObjOk X.prog X.w H s.heap a (.dK kvs) from I.hok a _ ea)
    obtain ⟨o, es, ep, h1, h2, _⟩ := p
    exact PySem.W.kia_one PySem.W.kitx_dict I.kIn ⟨o, h1, h2.1⟩ e (fun z => nomatch z) h
  | @dT a kvs ea =>
    cases (show u = Value.ref a from rx)
    obtain ⟨_, _, xs, _, o, es, ep, h1, h2, _⟩ := (show ObjOk X.prog X.w H s.heap a (.dT kvs) from I.hok a _ ea)
    exact PySem.W.kia_one PySem.W.kitx_dict I.kIn ⟨o, h1, h2.1⟩ e (fun z => nomatch z) h
  | @ins a C dx fs ea cl ha hn htk hm =>
    cases (show u = Value.ref a from rx)
    obtain ⟨mA, O, _⟩ := ins_get I.hok ea
    obtain ⟨od, J, _⟩ := O.look
    exact PySem.W.kia_one (PySem.W.kitx_own (cl.get _) cl.hd ha hn htk hm) I.kIn J e (fun z => nomatch z) h
end
end L2

namespace L2
open PySem PySem.Spec PyProof.Rows

/-! ### room -/
structure Room (cm : Bool) (k : Nat) (A : Around) : Prop where
  hd : cm = true → A.handled = none
  dp : A.depth + 3 * k + 5 < recursionLimit
  un : A.units + 16 * k + 200 < cLine
theorem Room.mono {cm : Bool} {j k : Nat} {A : Around} (r : Room cm k A) (h : j ≤ k) : Room cm j A := ⟨r.hd, by have := r.dp; omega, by have := r.un; omega⟩
theorem Room.deeper {cm : Bool} {k : Nat} {A : Around} (r : Room cm (k + 1) A) (env : Env) : Room cm k (A.deeper env) :=
  ⟨r.hd, by have := r.dp; show A.depth + 1 + 3 * k + 5 < _; omega, by have := r.un; show A.units + 3 + 16 * k + 200 < _; omega⟩
theorem Room.in1 {cm : Bool} {k : Nat} {A : Around} (r : Room cm (k + 1) A) : Room cm k A.in1 :=
  ⟨r.hd, by have := r.dp; show A.depth + 3 * k + 5 < _; omega, by have := r.un; show A.units + 1 + 16 * k + 200 < _; omega⟩
theorem make_depth {A : Around} {C : Addr} {us : List Value} {kw : List (Str × Value)} : (A.under (.builtin "type.__call__" ⟨.ref C :: us, kw⟩)).depth = A.depth + 1 := by
  first | rfl | simp [Around.under, Code.weight, Code.isCreation, Code.isGuard, Code.isCaller, Code.frames, Code.isFrame, guardIds]
theorem make_units {A : Around} {C : Addr} {us : List Value} {kw : List (Str × Value)} : (A.under (.builtin "type.__call__" ⟨.ref C :: us, kw⟩)).units = A.units + 1 := by
  first | rfl | simp [Around.under, Code.cUnits, Code.frames, Code.isFrame]
theorem Room.make {cm : Bool} {k : Nat} {A : Around} (r : Room cm (k + 1) A) (C : Addr) (us : List Value) (kw : List (Str × Value)) : Room cm k (A.under (.builtin "type.__call__" ⟨.ref C :: us, kw⟩)) :=
  ⟨r.hd, by have := r.dp; rw [make_depth]; omega, by have := r.un; rw [make_units]; omega⟩
theorem Room.depth {cm : Bool} {k : Nat} {A : Around} (r : Room cm k A) : A.depth < recursionLimit := by have := r.dp; omega
theorem Room.units {cm : Bool} {k : Nat} {A : Around} (r : Room cm k A) : A.units + 64 < cLine := by have := r.un; omega
/-! ### argument lists and displays -/
def tNil : TA := fun _ H Q => Q [] H
def tCons (ta : TE) (tr : TA) : TA := fun σ H Q => ta σ H fun x H1 => tr σ H1 fun xs H2 => Q (x :: xs) H2
section
variable {X : Cx} {e : Expr} {es : List Expr} {te : TE} {t : TA} {pos : Pos}
theorem pa_nil : PA X [] tNil := fun _ _ _ _ H Q I h => Calls.spliced_nil ⟨[], H, I, .nil, h⟩
theorem pa_cons (ha : PE X e te) (hr : PA X es t) (hs : starEach (e :: es) X.env = (false, eval e X.env) :: starEach es X.env := by rfl) : PA X (e :: es) (tCons te t) := by
  intro pos pins s σ H Q I h
  rw [hs]
  show wpAny _ _ (spliced ((false, eval e X.env) :: backTo pos (starEach es X.env))) _ _ s
  refine Calls.spliced_cons (thn (ha pins s σ H _ I h) fun u s1 ⟨x, H1, I1, r1, q1⟩ => ?_)
  exact thn (hr pos pins s1 σ H1 _ I1 q1) fun us s2 ⟨xs, H2, I2, r2, q2⟩ => ⟨x :: xs, H2, I2, .cons r1 r2, q2⟩

/-- a tuple, a list of written items -/
def tTup (t : TA) : TE := fun σ H Q => t σ H fun xs H1 => xs.length ≤ sizeLine ∧ ∀ p, H1 p = none → Q (.ref p) (upd H1 p (.tup xs))
def tLst (t : TA) : TE := fun σ H Q => t σ H fun xs H1 => xs.length ≤ sizeLine ∧ ∀ p, H1 p = none → Q (.ref p) (upd H1 p (.lst xs))
theorem pe_tup {x1} (h : PA X es t) : PE X (.Tuple es x1 pos) (tTup t) := by
  intro pins s σ H Q I hq
  refine wpAny_Tuple_spliced (thn (h pos pins s σ H _ I hq) fun us s1 ⟨xs, H1, I1, r, z, q⟩ => ⟨by rw [← r.length]; exact z, ?_⟩)
  have hf : H1 s1.heap.objs.size = none := I1.hok.fresh (Nat.le_refl _)
  refine ⟨.ref s1.heap.objs.size, upd H1 s1.heap.objs.size (.tup xs), I1.laid (t' := s1.toks) (fun b u e => Heap.get?_push_of_some _ e) (Nat.le_refl _) ?_, rfl, q _ hf⟩
  exact ⟨z, us, r, ⟨_, Heap.get?_push_size _ rfl, rfl, _, rfl⟩⟩
theorem pe_lst (h : PA X es t) : PE X (.List es pos) (tLst t) := by
  intro pins s σ H Q I hq
  refine wpAny_List_spliced (thn (h pos pins s σ H _ I hq) fun us s1 ⟨xs, H1, I1, r, z, q⟩ => ⟨by rw [← r.length]; exact z, ?_⟩)
  have hf : H1 s1.heap.objs.size = none := I1.hok.fresh (Nat.le_refl _)
  refine ⟨.ref s1.heap.objs.size, upd H1 s1.heap.objs.size (.lst xs), I1.laid (t' := s1.toks) (fun b u e => Heap.get?_push_of_some _ e) (Nat.le_refl _) ?_, rfl, q _ hf⟩
  exact ⟨z, us, 0, r, Heap.get?_push_size _ rfl⟩
end

/-! ### what a def promises -/
/-- a def's promise: the bound arguments in the parameters' order, the heap, the wanted end, the wanted exception -/
abbrev Sp := List V → Hp → VK → XK → Prop
/-- how an exception lies behind a call (file 08 gives it): the callers' frames, abstract heap and state ahead of the call, the wish, the exception, the state -/
abbrev CXT := List Env → Hp → Shared → XK → Value → Shared → Prop

/-- the state at a call -/
structure Env0 (P : Program) (w : World) (K : PySem.W.Frag) (mg : Str → Option Value) (base : Heap) (A : Around) (outer : List Env) (s : Shared) (H : Hp) : Prop where
  frames : A.frames = some outer
  mod : Mod K mg base
  bs : ∀ b o, base.get? b = some o → s.heap.get? b = some o ∧ H b = none
  bsz : base.objs.size ≤ s.heap.objs.size
  funs : s.heap.FunFrames base outer
  frf : ∀ b ∈ frs outer, H b = none
  hok : HOk P w H s.heap
  bare : AllBare s.gens
/-- a call's end -/
def CE (outer : List Env) (P : Program) (w : World) (H : Hp) (s : Shared) (Q : VK) (u : Value) (s' : Shared) : Prop :=
  ∃ v H', s'.os = s.os ∧ AllBare s'.gens ∧ Un (frs outer) [] H H' s.heap s'.heap ∧ HOk P w H' s'.heap ∧ RelV v u ∧ Q v H'
def CR (CX : CXT) (outer : List Env) (P : Program) (w : World) (H : Hp) (s : Shared) (Q : VK) (E : XK) (r : Result) (s' : Shared) : Prop :=
  match r with
  | .ok (.ret u) => CE outer P w H s Q u s'
  | .ok _ => False
  | .error e => CX outer H s E e s'
structure FnOk (P : Program) (w : World) (K : PySem.W.Frag) (mg : Str → Option Value) (base : Heap) (CX : CXT) (cm : Bool) (k : Nat) (f : Addr) (fd : FuncData) (ps : List Str) (sp : Sp) : Prop where
  len : ∀ vs H Q E, sp vs H Q E → vs.length = ps.length
  run : ∀ (A : Around) (outer : List Env) (s : Shared) (H : Hp) (args : Args) (us : List Value) (vs : List V) (Q : VK) (E : XK), Room cm k A → Env0 P w K mg base A outer s H → BindsTo s fd args (ps.zip us) → Vals vs us → sp vs H Q E →
    codeAny (model P w) A (.call (.ref f) args) (CR CX outer P w H s Q E) s
theorem FnOk.mono {cm : Bool} {P : Program} {w : World} {K : PySem.W.Frag} {mg : Str → Option Value} {base : Heap} {CX : CXT} {j k : Nat} {f : Addr} {fd : FuncData} {ps : List Str} {sp : Sp} (F : FnOk P w K mg base CX cm j f fd ps sp) (h : j ≤ k) :
    FnOk P w K mg base CX cm k f fd ps sp := ⟨F.len, fun A outer s H args us vs Q E hr => F.run A outer s H args us vs Q E (hr.mono h)⟩
/-- a weaker promise -/
theorem FnOk.imp {cm : Bool} {P : Program} {w : World} {K : PySem.W.Frag} {mg : Str → Option Value} {base : Heap} {CX : CXT} {k : Nat} {f : Addr} {fd : FuncData} {ps : List Str} {sp sp' : Sp} (F : FnOk P w K mg base CX cm k f fd ps sp)
    (h : ∀ vs H Q E, sp' vs H Q E → sp vs H Q E) : FnOk P w K mg base CX cm k f fd ps sp' :=
  ⟨fun vs H Q E q => F.len vs H Q E (h _ _ _ _ q), fun A outer s H args us vs Q E hr he hb hv hs => F.run A outer s H args us vs Q E hr he hb hv (h _ _ _ _ hs)⟩

theorem Env0.make {P : Program} {w : World} {K : PySem.W.Frag} {mg : Str → Option Value} {base : Heap} {A : Around} {outer : List Env} {s : Shared} {H : Hp} (e : Env0 P w K mg base A outer s H) (C : Addr) (us : List Value) (kw : List (Str × Value)) :
    Env0 P w K mg base (A.under (.builtin "type.__call__" ⟨.ref C :: us, kw⟩)) outer s H := ⟨by first | exact e.frames | (simpa [Around.under, Code.envs, Code.isFrame, pushEnvs] using e.frames), e.mod, e.bs, e.bsz, e.funs, e.frf, e.hok, e.bare⟩
theorem Env0.in1 {P : Program} {w : World} {K : PySem.W.Frag} {mg : Str → Option Value} {base : Heap} {A : Around} {outer : List Env} {s : Shared} {H : Hp} (e : Env0 P w K mg base A outer s H) :
    Env0 P w K mg base A.in1 outer s H := ⟨e.frames, e.mod, e.bs, e.bsz, e.funs, e.frf, e.hok, e.bare⟩

section
variable {X : Cx} {pins : List (Addr × Obj)} {σ : St} {H : Hp} {s s' : Shared}
/-- from a body: what a callee wants -/
theorem Inv.env0 (I : Inv X pins σ H s) : Env0 X.prog X.w X.K X.mg X.base X.A X.stack s H :=
  ⟨I.ok.frames, I.ok.mod, I.bs, Nat.le_trans I.ok.bsz I.sz, I.stack, I.stkFree, I.hok, I.bare⟩
/-- behind a call -/
theorem Inv.after {Q : VK} {u : Value} (I : Inv X pins σ H s) (h : CE X.stack X.prog X.w H s Q u s') : EP X pins σ Q u s' := by
  obtain ⟨v, H', os, bare, un, hok, r, q⟩ := h
  obtain ⟨hh, g, d, t, os'⟩ := s'
  obtain rfl : os' = s.os := os
  exact ⟨v, H', I.call (h' := hh) (g' := g) (d' := d) (t' := t) (ch := []) un hok bare (fun b z => absurd z (by simp)), r, q⟩
end

/-! ### calls -/
/-- f(..): the written arguments, then the defaults dvs; E: what is wanted of an exception -/
def tCall (sp : Sp) (dvs : List V) (E : XK) (t : TA) : TE := fun σ H Q => t σ H fun vs H1 => sp (vs ++ dvs) H1 Q E
/-- C(..): a new instance and its dict, then __init__ -/
def tMake (C : Addr) (sp : Sp) (dvs : List V) (E : XK) (t : TA) : TE := fun σ H Q => t σ H fun vs H1 => ∀ x dx, H1 x = none → H1 dx = none → dx ≠ x →
  sp (.ref x :: (vs ++ dvs)) (upd (upd H1 dx (.own x)) x (.ins C dx [])) (fun v H2 => v = .non ∧ Q (.ref x) H2) E

/-- how the parameters are bound: us the positional arguments, kw the keywords' values by name, ds the defaults that fill up -/
def Binds (K : PySem.W.Frag) (fd : FuncData) (ps : List Str) (ds : List Value) : Prop :=
  ∀ (s : Shared) (us : List Value), K.In s.heap → (us ++ ds).length = ps.length → BindsTo s fd ⟨us, []⟩ (ps.zip (us ++ ds))
/-- every parameter is given -/
theorem Binds.all {K : PySem.W.Frag} {fd : FuncData} {ps : List Str} (h : ∀ us : List Value, us.length = ps.length → bindArgs fd ⟨us, []⟩ = pure (ps.zip us)) : Binds K fd ps [] := fun s us _ hl => by
  rw [List.append_nil] at hl ⊢
  exact .of_eq (h us hl)

/-- an exception of a callee reaches what this body wants of exceptions -/
def Passes (CX : CXT) (X : Cx) (E : XK) : Prop := ∀ (pins : List (Addr × Obj)) (σ : St) (H : Hp) (s : Shared) (e : Value) (s' : Shared), Inv X pins σ H s → CX X.stack H s E e s' → X.xe e s'

section
variable {X : Cx} {CX : CXT} {cm : Bool} {k : Nat} {f C : Addr} {fd : FuncData} {ps : List Str} {sp : Sp} {dvs : List V} {ds : List Value} {E : XK} {x m : Str} {p pos apos : Pos} {e o : Expr} {es : List Expr} {ta : TE} {t : TA}

/-- the callee runs -/
theorem run_fn {pins : List (Addr × Obj)} {σ : St} {H : Hp} {s : Shared} {Q : VK} {us : List Value} {vs : List V} (F : FnOk X.prog X.w X.K X.mg X.base CX cm k f fd ps sp) (hr : Room cm k X.A) (hb : Binds X.K fd ps ds) (hd : Vals dvs ds) (hx : Passes CX X E)
    (I : Inv X pins σ H s) (r : Vals vs us) (h : sp (vs ++ dvs) H Q E) : wpAny (model X.prog X.w) X.A (call (.ref f) us) (EP X pins σ Q) X.xe s := by
  have r2 : Vals (vs ++ dvs) (us ++ ds) := r.append hd
  have hl : (us ++ ds).length = ps.length := by rw [← r2.length]; exact F.len _ _ _ _ h
  refine wpAny_call (codeAny_mono (F.run X.A X.stack s H ⟨us, []⟩ (us ++ ds) (vs ++ dvs) Q E hr I.env0 (hb s us I.kIn hl) r2 h) fun r s' hq => ?_)
  cases r with
  | error e => exact hx pins σ H s e s' I hq
  | ok fl =>
    cases fl with
    | ret u => exact I.after hq
    | next => exact False.elim hq
    | brk => exact False.elim hq
    | cont => exact False.elim hq

theorem pe_call (F : FnOk X.prog X.w X.K X.mg X.base CX cm k f fd ps sp) (hr : Room cm k X.A) (hg : Gl X x) (hm : X.mg x = some (.ref f)) (hk : PySem.W.keepIn X.K (.ref f) = true) (hb : Binds X.K fd ps ds) (hd : Vals dvs ds) (hx : Passes CX X E)
    (ha : PA X (e :: es) t) (hdb : (x == ("__debug__" : Str)) = false := by decide) (he : starEach (e :: es) X.env = (false, eval e X.env) :: starEach es X.env := by rfl) (hpl : (backTo pos (starEach es X.env)).any (·.1) = false := by rfl) :
    PE X (.Call (.Name x p) (e :: es) [] pos) (tCall sp dvs E t) := by
  intro pins s σ H Q I h
  refine wpAny_Call_Name_kw (ld_glob I hg hm ?_ hdb)
  refine PySem.W.callWith_K (h₀ := X.base) I.ok.mod.kin hk (thn (ha pos pins s σ H _ I h) fun us s1 ⟨vs, H1, I1, r, q⟩ => ⟨I1.kIn, ?_⟩) he hpl
  exact run_fn F hr hb hd hx I1 r q
/-- what a class must have to be made -/
structure Mk (K : PySem.W.Frag) (C f : Addr) : Prop where
  makes : PySem.W.makesIn K C = true
  init : PySem.W.findIn K (.ref C) "__init__" = some (some (.ref f))
  fn : PySem.W.isFn K (.ref f) = true
  kp : PySem.W.keepIn K (.ref C) = true

theorem run_make {pins : List (Addr × Obj)} {σ : St} {H : Hp} {s : Shared} {Q : VK} {us : List Value} {vs : List V} (M : Mk X.K C f) (F : FnOk X.prog X.w X.K X.mg X.base CX cm k f fd ps sp) (hr : Room cm (k + 1) X.A) (hb : Binds X.K fd ps ds) (hd : Vals dvs ds)
    (hx : Passes CX X E) (I : Inv X pins σ H s) (r : Vals vs us)
    (h : ∀ x dx, H x = none → H dx = none → dx ≠ x → sp (.ref x :: (vs ++ dvs)) (upd (upd H dx (.own x)) x (.ins C dx [])) (fun v H2 => v = .non ∧ Q (.ref x) H2) E) :
    wpAny (model X.prog X.w) X.A (call (.ref C) us) (EP X pins σ Q) X.xe s := by
  have hq := h (s.heap.objs.size + 1) s.heap.objs.size (I.hok.fresh (Nat.le_succ _)) (I.hok.fresh (Nat.le_refl _)) (Nat.ne_of_lt (Nat.lt_succ_self _))
  have I2 := Inv.made (C := C) I
  have r2 : Vals (V.ref (s.heap.objs.size + 1) :: (vs ++ dvs)) (Value.ref (s.heap.objs.size + 1) :: (us ++ ds)) := .cons rfl (r.append hd)
  have hl : (Value.ref (s.heap.objs.size + 1) :: us ++ ds).length = ps.length := by
    have e := r2.length
    rw [F.len _ _ _ _ hq] at e
    exact e.symm
  refine wpAny_call (make_map (f := f) I.kIn M.makes M.init (beq_iff_eq.mp M.fn) (codeAny_mono (F.run _ X.stack _ _ ⟨Value.ref (s.heap.objs.size + 1) :: us, []⟩ (Value.ref (s.heap.objs.size + 1) :: (us ++ ds)) _ _ E (hr.make C us [])
    (I2.env0.make C us []) (hb _ (Value.ref (s.heap.objs.size + 1) :: us) I2.kIn hl) r2 hq) fun r s' hq' => ?_))
  cases r with
  | error e => exact hx pins σ _ _ e s' I2 hq'
  | ok fl =>
    cases fl with
    | ret u =>
      obtain ⟨v, H', I3, rv, ev, q3⟩ := I2.after hq'
      subst ev
      exact ⟨rv, ⟨V.ref (s.heap.objs.size + 1), H', I3, rfl, q3⟩⟩
    | next => exact False.elim hq'
    | brk => exact False.elim hq'
    | cont => exact False.elim hq'
theorem pe_make (M : Mk X.K C f) (F : FnOk X.prog X.w X.K X.mg X.base CX cm k f fd ps sp) (hr : Room cm (k + 1) X.A) (hg : Gl X x) (hm : X.mg x = some (.ref C)) (hb : Binds X.K fd ps ds) (hd : Vals dvs ds) (hx : Passes CX X E)
    (ha : PA X (e :: es) t) (hdb : (x == ("__debug__" : Str)) = false := by decide) (he : starEach (e :: es) X.env = (false, eval e X.env) :: starEach es X.env := by rfl) (hpl : (backTo pos (starEach es X.env)).any (·.1) = false := by rfl) :
    PE X (.Call (.Name x p) (e :: es) [] pos) (tMake C sp dvs E t) := by
  intro pins s σ H Q I h
  refine wpAny_Call_Name_kw (ld_glob I hg hm ?_ hdb)
  refine PySem.W.callWith_K (h₀ := X.base) I.ok.mod.kin M.kp (thn (ha pos pins s σ H _ I h) fun us s1 ⟨vs, H1, I1, r, q⟩ => ⟨I1.kIn, ?_⟩) he hpl
  exact run_make M F hr hb hd hx I1 r q
end

/-! ### keywords -/
section
variable {X : Cx} {CX : CXT} {cm : Bool} {k : Nat} {f C : Addr} {fd : FuncData} {ps ks : List Str} {sp : Sp} {E : XK} {x m : Str} {p pos apos kpos : Pos} {e o : Expr} {es : List Expr} {kws : List Keyword} {te ta : TE} {t tk : TA} {nm : Option Str}
/-- how a call with keywords binds: g puts the positional values us and the keywords' values ws (names ks) in the parameters' order, defaults among them -/
structure KBinds (K : PySem.W.Frag) (fd : FuncData) (ps ks : List Str) (g : List Value → List Value → List Value) (gV : List V → List V → List V) : Prop where
  to : ∀ (s : Shared) (us ws : List Value), K.In s.heap → (g us ws).length = ps.length → BindsTo s fd ⟨us, ks.zip ws⟩ (ps.zip (g us ws))
  rel : ∀ {vs : List V} {us : List Value} {zs : List V} {ws : List Value}, Vals vs us → Vals zs ws → Vals (gV vs zs) (g us ws)
variable {g : List Value → List Value → List Value} {gV : List V → List V → List V}
end

/-! ### a def's body keeps its promise -/
/-- names: the parameters first -/
structure FnScope (N P : List Str) (sc : Scope) : Prop where
  kind : sc.kind = .function
  co : sc.isCoroutine = false
  gen : sc.isGenerator = false
  nd : N.Nodup
  pre : N.take P.length = P
  par : ∀ x ∈ P, sc.names.lookup x = some .local ∨ sc.names.lookup x = some .cell
  nofree : ∀ y ∈ sc.names, y.2 ≠ .free

theorem bindL_out {kindOf : Str → Option NameKind} {x : Str} : ∀ {binds : List (Str × Value)} {m : Str → Option Value}, (∀ v, (x, v) ∉ binds) → bindL kindOf binds m x = m x
  | [], _, _ => rfl
  | (n, v) :: r, m, h => by
    unfold bindL
    rw [bindL_out fun w hw => h w (List.mem_cons_of_mem _ hw)]
    split
    · have : x ≠ n := by rintro rfl; exact h v List.mem_cons_self
      simp [this]
    · rfl
theorem bindC_out {kindOf : Str → Option NameKind} {x : Str} : ∀ {binds : List (Str × Value)} {m : Str → Option Value}, (∀ v, (x, v) ∉ binds) → bindC kindOf binds m x = m x
  | [], _, _ => rfl
  | (n, v) :: r, m, h => by
    unfold bindC
    rw [bindC_out fun w hw => h w (List.mem_cons_of_mem _ hw)]
    split
    · rfl
    · have : x ≠ n := by rintro rfl; exact h v List.mem_cons_self
      simp [this]
theorem bindL_get {kindOf : Str → Option NameKind} {x : Str} {v : Value} : ∀ {P : List Str} {vs : List Value} {i : Nat} {m : Str → Option Value}, P.Nodup → P[i]? = some x → vs[i]? = some v → kindOf x = some .local →
    bindL kindOf (P.zip vs) m x = some v
  | [], _, _, _, _, h, _, _ => by simp at h
  | _ :: _, [], _, _, _, _, h, _ => by simp at h
  | p :: P, w :: vs, 0, m, nd, h1, h2, hk => by
    simp at h1 h2; subst h1; subst h2
    show bindL kindOf ((p, w) :: P.zip vs) m p = _
    unfold bindL
    rw [bindL_out fun v hv => (List.nodup_cons.mp nd).1 (List.of_mem_zip hv).1, if_pos hk]
    simp
  | p :: P, w :: vs, i + 1, m, nd, h1, h2, hk => by
    show bindL kindOf ((p, w) :: P.zip vs) m x = _
    unfold bindL
    exact bindL_get (i := i) (List.nodup_cons.mp nd).2 (by simpa using h1) (by simpa using h2) hk
theorem bindC_get {kindOf : Str → Option NameKind} {x : Str} {v : Value} : ∀ {P : List Str} {vs : List Value} {i : Nat} {m : Str → Option Value}, P.Nodup → P[i]? = some x → vs[i]? = some v → kindOf x ≠ some .local →
    bindC kindOf (P.zip vs) m x = some v
  | [], _, _, _, _, h, _, _ => by simp at h
  | _ :: _, [], _, _, _, _, h, _ => by simp at h
  | p :: P, w :: vs, 0, m, nd, h1, h2, hk => by
    simp at h1 h2; subst h1; subst h2
    show bindC kindOf ((p, w) :: P.zip vs) m p = _
    unfold bindC
    rw [bindC_out fun v hv => (List.nodup_cons.mp nd).1 (List.of_mem_zip hv).1, if_neg hk]
    simp
  | p :: P, w :: vs, i + 1, m, nd, h1, h2, hk => by
    show bindC kindOf ((p, w) :: P.zip vs) m x = _
    unfold bindC
    exact bindC_get (i := i) (List.nodup_cons.mp nd).2 (by simpa using h1) (by simpa using h2) hk

/-- the names' values at the entry -/
def start (N : List Str) (vs : List V) : St := vs.map some ++ List.replicate (N.length - vs.length) none

/-- the context of a def's body, at its entry; an exception leaves the frame, then lies as CX says -/
def cxOf (CX : CXT) (cm : Bool) (P : Program) (w : World) (K : PySem.W.Frag) (mg : Str → Option Value) (base : Heap) (N : List Str) (qual : Str) (scope : Scope) (f : Addr) (cd : Value) (A : Around) (outer : List Env) (s : Shared) (H : Hp) (E : XK) : Cx where
  prog := P
  w := w
  K := K
  mg := mg
  base := base
  A := A.deeper (envOfC qual scope s.heap.objs.size f cd)
  N := N
  s₀ := s
  H₀ := H
  env := envOfC qual scope s.heap.objs.size f cd
  outer := outer
  stack := envOfC qual scope s.heap.objs.size f cd :: outer
  ex := []
  calm := cm
  fn := fun _ => true
  pn := []
  xe := fun e s' => wpAny (model P w) (A.deeper (envOfC qual scope s.heap.objs.size f cd)) (leaving (envOfC qual scope s.heap.objs.size f cd) e) (fun _ s'' => CX outer H s E e s'') (fun e' s'' => CX outer H s E e' s'') s'

theorem cell_has {sc : Scope} {n : Nat} {x : Str} (h : sc.names.lookup x = some .cell) : ∃ c, (cellsFrom n sc.names []).lookup x = some c := by
  have q := PySem.W.cellsFrom_some sc.names n [] (.inl h)
  exact Option.isSome_iff_exists.mp q

theorem inv_start {cm : Bool} {CX : CXT} {P : Program} {w : World} {K : PySem.W.Frag} {mg : Str → Option Value} {base : Heap} {N ps : List Str} {qual : Str} {scope : Scope} {f : Addr} {cd : Value} {A : Around} {outer : List Env} {s s1 : Shared} {H : Hp} {E : XK} {us : List Value} {vs : List V}
    (S : FnScope N ps scope) (hd : cm = true → A.handled = none) (e0 : Env0 P w K mg base A outer s H) (hl : vs.length = ps.length) (r : Vals vs us)
    (x : InCallC s s.heap.objs.size (bindL (envOfC qual scope s.heap.objs.size f cd).kindOf (ps.zip us) fun _ => none) (cellsFrom (s.heap.objs.size + 1) scope.names []) (bindC (envOfC qual scope s.heap.objs.size f cd).kindOf (ps.zip us) fun _ => none) s1) :
    Inv (cxOf CX cm P w K mg base N qual scope f cd A outer s H E) [] (start N vs) H s1 := by
  have hpl : ps.length ≤ N.length := by have := congrArg List.length S.pre; rw [List.length_take] at this; omega
  obtain ⟨h1, tk, rfl, hk⟩ := x.done
  have noA : ∀ b : Addr, b ∉ (cxOf CX cm P w K mg base N qual scope f cd A outer s H E).ex := fun b z => absurd (show b ∈ ([] : List Addr) from z) (by simp)
  refine ⟨⟨e0.mod, S.kind, rfl, rfl, Nat.le_refl _, fun y z c h1 h2 => ?_, fun y hy => ?_, fun y c _ h => ?_, hd, Around.frames_deeper e0.frames, .inr ⟨rfl, rfl⟩, fun b z => absurd z (noA b), e0.bs, e0.bsz, fun b _ _ => noA b, fun b z => absurd z (noA b), e0.funs, e0.frf⟩,
    rfl, e0.bare, Un.kept hk, ⟨_, x.toInCall.ns, fun i y v h1 h2 h3 => ?_⟩, fun y c h => ⟨_, x.cell y c h⟩, e0.hok.fresh (Nat.le_refl _), fun y c h => ?_, fun p hp => absurd (show p ∈ ([] : List (Addr × Obj)) from hp) (by simp), e0.hok.kept hk, ?_⟩
  · exact name_of_addr x.apart (PySem.mem_of_lookup h1) (PySem.mem_of_lookup h2)
  · have hy : scope.names.lookup y = some .cell ∨ scope.names.lookup y = some .free := hy
    rcases hy with hy | hy
    · exact cell_has hy
    · exact absurd rfl (S.nofree _ (PySem.mem_of_lookup hy))
  · exact Nat.le_of_lt (x.above y c (PySem.mem_of_lookup h))
  · have hi : i < vs.length := by
      unfold start at h2
      by_cases hi : i < vs.length
      · exact hi
      · rw [List.getElem?_append_right (by simpa using hi)] at h2
        rw [List.getElem?_replicate] at h2
        split at h2 <;> cases h2
    have ha : vs[i]? = some v := by
      unfold start at h2
      rw [List.getElem?_append_left (by simpa using hi), List.getElem?_map] at h2
      cases e : vs[i]? with
      | none => rw [e] at h2; cases h2
      | some a => rw [e] at h2; cases h2; rfl
    obtain ⟨u, hu, rv⟩ := r.get ha
    have hp : ps[i]? = some y := by
      rw [← S.pre, List.getElem?_take_of_lt (by omega)]; exact h1
    have ndP : ps.Nodup := by rw [← S.pre]; exact S.nd.sublist (List.take_sublist _ _)
    refine ⟨u, rv, ?_⟩
    rcases S.par y (List.mem_of_getElem? hp) with k | k
    · exact .inl ⟨k, bindL_get ndP hp hu k⟩
    · obtain ⟨c, e⟩ := cell_has (n := s.heap.objs.size + 1) k
      refine .inr ⟨.inl k, c, e, ?_⟩
      have q := x.cell y c e
      rw [bindC_get ndP hp hu (by show scope.names.lookup y ≠ _; rw [k]; decide)] at q
      exact q
  · exact e0.hok.fresh (Nat.le_of_lt (x.above y c (PySem.mem_of_lookup h)))
  · unfold start
    show _ = N.length
    rw [List.length_append, List.length_map, List.length_replicate]
    omega

/-- THE RULE: a def (or a method) of the text, by its body. The body's reading t is chosen for each entry; it is run at the parameters' values -/
theorem fn_of {cm : Bool} {CX : CXT} {P : Program} {w : World} {K : PySem.W.Frag} {mg : Str → Option Value} {base : Heap} {k : Nat} {f : Addr} {name qual : Str} {params : Arguments} {body : List Stmt} {scope : Scope} {dV kV doc pm cdv ct oc : Value} {an od : Option Addr}
    {osl : Array (Option Value)} {N ps : List Str} {sp : Sp} (lk : K.lookup f = some ⟨oc, od, .func (PySem.W.fnOf name qual params body scope dV kV doc pm an cdv ct), osl⟩) (hcd : PySem.W.codeIn K cdv qual = true) (S : FnScope N ps scope)
    (len : ∀ vs H Q E, sp vs H Q E → vs.length = ps.length)
    (hbody : ∀ (A : Around) (outer : List Env) (s : Shared) (H : Hp) (vs : List V) (Q : VK) (E : XK), Room cm k (A.deeper (envOfC qual scope s.heap.objs.size f cdv)) → sp vs H Q E →
      ∃ t, PSs (cxOf CX cm P w K mg base N qual scope f cdv A outer s H E) body t ∧ t { nx := fun _ H' => Q .non H', rt := Q } (start N vs) H) :
    FnOk P w K mg base CX cm (k + 1) f (PySem.W.fnOf name qual params body scope dV kV doc pm an cdv ct) ps sp := by
  refine ⟨len, fun A outer s H args us vs Q E hr e0 hb r hsp => ?_⟩
  have hl := len _ _ _ _ hsp
  have KX : K.In s.heap := e0.mod.kin.keeps fun b o e => (e0.bs b o e).1
  have lim : s.heap.NoLimit := e0.mod.nolimit.keeps fun b o e => (e0.bs b o e).1
  have hkind : ∀ y ∈ ps.zip us, scope.names.lookup y.1 = some .local ∨ (scope.names.lookup y.1 = some .cell ∧ ((cellsFrom (s.heap.objs.size + 1) scope.names []).lookup y.1).isSome = true) := fun ⟨n, v⟩ hy => by
    rcases S.par n (List.of_mem_zip hy).1 with q | q
    · exact .inl q
    · exact .inr ⟨q, PySem.W.cellsFrom_some _ _ _ (.inl q)⟩
  refine codeAny_call_function hr.depth (KX _ _ lk) rfl S.co S.gen rfl (PySem.W.codeRec_of KX hcd) (hb _ _ _ _ ?_)
  refine wpAny_newFunctionEnv_cells S.kind hkind fun env he s1 x => ?_
  subst he
  refine ⟨lim.keeps x.toInCall.keep, codeAny_func ?_⟩
  obtain ⟨t, ht, hq⟩ := hbody A outer s H vs Q E (hr.deeper _) hsp
  have I : Inv (cxOf CX cm P w K mg base N qual scope f cdv A outer s H E) [] (start N vs) H s1 := inv_start S hr.hd e0 hl r x
  refine wpAny_mono (ht [] s1 (start N vs) H _ I hq) (fun fl s' hs => ?_) fun e s' hs => hs
  have fin : ∀ {σ' : St} {H' : Hp} {v : V} {u : Value}, Inv (cxOf CX cm P w K mg base N qual scope f cdv A outer s H E) [] σ' H' s' → RelV v u → Q v H' → CE outer P w H s Q u s' :=
    fun {σ' H' v u} J rv q => ⟨v, H', J.os, J.bare, J.base, J.hok, rv, q⟩
  cases fl with
  | ret u =>
    obtain ⟨v, σ', H', J, rv, q⟩ := hs
    exact fin J rv q
  | next =>
    obtain ⟨σ', H', J, q⟩ := hs
    exact fin (v := V.non) (u := Value.none) J rfl q
  | brk =>
    obtain ⟨_, _, _, q⟩ := hs
    exact False.elim q
  | cont =>
    obtain ⟨_, _, _, q⟩ := hs
    exact False.elim q
end L2

namespace L2
open PySem PySem.Spec PyProof.Rows
section
variable {X : Cx} {x : Str} {p pos : Pos} {e : Expr} {es : List Expr} {t : TA} {id T : String} {r : List V → Hp → VK → Prop}

def tCB (r : List V → Hp → VK → Prop) (t : TA) : TE := fun σ H Q => t σ H fun vs H1 => r vs H1 Q
/-- f(e, ..), f a built-in function -/
theorem pe_callB (hc : CallR X (.builtin id) r) (hg : Gl X x) (hm : X.mg x = none) (hv : bootBuiltins x = some (.builtin id)) (ha : PA X (e :: es) t) (hn : x ≠ "__name__" := by decide) (hdb : (x == ("__debug__" : Str)) = false := by decide)
    (he : starEach (e :: es) X.env = (false, eval e X.env) :: starEach es X.env := by rfl) (hpl : (backTo pos (starEach es X.env)).any (·.1) = false := by rfl) : PE X (.Call (.Name x p) (e :: es) [] pos) (tCB r t) := by
  intro pins s σ H Q I h
  refine wpAny_Call_Name_kw (ld_blt I hg hm hv ?_ hn hdb)
  exact PyProof.Rows.callWith_builtin1 (thn (ha pos pins s σ H _ I h) fun us s1 ⟨vs, H1, I1, r1, q1⟩ => hc pins s1 σ H1 vs us Q I1 r1 q1) he hpl
/-- T(e, ..), T a built-in type -/
theorem pe_callTy (hc : CallR X (.type T) r) (hg : Gl X x) (hm : X.mg x = none) (hv : bootBuiltins x = some (.type T)) (ha : PA X (e :: es) t) (hn : x ≠ "__name__" := by decide) (hdb : (x == ("__debug__" : Str)) = false := by decide)
    (he : starEach (e :: es) X.env = (false, eval e X.env) :: starEach es X.env := by rfl) (hpl : (backTo pos (starEach es X.env)).any (·.1) = false := by rfl) : PE X (.Call (.Name x p) (e :: es) [] pos) (tCB r t) := by
  intro pins s σ H Q I h
  refine wpAny_Call_Name_kw (ld_blt I hg hm hv ?_ hn hdb)
  exact PyProof.Rows.callWith_type1 (thn (ha pos pins s σ H _ I h) fun us s1 ⟨vs, H1, I1, r1, q1⟩ => hc pins s1 σ H1 vs us Q I1 r1 q1) he hpl
end
end L2

namespace HT
open PySem PyProof.Rows

section
open PySem.SeqAt
open PySem.AutoSeq1 (wpAny_loadPart')
open PySem.MeetsSeq PySem.MeetsSeq2 PySem.MeetsSeq3

end

section
variable {prog : Program} {w : World} {A : Around} {E : Value → Shared → Prop} {s : Shared}

/-! ### t[a:b], not the whole -/
end
end HT

namespace L2
open PySem PySem.Spec PyProof.Rows

/-! ### the parts of a slice -/
abbrev TO := St → Hp → (Option Int → Hp → Prop) → Prop
section
variable {X : Cx} {e : Expr} {te : TE} {lo hi : Option Expr} {tl th : TO} {pos p2 : Pos}

/-- what a slice of a value is, by values: the slice object stands at sl -/
def SlR (X : Cx) (r : V → Option Int → Option Int → Hp → VK → Prop) : Prop :=
  ∀ (pins : List (Addr × Obj)) (s : Shared) (σ : St) (H : Hp) (x : V) (v vl vu : Value) (lo hi : Option Int) (sl : Addr) (Q : VK), Inv X pins σ H s → RelV x v → s.heap.IsSliceOf sl vl vu .none → IsPart vl lo → IsPart vu hi → r x lo hi H Q →
    ∃ T id, typeLookup (.type T) "__getitem__" = pure (some (.builtin id)) ∧ s.TypeIs v T ∧ wpAny (model X.prog X.w) X.A (getItem v (.ref sl)) (EP X pins σ Q) X.xe s
theorem SlR.or {r r' : V → Option Int → Option Int → Hp → VK → Prop} (h : SlR X r) (h' : SlR X r') : SlR X (fun x lo hi H Q => r x lo hi H Q ∨ r' x lo hi H Q) := by
  intro pins s σ H x v vl vu lo hi sl Q I rx hs pl pu q
  rcases q with q | q
  · exact h pins s σ H x v vl vu lo hi sl Q I rx hs pl pu q
  · exact h' pins s σ H x v vl vu lo hi sl Q I rx hs pl pu q
/-! ### t < u, t + u -/
end
end L2

namespace L2
open PySem PySem.Spec PyProof.Rows

/-! ### places -/
/-- the place that an index of any sign means -/
def ixN (n : Nat) (i : Int) : Option Nat := if 0 ≤ i then (if i < n then some i.toNat else none) else if -(n : Int) ≤ i then some (i + n).toNat else none
def atI {α : Type} (xs : List α) (i : Int) : Option α := (ixN xs.length i).bind fun j => xs[j]?
theorem ixN_seq {n : Nat} {i : Int} {j : Nat} (h : ixN n i = some j) : seqIndex? i n = some j ∧ j < n ∧ -(n : Int) ≤ i ∧ i < n := by
  unfold ixN at h
  by_cases h0 : 0 ≤ i
  · rw [if_pos h0] at h
    by_cases h1 : i < n
    · rw [if_pos h1] at h
      have e : i.toNat = j := Option.some.inj h
      exact ⟨by rw [seqIndex_of h0 h1, e], by omega, by omega, h1⟩
    · rw [if_neg h1] at h; cases h
  · rw [if_neg h0] at h
    by_cases h1 : -(n : Int) ≤ i
    · rw [if_pos h1] at h
      have e : (i + n).toNat = j := Option.some.inj h
      exact ⟨by rw [seqIndex_neg (by omega) h1, e], by omega, h1, by omega⟩
    · rw [if_neg h1] at h; cases h
theorem atI_get {α : Type} {xs : List α} {i : Int} {v : α} (h : atI xs i = some v) : ∃ j, seqIndex? i xs.length = some j ∧ xs[j]? = some v ∧ j < xs.length ∧ -(xs.length : Int) ≤ i ∧ i < xs.length := by
  unfold atI at h
  cases e : ixN xs.length i with
  | none => rw [e] at h; cases h
  | some j =>
    rw [e] at h
    obtain ⟨h1, h2, h3, h4⟩ := ixN_seq e
    exact ⟨j, h1, h, h2, h3, h4⟩
theorem atI_nat {α : Type} {xs : List α} {j : Nat} {v : α} (h : xs[j]? = some v) : atI xs (j : Int) = some v := by
  have hj : j < xs.length := (List.getElem?_eq_some_iff.mp h).1
  have e : ixN xs.length (j : Int) = some j := by
    unfold ixN
    rw [if_pos (by omega), if_pos (by omega)]; simp
  unfold atI; rw [e]; exact h
theorem atI_last {α : Type} (xs : List α) (v : α) : atI (xs ++ [v]) (-1) = some v := by
  have hl : (xs ++ [v]).length = xs.length + 1 := by simp
  have e : ixN (xs ++ [v]).length (-1) = some xs.length := by
    unfold ixN
    rw [hl, if_neg (by decide), if_pos (by omega)]
    congr 1
    omega
  unfold atI
  rw [e]
  show (xs ++ [v])[xs.length]? = some v
  simp

/-! ### what may be subscripted -/
/-- what stands as an index of a plain subscript -/
def PlainIx (b : Expr) : Prop := ∀ o i, subscripted b false o i = operate [o, i] (getItem o i)
/-- a subscript by values -/
def IxR (X : Cx) (r : R2) : Prop :=
  ∀ (value slice : Expr) (pins : List (Addr × Obj)) (s : Shared) (σ : St) (H : Hp) (x y : V) (v u : Value) (Q : VK), Inv X pins σ H s → RelV x v → RelV y u → r x y H Q →
    subscripted slice false v u = operate [v, u] (getItem v u) → wpAny (model X.prog X.w) X.A (subscriptTail value slice v u) (EP X pins σ Q) X.xe s
/-- a call of a builtin's method by values: the receiver, the arguments -/
def MtR (X : Cx) (id : String) (r : V → List V → Hp → VK → Prop) : Prop :=
  ∀ (pins : List (Addr × Obj)) (s : Shared) (σ : St) (H : Hp) (x : V) (xs : List V) (v : Value) (us : List Value) (Q : VK), Inv X pins σ H s → RelV x v → Vals xs us → r x xs H Q →
    wpAny (model X.prog X.w) X.A (call (.builtin id) (v :: us)) (EP X pins σ Q) X.xe s
section
variable {X : Cx} {a b : Expr} {ta tb : TE} {pos : Pos}
theorem IxR.or {r r' : R2} (h : IxR X r) (h' : IxR X r') : IxR X (fun x y H Q => r x y H Q ∨ r' x y H Q) := by
  intro value slice pins s σ H x y v u Q I rx ry q hs
  rcases q with q | q
  · exact h value slice pins s σ H x y v u Q I rx ry q hs
  · exact h' value slice pins s σ H x y v u Q I rx ry q hs
theorem MtR.or {id : String} {r r' : V → List V → Hp → VK → Prop} (h : MtR X id r) (h' : MtR X id r') : MtR X id (fun x xs H Q => r x xs H Q ∨ r' x xs H Q) := by
  intro pins s σ H x xs v us Q I rx rs q
  rcases q with q | q
  · exact h pins s σ H x xs v us Q I rx rs q
  · exact h' pins s σ H x xs v us Q I rx rs q
/-- a[b] -/
theorem pe_ix {r : R2} (hr : IxR X r) (ha : PE X a ta) (hb : PE X b tb) (hs : PlainIx b) : PE X (.Subscript a b pos) (tOp r ta tb) := by
  intro pins s σ H Q I h
  exact Subscript_ (binT ha hb I h fun v u s2 x y H2 I2 rx ry q => hr a b pins s2 σ H2 x y v u Q I2 rx ry q (hs _ _))

def rIxL (K : PySem.W.Frag) : R2 := fun x y H Q => ∃ p xs i v, x = .ref p ∧ y = .int i ∧ SqL K H p xs ∧ atI xs i = some v ∧ Q v H
def rIxT (K : PySem.W.Frag) : R2 := fun x y H Q => ∃ p xs i v, x = .ref p ∧ y = .int i ∧ SqT K H p xs ∧ atI xs i = some v ∧ Q v H
def rIxS : R2 := fun x y H Q => ∃ z i c, x = .str z ∧ y = .int i ∧ z.length ≤ sizeLine ∧ atI z.cps.toList i = some c ∧ Q (.str ⟨#[c]⟩) H
theorem ix_list : IxR X (rIxL X.K) := by
  intro value slice pins s σ H x y v u Q I rx ry h hs
  obtain ⟨p, xs, i, z, rfl, rfl, hq, he, q⟩ := h
  cases rx
  obtain ⟨t, rfl⟩ := ry
  obtain ⟨its, r, pl, hz⟩ := I.list hq
  obtain ⟨j, h1, h2, h3, h4, h5⟩ := atI_get he
  obtain ⟨w, ew, rw'⟩ := r.get h2
  have hl := r.length
  have hn := line63
  have fin : EP X pins σ Q w s := ⟨z, H, I, rw', q⟩
  by_cases h0 : 0 ≤ i
  · have hj : i.toNat = j := by
      rw [seqIndex_of h0 h5] at h1
      exact Option.some.inj h1
    exact item_listR pl.isList h0 (by omega) (by rw [hj]; simpa using ew) fin hs
  · have hj : (i + (its.toArray.size : Int)).toNat = j := by
      rw [seqIndex_neg (by omega) h4] at h1
      rw [List.size_toArray, ← hl]
      exact Option.some.inj h1
    exact subscriptTail_builtinR (x := w) pl.isList.typeIs slot_list_getitem.lookup
      (wpAny_getItem_list_neg (Q := fun r s' => r = w ∧ EP X pins σ Q r s') pl.isList (by omega) (by rw [List.size_toArray] <;> omega) (by omega) (by rw [hj]; simpa using ew) ⟨rfl, fin⟩) hs
theorem ix_tup : IxR X (rIxT X.K) := by
  intro value slice pins s σ H x y v u Q I rx ry h hs
  obtain ⟨p, xs, i, z, rfl, rfl, hq, he, q⟩ := h
  cases rx
  obtain ⟨t, rfl⟩ := ry
  obtain ⟨its, r, pl, hz⟩ := I.tuple hq
  obtain ⟨j, h1, h2, h3, h4, h5⟩ := atI_get he
  obtain ⟨w, ew, rw'⟩ := r.get h2
  have hl := r.length
  have hn := line63
  have fin : EP X pins σ Q w s := ⟨z, H, I, rw', q⟩
  exact subscriptTail_builtinR (x := w) pl.typeIs slot_tuple_getitem.lookup
    (getItem_tuple (j := j) (Q := fun r s' => r = w ∧ EP X pins σ Q r s') pl (by omega) (by omega) (by rw [List.size_toArray, ← hl]; exact h1) (by simpa using ew) ⟨rfl, fin⟩) hs
theorem ix_str : IxR X rIxS := by
  intro value slice pins s σ H x y v u Q I rx ry h hs
  obtain ⟨z, i, c, rfl, rfl, hz, he, q⟩ := h
  obtain ⟨t, rfl⟩ := rx
  obtain ⟨t', rfl⟩ := ry
  obtain ⟨j, h1, h2, h3, h4, h5⟩ := atI_get he
  have hl : z.cps.toList.length = z.length := by simp [Str.length]
  rw [hl] at h1 h4 h5
  have hn := line63
  exact tail_any (typeIs_str s z t) slot_str_getitem.lookup (getItem_str (c := c) (by
    have e1 : decide (i < -(2 ^ 63 : Int)) = false := decide_eq_false (by omega)
    have e2 : decide (i ≥ 2 ^ 63) = false := decide_eq_false (by omega)
    rw [e1, e2, Bool.or_false]) (by rw [h1]; simpa using h2) ⟨.str ⟨#[c]⟩, H, I.tok _, ⟨_, rfl⟩, q⟩) hs
/-! ### xs[i] = v, any sign -/
theorem Inv.lst {pins : List (Addr × Obj)} {σ : St} {H : Hp} {s : Shared} {p : Addr} {xs : List V} (I : Inv X pins σ H s) (h : H p = some (.lst xs)) :
    ∃ (its : List Value) (n : Nat), Vals xs its ∧ s.heap.get? p = some { cls := .type "list", data := .seq its.toArray n } ∧ xs.length ≤ sizeLine := by
  obtain ⟨z, its, n, r, e⟩ := I.hok p _ h
  exact ⟨its, n, r, e, z⟩
/-! ### slices -/
/-! ### in, not in: flat items -/
/-! ### len, list(x), tuple(x) of any list or tuple that is read -/
theorem call_len_seq : CallR X (.builtin "len") (fun xs H Q => ∃ p ys, xs = [.ref p] ∧ (SqL X.K H p ys ∨ SqT X.K H p ys) ∧ Q (.int ys.length) H) := by
  intro pins s σ H xs us Q I r h
  obtain ⟨p, ys, rfl, hq, q⟩ := h
  obtain ⟨u, rfl, rx⟩ := vals1 r
  cases rx
  have hn := line63
  rcases hq with hq | hq
  · obtain ⟨its, r', pl, hz⟩ := I.list hq
    have hlen := r'.length
    exact Calls.call_len_list pl.isList (by simp only [List.size_toArray] <;> omega) ⟨.int ys.length, H, I.tok _, ⟨s.toks + 1, by rw [List.size_toArray, hlen]⟩, q⟩
  · obtain ⟨its, r', pl, hz⟩ := I.tuple hq
    have hlen := r'.length
    exact len_tuple pl (by simp only [List.size_toArray] <;> omega) ⟨.int ys.length, H, I.tok _, ⟨s.toks + 1, by rw [List.size_toArray, hlen]⟩, q⟩
theorem call_len_str : CallR X (.builtin "len") (fun xs H Q => ∃ z, xs = [.str z] ∧ z.length ≤ sizeLine ∧ Q (.int z.length) H) := by
  intro pins s σ H xs us Q I r h
  obtain ⟨z, rfl, hz, q⟩ := h
  obtain ⟨u, rfl, t, rfl⟩ := vals1 r
  have hn := line63
  exact len_str (by omega) ⟨.int z.length, H, I.tok _, ⟨_, rfl⟩, q⟩
theorem CallR.or {f : Value} {r r' : List V → Hp → VK → Prop} (h : CallR X f r) (h' : CallR X f r') : CallR X f (fun xs H Q => r xs H Q ∨ r' xs H Q) := by
  intro pins s σ H xs us Q I rs q
  rcases q with q | q
  · exact h pins s σ H xs us Q I rs q
  · exact h' pins s σ H xs us Q I rs q
theorem call_tuple_of : CallR X (.type "tuple") (fun xs H Q => ∃ p ys, xs = [.ref p] ∧ ((SqL X.K H p ys ∧ ∀ l, H l = none → Q (.ref l) (upd H l (.tup ys))) ∨ (SqT X.K H p ys ∧ Q (.ref p) H))) := by
  intro pins s σ H xs us Q I r h
  obtain ⟨p, ys, rfl, h⟩ := h
  obtain ⟨u, rfl, rx⟩ := vals1 r
  cases rx
  rcases h with ⟨hq, q⟩ | ⟨hq, q⟩
  · obtain ⟨its, r', pl, hz⟩ := I.list hq
    have hlen := r'.length
    refine call_tuple_list pl.isList (fun h' kp => ?_) (by simp only [List.size_toArray] <;> omega)
    have I1 : Inv X pins σ H { s with heap := h' } := I.kept (t' := s.toks) kp
    have I2 : Inv X pins σ (upd H h'.objs.size (.tup ys)) { s with heap := h'.push { cls := .type "tuple", data := .seq its.toArray } } :=
      I1.laid (t' := s.toks) (fun b o e => Heap.get?_push_of_some _ e) (Nat.le_refl _) (show ObjOk X.prog X.w _ _ _ (.tup ys) from ⟨hz, its, r', IsTup.new _ _⟩)
    exact ⟨.ref h'.objs.size, _, I2, rfl, q _ (I1.hok.fresh (Nat.le_refl _))⟩
  · obtain ⟨its, r', pl, hz⟩ := I.tuple hq
    exact call_tuple_same pl ⟨.ref p, H, I, rfl, q⟩

/-! ### the call of a builtin's method: o.m(..) -/
/-- the value is of that builtin type -/
def tyV (K : PySem.W.Frag) (T : String) (x : V) (H : Hp) : Prop := match x with
  | .str _ => T = "str"
  | .int _ => T = "int"
  | .ref p => (T = "list" ∧ ∃ xs, SqL K H p xs) ∨ (T = "tuple" ∧ ∃ o, K.lookup p = some o ∧ o.cls = .type "tuple" ∧ o.dict = none) ∨
      (T = "dict" ∧ ((∃ kvs, H p = some (.dK kvs)) ∨ ∃ kvs, H p = some (.dT kvs))) ∨ (T = "set" ∧ ∃ S n, H p = some (.set S n))
  | _ => False
theorem tyV_is {pins : List (Addr × Obj)} {σ : St} {H : Hp} {s : Shared} {T : String} {x : V} {v : Value} (I : Inv X pins σ H s) (r : RelV x v) (ty : tyV X.K T x H) :
    s.TypeIs v T ∧ ∀ a, v = .ref a → ∃ ob, s.heap.get? a = some ob ∧ ob.dict = none := by
  cases x with
  | str z =>
    obtain ⟨t, rfl⟩ := r
    cases (show T = "str" from ty)
    exact ⟨typeIs_str s z t, fun _ e => nomatch e⟩
  | int i =>
    obtain ⟨t, rfl⟩ := r
    cases (show T = "int" from ty)
    exact ⟨typeIs_int s i t, fun _ e => nomatch e⟩
  | ref p =>
    cases r
    rcases ty with ⟨rfl, xs, hq⟩ | ⟨rfl, o, hk, hc, hd⟩ | ⟨rfl, hk⟩ | ⟨rfl, S, n, hk⟩
    · obtain ⟨its, _, pl, _⟩ := I.list hq
      refine ⟨pl.isList.typeIs, fun a e => ?_⟩
      cases e
      obtain ⟨o, n, e, c, hd, _⟩ := pl
      exact ⟨o, e, hd⟩
    · refine ⟨⟨o, I.kIn p o hk, hc⟩, fun a e => ?_⟩
      cases e
      exact ⟨o, I.kIn _ o hk, hd⟩
    · have z : ∃ o, s.heap.get? p = some o ∧ o.ExactDict := by
        rcases hk with ⟨kvs, hk⟩ | ⟨kvs, hk⟩
        · obtain ⟨_, _, _, _, o, _, _, e, ex, _⟩ := I.hok p _ hk
          exact ⟨o, e, ex⟩
        · obtain ⟨_, _, _, _, o, _, _, e, ex, _⟩ := I.hok p _ hk
          exact ⟨o, e, ex⟩
      obtain ⟨o, e, ex⟩ := z
      refine ⟨⟨o, e, ex.1⟩, fun a e2 => ?_⟩
      cases e2
      exact ⟨o, e, ex.2.1⟩
    · obtain ⟨o, _, _, _, e, ex, _⟩ := I.hok p _ hk
      refine ⟨⟨o, e, ex.1⟩, fun a e2 => ?_⟩
      cases e2
      exact ⟨o, e, ex.2.1⟩
  | _ => exact False.elim ty
def tBM (K : PySem.W.Frag) (T : String) (r : V → List V → Hp → VK → Prop) (to : TE) (t : TA) : TE := fun σ H Q => to σ H fun x H1 => tyV K T x H1 ∧ t σ H1 fun xs H2 => r x xs H2 Q
variable {o e : Expr} {es : List Expr} {to : TE} {t : TA} {name : Str} {apos cpos : Pos} {T id : String} {r : V → List V → Hp → VK → Prop}
theorem pe_bm (pa : PlainAttrs T) (slot : Slot T name id) (hty : typeOf (.builtin id) = pure (.type "method_descriptor")) (hm : MtR X id r) (ho : PE X o to) (ha : PA X (e :: es) t)
    (hbase : attributeBase o name X.env (eval o X.env) = eval o X.env := by rfl)
    (hfew : ((backTo cpos (starEach (e :: es) X.env)).all (fun x => !x.1) && (backToKw cpos (keywordEach [] X.env)).all (fun x => x.1.isSome)
      && decide ((e :: es).length + ([] : List Keyword).length + (if ([] : List Keyword).isEmpty then 0 else 1) < 30)) = true := by rfl)
    (hline : (apos.endLine == cpos.line) = true := by rfl) (hs : starEach (e :: es) X.env = (false, eval e X.env) :: starEach es X.env := by rfl) (hplain : (backTo cpos (starEach es X.env)).any (·.1) = false := by rfl) :
    PE X (.Call (.Attribute o name apos) (e :: es) [] cpos) (tBM X.K T r to t) := by
  intro pins s σ H Q I h
  refine wpAny_Call_method_late hbase hfew hline rfl (thn (ho pins s σ H _ I h) fun v s1 ⟨x, H1, I1, r1, ty, q1⟩ => ?_)
  obtain ⟨h1, h2⟩ := tyV_is I1 r1 ty
  refine ⟨T, id, pa, slot, hty, h1, h2, ?_⟩
  have hA := ha cpos pins s1 σ H1 _ I1 q1
  rw [hs] at hA ⊢
  refine Calls.callWith_builtin (by show (false || (backTo cpos (starEach es X.env)).any (·.1)) = false; rw [hplain] <;> rfl) (Calls.evalArgs_plain ?_)
  exact thn hA fun us s2 ⟨vs, H2, I2, r2, q2⟩ => hm pins s2 σ H2 x vs v us Q I2 r1 r2 q2
/- xs.append(e), list.index on a module's tuple .. are MtR facts of 06m -/
end
end L2

namespace L2
open PySem PySem.Spec PyProof.Rows

def MtM (X : Cx) (id : String) (r : V → List V → Hp → VK → Prop) : Prop :=
  ∀ (pins : List (Addr × Obj)) (s : Shared) (σ : St) (H : Hp) (x : V) (xs : List V) (v : Value) (us : List Value) (Q : VK), Inv X pins σ H s → RelV x v → Vals xs us → r x xs H Q →
    wpAny (model X.prog X.w) X.A (call (.builtin id) (v :: us)) (EP X pins σ Q) X.xe s

/-! ### lists of values -/
theorem Vals.one : ∀ {x : V} {us : List Value}, Vals [x] us → ∃ u, us = [u] ∧ RelV x u
  | _, _, .cons r .nil => ⟨_, rfl, r⟩
theorem Vals.two : ∀ {x y : V} {us : List Value}, Vals [x, y] us → ∃ u v, us = [u, v] ∧ RelV x u ∧ RelV y v
  | _, _, _, .cons r (.cons q .nil) => ⟨_, _, rfl, r, q⟩
theorem Vals.zero : ∀ {us : List Value}, Vals [] us → us = []
  | _, .nil => rfl
theorem Vals.reverse {xs : List V} {us : List Value} (h : Vals xs us) : Vals xs.reverse us.reverse := by
  induction h with
  | nil => exact .nil
  | cons r t ih => rw [List.reverse_cons, List.reverse_cons]; exact Vals.append ih (.cons r .nil)
section
variable {X : Cx} {pins : List (Addr × Obj)} {σ : St} {H : Hp} {s : Shared} {l b : Addr} {xs ys zs : List V}

/-! ### the two steps: a tracked list is rewritten, a new list is laid -/
theorem Inv.lset {its its' : List Value} {n : Nat} {f : Array Value → Array Value} {t' : Nat} (I : Inv X pins σ H s) (hH : H l = some (.lst xs))
    (e : s.heap.get? l = some { cls := .type "list", data := .seq its.toArray n }) (hf : f its.toArray = its'.toArray) (hv : Vals ys its') (hz : ys.length ≤ sizeLine) :
    Inv X pins σ (upd H l (.lst ys)) { s with heap := s.heap.update l (Obj.mapSeq f), toks := t' } := by
  have q := PySem.IsL.update e f
  rw [hf] at q
  refine I.write (x := l) (e := l) (by rw [hH]; exact trivial) (.inl rfl) (fun b' u hb hu => (Heap.get?_update_other s.heap (Obj.mapSeq f) (Ne.symm hb)).trans hu) ⟨_, q⟩ ?_
  exact ⟨hz, its', _, hv, q⟩
theorem Inv.lnew {its : List Value} {t' : Nat} (I : Inv X pins σ H s) (hv : Vals ys its) (hz : ys.length ≤ sizeLine) :
    Inv X pins σ (upd H s.heap.objs.size (.lst ys)) { s with heap := s.heap.push { cls := .type "list", data := .seq its.toArray }, toks := t' } :=
  I.laid (fun _ _ q => Heap.get?_push_of_some _ q) (Nat.le_refl _) ⟨hz, its, 0, hv, Heap.get?_push_size _ rfl⟩
theorem Inv.fresh (I : Inv X pins σ H s) : H s.heap.objs.size = none := I.hok.fresh (Nat.le_refl _)
theorem Inv.lstM (I : Inv X pins σ H s) (hH : H l = some (.lst xs)) : xs.length ≤ sizeLine ∧ ∃ (its : List Value) (n : Nat), Vals xs its ∧ xs.length = its.length ∧ s.heap.get? l = some { cls := .type "list", data := .seq its.toArray n } := by
  obtain ⟨z, its, n, r, e⟩ := I.hok l _ hH
  exact ⟨z, its, n, r, r.length, e⟩

end

section
variable {X : Cx}

/-! ### methods -/
def rAppend : V → List V → Hp → VK → Prop := fun x vs H Q => ∃ l xs y, x = .ref l ∧ vs = [y] ∧ H l = some (.lst xs) ∧ xs.length < sizeLine ∧ Q .non (upd H l (.lst (xs ++ [y])))
theorem mt_append : MtM X "list.append" rAppend := by
  intro pins s σ H x vs v us Q I rx rv h
  obtain ⟨l, xs, y, rfl, rfl, hH, hz, q⟩ := h
  cases rx
  obtain ⟨u, rfl, ru⟩ := rv.one
  obtain ⟨z, its, n, r, hl, e⟩ := I.lstM hH
  refine call_meets F.slot_list_append ⟨_, e, rfl⟩ F.entry_list_append (F.args_list_append_2 _ _) (PySem.list_append l its.toArray n u (by rw [List.size_toArray]; omega)) ⟨e, ?_⟩
  refine ⟨.non, _, I.lset (its' := its ++ [u]) hH e (by simp) (r.append (.cons ru .nil)) ?_, rfl, q⟩
  rw [List.length_append, List.length_singleton]
  omega

/-! ### list + list, list += list, list * int -/
def rCat : R2 := fun x y H Q => ∃ l b xs zs, x = .ref l ∧ y = .ref b ∧ H l = some (.lst xs) ∧ H b = some (.lst zs) ∧ xs.length + zs.length ≤ sizeLine ∧ ∀ p, H p = none → Q (.ref p) (upd H p (.lst (xs ++ zs)))
theorem op_cat : OpR X (binaryOp .Add) rCat := by
  intro pins s σ H x y v u Q I rx ry h
  obtain ⟨l, b, xs, zs, rfl, rfl, hH, hB, hz, q⟩ := h
  cases rx
  cases ry
  obtain ⟨z, its, n, r, hl, e⟩ := I.lstM hH
  obtain ⟨z2, its2, n2, r2, hl2, e2⟩ := I.lstM hB
  refine PySem.P.add_list e e2 ?_ (by rw [List.size_toArray, List.size_toArray]; omega)
  have ea : its.toArray ++ its2.toArray = (its ++ its2).toArray := by simp
  rw [ea]
  exact ⟨.ref _, _, I.lnew (t' := s.toks) (r.append r2) (by rw [List.length_append]; omega), rfl, q _ I.fresh⟩
/-! ### del xs[i] -/
end

/-! ### xs[a:b] = ys -/
section
variable {prog : Program} {w : World} {A : Around} {E : Value → Shared → Prop} {s : Shared}
end

section
variable {X : Cx}
end
end L2

namespace Att
open PySem PySem.W PySem.Calls PyProof.Rows

/-! ### the script -/
theorem ints_of_wellAll {P : Params} {h : Heap} : ∀ (ns : List Int) (vs : List Value), WellAll P h vs (ns.map WData.int) → IntsAre vs ns := by
  intro ns
  induction ns with
  | nil =>
    intro vs w
    rw [List.map_nil] at w
    cases w
    exact .nil
  | cons n ns ih =>
    intro vs w
    rw [List.map_cons] at w
    cases w with
    | cons a b =>
      cases a
      exact .cons _ _ (ih _ b)

theorem script_of {l : OpenLaw} {n : Nat} (hn : l.most = some n) {P : Params} {h : Heap} {args : List WData} {vals : List Value}
    (hpre : l.row.toRowW.claim.pre args = true) (hwl : WellAll P h vals args) :
    ∃ a vs ns, vals = [Value.ref a] ∧ args = [WData.list (ns.map WData.int)] ∧ h.get? a = some { cls := .type "list", data := .seq vs.toArray } ∧ IntsAre vs ns ∧ ns.length ≤ n := by
  have hsh : WShape.hasAll [] args [.list .int] = true := (pre_splitW hpre).1
  have hc : l.pre.holds [] { args := args } = true := (pre_splitW hpre).2
  obtain ⟨d, r, rfl, h1, h2⟩ := hasAllW_cons hsh
  obtain rfl := hasAllW_nil h2
  obtain ⟨xs, rfl, h3⟩ := hasW_list h1
  obtain ⟨ns, rfl⟩ := items_int h3
  have hlen : ns.length ≤ n := by
    unfold OpenLaw.pre at hc
    have h4 : (WTm.not (.lt (.lit (.int (n : Int))) (.len (.arg 0)))).holds [] { args := [.list (ns.map .int)] } = true := by
      have h4 := (holds_andW hc).1
      rw [hn] at h4
      exact h4
    have h5 := condW_of h4 (w_not (w_lt w_lit (w_len_list (w_arg rfl))))
    rw [List.length_map] at h5
    refine Nat.le_of_not_lt fun q => ?_
    have q' : (n : Int) < ((ns.length : Nat) : Int) := by omega
    first
      | (rw [decide_eq_true q'] at h5; exact absurd h5 (by decide))
      | (simp at h5; omega)
  cases hwl with
  | cons w1 w2 =>
    cases w2
    cases w1 with
    | list ho hall => exact ⟨_, _, ns, rfl, rfl, ho, ints_of_wellAll ns _ hall, hlen⟩

theorem post_true (l : OpenLaw) (args : List WData) : l.row.toRowW.claim.post args (.bool true) args = true :=
  postW_of (r := l.row.toRowW) (X := (true == true))
    (show WShape.has [] (.bool true) .bool = true by first | rfl | decide | simp [WShape.has, WShape.arms, WShape.armsAll])
    (show (WTm.eq .res (.lit (.bool true))).value [] { args := args, res := some (.bool true), after := args } = some (.bool (true == true)) from w_eq_bool (w_res rfl) w_lit) rfl

/-! ### the attachment: holds_open's last premise (the goal 'hc' behind k_head) from a wpAny of the law's body -/
/-- the same from a codeAny of the CALL (for a layer whose function contracts speak of calls) -/
theorem attach_call {l : OpenLaw} {n : Nat} {q : Program} {loose : List Str} {XP : (Str → Option Value) → Heap → Prop} {YP : World → Heap → Prop} {d : DefRec}
    (hn : l.most = some n) (hdf : d.params.defaults = [])
    (call : ∀ (w : World) (s₀ s₁ : Shared) (mg mb : Str → Option Value) (fa : Addr) (o : Obj) (pm cd doc : Value) (a : Addr) (vs : List Value) (ns : List Int),
      Ground q loose [] XP w s₀ mg mb s₁.heap → YP w s₁.heap →
      s₁.heap.get? fa = some o → o.data = .func (docDef d.name d.params d.body d.scope pm cd doc) → s₁.heap.CodeRec cd d.name → mg d.name = some (.ref fa) →
      s₁.heap.get? a = some { cls := .type "list", data := .seq vs.toArray } → IntsAre vs ns → ns.length ≤ n → s₁.gens = #[] →
      codeAny (model l.prog w) callerA (.call (.ref fa) ⟨[.ref a], []⟩) (fun r s' => r = .ok (.ret (.bool true)) ∧ OldK s₁.heap s'.heap ∧ s'.os = s₁.os ∧ AllBare s'.gens) s₁) :
    WalkO q loose XP YP l.row.toRowW d [] (fun f vs => PySem.call f vs) := by
  intro w s₀ s₁ mg mb G Y fa o pm cd doc dV kV ho hd hcd hD hmg hg args vals as hpre hlay hrd hwl hlo
  obtain rfl : dV = .none := Dflts.none hD hdf
  obtain rfl : kV = .none := Dflts.noKw hD
  obtain ⟨a, vs, ns, rfl, rfl, hobj, hints, hlen⟩ := script_of hn hpre hwl
  refine enter_call (codeAny_mono (call w s₀ s₁ mg mb fa o pm cd doc a vs ns G Y ho (fd_plain hd) hcd hmg hobj hints hlen hg) fun r s' hq => ?_)
  obtain ⟨rfl, h2, h3, h4⟩ := hq
  exact ⟨.inl ⟨.bool true, .bool true, [], rfl, fun _ => rfl, .bool true, post_true l _, fun _ => ⟨List.Pairwise.nil, fun _ hm => (nomatch hm)⟩⟩, h2, h3, h4⟩

/-! ### rules over ANY heap (no ledger) from facts about the written part K: the library's own take a ledger (News) for what they write -/
section
variable {prog : Program} {w : World} {A : Around} {E : Value → Shared → Prop} {s : Shared} {K : Frag}

/-! the whole heap as the ledger: makes every rule that writes through a ledger a rule over any heap -/
def ledger (h : Heap) (L d : Addr) : List (Addr × Obj) := (List.range h.objs.size).filterMap fun a => if a = L ∨ a = d then none else (h.get? a).map fun o => (a, o)
end
end Att

namespace L2
open PySem PySem.Spec PyProof.Rows

theorem vals_ints : ∀ {vs : List Value} {ns : List Int}, IntsAre vs ns → Vals (ns.map V.int) vs
  | _, _, .nil => .nil
  | _, _, .cons n t h => .cons ⟨t, rfl⟩ (vals_ints h)

/-- nothing is tracked but the script, known to the object (or it is an object of the module) -/
def Only (H : Hp) : Prop := ∀ b, H b = none ∨ ∃ o xs, H b = some (.frz o (.lst xs))

/-- THE HEAD: the law's promise, at the heap behind the top. F, the promise of the law's def, may use that base is part of the heap (so K.In base, base.Ns mainGlobals mg stand in Mod) -/
theorem law_call {cm : Bool} {P : Program} {w : World} {K : PySem.W.Frag} {mg mb : Str → Option Value} {CX : CXT} {k : Nat} {fa a : Addr} {fd : FuncData} {x : Str} {sp : Sp} {s₁ : Shared} {vs : List Value} {ns : List Int}
    (KX : K.In s₁.heap) (hns : s₁.heap.Ns mainGlobals mg) (hb : s₁.heap.Ns builtinsNs mb) (hbb : ∀ x : Str, x ≠ "__name__" → mb x = bootBuiltins x) (hlim : s₁.heap.NoLimit) (hg : s₁.gens = #[])
    (ha : s₁.heap.get? a = some { cls := .type "list", data := .seq vs.toArray }) (hi : IntsAre vs ns) (hl : ns.length ≤ sizeLine) (hr : Room cm k callerA)
    (F : ∀ base : Heap, K.In base → base.Ns mainGlobals mg → FnOk P w K mg base CX cm k fa fd [x] sp) (hbind : ∀ (s : Shared) (u : Value), BindsTo s fd ⟨[u], []⟩ [(x, u)])
    (hsp : ∀ H : Hp, Only H → SqL K H a (ns.map V.int) → sp [.ref a] H (fun v _ => v = .bl true) fun _ _ _ => False)
    (hCX : ∀ H e s', CX [] H s₁ (fun _ _ _ => False) e s' → False) :
    codeAny (model P w) callerA (.call (.ref fa) ⟨[.ref a], []⟩) (fun r s' => r = .ok (.ret (.bool true)) ∧ OldK s₁.heap s'.heap ∧ s'.os = s₁.os ∧ AllBare s'.gens) s₁ := by
  have rv := vals_ints hi
  have lenV := hi.length
  -- from an abstract heap in which nothing but the script may be tracked
  have core : ∀ H : Hp, Only H → SqL K H a (ns.map V.int) → HOk P w H s₁.heap → (∀ b, H b ≠ none → b = a) → (H a ≠ none → K.lookup a = none) →
      codeAny (model P w) callerA (.call (.ref fa) ⟨[.ref a], []⟩) (fun r s' => r = .ok (.ret (.bool true)) ∧ OldK s₁.heap s'.heap ∧ s'.os = s₁.os ∧ AllBare s'.gens) s₁ := by
    intro H hO hS hok hA hK
    have base_of : ∀ {b : Addr} {o : Obj}, s₁.heap.get? b = some o → H b = none → (hidT s₁.heap H).get? b = some o := fun e n => hidT_get e n
    have noA : ∀ {b : Addr} {o : Obj} {es : Array DictEntry} {ep : Nat}, s₁.heap.get? b = some o → o.data = .dict es ep → H b = none := fun {b o es ep} e d => by
      cases q : H b with
      | none => rfl
      | some u =>
        have e' : b = a := hA b (by rw [q]; simp)
        subst e'
        rw [ha] at e; cases e
        have d' : Data.seq vs.toArray _ = Data.dict es ep := d
        cases d'
    have nsK : ∀ {b : Addr} {m : Str → Option Value}, s₁.heap.Ns b m → (hidT s₁.heap H).Ns b m := fun {b m} ⟨o, es, ep, e, d, r⟩ => ⟨o, es, ep, base_of e (noA e d), d, r⟩
    have hKb : K.In (hidT s₁.heap H) := fun b o e => base_of (KX b o e) (by
      cases q : H b with
      | none => rfl
      | some u =>
        have e' : b = a := hA b (by rw [q]; simp)
        subst e'
        rw [hK (by rw [q]; simp)] at e; cases e)
    have hM : Mod K mg (hidT s₁.heap H) := ⟨hKb, nsK hns, ⟨mb, nsK hb, hbb⟩, let ⟨mc, h1, h2⟩ := hlim; ⟨mc, nsK h1, h2⟩⟩
    have e0 : Env0 P w K mg (hidT s₁.heap H) callerA [] s₁ H := ⟨rfl, hM, fun b o e => of_hidT e, Nat.le_of_eq (hidT_size _ _), trivial, fun b hb => absurd (show b ∈ ([] : List Addr) from hb) (by simp), hok, .of_eq hg⟩
    refine codeAny_mono ((F _ hKb (nsK hns)).run callerA [] s₁ H ⟨[.ref a], []⟩ [.ref a] [.ref a] _ _ hr e0 (hbind s₁ (.ref a)) (.cons rfl .nil) (hsp H hO hS)) fun r s' h => ?_
    cases r with
    | error e => exact (hCX H e s' h).elim
    | ok fl =>
      cases fl with
      | next => exact False.elim h
      | brk => exact False.elim h
      | cont => exact False.elim h
      | ret u =>
        obtain ⟨v, H', os, bare, un, hok', r', q⟩ := h
        have q' : v = .bl true := q
        subst q'
        obtain rfl : u = Value.bool true := r'
        refine ⟨rfl, OldK.of_keep fun b o e => ?_, os, bare⟩
        cases q : H b with
        | none => exact un.keep b o e q (by intro z; exact absurd (show b ∈ ([] : List Addr) from z) (by simp)) (by simp)
        | some u =>
          rcases hO b with z | ⟨ob, xs, z⟩
          · rw [q] at z; cases z
          · have z2 := un.frzs b ob _ z
            obtain ⟨e1, _⟩ := hok b _ z
            obtain ⟨e2, _⟩ := hok' b _ z2
            rw [e] at e1; cases e1
            exact e2
  cases hk : K.lookup a with
  | some o =>
    -- the script is one of the module's own objects
    have e := KX a o hk
    rw [ha] at e
    cases e
    refine core (fun _ => none) (fun _ => .inl rfl) (.inr ⟨_, vs.toArray, _, hk, rfl, rfl, rfl, by rw [List.size_toArray, lenV]; exact hl, by simpa using rv⟩) (fun b u z => by have z' : (none : Option HO) = some u := z; cases z') (fun b z => absurd rfl z) fun z => absurd rfl z
  | none =>
    refine core (fun b => if b = a then some (.frz { cls := .type "list", data := .seq vs.toArray } (.lst (ns.map V.int))) else none) (fun b => ?_) (.inl (.inr ⟨{ cls := .type "list", data := .seq vs.toArray }, if_pos rfl⟩)) (fun b u z => ?_) (fun b z => ?_) fun _ => hk
    · by_cases hb : b = a
      · exact .inr ⟨_, _, if_pos hb⟩
      · exact .inl (if_neg hb)
    · by_cases hb : b = a
      · have z' := (if_pos hb).symm.trans z
        cases z'
        subst hb
        exact ⟨ha, by rw [List.length_map]; exact hl, vs, _, rv, ha⟩
      · have z' := (if_neg hb).symm.trans z
        cases z'
    · by_cases hb : b = a
      · exact hb
      · exact absurd (if_neg hb) z
end L2

namespace L2
open PySem PySem.Spec PyProof.Rows

abbrev KOf {K : PySem.W.Frag} {h : Heap} (_ : K.In h) : PySem.W.Frag := K

/-- the goal that k_head leaves (case hc), from the law's promise. F gives the function object fd (K's own) once, then the promise over every base -/
theorem walk_of {cm : Bool} {l : PySem.W.OpenLaw} {n k : Nat} {q : Program} {loose : List Str} {XP : (Str → Option Value) → Heap → Prop} {YP : World → Heap → Prop} {d : DefRec} {K : Params → PySem.W.Frag} {CX : World → CXT} {sp : World → Sp} {x : Str}
    (hn : l.most = some n) (hn2 : n ≤ sizeLine) (hdf : d.params.defaults = []) (hr : Room cm k callerA)
    (hY : ∀ (w : World) (h : Heap), YP w h → (K w.params).In h)
    (F : ∀ (w : World) (mg : Str → Option Value) (fa : Addr) (h : Heap), (K w.params).In h → h.Ns mainGlobals mg → mg d.name = some (.ref fa) →
      ∃ fd : FuncData, (∀ (s : Shared) (u : Value), BindsTo s fd ⟨[u], []⟩ [(x, u)]) ∧
        ∀ base : Heap, (K w.params).In base → base.Ns mainGlobals mg → FnOk l.prog w (K w.params) mg base (CX w) cm k fa fd [x] (sp w))
    (hsp : ∀ (w : World) (H : Hp) (a : Addr) (ns : List Int), ns.length ≤ n → Only H → SqL (K w.params) H a (ns.map V.int) → sp w [.ref a] H (fun v _ => v = .bl true) fun _ _ _ => False)
    (hCX : ∀ (w : World) (H : Hp) (s : Shared) (e : Value) (s' : Shared), CX w [] H s (fun _ _ _ => False) e s' → False) :
    PySem.W.WalkO q loose XP YP l.row.toRowW d [] (fun f vs => PySem.call f vs) := by
  refine Att.attach_call hn hdf fun w s₀ s₁ mg mb fa o pm cd doc a vs ns G Y ho hd hcd hmg hobj hints hlen hg => ?_
  have KX := hY w _ Y
  obtain ⟨fd, hb, hF⟩ := F w mg fa _ KX G.T.g hmg
  exact law_call KX G.T.g G.T.b G.T.builtins G.T.nolimit hg hobj hints (Nat.le_trans hlen hn2) hr hF hb (fun H hO hS => hsp w H a ns hlen hO hS) fun H e s' => hCX w H s₁ e s'
end L2

/- THE LAST THEOREM (shape; LID, My.* are yours):
   My.Adr: a structure of the addresses that your layer names (classes, functions); My.Txt K t: a structure (Prop) of the equations over K;
   My.txt_mk : {K} {implicit addresses ..} (e1 : nsIn K mainGlobals "law" = some (some (.ref f))) (e2 : K.lookup f = some ⟨oc, od, .func (fnOf "law" "law" params body scope dV kV doc pm an cdv ct), sl⟩) (e3 : codeIn K cdv "law" = true) .. : ∃ t, My.Txt K t

set_option maxRecDepth 100000 in
set_option maxHeartbeats 0 in
theorem PySem.Challenge.cw_LID_holds : PySem.Challenge.rw_LID.Holds := by
  w_on; o_law; k_head; (case hw => w_witness2)
  k_fill
  refine L2.walk_of (l := PySem.Challenge.rw_LID) (n := 63) (k := 40) (x := "script") (CX := fun w => ..) (sp := fun _ => My.sp_law) rfl (by decide) rfl ⟨rfl, by decide, by decide⟩ (fun w h Y => PySem.W.kIn_of Y) ?F ?S ?C
  case F =>
    intro w mg fa h KX G hmg
    have T : ∃ t, My.Txt (L2.KOf KX) t := by
      dsimp only [L2.KOf]                          -- K must stand as «<heap const> w.params» for k_is
      refine' My.txt_mk ?e1 ?e2 ?e3 ..
      (case e1 => PySem.W.k_is)                    -- in the order: a name -> its address -> its object -> its parts
      (case e2 => PySem.W.k_is)
      ..
    obtain ⟨t, T⟩ := T
    have e0 := hmg.symm.trans (PySem.W.mg_of KX G T.law)
    cases e0                                       -- fa is the law's own address
    exact ⟨_, fun s u => .of_eq rfl, fun base kb nb => My.law_fn T kb nb⟩     -- if «.of_eq rfl» comes too early: refine' ⟨_, ?b, fun base kb nb => My.law_fn T kb nb⟩; exact fun s u => .of_eq rfl
  case S => exact fun w H a ns hl hO hS => ..
  case C => exact ..
(the tactic k_is has no namespace: write k_is) -/

/-! SHORT WORDS over the layer: a def of the text, its body, what a loop and a test want. -/
namespace L2
open PySem PySem.Spec PyProof.Rows

/-! ### the text by places -/
/-- the j-th statement of a class's body -/
def inClass (s : Stmt) (j : Nat) : Stmt := match s with
  | .ClassDef _ _ _ body _ _ _ _ _ _ _ => body.getD j (.Pass ⟨0, 0, 0, 0⟩)
  | _ => .Pass ⟨0, 0, 0, 0⟩
def defArgs (s : Stmt) : Arguments := match s with
  | .FunctionDef _ a _ _ _ _ _ _ _ _ => a
  | _ => { posonlyargs := [], args := [], vararg := none, kwonlyargs := [], kw_defaults := [], kwarg := none, defaults := [] }
def defBody (s : Stmt) : List Stmt := match s with
  | .FunctionDef _ _ b _ _ _ _ _ _ _ => b
  | _ => []
def defScope (s : Stmt) : Scope := match s with
  | .FunctionDef _ _ _ _ _ _ sc _ _ _ => sc
  | _ => { kind := .function, names := [], isGenerator := false, isCoroutine := false }

/-! ### no exception leaves a def -/
abbrev CX0 : CXT := fun _ _ _ _ _ _ => False
abbrev E0 : XK := fun _ _ _ => False
theorem pass0 {X : Cx} : Passes CX0 X E0 := fun _ _ _ _ _ _ _ h => h.elim

/-! ### a def (or method) of the text as it stands behind the top -/
structure Fun (K : PySem.W.Frag) (x qual : Str) (st : Stmt) (f : Addr) (fd : FuncData) : Prop where
  ex : ∃ (oc : Value) (od : Option Addr) (kV doc pm : Value) (an : Option Addr) (cdv ct : Value) (osl : Array (Option Value)),
    fd = PySem.W.fnOf x qual (defArgs st) (defBody st) (defScope st) .none kV doc pm an cdv ct ∧ K.lookup f = some ⟨oc, od, .func fd, osl⟩ ∧ PySem.W.codeIn K cdv qual = true
  kp : PySem.W.keepIn K (.ref f) = true
section
variable {P : Program} {w : World} {K : PySem.W.Frag} {mg : Str → Option Value} {base : Heap}
/-- THE RULE for a def: its body as a term of rules, and the reading of that term -/
theorem Fun.ok {cm : Bool} {x qual : Str} {st : Stmt} {f : Addr} {fd : FuncData} {N ps : List Str} {k : Nat} {sp : Sp} (F : Fun K x qual st f fd) (S : FnScope N ps (defScope st)) (len : ∀ vs H Q E, sp vs H Q E → vs.length = ps.length)
    (hbody : ∀ (cdv : Value) (A : Around) (outer : List Env) (s : Shared) (H : Hp) (vs : List V) (Q : VK) (E : XK), Room cm k (A.deeper (envOfC qual (defScope st) s.heap.objs.size f cdv)) → sp vs H Q E →
      ∃ t, PSs (cxOf CX0 cm P w K mg base N qual (defScope st) f cdv A outer s H E).nox (defBody st) t ∧ t { nx := fun _ H' => Q .non H', rt := Q } (start N vs) H) : FnOk P w K mg base CX0 cm (k + 1) f fd ps sp := by
  obtain ⟨oc, od, kV, doc, pm, an, cdv, ct, osl, rfl, lk, hcd⟩ := F.ex
  refine fn_of lk hcd S len fun A outer s H vs Q E hr hsp => ?_
  obtain ⟨t, h, q⟩ := hbody cdv A outer s H vs Q E hr hsp
  exact ⟨t, h.nox, q⟩
/-- how its arguments bind (no defaults): h is «fun _ _ _ _ _ _ us hl => match us, hl with | [_, _], _ => rfl», one _ a parameter -/
theorem Fun.binds {x qual : Str} {st : Stmt} {f : Addr} {fd : FuncData} {ps : List Str} (F : Fun K x qual st f fd)
    (h : ∀ (kV doc pm : Value) (an : Option Addr) (cdv ct : Value) (us : List Value), us.length = ps.length → bindArgs (PySem.W.fnOf x qual (defArgs st) (defBody st) (defScope st) .none kV doc pm an cdv ct) ⟨us, []⟩ = pure (ps.zip us)) : Binds K fd ps [] := by
  obtain ⟨oc, od, kV, doc, pm, an, cdv, ct, osl, rfl, lk, hcd⟩ := F.ex
  exact .all (h kV doc pm an cdv ct)
theorem fun_mk {x qual : Str} {st : Stmt} {f : Addr} {oc : Value} {od an : Option Addr} {osl : Array (Option Value)} {kV doc pm cdv ct : Value} (l : K.lookup f = some ⟨oc, od, .func (PySem.W.fnOf x qual (defArgs st) (defBody st) (defScope st) .none kV doc pm an cdv ct), osl⟩)
    (c : PySem.W.codeIn K cdv qual = true) (k : PySem.W.keepIn K (.ref f) = true) : Fun K x qual st f (PySem.W.fnOf x qual (defArgs st) (defBody st) (defScope st) .none kV doc pm an cdv ct) := ⟨⟨oc, od, kV, doc, pm, an, cdv, ct, osl, rfl, l, c⟩, k⟩
end
theorem hu_of {cm : Bool} {A : Around} {k : Nat} (hr : Room cm k A) : A.units + 1 < cLine := Nat.lt_of_le_of_lt (Nat.add_le_add_left (by decide : 1 ≤ 64) _) hr.units
/-! ### expressions in short: the name that stands in the i-th slot -/
section
variable {X : Cx}
theorem pv (i : Nat) {x : Str} {pos : Pos} (hN : X.N[i]? = some x := by rfl) (hv : Vis X.env.scope x := by first | exact Or.inl rfl | exact Or.inr (Or.inl rfl) | exact Or.inr (Or.inr rfl)) (hd : (x == ("__debug__" : Str)) = false := by decide)
    (hcd : (x == ("__classdict__" : Str)) = false := by decide) : PE X (.Name x pos) (tVar i) := pe_var hN hv hd hcd
end

/-! ### tests -/
theorem iteF {A B : Prop} (h : B) : if false = true then A else B := by
  rw [if_neg Bool.false_ne_true]
  exact h
theorem iteT {A B : Prop} (h : A) : if true = true then A else B := by
  rw [if_pos rfl]
  exact h
theorem ite2 {c A B : Prop} [Decidable c] (h1 : c → A) (h2 : ¬ c → B) : if c then A else B := by
  by_cases h : c
  · rw [if_pos h]
    exact h1 h
  · rw [if_neg h]
    exact h2 h
/-! ### heaps -/
/-- all that was tracked is as it was -/
def Same (H H' : Hp) : Prop := ∀ b o, H b = some o → H' b = some o
theorem Same.refl (H : Hp) : Same H H := fun _ _ h => h
theorem Same.trans {H H1 H2 : Hp} (a : Same H H1) (b : Same H1 H2) : Same H H2 := fun c o h => b c o (a c o h)
theorem Same.free {H H' : Hp} (e : Same H H') {l : Addr} (h : H' l = Option.none) : H l = Option.none := by
  cases q : H l with
  | none => rfl
  | some o =>
    rw [e l o q] at h
    cases h
theorem Same.seq {K : PySem.W.Frag} {H H' : Hp} {a : Addr} {xs : List V} (e : Same H H') (h : SqL K H a xs) : SqL K H' a xs := by
  rcases h with (h | ⟨o, h⟩) | h
  · exact .inl (.inl (e _ _ h))
  · exact .inl (.inr ⟨o, e _ _ h⟩)
  · exact .inr h

end L2

namespace L2
open PySem PySem.Spec PyProof.Rows

/-- what a comprehension's scope draws from around: the free names' cells -/
def clOf (env : Env) : List (Str × NameKind) → List (Str × Addr) → List (Str × Addr)
  | [], acc => acc
  | (n, k) :: r, acc => if k == .free then clOf env r ((n, (env.cells.lookup n).getD 0) :: acc) else clOf env r acc
theorem clOf_old {env : Env} {x : Str} {c : Addr} : ∀ {ns : List (Str × NameKind)} {acc : List (Str × Addr)}, (∃ c, acc.lookup x = some c) → ∃ c, (clOf env ns acc).lookup x = some c
  | [], _, h => h
  | (n, k) :: r, acc, h => by
    unfold clOf
    split
    · refine clOf_old (c := c) ?_
      obtain ⟨c', e⟩ := h
      rw [List.lookup_cons]
      cases q : x == n
      · exact ⟨c', e⟩
      · exact ⟨_, rfl⟩
    · exact clOf_old (c := c) h
theorem clOf_has {env : Env} {x : Str} : ∀ {ns : List (Str × NameKind)} {acc : List (Str × Addr)}, (x, NameKind.free) ∈ ns → ∃ c, (clOf env ns acc).lookup x = some c
  | (n, k) :: r, acc, h => by
    unfold clOf
    rcases List.mem_cons.mp h with e | h
    · cases e
      rw [if_pos (by rfl)]
      exact clOf_old (c := 0) ⟨_, by rw [List.lookup_cons, beq_self_eq_true]⟩
    · split
      · exact clOf_has h
      · exact clOf_has h
theorem clOf_of {env : Env} {x : Str} {c : Addr} : ∀ {ns : List (Str × NameKind)} {acc : List (Str × Addr)}, (∀ y ∈ ns, y.2 = .free → ∃ d, env.cells.lookup y.1 = some d) → (∀ y d, acc.lookup y = some d → env.cells.lookup y = some d) →
    (clOf env ns acc).lookup x = some c → env.cells.lookup x = some c
  | [], _, _, ha, h => ha _ _ h
  | (n, k) :: r, acc, hn, ha, h => by
    unfold clOf at h
    have hr : ∀ y ∈ r, y.2 = .free → ∃ d, env.cells.lookup y.1 = some d := fun y hy => hn y (List.mem_cons_of_mem _ hy)
    split at h
    · rename_i hk
      have hk' : k = .free := by simpa using hk
      obtain ⟨d, hd⟩ := hn (n, k) List.mem_cons_self hk'
      refine clOf_of hr (fun y d' hy => ?_) h
      rw [List.lookup_cons] at hy
      cases q : y == n
      · rw [q] at hy
        exact ha y d' hy
      · rw [q] at hy
        have e : y = n := by simpa using q
        subst e
        have hd' : env.cells.lookup y = some d := hd
        rw [hd'] at hy
        rw [hd']
        exact hy
    · exact clOf_of hr ha h
theorem mem_of_lookup_str {x : Str} {k : NameKind} : ∀ {ns : List (Str × NameKind)}, ns.lookup x = some k → (x, k) ∈ ns
  | (n, j) :: r, h => by
    rw [List.lookup_cons] at h
    cases q : x == n
    · rw [q] at h
      exact List.mem_cons_of_mem _ (mem_of_lookup_str h)
    · rw [q] at h
      have e : x = n := by simpa using q
      subst e
      cases h
      exact List.mem_cons_self

/-- the context of a comprehension's block; no exception leaves it -/
def cxComp (X : Cx) (N : List Str) (scope : Scope) (C : Addr) (s : Shared) (H : Hp) (fp : List Addr) : Cx where
  prog := X.prog
  w := X.w
  K := X.K
  mg := X.mg
  base := X.base
  A := X.A
  N := N
  s₀ := s
  H₀ := H
  env := compEnvC scope (clOf X.env scope.names []) C X.env
  outer := X.stack
  stack := X.stack
  ex := fp
  fn := fun _ => false
  calm := X.calm
  pn := []
  xe := fun _ _ => False

/-- the names that are drawn from around, by their places -/
def capOk (sc scope : Scope) (N0 : List Str) : List (Option Nat) → List Str → Bool
  | [], _ => true
  | none :: r, _ :: n => capOk sc scope N0 r n
  | some j :: r, x :: n => decide (N0[j]? = some x) && decide (scope.names.lookup x = some .free) && decide (sc.names.lookup x = some .cell) && capOk sc scope N0 r n
  | _ :: _, [] => false
theorem capOk_get {sc scope : Scope} {N0 : List Str} : ∀ {cap : List (Option Nat)} {N : List Str} {i j : Nat}, capOk sc scope N0 cap N = true → cap[i]? = some (some j) →
    ∃ x, N[i]? = some x ∧ N0[j]? = some x ∧ scope.names.lookup x = some .free ∧ sc.names.lookup x = some .cell
  | [], _, _, _, _, e => by simp at e
  | o :: _, [], _, _, h, _ => by cases o <;> simp [capOk] at h
  | o :: r, y :: n, 0, j, h, e => by
    simp at e
    subst e
    unfold capOk at h
    simp only [Bool.and_eq_true, decide_eq_true_eq] at h
    exact ⟨y, rfl, h.1.1.1, h.1.1.2, h.1.2⟩
  | o :: r, y :: n, i + 1, j, h, e => by
    have h' : capOk sc scope N0 r n = true := by
      cases o with
      | none => exact h
      | some k =>
        unfold capOk at h
        simp only [Bool.and_eq_true] at h
        exact h.2
    obtain ⟨x, a, b⟩ := capOk_get (i := i) (j := j) h' (by simpa using e)
    exact ⟨x, by simpa using a, b⟩
/-- what must be true of the written scope; sc: the scope around -/
structure CompScope (sc scope : Scope) (N0 N : List Str) (cap : List (Option Nat)) : Prop where
  kind : scope.kind = .function
  cell : ∀ y ∈ scope.names, y.2 ≠ .cell
  names : ∀ y ∈ scope.names, y.2 = .local → scope.names.lookup y.1 = some .local
  free : ∀ y ∈ scope.names, y.2 = .free → sc.names.lookup y.1 = some .cell
  nd : N.Nodup
  len : cap.length = N.length
  cap : capOk sc scope N0 cap N = true

/-- the block's names ahead of the first turn -/
def capt (cap : List (Option Nat)) (σ : St) : St := cap.map fun o => match o with
  | none => none
  | some j => (σ[j]?).join

theorem relabel_free {scope : Scope} {env : Env} (hk : env.scope.kind = .function) (hf : ∀ y ∈ scope.names, y.2 = .free → env.kindOf y.1 = some .cell) {x : Str} (h : scope.names.lookup x = some .free) :
    (relabel scope env).names.lookup x = some .cell := by
  have all : ∀ (ns : List (Str × NameKind)), (∀ y ∈ ns, y.2 = .free → env.kindOf y.1 = some .cell) → ns.lookup x = some .free →
      (ns.map fun (n, k) => if (k == .free && env.scope.kind == .function && env.kindOf n == some .cell) then (n, NameKind.cell) else (n, k)).lookup x = some .cell := by
    intro ns
    induction ns with
    | nil => intro _ h; simp at h
    | cons y r ih =>
      obtain ⟨n, k⟩ := y
      intro hf h
      rw [List.map_cons]
      rw [List.lookup_cons] at h
      cases q : x == n
      · rw [q] at h
        have := ih (fun y hy => hf y (List.mem_cons_of_mem _ hy)) h
        show List.lookup x ((if (k == .free && env.scope.kind == .function && env.kindOf n == some .cell) = true then (n, NameKind.cell) else (n, k)) :: _) = _
        split <;> (rw [List.lookup_cons, q]; exact this)
      · rw [q] at h
        cases h
        have e := hf (n, .free) List.mem_cons_self rfl
        show List.lookup x ((if (NameKind.free == .free && env.scope.kind == .function && env.kindOf n == some .cell) = true then (n, NameKind.cell) else (n, NameKind.free)) :: _) = _
        rw [if_pos (by rw [hk, e]; rfl), List.lookup_cons, q]
  exact all scope.names hf h
theorem relabel_back {scope : Scope} {env : Env} {x : Str} (hc : ∀ y ∈ scope.names, y.2 ≠ .cell) (h : (relabel scope env).names.lookup x = some .cell ∨ (relabel scope env).names.lookup x = some .free) : (x, NameKind.free) ∈ scope.names := by
  have all : ∀ (ns : List (Str × NameKind)), (∀ y ∈ ns, y.2 ≠ .cell) →
      (∀ k, (k = NameKind.cell ∨ k = NameKind.free) → (ns.map fun (n, k) => if (k == .free && env.scope.kind == .function && env.kindOf n == some .cell) then (n, NameKind.cell) else (n, k)).lookup x = some k → (x, NameKind.free) ∈ ns) := by
    intro ns
    induction ns with
    | nil => intro _ k _ h; simp at h
    | cons y r ih =>
      obtain ⟨n, j⟩ := y
      intro hc k hk h
      rw [List.map_cons] at h
      have hr : ∀ y ∈ r, y.2 ≠ NameKind.cell := fun y hy => hc y (List.mem_cons_of_mem _ hy)
      change List.lookup x ((if (j == .free && env.scope.kind == .function && env.kindOf n == some .cell) = true then (n, NameKind.cell) else (n, j)) :: _) = some k at h
      split at h
      · rename_i hj
        rw [Bool.and_eq_true, Bool.and_eq_true] at hj
        have hj' : j = .free := by simpa using hj.1.1
        subst hj'
        rw [List.lookup_cons] at h
        cases q : x == n
        · rw [q] at h
          exact List.mem_cons_of_mem _ (ih hr k hk h)
        · have e : x = n := by simpa using q
          subst e
          exact List.mem_cons_self
      · rw [List.lookup_cons] at h
        cases q : x == n
        · rw [q] at h
          exact List.mem_cons_of_mem _ (ih hr k hk h)
        · rw [q] at h
          cases h
          have e : x = n := by simpa using q
          subst e
          rcases hk with z | z
          · exact absurd z (hc (x, j) List.mem_cons_self)
          · rw [z]; exact List.mem_cons_self
  rcases h with h | h
  · exact all scope.names hc _ (.inl rfl) h
  · exact all scope.names hc _ (.inr rfl) h

section
variable {X : Cx} {pins : List (Addr × Obj)} {σ : St} {H : Hp} {s : Shared} {h₁ : Heap} {scope : Scope} {N : List Str} {cap : List (Option Nat)} {fp : List Addr} {t' : Nat}

theorem comp_start (S : CompScope X.env.scope scope X.N N cap) (I : Inv X pins σ H s) (hf : ∀ b ∈ fp, FpOk X pins H b) (hlt : ∀ b ∈ fp, b < s.heap.objs.size)
    (hns : h₁.Ns s.heap.objs.size (fun x => ([] : List (Str × Value)).reverse.lookup x)) (keep : ∀ b o, s.heap.get? b = some o → h₁.get? b = some o) :
    Inv (cxComp X N scope s.heap.objs.size s H fp) [] (capt cap σ) H { s with heap := h₁, toks := t' } := by
  have hkf : ∀ y ∈ scope.names, y.2 = .free → X.env.kindOf y.1 = some .cell := S.free
  have hcell : ∀ y ∈ scope.names, y.2 = .free → ∃ d, X.env.cells.lookup y.1 = some d := fun y hy e => I.ok.has _ (.inl (hkf y hy e))
  have hcl : ∀ x c, (clOf X.env scope.names []).lookup x = some c → X.env.cells.lookup x = some c := fun x c h => clOf_of hcell (fun y d h => by simp at h) h
  refine ⟨⟨I.ok.mod, S.kind, I.ok.glob, I.ok.blt, Nat.le_refl _, fun x y c h1 h2 => I.ok.inj x y c (hcl x c h1) (hcl y c h2), fun x h => clOf_has (relabel_back S.cell h), (fun x c h => nomatch h), I.ok.hd, I.ok.frames, .inl rfl,
    fun b hb => ⟨Nat.ne_of_lt (hlt b hb), fun x c h => (hf b hb).2.2.2.2.1 x c (hcl x c h)⟩, I.bs, Nat.le_trans I.ok.bsz I.sz, fun b o e hb => ?_, fun b hb h => ?_, I.stack, I.stkFree⟩,
    rfl, I.bare, Un.kept keep, ⟨_, hns, fun i x v e1 e2 e3 => ?_⟩, fun x c h => ?_, I.hok.fresh (Nat.le_refl _), fun x c h => I.freeC x c (hcl x c h), fun p hp => (by simp [cxComp] at hp), I.hok.kept keep, ?_⟩
  · rcases (hf b hb).2.2.2.1 with z | z
    · exact I.ok.noex b o e z
    · exact absurd (Nat.lt_of_lt_of_le (Heap.lt_size (I.ok.bs b o e).1) z) (Nat.lt_irrefl _)
  · rcases List.mem_cons.mp (I.stkSub b h) with z | z
    · exact (hf b hb).2.1 z
    · exact (hf b hb).2.2.1 z
  · have e2' : (capt cap σ)[i]? = some (some v) := e2
    unfold capt at e2'
    rw [List.getElem?_map] at e2'
    cases q : cap[i]? with
    | none => rw [q] at e2'; cases e2'
    | some o =>
      cases o with
      | none => rw [q] at e2'; cases e2'
      | some j =>
        rw [q] at e2'
        obtain ⟨y, n1, n2, n3, n4⟩ := capOk_get S.cap q
        have e1' : N[i]? = some x := e1
        rw [n1] at e1'
        cases e1'
        have ej : σ[j]? = some (some v) := by
          have e3 : (σ[j]?).join = some v := Option.some.inj e2'
          cases r : σ[j]? with
          | none => rw [r] at e3; cases e3
          | some o => rw [r] at e3; rw [show o = some v from e3]
        obtain ⟨m, hn, hl⟩ := I.loc
        obtain ⟨u, ru, l⟩ := hl j x v n2 ej (.inr (.inl n4))
        refine ⟨u, ru, .inr ⟨.inl (relabel_free I.ok.kind hkf n3), ?_⟩⟩
        rcases l with ⟨hk, _⟩ | ⟨_, c, hc, z⟩
        · have n4' : X.env.kindOf x = some .cell := n4
          rw [n4'] at hk; cases hk
        · obtain ⟨c', hc'⟩ := clOf_has (env := X.env) (acc := []) (mem_of_lookup_str n3)
          have := hcl x c' hc'
          rw [hc] at this
          cases this
          exact ⟨c, hc', z.keeps keep⟩
  · obtain ⟨v, z⟩ := I.cell x c (hcl x c h)
    exact ⟨v, z.keeps keep⟩
  · show (capt cap σ).length = N.length
    unfold capt
    rw [List.length_map]
    exact S.len

/-- behind the block: the frame is as it was -/
theorem comp_end {pins' : List (Addr × Obj)} {σ' : St} {H' : Hp} {s' : Shared} {h' : Heap} (I : Inv X pins σ H s) (hf : ∀ b ∈ fp, FpOk X pins H b) (J : Inv (cxComp X N scope s.heap.objs.size s H fp) pins' σ' H' s')
    (sb : Heap.SameBut s.heap.objs.size s'.heap h') : Inv X pins σ H' { s' with heap := h' } := by
  have I1 : Inv X pins σ H' s' := I.call' J.os J.base J.hok J.bare fun b hb => ⟨(hf b hb).2.2.2.1, (hf b hb).2.1, (hf b hb).2.2.2.2.1, (hf b hb).2.2.2.2.2⟩
  have hfree : H' s.heap.objs.size = none := J.free
  refine I1.turned (t' := s'.toks) (it := s.heap.objs.size) (fun b o hb e => (sb.2 b hb).trans e) hfree (Nat.ne_of_gt I.lt) (.inr I.sz) (fun x c h z => ?_) fun p hp z => ?_
  · obtain ⟨v, q⟩ := I.cell x c h
    have := q.lt
    rw [z] at this
    exact Nat.lt_irrefl _ this
  · have := Heap.lt_size (I.pin p hp).1
    rw [z] at this
    exact Nat.lt_irrefl _ this
end

/-- the tests of a clause: none, or one -/
def PIfs (X : Cx) (ifs : List Expr) (t : TT) : Prop :=
  ∀ (pins : List (Addr × Obj)) (s : Shared) (σ : St) (H : Hp) (Q : Bool → Hp → Prop), Inv X pins σ H s → t σ H Q →
    wpAny (model X.prog X.w) X.A (forIn ifs true fun c r => if r = true then do let ok ← isTrue c X.env (eval c X.env); pure (ForInStep.yield ok) else pure (ForInStep.yield r)) (TP X pins σ Q) X.xe s
def tYes : TT := fun _ H Q => Q true H
theorem pf_none {X : Cx} : PIfs X [] tYes := fun pins s σ H Q I h => wpAny_tests_nil ⟨H, I, h⟩
section
variable {prog : Program} {w : World} {A : Around} {R : Result → Shared → Prop} {s : Shared}
theorem compLoop_gen {elt target iter : Expr} {ifs : List Expr} {scope : Scope} {pos : Pos} {it acc : Value} {env : Env} (I : Nat → Shared → Prop)
    (turn : ∀ n s, I n s → wpAny (model prog w) A (pyNext it) (fun r s₁ => match r with
      | none => R (.ok .next) s₁
      | some v => wpAny (model prog w) A (letOwnedTupleGo target it v) (fun _ s₀ => wpAny (model prog w) A (assign target env v) (fun _ s₂ =>
          wpAny (model prog w) A (forIn ifs true fun c r => if r = true then do let ok ← isTrue c env (eval c env); pure (ForInStep.yield ok) else pure (ForInStep.yield r)) (fun ok s₃ =>
            if ok = true then wpAny (model prog w) A (eval elt env) (fun x s₄ =>
              wpAny (model prog w) A (call (.builtin "list.append") [acc, x]) (fun _ s₅ => ∃ m, m < n ∧ I m s₅) (fun _ _ => False) s₄) (fun _ _ => False) s₃
            else ∃ m, m < n ∧ I m s₃) (fun _ _ => False) s₂) (fun _ _ => False) s₀) (fun _ _ => False) s₁) (fun _ _ => False) s)
    (n : Nat) (h : I n s) : codeAny (model prog w) A (.compLoop (.ListComp elt [⟨target, iter, ifs, 0⟩] scope pos) 0 it acc env) R s := by
  refine codeAny_loop rfl I (fun n s hI => ?_) n h
  show wpAny _ A ((compTurn (.ListComp elt [⟨target, iter, ifs, 0⟩] scope pos) 0 it acc env).onRaise (fun x => do noteFrame x env; theTreesLotGoes x)) _ _ s
  refine wpAny_noted ?_
  rw [compTurn_list]
  refine wpAny_bind (wpAny_standAt (wpAny_bind (wpAny_mono (turn n s hI) (fun r s₁ h₁ => ?_) fun _ _ h' => h'.elim)))
  cases r with
  | none => exact wpAny_pure h₁
  | some v =>
    refine wpAny_bind (wpAny_mono h₁ (fun _ s₀ h₀ => ?_) fun _ _ h' => h'.elim)
    refine wpAny_bind (wpAny_mono h₀ (fun _ s₂ h₂ => wpAny_bind (wpAny_mono h₂ (fun ok s₃ h₃ => ?_) fun _ _ h' => h'.elim)) fun _ _ h' => h'.elim)
    cases ok with
    | false => exact wpAny_pure ⟨rfl, h₃⟩
    | true =>
      exact wpAny_bind (wpAny_bind (wpAny_mono h₃ (fun x s₄ h₄ => wpAny_bind (wpAny_mono h₄ (fun _ s₅ h₅ => wpAny_pure (wpAny_pure ⟨rfl, h₅⟩)) fun _ _ h' => h'.elim)) fun _ _ h' => h'.elim))
end

/-- the turns of a comprehension: D the new list, W the invariant by the turn, a measure, the items so far, the block's names, the heap -/
def compBody (J : It) (H1 : Hp) (cap : List (Option Nat)) (g : TG) (tt : TT) (te : TE) (σ : St) (Q : VK) : Prop := ∀ D, H1 D = none →
  ∃ W : Nat → Nat → List V → St → Hp → Prop, (∃ m, W 0 m [] (capt cap σ) (upd H1 D (.lst []))) ∧ ∀ i m ys σ' H', W i m ys σ' H' → H' D = some (.lst ys) ∧
    ((J.stop i H' ∧ Q (.ref D) H') ∨ (J.go i H' ∧ ∀ x H2, J.yld i H' x H2 → g x σ' H2 fun σ2 H3 => tt σ2 H3 fun b H4 =>
      if b = true then te σ2 H4 fun y H5 => H5 D = some (.lst ys) ∧ ys.length < sizeLine ∧ ∃ m', m' < m ∧ W (i + 1) m' (ys ++ [y]) σ2 (upd H5 D (.lst (ys ++ [y])))
      else ∃ m', m' < m ∧ W (i + 1) m' ys σ2 H4))
/-- [elt for target in iter if test] -/
def tComp (wi : TI) (cap : List (Option Nat)) (g : TG) (tt : TT) (te : TE) : TE := fun σ H Q => wi σ H fun J H1 => compBody J H1 cap g tt te σ Q

theorem pe_comp {X : Cx} {elt tgt iter : Expr} {ifs : List Expr} {scope : Scope} {pos : Pos} {N : List Str} {cap : List (Option Nat)} {wi : TI} {g : TG} {tt : TT} {te : TE}
    (S : CompScope X.env.scope scope X.N N cap) (hc : X.calm = true) (hi : PI X tgt iter wi)
    (hb : ∀ (C : Addr) (s : Shared) (H : Hp) (fp : List Addr), PG (cxComp X N scope C s H fp) tgt g ∧ PIfs (cxComp X N scope C s H fp) ifs tt ∧ PE (cxComp X N scope C s H fp) elt te)
    (hclos : closureFor scope X.env = pure (clOf X.env scope.names []) := by with_unfolding_all rfl) (hs : ∀ x, foldedSetIterable iter X.env x = pure x := by intro _; rfl) :
    PE X (.ListComp elt [⟨tgt, iter, ifs, 0⟩] scope pos) (tComp wi cap g tt te) := by
  intro pins s σ H Q I h
  rw [eval_ListComp]
  refine wpAny_comprehension_free (use := none) (cl := clOf X.env scope.names []) rfl hs hclos S.kind S.names ?_
  refine thn (hi pins s σ H _ I h) fun v s1 h1 => thn h1 fun itv s2 h2 => ?_
  obtain ⟨it, fp, tn, J, H2, e, I2, T, st2, f2, k⟩ := h2
  subst e
  refine wpAny_newObj_type (wpAny_newFunctionEnv S.cell (by intro y hy; simp at hy) (fun h₁ hns₁ hsb₁ => ?_) S.kind)
  dsimp only at hns₁ hsb₁ ⊢
  have I3 : Inv X pins σ (upd H2 s2.heap.objs.size (.lst [])) { s2 with heap := s2.heap.push { cls := .type "list", dict := none, data := .seq ([] : List Value).toArray } } := I2.lnew (t' := s2.toks) .nil (Nat.zero_le _)
  obtain ⟨W, ⟨m0, w0⟩, turn⟩ := k s2.heap.objs.size I2.fresh
  generalize hD : s2.heap.objs.size = D at *
  generalize hsD : ({ s2 with heap := s2.heap.push { cls := .type "list", dict := none, data := .seq ([] : List Value).toArray } } : Shared) = sD at *
  have hsz : sD.heap.objs.size = D + 1 := by rw [← hsD, ← hD]; exact Heap.size_push ..
  have hheap : s2.heap.push { cls := .type "list", dict := none, data := .seq ([] : List Value).toArray } = sD.heap := by rw [← hsD]
  rw [hheap] at hns₁ hsb₁ ⊢
  have up : ∀ b o, s2.heap.get? b = some o → sD.heap.get? b = some o := fun b o e => by rw [← hheap]; exact Heap.get?_push_of_some _ e
  have keep : ∀ b o, sD.heap.get? b = some o → h₁.get? b = some o := fun b o e => hsb₁.extBut b o (Nat.ne_of_lt (Heap.lt_size e)) (Heap.get?_push_of_some _ e)
  have hfD : D ∉ fp := fun hm => by
    obtain ⟨o, e, _⟩ := T.obj _ _ st2 D hm
    have := Heap.lt_size e
    rw [hD] at this
    exact Nat.lt_irrefl _ this
  have f3 : ∀ b ∈ fp, FpOk X pins (upd H2 D (.lst [])) b := fun b hb => ⟨by rw [upd_ne (fun z => hfD (by rw [← z]; exact hb))]; exact (f2 b hb).1, (f2 b hb).2⟩
  have hlt : ∀ b ∈ fp, b < sD.heap.objs.size := fun b hb => by
    obtain ⟨o, e, _⟩ := T.obj _ _ st2 b hb
    exact Heap.lt_size (up b o e)
  have I4 := comp_start (t' := s2.toks + ([] : List (Str × Value)).length) S I3 f3 hlt hns₁ keep
  obtain ⟨hg, hif, hel⟩ := hb sD.heap.objs.size sD (upd H2 D (.lst [])) fp
  have st4 : tn 0 h₁ := T.keep _ _ _ st2 fun b hb o e => keep b o (up b o e)
  have stat : ∀ {H' : Hp}, (∀ b ∈ fp, H' b = none) → ∀ b ∈ fp, FpOk (cxComp X N scope sD.heap.objs.size sD (upd H2 D (.lst [])) fp) [] H' b := fun hn b hb =>
    ⟨hn b hb, (I4.ok.exf b hb).1, I4.ok.exfs b hb, .inl hb, fun x c h z => (I4.ok.exf b hb).2 x c h z, fun p hp => (by simp [cxComp] at hp)⟩
  have loop : codeAny (model X.prog X.w) X.A (.compLoop (.ListComp elt [⟨tgt, iter, ifs, 0⟩] scope pos) 0 (.ref it) (.ref D) (compEnvC scope (clOf X.env scope.names []) sD.heap.objs.size X.env))
      (compPost (model X.prog X.w) X.A X.xe none (EP X pins σ Q) (.ref D) sD.heap.objs.size) { sD with heap := h₁, toks := s2.toks + ([] : List (Str × Value)).length } := by
    refine compLoop_gen (fun n s' => ∃ i ys σ' H', Inv (cxComp X N scope sD.heap.objs.size sD (upd H2 D (.lst [])) fp) [] σ' H' s' ∧ tn i s'.heap ∧ (∀ b ∈ fp, H' b = none) ∧ W i n ys σ' H') ?_ m0
      ⟨0, [], capt cap σ, _, I4, st4, fun b hb => (f3 b hb).1, w0⟩
    rintro n s5 ⟨i, ys, σ5, H5, I5, st5, fr5, w5⟩
    obtain ⟨hD5, way⟩ := turn i n ys σ5 H5 w5
    rcases way with ⟨stop, q⟩ | ⟨go, step⟩
    · refine thn (T.done (cxComp X N scope sD.heap.objs.size sD (upd H2 D (.lst [])) fp) rfl rfl rfl hc i [] s5 σ5 H5 (fun _ _ => False) I5 (stat fr5) st5 stop) fun r s6 ⟨hr, I6⟩ => ?_
      subst hr
      obtain ⟨m, hn, _⟩ := I6.loc
      exact ⟨m, hn, fun h' sb => ⟨.ref D, H5, comp_end I3 f3 I6 sb, rfl, q⟩⟩
    · refine thn (T.item (cxComp X N scope sD.heap.objs.size sD (upd H2 D (.lst [])) fp) rfl rfl rfl hc i [] s5 σ5 H5 (fun _ _ => False) I5 (stat fr5) st5 go) fun r s6 ⟨u, hr, h6⟩ => ?_
      subst hr
      refine thn h6 fun _ s7 ⟨x, H7, I7, r7, y7, st7, fr7⟩ => ?_
      have I7' := I7.pinned (stat fr7) (T.obj _ _ st7)
      refine thn (hg _ s7 σ5 H7 x u _ I7' r7 (step x H7 y7)) fun _ s8 ⟨σ8, H8, I8, q8⟩ => ?_
      refine thn (hif _ s8 σ8 H8 _ I8 q8) fun b s9 ⟨H9, I9, q9⟩ => ?_
      have back : ∀ {σ' : St} {H' : Hp} {s' : Shared}, Inv (cxComp X N scope sD.heap.objs.size sD (upd H2 D (.lst [])) fp) ([] ++ pinsAt fp s7.heap) σ' H' s' → tn (i + 1) s'.heap ∧ ∀ b ∈ fp, H' b = none := fun {σ' H' s'} J' =>
        ⟨T.keep _ _ _ st7 fun b hb o e => (J'.pin (b, o) (List.mem_append_right _ (List.mem_append_right _ (mem_pinsAt hb e)))).1, fun b hb => by
          obtain ⟨o, e, d⟩ := T.obj _ _ st7 b hb
          exact (J'.pin (b, o) (List.mem_append_right _ (List.mem_append_right _ (mem_pinsAt hb e)))).2.1⟩
      cases b with
      | false =>
        obtain ⟨m', hm, w9⟩ := (show ∃ m', m' < n ∧ W (i + 1) m' ys σ8 H9 from q9)
        exact ⟨m', hm, i + 1, ys, σ8, H9, I9.unpinned, (back I9).1, (back I9).2, w9⟩
      | true =>
        refine thn (hel _ s9 σ8 H9 _ I9 (show te σ8 H9 _ from q9)) fun y s10 ⟨v10, H10, I10, r10, q10⟩ => ?_
        obtain ⟨hD10, hz, m', hm, w10⟩ := q10
        refine thn (mt_append (X := cxComp X N scope sD.heap.objs.size sD (upd H2 D (.lst [])) fp) _ s10 σ8 H10 (.ref D) [v10] (.ref D) [y] (fun _ H' => H' = upd H10 D (.lst (ys ++ [v10]))) I10 rfl (.cons r10 .nil) ⟨D, ys, v10, rfl, rfl, hD10, hz, rfl⟩) fun _ s11 ⟨v11, H11, I11, _, e11⟩ => ?_
        subst e11
        exact ⟨m', hm, i + 1, ys ++ [v10], σ8, _, I11.unpinned, (back I11).1, (back I11).2, w10⟩
  subst hsD
  subst hD
  exact codeAny_compStart_list loop (T.self _ 0 _ _ _ st4 loop)
end L2

namespace L2
open PySem PySem.Spec PyProof.Rows
section
variable {X : Cx} {x : Str} {pos : Pos} {tg : Expr}
/-- a module's int, text, object -/
theorem pe_globI {i : Int} (hg : Gl X x) (hm : ∃ t, X.mg x = some (.int i t)) (hd : (x == ("__debug__" : Str)) = false := by decide) : PE X (.Name x pos) (tC (.int i)) := by
  obtain ⟨t, e⟩ := hm
  exact pe_glob hg e ⟨t, rfl⟩ hd
theorem pe_globS {y : Str} (hg : Gl X x) (hm : ∃ t, X.mg x = some (.str y t)) (hd : (x == ("__debug__" : Str)) = false := by decide) : PE X (.Name x pos) (tC (.str y)) := by
  obtain ⟨t, e⟩ := hm
  exact pe_glob hg e ⟨t, rfl⟩ hd
/-- isinstance(x, T), T a built-in class -/
theorem call_isinst : CallR X (.builtin "isinstance") (fun xs H Q => ∃ x T t b, xs = [x, .ty T] ∧ TyOf X.K H x t ∧ PySem.W.kitOne X.K t (.type T) = some b ∧ Q (.bl b) H) := by
  intro pins s σ H xs us Q I r h
  obtain ⟨x, T, t, b, rfl, ty, e, q⟩ := h
  obtain ⟨u, v, rfl, ru, rv⟩ := r.two
  cases rv
  exact isinst_ok I ru ty e fun tk => ⟨.bl b, H, I.tok tk, rfl, q⟩

theorem bools_of : ∀ {bs : List Bool} {us : List Value}, Vals (bs.map V.bl) us → LSm.BoolsAre us bs
  | [], _, .nil => .nil
  | b :: bs, _, .cons r t => by cases r; exact .cons b (bools_of t)
theorem all_boolsL {prog : Program} {w : World} {A : Around} {E : Value → Shared → Prop} {s : Shared} {l : Addr} {vs : List Value} {bs : List Bool} {Q : Value → Shared → Prop} (hh : A.handled = none) (hl : s.heap.IsList l vs.toArray) (hb : LSm.BoolsAre vs bs)
    (h : ∀ h' tk, (∀ b o, s.heap.get? b = some o → h'.get? b = some o) → Q (.bool (bs.all id)) { s with heap := h', toks := tk }) : wpAny (model prog w) A (call (.builtin "all") [.ref l]) Q E s := by
  have hlt : l < s.heap.objs.size := by obtain ⟨_, e, _⟩ := hl; exact Heap.lt_size e
  refine call_all_walk (wpAny_pyIter_list hl ?_)
  refine ⟨s.heap.objs.size, [s.heap.objs.size, l], [s.heap.objs.size], vs.toArray.size, _, _, fun i => (bs[i]?).getD true, rfl, Walks.list (A := A.in1) hh _ l (Nat.ne_of_lt hlt) vs.toArray,
    ⟨⟨_, Heap.get?_push_size _ rfl, rfl, rfl⟩, hl.push _⟩, fun i v s' Q' E' hP hQ => ?_, fun h' tk hk => ?_⟩
  · obtain ⟨b, e, rfl⟩ := hb.get i v (by simpa using hP)
    simp only [e, Option.getD_some] at hQ
    exact wpAny_truthy_bool hQ
  · have e : ((List.range vs.toArray.size).all fun i => (bs[i]?).getD true) = bs.all id := by
      rw [List.size_toArray, hb.length]; exact LSm.range_all bs
    rw [e]
    exact h h' tk (LSm.kept_iter hk)
/-- all(list of bools) -/
theorem call_all (hc : X.calm = true) : CallR X (.builtin "all") (fun xs H Q => ∃ (p : Addr) (bs : List Bool), xs = [.ref p] ∧ SqL X.K H p (bs.map V.bl) ∧ Q (.bl (bs.all id)) H) := by
  intro pins s σ H xs us Q I r h
  obtain ⟨p, bs, rfl, hq, q⟩ := h
  obtain ⟨u, rfl, ru⟩ := r.one
  cases ru
  obtain ⟨its, rv, pl, hz⟩ := I.list hq
  exact all_boolsL (I.ok.hd hc) pl.isList (bools_of rv) fun h' tk hk => ⟨.bl _, H, I.kept hk, rfl, q⟩
/-- the signs of a text -/
def Its (y : Str) : It := ⟨fun i _ => i < y.cps.size, fun i H x H' => H' = H ∧ ∃ c, y.cps[i]? = some c ∧ x = .str ⟨#[c]⟩, fun i _ => i = y.cps.size⟩
theorem walks_str {prog : Program} {w : World} {A : Around} (hh : A.handled = none) (I : Addr) (y : Str) (t : Tok) : Walks prog w A I [I] [I] y.cps.size (SignAt y) (fun i h => h.IsStrIter I (strIterType y) y t i) := by
  unfold strIterType
  split
  · exact Walks.strAscii hh I y t
  · exact Walks.strWide hh I y t
theorem turn_str {P : Program} {w : World} {K : PySem.W.Frag} (y : Str) (t : Tok) (it : Addr) : Turn P w K tg (Its y) [it] it (fun i h => h.IsStrIter it (strIterType y) y t i) where
  mem := by simp
  obj := fun i h st b hb => by
    have e : b = it := by simpa using hb
    subst e
    obtain ⟨o, e, c, d⟩ := st
    exact ⟨o, e, fun v z => by rw [d] at z; cases z⟩
  keep := fun i h h' st k => by
    obtain ⟨o, e, r⟩ := st
    exact ⟨o, k it (by simp) o e, r⟩
  item := by
    intro X hP hw hK hc i pins s σ H E I hf st hg
    subst hP hw hK
    obtain ⟨f0, f1, f2, f3, f4, f5⟩ := hf it (by simp)
    have W := walks_str (prog := X.prog) (w := X.w) (I.ok.hd hc) it y t
    refine W.item i s _ _ hg st fun v h' tk hv st' kk => ?_
    obtain ⟨c, t', hc', rfl⟩ := hv
    have I1 : Inv X pins σ H { s with heap := h', toks := tk } := I.turned (fun b o hb e => kk b o (by simpa using hb) e) f0 f1 f3 f4 f5
    obtain ⟨o, e, c1, d⟩ := id st'
    refine ⟨_, rfl, go_of (s := { s with heap := h', toks := tk }) (n := strIterType y) e c1 d ?_ ⟨.str ⟨#[c]⟩, H, I1, ⟨t', rfl⟩, ⟨rfl, c, hc', rfl⟩, st', fun b hb => (hf b hb).1⟩⟩
    unfold strIterType
    split <;> decide
  done := by
    intro X hP hw hK hc i pins s σ H E I hf st hg
    subst hP hw hK
    have hg' : i = y.cps.size := hg
    subst hg'
    obtain ⟨f0, f1, f2, f3, f4, f5⟩ := hf it (by simp)
    have W := walks_str (prog := X.prog) (w := X.w) (I.ok.hd hc) it y t
    exact W.done s _ _ st fun h' tk kk => ⟨rfl, I.turned (fun b o hb e => kk b o (by simpa using hb) e) f0 f1 f3 f4 f5⟩
  self := fun A i s Q E st h => by
    obtain ⟨o, e, c, d⟩ := id st
    revert st c
    unfold strIterType
    split
    · intro st c; exact wpAny_pyIter_striter_ascii st h
    · intro st c; exact wpAny_pyIter_striter_wide st h
def iStr (tl : TE) : TI := fun σ H R => tl σ H fun x H1 => ∃ y, x = .str y ∧ R (Its y) H1
theorem pi_str {l : Expr} {tl : TE} (hl : PE X l tl) : PI X tg l (iStr tl) := by
  intro pins s σ H R I h
  refine thn (hl pins s σ H _ I h) fun v s1 ⟨x, H1, I1, r1, q1⟩ => ?_
  obtain ⟨y, e, q⟩ := q1
  subst e
  obtain ⟨t, rfl⟩ := r1
  refine wpAny_pyIter_strU ?_
  refine ⟨s1.heap.objs.size, [s1.heap.objs.size], _, _, H1, rfl, I1.kept (t' := s1.toks) fun b o e => Heap.get?_push_of_some _ e, turn_str y t _, ⟨_, Heap.get?_push_size _ rfl, rfl, rfl⟩, fun b hb => ?_, q⟩
  have e : b = s1.heap.objs.size := by simpa using hb
  subst e
  exact I1.fpOk (Nat.le_refl _) (I1.hok.fresh (Nat.le_refl _))
end
end L2
namespace L2
open PySem PySem.Spec PyProof.Rows
/-- a def with defaults -/
structure FunD (K : PySem.W.Frag) (x qual : Str) (st : Stmt) (f : Addr) (fd : FuncData) : Prop where
  ex : ∃ (oc : Value) (od : Option Addr) (dV kV doc pm : Value) (an : Option Addr) (cdv ct : Value) (osl : Array (Option Value)),
    fd = PySem.W.fnOf x qual (defArgs st) (defBody st) (defScope st) dV kV doc pm an cdv ct ∧ K.lookup f = some ⟨oc, od, .func fd, osl⟩ ∧ PySem.W.codeIn K cdv qual = true
  kp : PySem.W.keepIn K (.ref f) = true
section
variable {P : Program} {w : World} {K : PySem.W.Frag} {mg : Str → Option Value} {base : Heap}
theorem FunD.ok {cm : Bool} {x qual : Str} {st : Stmt} {f : Addr} {fd : FuncData} {N ps : List Str} {k : Nat} {sp : Sp} (F : FunD K x qual st f fd) (S : FnScope N ps (defScope st)) (len : ∀ vs H Q E, sp vs H Q E → vs.length = ps.length)
    (hbody : ∀ (cdv : Value) (A : Around) (outer : List Env) (s : Shared) (H : Hp) (vs : List V) (Q : VK) (E : XK), Room cm k (A.deeper (envOfC qual (defScope st) s.heap.objs.size f cdv)) → sp vs H Q E →
      ∃ t, PSs (cxOf CX0 cm P w K mg base N qual (defScope st) f cdv A outer s H E).nox (defBody st) t ∧ t { nx := fun _ H' => Q .non H', rt := Q } (start N vs) H) : FnOk P w K mg base CX0 cm (k + 1) f fd ps sp := by
  obtain ⟨oc, od, dV, kV, doc, pm, an, cdv, ct, osl, rfl, lk, hcd⟩ := F.ex
  exact fn_of lk hcd S len fun A outer s H vs Q E hr h => by
    obtain ⟨t, ht, q⟩ := hbody cdv A outer s H vs Q E hr h
    exact ⟨t, ht.nox, q⟩
theorem funD_mk {x qual : Str} {st : Stmt} {f : Addr} {oc : Value} {od an : Option Addr} {osl : Array (Option Value)} {dV kV doc pm cdv ct : Value} (l : K.lookup f = some ⟨oc, od, .func (PySem.W.fnOf x qual (defArgs st) (defBody st) (defScope st) dV kV doc pm an cdv ct), osl⟩)
    (c : PySem.W.codeIn K cdv qual = true) (k : PySem.W.keepIn K (.ref f) = true) : FunD K x qual st f (PySem.W.fnOf x qual (defArgs st) (defBody st) (defScope st) dV kV doc pm an cdv ct) :=
  ⟨⟨oc, od, dV, kV, doc, pm, an, cdv, ct, osl, rfl, l, c⟩, k⟩
end
end L2
namespace L2
open PySem PySem.Spec PyProof.Rows
/-- what an iterator yields, whatever else is laid meanwhile -/
def Seq (J : It) (H : Hp) (xs : List V) : Prop := ∀ H', Same H H' → (∀ (i : Nat) x, xs[i]? = some x → J.go i H' ∧ ∀ x' H2, J.yld i H' x' H2 → x' = x ∧ H2 = H') ∧ J.stop xs.length H'
theorem Seq.up {J : It} {H H' : Hp} {xs : List V} (h : Seq J H xs) (s : Same H H') : Seq J H' xs := fun H2 s2 => h H2 (s.trans s2)
theorem seq_str (y : Str) (H : Hp) : Seq (Its y) H (y.cps.toList.map fun c => .str ⟨#[c]⟩) := fun H' _ => by
  refine ⟨fun i x e => ?_, ?_⟩
  · rw [List.getElem?_map] at e
    cases q : y.cps.toList[i]? with
    | none => rw [q] at e; cases e
    | some c =>
      rw [q] at e
      have q' : y.cps[i]? = some c := by simpa using q
      refine ⟨(Array.getElem?_eq_some_iff.mp q').1, fun x' H2 hy => ?_⟩
      obtain ⟨e1, c', e2, e3⟩ := hy
      rw [q'] at e2
      cases e2
      exact ⟨e3.trans (Option.some.inj e), e1⟩
  · show _ = _
    simp
theorem seq_range (lo : Int) (n : Nat) (H : Hp) : Seq (Itr lo n) H ((List.range n).map fun (i : Nat) => V.int (lo + (i : Int))) := fun H' _ => by
  refine ⟨fun i x e => ?_, ?_⟩
  · have hi : i < n := by
      have := (List.getElem?_eq_some_iff.mp e).1
      simpa using this
    refine ⟨hi, fun x' H2 hy => ?_⟩
    obtain ⟨e1, e2⟩ := hy
    rw [List.getElem?_map, List.getElem?_range hi] at e
    exact ⟨e2.trans (Option.some.inj e), e1⟩
  · show n ≤ _
    simp
theorem Same.seqT {K : PySem.W.Frag} {H H' : Hp} {a : Addr} {xs : List V} (e : Same H H') (h : SqT K H a xs) : SqT K H' a xs := by
  rcases h with (h | ⟨o, h⟩) | h
  · exact .inl (.inl (e _ _ h))
  · exact .inl (.inr ⟨o, e _ _ h⟩)
  · exact .inr h
theorem seq_tup {K : PySem.W.Frag} {H : Hp} {a : Addr} {xs : List V} (h : SqT K H a xs) : Seq (Itt K a) H xs := fun H' s => by
  have h' := s.seqT h
  refine ⟨fun i x e => ⟨⟨xs, x, h', e⟩, fun x' H2 hy => ?_⟩, ⟨xs, h', Nat.le_refl _⟩⟩
  obtain ⟨e1, e2⟩ := hy
  have := e2 xs h'
  rw [e] at this
  exact ⟨(Option.some.inj this).symm, e1⟩
theorem same_upd {H : Hp} {p : Addr} {o : HO} (h : H p = none) : Same H (upd H p o) := fun b u e => by rw [upd_ne (ne_of_none e h)]; exact e
/-- for, over what an iterator yields -/
theorem for_seq {J : It} {xs : List V} {g : TG} {tb : TS} {D : Ends} {σ : St} {H0 H : Hp} (hJ : Seq J H0 xs) (Pv : Nat → St → Hp → Prop) (h0 : Pv 0 σ H) (hsm : ∀ i σ H, i ≤ xs.length → Pv i σ H → Same H0 H)
    (hs : ∀ (i : Nat) x σ H, xs[i]? = some x → Pv i σ H → g x σ H fun σ2 H2 => tb { D with nx := Pv (i + 1), ct := Pv (i + 1), bk := D.nx } σ2 H2) (hd : ∀ σ H, Pv xs.length σ H → D.nx σ H) :
    ∃ W : Nat → Nat → St → Hp → Prop, (∃ m, W 0 m σ H) ∧ ∀ i m σ H, W i m σ H →
      (J.stop i H ∧ D.nx σ H) ∨ (J.go i H ∧ ∃ N : St → Hp → Prop, (∀ σ' H', N σ' H' → ∃ m', m' < m ∧ W (i + 1) m' σ' H') ∧ ∀ x H', J.yld i H x H' → g x σ H' fun σ2 H2 => tb { D with nx := N, ct := N, bk := D.nx } σ2 H2) := by
  refine ⟨fun i m σ H => m = xs.length - i ∧ i ≤ xs.length ∧ Pv i σ H, ⟨xs.length, by simp, Nat.zero_le _, h0⟩, ?_⟩
  rintro i m σ H ⟨rfl, hi, p⟩
  obtain ⟨q1, q2⟩ := hJ H (hsm i σ H hi p)
  by_cases hlt : i < xs.length
  · have e : xs[i]? = some xs[i] := by simp [hlt]
    obtain ⟨go, y⟩ := q1 i _ e
    refine .inr ⟨go, Pv (i + 1), fun σ' H' p' => ⟨xs.length - (i + 1), by omega, rfl, hlt, p'⟩, fun x H' hy => ?_⟩
    obtain ⟨rfl, rfl⟩ := y x H' hy
    exact hs i _ σ _ e p
  · have e : i = xs.length := by omega
    subst e
    exact .inl ⟨q2, hd σ H p⟩
/-- a comprehension of one name whose parts lay things at most -/
theorem comp_pure {J : It} {cap : List (Option Nat)} {tt : TT} {te : TE} {σ : St} {H1 : Hp} {Q : VK} {xs : List V} (hJ : Seq J H1 xs) (p : V → Bool) (f : V → V) (hsz : xs.length ≤ 100000)
    (hp : ∀ x ∈ xs, ∀ H', Same H1 H' → ∀ R : Bool → Hp → Prop, (∀ H'', Same H' H'' → R (p x) H'') → tt ((capt cap σ).set 0 (some x)) H' R)
    (he : ∀ x ∈ xs, p x = true → ∀ H', Same H1 H' → ∀ R : VK, (∀ H'', Same H' H'' → R (f x) H'') → te ((capt cap σ).set 0 (some x)) H' R)
    (k : ∀ D H', Same H1 H' → H1 D = none → H' D = some (.lst ((xs.filter p).map f)) → Q (.ref D) H') :
    compBody J H1 cap (gName 0) tt te σ Q := by
  intro D hD
  refine ⟨fun i m ys σ' H' => m = xs.length - i ∧ i ≤ xs.length ∧ (∀ v, σ'.set 0 v = (capt cap σ).set 0 v) ∧ H' D = some (.lst ys) ∧ Same H1 H' ∧ ys = ((xs.take i).filter p).map f,
    ⟨xs.length, by simp, Nat.zero_le _, fun _ => rfl, upd_same, same_upd hD, by simp⟩, ?_⟩
  rintro i m ys σ' H' ⟨rfl, hi, hσ, hl, sm, hys⟩
  refine ⟨hl, ?_⟩
  obtain ⟨q1, q2⟩ := hJ H' sm
  by_cases hlt : i < xs.length
  · have e : xs[i]? = some xs[i] := by simp [hlt]
    obtain ⟨go, y⟩ := q1 i _ e
    refine .inr ⟨go, fun x H2 hy => ?_⟩
    obtain ⟨rfl, rfl⟩ := y x H2 hy
    have hm : xs[i] ∈ xs := List.getElem_mem hlt
    have etake : xs.take (i + 1) = xs.take i ++ [xs[i]] := by rw [List.take_add_one, e]; rfl
    show tt (σ'.set 0 (some xs[i])) _ _
    rw [hσ]
    refine hp _ hm _ sm _ fun H4 s4 => ?_
    have hss : ∀ v, ((capt cap σ).set 0 (some xs[i])).set 0 v = (capt cap σ).set 0 v := fun v => by rw [List.set_set]
    cases hb : p xs[i] with
    | false =>
      refine iteF ⟨xs.length - (i + 1), by omega, rfl, hlt, hss, s4 _ _ hl, sm.trans s4, ?_⟩
      rw [etake, List.filter_append, hys]
      simp [hb]
    | true =>
      refine iteT ?_
      refine he _ hm hb _ (sm.trans s4) _ fun H5 s5 => ?_
      have hl5 := s5 _ _ (s4 _ _ hl)
      refine ⟨hl5, ?_, xs.length - (i + 1), by omega, rfl, hlt, hss, upd_same, fun b o eb => ?_, ?_⟩
      · have h1 : ys.length ≤ xs.length := by
          rw [hys, List.length_map]
          exact Nat.le_trans (List.length_filter_le _ _) (List.length_take_le' _ _)
        have h2 : (100000 : Nat) < sizeLine := by decide
        omega
      · rw [upd_ne (ne_of_none eb hD)]
        exact s5 _ _ (s4 _ _ (sm _ _ eb))
      · rw [etake, List.filter_append, hys]
        simp [hb]
  · have e : i = xs.length := by omega
    subst e
    refine .inl ⟨q2, k D _ sm hD ?_⟩
    rw [hl, hys, List.take_length]
end L2
namespace L2
open PySem PySem.Spec PyProof.Rows
section
variable {X : Cx}
/-- one sign in a text -/
theorem op_in_chr : OpR X (compareOp .In) (fun x y H Q => ∃ c j, x = .str ⟨#[c]⟩ ∧ y = .str j ∧ Q (.bl (decide (c ∈ j.cps.toList))) H) := by
  intro pins s σ H x y v u Q I rx ry h
  obtain ⟨c, j, rfl, rfl, q⟩ := h
  refine op_in_str pins s σ H _ _ v u Q I rx ry ⟨_, j, rfl, rfl, ?_⟩
  rw [StrLaws.found_one]
  exact q
end
theorem atI_int {α : Type} {xs : List α} {i : Int} (h0 : 0 ≤ i) (h1 : i < xs.length) : atI xs i = some (xs[i.toNat]'(by omega)) := by
  have := atI_nat (xs := xs) (j := i.toNat) (v := xs[i.toNat]'(by omega)) (by simp)
  rw [show ((i.toNat : Nat) : Int) = i by omega] at this
  exact this
theorem atI_ints {ts : List Int} {i : Int} (h0 : 0 ≤ i) (h1 : i < ts.length) : ∃ t, t ∈ ts ∧ atI (ts.map V.int) i = some (.int t) := by
  refine ⟨ts[i.toNat]'(by omega), List.getElem_mem _, ?_⟩
  rw [atI_int h0 (by simpa using h1)]
  simp
end L2
namespace L2
open PySem PySem.Spec PyProof.Rows
/-- written items -/
def litOf : Expr → Option V
  | .Constant (.int i) _ _ => some (.int i)
  | .Constant (.str x) _ _ => some (.str x)
  | .Constant (.bool b) _ _ => some (.bl b)
  | .Constant .none _ _ => some .non
  | .UnaryOp .USub (.Constant (.int i) _ _) _ => some (.int (-i))
  | _ => none
def litsOf : List Expr → Option (List V)
  | [] => some []
  | e :: r => match litOf e, litsOf r with
    | some v, some vs => some (v :: vs)
    | _, _ => none
theorem pe_lit {X : Cx} {e : Expr} {v : V} (h : litOf e = some v) : PE X e (tC v) ∧ ∀ es : List Expr, starEach (e :: es) X.env = (false, eval e X.env) :: starEach es X.env := by
  unfold litOf at h
  split at h
  · cases h; exact ⟨pe_int, fun _ => rfl⟩
  · cases h; exact ⟨pe_str, fun _ => rfl⟩
  · cases h; exact ⟨pe_bl, fun _ => rfl⟩
  · cases h; exact ⟨pe_non, fun _ => rfl⟩
  · rename_i i j p q
    cases h
    refine ⟨fun pins s σ H Q I hq => pe_un un_neg pe_int pins s σ H Q I ⟨_, rfl, hq⟩, fun _ => rfl⟩
  · cases h
theorem pa_lits0 {X : Cx} : ∀ {es : List Expr} {vs : List V}, litsOf es = some vs → PA X es (fun _ H Q => Q vs H)
  | [], vs, h => by cases h; exact pa_nil
  | e :: r, vs, h => by
    unfold litsOf at h
    split at h
    · rename_i v ws h1 h2
      cases h
      have p := pe_lit (X := X) h1
      exact pa_cons p.1 (pa_lits0 h2) (p.2 r)
    · cases h
/-- the items, one by one -/
def litsAre (es : List Expr) (vs : List V) : Bool := decide (litsOf es = some vs)
theorem pa_lits {X : Cx} {es : List Expr} (vs : List V) (h : litsAre es vs = true) : PA X es (fun _ H Q => Q vs H) := pa_lits0 (of_decide_eq_true h)
end L2
namespace L2
end L2

namespace L2
open PySem PySem.Spec PyProof.Rows

/-! ### own error classes, as the written part tells them -/
/-! ### what is tracked stays -/
theorem HOk.tracked {P : Program} {w : World} {H : Hp} {h h' : Heap} (x : HOk P w H h) (k : ∀ b u o, H b = some u → h.get? b = some o → h'.get? b = some o) : HOk P w H h' := fun a o e =>
  (x a o e).stay (fun b u hb q => by
    rcases hb with hb | hb
    · subst hb; exact k _ _ _ e q
    · exact k _ _ _ hb q) (fun _ q => q) fun _ _ q => q

theorem HOk.there {P : Program} {w : World} {H : Hp} {h : Heap} {b : Addr} {v : HO} (ok : HOk P w H h) (e : H b = some v) : ∃ o', h.get? b = some o' := by
  have := ok b v e
  cases v with
  | lst xs => obtain ⟨_, _, _, _, z⟩ := this; exact ⟨_, z⟩
  | tup xs => obtain ⟨_, _, _, o, z, _⟩ := this; exact ⟨_, z⟩
  | dK kvs => obtain ⟨_, _, _, _, o, _, _, z, _⟩ := this; exact ⟨_, z⟩
  | dT kvs => obtain ⟨_, _, _, _, o, _, _, z, _⟩ := this; exact ⟨_, z⟩
  | set S n => obtain ⟨o, _, _, _, z, _⟩ := this; exact ⟨_, z⟩
  | ins C dx fs => obtain ⟨_, _, _, z, _⟩ := this; exact ⟨_, z⟩
  | own y => exact this
  | xd fs => obtain ⟨_, ⟨_, _, _, z, _⟩, _⟩ := this; exact ⟨_, z⟩
  | rng lo hi => obtain ⟨_, _, _, z⟩ := this; exact ⟨_, z⟩
  | frz ob u => obtain ⟨z, _⟩ := this; exact ⟨_, z⟩
  | tbl ps => exact ⟨_, this⟩
  | met f y => exact ⟨_, this⟩
  | ext φ => exact this.2.1

section
variable {X : Cx} {pins : List (Addr × Obj)} {σ : St} {H H' : Hp} {s : Shared} {h h2 B : Heap}
end

section
variable {cm : Bool} {P : Program} {w : World} {K : PySem.W.Frag} {mg : Str → Option Value} {base : Heap} {N : List Str} {qual : Str} {scope : Scope} {f : Addr} {cd : Value} {A : Around} {outer : List Env} {s : Shared} {H : Hp} {E : XK}
end

section
variable {X : Cx} {E : XK} {x : Str} {C : Addr} {np cpos pos : Pos} {e0 : Expr} {es : List Expr} {t : TA}
end

/-! ### try, except C: .. -/
end L2

namespace L2
open PySem PySem.Spec PyProof.Rows

section
variable {X : Cx} {CX : CXT} {cm : Bool} {k : Nat} {f : Addr} {fd : FuncData} {ps : List Str} {sp : Sp} {dvs : List V} {ds : List Value} {E : St → XK} {x : Str} {p pos : Pos} {e : Expr} {es : List Expr} {t : TA}
end

/-- the handler's class, of the text -/
structure Catch (K : PySem.W.Frag) (Cc : Addr) : Prop where
  ty : PySem.W.typeIn K (.ref Cc) = some (.type "type")
  mb : PySem.W.mroIn K Cc (.type "BaseException") = some true
theorem Catch.cls {K : PySem.W.Frag} {Cc : Addr} (c : Catch K Cc) : ∃ cd, PySem.W.clsIn K Cc = some cd := by
  obtain ⟨cd, a, _⟩ := Option.bind_eq_some_iff.mp c.mb
  exact ⟨cd, a⟩
section
variable {X : Cx} {pins pins' : List (Addr × Obj)} {σ : St} {H H' : Hp} {s : Shared} {Eb : Value → Shared → Prop} {h h2 B : Heap}
end

end L2

namespace L2
open PySem PySem.Spec PyProof.Rows
section
variable {X : Cx}
/-! ### f-strings of texts -/
end
end L2

namespace L2
open PySem PySem.Spec PyProof.Rows
section
variable {X : Cx}
end
end L2

namespace L2
open PySem PySem.Spec PySem.Calls PyProof.Rows Builtin Builtin.ObjectAttr Builtin.Getset_descriptor

/-! ### isinstance of an exception of an own class -/
/-- what the text tells of an own error class -/
structure ExC (K : PySem.W.Frag) (C : Addr) : Prop where
  cs : (PySem.W.clsIn K C).isSome = true
  ga : PySem.W.findIn K (.ref C) "__getattribute__" = some (some (.builtin "BaseException.__getattribute__"))
  gn : PySem.W.findIn K (.ref C) "__getattr__" = some none
  ca : PySem.W.findIn K (.ref C) "__class__" = some (some (.builtin "object.__class__"))
  sg : PySem.W.specialIn K (.builtin "object.__class__") "__get__" = some (some (.builtin "getset_descriptor.__get__"))
  tk : PySem.W.takesIn K (.builtin "object.__class__") = some true
  mo : PySem.W.mroIn K C (.type "object") = some true
  mb : PySem.W.mroIn K C (.type "BaseException") = some true

def ExcAt (e C : Addr) (h : Heap) : Prop := ∃ oe, h.get? e = some oe ∧ oe.cls = .ref C
theorem ExcAt.type {M : Model} {e C : Addr} {h : Heap} (p : ExcAt e C h) : PySem.W.Looks M h (typeOf (.ref e)) (.ref C) := by
  obtain ⟨oe, a, b⟩ := p
  exact b ▸ (PySem.W.Looks.ld a).andThen .now

section
variable {prog : Program} {w : World} {K : PySem.W.Frag} {e C : Addr}
end

section
variable {X : Cx}
end

/-! ### except C as e -/
section
variable {X : Cx} {pins pins' : List (Addr × Obj)} {σ : St} {H H' : Hp} {s : Shared} {h h2 B : Heap} {ea C : Addr}
end

end L2

/-! the rules that lean on the text, by its own name (within a comprehension, a try, a handler) -/
namespace L2
open PySem PySem.Spec PyProof.Rows
section
variable {X : Cx} {K : PySem.W.Frag} (hK : X.K = K)
include hK
theorem ix_tupK : IxR X (rIxT K) := by subst hK; exact ix_tup
theorem ix_listK : IxR X (rIxL K) := by subst hK; exact ix_list
theorem call_len_seqK : CallR X (.builtin "len") (fun xs H Q => ∃ p ys, xs = [.ref p] ∧ (SqL K H p ys ∨ SqT K H p ys) ∧ Q (.int ys.length) H) := by subst hK; exact call_len_seq
theorem call_tuple_ofK : CallR X (.type "tuple") (fun xs H Q => ∃ p ys, xs = [.ref p] ∧ ((SqL K H p ys ∧ ∀ l, H l = none → Q (.ref l) (upd H l (.tup ys))) ∨ (SqT K H p ys ∧ Q (.ref p) H))) := by subst hK; exact call_tuple_of
theorem call_isinstK : CallR X (.builtin "isinstance") (fun xs H Q => ∃ x T t b, xs = [x, .ty T] ∧ TyOf K H x t ∧ PySem.W.kitOne K t (.type T) = some b ∧ Q (.bl b) H) := by subst hK; exact call_isinst
theorem call_allK (hc : X.calm = true) : CallR X (.builtin "all") (fun xs H Q => ∃ (p : Addr) (bs : List Bool), xs = [.ref p] ∧ SqL K H p (bs.map V.bl) ∧ Q (.bl (bs.all id)) H) := by subst hK; exact call_all hc
theorem pi_tupK {tg l : Expr} {tl : TE} (hl : PE X l tl) : PI X tg l (iTup K tl) := by subst hK; exact pi_tup hl
end
end L2

set_option maxHeartbeats 1000000
/-! ### split, join -/
namespace L2
open PySem PySem.Spec PySem.Calls PyProof.Rows Builtin Builtin.Str
section
variable {X : Cx}
end
end L2

namespace L2
open PySem PySem.W PyProof.Rows
/-! the sort of the model, its questions answered by keys of an order: what comes out is a rearrangement that rises -/
section
variable {O : KeyOrd} {key : Nat → O.α} {n : Nat} {cmp : Nat → Nat → (Bool → Shared → Prop) → Shared → Prop} {s : Shared}
def ka {O : KeyOrd} (key : Nat → O.α) (p : Array Nat) (i : Nat) : O.α := key (p.getD i 0)
def Up {O : KeyOrd} (key : Nat → O.α) (p : Array Nat) (k : Nat) : Prop := ∀ i j, i ≤ j → j < k → O.kle (ka key p i) (ka key p j)
def Down {O : KeyOrd} (key : Nat → O.α) (p : Array Nat) (k : Nat) : Prop := ∀ i j, i ≤ j → j < k → O.kle (ka key p j) (ka key p i)
def Rg (n : Nat) (p : Array Nat) : Prop := p.Perm (List.toArray (List.range n))
theorem Rg.size {p : Array Nat} (h : Rg n p) : p.size = n := by rw [Array.Perm.size_eq h]; simp
theorem Rg.at {p : Array Nat} (h : Rg n p) {i : Nat} (hi : i < n) : p.getD i 0 < n := by
  have hz := h.size
  have e : p.getD i 0 = p[i]'(by omega) := by simp [Array.getD, show i < p.size by omega]
  have hm : p[i]'(by omega) ∈ p.toList := by simp
  have := (Array.perm_iff_toList_perm.mp h).mem_iff.mp hm
  simp at this
  omega
theorem Up.more {p : Array Nat} {k : Nat} (h : Up key p k) (hk : O.blt (ka key p k) (ka key p (k - 1)) = false) : Up key p (k + 1) := by
  intro i j hij hj
  by_cases hjk : j < k
  · exact h i j hij hjk
  · obtain rfl : j = k := by omega
    by_cases hi : i = j
    · rw [hi]; exact KeyOrd.kle_refl _
    · exact KeyOrd.kle_trans (h i (j - 1) (by omega) (by omega)) hk
theorem Down.more {p q : Array Nat} {k : Nat} (h : Down key p k) (e : ∀ i, ka key q i = ka key p i) (hk : O.kle (ka key p k) (ka key p (k - 1))) : Down key q (k + 1) := by
  intro i j hij hj
  rw [e, e]
  by_cases hjk : j < k
  · exact h i j hij hjk
  · obtain rfl : j = k := by omega
    by_cases hi : i = j
    · rw [hi]; exact KeyOrd.kle_refl _
    · exact KeyOrd.kle_trans hk (h i (j - 1) (by omega) (by omega))
def Eqs {O : KeyOrd} (key : Nat → O.α) (p : Array Nat) (m q : Nat) : Prop := q + 1 ≤ m ∧ ∀ i, m - (q + 1) ≤ i → i < m → ka key p i = ka key p (m - 1)
theorem Eqs.zero {p : Array Nat} {m : Nat} (h : 1 ≤ m) : Eqs key p m 0 := ⟨by omega, fun i h1 h2 => by rw [show i = m - 1 by omega]⟩
end
/-! rows: lists of tuples of two ints -/
abbrev RA := Addr × (Int × Int)
def refs (rs : List RA) : List V := rs.map fun x => V.ref x.1
def RowOk (H : Hp) (rs : List RA) : Prop := ∀ x ∈ rs, H x.1 = some (.tup [.int x.2.1, .int x.2.2])
def TupsH (h : Heap) (rs : List RA) : Prop := ∀ x ∈ rs, ∃ (o : Obj) (t u : Tok) (k : Nat), h.get? x.1 = some o ∧ o.cls = .type "tuple" ∧ o.data = .seq #[.int x.2.1 t, .int x.2.2 u] k
theorem Inv.pair {X : Cx} {pins : List (Addr × Obj)} {σ : St} {H : Hp} {s : Shared} (I : Inv X pins σ H s) {a : Addr} {i j : Int} (h : H a = some (.tup [.int i, .int j])) :
    ∃ (o : Obj) (t u : Tok) (k : Nat), s.heap.get? a = some o ∧ o.cls = .type "tuple" ∧ o.data = .seq #[.int i t, .int j u] k := by
  obtain ⟨its, r, ⟨o, ho, hc, k, hd⟩, _⟩ := I.tuple (SqT.of h)
  cases r with
  | cons r1 r =>
    cases r with
    | cons r2 r =>
      cases r
      obtain ⟨t, rfl⟩ := r1
      obtain ⟨u, rfl⟩ := r2
      exact ⟨o, t, u, k, ho, hc, hd⟩
theorem Inv.tups {X : Cx} {pins : List (Addr × Obj)} {σ : St} {H : Hp} {s : Shared} (I : Inv X pins σ H s) {rs : List RA} (h : RowOk H rs) : TupsH s.heap rs := fun x hx => I.pair (h x hx)
section
variable {prog : Program} {w : World} {A : Around} {E : Value → Shared → Prop} {s : Shared} {rs : List RA}
end
end L2

namespace L2
open PySem PySem.Spec PyProof.Rows PySem.SeqAt
/-! rows compared, turned about; lists that are empty or not -/
def sps (rs : List RA) : List (Int × Int) := rs.map (·.2)
theorem hu2 {cm : Bool} {k : Nat} {A : Around} (hr : Room cm k A) : A.units + 2 < cLine := Nat.lt_of_le_of_lt (Nat.add_le_add_left (by decide : 2 ≤ 64) _) hr.units
theorem refs_get {rs : List RA} {i : Nat} {x : V} (h : (refs rs)[i]? = some x) : ∃ y, rs[i]? = some y ∧ y ∈ rs ∧ x = .ref y.1 := by
  unfold refs at h
  rw [List.getElem?_map] at h
  obtain ⟨y, e, rfl⟩ := Option.map_eq_some_iff.mp h
  exact ⟨y, e, List.mem_of_getElem? e, rfl⟩
theorem RowOk.up {H H' : Hp} {rs : List RA} (h : RowOk H rs) (s : Same H H') : RowOk H' rs := fun x hx => s _ _ (h x hx)
theorem RowOk.upd {H : Hp} {rs : List RA} {l : Addr} {xs : List V} {o : HO} (h : RowOk H rs) (hl : H l = some (.lst xs)) : RowOk (upd H l o) rs := fun x hx => by
  rw [upd_ne (fun e => by have := h x hx; rw [e, hl] at this; cases this)]
  exact h x hx
theorem RowOk.nil {H : Hp} : RowOk H [] := fun _ h => nomatch h
theorem RowOk.app {H : Hp} {rs : List RA} {a : Addr} {b e : Int} (h : RowOk H rs) (ha : H a = some (.tup [.int b, .int e])) : RowOk H (rs ++ [(a, b, e)]) := fun x hx => by
  rcases List.mem_append.mp hx with hx | hx
  · exact h x hx
  · rw [List.mem_singleton] at hx
    subst hx
    exact ha
theorem RowOk.init {H : Hp} {rs : List RA} {y : RA} (h : RowOk H (rs ++ [y])) : RowOk H rs := fun x hx => h x (List.mem_append_left _ hx)
theorem refs_app (rs : List RA) (a : Addr) (b e : Int) : refs rs ++ [.ref a] = refs (rs ++ [(a, b, e)]) := by unfold refs; rw [List.map_append]; rfl
theorem sps_app (rs : List RA) (a : Addr) (b e : Int) : sps (rs ++ [(a, b, e)]) = sps rs ++ [(b, e)] := by unfold sps; rw [List.map_append]; rfl
theorem refs_len (rs : List RA) : (refs rs).length = rs.length := List.length_map ..
theorem sps_len (rs : List RA) : (sps rs).length = rs.length := List.length_map ..
section
variable {X : Cx}
end
end L2

namespace L2
open PySem PySem.Spec PyProof.Rows PySem.SeqAt
def RowAt (H : Hp) (l : Addr) (rs : List RA) : Prop := H l = some (.lst (refs rs)) ∧ RowOk H rs
theorem RowAt.up {H H' : Hp} {l : Addr} {rs : List RA} (h : RowAt H l rs) (s : Same H H') : RowAt H' l rs := ⟨s _ _ h.1, h.2.up s⟩
/-- all but what stands at F is as it was -/
def SameX (F : Addr) (H H' : Hp) : Prop := ∀ b o, b ≠ F → H b = some o → H' b = some o
theorem SameX.refl (F : Addr) (H : Hp) : SameX F H H := fun _ _ _ e => e
theorem SameX.put {F t : Addr} {H H' : Hp} {o : HO} {xs : List V} (x : SameX F H H') (ht : H' t = none) : SameX F H (upd (upd H' t o) F (.lst xs)) := fun b u hb e => by
  rw [upd_ne hb]
  exact same_upd ht _ _ (x b u hb e)
theorem RowAt.put {H : Hp} {F t : Addr} {fs : List RA} {b e : Int} (h : RowAt H F fs) (ht : H t = none) : RowAt (upd (upd H t (.tup [.int b, .int e])) F (.lst (refs fs ++ [.ref t]))) F (fs ++ [(t, b, e)]) := by
  have htF : t ≠ F := fun z => by rw [z, h.1] at ht; cases ht
  have hF2 : upd H t (.tup [.int b, .int e]) F = some (.lst (refs fs)) := by rw [upd_ne (fun z => htF z.symm)]; exact h.1
  exact ⟨by rw [upd_same, refs_app _ _ b e], RowOk.app ((h.2.up (same_upd ht)).upd hF2) (by rw [upd_ne htF]; exact upd_same)⟩
theorem RowAt.at2 {H : Hp} {F t : Addr} {fs : List RA} {o : HO} (h : RowAt H F fs) (ht : H t = none) : upd H t o F = some (.lst (refs fs)) := by
  rw [upd_ne (fun z => by rw [← z, h.1] at ht; cases ht)]
  exact h.1
section
variable {X : Cx}
end
end L2

namespace L2
open PySem PySem.Spec PySem.Calls PyProof.Rows
section
variable {X : Cx} {m : Str} {apos pos : Pos} {o e : Expr} {es : List Expr} {ta : TE} {t : TA}
/-- one class's answer to a call of m -/
structure Ans (X : Cx) (m : Str) (n : Nat) (C : Addr) (R : V → List V → Hp → VK → Prop) : Prop where
  cls : Cls X.K C
  run : ∃ (f : Addr) (fd : FuncData) (ps : List Str) (ds : List Value) (dvs : List V) (CX : CXT) (cm : Bool) (k : Nat) (sp : Sp) (E : XK), Meth X.K C m f ∧ FnOk X.prog X.w X.K X.mg X.base CX cm k f fd ps sp ∧ Room cm k X.A ∧ Binds X.K fd ps ds ∧ Vals dvs ds ∧ Passes CX X E ∧
    ∀ x vs H Q, vs.length = n → R x vs H Q → sp (x :: (vs ++ dvs)) H Q E
end
section
variable {X : Cx} {K : PySem.W.Frag} {o e value : Expr} {f : Str} {pos pos' : Pos} {ta tv : TE} (hK : X.K = K)
include hK
theorem pe_fldK (he : PE X e ta) (hb : attributeBase e f X.env (eval e X.env) = eval e X.env := by rfl) : PE X (.Attribute e f pos) (tFld K ta f) := by subst hK; exact pe_fld he hb
theorem ps_fldK (ha : PE X o ta) (hv : PE X value tv) (hs : swapsWith value (some (.Attribute o f pos')) pos.line X.env = pure false := by rfl) : PS X (.Assign [.Attribute o f pos'] value pos) (sFld K ta tv f) := by subst hK; exact ps_fld ha hv hs
end
end L2
namespace L2
open PySem PySem.Spec PySem.Calls PyProof.Rows
section
variable {X : Cx} {CX : CXT} {cm : Bool} {k : Nat} {f C : Addr} {fd : FuncData} {ps : List Str} {sp : Sp} {dvs : List V} {ds : List Value} {E : XK} {x m : Str} {p pos apos : Pos} {e : Expr} {es : List Expr} {t : TA}
/-- a def of a class, read of the class itself -/
structure ClsFn (K : PySem.W.Frag) (C : Addr) (m : Str) (f : Addr) : Prop where
  ga : PySem.W.specialIn K (.ref C) "__getattribute__" = some (some (.builtin "type.__getattribute__"))
  rd : PySem.W.readsIn K C (.type "type") = true
  at_ : PySem.W.findCls K (.ref C) (.type "type") m = some (.val (.ref f))
  hi : PySem.W.handedIn (.ref f) = true
  kp : PySem.W.keepIn K (.ref f) = true
end
end L2

namespace L2
open PySem PySem.Spec PyProof.Rows
theorem pg_tupK {X : Cx} {K : PySem.W.Frag} {es : List Expr} {k : Nat} {t : TGs} {n : Nat} {pos : Pos} (hK : X.K = K) (hc : X.calm = true) (h : PGs X es t)
    (hn : (assignEach es X.env).length = n := by rfl) (hst : (assignEach es X.env).findIdx? (·.1) = none := by rfl) : PG X (.Tuple es k pos) (gTup K n t) := by subst hK; exact pg_tup hc h hn hst
/-- a comprehension over pairs of ints, two names its target -/
theorem comp_pair {K : PySem.W.Frag} {J : It} {cap : List (Option Nat)} {tt : TT} {te : TE} {σ : St} {H1 : Hp} {Q : VK} {rs : List RA} (hJ : Seq J H1 (refs rs)) (ok : RowOk H1 rs) (p : Int × Int → Bool) (f : Int × Int → V) (hsz : rs.length ≤ 100000)
    (hp : ∀ y ∈ rs, ∀ H', Same H1 H' → ∀ R : Bool → Hp → Prop, (∀ H'', Same H' H'' → R (p y.2) H'') → tt (((capt cap σ).set 0 (some (.int y.2.1))).set 1 (some (.int y.2.2))) H' R)
    (he : ∀ y ∈ rs, p y.2 = true → ∀ H', Same H1 H' → ∀ R : VK, (∀ H'', Same H' H'' → R (f y.2) H'') → te (((capt cap σ).set 0 (some (.int y.2.1))).set 1 (some (.int y.2.2))) H' R)
    (k : ∀ D H', Same H1 H' → H1 D = none → H' D = some (.lst (((sps rs).filter p).map f)) → Q (.ref D) H') :
    compBody J H1 cap (gTup K 2 (gCons (gName 0) (gCons (gName 1) gNil))) tt te σ Q := by
  intro D hD
  refine ⟨fun i m ys σ' H' => m = rs.length - i ∧ i ≤ rs.length ∧ (∀ v w, (σ'.set 0 v).set 1 w = ((capt cap σ).set 0 v).set 1 w) ∧ H' D = some (.lst ys) ∧ Same H1 H' ∧ ys = (((sps rs).take i).filter p).map f,
    ⟨rs.length, by simp, Nat.zero_le _, fun _ _ => rfl, upd_same, same_upd hD, by simp⟩, ?_⟩
  rintro i m ys σ' H' ⟨rfl, hi, hσ, hl, sm, hys⟩
  refine ⟨hl, ?_⟩
  obtain ⟨q1, q2⟩ := hJ H' sm
  by_cases hlt : i < rs.length
  · have e : (refs rs)[i]? = some (.ref (rs[i]).1) := by unfold refs; simp [hlt]
    have es : (sps rs)[i]? = some (rs[i]).2 := by unfold sps; simp [hlt]
    obtain ⟨go, y⟩ := q1 i _ e
    refine .inr ⟨go, fun x H2 hy => ?_⟩
    obtain ⟨rfl, rfl⟩ := y x H2 hy
    have hm : rs[i] ∈ rs := List.getElem_mem hlt
    have etake : (sps rs).take (i + 1) = (sps rs).take i ++ [(rs[i]).2] := by rw [List.take_add_one, es]; rfl
    refine ⟨(rs[i]).1, _, rfl, SqT.of (sm _ _ (ok _ hm)), rfl, _, _, rfl, _, _, rfl, rfl, ?_⟩
    show tt ((σ'.set 0 (some (.int (rs[i]).2.1))).set 1 (some (.int (rs[i]).2.2))) _ _
    rw [hσ]
    refine hp _ hm _ sm _ fun H4 s4 => ?_
    have hss : ∀ v w, ((((capt cap σ).set 0 (some (.int (rs[i]).2.1))).set 1 (some (.int (rs[i]).2.2))).set 0 v).set 1 w = ((capt cap σ).set 0 v).set 1 w := fun v w => by
      rw [List.set_comm _ _ (by decide : (1 : Nat) ≠ 0), List.set_set, List.set_set]
    cases hb : p (rs[i]).2 with
    | false =>
      refine iteF ⟨rs.length - (i + 1), by omega, rfl, hlt, hss, s4 _ _ hl, sm.trans s4, ?_⟩
      rw [etake, List.filter_append, hys]
      simp [hb]
    | true =>
      refine iteT ?_
      refine he _ hm hb _ (sm.trans s4) _ fun H5 s5 => ?_
      have hl5 := s5 _ _ (s4 _ _ hl)
      refine ⟨hl5, ?_, rs.length - (i + 1), by omega, rfl, hlt, hss, upd_same, fun b o eb => ?_, ?_⟩
      · have h1 : ys.length ≤ rs.length := by
          rw [hys, List.length_map]
          refine Nat.le_trans (List.length_filter_le _ _) ?_
          rw [List.length_take, sps_len]
          exact Nat.min_le_right _ _
        have h2 : (100000 : Nat) < sizeLine := by decide
        omega
      · rw [upd_ne (ne_of_none eb hD)]
        exact s5 _ _ (s4 _ _ (sm _ _ eb))
      · rw [etake, List.filter_append, hys]
        simp [hb]
  · have e : i = rs.length := by omega
    subst e
    have e2 : (refs rs).length = rs.length := refs_len rs
    refine .inl ⟨e2 ▸ q2, k D _ sm hD ?_⟩
    rw [hl, hys, ← sps_len rs, List.take_length]
end L2
namespace L2
open PySem PySem.Spec PyProof.Rows PySem.SeqAt
section
variable {X : Cx}
end
end L2
namespace L2
open PySem PySem.Spec PyProof.Rows PySem.SeqAt
section
variable {X : Cx}
end
end L2

namespace L2
open PySem PySem.Spec PyProof.Rows

end L2

namespace L2
open PySem PySem.Spec PyProof.Rows

section
variable (P : Program) (w : World)
end

section
variable {P : Program} {w : World} {H H' : Hp} {h h' : Heap} {a : Addr} {o : HO}
end

section
variable {P : Program} {w : World} {H : Hp} {h h' : Heap} {x e : Addr} {o' : HO}
end

section
variable {fs fs' ex ex' : List Addr} {H H1 H2 : Hp} {h h1 h2 h' : Heap} {a x e : Addr} {o : HO}
end

end L2

namespace L2
open PySem PySem.Spec PyProof.Rows

section
variable {X : Cx} {pins : List (Addr × Obj)} {σ : List (Option V)} {H H' : Hp} {s : Shared} {h' : Heap}

end

end L2

namespace L2
open PySem PySem.Spec PyProof.Rows
section
variable {X : Cx}

variable {a b : Expr} {ta tb : TE} {pos : Pos}
variable {tA tB' : TT} {rest : List Expr}
end
end L2

namespace L2
open PySem PySem.Spec PyProof.Rows

section
variable {X : Cx} {pins : List (Addr × Obj)} {σ : St} {H : Hp} {s : Shared} {a : Addr} {xs ys : List V}
end

section
variable {X : Cx} {pins : List (Addr × Obj)} {σ : St} {H : Hp} {s : Shared} {E : Value → Shared → Prop}
end

section
variable {X : Cx} {st : Stmt} {rest : List Stmt} {t u : TS} {e : Expr} {te : TE} {pos : Pos}
end

section
variable {X : Cx} {pos : Pos}
end

section
variable {X : Cx} {pos : Pos}
end

end L2

namespace L2
open PySem PySem.Spec PyProof.Rows
section
variable {X : Cx} {tg : Expr}
end

end L2

namespace L2
open PySem PySem.Spec PyProof.Rows

section
variable {X : Cx} {a b c : Expr} {ta tb tc : TE} {pos : Pos}

end

section
variable {X : Cx} {a b c : Expr} {ta tb tc : TE} {pos : Pos}
end
end L2

namespace L2
open PySem PySem.Spec PyProof.Rows

section
variable {prog : Program} {w : World} {A : Around} {E : Value → Shared → Prop} {s : Shared} {K : PySem.W.Frag} {x dx C f : Addr} {mA : Str → Option Value} {name : Str} {v : Value}

end

section
variable {P : Program} {w : World} {H H' : Hp} {h h' : Heap} {a C dx : Addr} {fs fs' : List (Str × V)}
end

section
variable {X : Cx} {pins : List (Addr × Obj)} {σ : St} {H : Hp} {s : Shared} {a C dx : Addr} {fs : List (Str × V)} {f : Str} {v : V} {A : Around} {E : Value → Shared → Prop}

end

section
variable {X : Cx} {o e value : Expr} {f : Str} {pos pos' tpos : Pos} {ta tv : TE}
end

section
variable {X : Cx} {pins : List (Addr × Obj)} {σ : St} {H : Hp} {s : Shared} {A : Around} {E : Value → Shared → Prop} {Q : Value → Shared → Prop} {c : Value} {b : Bool}
end
end L2

namespace L2
open PySem PySem.Spec PyProof.Rows

section
variable {X : Cx} {e : Expr} {es : List Expr} {te : TE} {t : TA} {pos : Pos}
end

section
variable {X : Cx} {pins : List (Addr × Obj)} {σ : St} {H : Hp} {s s' : Shared}
end

section
variable {X : Cx} {CX : CXT} {cm : Bool} {k : Nat} {f C : Addr} {fd : FuncData} {ps : List Str} {sp : Sp} {dvs : List V} {ds : List Value} {E : XK} {x m : Str} {p pos apos : Pos} {e o : Expr} {es : List Expr} {ta : TE} {t : TA}

end

section
variable {X : Cx} {CX : CXT} {cm : Bool} {k : Nat} {f C : Addr} {fd : FuncData} {ps ks : List Str} {sp : Sp} {E : XK} {x m : Str} {p pos apos kpos : Pos} {e o : Expr} {es : List Expr} {kws : List Keyword} {te ta : TE} {t tk : TA} {nm : Option Str}
variable {g : List Value → List Value → List Value} {gV : List V → List V → List V}
end

end L2

namespace L2
open PySem PySem.Spec PyProof.Rows
section
variable {X : Cx} {x : Str} {p pos : Pos} {e : Expr} {es : List Expr} {t : TA} {id T : String} {r : List V → Hp → VK → Prop}

end
end L2

namespace L2
open PySem PySem.Spec PyProof.Rows

section
variable {κ : Type} [DecidableEq κ]
def valV (kvs : List (κ × V)) (k : κ) : Option V := (kvs.find? fun kv => decide (kv.1 = k)).map (·.2)
def putK (kvs : List (κ × V)) (k : κ) (v : V) : List (κ × V) :=
  if (kvs.any fun kv => decide (kv.1 = k)) = true then kvs.map (fun kv => if kv.1 = k then (kv.1, v) else kv) else kvs ++ [(k, v)]
def dropK (kvs : List (κ × V)) (k : κ) : List (κ × V) := kvs.filter fun kv => decide (kv.1 ≠ k)

theorem valV_pos {p : κ × V} {r : List (κ × V)} {k : κ} (e : p.1 = k) : valV (p :: r) k = some p.2 := by simp [valV, List.find?_cons, e]
theorem valV_neg {p : κ × V} {r : List (κ × V)} {k : κ} (e : ¬ p.1 = k) : valV (p :: r) k = valV r k := by simp [valV, List.find?_cons, e]
theorem valV_any (k : κ) : ∀ kvs : List (κ × V), (kvs.any fun kv => decide (kv.1 = k)) = (valV kvs k).isSome
  | [] => rfl
  | p :: r => by
    rw [List.any_cons]
    by_cases e : p.1 = k
    · simp only [valV_pos e, decide_eq_true e, Bool.true_or, Option.isSome_some]
    · rw [valV_neg e, decide_eq_false e, Bool.false_or]; exact valV_any k r
theorem valV_map (k j : κ) (y : V) : ∀ kvs : List (κ × V), valV (kvs.map fun kv => if kv.1 = k then (kv.1, y) else kv) j = (valV kvs j).map fun x => if j = k then y else x
  | [] => rfl
  | p :: r => by
    have ih := valV_map k j y r
    rw [List.map_cons]
    by_cases h : p.1 = k
    · rw [if_pos h]
      by_cases e : p.1 = j
      · rw [valV_pos (p := (p.1, y)) e, valV_pos e, Option.map_some, if_pos (e.symm.trans h)]
      · rw [valV_neg (p := (p.1, y)) e, valV_neg e, ih]
    · rw [if_neg h]
      by_cases e : p.1 = j
      · rw [valV_pos (p := p) e, valV_pos e, Option.map_some, if_neg (fun z => h (e.trans z))]
      · rw [valV_neg (p := p) e, valV_neg e, ih]
theorem valV_snoc (k j : κ) (y : V) : ∀ kvs : List (κ × V), valV kvs k = none → valV (kvs ++ [(k, y)]) j = if j = k then some y else valV kvs j
  | [], _ => by
    by_cases e : k = j
    · rw [if_pos e.symm]; exact valV_pos (p := (k, y)) e
    · rw [if_neg (fun z => e z.symm)]; exact valV_neg (p := (k, y)) e
  | p :: r, hn => by
    rw [List.cons_append]
    have hk : ¬ p.1 = k := fun z => by rw [valV_pos z] at hn; cases hn
    rw [valV_neg hk] at hn
    have ih := valV_snoc k j y r hn
    by_cases e : p.1 = j
    · rw [valV_pos e, valV_pos e, if_neg (fun z => hk (e.trans z))]
    · rw [valV_neg e, valV_neg e, ih]
theorem valV_put (kvs : List (κ × V)) (k j : κ) (y : V) : valV (putK kvs k y) j = if j = k then some y else valV kvs j := by
  unfold putK
  by_cases a : (kvs.any fun kv => decide (kv.1 = k)) = true
  · rw [if_pos a, valV_map]
    rw [valV_any] at a
    by_cases e : j = k
    · obtain ⟨x, hx⟩ := Option.isSome_iff_exists.mp a
      rw [if_pos e, e, hx, Option.map_some, if_pos rfl]
    · rw [if_neg e]
      cases valV kvs j with
      | none => rfl
      | some x => rw [Option.map_some, if_neg e]
  · rw [if_neg a]
    refine valV_snoc k j y kvs ?_
    rw [valV_any] at a
    cases q : valV kvs k with
    | none => rfl
    | some x => rw [q] at a; exact (a rfl).elim
theorem length_putK (kvs : List (κ × V)) (k : κ) (v : V) : (putK kvs k v).length ≤ kvs.length + 1 := by
  unfold putK
  split
  · rw [List.length_map]; omega
  · rw [List.length_append, List.length_cons, List.length_nil]; omega
theorem RelO.isSome_eq {o : Option V} {u : Option Value} (r : RelO o u) : o.isSome = u.isSome := by
  cases o with
  | none => cases u with
    | none => rfl
    | some _ => exact (show False from r).elim
  | some _ => cases u with
    | none => exact (show False from r).elim
    | some _ => rfl
theorem RelO.getD {o : Option V} {u : Option Value} {d : V} {d' : Value} (r : RelO o u) (rd : RelV d d') : RelV (o.getD d) (u.getD d') := by
  cases o with
  | none => cases u with
    | none => exact rd
    | some _ => exact (show False from r).elim
  | some _ => cases u with
    | none => exact (show False from r).elim
    | some _ => exact r

theorem KV.val {kvs : List (κ × V)} {vs : List (κ × Value)} (r : KV kvs vs) (k : κ) : RelO (valV kvs k) (valueAt vs k) := by
  unfold KV at r
  induction r with
  | nil => exact True.intro
  | @cons p q ps qs h t ih =>
    obtain ⟨h1, h2⟩ := h
    by_cases e : p.1 = k
    · have e' : q.1 = k := h1.symm.trans e
      have b : valueAt (q :: qs) k = some q.2 := by simp [valueAt, List.find?_cons, e']
      rw [valV_pos e, b]; exact h2
    · have e' : ¬ q.1 = k := fun z => e (h1.trans z)
      have b : valueAt (q :: qs) k = valueAt qs k := by simp [valueAt, List.find?_cons, e']
      rw [valV_neg e, b]; exact ih
theorem KV.any {kvs : List (κ × V)} {vs : List (κ × Value)} (r : KV kvs vs) (k : κ) : (kvs.any fun kv => decide (kv.1 = k)) = vs.any fun kv => decide (kv.1 = k) := by
  unfold KV at r
  induction r with
  | nil => rfl
  | cons h t ih => rw [List.any_cons, List.any_cons, ih, h.1]
theorem KV.repl {kvs : List (κ × V)} {vs : List (κ × Value)} (r : KV kvs vs) (k : κ) {y : V} {u : Value} (ry : RelV y u) :
    KV (kvs.map fun kv => if kv.1 = k then (kv.1, y) else kv) (vs.map fun kv => if kv.1 = k then (kv.1, u) else kv) := by
  unfold KV at r ⊢
  induction r with
  | nil => exact .nil
  | @cons p q ps qs h t ih =>
    rw [List.map_cons, List.map_cons]
    refine .cons ?_ ih
    obtain ⟨h1, h2⟩ := h
    by_cases e : p.1 = k
    · rw [if_pos e, if_pos (h1.symm.trans e)]; exact ⟨h1, ry⟩
    · rw [if_neg e, if_neg (fun z => e (h1.trans z))]; exact ⟨h1, h2⟩
theorem KV.put {kvs : List (κ × V)} {vs : List (κ × Value)} (r : KV kvs vs) (k : κ) {y : V} {u : Value} (ry : RelV y u) : KV (putK kvs k y) (stored vs k u) := by
  unfold putK stored
  rw [r.any k]
  by_cases e : (vs.any fun kv => decide (kv.1 = k)) = true
  · rw [if_pos e, if_pos e]; exact r.repl k ry
  · rw [if_neg e, if_neg e]; exact Paired.snoc r ⟨rfl, ry⟩
theorem KV.drop {kvs : List (κ × V)} {vs : List (κ × Value)} (r : KV kvs vs) (k : κ) : KV (dropK kvs k) (without vs k) := by
  unfold KV at r ⊢
  unfold dropK without
  induction r with
  | nil => exact .nil
  | @cons p q ps qs h t ih =>
    obtain ⟨h1, h2⟩ := h
    rw [List.filter_cons, List.filter_cons]
    by_cases e : p.1 = k
    · have a : ¬ decide (p.1 ≠ k) = true := by simp [e]
      have b : ¬ decide (q.1 ≠ k) = true := by simp [h1.symm.trans e]
      rw [if_neg a, if_neg b]; exact ih
    · have e' : ¬ q.1 = k := fun z => e (h1.trans z)
      have a : decide (p.1 ≠ k) = true := by simp [e]
      have b : decide (q.1 ≠ k) = true := by simp [e']
      rw [if_pos a, if_pos b]; exact .cons ⟨h1, h2⟩ ih
theorem KV.keys {kvs : List (κ × V)} {vs : List (κ × Value)} (r : KV kvs vs) : kvs.map (·.1) = vs.map (·.1) := by
  unfold KV at r
  induction r with
  | nil => rfl
  | cons h t ih => rw [List.map_cons, List.map_cons, ih, h.1]
theorem KV.length {kvs : List (κ × V)} {vs : List (κ × Value)} (r : KV kvs vs) : kvs.length = vs.length := Paired.length r
end


theorem kV_is {P : Program} {w : World} {k : Key} {u : Value} (r : RelV (kV k) u) : (mixKind P w).is k u = true := by
  cases k with
  | inl i => obtain ⟨t, e⟩ := (show ∃ t, u = Value.int i t from r); subst e; exact mixKind_int P w i t
  | inr x => obtain ⟨t, e⟩ := (show ∃ t, u = Value.str x t from r); subst e; exact mixKind_str P w x t
theorem items_are {P : Program} {w : World} : ∀ {ks : List Key} {us : List Value}, Vals (ks.map kV) us → ItemsAre (mixKind P w) ks us
  | [], _, r => by rw [List.map_nil] at r; cases r; exact .nil
  | k :: ks, _, r => by
    rw [List.map_cons] at r
    cases r with
    | cons h t => exact .cons (kV_is h) (items_are t)

abbrev KT (H : Hp) : List (List Key × V) → List (List Key × Addr × Value) → Prop := Paired fun p q => p.1 = q.1 ∧ H q.2.1 = some (.tup (p.1.map kV)) ∧ RelV p.2 q.2.2
theorem KT.val {H : Hp} {kvs : List (List Key × V)} {xs : List (List Key × Addr × Value)} (r : KT H kvs xs) (k : List Key) : RelO (valV kvs k) ((atKey xs k).map (·.2)) := by
  induction r with
  | nil => exact True.intro
  | @cons p q ps qs h t ih =>
    obtain ⟨h1, _, h2⟩ := h
    by_cases e : p.1 = k
    · have e' : q.1 = k := h1.symm.trans e
      have b : atKey (q :: qs) k = some q.2 := by simp [atKey, List.find?_cons, e']
      rw [valV_pos e, b]; exact h2
    · have e' : ¬ q.1 = k := fun z => e (h1.trans z)
      have b : atKey (q :: qs) k = atKey qs k := by simp [atKey, List.find?_cons, e']
      rw [valV_neg e, b]; exact ih
theorem KT.repl {H : Hp} {kvs : List (List Key × V)} {xs : List (List Key × Addr × Value)} (r : KT H kvs xs) (k : List Key) {y : V} {u : Value} (ry : RelV y u) :
    KT H (kvs.map fun kv => if kv.1 = k then (kv.1, y) else kv) (xs.map (putAt k u)) := by
  induction r with
  | nil => exact .nil
  | @cons p q ps qs h t ih =>
    rw [List.map_cons, List.map_cons]
    refine .cons ?_ ih
    obtain ⟨h1, h2, h3⟩ := h
    unfold putAt
    by_cases e : p.1 = k
    · rw [if_pos e, if_pos (h1.symm.trans e)]; exact ⟨h1, h2, ry⟩
    · rw [if_neg e, if_neg (fun z => e (h1.trans z))]; exact ⟨h1, h2, h3⟩
theorem KT.put {H : Hp} {kvs : List (List Key × V)} {xs : List (List Key × Addr × Value)} (r : KT H kvs xs) (k : List Key) {b : Addr} {y : V} {u : Value} (hb : H b = some (.tup (k.map kV))) (ry : RelV y u) :
    KT H (putK kvs k y) (storedH xs k b u) := by
  have e : (kvs.any fun kv => decide (kv.1 = k)) = (atKey xs k).isSome := by
    rw [valV_any, (r.val k).isSome_eq, Option.isSome_map]
  unfold putK storedH
  rw [e]
  by_cases q : (atKey xs k).isSome = true
  · rw [if_pos q, if_pos q]; exact r.repl k ry
  · rw [if_neg q, if_neg q]; exact Paired.snoc r ⟨rfl, hb, ry⟩
theorem KT.keeps {H H' : Hp} {kvs : List (List Key × V)} {xs : List (List Key × Addr × Value)} (r : KT H kvs xs) (ht : ∀ b ys, H b = some (.tup ys) → H' b = some (.tup ys)) : KT H' kvs xs :=
  Paired.mapP r fun _ _ z => ⟨z.1, ht _ _ z.2.1, z.2.2⟩

section
variable {P : Program} {w : World} {H : Hp} {h : Heap} {a : Addr}
theorem rd_of {u : HO} (ok : HOk P w H h) (e : Rd H a u) : ObjOk P w H h a u := e.ok ok
theorem dk_rd {kvs : List (Key × V)} (ok : HOk P w H h) (e : Rd H a (.dK kvs)) : kvs.length ≤ sizeLine ∧ (a == sysModules) = false ∧ ∃ vs, KV kvs vs ∧ h.DictOf (mixKind P w) a vs :=
  show ObjOk P w H h a (.dK kvs) from rd_of ok e
theorem dk_of {kvs : List (Key × V)} (ok : HOk P w H h) (e : H a = some (.dK kvs)) : kvs.length ≤ sizeLine ∧ (a == sysModules) = false ∧ ∃ vs, KV kvs vs ∧ h.DictOf (mixKind P w) a vs := dk_rd ok (.inl e)
theorem key_of {ks : List Key} (ok : HOk P w H h) (e : H a = some (.tup (ks.map kV))) : (tupleKind (mixKind P w)).is h ks a := by
  obtain ⟨_, its, r, o, h1, h2, n, h3⟩ := (show ObjOk P w H h a (.tup (ks.map kV)) from ok a _ e)
  exact ⟨o, its.toArray, n, h1, h2, h3, by simpa using items_are r⟩
theorem dt_rd {kvs : List (List Key × V)} (ok : HOk P w H h) (e : Rd H a (.dT kvs)) : kvs.length ≤ sizeLine ∧ (a == sysModules) = false ∧
    ∃ xs, KT H kvs xs ∧ h.DictOfH (tupleKind (mixKind P w)) a xs := by
  obtain ⟨z, y, xs, r, o, es, ep, h1, h2, h3, h4, h5⟩ := (show ObjOk P w H h a (.dT kvs) from rd_of ok e)
  refine ⟨z, y, xs, r, o, es, ep, h1, h2, h3, h4, fun x hx => ?_, h5⟩
  have all : ∀ {l : List (List Key × V)} {m : List (List Key × Addr × Value)}, KT H l m → ∀ x ∈ m, (tupleKind (mixKind P w)).is h x.1 x.2.1 := by
    intro l m q
    induction q with
    | nil => intro x hx; exact nomatch hx
    | @cons p q ps qs hq t ih =>
      intro x hx
      rcases List.mem_cons.mp hx with e | hx
      · subst e
        exact key_of ok (by rw [← hq.1]; exact hq.2.1)
      · exact ih x hx
  exact all r x hx
theorem dt_of {kvs : List (List Key × V)} (ok : HOk P w H h) (e : H a = some (.dT kvs)) : kvs.length ≤ sizeLine ∧ (a == sysModules) = false ∧
    ∃ xs, KT H kvs xs ∧ h.DictOfH (tupleKind (mixKind P w)) a xs := dt_rd ok (.inl e)
end

def DGet (H : Hp) (a : Addr) (y : V) (r : Option V) : Prop :=
  (∃ kvs k, Rd H a (.dK kvs) ∧ y = kV k ∧ r = valV kvs k) ∨ ∃ kvs k b, Rd H a (.dT kvs) ∧ y = .ref b ∧ H b = some (.tup (k.map kV)) ∧ r = valV kvs k
def DPut (H : Hp) (a : Addr) (y v : V) (H' : Hp) : Prop :=
  (∃ kvs k, H a = some (.dK kvs) ∧ y = kV k ∧ kvs.length < sizeLine ∧ H' = upd H a (.dK (putK kvs k v))) ∨
  ∃ kvs k b, H a = some (.dT kvs) ∧ y = .ref b ∧ H b = some (.tup (k.map kV)) ∧ kvs.length < sizeLine ∧ H' = upd H a (.dT (putK kvs k v))
theorem DGet.k {H : Hp} {a : Addr} {kvs : List (Key × V)} {k : Key} (e : H a = some (.dK kvs)) : DGet H a (kV k) (valV kvs k) := .inl ⟨kvs, k, .inl e, rfl, rfl⟩
theorem DGet.t {H : Hp} {a b : Addr} {kvs : List (List Key × V)} {k : List Key} (e : H a = some (.dT kvs)) (eb : H b = some (.tup (k.map kV))) : DGet H a (.ref b) (valV kvs k) := .inr ⟨kvs, k, b, .inl e, rfl, eb, rfl⟩
theorem DPut.k {H : Hp} {a : Addr} {kvs : List (Key × V)} {k : Key} {v : V} (e : H a = some (.dK kvs)) (hl : kvs.length < sizeLine) : DPut H a (kV k) v (upd H a (.dK (putK kvs k v))) := .inl ⟨kvs, k, e, rfl, hl, rfl⟩
theorem DPut.t {H : Hp} {a b : Addr} {kvs : List (List Key × V)} {k : List Key} {v : V} (e : H a = some (.dT kvs)) (eb : H b = some (.tup (k.map kV))) (hl : kvs.length < sizeLine) :
    DPut H a (.ref b) v (upd H a (.dT (putK kvs k v))) := .inr ⟨kvs, k, b, e, rfl, eb, hl, rfl⟩


section
variable {X : Cx} {pins : List (Addr × Obj)} {σ : St} {H : Hp} {s : Shared} {a : Addr} {y v : V} {u r : Value} {o : Option V} {A : Around} {E : Value → Shared → Prop}

theorem Inv.big (I : Inv X pins σ H s) : sysModules < s.heap.objs.size := by
  have h : mainGlobals < s.heap.objs.size := (I.mod.glob.keeps I.bk).lt
  exact Nat.lt_trans (by decide) h

theorem d_write {h' : Heap} {t' : Nat} {ob : HO} (I : Inv X pins σ H s) (mu : Mut (H a)) (hs : Heap.SameBut a s.heap h') (he : ∃ q, h'.get? a = some q) (new : ObjOk X.prog X.w (upd H a ob) h' a ob) :
    Inv X pins σ (upd H a ob) { s with heap := h', toks := t' } :=
  I.write (x := a) (e := a) mu (.inl rfl) (fun b q hb z => (hs.2 b hb).trans z) he new
theorem dk_new {P : Program} {w : World} {H' : Hp} {h' : Heap} {kvs : List (Key × V)} {vs : List (Key × Value)} (z : kvs.length ≤ sizeLine) (hd : (a == sysModules) = false) (rel : KV kvs vs) (dd : h'.DictOf (mixKind P w) a vs) :
    ObjOk P w H' h' a (.dK kvs) := ⟨z, hd, vs, rel, dd⟩
theorem d_setItem {H' : Hp} {Q : Unit → Shared → Prop} (hu : A.units + 1 < cLine) (I : Inv X pins σ H s) (g : DPut H a y v H') (ry : RelV y u) (rv : RelV v r) (h : ∀ s', Inv X pins σ H' s' → Q () s') :
    wpAny (model X.prog X.w) A (setItem (.ref a) u r) Q E s := by
  rcases g with ⟨kvs, k, e, ey, l, eH⟩ | ⟨kvs, k, b, e, ey, eb, l, eH⟩
  · subst ey eH
    obtain ⟨z, hd, vs, rel, dd⟩ := dk_of I.hok e
    have hz : vs.length ≤ sizeLine := by rw [← rel.length]; exact z
    have hl : (putK kvs k v).length ≤ sizeLine := by have := length_putK kvs k v; omega
    refine wpAny_setItem_pairs (hsz := hz) (kV_is ry) dd fun h' dd' hs => h _ ?_
    have he : ∃ q, h'.get? a = some q := let ⟨q, _, _, hq, _⟩ := dd'; ⟨q, hq⟩
    exact d_write I (by rw [e]; exact True.intro) hs he (dk_new hl hd (rel.put k rv) dd')
  · subst ey eH
    cases (show u = Value.ref b from ry)
    obtain ⟨z, hd, xs, rel, dd⟩ := dt_of I.hok e
    have hz : xs.length ≤ sizeLine := by rw [← Paired.length rel]; exact z
    have hl : (putK kvs k v).length ≤ sizeLine := by have := length_putK kvs k v; omega
    refine wpAny_setItem_heap (hsz := hz) (tupleKind_room_in1 hu) (key_of I.hok eb) dd fun h' dd' hs => h _ ?_
    obtain ⟨q, es, ep, hq, h2, h3, h4, _, h5⟩ := dd'
    refine d_write I (by rw [e]; exact True.intro) hs ⟨q, hq⟩ ⟨hl, hd, _, (rel.put k eb rv).keeps fun c ys ec => ?_, q, es, ep, hq, h2, h3, h4, h5⟩
    rw [upd_ne (ne_of ec e (fun z => nomatch z))]
    exact ec
end

section
variable {X : Cx} {pins : List (Addr × Obj)} {σ : St} {H : Hp} {s : Shared} {a : Addr} {kvs : List (Key × V)} {k : Key} {u : Value} {A : Around} {E : Value → Shared → Prop}
end


def sDPut (td ty tv : TE) : TS := fun D σ H => tv σ H fun v H1 => td σ H1 fun x H2 => ty σ H2 fun y H3 => ∃ a H4, x = .ref a ∧ DPut H3 a y v H4 ∧ D.nx σ H4
section
variable {X : Cx} {o i e value : Expr} {pos pos' tpos : Pos} {td ty tv : TE}
theorem ps_dput (hu : X.A.units + 1 < cLine) (ho : PE X o td) (hi : PE X i ty) (hv : PE X value tv) (hs : swapsWith value (some (.Subscript o i pos')) pos.line X.env = pure false) :
    PS X (.Assign [.Subscript o i pos'] value pos) (sDPut td ty tv) := by
  intro pins s σ H D I h
  refine wpAny_Assign_Subscript (thn (hv pins s σ H _ I h) fun r s1 ⟨v, H1, I1, rv, q1⟩ => thn (ho pins s1 σ H1 _ I1 q1) fun u s2 ⟨x, H2, I2, rx, q2⟩ => thn (hi pins s2 σ H2 _ I2 q2) fun iv s3 ⟨y, H3, I3, ry, a, H4, ex, g, q3⟩ => ?_) hs
  subst ex
  obtain rfl : u = Value.ref a := rx
  exact d_setItem hu I3 g ry rv fun s4 I4 => ⟨σ, H4, I4, q3⟩
end


theorem dk_empty {P : Program} {w : World} {H : Hp} (h : Heap) (hb : sysModules < h.objs.size) : ObjOk P w H (h.push { cls := .type "dict", data := .dict #[] }) h.objs.size (.dK []) :=
  ⟨Nat.zero_le _, beq_eq_false_iff_ne.mpr (Ne.symm (Nat.ne_of_lt hb)), [], .nil, Heap.DictOf.new h⟩
def tDNewK : TE := fun _ H Q => ∀ p, H p = none → Q (.ref p) (upd H p (.dK []))
section
variable {X : Cx} {pos : Pos}
theorem pe_dnewK : PE X (.Dict [] [] pos) tDNewK := fun pins s σ H Q I h =>
  wpAny_Dict_empty ⟨.ref s.heap.objs.size, _, I.laid (a := s.heap.objs.size) (o := .dK []) (t' := s.toks) (fun _ _ q => Heap.get?_push_of_some _ q) (Nat.le_refl _) (dk_empty s.heap I.big), rfl, h _ (I.hok.fresh (Nat.le_refl _))⟩
end

structure M1 (X : Cx) (o : Expr) (m : Str) (apos : Pos) (e : Expr) (cpos : Pos) : Prop where
  base : attributeBase o m X.env (eval o X.env) = eval o X.env
  few : ((backTo cpos (starEach [e] X.env)).all (fun x => !x.1) && (backToKw cpos (keywordEach [] X.env)).all (fun x => x.1.isSome)
    && decide (([e] : List Expr).length + ([] : List Keyword).length + (if ([] : List Keyword).isEmpty then 0 else 1) < 30)) = true
  line : (apos.endLine == cpos.line) = true
  trees : backTo cpos (starEach [e] X.env) = [(false, eval e X.env)]
structure M2 (X : Cx) (o : Expr) (m : Str) (apos : Pos) (e f : Expr) (cpos : Pos) : Prop where
  base : attributeBase o m X.env (eval o X.env) = eval o X.env
  few : ((backTo cpos (starEach [e, f] X.env)).all (fun x => !x.1) && (backToKw cpos (keywordEach [] X.env)).all (fun x => x.1.isSome)
    && decide (([e, f] : List Expr).length + ([] : List Keyword).length + (if ([] : List Keyword).isEmpty then 0 else 1) < 30)) = true
  line : (apos.endLine == cpos.line) = true
  trees : backTo cpos (starEach [e, f] X.env) = [(false, eval e X.env), (false, eval f X.env)]

def IsD (H : Hp) (a : Addr) : Prop := (∃ kvs, Rd H a (.dK kvs)) ∨ ∃ kvs, Rd H a (.dT kvs)
theorem isD_at {X : Cx} {pins : List (Addr × Obj)} {σ : St} {H : Hp} {s : Shared} {a : Addr} (I : Inv X pins σ H s) (d : IsD H a) :
    s.TypeIs (.ref a) "dict" ∧ (∀ b, Value.ref a = .ref b → ∃ ob, s.heap.get? b = some ob ∧ ob.dict = none) ∧ (a == sysModules) = false := by
  rcases d with ⟨kvs, e⟩ | ⟨kvs, e⟩
  · obtain ⟨_, hd, vs, _, dd⟩ := dk_rd I.hok e
    refine ⟨dd.typeIs, fun b q => ?_, hd⟩
    cases q
    obtain ⟨ob, _, _, h1, h2, _⟩ := dd
    exact ⟨ob, h1, h2.2.1⟩
  · obtain ⟨_, hd, xs, _, dd⟩ := dt_rd I.hok e
    refine ⟨dd.typeIs, fun b q => ?_, hd⟩
    cases q
    obtain ⟨ob, _, _, h1, h2, _⟩ := dd
    exact ⟨ob, h1, h2.2.1⟩

section
variable {X : Cx} {pins : List (Addr × Obj)} {σ : St} {H : Hp} {s : Shared} {a : Addr} {y d : V} {u r : Value} {o : Option V} {A : Around} {E : Value → Shared → Prop}
theorem d_get2 {Q : Value → Shared → Prop} (hu : A.units + 1 < cLine) (I : Inv X pins σ H s) (g : DGet H a y o) (ry : RelV y u) (rd : RelV d r) (h : ∀ w' s', Inv X pins σ H s' → RelV (o.getD d) w' → Q w' s') :
    wpAny (model X.prog X.w) A (call (.builtin "dict.get") [.ref a, u, r]) Q E s := by
  rcases g with ⟨kvs, k, e, ey, l⟩ | ⟨kvs, k, b, e, ey, eb, l⟩
  · subst ey
    obtain ⟨z, hd, vs, rel, dd⟩ := dk_rd I.hok e
    refine call_meetsIn PySem.F.slot_dict_get dd.typeIs PySem.F.entry_dict_get (PySem.F.args_dict_get_3 _ _ _) (meets_dict_get_default (mixKind X.prog X.w) a (kV_is ry) hd r) ⟨_, dd.mapOf, h _ _ (I.tok _) ?_⟩
    rw [l]
    exact (rel.val k).getD rd
  · subst ey
    cases (show u = Value.ref b from ry)
    obtain ⟨z, hd, xs, rel, dd⟩ := dt_rd I.hok e
    refine call_meetsIn PySem.F.slot_dict_get dd.typeIs PySem.F.entry_dict_get (PySem.F.args_dict_get_3 _ _ _) (meetsH_dict_get_default (tupleKind (mixKind X.prog X.w)) a b hd r) ⟨tupleKind_room_in1 hu, k, xs, key_of I.hok eb, dd, h _ _ (I.tok _) ?_⟩
    rw [l]
    exact (rel.val k).getD rd
end

def tDGet2 (td ty tx : TE) : TE := fun σ H Q => td σ H fun x H1 => ∃ a, x = .ref a ∧ IsD H1 a ∧ ty σ H1 fun y H2 => tx σ H2 fun z H3 => ∃ o, DGet H3 a y o ∧ Q (o.getD z) H3
section
variable {X : Cx} {o e f : Expr} {apos cpos : Pos} {td ty tx : TE}
theorem pe_dget2 (hu : X.A.units + 1 < cLine) (ho : PE X o td) (he : PE X e ty) (hf : PE X f tx) (m : M2 X o "get" apos e f cpos) : PE X (.Call (.Attribute o "get" apos) [e, f] [] cpos) (tDGet2 td ty tx) := by
  intro pins s σ H Q I h
  refine wpAny_Call_method m.base m.few m.line PySem.F.plainAttrs_dict PySem.F.slot_dict_get PySem.F.type_dict_get (thn (ho pins s σ H _ I h) fun u s1 ⟨x, H1, I1, rx, a, ex, d, q1⟩ => ?_)
  subst ex
  obtain rfl : u = Value.ref a := rx
  obtain ⟨t1, t2, _⟩ := isD_at I1 d
  refine ⟨t1, t2, ?_⟩
  rw [m.trees]
  refine Calls.callWith_builtin rfl (Calls.evalArgs_plain (Calls.spliced_cons (thn (he pins s1 σ H1 _ I1 q1) fun iv s2 ⟨y, H2, I2, ry, q2⟩ =>
    Calls.spliced_cons (thn (hf pins s2 σ H2 _ I2 q2) fun fv s3 ⟨z, H3, I3, rz, ov, g, q3⟩ => Calls.spliced_nil ?_))))
  exact d_get2 hu I3 g ry rz fun w' s4 I4 rw' => ⟨_, H3, I4, rw', q3⟩
end

section
variable {X : Cx} {pins : List (Addr × Obj)} {σ : St} {H : Hp} {s : Shared} {a : Addr} {kvs : List (Key × V)} {A : Around} {E : Value → Shared → Prop}
end


section
variable {X : Cx} {pins : List (Addr × Obj)} {σ : St} {H : Hp} {s : Shared} {a : Addr} {y : V} {u : Value} {A : Around} {E : Value → Shared → Prop}
end
end L2

namespace Att
open PySem PySem.W PySem.Calls PyProof.Rows

section
variable {prog : Program} {w : World} {A : Around} {E : Value → Shared → Prop} {s : Shared} {K : Frag}

end
end Att

namespace L2
open PySem PySem.Spec PyProof.Rows

end L2

namespace L2
open PySem PySem.Spec PyProof.Rows

end L2

namespace L2
open PySem PySem.Spec PyProof.Rows

section
variable {P : Program} {w : World} {K : PySem.W.Frag} {mg : Str → Option Value} {base : Heap}
end
section
variable {X : Cx}
end

section
variable {κ : Type} [DecidableEq κ]
end
end L2

namespace L2
open PySem PySem.Spec PyProof.Rows
/-! range(a, b, c), c above nought -/
def Its3 (lo c : Int) (n : Nat) : It := ⟨fun i _ => i < n, fun i H x H' => H' = H ∧ x = .int (lo + i * c), fun i _ => n ≤ i⟩
theorem turn_range3 {P : Program} {w : World} {K : PySem.W.Frag} {tg : Expr} (it : Addr) (lo c : Int) (n : Nat) : Turn P w K tg (Its3 lo c n) [it] it (fun i h => IsRangeIter h it (lo + (i : Nat) * c) ((n : Int) - (i : Nat)) c) where
  mem := by simp
  obj := fun i h st b hb => by
    have e : b = it := by simpa using hb
    subst e
    exact ⟨_, st, fun v z => by
      have z' : Data.fields _ = Data.cell v := z
      cases z'⟩
  keep := fun i h h' st k => k it (by simp) _ st
  item := by
    intro X hP hw hK hc i pins s σ H E I hf st hg
    subst hP hw hK
    obtain ⟨f0, f1, f2, f3, f4, f5⟩ := hf it (by simp)
    have W := Walks.range (prog := X.prog) (w := X.w) (I.ok.hd hc) it lo c n
    refine W.item i s _ _ hg st fun v h' tk hv st' kk => ?_
    obtain ⟨t, rfl⟩ := hv
    have I1 : Inv X pins σ H { s with heap := h', toks := tk } := I.turned (fun b o hb e => kk b o (by simpa using hb) e) f0 f1 f3 f4 f5
    exact ⟨_, rfl, go_of (s := { s with heap := h', toks := tk }) (n := "range_iterator") st' rfl rfl (by decide) ⟨.int (lo + i * c), H, I1, ⟨t, rfl⟩, ⟨rfl, rfl⟩, st', fun b hb => (hf b hb).1⟩⟩
  done := by
    intro X hP hw hK hc i pins s σ H E I hf st hg
    subst hP hw hK
    obtain ⟨f0, f1, f2, f3, f4, f5⟩ := hf it (by simp)
    exact wpAny_pyNext_range_end (I.ok.hd hc) st (by have : n ≤ i := hg; omega) fun h' eb => ⟨rfl, I.turned (t' := s.toks) (fun b o hb e => eb b o hb e) f0 f1 f3 f4 f5⟩
  self := fun _ _ _ _ _ st h => wpAny_pyIter_rangeiter st h
theorem small_by {a b c : Int} (h1 : -(2 ^ 50) ≤ a) (h2 : a < 2 ^ 50) (h3 : -(2 ^ 50) ≤ b) (h4 : b < 2 ^ 50) (h5 : 0 < c) (h6 : c < 1000) : Builtin.Range.small a b c = true := by
  have hd : a < b → 0 ≤ (b - a - 1) / c ∧ (b - a - 1) / c ≤ b - a - 1 := fun h => ⟨Int.ediv_nonneg (by omega) (by omega), Int.ediv_le_self _ (by omega)⟩
  have hm : a < b → (b - a - 1) / c * c ≤ b - a - 1 := fun h => Int.ediv_mul_le _ (by omega)
  unfold Builtin.Range.small Builtin.Range.rangeSize
  simp only [Builtin.Range.rangeFitsLong, Bool.and_eq_true, Bool.or_eq_true, decide_eq_true_eq, beq_iff_eq, show c > 0 from h5, if_true]
  split
  · rename_i hab
    have := hd hab
    have := hm hab
    generalize (b - a - 1) / c = q at *
    first | omega | (refine ⟨⟨⟨by omega, by omega⟩, by omega⟩, ?_⟩; omega) | skip
  · first | omega | skip
def iRng3 (ta : TA) : TI := fun σ H R => ta σ H fun vs H1 => ∃ i j c : Int, vs = [.int i, .int j, .int c] ∧ (-(2 ^ 50) ≤ i ∧ i < 2 ^ 50 ∧ -(2 ^ 50) ≤ j ∧ j < 2 ^ 50) ∧ 0 < c ∧ c < 1000 ∧ R (Its3 i c (Builtin.Range.rangeSize i j c).toNat) H1
section
variable {X : Cx} {tg : Expr}
theorem pi_range3 {a b d : Expr} {ta : TA} {p pos : Pos} (hg : Gl X "range") (hm : X.mg "range" = none) (ha : PA X [a, b, d] ta) (hs : starEach [a, b, d] X.env = [(false, eval a X.env), (false, eval b X.env), (false, eval d X.env)] := by rfl) (hs2 : starEach [b, d] X.env = [(false, eval b X.env), (false, eval d X.env)] := by rfl) :
    PI X tg (.Call (.Name "range" p) [a, b, d] [] pos) (iRng3 ta) := by
  intro pins s σ H R I h
  refine Call_ (ld_blt I hg hm boot_range (PyProof.Rows.callWith_type1 (thn (ha pos pins s σ H _ I h) fun us s1 ⟨vs, H1, I1, r1, q1⟩ => ?_) (by rw [hs, hs2]) (by rw [hs2]; rfl)))
  obtain ⟨i, j, c, e, ⟨q1, q2, q3, q4⟩, c0, c1, q⟩ := q1
  subst e
  cases r1 with
  | cons r rr =>
    cases rr with
    | cons r' rr =>
      cases rr with
      | cons r2 rr =>
        cases rr
        obtain ⟨t, rfl⟩ := r
        obtain ⟨t', rfl⟩ := r'
        obtain ⟨t2, rfl⟩ := r2
        refine call_range_3 (by omega) ?_ (Or.inl (PyProof.noPylong_small (by omega)))
        refine wpAny_pyIter_range (IsRange.new ..) (small_by q1 q2 q3 q4 c0 c1) ?_
        have I2 : Inv X pins σ H1 { s1 with heap := s1.heap.push { cls := .type "range", data := .fields #[.int i t, .int j t', .int c t2] }, toks := s1.toks } := I1.kept fun b o e => Heap.get?_push_of_some _ e
        refine ⟨(s1.heap.push { cls := .type "range", data := .fields #[.int i t, .int j t', .int c t2] }).objs.size, [(s1.heap.push { cls := .type "range", data := .fields #[.int i t, .int j t', .int c t2] }).objs.size], _, _, H1, rfl,
          I2.kept (t' := s1.toks) fun b o e => Heap.get?_push_of_some _ e, turn_range3 _ i c (Builtin.Range.rangeSize i j c).toNat, ?_, fun b hb => ?_, q⟩
        · have e1 : i + ((0 : Nat) : Int) * c = i := by simp
          have hn : 0 ≤ Builtin.Range.rangeSize i j c := by
            unfold Builtin.Range.rangeSize
            rw [if_pos c0]
            split
            · have := Int.ediv_nonneg (a := j - i - 1) (b := c) (by omega) (by omega)
              omega
            · exact Int.le_refl _
          have e2 : (((Builtin.Range.rangeSize i j c).toNat : Nat) : Int) - ((0 : Nat) : Int) = Builtin.Range.rangeSize i j c := by omega
          show IsRangeIter _ _ (i + ((0 : Nat) : Int) * c) ((((Builtin.Range.rangeSize i j c).toNat : Nat) : Int) - ((0 : Nat) : Int)) c
          rw [e1, e2]
          exact Heap.get?_push_size _ rfl
        · have e : b = (s1.heap.push { cls := .type "range", data := .fields #[.int i t, .int j t', .int c t2] }).objs.size := by simpa using hb
          subst e
          exact I2.fpOk (Nat.le_refl _) (I2.hok.fresh (Nat.le_refl _))
theorem for_range3 {lo c : Int} {n : Nat} {g : TG} {tb : TS} {D : Ends} {σ : St} {H : Hp} (Pv : Nat → St → Hp → Prop) (h0 : Pv 0 σ H)
    (hs : ∀ (i : Nat) σ H, i < n → Pv i σ H → g (.int (lo + i * c)) σ H fun σ2 H2 => tb { D with nx := Pv (i + 1), ct := Pv (i + 1), bk := D.nx } σ2 H2) (hd : ∀ σ H, Pv n σ H → D.nx σ H) :
    ∃ W : Nat → Nat → St → Hp → Prop, (∃ m, W 0 m σ H) ∧ ∀ i m σ H, W i m σ H →
      ((Its3 lo c n).stop i H ∧ D.nx σ H) ∨ ((Its3 lo c n).go i H ∧ ∃ N : St → Hp → Prop, (∀ σ' H', N σ' H' → ∃ m', m' < m ∧ W (i + 1) m' σ' H') ∧ ∀ x H', (Its3 lo c n).yld i H x H' → g x σ H' fun σ2 H2 => tb { D with nx := N, ct := N, bk := D.nx } σ2 H2) := by
  refine ⟨fun i m σ H => m = n - i ∧ i ≤ n ∧ Pv i σ H, ⟨n, by simp, Nat.zero_le _, h0⟩, ?_⟩
  rintro i m σ H ⟨rfl, hi, p⟩
  by_cases hlt : i < n
  · refine .inr ⟨hlt, Pv (i + 1), fun σ' H' p' => ⟨n - (i + 1), by omega, rfl, hlt, p'⟩, fun x H' y => ?_⟩
    obtain ⟨e, y⟩ := y
    subst e y
    exact hs i σ _ hlt p
  · have e : i = n := by omega
    subst e
    exact .inl ⟨Nat.le_refl _, hd σ H p⟩
end
/-- a comprehension that lays a pair of ints for each -/
theorem comp_mkrow {J : It} {cap : List (Option Nat)} {tt : TT} {te : TE} {σ : St} {H1 : Hp} {Q : VK} {xs : List V} (hJ : Seq J H1 xs) (f : V → Int × Int) (hsz : xs.length ≤ 100000)
    (hp : ∀ x ∈ xs, ∀ H', Same H1 H' → ∀ R : Bool → Hp → Prop, R true H' → tt ((capt cap σ).set 0 (some x)) H' R)
    (he : ∀ x ∈ xs, ∀ H', Same H1 H' → ∀ R : VK, (∀ b H'', Same H' H'' → H' b = none → H'' b = some (.tup [.int (f x).1, .int (f x).2]) → R (.ref b) H'') → te ((capt cap σ).set 0 (some x)) H' R)
    (k : ∀ D H' (rs : List RA), Same H1 H' → H1 D = none → H' D = some (.lst (refs rs)) → RowOk H' rs → sps rs = xs.map f → Q (.ref D) H') :
    compBody J H1 cap (gName 0) tt te σ Q := by
  intro D hD
  refine ⟨fun i m ys σ' H' => m = xs.length - i ∧ i ≤ xs.length ∧ (∀ v, σ'.set 0 v = (capt cap σ).set 0 v) ∧ H' D = some (.lst ys) ∧ Same H1 H' ∧ ∃ rs : List RA, ys = refs rs ∧ RowOk H' rs ∧ sps rs = (xs.take i).map f,
    ⟨xs.length, by simp, Nat.zero_le _, fun _ => rfl, upd_same, same_upd hD, [], rfl, RowOk.nil, by simp [sps]⟩, ?_⟩
  rintro i m ys σ' H' ⟨rfl, hi, hσ, hl, sm, rs, hys, hok, hsp⟩
  refine ⟨hl, ?_⟩
  obtain ⟨q1, q2⟩ := hJ H' sm
  by_cases hlt : i < xs.length
  · have e : xs[i]? = some xs[i] := by simp [hlt]
    obtain ⟨go, y⟩ := q1 i _ e
    refine .inr ⟨go, fun x H2 hy => ?_⟩
    obtain ⟨rfl, rfl⟩ := y x H2 hy
    have hm : xs[i] ∈ xs := List.getElem_mem hlt
    have etake : xs.take (i + 1) = xs.take i ++ [xs[i]] := by rw [List.take_add_one, e]; rfl
    show tt (σ'.set 0 (some xs[i])) _ _
    rw [hσ]
    refine hp _ hm _ sm _ ?_
    refine iteT ?_
    refine he _ hm _ sm _ fun b H5 s5 hb0 hb => ?_
    have hss : ∀ v, ((capt cap σ).set 0 (some xs[i])).set 0 v = (capt cap σ).set 0 v := fun v => by rw [List.set_set]
    have hl5 := s5 _ _ hl
    have hbD : b ≠ D := fun z => by rw [z, hl] at hb0; cases hb0
    refine ⟨hl5, ?_, xs.length - (i + 1), by omega, rfl, hlt, hss, upd_same, fun c o ec => ?_, rs ++ [(b, (f xs[i]).1, (f xs[i]).2)], ?_, ?_, ?_⟩
    · have h1 : rs.length = i := by
        have := congrArg List.length hsp
        rw [sps_len, List.length_map, List.length_take] at this
        omega
      rw [hys, refs_len, h1]
      exact Nat.lt_of_le_of_lt (by omega : i ≤ 100000) (by decide)
    · rw [upd_ne (ne_of_none ec hD)]
      exact s5 _ _ (sm _ _ ec)
    · rw [hys]
      exact refs_app _ _ _ _
    · exact RowOk.app ((hok.up s5).upd hl5) (by rw [upd_ne hbD]; exact hb)
    · rw [sps_app, etake, hsp, List.map_append]
      rfl
  · have e : i = xs.length := by omega
    subst e
    refine .inl ⟨q2, k D _ rs sm hD (by rw [hl, hys]) hok (by rw [hsp, List.take_length])⟩
section
variable {X : Cx}
/-- xs == [] -/
theorem op_eqNil (hu : X.A.units + 2 < cLine) : OpR X (compareOp .Eq) (fun x y H Q => ∃ (a b : Addr) (xs : List V), x = .ref a ∧ y = .ref b ∧ H a = some (.lst xs) ∧ H b = some (.lst []) ∧ Q (.bl xs.isEmpty) H) := by
  intro pins s σ H x y v u Q I rx ry h
  obtain ⟨a, b, xs, rfl, rfl, ha, hb, q⟩ := h
  cases rx
  cases ry
  obtain ⟨its, rv, pl, hz⟩ := I.list (SqL.of (K := X.K) ha)
  obtain ⟨its2, rv2, pl2, hz2⟩ := I.list (SqL.of (K := X.K) hb)
  cases rv2
  have hl := rv.length
  cases xs with
  | nil =>
    cases rv
    exact PySem.SeqAt.eq_listAt (e := fun _ => true) pl.isList pl2.isList rfl (by omega) (fun j h1 h2 => absurd h1 (by simp)) ⟨.bl _, H, I, rfl, q⟩
  | cons y ys =>
    exact PySem.SeqAt.eq_list_lengthsAt pl.isList pl2.isList (by rw [List.size_toArray, ← hl]; simp) (by omega) ⟨.bl _, H, I, rfl, q⟩
end
end L2

namespace L2
open PySem PySem.Spec PyProof.Rows PySem.Calls
/-- x = [elt for target in iter if test], x a plain local name: stored ahead of the block's end -/
theorem ps_setComp {i0 : Nat} {x0 : Str} {X : Cx} {elt tgt iter : Expr} {ifs : List Expr} {scope : Scope} {pos pos' spos : Pos} {N : List Str} {cap : List (Option Nat)} {wi : TI} {g : TG} {tt : TT} {te : TE} (hN0 : X.N.Nodup) (hi0 : X.N[i0]? = some x0) (hx0 : X.env.scope.names.lookup x0 = some .local)
    (S : CompScope X.env.scope scope X.N N cap) (hc : X.calm = true) (hi : PI X tgt iter wi)
    (hb : ∀ (C : Addr) (s : Shared) (H : Hp) (fp : List Addr), PG (cxComp X N scope C s H fp) tgt g ∧ PIfs (cxComp X N scope C s H fp) ifs tt ∧ PE (cxComp X N scope C s H fp) elt te)
    (hclos : closureFor scope X.env = pure (clOf X.env scope.names []) := by with_unfolding_all rfl) (hs : ∀ x, foldedSetIterable iter X.env x = pure x := by intro _; rfl)
    (hsw : swapsWith (.ListComp elt [⟨tgt, iter, ifs, 0⟩] scope pos) (some (.Name x0 pos')) spos.line X.env = pure true := by with_unfolding_all rfl) :
    PS X (.Assign [.Name x0 pos'] (.ListComp elt [⟨tgt, iter, ifs, 0⟩] scope pos) spos) (tAsg (tComp wi cap g tt te) (gName i0)) := by
  intro pins s σ H D0 I h
  rw [exec_Assign_Name_used _ _ _ _ hsw]
  refine wpAny_bind (wpAny_standAt (wpAny_bind ?_))
  show wpAny (model X.prog X.w) X.A (comprehension (.ListComp elt [⟨tgt, iter, ifs, 0⟩] scope pos) scope X.env (firstIterPos [⟨tgt, iter, ifs, 0⟩] pos) (newList []) (firstAsync [⟨tgt, iter, ifs, 0⟩]) (firstIter [⟨tgt, iter, ifs, 0⟩] X.env) (some (assign (.Name x0 pos') X.env)) >>= fun _ => pure ()) _ _ _
  refine wpAny_bind (wpAny_mono (Q := fun _ s' => SP X pins D0 .next s') ?main (fun _ s' z => wpAny_pure (wpAny_pure z)) fun _ _ z => z)
  refine wpAny_comprehension_free (use := some (assign (.Name x0 pos') X.env)) (cl := clOf X.env scope.names []) rfl hs hclos S.kind S.names ?_
  refine thn (hi pins s σ H _ I h) fun v s1 h1 => thn h1 fun itv s2 h2 => ?_
  obtain ⟨it, fp, tn, J, H2, e, I2, T, st2, f2, k⟩ := h2
  subst e
  refine wpAny_newObj_type (wpAny_newFunctionEnv S.cell (by intro y hy; simp at hy) (fun h₁ hns₁ hsb₁ => ?_) S.kind)
  dsimp only at hns₁ hsb₁ ⊢
  have I3 : Inv X pins σ (upd H2 s2.heap.objs.size (.lst [])) { s2 with heap := s2.heap.push { cls := .type "list", dict := none, data := .seq ([] : List Value).toArray } } := I2.lnew (t' := s2.toks) .nil (Nat.zero_le _)
  obtain ⟨W, ⟨m0, w0⟩, turn⟩ := k s2.heap.objs.size I2.fresh
  generalize hD : s2.heap.objs.size = D at *
  generalize hsD : ({ s2 with heap := s2.heap.push { cls := .type "list", dict := none, data := .seq ([] : List Value).toArray } } : Shared) = sD at *
  have hsz : sD.heap.objs.size = D + 1 := by rw [← hsD, ← hD]; exact Heap.size_push ..
  have hheap : s2.heap.push { cls := .type "list", dict := none, data := .seq ([] : List Value).toArray } = sD.heap := by rw [← hsD]
  rw [hheap] at hns₁ hsb₁ ⊢
  have up : ∀ b o, s2.heap.get? b = some o → sD.heap.get? b = some o := fun b o e => by rw [← hheap]; exact Heap.get?_push_of_some _ e
  have keep : ∀ b o, sD.heap.get? b = some o → h₁.get? b = some o := fun b o e => hsb₁.extBut b o (Nat.ne_of_lt (Heap.lt_size e)) (Heap.get?_push_of_some _ e)
  have hfD : D ∉ fp := fun hm => by
    obtain ⟨o, e, _⟩ := T.obj _ _ st2 D hm
    have := Heap.lt_size e
    rw [hD] at this
    exact Nat.lt_irrefl _ this
  have f3 : ∀ b ∈ fp, FpOk X pins (upd H2 D (.lst [])) b := fun b hb => ⟨by rw [upd_ne (fun z => hfD (by rw [← z]; exact hb))]; exact (f2 b hb).1, (f2 b hb).2⟩
  have hlt : ∀ b ∈ fp, b < sD.heap.objs.size := fun b hb => by
    obtain ⟨o, e, _⟩ := T.obj _ _ st2 b hb
    exact Heap.lt_size (up b o e)
  have I4 := comp_start (t' := s2.toks + ([] : List (Str × Value)).length) S I3 f3 hlt hns₁ keep
  obtain ⟨hg, hif, hel⟩ := hb sD.heap.objs.size sD (upd H2 D (.lst [])) fp
  have st4 : tn 0 h₁ := T.keep _ _ _ st2 fun b hb o e => keep b o (up b o e)
  have stat : ∀ {H' : Hp}, (∀ b ∈ fp, H' b = none) → ∀ b ∈ fp, FpOk (cxComp X N scope sD.heap.objs.size sD (upd H2 D (.lst [])) fp) [] H' b := fun hn b hb =>
    ⟨hn b hb, (I4.ok.exf b hb).1, I4.ok.exfs b hb, .inl hb, fun x c h z => (I4.ok.exf b hb).2 x c h z, fun p hp => (by simp [cxComp] at hp)⟩
  have loop : codeAny (model X.prog X.w) X.A (.compLoop (.ListComp elt [⟨tgt, iter, ifs, 0⟩] scope pos) 0 (.ref it) (.ref D) (compEnvC scope (clOf X.env scope.names []) sD.heap.objs.size X.env))
      (compPost (model X.prog X.w) X.A X.xe (some (assign (.Name x0 pos') X.env)) (fun _ s' => SP X pins D0 .next s') (.ref D) sD.heap.objs.size) { sD with heap := h₁, toks := s2.toks + ([] : List (Str × Value)).length } := by
    refine compLoop_gen (fun n s' => ∃ i ys σ' H', Inv (cxComp X N scope sD.heap.objs.size sD (upd H2 D (.lst [])) fp) [] σ' H' s' ∧ tn i s'.heap ∧ (∀ b ∈ fp, H' b = none) ∧ W i n ys σ' H') ?_ m0
      ⟨0, [], capt cap σ, _, I4, st4, fun b hb => (f3 b hb).1, w0⟩
    rintro n s5 ⟨i, ys, σ5, H5, I5, st5, fr5, w5⟩
    obtain ⟨hD5, way⟩ := turn i n ys σ5 H5 w5
    rcases way with ⟨stop, q⟩ | ⟨go, step⟩
    · refine thn (T.done (cxComp X N scope sD.heap.objs.size sD (upd H2 D (.lst [])) fp) rfl rfl rfl hc i [] s5 σ5 H5 (fun _ _ => False) I5 (stat fr5) st5 stop) fun r s6 ⟨hr, I6⟩ => ?_
      subst hr
      obtain ⟨m, hn, _⟩ := I6.loc
      have hn' : s6.heap.Ns sD.heap.objs.size m := hn
      have J6 : Inv X pins σ H5 s6 := comp_end I3 f3 I6 (Heap.SameBut.refl _ _)
      have cellNe : ∀ x c, X.env.cells.lookup x = some c → c ≠ sD.heap.objs.size := fun x c h z => by
        obtain ⟨v, q⟩ := I3.cell x c h
        have := q.lt
        rw [z] at this
        exact Nat.lt_irrefl _ this
      refine wpAny_assign_Name (store_ok2 J6 hN0 hi0 (.inl hx0) (v := .ref D) rfl (fun s7 I7 ⟨a7, sb7, ha7⟩ => ⟨m, hn'.sameBut sb7 (fun z => ?_), fun h' sb => ?_⟩) (.inr hx0))
      · rcases ha7 with e | e
        · exact absurd (z.trans e) (Nat.ne_of_gt I3.lt)
        · exact cellNe _ _ e z.symm
      · refine ⟨_, H5, I7.turned (t' := s7.toks) (it := sD.heap.objs.size) (fun b o hb e => (sb.2 b hb).trans e) I6.free (Nat.ne_of_gt I3.lt) (.inr I3.sz) cellNe fun p hp z => ?_, q⟩
        have := Heap.lt_size (I3.pin p hp).1
        rw [z] at this
        exact Nat.lt_irrefl _ this
    · refine thn (T.item (cxComp X N scope sD.heap.objs.size sD (upd H2 D (.lst [])) fp) rfl rfl rfl hc i [] s5 σ5 H5 (fun _ _ => False) I5 (stat fr5) st5 go) fun r s6 ⟨u, hr, h6⟩ => ?_
      subst hr
      refine thn h6 fun _ s7 ⟨x, H7, I7, r7, y7, st7, fr7⟩ => ?_
      have I7' := I7.pinned (stat fr7) (T.obj _ _ st7)
      refine thn (hg _ s7 σ5 H7 x u _ I7' r7 (step x H7 y7)) fun _ s8 ⟨σ8, H8, I8, q8⟩ => ?_
      refine thn (hif _ s8 σ8 H8 _ I8 q8) fun b s9 ⟨H9, I9, q9⟩ => ?_
      have back : ∀ {σ' : St} {H' : Hp} {s' : Shared}, Inv (cxComp X N scope sD.heap.objs.size sD (upd H2 D (.lst [])) fp) ([] ++ pinsAt fp s7.heap) σ' H' s' → tn (i + 1) s'.heap ∧ ∀ b ∈ fp, H' b = none := fun {σ' H' s'} J' =>
        ⟨T.keep _ _ _ st7 fun b hb o e => (J'.pin (b, o) (List.mem_append_right _ (List.mem_append_right _ (mem_pinsAt hb e)))).1, fun b hb => by
          obtain ⟨o, e, d⟩ := T.obj _ _ st7 b hb
          exact (J'.pin (b, o) (List.mem_append_right _ (List.mem_append_right _ (mem_pinsAt hb e)))).2.1⟩
      cases b with
      | false =>
        obtain ⟨m', hm, w9⟩ := (show ∃ m', m' < n ∧ W (i + 1) m' ys σ8 H9 from q9)
        exact ⟨m', hm, i + 1, ys, σ8, H9, I9.unpinned, (back I9).1, (back I9).2, w9⟩
      | true =>
        refine thn (hel _ s9 σ8 H9 _ I9 (show te σ8 H9 _ from q9)) fun y s10 ⟨v10, H10, I10, r10, q10⟩ => ?_
        obtain ⟨hD10, hz, m', hm, w10⟩ := q10
        refine thn (mt_append (X := cxComp X N scope sD.heap.objs.size sD (upd H2 D (.lst [])) fp) _ s10 σ8 H10 (.ref D) [v10] (.ref D) [y] (fun _ H' => H' = upd H10 D (.lst (ys ++ [v10]))) I10 rfl (.cons r10 .nil) ⟨D, ys, v10, rfl, rfl, hD10, hz, rfl⟩) fun _ s11 ⟨v11, H11, I11, _, e11⟩ => ?_
        subst e11
        exact ⟨m', hm, i + 1, ys ++ [v10], σ8, _, I11.unpinned, (back I11).1, (back I11).2, w10⟩
  subst hsD
  subst hD
  exact codeAny_compStart_list loop (T.self _ 0 _ _ _ st4 loop)
end L2

/-! clocks: changes by rising moments, and how many aren't behind one -/
namespace DC
def Rise (ns : List Int) : Prop := ns.Pairwise (· < ·)
def below (ns : List Int) (x : Int) : Nat := ns.countP (fun a => decide (a < x))
theorem below_le (ns : List Int) (x : Int) : below ns x ≤ ns.length := List.countP_le_length
/-- the place that parts those below from the others -/
theorem below_at {ns : List Int} {x : Int} {k : Nat} (hk : k ≤ ns.length) (h1 : ∀ (i : Nat) a, i < k → ns[i]? = some a → a < x) (h2 : ∀ (i : Nat) a, k ≤ i → ns[i]? = some a → ¬ a < x) : below ns x = k := by
  unfold below
  rw [← List.take_append_drop k ns, List.countP_append]
  have e1 : (ns.take k).countP (fun a => decide (a < x)) = (ns.take k).length := by
    rw [List.countP_eq_length]
    intro a ha
    obtain ⟨i, hi⟩ := List.getElem?_of_mem ha
    have hik : i < k := by
      obtain ⟨z, _⟩ := List.getElem?_eq_some_iff.mp hi
      rw [List.length_take] at z
      omega
    rw [List.getElem?_take_of_lt hik] at hi
    exact decide_eq_true (h1 i a hik hi)
  have e2 : (ns.drop k).countP (fun a => decide (a < x)) = 0 := by
    rw [List.countP_eq_zero]
    intro a ha
    obtain ⟨i, hi⟩ := List.getElem?_of_mem ha
    rw [List.getElem?_drop] at hi
    have := h2 (k + i) a (Nat.le_add_right _ _) hi
    simpa using this
  rw [e1, e2, List.length_take]
  omega
theorem rise_lt {ns : List Int} (h : Rise ns) {i j : Nat} {a b : Int} (hi : ns[i]? = some a) (hj : ns[j]? = some b) (hij : i < j) : a < b := by
  obtain ⟨h1, rfl⟩ := List.getElem?_eq_some_iff.mp hi
  obtain ⟨h2, rfl⟩ := List.getElem?_eq_some_iff.mp hj
  exact List.pairwise_iff_getElem.mp h i j h1 h2 hij
theorem rise_le {ns : List Int} (h : Rise ns) {i j : Nat} {a b : Int} (hi : ns[i]? = some a) (hj : ns[j]? = some b) (hij : i ≤ j) : a ≤ b := by
  rcases Nat.lt_or_eq_of_le hij with h' | rfl
  · exact Int.le_of_lt (rise_lt h hi hj h')
  · rw [hi] at hj; cases hj; exact Int.le_refl _
/-- what is below one stands at the front -/
theorem below_front {ns : List Int} (h : Rise ns) {x : Int} {i : Nat} {a : Int} (hi : ns[i]? = some a) : i < below ns x ↔ a < x := by
  have hl : i < ns.length := by obtain ⟨z, _⟩ := List.getElem?_eq_some_iff.mp hi; exact z
  have key : ∀ (ms : List Int), Rise ms → ∀ (j : Nat) (b : Int), ms[j]? = some b → (j < below ms x ↔ b < x) := by
    intro ms
    induction ms with
    | nil => intro _ j b hj; simp at hj
    | cons c r ih =>
      intro hr j b hj
      have hr' := (List.pairwise_cons.mp hr)
      unfold below
      rw [List.countP_cons]
      cases j with
      | zero =>
        simp at hj
        subst hj
        have z : ¬ c < x → r.countP (fun a => decide (a < x)) = 0 := fun hc => by
          rw [List.countP_eq_zero]
          intro a ha
          have := hr'.1 a ha
          simp
          omega
        by_cases hc : c < x
        · simp [hc]
        · rw [z hc]
          simp [hc]
      | succ j =>
        simp at hj
        have := ih hr'.2 j b hj
        unfold below at this
        by_cases hc : c < x
        · simp [hc]
          omega
        · have hb : ¬ b < x := by
            have := hr'.1 b (List.mem_of_getElem? hj)
            omega
          have : r.countP (fun a => decide (a < x)) = 0 := by
            rw [List.countP_eq_zero]
            intro a ha
            have := hr'.1 a ha
            simp
            omega
          simp [hc, hb]
          omega
  exact key ns h i a hi
def mom (cs : List (Int × Int)) : List Int := cs.map (·.1)
def cnt (cs : List (Int × Int)) (m : Int) : Nat := below (mom cs) (m + 1)
def off (own : Int) (cs : List (Int × Int)) (k : Nat) : Int := if k = 0 then own else (cs.getD (k - 1) (0, 0)).2
def offAt (own : Int) (cs : List (Int × Int)) (m : Int) : Int := off own cs (cnt cs m)
theorem mom_len (cs : List (Int × Int)) : (mom cs).length = cs.length := List.length_map ..
theorem mom_at {cs : List (Int × Int)} {i : Nat} {c : Int × Int} (h : cs[i]? = some c) : (mom cs)[i]? = some c.1 := by unfold mom; rw [List.getElem?_map, h]; rfl
theorem cnt_le (cs : List (Int × Int)) (m : Int) : cnt cs m ≤ cs.length := by have := below_le (mom cs) (m + 1); rw [mom_len] at this; exact this
theorem cnt_front {cs : List (Int × Int)} (h : Rise (mom cs)) {m : Int} {i : Nat} {c : Int × Int} (hi : cs[i]? = some c) : i < cnt cs m ↔ c.1 ≤ m := by
  unfold cnt
  rw [below_front h (mom_at hi)]
  omega
theorem off_succ {own : Int} {cs : List (Int × Int)} {k : Nat} {c : Int × Int} (h : cs[k]? = some c) : off own cs (k + 1) = c.2 := by
  unfold off
  rw [if_neg (Nat.succ_ne_zero _)]
  show (cs.getD k (0, 0)).2 = _
  rw [List.getD_eq_getElem?_getD, h]
  rfl
theorem off_zero {own : Int} {cs : List (Int × Int)} : off own cs 0 = own := if_pos rfl
/-- the last one that isn't behind -/
theorem cnt_last {cs : List (Int × Int)} (h : Rise (mom cs)) {m : Int} {k : Nat} {c : Int × Int} (hc : cs[k]? = some c) (hle : c.1 ≤ m) (hgt : ∀ (j : Nat) d, k < j → cs[j]? = some d → ¬ d.1 ≤ m) : cnt cs m = k + 1 := by
  have h1 := (cnt_front h (m := m) hc).mpr hle
  have h2 := cnt_le cs m
  by_cases e : cnt cs m = k + 1
  · exact e
  · have hl : k + 1 < cnt cs m := by omega
    have hx : k + 1 < cs.length := by omega
    have g : cs[k + 1]? = some cs[k + 1] := by simp [hx]
    exact absurd ((cnt_front h (m := m) g).mp hl) (hgt (k + 1) _ (by omega) g)
theorem cnt_none {cs : List (Int × Int)} (h : Rise (mom cs)) {m : Int} (hgt : ∀ (j : Nat) d, cs[j]? = some d → ¬ d.1 ≤ m) : cnt cs m = 0 := by
  rcases Nat.eq_zero_or_pos (cnt cs m) with e | e
  · exact e
  · have hx : 0 < cs.length := by have := cnt_le cs m; omega
    have g : cs[0]? = some cs[0] := by simp [hx]
    exact absurd ((cnt_front h (m := m) g).mp e) (hgt 0 _ g)
end DC

namespace DC
theorem cnt_mono (cs : List (Int × Int)) {m m' : Int} (h : m ≤ m') : cnt cs m ≤ cnt cs m' := by
  unfold cnt below
  refine List.countP_mono_left fun a _ ha => ?_
  have := of_decide_eq_true ha
  exact decide_eq_true (by omega)
theorem lt_of_cnt {cs : List (Int × Int)} {m m' : Int} (h : cnt cs m < cnt cs m') : m < m' := by
  refine Int.not_le.mp fun z => ?_
  have := cnt_mono cs z
  omega
def Sh (own : Int) (cs : List (Int × Int)) (l m : Int) : Prop := m + offAt own cs m = l
def Bd (own : Int) (cs : List (Int × Int)) : Prop := -900 ≤ own ∧ own ≤ 900 ∧ ∀ c ∈ cs, -900 ≤ c.2 ∧ c.2 ≤ 900
theorem off_bd {own : Int} {cs : List (Int × Int)} (h : Bd own cs) {k : Nat} (hk : k ≤ cs.length) : -900 ≤ off own cs k ∧ off own cs k ≤ 900 := by
  cases k with
  | zero => rw [off_zero]; exact ⟨h.1, h.2.1⟩
  | succ k =>
    have e : cs[k]? = some (cs[k]'(by omega)) := List.getElem?_eq_getElem _
    rw [off_succ e]
    exact h.2.2 _ (List.getElem_mem _)
theorem offAt_bd {own : Int} {cs : List (Int × Int)} (h : Bd own cs) (m : Int) : -900 ≤ offAt own cs m ∧ offAt own cs m ≤ 900 := off_bd h (cnt_le cs m)
/-- some of the moments, those behind fewer than n changes -/
structure Got (own : Int) (cs : List (Int × Int)) (l : Int) (ns : List Int) (lo n : Nat) : Prop where
  rise : Rise ns
  mem : ∀ m, m ∈ ns ↔ Sh own cs l m ∧ lo ≤ cnt cs m ∧ cnt cs m < n
  few : ns.length + lo ≤ n
theorem Got.nil (own : Int) (cs : List (Int × Int)) (l : Int) (lo : Nat) : Got own cs l [] lo lo := ⟨.nil, fun m => ⟨(fun h => nomatch h), fun h => by omega⟩, by simp⟩
theorem Got.add {own : Int} {cs : List (Int × Int)} {l : Int} {ns : List Int} {lo n : Nat} (h : Got own cs l ns lo n) (hn : lo ≤ n) (e : cnt cs (l - off own cs n) = n) : Got own cs l (ns ++ [l - off own cs n]) lo (n + 1) := by
  refine ⟨List.pairwise_append.mpr ⟨h.rise, List.pairwise_singleton _ _, fun a ha b hb => ?_⟩, fun m => ?_, by have := h.few; simp; omega⟩
  · rw [List.mem_singleton] at hb
    subst hb
    refine lt_of_cnt (cs := cs) ?_
    rw [e]
    exact ((h.mem a).mp ha).2.2
  · rw [List.mem_append, List.mem_singleton, h.mem m]
    constructor
    · rintro (⟨a, b, c⟩ | rfl)
      · exact ⟨a, b, by omega⟩
      · refine ⟨?_, by omega, by omega⟩
        unfold Sh offAt
        rw [e]
        omega
    · rintro ⟨a, b, c⟩
      by_cases hc : cnt cs m = n
      · right
        unfold Sh offAt at a
        rw [hc] at a
        omega
      · exact .inl ⟨a, b, by omega⟩
theorem Got.skip {own : Int} {cs : List (Int × Int)} {l : Int} {ns : List Int} {lo n : Nat} (h : Got own cs l ns lo n) (e : ¬ cnt cs (l - off own cs n) = n) : Got own cs l ns lo (n + 1) := by
  refine ⟨h.rise, fun m => ?_, by have := h.few; omega⟩
  rw [h.mem m]
  constructor
  · rintro ⟨a, b, c⟩
    exact ⟨a, b, by omega⟩
  · rintro ⟨a, b, c⟩
    refine ⟨a, b, ?_⟩
    by_cases hc : cnt cs m = n
    · exfalso
      unfold Sh offAt at a
      rw [hc] at a
      rw [show l - off own cs n = m by omega] at e
      exact e hc
    · omega
theorem Got.fin {own : Int} {cs : List (Int × Int)} {l : Int} {ns : List Int} (hb : Bd own cs) (h : Got own cs l ns (cnt cs (l - 900)) (cnt cs (l + 900) + 1)) (m : Int) : m ∈ ns ↔ Sh own cs l m := by
  rw [h.mem m]
  constructor
  · exact fun z => z.1
  · intro z
    have b := offAt_bd hb m
    unfold Sh at z
    have h1 := cnt_mono cs (show l - 900 ≤ m by omega)
    have h2 := cnt_mono cs (show m ≤ l + 900 by omega)
    exact ⟨z, h1, by omega⟩
theorem rise_uniq : ∀ {a b : List Int}, Rise a → Rise b → (∀ m, m ∈ a ↔ m ∈ b) → a = b
  | [], [], _, _, _ => rfl
  | [], y :: b, _, _, h => nomatch (h y).mpr List.mem_cons_self
  | x :: a, [], _, _, h => nomatch (h x).mp List.mem_cons_self
  | x :: a, y :: b, ha, hb, h => by
    have ha' := List.pairwise_cons.mp ha
    have hb' := List.pairwise_cons.mp hb
    have e : x = y := by
      rcases List.mem_cons.mp ((h x).mp List.mem_cons_self) with e | e
      · exact e
      · rcases List.mem_cons.mp ((h y).mpr List.mem_cons_self) with e' | e'
        · exact e'.symm
        · have := hb'.1 x e
          have := ha'.1 y e'
          omega
    subst e
    rw [rise_uniq ha'.2 hb'.2 fun m => ?_]
    constructor
    · intro hm
      have := ha'.1 m hm
      rcases List.mem_cons.mp ((h m).mp (List.mem_cons_of_mem _ hm)) with e | e
      · omega
      · exact e
    · intro hm
      have := hb'.1 m hm
      rcases List.mem_cons.mp ((h m).mpr (List.mem_cons_of_mem _ hm)) with e | e
      · omega
      · exact e
/-- what the law gathers -/
def offs (own : Int) (cs : List (Int × Int)) : List Int := own :: cs.map (·.2)
theorem offs_at {own : Int} {cs : List (Int × Int)} {k : Nat} (hk : k ≤ cs.length) : (offs own cs)[k]? = some (off own cs k) := by
  cases k with
  | zero => rw [off_zero]; rfl
  | succ k =>
    have e : cs[k]? = some (cs[k]'(by omega)) := List.getElem?_eq_getElem _
    rw [off_succ e]
    show (cs.map (·.2))[k]? = _
    rw [List.getElem?_map, e]
    rfl
theorem offAt_mem (own : Int) (cs : List (Int × Int)) (m : Int) : offAt own cs m ∈ offs own cs := List.mem_of_getElem? (offs_at (cnt_le cs m))
structure Gath (own : Int) (cs : List (Int × Int)) (l : Int) (ns : List Int) (i : Nat) : Prop where
  nodup : ns.Nodup
  mem : ∀ m, m ∈ ns ↔ Sh own cs l m ∧ offAt own cs m ∈ (offs own cs).take i
  few : ns.length ≤ i
theorem Gath.nil (own : Int) (cs : List (Int × Int)) (l : Int) : Gath own cs l [] 0 := ⟨.nil, fun m => by simp, Nat.le_refl _⟩
theorem mem_take_succ {α : Type} {l : List α} {i : Nat} {y x : α} (h : l[i]? = some y) : x ∈ l.take (i + 1) ↔ x ∈ l.take i ∨ x = y := by
  rw [List.take_add_one, h]
  simp
theorem Gath.add {own : Int} {cs : List (Int × Int)} {l : Int} {ns : List Int} {i : Nat} {o : Int} (h : Gath own cs l ns i) (ho : (offs own cs)[i]? = some o) (e : offAt own cs (l - o) = o) (hn : ¬ l - o ∈ ns) : Gath own cs l (ns ++ [l - o]) (i + 1) := by
  refine ⟨?_, fun m => ?_, by have := h.few; simp; omega⟩
  · rw [List.nodup_append]
    refine ⟨h.nodup, by simp, fun a ha b hb => ?_⟩
    rw [List.mem_singleton] at hb
    subst hb
    intro z
    subst z
    exact hn ha
  · rw [List.mem_append, List.mem_singleton, h.mem m, mem_take_succ ho]
    constructor
    · rintro (⟨a, b⟩ | rfl)
      · exact ⟨a, .inl b⟩
      · exact ⟨by unfold Sh; rw [e]; omega, .inr e⟩
    · rintro ⟨a, b | b⟩
      · exact .inl ⟨a, b⟩
      · right
        unfold Sh at a
        omega
theorem Gath.skip {own : Int} {cs : List (Int × Int)} {l : Int} {ns : List Int} {i : Nat} {o : Int} (h : Gath own cs l ns i) (ho : (offs own cs)[i]? = some o) (hn : ¬ (offAt own cs (l - o) = o ∧ ¬ l - o ∈ ns)) : Gath own cs l ns (i + 1) := by
  refine ⟨h.nodup, fun m => ?_, by have := h.few; omega⟩
  rw [mem_take_succ ho]
  constructor
  · intro z
    have := (h.mem m).mp z
    exact ⟨this.1, .inl this.2⟩
  · rintro ⟨a, b | b⟩
    · exact (h.mem m).mpr ⟨a, b⟩
    · have em : m = l - o := by unfold Sh at a; omega
      subst em
      by_cases z : l - o ∈ ns
      · exact z
      · exact absurd ⟨b, z⟩ hn
theorem Gath.fin {own : Int} {cs : List (Int × Int)} {l : Int} {ns : List Int} (h : Gath own cs l ns (offs own cs).length) (m : Int) : m ∈ ns ↔ Sh own cs l m := by
  rw [h.mem m, List.take_length]
  exact ⟨fun z => z.1, fun z => ⟨z, offAt_mem own cs m⟩⟩
/-! leaps -/
def Leap (own : Int) (cs : List (Int × Int)) (l : Int) (k : Nat) (c : Int × Int) : Prop := cs[k]? = some c ∧ c.1 - 1 + off own cs k < l ∧ l < c.1 + c.2
theorem cnt_ahead {cs : List (Int × Int)} (h : Rise (mom cs)) {k : Nat} {c : Int × Int} (hc : cs[k]? = some c) : cnt cs (c.1 - 1) = k := by
  have h2 := cnt_le cs (c.1 - 1)
  rcases Nat.lt_trichotomy (cnt cs (c.1 - 1)) k with hlt | e | hgt
  · have hx : cnt cs (c.1 - 1) < cs.length := by
      obtain ⟨z, _⟩ := List.getElem?_eq_some_iff.mp hc
      omega
    have g : cs[cnt cs (c.1 - 1)]? = some cs[cnt cs (c.1 - 1)] := by simp [hx]
    have a := rise_lt h (mom_at g) (mom_at hc) hlt
    have b := (cnt_front h (m := c.1 - 1) g)
    omega
  · exact e
  · have := (cnt_front h (m := c.1 - 1) hc).mp hgt
    omega
theorem off_at_change {own : Int} {cs : List (Int × Int)} (h : Rise (mom cs)) {k : Nat} {c : Int × Int} (hc : cs[k]? = some c) : offAt own cs c.1 = c.2 := by
  have e : cnt cs c.1 = k + 1 := cnt_last h hc (Int.le_refl _) fun j d hj hd => by
    have := rise_lt h (mom_at hc) (mom_at hd) hj
    omega
  unfold offAt
  rw [e, off_succ hc]
theorem leap_low {own : Int} {cs : List (Int × Int)} (h : Rise (mom cs)) (hb : Bd own cs) {l : Int} {k : Nat} {c : Int × Int} (hk : k < cnt cs (l - 900)) : ¬ Leap own cs l k c := by
  rintro ⟨hc, _, h2⟩
  have := (cnt_front h (m := l - 900) hc).mp hk
  have := hb.2.2 c (List.mem_of_getElem? hc)
  omega
theorem leap_is {own : Int} {cs : List (Int × Int)} (h : Rise (mom cs)) (hb : Bd own cs) {l : Int} (hn : ∀ m, ¬ Sh own cs l m) : ∃ k c, Leap own cs l k c := by
  refine Classical.byContradiction fun no => ?_
  have no' : ∀ k c, ¬ Leap own cs l k c := fun k c z => no ⟨k, c, z⟩
  have low : ∀ n : Nat, (l - 1000 + (n : Int)) + offAt own cs (l - 1000 + (n : Int)) < l := by
    intro n
    induction n with
    | zero =>
      have := offAt_bd hb (l - 1000 + ((0 : Nat) : Int))
      omega
    | succ n ih =>
      have e1 : (l - 1000 + ((n + 1 : Nat) : Int)) = (l - 1000 + (n : Int)) + 1 := by omega
      rw [e1]
      generalize l - 1000 + (n : Int) = m at ih ⊢
      have hne : ¬ Sh own cs l (m + 1) := hn (m + 1)
      have hmono := cnt_mono cs (show m ≤ m + 1 by omega)
      by_cases he : cnt cs (m + 1) = cnt cs m
      · unfold offAt at ih ⊢
        rw [he]
        unfold Sh offAt at hne
        rw [he] at hne
        omega
      · have hlt : cnt cs m < cnt cs (m + 1) := by omega
        have hx : cnt cs m < cs.length := by have := cnt_le cs (m + 1); omega
        have g : cs[cnt cs m]? = some cs[cnt cs m] := by simp [hx]
        have f1 := (cnt_front h (m := m + 1) g).mp hlt
        have f2 : ¬ (cs[cnt cs m]).1 ≤ m := fun z => by
          have := (cnt_front h (m := m) g).mpr z
          omega
        have ec : (cs[cnt cs m]).1 = m + 1 := by omega
        have eo := off_at_change (own := own) h g
        rw [ec] at eo
        rw [eo]
        unfold Sh at hne
        rw [eo] at hne
        refine Classical.byContradiction fun z => no' (cnt cs m) _ ⟨g, ?_, ?_⟩
        · rw [ec]
          show m + 1 - 1 + offAt own cs m < l
          omega
        · rw [ec]
          omega
  have := low 3000
  have := offAt_bd hb (l - 1000 + ((3000 : Nat) : Int))
  omega
def First (own : Int) (cs : List (Int × Int)) (l m : Int) : Prop := ∃ (k : Nat) (c : Int × Int), Leap own cs l k c ∧ m = c.1 ∧ ∀ (j : Nat) d, j < k → ¬ Leap own cs l j d
theorem first_uniq {own : Int} {cs : List (Int × Int)} {l m m' : Int} (h : First own cs l m) (h' : First own cs l m') : m = m' := by
  obtain ⟨k, c, a1, a2, a3⟩ := h
  obtain ⟨k', c', b1, b2, b3⟩ := h'
  rcases Nat.lt_trichotomy k k' with hlt | e | hgt
  · exact absurd a1 (b3 k c hlt)
  · subst e
    have : c = c' := by have := a1.1; rw [b1.1] at this; exact (Option.some.inj this).symm
    rw [a2, b2, this]
  · exact absurd b1 (a3 k' c' hgt)
end DC

namespace DC
theorem offAt_in {own : Int} {cs : List (Int × Int)} {B : Int} (h0 : -B ≤ own ∧ own ≤ B) (h : ∀ c ∈ cs, -B ≤ c.2 ∧ c.2 ≤ B) (m : Int) : -B ≤ offAt own cs m ∧ offAt own cs m ≤ B := by
  have hm := offAt_mem own cs m
  unfold offs at hm
  rcases List.mem_cons.mp hm with e | e
  · rw [e]; exact h0
  · obtain ⟨c, hc, e'⟩ := List.mem_map.mp e
    rw [← e']
    exact h c hc
def At (own : Int) (cs : List (Int × Int)) (m : Int) : Int := m + offAt own cs m
def LeapM (own : Int) (cs : List (Int × Int)) (l m : Int) : Prop := At own cs (m - 1) < l ∧ l < At own cs m
theorem leapM_of {own : Int} {cs : List (Int × Int)} (h : Rise (mom cs)) {l : Int} {k : Nat} {c : Int × Int} (lp : Leap own cs l k c) : LeapM own cs l c.1 := by
  obtain ⟨hc, h1, h2⟩ := lp
  unfold LeapM At
  rw [off_at_change h hc]
  unfold offAt
  rw [cnt_ahead h hc]
  exact ⟨h1, h2⟩
theorem leap_ofM {own : Int} {cs : List (Int × Int)} (h : Rise (mom cs)) {l m : Int} (lp : LeapM own cs l m) : ∃ k c, Leap own cs l k c ∧ c.1 = m := by
  obtain ⟨h1, h2⟩ := lp
  have hmono := cnt_mono cs (show m - 1 ≤ m by omega)
  by_cases he : cnt cs m = cnt cs (m - 1)
  · unfold At offAt at h1 h2
    rw [he] at h2
    omega
  · have hlt : cnt cs (m - 1) < cnt cs m := by omega
    have hx : cnt cs (m - 1) < cs.length := by have := cnt_le cs m; omega
    have g : cs[cnt cs (m - 1)]? = some cs[cnt cs (m - 1)] := by simp [hx]
    have f1 := (cnt_front h (m := m) g).mp hlt
    have f2 : ¬ (cs[cnt cs (m - 1)]).1 ≤ m - 1 := fun z => by
      have := (cnt_front h (m := m - 1) g).mpr z
      omega
    have ec : (cs[cnt cs (m - 1)]).1 = m := by omega
    have eo := off_at_change (own := own) h g
    rw [ec] at eo
    refine ⟨_, _, ⟨g, ?_, ?_⟩, ec⟩
    · rw [ec]
      exact h1
    · rw [ec]
      unfold At at h2
      rw [eo] at h2
      exact h2
theorem first_is {own : Int} {cs : List (Int × Int)} {l : Int} (h : ∃ k c, Leap own cs l k c) : ∃ z, First own cs l z := by
  obtain ⟨k, c, lp⟩ := h
  induction k using Nat.strongRecOn generalizing c with
  | ind k ih =>
    by_cases hx : ∃ j d, j < k ∧ Leap own cs l j d
    · obtain ⟨j, d, hj, ld⟩ := hx
      exact ih j hj d ld
    · exact ⟨c.1, k, c, lp, rfl, fun j d hj ld => hx ⟨j, d, hj, ld⟩⟩
theorem first_mem {own : Int} {cs : List (Int × Int)} {l z : Int} (h : First own cs l z) : ∃ c ∈ cs, z = c.1 := by
  obtain ⟨k, c, lp, e, _⟩ := h
  exact ⟨c, List.mem_of_getElem? lp.1, e⟩
theorem first_leapM {own : Int} {cs : List (Int × Int)} (h : Rise (mom cs)) {l z : Int} (f : First own cs l z) : LeapM own cs l z := by
  obtain ⟨k, c, lp, e, _⟩ := f
  rw [e]
  exact leapM_of h lp
theorem first_low {own : Int} {cs : List (Int × Int)} (h : Rise (mom cs)) {l z m : Int} (f : First own cs l z) (lm : LeapM own cs l m) : z ≤ m := by
  obtain ⟨k, c, lp, e, low⟩ := f
  obtain ⟨k', c', lp', e'⟩ := leap_ofM h lm
  have hk : k ≤ k' := Nat.le_of_not_lt fun hlt => low k' c' hlt lp'
  have := rise_le h (mom_at lp.1) (mom_at lp'.1) hk
  omega
end DC

set_option smartUnfolding false
namespace K37
open PySem L2
def top (i : Nat) : Stmt := PySem.Challenge.pw_hourhouse_k37_whole_clock_walked.main.body.getD i (.Pass ⟨0, 0, 0, 0⟩)
abbrev s_is_made_of : Stmt := top 7
abbrev s_count_below : Stmt := top 10
abbrev s_check_offset : Stmt := top 15
abbrev s_offset_behind : Stmt := top 18
abbrev s_law_cell_at : Stmt := top 26
abbrev s_law_whole : Stmt := top 27
abbrev s_law_mixed : Stmt := top 28
abbrev s_law_offset_of : Stmt := top 29
abbrev s_law_leap : Stmt := top 34
abbrev s_is_name : Stmt := top 8
abbrev s_check_changes : Stmt := top 16
abbrev s_changes_until : Stmt := top 19
abbrev s_law_pair_is : Stmt := top 30
abbrev s_law_list_is : Stmt := top 31
abbrev s_law_small : Stmt := top 32
abbrev s_Place___init : Stmt := inClass (top 17) 0
abbrev s_offset_at : Stmt := top 20
abbrev s_moments_of : Stmt := top 22
abbrev s_leap_over : Stmt := top 23
abbrev s_shown : Stmt := top 21
abbrev s_moment_of : Stmt := top 24
abbrev s_law_showing : Stmt := top 33
abbrev s_law : Stmt := top 35
structure Adr where
  f_is_made_of : Addr
  d_is_made_of : FuncData
  f_count_below : Addr
  d_count_below : FuncData
  f_check_offset : Addr
  d_check_offset : FuncData
  f_offset_behind : Addr
  d_offset_behind : FuncData
  f_law_cell_at : Addr
  d_law_cell_at : FuncData
  f_law_whole : Addr
  d_law_whole : FuncData
  f_law_mixed : Addr
  d_law_mixed : FuncData
  f_law_offset_of : Addr
  d_law_offset_of : FuncData
  f_law_leap : Addr
  d_law_leap : FuncData
  f_is_name : Addr
  d_is_name : FuncData
  f_check_changes : Addr
  d_check_changes : FuncData
  f_changes_until : Addr
  d_changes_until : FuncData
  f_law_pair_is : Addr
  d_law_pair_is : FuncData
  f_law_list_is : Addr
  d_law_list_is : FuncData
  f_law_small : Addr
  d_law_small : FuncData
  f_Place___init : Addr
  d_Place___init : FuncData
  f_offset_at : Addr
  d_offset_at : FuncData
  f_moments_of : Addr
  d_moments_of : FuncData
  f_leap_over : Addr
  d_leap_over : FuncData
  f_shown : Addr
  d_shown : FuncData
  f_moment_of : Addr
  d_moment_of : FuncData
  f_law_showing : Addr
  d_law_showing : FuncData
  f_law : Addr
  d_law : FuncData
  x_Place : Addr
structure Txt (K : PySem.W.Frag) (mg : Str → Option Value) (a : Adr) : Prop where
  F_is_made_of : Fun K "is_made_of" "is_made_of" s_is_made_of a.f_is_made_of a.d_is_made_of
  m_is_made_of : mg "is_made_of" = some (.ref a.f_is_made_of)
  b_is_made_of : Binds K a.d_is_made_of ["text", "signs"] []
  F_count_below : Fun K "count_below" "count_below" s_count_below a.f_count_below a.d_count_below
  m_count_below : mg "count_below" = some (.ref a.f_count_below)
  b_count_below : Binds K a.d_count_below ["days", "number"] []
  F_check_offset : Fun K "check_offset" "check_offset" s_check_offset a.f_check_offset a.d_check_offset
  m_check_offset : mg "check_offset" = some (.ref a.f_check_offset)
  b_check_offset : Binds K a.d_check_offset ["offset"] []
  F_offset_behind : Fun K "offset_behind" "offset_behind" s_offset_behind a.f_offset_behind a.d_offset_behind
  m_offset_behind : mg "offset_behind" = some (.ref a.f_offset_behind)
  b_offset_behind : Binds K a.d_offset_behind ["place", "many"] []
  F_law_cell_at : Fun K "_law_cell_at" "_law_cell_at" s_law_cell_at a.f_law_cell_at a.d_law_cell_at
  m_law_cell_at : mg "_law_cell_at" = some (.ref a.f_law_cell_at)
  b_law_cell_at : Binds K a.d_law_cell_at ["_law_script", "_law_k"] []
  F_law_whole : Fun K "_law_whole" "_law_whole" s_law_whole a.f_law_whole a.d_law_whole
  m_law_whole : mg "_law_whole" = some (.ref a.f_law_whole)
  b_law_whole : Binds K a.d_law_whole ["_law_found"] []
  F_law_mixed : Fun K "_law_mixed" "_law_mixed" s_law_mixed a.f_law_mixed a.d_law_mixed
  m_law_mixed : mg "_law_mixed" = some (.ref a.f_law_mixed)
  b_law_mixed : Binds K a.d_law_mixed ["_law_cell", "_law_k", "_law_many"] []
  F_law_offset_of : Fun K "_law_offset_of" "_law_offset_of" s_law_offset_of a.f_law_offset_of a.d_law_offset_of
  m_law_offset_of : mg "_law_offset_of" = some (.ref a.f_law_offset_of)
  b_law_offset_of : Binds K a.d_law_offset_of ["_law_own", "_law_changes", "_law_moment"] []
  F_law_leap : Fun K "_law_leap" "_law_leap" s_law_leap a.f_law_leap a.d_law_leap
  m_law_leap : mg "_law_leap" = some (.ref a.f_law_leap)
  b_law_leap : Binds K a.d_law_leap ["_law_by_moment", "_law_local"] []
  F_is_name : Fun K "is_name" "is_name" s_is_name a.f_is_name a.d_is_name
  m_is_name : mg "is_name" = some (.ref a.f_is_name)
  b_is_name : Binds K a.d_is_name ["text"] []
  F_check_changes : Fun K "check_changes" "check_changes" s_check_changes a.f_check_changes a.d_check_changes
  m_check_changes : mg "check_changes" = some (.ref a.f_check_changes)
  b_check_changes : Binds K a.d_check_changes ["changes"] []
  F_changes_until : Fun K "changes_until" "changes_until" s_changes_until a.f_changes_until a.d_changes_until
  m_changes_until : mg "changes_until" = some (.ref a.f_changes_until)
  b_changes_until : Binds K a.d_changes_until ["place", "moment"] []
  F_law_pair_is : Fun K "_law_pair_is" "_law_pair_is" s_law_pair_is a.f_law_pair_is a.d_law_pair_is
  m_law_pair_is : mg "_law_pair_is" = some (.ref a.f_law_pair_is)
  b_law_pair_is : Binds K a.d_law_pair_is ["_law_found", "_law_local"] []
  F_law_list_is : Fun K "_law_list_is" "_law_list_is" s_law_list_is a.f_law_list_is a.d_law_list_is
  m_law_list_is : mg "_law_list_is" = some (.ref a.f_law_list_is)
  b_law_list_is : Binds K a.d_law_list_is ["_law_found", "_law_due"] []
  F_law_small : Fun K "_law_small" "_law_small" s_law_small a.f_law_small a.d_law_small
  m_law_small : mg "_law_small" = some (.ref a.f_law_small)
  b_law_small : Binds K a.d_law_small ["_law_cell", "_law_k"] []
  F_Place___init : FunD K "__init__" "Place.__init__" s_Place___init a.f_Place___init a.d_Place___init
  b_Place___init : Binds K a.d_Place___init ["self", "name", "offset", "changes"] []
  F_offset_at : Fun K "offset_at" "offset_at" s_offset_at a.f_offset_at a.d_offset_at
  m_offset_at : mg "offset_at" = some (.ref a.f_offset_at)
  b_offset_at : Binds K a.d_offset_at ["place", "moment"] []
  F_moments_of : Fun K "moments_of" "moments_of" s_moments_of a.f_moments_of a.d_moments_of
  m_moments_of : mg "moments_of" = some (.ref a.f_moments_of)
  b_moments_of : Binds K a.d_moments_of ["place", "day", "minute"] []
  F_leap_over : Fun K "leap_over" "leap_over" s_leap_over a.f_leap_over a.d_leap_over
  m_leap_over : mg "leap_over" = some (.ref a.f_leap_over)
  b_leap_over : Binds K a.d_leap_over ["place", "local"] []
  F_shown : Fun K "shown" "shown" s_shown a.f_shown a.d_shown
  m_shown : mg "shown" = some (.ref a.f_shown)
  b_shown : Binds K a.d_shown ["place", "moment"] []
  F_moment_of : FunD K "moment_of" "moment_of" s_moment_of a.f_moment_of a.d_moment_of
  m_moment_of : mg "moment_of" = some (.ref a.f_moment_of)
  b_moment_of : Binds K a.d_moment_of ["place", "day", "minute", "later"] []
  b_moment_of_1 : ∃ ds, Binds K a.d_moment_of ["place", "day", "minute", "later"] ds ∧ Vals [.bl false] ds
  F_law_showing : Fun K "_law_showing" "_law_showing" s_law_showing a.f_law_showing a.d_law_showing
  m_law_showing : mg "_law_showing" = some (.ref a.f_law_showing)
  b_law_showing : Binds K a.d_law_showing ["_law_place", "_law_own", "_law_changes", "_law_first", "_law_many"] []
  F_law : Fun K "law" "law" s_law a.f_law a.d_law
  m_law : mg "law" = some (.ref a.f_law)
  b_law : Binds K a.d_law ["_law_script"] []
  g_DAY_MINUTES : ∃ t, mg "DAY_MINUTES" = some (.int 1440 t)
  g_FIGURES : ∃ t, mg "FIGURES" = some (.str "0123456789" t)
  g_LETTERS : ∃ t, mg "LETTERS" = some (.str "abcdefghijklmnopqrstuvwxyz" t)
  g_MOST_CHANGES : ∃ t, mg "MOST_CHANGES" = some (.int 400 t)
  g_MOST_OFFSET : ∃ t, mg "MOST_OFFSET" = some (.int 900 t)
  g_NAME_SIGNS : ∃ t, mg "NAME_SIGNS" = some (.int 8 t)
  m_Place : mg "Place" = some (.ref a.x_Place)
  cl_Place : Cls K a.x_Place
  mk_Place : Mk K a.x_Place a.f_Place___init
  n_Place_name : NoAttr K a.x_Place "name"
  n_Place_offset : NoAttr K a.x_Place "offset"
  n_Place_changes : NoAttr K a.x_Place "changes"
  n_Place_moments : NoAttr K a.x_Place "moments"
  n_all : mg "all" = none
  n_bool : mg "bool" = none
  n_divmod : mg "divmod" = none
  n_int : mg "int" = none
  n_isinstance : mg "isinstance" = none
  n_len : mg "len" = none
  n_list : mg "list" = none
  n_range : mg "range" = none
  n_tuple : mg "tuple" = none

def LT : List Nat := (Str.ofString "abcdefghijklmnopqrstuvwxyz").cps.toList
def AL : List Nat := (Str.ofString "abcdefghijklmnopqrstuvwxyz0123456789").cps.toList
def nameB (l : List Nat) : Bool := if l.length < 1 ∨ 8 < l.length then false else decide (l.headD 0 ∈ LT) && l.all fun c => decide (c ∈ AL)
theorem nameB_short {l : List Nat} (h : l.length < 1) : nameB l = false := by unfold nameB; rw [if_pos (.inl h)]
theorem nameB_long {l : List Nat} (h : 8 < l.length) : nameB l = false := by unfold nameB; rw [if_pos (.inr h)]
theorem nameB_mid {l : List Nat} {c : Nat} (h1 : ¬ l.length < 1) (h2 : ¬ 8 < l.length) (e : l[0]? = some c) : nameB l = (decide (c ∈ LT) && l.all fun c => decide (c ∈ AL)) := by
  unfold nameB
  rw [if_neg (by intro h; rcases h with h | h <;> omega)]
  cases l with
  | nil => simp at e
  | cons x r => simp at e; subst e; rfl
theorem sz1000 : (1000 : Nat) < sizeLine := by decide
/-- the promises -/
def sp_is_made_of : Sp := fun vs H Q _ => ∃ t g : Str, vs = [.str t, .str g] ∧ t.length ≤ 1000 ∧ ∀ H', Same H H' → Q (.bl (t.cps.toList.all fun c => decide (c ∈ g.cps.toList))) H'
def sp_is_name : Sp := fun vs H Q _ => ∃ t : Str, vs = [.str t] ∧ t.length ≤ 1000 ∧ ∀ H', Same H H' → Q (.bl (nameB t.cps.toList)) H'
theorem atI_pick {ts : List Int} {i : Int} (lo hi : Int) (h0 : 0 ≤ i) (h1 : i < ts.length) (hb : ∀ t ∈ ts, lo ≤ t ∧ t ≤ hi) : ∃ t, lo ≤ t ∧ t ≤ hi ∧ atI (ts.map V.int) i = some (.int t) := by
  obtain ⟨t, ht, e⟩ := atI_ints (ts := ts) h0 h1
  exact ⟨t, (hb t ht).1, (hb t ht).2, e⟩
structure PlaceAt (C : Addr) (H : Hp) (x : Addr) (nm : Str) (own : Int) (ch ms : Addr) (cs : List RA) : Prop where
  ob : ∃ dx, H x = some (.ins C dx [("name", .str nm), ("offset", .int own), ("changes", .ref ch), ("moments", .ref ms)])
  ch : H ch = some (.tup (refs cs))
  ok : RowOk H cs
  ms : H ms = some (.tup ((DC.mom (sps cs)).map V.int))
  rise : DC.Rise (DC.mom (sps cs))
  few : cs.length ≤ 400
theorem PlaceAt.up {C : Addr} {H H' : Hp} {x : Addr} {nm : Str} {own : Int} {ch ms : Addr} {cs : List RA} (h : PlaceAt C H x nm own ch ms cs) (s : Same H H') : PlaceAt C H' x nm own ch ms cs :=
  ⟨h.ob.imp fun _ e => s _ _ e, s _ _ h.ch, h.ok.up s, s _ _ h.ms, h.rise, h.few⟩
def Bds (cs : List RA) : Prop := DC.Rise (DC.mom (sps cs)) ∧ cs.length ≤ 400 ∧ ∀ c ∈ sps cs, -900 ≤ c.2 ∧ c.2 ≤ 900
def sp_count_below (K : PySem.W.Frag) : Sp := fun vs H Q _ => ∃ (p : Addr) (ns : List Int) (x : Int), vs = [.ref p, .int x] ∧ SqT K H p (ns.map V.int) ∧ DC.Rise ns ∧ ns.length ≤ 1000 ∧ Q (.int (DC.below ns x : Nat)) H
def sp_check_offset : Sp := fun vs H Q _ => ∃ o : Int, vs = [.int o] ∧ -900 ≤ o ∧ o ≤ 900 ∧ Q .non H
def sp_check_changes : Sp := fun vs H Q _ => ∃ (p : Addr) (cs : List RA), vs = [.ref p] ∧ H p = some (.tup (refs cs)) ∧ RowOk H cs ∧ Bds cs ∧ Q .non H
def sp_init (C : Addr) : Sp := fun vs H Q _ => ∃ (x dx : Addr) (nm : Str) (o : Int) (v : V) (cs : List RA), vs = [.ref x, .str nm, .int o, v] ∧ H x = some (.ins C dx []) ∧ nameB nm.cps.toList = true ∧ nm.length ≤ 1000 ∧ -900 ≤ o ∧ o ≤ 900 ∧ Bds cs ∧
  ((v = .non ∧ cs = []) ∨ ∃ ch, v = .ref ch ∧ H ch = some (.tup (refs cs)) ∧ RowOk H cs) ∧ ∀ (ch ms : Addr) H', SameX x H H' → PlaceAt C H' x nm o ch ms cs → Q .non H'
def sp_offset_behind (C : Addr) : Sp := fun vs H Q _ => ∃ (x : Addr) (nm : Str) (own : Int) (ch ms : Addr) (cs : List RA) (k : Nat), vs = [.ref x, .int k] ∧ PlaceAt C H x nm own ch ms cs ∧ k ≤ cs.length ∧ Q (.int (DC.off own (sps cs) k)) H
def sp_changes_until (C : Addr) : Sp := fun vs H Q _ => ∃ (x : Addr) (nm : Str) (own : Int) (ch ms : Addr) (cs : List RA) (m : Int), vs = [.ref x, .int m] ∧ PlaceAt C H x nm own ch ms cs ∧ Q (.int (DC.cnt (sps cs) m : Nat)) H
def sp_offset_at (C : Addr) : Sp := fun vs H Q _ => ∃ (x : Addr) (nm : Str) (own : Int) (ch ms : Addr) (cs : List RA) (m : Int), vs = [.ref x, .int m] ∧ PlaceAt C H x nm own ch ms cs ∧ Q (.int (DC.offAt own (sps cs) m)) H
def sp_shown (C : Addr) : Sp := fun vs H Q _ => ∃ (x : Addr) (nm : Str) (own : Int) (ch ms : Addr) (cs : List RA) (m : Int), vs = [.ref x, .int m] ∧ PlaceAt C H x nm own ch ms cs ∧ ∀ (p : Addr) H', Same H H' → H p = none → H' p = some (.tup [.int ((m + DC.offAt own (sps cs) m) / 1440), .int ((m + DC.offAt own (sps cs) m) % 1440)]) → Q (.ref p) H'
def sp_law_whole : Sp := fun vs H Q _ => ∃ i : Int, vs = [.int i] ∧ Q (.bl true) H
def sp_law_cell_at (K : PySem.W.Frag) : Sp := fun vs H Q _ => ∃ (p : Addr) (ns : List Int) (k : Int), vs = [.ref p, .int k] ∧ SqL K H p (ns.map V.int) ∧ 0 ≤ k ∧ ∀ v : Int, Q (.int v) H
def sp_law_mixed : Sp := fun vs H Q _ => ∃ c k m : Int, vs = [.int c, .int k, .int m] ∧ 0 ≤ k ∧ k ≤ 100000 ∧ 0 < m ∧ ∀ v : Int, 0 ≤ v → v < m → Q (.int v) H
def sp_law_offset_of : Sp := fun vs H Q _ => ∃ (own m : Int) (p : Addr) (cs : List RA), vs = [.int own, .ref p, .int m] ∧ H p = some (.tup (refs cs)) ∧ RowOk H cs ∧ DC.Rise (DC.mom (sps cs)) ∧ cs.length ≤ 1000 ∧ Q (.int (DC.offAt own (sps cs) m)) H
def sp_law (K : PySem.W.Frag) : Sp := fun vs H Q _ => ∃ (a : Addr) (ns : List Int), vs = [.ref a] ∧ SqL K H a (ns.map V.int) ∧ ns.length ≤ 63 ∧ ∀ H', Q (.bl true) H'
theorem vint {i j : Int} : decide (V.int i = V.int j) = decide (i = j) := decide_eq_decide.mpr (by rw [V.int.injEq])
theorem sps_at {rs : List RA} {i : Nat} {y : RA} (h : rs[i]? = some y) : (sps rs)[i]? = some y.2 := by unfold sps; rw [List.getElem?_map, h]; rfl
theorem refs_at {rs : List RA} {i : Nat} {y : RA} (h : rs[i]? = some y) : (refs rs)[i]? = some (.ref y.1) := by unfold refs; rw [List.getElem?_map, h]; rfl
theorem sps_mem {rs : List RA} {y : RA} (h : y ∈ rs) : y.2 ∈ sps rs := List.mem_map_of_mem h
theorem rs_get {rs : List RA} {i : Nat} (h : i < rs.length) : ∃ y, rs[i]? = some y := ⟨rs[i], by simp [h]⟩
abbrev sN : Str := "name"
abbrev sO : Str := "offset"
abbrev sC : Str := "changes"
abbrev sM : Str := "moments"
theorem putf1 (v : V) : putF sN v [] = [(sN, v)] := rfl
theorem putf2 (u v : V) : putF sO v [(sN, u)] = [(sN, u), (sO, v)] := by
  unfold putF
  rw [if_neg (by decide)]
  rfl
theorem putf3 (u v w : V) : putF sC w [(sN, u), (sO, v)] = [(sN, u), (sO, v), (sC, w)] := by
  unfold putF
  rw [if_neg (by decide)]
  unfold putF
  rw [if_neg (by decide)]
  rfl
theorem putf4 (u v w z : V) : putF sM z [(sN, u), (sO, v), (sC, w)] = [(sN, u), (sO, v), (sC, w), (sM, z)] := by
  unfold putF
  rw [if_neg (by decide)]
  unfold putF
  rw [if_neg (by decide)]
  unfold putF
  rw [if_neg (by decide)]
  rfl
theorem look_ne {a b : Str} {v : V} {r : List (Str × V)} (h : (a == b) = false) : List.lookup a ((b, v) :: r) = List.lookup a r := by
  show (match a == b with | true => some v | false => List.lookup a r) = _
  rw [h]
theorem look_eq {a : Str} {v : V} {r : List (Str × V)} (h : (a == a) = true) : List.lookup a ((a, v) :: r) = some v := by
  show (match a == a with | true => some v | false => List.lookup a r) = _
  rw [h]
theorem look_c3 (u v w : V) : List.lookup sC [(sN, u), (sO, v), (sC, w)] = some w := by rw [look_ne (by decide +kernel), look_ne (by decide +kernel), look_eq (by decide +kernel)]
theorem fl_off (u v w z : V) : List.lookup sO [(sN, u), (sO, v), (sC, w), (sM, z)] = some v := by rw [look_ne (by decide +kernel), look_eq (by decide +kernel)]
theorem fl_ch (u v w z : V) : List.lookup sC [(sN, u), (sO, v), (sC, w), (sM, z)] = some w := by rw [look_ne (by decide +kernel), look_ne (by decide +kernel), look_eq (by decide +kernel)]
theorem fl_ms (u v w z : V) : List.lookup sM [(sN, u), (sO, v), (sC, w), (sM, z)] = some z := by rw [look_ne (by decide +kernel), look_ne (by decide +kernel), look_ne (by decide +kernel), look_eq (by decide +kernel)]
theorem mom_vals (cs : List RA) : ((sps cs).filter (fun _ => true)).map (fun c => V.int c.1) = (DC.mom (sps cs)).map V.int := by
  rw [List.filter_eq_self.mpr (fun _ _ => rfl)]
  unfold DC.mom
  rw [List.map_map]
  rfl
theorem half {lo hi : Nat} : ((lo : Int) + (hi : Int)) / 2 = (((lo + hi) / 2 : Nat) : Int) := by omega
theorem ints_at {ns : List Int} {i : Nat} {a : Int} (h : ns[i]? = some a) : (ns.map V.int)[i]? = some (.int a) := by rw [List.getElem?_map, h]; rfl
theorem int_get {ns : List Int} {i : Nat} (h : i < ns.length) : ∃ a, ns[i]? = some a := ⟨ns[i], by simp [h]⟩

def sp_moments_of (C : Addr) : Sp := fun vs H Q _ => ∃ (x : Addr) (nm : Str) (own : Int) (ch ms : Addr) (cs : List RA) (d m : Int), vs = [.ref x, .int d, .int m] ∧ PlaceAt C H x nm own ch ms cs ∧ DC.Bd own (sps cs) ∧
  ∀ (D : Addr) H' (ns : List Int), Same H H' → H D = none → H' D = some (.lst (ns.map V.int)) → DC.Rise ns → (∀ z, z ∈ ns ↔ DC.Sh own (sps cs) (d * 1440 + m) z) → ns.length ≤ 401 → Q (.ref D) H'
def sp_leap_over (C : Addr) : Sp := fun vs H Q _ => ∃ (x : Addr) (nm : Str) (own : Int) (ch ms : Addr) (cs : List RA) (l : Int), vs = [.ref x, .int l] ∧ PlaceAt C H x nm own ch ms cs ∧ DC.Bd own (sps cs) ∧ (∀ z, ¬ DC.Sh own (sps cs) l z) ∧
  ∀ z : Int, DC.First own (sps cs) l z → Q (.int z) H
def Told (own : Int) (cs : List (Int × Int)) (l : Int) (later : Bool) (z : Int) : Prop := ∃ ns : List Int, DC.Rise ns ∧ (∀ m, m ∈ ns ↔ DC.Sh own cs l m) ∧ ((ns = [] ∧ DC.First own cs l z) ∨ (ns ≠ [] ∧ ns[if later = true then ns.length - 1 else 0]? = some z))
def sp_moment_of (C : Addr) : Sp := fun vs H Q _ => ∃ (x : Addr) (nm : Str) (own : Int) (ch ms : Addr) (cs : List RA) (d m : Int) (b : Bool), vs = [.ref x, .int d, .int m, .bl b] ∧ PlaceAt C H x nm own ch ms cs ∧ DC.Bd own (sps cs) ∧
  ∀ (z : Int) H', Same H H' → Told own (sps cs) (d * 1440 + m) b z → Q (.int z) H'
def sp_law_list_is : Sp := fun vs H Q _ => ∃ (a b : Addr) (ns : List Int), vs = [.ref a, .ref b] ∧ H a = some (.lst (ns.map V.int)) ∧ H b = some (.lst (ns.map V.int)) ∧ ns.length ≤ 1000 ∧ Q (.bl true) H
theorem last_at {ns : List Int} (h : ns ≠ []) : ∃ z, ns[ns.length - 1]? = some z ∧ atI (ns.map V.int) (-1) = some (.int z) := by
  rcases List.eq_nil_or_concat ns with rfl | ⟨o, y, rfl⟩
  · exact absurd rfl h
  · rw [List.concat_eq_append]
    refine ⟨y, by simp, ?_⟩
    rw [List.map_append]
    exact atI_last _ _
theorem put_int {H H1 : Hp} {F : Addr} {xs : List V} (s : Same H H1) (hF : H F = none) : Same H (upd H1 F (.lst xs)) := fun b u e => by
  rw [upd_ne (ne_of_none e hF)]
  exact s _ _ e

def sp_law_pair_is : Sp := fun vs H Q _ => ∃ (p : Addr) (d m l : Int), vs = [.ref p, .int l] ∧ H p = some (.tup [.int d, .int m]) ∧ 0 ≤ m ∧ m < 1440 ∧ d * 1440 + m = l ∧ Q (.bl true) H
theorem pair_eq (x : Int) : x / 1440 * 1440 + x % 1440 = x := by omega
def sp_law_small : Sp := fun vs H Q _ => ∃ c k : Int, vs = [.int c, .int k] ∧ 0 ≤ k ∧ k ≤ 5000 ∧ ∀ v : Int, -130 ≤ v → v ≤ 130 → Q (.int v) H
/-- by local times: the moments from lo on, below hi -/
def ByL (own : Int) (cs : List (Int × Int)) (H : Hp) (kvs : List (Key × V)) (lo hi : Int) : Prop := ∀ l : Int, (valV kvs (.inl l) = none ∧ ∀ m, lo ≤ m → m < hi → ¬ DC.Sh own cs l m) ∨
  ∃ (b : Addr) (ns : List Int), valV kvs (.inl l) = some (.ref b) ∧ H b = some (.lst (ns.map V.int)) ∧ DC.Rise ns ∧ ns ≠ [] ∧ ns.length ≤ (hi - lo).toNat ∧ ∀ m, m ∈ ns ↔ lo ≤ m ∧ m < hi ∧ DC.Sh own cs l m
def sp_law_showing (C : Addr) : Sp := fun vs H Q _ => ∃ (x : Addr) (nm : Str) (own : Int) (ch ms p : Addr) (cs : List RA) (lo n : Int), vs = [.ref x, .int own, .ref p, .int lo, .int n] ∧ PlaceAt C H x nm own ch ms cs ∧ H p = some (.tup (refs cs)) ∧ RowOk H cs ∧ 0 ≤ n ∧ n ≤ 1000 ∧ -(2 ^ 40) ≤ lo ∧ lo ≤ 2 ^ 40 ∧
  ∀ (d : Addr) H' (kvs : List (Key × V)), Same H H' → H' d = some (.dK kvs) → ByL own (sps cs) H' kvs lo (lo + n) → Q (.ref d) H'
def sp_law_leap : Sp := fun vs H Q _ => ∃ (b : Addr) (own lo l z : Int) (cs : List (Int × Int)) (rs : List RA) (n : Nat), vs = [.ref b, .int l] ∧ H b = some (.lst (refs rs)) ∧ RowOk H rs ∧ sps rs = (List.range n).map (fun (i : Nat) => (lo + (i : Int), DC.At own cs (lo + (i : Int)))) ∧ n ≤ 1000 ∧
  DC.Rise (DC.mom cs) ∧ DC.First own cs l z ∧ lo < z ∧ z < lo + n ∧ Q (.int z) H
theorem rs_of {rs : List RA} {n : Nat} {f : Nat → Int × Int} (h : sps rs = (List.range n).map f) {i : Nat} (hi : i < n) : ∃ y : RA, rs[i]? = some y ∧ y.2 = f i := by
  have hl : rs.length = n := by
    have := congrArg List.length h
    rw [sps_len, List.length_map, List.length_range] at this
    exact this
  obtain ⟨y, hy⟩ := rs_get (rs := rs) (i := i) (by omega)
  refine ⟨y, hy, ?_⟩
  have e := sps_at hy
  rw [h, List.getElem?_map, List.getElem?_range hi] at e
  exact (Option.some.inj e).symm
theorem ByL.nil {own : Int} {cs : List (Int × Int)} {H : Hp} {lo : Int} : ByL own cs H [] lo lo := fun l => .inl ⟨rfl, fun m h1 h2 => by omega⟩
theorem ByL.step {own : Int} {cs : List (Int × Int)} {H H' : Hp} {kvs : List (Key × V)} {lo hi : Int} {b : Addr} {ns : List Int} (h : ByL own cs H kvs lo hi) (hlo : lo ≤ hi) (keep : ∀ c xs, H c = some (.lst xs) → H' c = some (.lst xs))
    (hb : H' b = some (.lst ((ns ++ [hi]).map V.int))) (hns : (valV kvs (.inl (DC.At own cs hi)) = none ∧ ns = []) ∨ ∃ a0, valV kvs (.inl (DC.At own cs hi)) = some (.ref a0) ∧ H a0 = some (.lst (ns.map V.int))) :
    ByL own cs H' (putK kvs (.inl (DC.At own cs hi)) (.ref b)) lo (hi + 1) := by
  intro l
  rw [valV_put]
  by_cases hl : (Sum.inl l : Key) = Sum.inl (DC.At own cs hi)
  · rw [if_pos hl]
    have el : l = DC.At own cs hi := Sum.inl.inj hl
    right
    have facts : DC.Rise ns ∧ ns.length ≤ (hi - lo).toNat ∧ ∀ m, m ∈ ns ↔ lo ≤ m ∧ m < hi ∧ DC.Sh own cs l m := by
      rcases h l with ⟨h1, h2⟩ | ⟨b1, n1, h1, h2, h3, h4, h5, h6⟩
      · rcases hns with ⟨g1, rfl⟩ | ⟨a0, g1, _⟩
        · exact ⟨.nil, Nat.zero_le _, fun m => ⟨(fun z => nomatch z), fun z => absurd z.2.2 (h2 m z.1 z.2.1)⟩⟩
        · rw [el, g1] at h1; cases h1
      · rcases hns with ⟨g1, _⟩ | ⟨a0, g1, g2⟩
        · rw [el, g1] at h1; cases h1
        · rw [el, g1] at h1
          injection h1 with h1
          injection h1 with h1
          rw [← h1, g2] at h2
          injection h2 with h2
          injection h2 with h2
          have e : ns = n1 := by
            have inj : ∀ {a b : List Int}, a.map V.int = b.map V.int → a = b := fun {a b} z => List.map_inj_right (fun x y w => by injection w) |>.mp z
            exact inj h2
          subst e
          exact ⟨h3, h5, h6⟩
    refine ⟨b, ns ++ [hi], rfl, hb, ?_, by simp, ?_, fun m => ?_⟩
    · refine List.pairwise_append.mpr ⟨facts.1, List.pairwise_singleton _ _, fun x hx y hy => ?_⟩
      rw [List.mem_singleton] at hy
      subst hy
      exact ((facts.2.2 x).mp hx).2.1
    · have := facts.2.1
      rw [List.length_append, List.length_singleton]
      omega
    · rw [List.mem_append, List.mem_singleton, facts.2.2 m]
      constructor
      · rintro (⟨a1, a2, a3⟩ | rfl)
        · exact ⟨a1, by omega, a3⟩
        · exact ⟨hlo, by omega, el.symm⟩
      · rintro ⟨a1, a2, a3⟩
        by_cases hm : m = hi
        · exact .inr hm
        · exact .inl ⟨a1, by omega, a3⟩
  · rw [if_neg hl]
    have nl : ¬ DC.Sh own cs l hi := fun z => hl (congrArg Sum.inl (show l = DC.At own cs hi from z.symm))
    rcases h l with ⟨h1, h2⟩ | ⟨b1, n1, h1, h2, h3, h4, h5, h6⟩
    · refine .inl ⟨h1, fun m a1 a2 => ?_⟩
      by_cases hm : m = hi
      · rw [hm]; exact nl
      · exact h2 m a1 (by omega)
    · refine .inr ⟨b1, n1, h1, keep _ _ h2, h3, h4, by omega, fun m => ?_⟩
      rw [h6 m]
      constructor
      · rintro ⟨a1, a2, a3⟩
        exact ⟨a1, by omega, a3⟩
      · rintro ⟨a1, a2, a3⟩
        refine ⟨a1, ?_, a3⟩
        by_cases hm : m = hi
        · rw [hm] at a3; exact absurd a3 nl
        · omega
theorem ByL.up {own : Int} {cs : List (Int × Int)} {H H' : Hp} {kvs : List (Key × V)} {lo hi : Int} (h : ByL own cs H kvs lo hi) (s : Same H H') : ByL own cs H' kvs lo hi := fun l => by
  rcases h l with z | ⟨b, ns, h1, h2, r⟩
  · exact .inl z
  · exact .inr ⟨b, ns, h1, s _ _ h2, r⟩

theorem rs3 {a b c : Int} (hc : 0 < c) {i : Nat} (hi : i < (Builtin.Range.rangeSize a b c).toNat) : a ≤ a + (i : Int) * c ∧ a + (i : Int) * c < b := by
  unfold Builtin.Range.rangeSize at hi
  rw [if_pos hc] at hi
  have h0 : 0 ≤ (i : Int) * c := Int.mul_nonneg (by omega) (by omega)
  split at hi
  · have h1 : (i : Int) ≤ (b - a - 1) / c := by omega
    have h2 : (i : Int) * c ≤ (b - a - 1) / c * c := Int.mul_le_mul_of_nonneg_right h1 (by omega)
    have h3 : (b - a - 1) / c * c ≤ b - a - 1 := Int.ediv_mul_le _ (by omega)
    omega
  · exact absurd hi (by simp)
theorem told_at {own : Int} {cs : List (Int × Int)} {l : Int} {ns : List Int} (hr : DC.Rise ns) (hm : ∀ m, m ∈ ns ↔ DC.Sh own cs l m) (hne : ns ≠ []) {b : Bool} {z : Int} (t : Told own cs l b z) : ns[if b = true then ns.length - 1 else 0]? = some z := by
  obtain ⟨ms, r2, m2, k2⟩ := t
  have e : ms = ns := DC.rise_uniq r2 hr fun m => (m2 m).trans (hm m).symm
  subst e
  rcases k2 with ⟨e2, _⟩ | ⟨_, f2⟩
  · exact absurd e2 hne
  · exact f2
theorem told_first {own : Int} {cs : List (Int × Int)} {l z0 : Int} (hn : ∀ m, ¬ DC.Sh own cs l m) (f : DC.First own cs l z0) {b : Bool} {z : Int} (t : Told own cs l b z) : z = z0 := by
  obtain ⟨ms, r2, m2, k2⟩ := t
  rcases k2 with ⟨_, f2⟩ | ⟨e2, _⟩
  · exact DC.first_uniq f2 f
  · cases ms with
    | nil => exact absurd rfl e2
    | cons y r => exact absurd ((m2 y).mp List.mem_cons_self) (hn y)
def pairF (own : Int) (cs : List (Int × Int)) : V → Int × Int := fun v => match v with
  | .int m => (m, DC.At own cs m)
  | _ => (0, 0)
theorem pairF_range (own : Int) (cs : List (Int × Int)) (lo : Int) (n : Nat) : ((List.range n).map fun (i : Nat) => V.int (lo + (i : Int))).map (pairF own cs) = (List.range n).map (fun (i : Nat) => (lo + (i : Int), DC.At own cs (lo + (i : Int)))) := by
  rw [List.map_map]
  rfl

end K37

namespace K37
open PySem L2
section
variable {P : Program} {w : World} {K : PySem.W.Frag} {mg : Str → Option Value} {base : Heap} {a : Adr}
theorem sc_is_made_of : FnScope ["text", "signs"] ["text", "signs"] (defScope s_is_made_of) := ⟨rfl, rfl, rfl, by decide +kernel, rfl, by decide +kernel, by decide +kernel⟩

theorem ok_is_made_of (T : Txt K mg a) : FnOk P w K mg base CX0 true 1 a.f_is_made_of a.d_is_made_of ["text", "signs"] (sp_is_made_of) := by
  refine T.F_is_made_of.ok sc_is_made_of (fun vs H Q E h => ?_) (fun cdv A outer s H vs Q E hr h => ?_)
  · obtain ⟨t, g, rfl, _⟩ := h; rfl
  · obtain ⟨t, g, rfl, hl, k⟩ := h
    refine ⟨_, (pss_one (ps_ret (pe_callB (call_allK (K := K) rfl rfl) rfl T.n_all (by decide +kernel) (pa_cons (pe_comp (N := ["sign", "signs"]) (cap := [none, some 1]) (by show CompScope (defScope s_is_made_of) _ ["text", "signs"] _ _; exact ⟨rfl, by decide +kernel, by decide +kernel, by decide +kernel, by decide +kernel, rfl, by decide +kernel⟩) rfl (pi_str (pv 0)) (fun C s H fp => ⟨(pg_name (i := 0) (by show (["sign", "signs"] : List Str).Nodup; decide +kernel) rfl (Or.inl rfl) (.inr rfl)), pf_none, (pe_cmpR op_in_chr (pv 0) (pv 1) (by with_unfolding_all rfl))⟩)) pa_nil)))), ?_⟩
    refine ⟨_, rfl, t, rfl, ?_⟩
    refine comp_pure (seq_str t H) (fun _ => true) (fun v => V.bl (match v with | .str y => decide (y.cps.toList.headD 0 ∈ g.cps.toList) | _ => false)) ?_ ?_ ?_ ?_
    · rw [List.length_map, Array.length_toList]
      exact Nat.le_trans hl (by decide)
    · exact fun x _ H' _ R hR => hR H' (Same.refl _)
    · intro x hx _ H' _ R hR
      obtain ⟨c, _, rfl⟩ := List.mem_map.mp hx
      exact ⟨_, rfl, _, rfl, c, g, rfl, rfl, hR H' (Same.refl _)⟩
    · intro D H' sm _ hD
      refine ⟨D, t.cps.toList.map fun c => decide (c ∈ g.cps.toList), rfl, SqL.of ?_, ?_⟩
      · rw [hD, List.filter_eq_self.mpr (fun _ _ => rfl), List.map_map, List.map_map]
        rfl
      · have := k H' sm
        rw [List.all_map]
        exact this
end
end K37

namespace K37
open PySem L2
section
variable {P : Program} {w : World} {K : PySem.W.Frag} {mg : Str → Option Value} {base : Heap} {a : Adr}
theorem sc_count_below : FnScope ["days", "number", "low", "high", "middle"] ["days", "number"] (defScope s_count_below) := ⟨rfl, rfl, rfl, by decide +kernel, rfl, by decide +kernel, by decide +kernel⟩

theorem ok_count_below (T : Txt K mg a) : FnOk P w K mg base CX0 true 1 a.f_count_below a.d_count_below ["days", "number"] (sp_count_below K) := by
  refine T.F_count_below.ok sc_count_below (fun vs H Q E h => ?_) (fun cdv A outer s H vs Q E hr h => ?_)
  · obtain ⟨p, ns, x, rfl, _⟩ := h; rfl
  · obtain ⟨p, ns, x, rfl, hS, hr1, hz, k⟩ := h
    refine ⟨_, (pss_cons (ps_set (i := 2) sc_count_below.nd rfl (Or.inl rfl) pe_int)
      (pss_cons (ps_set (i := 3) sc_count_below.nd rfl (Or.inl rfl) (pe_callB (call_len_seqK (K := K) rfl) rfl T.n_len (by decide +kernel) (pa_cons (pv 0) pa_nil)))
      (pss_cons (ps_while PassesOwn.never (pt_cmpR op_lt (pv 2) (pv 3) (nomark _)) (pss_cons (ps_set (i := 4) sc_count_below.nd rfl (Or.inl rfl) (pe_op op_fdiv (pe_op op_add (pv 2) (pv 3)) pe_int))
      (pss_one (ps_if (pt_cmpR op_lt (pe_ix (ix_tupK (K := K) rfl) (pv 0) (pv 4) (fun _ _ => rfl)) (pv 1) (nomark _)) (pss_one (ps_set (i := 2) sc_count_below.nd rfl (Or.inl rfl) (pe_op op_add (pv 4) pe_int))) (pss_one (ps_set (i := 3) sc_count_below.nd rfl (Or.inl rfl) (pv 4)))))))
      (pss_one (ps_ret (pv 2)))))), ?_⟩
    refine ⟨_, rfl, p, _, rfl, .inr hS, ?_⟩
    rw [List.length_map]
    refine ⟨fun m σ H' => H' = H ∧ ∃ (lo hi : Nat) (y : Option V), m = hi - lo ∧ lo ≤ hi ∧ hi ≤ ns.length ∧ (∀ (i : Nat) a, i < lo → ns[i]? = some a → a < x) ∧ (∀ (i : Nat) a, hi ≤ i → ns[i]? = some a → ¬ a < x) ∧ σ = [some (.ref p), some (.int x), some (.int (lo : Int)), some (.int (hi : Int)), y],
      ⟨_, rfl, 0, ns.length, none, rfl, Nat.zero_le _, Nat.le_refl _, fun i _ h => absurd h (Nat.not_lt_zero _), fun i a h e => by obtain ⟨z, _⟩ := List.getElem?_eq_some_iff.mp e; omega, rfl⟩, ?_⟩
    rintro m σ H1 ⟨rfl, lo, hi, y, rfl, h1, h2, h3, h4, rfl⟩
    refine ⟨_, rfl, _, rfl, _, _, rfl, rfl, _, rfl, ?_⟩
    refine ite2 (fun e => ?_) (fun e => ?_)
    · have e' : lo < hi := by have := of_decide_eq_true e; omega
      obtain ⟨a, ha⟩ := int_get (ns := ns) (i := (lo + hi) / 2) (by omega)
      refine ⟨fun σ' H' => H' = H1 ∧ ∃ (lo' hi' : Nat) (y : Option V), hi' - lo' < hi - lo ∧ lo' ≤ hi' ∧ hi' ≤ ns.length ∧ (∀ (i : Nat) a, i < lo' → ns[i]? = some a → a < x) ∧ (∀ (i : Nat) a, hi' ≤ i → ns[i]? = some a → ¬ a < x) ∧ σ' = [some (.ref p), some (.int x), some (.int (lo' : Int)), some (.int (hi' : Int)), y], ?_, ?_⟩
      · rintro σ' H' ⟨rfl, lo', hi', y, l1, l2, l3, l4, l5, rfl⟩
        exact ⟨hi' - lo', l1, rfl, lo', hi', y, rfl, l2, l3, l4, l5, rfl⟩
      refine ⟨_, rfl, _, rfl, _, _, rfl, rfl, _, _, rfl, rfl, ⟨by decide, by decide⟩, ?_⟩
      have A1 : atI (ns.map V.int) (((lo : Int) + (hi : Int)) / 2) = some (.int a) := by rw [half]; exact atI_nat (ints_at ha)
      have E1 : ((lo : Int) + (hi : Int)) / 2 = (((lo + hi) / 2 : Nat) : Int) := half
      have E2 : ((lo : Int) + (hi : Int)) / 2 + 1 = (((lo + hi) / 2 + 1 : Nat) : Int) := by omega
      refine ⟨_, rfl, _, rfl, p, _, _, _, rfl, rfl, hS, A1, _, rfl, _, _, rfl, rfl, _, rfl, ?_⟩
      refine ite2 (fun z => ?_) (fun z => ?_)
      · have z' := of_decide_eq_true z
        refine ⟨_, rfl, _, _, rfl, rfl, rfl, (lo + hi) / 2 + 1, hi, some (.int (((lo : Int) + (hi : Int)) / 2)), by omega, by omega, h2, fun i b hi' hb => ?_, h4, congrArg (fun (z : Int) => ([some (.ref p), some (.int x), some (.int z), some (.int (hi : Int)), some (.int (((lo : Int) + (hi : Int)) / 2))] : St)) E2⟩
        have := DC.rise_le hr1 hb ha (by omega)
        omega
      · have z' : ¬ a < x := fun w => z (decide_eq_true w)
        refine ⟨_, rfl, rfl, lo, (lo + hi) / 2, some (.int (((lo : Int) + (hi : Int)) / 2)), by omega, by omega, by omega, h3, fun i b hi' hb => ?_, congrArg (fun (z : Int) => ([some (.ref p), some (.int x), some (.int (lo : Int)), some (.int z), some (.int (((lo : Int) + (hi : Int)) / 2))] : St)) E1⟩
        have := DC.rise_le hr1 ha hb hi'
        omega
    · have e' : lo = hi := by
        have : ¬ (lo : Int) < (hi : Int) := fun w => e (decide_eq_true w)
        omega
      subst e'
      rw [DC.below_at h2 h3 h4] at k
      exact ⟨_, rfl, k⟩
end
end K37

namespace K37
open PySem L2
section
variable {P : Program} {w : World} {K : PySem.W.Frag} {mg : Str → Option Value} {base : Heap} {a : Adr}
theorem sc_check_offset : FnScope ["offset"] ["offset"] (defScope s_check_offset) := ⟨rfl, rfl, rfl, by decide +kernel, rfl, by decide +kernel, by decide +kernel⟩

theorem ok_check_offset (T : Txt K mg a) : FnOk P w K mg base CX0 true 1 a.f_check_offset a.d_check_offset ["offset"] (sp_check_offset) := by
  refine T.F_check_offset.ok sc_check_offset (fun vs H Q E h => ?_) (fun cdv A outer s H vs Q E hr h => ?_)
  · obtain ⟨o, rfl, _⟩ := h; rfl
  · obtain ⟨o, rfl, h1, h2, k⟩ := h
    refine ⟨_, (pss_one (ps_if (PW.pt (pw_or (pt_cmpR op_lt (pv 0) (pe_un un_neg (pe_globI rfl T.g_MOST_OFFSET)) (nomark _)) (pw_or1 (pt_cmpR op_gt (pv 0) (pe_globI rfl T.g_MOST_OFFSET) (nomark _))))) (pss_one ps_never) pss_nil)), ?_⟩
    refine ⟨_, rfl, _, rfl, _, _, rfl, rfl, _, rfl, ?_⟩
    refine ite2 (fun z => absurd (of_decide_eq_true z) (by omega)) (fun _ => ?_)
    refine ⟨_, rfl, _, _, rfl, rfl, _, rfl, ?_⟩
    exact ite2 (fun z => absurd (of_decide_eq_true z) (by omega)) (fun _ => k)
end
end K37

namespace K37
open PySem L2
section
variable {P : Program} {w : World} {K : PySem.W.Frag} {mg : Str → Option Value} {base : Heap} {a : Adr}
theorem sc_offset_behind : FnScope ["place", "many"] ["place", "many"] (defScope s_offset_behind) := ⟨rfl, rfl, rfl, by decide +kernel, rfl, by decide +kernel, by decide +kernel⟩

theorem ok_offset_behind (T : Txt K mg a) : FnOk P w K mg base CX0 true 1 a.f_offset_behind a.d_offset_behind ["place", "many"] (sp_offset_behind a.x_Place) := by
  refine T.F_offset_behind.ok sc_offset_behind (fun vs H Q E h => ?_) (fun cdv A outer s H vs Q E hr h => ?_)
  · obtain ⟨x, nm, own, ch, ms, cs, m, rfl, _⟩ := h; rfl
  · obtain ⟨x, nm, own, ch, ms, cs, q, rfl, pl, hq, k⟩ := h
    obtain ⟨dx, ob⟩ := pl.ob
    refine ⟨_, (pss_one (ps_ret (pe_ifExp (pt_cmpR op_gt (pv 1) pe_int (nomark _)) (pe_ix (ix_tupK (K := K) rfl) (pe_ix (ix_tupK (K := K) rfl) (pe_fldK (K := K) rfl (pv 0)) (pe_op op_sub (pv 1) pe_int) (fun _ _ => rfl)) pe_int (fun _ _ => rfl)) (pe_fldK (K := K) rfl (pv 0))))), ?_⟩
    refine ⟨_, rfl, _, _, rfl, rfl, _, rfl, ?_⟩
    refine ite2 (fun z => ?_) (fun z => ?_)
    · have z' : (0 : Int) < (q : Int) := of_decide_eq_true z
      obtain ⟨j, rfl⟩ : ∃ j, q = j + 1 := ⟨q - 1, by omega⟩
      obtain ⟨y, hy⟩ := rs_get (rs := cs) (i := j) (by omega)
      have hyp := pl.ok y (List.mem_of_getElem? hy)
      rw [DC.off_succ (sps_at hy)] at k
      refine ⟨_, rfl, x, _, dx, _, _, rfl, ob, T.cl_Place, T.n_Place_changes, fl_ch _ _ _ _, _, rfl, _, _, rfl, rfl, ch, _, _, _, rfl, rfl, SqT.of pl.ch, ?_, y.1, _, _, _, rfl, rfl, SqT.of hyp, rfl, k⟩
      rw [show (((j + 1 : Nat) : Int)) - 1 = ((j : Nat) : Int) by omega]
      exact atI_nat (refs_at hy)
    · have z' : ¬ (0 : Int) < (q : Int) := fun w => z (decide_eq_true w)
      obtain rfl : q = 0 := by omega
      rw [DC.off_zero] at k
      exact ⟨_, rfl, x, _, dx, _, _, rfl, ob, T.cl_Place, T.n_Place_offset, fl_off _ _ _ _, k⟩
end
end K37

namespace K37
open PySem L2
section
variable {P : Program} {w : World} {K : PySem.W.Frag} {mg : Str → Option Value} {base : Heap} {a : Adr}
theorem sc_law_cell_at : FnScope ["_law_script", "_law_k"] ["_law_script", "_law_k"] (defScope s_law_cell_at) := ⟨rfl, rfl, rfl, by decide +kernel, rfl, by decide +kernel, by decide +kernel⟩

theorem ok_law_cell_at (T : Txt K mg a) : FnOk P w K mg base CX0 true 1 a.f_law_cell_at a.d_law_cell_at ["_law_script", "_law_k"] (sp_law_cell_at K) := by
  refine T.F_law_cell_at.ok sc_law_cell_at (fun vs H Q E h => ?_) (fun cdv A outer s H vs Q E hr h => ?_)
  · obtain ⟨p, ns, i, rfl, _⟩ := h; rfl
  · obtain ⟨p, ns, i, rfl, hS, h0, k⟩ := h
    refine ⟨_, (pss_cons (ps_if (pt_cmpR op_lt (pv 1) (pe_callB (call_len_seqK (K := K) rfl) rfl T.n_len (by decide +kernel) (pa_cons (pv 0) pa_nil)) (nomark _)) (pss_one (ps_ret (pe_ix (ix_listK (K := K) rfl) (pv 0) (pv 1) (fun _ _ => rfl)))) pss_nil)
      (pss_one (ps_ret pe_int))), ?_⟩
    refine ⟨_, rfl, _, rfl, p, _, rfl, .inl hS, _, _, rfl, rfl, _, rfl, ?_⟩
    refine ite2 (fun e1 => ?_) (fun e1 => k 0)
    have e1' := of_decide_eq_true e1
    rw [List.length_map] at e1'
    obtain ⟨t, _, et⟩ := atI_ints h0 e1'
    exact ⟨_, rfl, _, rfl, p, _, _, _, rfl, rfl, hS, et, k t⟩
end
end K37

namespace K37
open PySem L2
section
variable {P : Program} {w : World} {K : PySem.W.Frag} {mg : Str → Option Value} {base : Heap} {a : Adr}
theorem sc_law_whole : FnScope ["_law_found"] ["_law_found"] (defScope s_law_whole) := ⟨rfl, rfl, rfl, by decide +kernel, rfl, by decide +kernel, by decide +kernel⟩

theorem ok_law_whole (T : Txt K mg a) : FnOk P w K mg base CX0 true 1 a.f_law_whole a.d_law_whole ["_law_found"] (sp_law_whole) := by
  refine T.F_law_whole.ok sc_law_whole (fun vs H Q E h => ?_) (fun cdv A outer s H vs Q E hr h => ?_)
  · obtain ⟨i, rfl, _⟩ := h; rfl
  · obtain ⟨i, rfl, k⟩ := h
    refine ⟨_, (pss_one (ps_ret (pe_and (pe_callB (call_isinstK (K := K) rfl) rfl T.n_isinstance (by decide +kernel) (pa_cons (pv 0) (pa_cons (pe_bltn (v := .ty "int") rfl T.n_int (by decide +kernel) rfl) pa_nil))) (pe_one (pe_not (pe_callB (call_isinstK (K := K) rfl) rfl T.n_isinstance (by decide +kernel) (pa_cons (pv 0) (pa_cons (pe_bltn (v := .ty "bool") rfl T.n_bool (by decide +kernel) rfl) pa_nil)))))))), ?_⟩
    refine ⟨_, rfl, _, _, _, _, rfl, TyOf.int _, rfl, _, rfl, iteT ?_⟩
    exact ⟨_, rfl, _, _, _, _, rfl, TyOf.int _, rfl, _, rfl, k⟩
end
end K37

namespace K37
open PySem L2
section
variable {P : Program} {w : World} {K : PySem.W.Frag} {mg : Str → Option Value} {base : Heap} {a : Adr}
theorem sc_law_mixed : FnScope ["_law_cell", "_law_k", "_law_many", "_law_made"] ["_law_cell", "_law_k", "_law_many"] (defScope s_law_mixed) := ⟨rfl, rfl, rfl, by decide +kernel, rfl, by decide +kernel, by decide +kernel⟩

theorem ok_law_mixed (T : Txt K mg a) : FnOk P w K mg base CX0 true 1 a.f_law_mixed a.d_law_mixed ["_law_cell", "_law_k", "_law_many"] (sp_law_mixed) := by
  refine T.F_law_mixed.ok sc_law_mixed (fun vs H Q E h => ?_) (fun cdv A outer s H vs Q E hr h => ?_)
  · obtain ⟨c, k, m, rfl, _⟩ := h; rfl
  · obtain ⟨c, q, m, rfl, q0, q1, hm, k⟩ := h
    refine ⟨_, (pss_cons (ps_set (i := 3) sc_law_mixed.nd rfl (Or.inl rfl) (pe_op op_mod (pe_op op_add (pe_op op_add (pe_op op_add (pe_op op_mul (pv 0) pe_int) (pe_op op_mul (pe_op op_mul pe_int (pv 1)) (pv 1))) (pe_op op_mul pe_int (pv 1))) pe_int) pe_int))
      (pss_one (ps_ret (pe_op op_mod (pe_op op_mod (pe_op op_mul (pv 3) (pe_op op_add (pe_op op_add (pv 3) (pe_op op_mul pe_int (pv 1))) pe_int)) pe_int) (pv 2))))), ?_⟩
    refine ⟨_, rfl, _, _, rfl, rfl, .inr ⟨by decide, by decide⟩, _, rfl, _, _, rfl, rfl, .inl ⟨by decide, by decide⟩, _, rfl, _, _, rfl, rfl, .inr ⟨by omega, by omega⟩, _, _, rfl, rfl, _, rfl, _, _, rfl, rfl, .inl ⟨by decide, by decide⟩, _, _, rfl, rfl, _, _, rfl, rfl, _, _, rfl, rfl, (by show (0 : Int) < 2147483647; decide), ?_⟩
    generalize (c * 48271 + 7919 * q * q + 31 * q + 5) = big
    have b0 : 0 ≤ big % 2147483647 := Int.emod_nonneg _ (by decide)
    have b1 : big % 2147483647 < 2147483647 := Int.emod_lt_of_pos _ (by decide)
    refine ⟨_, rfl, _, rfl, _, rfl, _, _, rfl, rfl, .inl ⟨by decide, by decide⟩, _, _, rfl, rfl, _, _, rfl, rfl, _, _, rfl, rfl, .inl ⟨by omega, by omega⟩, _, _, rfl, rfl, (by show (0 : Int) < 1000000007; decide), _, rfl, _, _, rfl, rfl, hm, ?_⟩
    exact k _ (Int.emod_nonneg _ (by omega)) (Int.emod_lt_of_pos _ hm)
end
end K37

namespace K37
open PySem L2
section
variable {P : Program} {w : World} {K : PySem.W.Frag} {mg : Str → Option Value} {base : Heap} {a : Adr}
theorem sc_law_offset_of : FnScope ["_law_own", "_law_changes", "_law_moment", "_law_k"] ["_law_own", "_law_changes", "_law_moment"] (defScope s_law_offset_of) := ⟨rfl, rfl, rfl, by decide +kernel, rfl, by decide +kernel, by decide +kernel⟩

theorem ok_law_offset_of (T : Txt K mg a) : FnOk P w K mg base CX0 true 1 a.f_law_offset_of a.d_law_offset_of ["_law_own", "_law_changes", "_law_moment"] (sp_law_offset_of) := by
  refine T.F_law_offset_of.ok sc_law_offset_of (fun vs H Q E h => ?_) (fun cdv A outer s H vs Q E hr h => ?_)
  · obtain ⟨own, m, p, cs, rfl, _⟩ := h; rfl
  · obtain ⟨own, m, p, cs, rfl, hp, hok, hri, hz, k⟩ := h
    refine ⟨_, (pss_cons (ps_for PassesOwn.never rfl (pi_range1 rfl T.n_range (pa_cons (pe_callB (call_len_seqK (K := K) rfl) rfl T.n_len (by decide +kernel) (pa_cons (pv 1) pa_nil)) pa_nil)) (pg_name (i := 3) sc_law_offset_of.nd rfl (Or.inl rfl)) (pss_one (ps_if (pt_cmpR op_le (pe_ix (ix_tupK (K := K) rfl) (pe_ix (ix_tupK (K := K) rfl) (pv 1) (pe_op op_sub (pe_op op_sub (pe_callB (call_len_seqK (K := K) rfl) rfl T.n_len (by decide +kernel) (pa_cons (pv 1) pa_nil)) pe_int) (pv 3)) (fun _ _ => rfl)) pe_int (fun _ _ => rfl)) (pv 2) (nomark _)) (pss_one (ps_ret (pe_ix (ix_tupK (K := K) rfl) (pe_ix (ix_tupK (K := K) rfl) (pv 1) (pe_op op_sub (pe_op op_sub (pe_callB (call_len_seqK (K := K) rfl) rfl T.n_len (by decide +kernel) (pa_cons (pv 1) pa_nil)) pe_int) (pv 3)) (fun _ _ => rfl)) pe_int (fun _ _ => rfl)))) pss_nil)))
      (pss_one (ps_ret (pv 0)))), ?_⟩
    refine ⟨_, rfl, p, _, rfl, .inr (SqT.of hp), (cs.length : Int), by rw [refs_len], by omega, by omega, ?_⟩
    refine for_range (n := cs.length) (fun i σ H' => H' = H ∧ (∀ (j : Nat) d, cs.length - i ≤ j → (sps cs)[j]? = some d → ¬ d.1 ≤ m) ∧ ∃ x, σ = [some (.int own), some (.ref p), some (.int m), x]) ⟨rfl, fun j d h e => ?_, _, rfl⟩ ?_ ?_
    · obtain ⟨z, _⟩ := List.getElem?_eq_some_iff.mp e
      rw [sps_len] at z
      omega
    · rintro i σ H1 hi ⟨rfl, hgt, x1, rfl⟩
      obtain ⟨y, hy⟩ := rs_get (rs := cs) (i := cs.length - 1 - i) (by omega)
      have hyp := hok y (List.mem_of_getElem? hy)
      have A1 : atI (refs cs) (((refs cs).length : Int) - 1 - (0 + (i : Int))) = some (.ref y.1) := by
        rw [refs_len, show ((cs.length : Int) - 1 - (0 + (i : Int))) = ((cs.length - 1 - i : Nat) : Int) by omega]
        exact atI_nat (refs_at hy)
      refine ⟨_, rfl, _, rfl, p, _, rfl, .inr (SqT.of hp), _, _, rfl, rfl, _, rfl, _, _, rfl, rfl, p, _, _, _, rfl, rfl, SqT.of hp, A1, y.1, _, _, _, rfl, rfl, SqT.of hyp, rfl, _, rfl, _, _, rfl, rfl, _, rfl, ?_⟩
      refine ite2 (fun z => ?_) (fun z => ⟨rfl, fun j d hj e => ?_, _, rfl⟩)
      · have e := DC.cnt_last hri (sps_at hy) (of_decide_eq_true z) (fun j d hj e => hgt j d (by omega) e)
        unfold DC.offAt at k
        rw [e, DC.off_succ (sps_at hy)] at k
        exact ⟨_, rfl, _, rfl, p, _, rfl, .inr (SqT.of hp), _, _, rfl, rfl, _, rfl, _, _, rfl, rfl, p, _, _, _, rfl, rfl, SqT.of hp, A1, y.1, _, _, _, rfl, rfl, SqT.of hyp, rfl, k⟩
      · by_cases hj' : cs.length - i ≤ j
        · exact hgt j d hj' e
        · obtain rfl : j = cs.length - 1 - i := by omega
          rw [sps_at hy] at e
          cases e
          exact fun w => z (decide_eq_true w)
    · rintro σ H1 ⟨rfl, hgt, x1, rfl⟩
      have e := DC.cnt_none hri (fun j d e => hgt j d (by omega) e)
      unfold DC.offAt at k
      rw [e, DC.off_zero] at k
      exact ⟨_, rfl, k⟩
end
end K37

namespace K37
open PySem L2
section
variable {P : Program} {w : World} {K : PySem.W.Frag} {mg : Str → Option Value} {base : Heap} {a : Adr}
theorem sc_law_leap : FnScope ["_law_by_moment", "_law_local", "_law_k"] ["_law_by_moment", "_law_local"] (defScope s_law_leap) := ⟨rfl, rfl, rfl, by decide +kernel, rfl, by decide +kernel, by decide +kernel⟩

theorem ok_law_leap (T : Txt K mg a) : FnOk P w K mg base CX0 true 1 a.f_law_leap a.d_law_leap ["_law_by_moment", "_law_local"] (sp_law_leap) := by
  refine T.F_law_leap.ok sc_law_leap (fun vs H Q E h => ?_) (fun cdv A outer s H vs Q E hr h => ?_)
  · obtain ⟨b, own, lo, l, z, cs, rs, n, rfl, _⟩ := h; rfl
  · obtain ⟨b, own, lo, l, z, cs, rs, n, rfl, hb, hok, hsp, hn, hri, fst, z0, z1, k⟩ := h
    refine ⟨_, (pss_cons (ps_for PassesOwn.never rfl (pi_range2 rfl T.n_range (pa_cons pe_int (pa_cons (pe_callB (call_len_seqK (K := K) rfl) rfl T.n_len (by decide +kernel) (pa_cons (pv 0) pa_nil)) pa_nil))) (pg_name (i := 2) sc_law_leap.nd rfl (Or.inl rfl)) (pss_one (ps_if (PW.pt (pw_and (pt_cmpR op_gt (pe_ix (ix_tupK (K := K) rfl) (pe_ix (ix_listK (K := K) rfl) (pv 0) (pv 2) (fun _ _ => rfl)) pe_int (fun _ _ => rfl)) (pv 1) (nomark _)) (pw_and1 (pt_cmpR op_lt (pe_ix (ix_tupK (K := K) rfl) (pe_ix (ix_listK (K := K) rfl) (pv 0) (pe_op op_sub (pv 2) pe_int) (fun _ _ => rfl)) pe_int (fun _ _ => rfl)) (pv 1) (nomark _))))) (pss_one (ps_ret (pe_ix (ix_tupK (K := K) rfl) (pe_ix (ix_listK (K := K) rfl) (pv 0) (pv 2) (fun _ _ => rfl)) pe_int (fun _ _ => rfl)))) pss_nil)))
      (pss_one (ps_ret pe_non))), ?_⟩
    have hl : rs.length = n := by
      have := congrArg List.length hsp
      rw [sps_len, List.length_map, List.length_range] at this
      exact this
    refine ⟨_, rfl, b, _, rfl, .inl (SqL.of hb), _, _, rfl, ⟨by decide, by decide, by omega, by rw [refs_len]; omega⟩, ?_⟩
    rw [refs_len, hl]
    refine for_range (fun i σ H' => H' = H ∧ (lo + (i : Int) < z) ∧ ∃ y, σ = [some (.ref b), some (.int l), y]) ⟨rfl, by omega, _, rfl⟩ ?_ ?_
    · rintro i σ H1 hi ⟨rfl, hlow, x1, rfl⟩
      have hi1 : i + 1 < n := by omega
      obtain ⟨y, hy, ey⟩ := rs_of hsp hi1
      obtain ⟨v, hv, ev⟩ := rs_of hsp (i := i) (by omega)
      have hyp := hok y (List.mem_of_getElem? hy)
      have hvp := hok v (List.mem_of_getElem? hv)
      rw [ey] at hyp
      rw [ev] at hvp
      have A1 : atI (refs rs) (1 + (i : Int)) = some (.ref y.1) := by rw [show (1 + (i : Int)) = ((i + 1 : Nat) : Int) by omega]; exact atI_nat (refs_at hy)
      have A2 : atI (refs rs) (1 + (i : Int) - 1) = some (.ref v.1) := by rw [show (1 + (i : Int) - 1) = ((i : Nat) : Int) by omega]; exact atI_nat (refs_at hv)
      have nxt : ¬ DC.LeapM own cs l (lo + ((i + 1 : Nat) : Int)) → lo + ((i + 1 : Nat) : Int) < z := fun nl => by
        have : lo + ((i + 1 : Nat) : Int) ≠ z := fun e => nl (e ▸ DC.first_leapM hri fst)
        omega
      have em : lo + ((i + 1 : Nat) : Int) - 1 = lo + (i : Int) := by omega
      refine ⟨_, rfl, _, rfl, b, _, _, _, rfl, rfl, SqL.of hb, A1, y.1, _, _, _, rfl, rfl, SqT.of hyp, rfl, _, rfl, _, _, rfl, rfl, _, rfl, ?_⟩
      refine ite2 (fun q1 => ?_) (fun q1 => ?_)
      · refine ⟨_, rfl, _, rfl, _, _, rfl, rfl, b, _, _, _, rfl, rfl, SqL.of hb, A2, v.1, _, _, _, rfl, rfl, SqT.of hvp, rfl, _, rfl, _, _, rfl, rfl, _, rfl, ?_⟩
        refine ite2 (fun q2 => ?_) (fun q2 => ?_)
        · have lm : DC.LeapM own cs l (lo + ((i + 1 : Nat) : Int)) := ⟨by rw [em]; exact of_decide_eq_true q2, of_decide_eq_true q1⟩
          have e : z = lo + ((i + 1 : Nat) : Int) := by
            have := DC.first_low hri fst lm
            omega
          rw [e] at k
          exact ⟨_, rfl, _, rfl, b, _, _, _, rfl, rfl, SqL.of hb, A1, y.1, _, _, _, rfl, rfl, SqT.of hyp, rfl, k⟩
        · exact ⟨rfl, nxt fun w => q2 (decide_eq_true (by have := w.1; rw [em] at this; exact this)), _, rfl⟩
      · exact iteF ⟨rfl, nxt fun w => q1 (decide_eq_true w.2), _, rfl⟩
    · rintro σ H1 ⟨rfl, hlow, x1, rfl⟩
      omega
end
end K37

namespace K37
open PySem L2
section
variable {P : Program} {w : World} {K : PySem.W.Frag} {mg : Str → Option Value} {base : Heap} {a : Adr}
theorem sc_is_name : FnScope ["text"] ["text"] (defScope s_is_name) := ⟨rfl, rfl, rfl, by decide +kernel, rfl, by decide +kernel, by decide +kernel⟩

theorem ok_is_name (T : Txt K mg a) : FnOk P w K mg base CX0 true 2 a.f_is_name a.d_is_name ["text"] (sp_is_name) := by
  refine T.F_is_name.ok sc_is_name (fun vs H Q E h => ?_) (fun cdv A outer s H vs Q E hr h => ?_)
  · obtain ⟨t, rfl, _⟩ := h; rfl
  · obtain ⟨t, rfl, hl, k⟩ := h
    refine ⟨_, (pss_cons (ps_if (PW.pt (pw_or (pt_cmpR op_lt (pe_callB call_len_str rfl T.n_len (by decide +kernel) (pa_cons (pv 0) pa_nil)) pe_int (nomark _)) (pw_or1 (pt_cmpR op_gt (pe_callB call_len_str rfl T.n_len (by decide +kernel) (pa_cons (pv 0) pa_nil)) (pe_globI rfl T.g_NAME_SIGNS) (nomark _))))) (pss_one (ps_ret pe_bl)) pss_nil)
      (pss_one (ps_ret (pe_and (pe_cmpR op_in_chr (pe_ix ix_str (pv 0) pe_int (fun _ _ => rfl)) (pe_globS rfl T.g_LETTERS) (by with_unfolding_all rfl)) (pe_one (pe_call ((ok_is_made_of T).mono (by decide)) hr rfl T.m_is_made_of T.F_is_made_of.kp T.b_is_made_of .nil pass0 (pa_cons (pv 0) (pa_cons (pe_op op_add_str (pe_globS rfl T.g_LETTERS) (pe_globS rfl T.g_FIGURES)) pa_nil)))))))), ?_⟩
    have hz : t.length ≤ sizeLine := Nat.le_of_lt (Nat.lt_of_le_of_lt hl sz1000)
    have el : t.cps.toList.length = t.length := Array.length_toList
    refine ⟨_, rfl, t, rfl, hz, _, _, rfl, rfl, _, rfl, ?_⟩
    refine ite2 (fun h1 => ?_) (fun h1 => ?_)
    · refine iteT ?_
      have q := k H (Same.refl _)
      rw [nameB_short (by rw [el]; have := of_decide_eq_true h1; omega)] at q
      exact q
    · have h1' : ¬ ((t.length : Int) < 1) := fun z => h1 (decide_eq_true z)
      refine ⟨_, rfl, t, rfl, hz, _, _, rfl, rfl, _, rfl, ?_⟩
      refine ite2 (fun h2 => ?_) (fun h2 => ?_)
      · have q := k H (Same.refl _)
        rw [nameB_long (by rw [el]; have := of_decide_eq_true h2; omega)] at q
        exact q
      · have h2' : ¬ ((8 : Int) < t.length) := fun z => h2 (decide_eq_true z)
        obtain ⟨c0, e0⟩ : ∃ c, t.cps.toList[0]? = some c := ⟨t.cps.toList[0]'(by rw [el]; omega), by simp⟩
        refine ⟨_, rfl, t, 0, c0, rfl, rfl, hz, atI_nat e0, c0, _, rfl, rfl, _, rfl, ?_⟩
        have en := nameB_mid (l := t.cps.toList) (by rw [el]; omega) (by rw [el]; omega) e0
        refine ite2 (fun h3 => ?_) (fun h3 => ?_)
        · refine ⟨_, rfl, _, _, rfl, rfl, by decide +kernel, t, _, rfl, hl, fun H' sm => ?_⟩
          have q := k H' sm
          rw [en, show decide (c0 ∈ LT) = true from h3, Bool.true_and] at q
          exact q
        · have q := k H (Same.refl _)
          rw [en, show decide (c0 ∈ LT) = false from decide_eq_false (fun z => h3 (decide_eq_true z)), Bool.false_and] at q
          exact q
end
end K37

namespace K37
open PySem L2
section
variable {P : Program} {w : World} {K : PySem.W.Frag} {mg : Str → Option Value} {base : Heap} {a : Adr}
theorem sc_check_changes : FnScope ["changes", "place", "change"] ["changes"] (defScope s_check_changes) := ⟨rfl, rfl, rfl, by decide +kernel, rfl, by decide +kernel, by decide +kernel⟩

theorem ok_check_changes (T : Txt K mg a) : FnOk P w K mg base CX0 true 2 a.f_check_changes a.d_check_changes ["changes"] (sp_check_changes) := by
  refine T.F_check_changes.ok sc_check_changes (fun vs H Q E h => ?_) (fun cdv A outer s H vs Q E hr h => ?_)
  · obtain ⟨p, cs, rfl, _⟩ := h; rfl
  · obtain ⟨p, cs, rfl, hp, hok, ⟨hrise, hlen, hoff⟩, k⟩ := h
    refine ⟨_, (pss_cons (ps_if (pt_cmpR op_gt (pe_callB (call_len_seqK (K := K) rfl) rfl T.n_len (by decide +kernel) (pa_cons (pv 0) pa_nil)) (pe_globI rfl T.g_MOST_CHANGES) (nomark _)) (pss_one ps_never) pss_nil)
      (pss_cons (ps_for PassesOwn.never rfl (pi_range2 rfl T.n_range (pa_cons pe_int (pa_cons (pe_callB (call_len_seqK (K := K) rfl) rfl T.n_len (by decide +kernel) (pa_cons (pv 0) pa_nil)) pa_nil))) (pg_name (i := 1) sc_check_changes.nd rfl (Or.inl rfl)) (pss_one (ps_if (pt_cmpR op_le (pe_ix (ix_tupK (K := K) rfl) (pe_ix (ix_tupK (K := K) rfl) (pv 0) (pv 1) (fun _ _ => rfl)) pe_int (fun _ _ => rfl)) (pe_ix (ix_tupK (K := K) rfl) (pe_ix (ix_tupK (K := K) rfl) (pv 0) (pe_op op_sub (pv 1) pe_int) (fun _ _ => rfl)) pe_int (fun _ _ => rfl)) (nomark _)) (pss_one ps_never) pss_nil)))
      (pss_one (ps_for PassesOwn.never rfl (pi_tupK (K := K) rfl (pv 0)) (pg_name (i := 2) sc_check_changes.nd rfl (Or.inl rfl)) (pss_one (ps_expr (pe_call ((ok_check_offset T).mono (by decide)) hr rfl T.m_check_offset T.F_check_offset.kp T.b_check_offset .nil pass0 (pa_cons (pe_ix (ix_tupK (K := K) rfl) (pv 2) pe_int (fun _ _ => rfl)) pa_nil)))))))), ?_⟩
    refine ⟨_, rfl, p, _, rfl, .inr (SqT.of hp), _, _, rfl, rfl, _, rfl, ?_⟩
    rw [refs_len]
    refine ite2 (fun z => absurd (of_decide_eq_true z) (by omega)) (fun _ => ?_)
    refine ⟨_, rfl, p, _, rfl, .inr (SqT.of hp), _, _, rfl, ⟨by decide, by decide, by omega, by rw [refs_len]; omega⟩, ?_⟩
    rw [refs_len]
    refine for_range (fun i σ H' => H' = H ∧ ∃ x y, σ = [some (.ref p), x, y]) ⟨rfl, _, _, rfl⟩ ?_ ?_
    · rintro i σ H1 hi ⟨rfl, x1, x2, rfl⟩
      obtain ⟨y, hy⟩ := rs_get (rs := cs) (i := i + 1) (by omega)
      obtain ⟨z, hz⟩ := rs_get (rs := cs) (i := i) (by omega)
      have hyp := hok y (List.mem_of_getElem? hy)
      have hzp := hok z (List.mem_of_getElem? hz)
      have A1 : atI (refs cs) (1 + (i : Int)) = some (.ref y.1) := by rw [show (1 + (i : Int)) = ((i + 1 : Nat) : Int) by omega]; exact atI_nat (refs_at hy)
      have A2 : atI (refs cs) (1 + (i : Int) - 1) = some (.ref z.1) := by rw [show (1 + (i : Int) - 1) = ((i : Nat) : Int) by omega]; exact atI_nat (refs_at hz)
      refine ⟨_, rfl, _, rfl, p, _, _, _, rfl, rfl, SqT.of hp, A1, y.1, _, _, _, rfl, rfl, SqT.of hyp, rfl, _, rfl, _, rfl, _, _, rfl, rfl, p, _, _, _, rfl, rfl, SqT.of hp, A2, z.1, _, _, _, rfl, rfl, SqT.of hzp, rfl, _, _, rfl, rfl, _, rfl, ?_⟩
      have lt := DC.rise_lt hrise (DC.mom_at (sps_at hz)) (DC.mom_at (sps_at hy)) (Nat.lt_succ_self i)
      exact ite2 (fun w => absurd (of_decide_eq_true w) (by omega)) (fun _ => ⟨rfl, _, _, rfl⟩)
    rintro σ H1 ⟨rfl, x1, x2, rfl⟩
    refine ⟨_, rfl, p, rfl, ⟨_, SqT.of hp⟩, ?_⟩
    refine for_seq (seq_tup (SqT.of hp)) (fun i σ H' => H' = H1 ∧ ∃ x y, σ = [some (.ref p), x, y]) ⟨rfl, _, _, rfl⟩ (fun _ _ _ _ h => h.1 ▸ Same.refl _) ?_ ?_
    · rintro i x σ H2 hx ⟨rfl, x1, x2, rfl⟩
      obtain ⟨y, hy, hm, rfl⟩ := refs_get hx
      have ho := hoff _ (sps_mem hm)
      exact ⟨_, rfl, y.1, _, _, _, rfl, rfl, SqT.of (hok y hm), rfl, _, rfl, ho.1, ho.2, rfl, _, _, rfl⟩
    · rintro σ H2 ⟨rfl, x1, x2, rfl⟩
      exact k
end
end K37

namespace K37
open PySem L2
section
variable {P : Program} {w : World} {K : PySem.W.Frag} {mg : Str → Option Value} {base : Heap} {a : Adr}
theorem sc_changes_until : FnScope ["place", "moment"] ["place", "moment"] (defScope s_changes_until) := ⟨rfl, rfl, rfl, by decide +kernel, rfl, by decide +kernel, by decide +kernel⟩

theorem ok_changes_until (T : Txt K mg a) : FnOk P w K mg base CX0 true 2 a.f_changes_until a.d_changes_until ["place", "moment"] (sp_changes_until a.x_Place) := by
  refine T.F_changes_until.ok sc_changes_until (fun vs H Q E h => ?_) (fun cdv A outer s H vs Q E hr h => ?_)
  · obtain ⟨x, nm, own, ch, ms, cs, m, rfl, _⟩ := h; rfl
  · obtain ⟨x, nm, own, ch, ms, cs, m, rfl, pl, k⟩ := h
    obtain ⟨dx, ob⟩ := pl.ob
    refine ⟨_, (pss_one (ps_ret (pe_call ((ok_count_below T).mono (by decide)) hr rfl T.m_count_below T.F_count_below.kp T.b_count_below .nil pass0 (pa_cons (pe_fldK (K := K) rfl (pv 0)) (pa_cons (pe_op op_add (pv 1) pe_int) pa_nil))))), ?_⟩
    exact ⟨_, rfl, x, _, dx, _, _, rfl, ob, T.cl_Place, T.n_Place_moments, fl_ms _ _ _ _, _, rfl, _, _, rfl, rfl, ms, _, _, rfl, SqT.of pl.ms, pl.rise, by rw [DC.mom_len, sps_len]; have := pl.few; omega, k⟩
end
end K37

namespace K37
open PySem L2
section
variable {P : Program} {w : World} {K : PySem.W.Frag} {mg : Str → Option Value} {base : Heap} {a : Adr}
theorem sc_law_pair_is : FnScope ["_law_found", "_law_local"] ["_law_found", "_law_local"] (defScope s_law_pair_is) := ⟨rfl, rfl, rfl, by decide +kernel, rfl, by decide +kernel, by decide +kernel⟩

theorem ok_law_pair_is (T : Txt K mg a) : FnOk P w K mg base CX0 true 2 a.f_law_pair_is a.d_law_pair_is ["_law_found", "_law_local"] (sp_law_pair_is) := by
  refine T.F_law_pair_is.ok sc_law_pair_is (fun vs H Q E h => ?_) (fun cdv A outer s H vs Q E hr h => ?_)
  · obtain ⟨p, d, m, l, rfl, _⟩ := h; rfl
  · obtain ⟨p, d, m, l, rfl, hp, m0, m1, e, k⟩ := h
    refine ⟨_, (pss_cons (ps_if (PW.pt (pw_or (pt_not (pt_val (pe_callB (call_isinstK (K := K) rfl) rfl T.n_isinstance (by decide +kernel) (pa_cons (pv 0) (pa_cons (pe_bltn (v := .ty "tuple") rfl T.n_tuple (by decide +kernel) rfl) pa_nil))))) (pw_or (pt_cmpR op_ne (pe_callB (call_len_seqK (K := K) rfl) rfl T.n_len (by decide +kernel) (pa_cons (pv 0) pa_nil)) pe_int (nomark _)) (pw_or (pt_not (pt_val (pe_call ((ok_law_whole T).mono (by decide)) hr rfl T.m_law_whole T.F_law_whole.kp T.b_law_whole .nil pass0 (pa_cons (pe_ix (ix_tupK (K := K) rfl) (pv 0) pe_int (fun _ _ => rfl)) pa_nil)))) (pw_or1 (pt_not (pt_val (pe_call ((ok_law_whole T).mono (by decide)) hr rfl T.m_law_whole T.F_law_whole.kp T.b_law_whole .nil pass0 (pa_cons (pe_ix (ix_tupK (K := K) rfl) (pv 0) pe_int (fun _ _ => rfl)) pa_nil))))))))) (pss_one (ps_ret pe_bl)) pss_nil)
      (pss_one (ps_ret (pe_and (pe_chain op_le op_lt pe_int (pe_ix (ix_tupK (K := K) rfl) (pv 0) pe_int (fun _ _ => rfl)) pe_int) (pe_one (pe_cmpR op_eq (pe_op op_add (pe_op op_mul (pe_ix (ix_tupK (K := K) rfl) (pv 0) pe_int (fun _ _ => rfl)) pe_int) (pe_ix (ix_tupK (K := K) rfl) (pv 0) pe_int (fun _ _ => rfl))) (pv 1) (nomark _))))))), ?_⟩
    refine ⟨_, rfl, _, _, _, _, rfl, TyOf.tup hp, rfl, _, rfl, iteF ?_⟩
    refine ⟨_, rfl, p, _, rfl, .inr (SqT.of hp), rfl, _, rfl, iteF ?_⟩
    refine ⟨_, rfl, p, _, _, _, rfl, rfl, SqT.of hp, rfl, _, rfl, _, rfl, iteF ?_⟩
    refine ⟨_, rfl, p, _, _, _, rfl, rfl, SqT.of hp, rfl, _, rfl, _, rfl, iteF ?_⟩
    refine ⟨_, rfl, p, _, _, _, rfl, rfl, SqT.of hp, rfl, _, _, rfl, rfl, _, rfl, ?_⟩
    rw [decide_eq_true m0]
    refine iteT ?_
    refine ⟨_, _, rfl, rfl, _, rfl, ?_⟩
    rw [decide_eq_true m1]
    refine iteT ?_
    refine ⟨_, rfl, p, _, _, _, rfl, rfl, SqT.of hp, rfl, _, _, rfl, rfl, .inr ⟨by decide, by decide⟩, _, rfl, p, _, _, _, rfl, rfl, SqT.of hp, rfl, _, _, rfl, rfl, _, rfl, rfl, ?_⟩
    rw [vint, decide_eq_true e]
    exact k
end
end K37

namespace K37
open PySem L2
section
variable {P : Program} {w : World} {K : PySem.W.Frag} {mg : Str → Option Value} {base : Heap} {a : Adr}
theorem sc_law_list_is : FnScope ["_law_found", "_law_due", "_law_k"] ["_law_found", "_law_due"] (defScope s_law_list_is) := ⟨rfl, rfl, rfl, by decide +kernel, rfl, by decide +kernel, by decide +kernel⟩

theorem ok_law_list_is (T : Txt K mg a) : FnOk P w K mg base CX0 true 2 a.f_law_list_is a.d_law_list_is ["_law_found", "_law_due"] (sp_law_list_is) := by
  refine T.F_law_list_is.ok sc_law_list_is (fun vs H Q E h => ?_) (fun cdv A outer s H vs Q E hr h => ?_)
  · obtain ⟨x, y, ns, rfl, _⟩ := h; rfl
  · obtain ⟨x, y, ns, rfl, hx, hy, hz, k⟩ := h
    refine ⟨_, (pss_cons (ps_if (PW.pt (pw_or (pt_not (pt_val (pe_callB (call_isinstK (K := K) rfl) rfl T.n_isinstance (by decide +kernel) (pa_cons (pv 0) (pa_cons (pe_bltn (v := .ty "list") rfl T.n_list (by decide +kernel) rfl) pa_nil))))) (pw_or1 (pt_cmpR op_ne (pe_callB (call_len_seqK (K := K) rfl) rfl T.n_len (by decide +kernel) (pa_cons (pv 0) pa_nil)) (pe_callB (call_len_seqK (K := K) rfl) rfl T.n_len (by decide +kernel) (pa_cons (pv 1) pa_nil)) (nomark _))))) (pss_one (ps_ret pe_bl)) pss_nil)
      (pss_cons (ps_for PassesOwn.never rfl (pi_range1 rfl T.n_range (pa_cons (pe_callB (call_len_seqK (K := K) rfl) rfl T.n_len (by decide +kernel) (pa_cons (pv 1) pa_nil)) pa_nil)) (pg_name (i := 2) sc_law_list_is.nd rfl (Or.inl rfl)) (pss_one (ps_if (PW.pt (pw_or (pt_not (pt_val (pe_call ((ok_law_whole T).mono (by decide)) hr rfl T.m_law_whole T.F_law_whole.kp T.b_law_whole .nil pass0 (pa_cons (pe_ix (ix_listK (K := K) rfl) (pv 0) (pv 2) (fun _ _ => rfl)) pa_nil)))) (pw_or1 (pt_cmpR op_ne (pe_ix (ix_listK (K := K) rfl) (pv 0) (pv 2) (fun _ _ => rfl)) (pe_ix (ix_listK (K := K) rfl) (pv 1) (pv 2) (fun _ _ => rfl)) (nomark _))))) (pss_one (ps_ret pe_bl)) pss_nil)))
      (pss_one (ps_ret pe_bl)))), ?_⟩
    refine ⟨_, rfl, _, _, _, _, rfl, TyOf.lst hx, rfl, _, rfl, iteF ?_⟩
    refine ⟨_, rfl, x, _, rfl, .inl (SqL.of hx), _, rfl, y, _, rfl, .inl (SqL.of hy), rfl, _, rfl, ?_⟩
    refine ite2 (fun z => absurd z (by simp)) (fun _ => ?_)
    refine ⟨_, rfl, y, _, rfl, .inl (SqL.of hy), (ns.length : Int), by rw [List.length_map], by omega, by omega, ?_⟩
    refine for_range (n := ns.length) (fun i σ H' => H' = H ∧ ∃ z, σ = [some (.ref x), some (.ref y), z]) ⟨rfl, _, rfl⟩ ?_ ?_
    · rintro i σ H1 hi ⟨rfl, z, rfl⟩
      obtain ⟨v, hv⟩ := int_get hi
      rw [show (0 : Int) + (i : Int) = ((i : Nat) : Int) by omega]
      refine ⟨_, rfl, _, rfl, x, _, _, _, rfl, rfl, SqL.of hx, atI_nat (ints_at hv), _, rfl, _, rfl, iteF ?_⟩
      refine ⟨_, rfl, _, rfl, x, _, _, _, rfl, rfl, SqL.of hx, atI_nat (ints_at hv), _, rfl, _, rfl, y, _, _, _, rfl, rfl, SqL.of hy, atI_nat (ints_at hv), rfl, _, rfl, ?_⟩
      exact ite2 (fun w => absurd w (by simp)) (fun _ => ⟨rfl, _, rfl⟩)
    · rintro σ H1 ⟨rfl, z, rfl⟩
      exact k
end
end K37

namespace K37
open PySem L2
section
variable {P : Program} {w : World} {K : PySem.W.Frag} {mg : Str → Option Value} {base : Heap} {a : Adr}
theorem sc_law_small : FnScope ["_law_cell", "_law_k"] ["_law_cell", "_law_k"] (defScope s_law_small) := ⟨rfl, rfl, rfl, by decide +kernel, rfl, by decide +kernel, by decide +kernel⟩

theorem ok_law_small (T : Txt K mg a) : FnOk P w K mg base CX0 true 2 a.f_law_small a.d_law_small ["_law_cell", "_law_k"] (sp_law_small) := by
  refine T.F_law_small.ok sc_law_small (fun vs H Q E h => ?_) (fun cdv A outer s H vs Q E hr h => ?_)
  · obtain ⟨c, k, rfl, _⟩ := h; rfl
  · obtain ⟨c, q, rfl, q0, q1, k⟩ := h
    refine ⟨_, (pss_one (ps_ret (pe_op op_add (pe_op op_mul pe_int (pe_op op_sub (pe_call ((ok_law_mixed T).mono (by decide)) hr rfl T.m_law_mixed T.F_law_mixed.kp T.b_law_mixed .nil pass0 (pa_cons (pv 0) (pa_cons (pv 1) (pa_cons pe_int pa_nil)))) pe_int)) (pe_op op_mul (pe_call ((ok_law_mixed T).mono (by decide)) hr rfl T.m_law_mixed T.F_law_mixed.kp T.b_law_mixed .nil pass0 (pa_cons (pv 0) (pa_cons (pe_op op_add (pv 1) pe_int) (pa_cons pe_int pa_nil)))) (pe_callTy call_int1 rfl T.n_int (by decide +kernel) (pa_cons (pe_cmpR op_eq (pe_call ((ok_law_mixed T).mono (by decide)) hr rfl T.m_law_mixed T.F_law_mixed.kp T.b_law_mixed .nil pass0 (pa_cons (pv 0) (pa_cons (pe_op op_add (pv 1) pe_int) (pa_cons pe_int pa_nil)))) pe_int (nomark _)) pa_nil)))))), ?_⟩
    refine ⟨_, rfl, _, rfl, _, _, _, rfl, by omega, by omega, by decide, fun v v0 v1 => ⟨_, _, rfl, rfl, _, _, rfl, rfl, .inl ⟨by decide, by decide⟩, ?_⟩⟩
    refine ⟨_, rfl, _, rfl, _, _, rfl, rfl, _, _, _, rfl, by omega, by omega, by decide, fun w w0 w1 => ?_⟩
    refine ⟨_, rfl, _, rfl, _, _, rfl, rfl, _, _, _, rfl, by omega, by omega, by decide, fun u u0 u1 => ⟨rfl, .inr ⟨_, rfl, ?_⟩⟩⟩
    refine ⟨_, _, rfl, rfl, .inl ⟨by omega, by omega⟩, _, _, rfl, rfl, ?_⟩
    refine k _ ?_ ?_
    · split <;> omega
    · split <;> omega
end
end K37

namespace K37
open PySem L2
section
variable {P : Program} {w : World} {K : PySem.W.Frag} {mg : Str → Option Value} {base : Heap} {a : Adr}
theorem sc_Place___init : FnScope ["self", "name", "offset", "changes"] ["self", "name", "offset", "changes"] (defScope s_Place___init) := ⟨rfl, rfl, rfl, by decide +kernel, rfl, by decide +kernel, by decide +kernel⟩

theorem ok_Place___init (T : Txt K mg a) : FnOk P w K mg base CX0 true 3 a.f_Place___init a.d_Place___init ["self", "name", "offset", "changes"] (sp_init a.x_Place) := by
  refine T.F_Place___init.ok sc_Place___init (fun vs H Q E h => ?_) (fun cdv A outer s H vs Q E hr h => ?_)
  · obtain ⟨x, dx, nm, o, v, cs, rfl, _⟩ := h; rfl
  · obtain ⟨x, dx, nm, o, v, cs, rfl, hx, hn, hnl, ho1, ho2, hb, hv, k⟩ := h
    refine ⟨_, (pss_cons (ps_if (pt_not (pt_val (pe_call ((ok_is_name T).mono (by decide)) hr rfl T.m_is_name T.F_is_name.kp T.b_is_name .nil pass0 (pa_cons (pv 1) pa_nil)))) (pss_one ps_never) pss_nil)
      (pss_cons (ps_expr (pe_call ((ok_check_offset T).mono (by decide)) hr rfl T.m_check_offset T.F_check_offset.kp T.b_check_offset .nil pass0 (pa_cons (pv 2) pa_nil)))
      (pss_cons (ps_fldK (K := K) rfl (pv 0) (pv 1))
      (pss_cons (ps_fldK (K := K) rfl (pv 0) (pv 2))
      (pss_cons (ps_fldK (K := K) rfl (pv 0) (pe_ifExp (pt_cmpR op_isN (pv 3) pe_non (nomark _)) (pe_tup pa_nil) (pe_callTy (call_tuple_ofK (K := K) rfl) rfl T.n_tuple (by decide +kernel) (pa_cons (pv 3) pa_nil))))
      (pss_cons (ps_expr (pe_call ((ok_check_changes T).mono (by decide)) hr rfl T.m_check_changes T.F_check_changes.kp T.b_check_changes .nil pass0 (pa_cons (pe_fldK (K := K) rfl (pv 0)) pa_nil)))
      (pss_one (ps_fldK (K := K) rfl (pv 0) (pe_callTy (call_tuple_ofK (K := K) rfl) rfl T.n_tuple (by decide +kernel) (pa_cons (pe_comp (N := ["moment", "later"]) (cap := [none, none]) (by show CompScope (defScope s_Place___init) _ ["self", "name", "offset", "changes"] _ _; exact ⟨rfl, by decide +kernel, by decide +kernel, by decide +kernel, by decide +kernel, rfl, by decide +kernel⟩) rfl (pi_tupK (K := K) rfl (pe_fldK (K := K) rfl (pv 0))) (fun C s H fp => ⟨(pg_tupK (K := K) (n := 2) rfl rfl (pgs_cons (pg_name (i := 0) (by show (["moment", "later"] : List Str).Nodup; decide +kernel) rfl (Or.inl rfl) (.inr rfl)) (pgs_cons (pg_name (i := 1) (by show (["moment", "later"] : List Str).Nodup; decide +kernel) rfl (Or.inl rfl) (.inr rfl)) pgs_nil))), pf_none, (pv 0)⟩)) pa_nil)))))))))), ?_⟩
    refine ⟨_, rfl, nm, rfl, hnl, fun H1 s1 => ⟨_, rfl, ?_⟩⟩
    rw [hn]
    refine iteF ?_
    refine ⟨_, rfl, _, rfl, ho1, ho2, ?_⟩
    refine ⟨_, rfl, _, rfl, x, _, dx, _, rfl, s1 _ _ hx, T.cl_Place, T.n_Place_name, (by show 0 < 1000; decide), ?_⟩
    rw [putf1]
    refine ⟨_, rfl, _, rfl, x, _, dx, _, rfl, upd_same, T.cl_Place, T.n_Place_offset, (by show 1 < 1000; decide), ?_⟩
    rw [putf2]
    have X2 : SameX x H (upd (upd H1 x (.ins a.x_Place dx [(sN, .str nm)])) x (.ins a.x_Place dx [(sN, .str nm), (sO, .int o)])) := fun b u hb e => by
      rw [upd_ne hb, upd_ne hb]
      exact s1 _ _ e
    rcases hv with ⟨rfl, rfl⟩ | ⟨ch, rfl, hch, hok⟩
    · refine ⟨_, rfl, rfl, _, rfl, ?_⟩
      refine ite2 (fun _ => ?_) (fun z => absurd (decide_eq_true rfl) z)
      refine ⟨by decide, fun ch hch => ?_⟩
      have nch : ch ≠ x := fun e => by rw [e, upd_same] at hch; cases hch
      refine ⟨_, rfl, x, _, dx, _, rfl, same_upd hch _ _ upd_same, T.cl_Place, T.n_Place_changes, (by show 2 < 1000; decide), ?_⟩
      rw [putf3]
      have f1 : (upd (upd (upd (upd H1 x (.ins a.x_Place dx [(sN, .str nm)])) x (.ins a.x_Place dx [(sN, .str nm), (sO, .int o)])) ch (.tup [])) x (.ins a.x_Place dx [(sN, .str nm), (sO, .int o), (sC, .ref ch)])) x = some (.ins a.x_Place dx [(sN, .str nm), (sO, .int o), (sC, .ref ch)]) := upd_same
      have f2 : (upd (upd (upd (upd H1 x (.ins a.x_Place dx [(sN, .str nm)])) x (.ins a.x_Place dx [(sN, .str nm), (sO, .int o)])) ch (.tup [])) x (.ins a.x_Place dx [(sN, .str nm), (sO, .int o), (sC, .ref ch)])) ch = some (.tup (refs [])) := by rw [upd_ne nch]; exact upd_same
      have f3 : RowOk (upd (upd (upd (upd H1 x (.ins a.x_Place dx [(sN, .str nm)])) x (.ins a.x_Place dx [(sN, .str nm), (sO, .int o)])) ch (.tup [])) x (.ins a.x_Place dx [(sN, .str nm), (sO, .int o), (sC, .ref ch)])) [] := RowOk.nil
      have f4 : SameX x H (upd (upd (upd (upd H1 x (.ins a.x_Place dx [(sN, .str nm)])) x (.ins a.x_Place dx [(sN, .str nm), (sO, .int o)])) ch (.tup [])) x (.ins a.x_Place dx [(sN, .str nm), (sO, .int o), (sC, .ref ch)])) := fun b u hb e => by
        rw [upd_ne hb]
        exact same_upd hch _ _ (X2 b u hb e)
      refine ⟨_, rfl, x, _, dx, _, _, rfl, f1, T.cl_Place, T.n_Place_changes, look_c3 _ _ _, ch, [], rfl, f2, f3, hb, ?_⟩
      refine ⟨_, rfl, x, _, dx, _, _, rfl, f1, T.cl_Place, T.n_Place_changes, look_c3 _ _ _, ch, rfl, ⟨_, SqT.of f2⟩, ?_⟩
      refine comp_pair (K := K) (seq_tup (SqT.of f2)) f3 (fun _ => true) (fun c => .int c.1) (by have := hb.2.1; omega) (fun y hy H' _ R hR => hR H' (Same.refl _)) (fun y hy _ H' _ R hR => ⟨_, rfl, hR H' (Same.refl _)⟩) (fun D H4 s4 hD0 hD => ?_)
      refine ⟨D, _, rfl, .inl ⟨SqL.of hD, fun ms hms => ?_⟩⟩
      rw [mom_vals]
      have g1 := s4 _ _ f1
      have g2 := s4 _ _ f2
      have nx : ms ≠ x := fun e => by rw [e, g1] at hms; cases hms
      refine ⟨_, rfl, x, _, dx, _, rfl, same_upd hms _ _ g1, T.cl_Place, T.n_Place_moments, (by show 3 < 1000; decide), ?_⟩
      rw [putf4]
      refine k ch ms _ (fun b u hb' e => ?_) ⟨⟨dx, upd_same⟩, ?_, fun y hy => ?_, ?_, hb.1, hb.2.1⟩
      · rw [upd_ne hb']
        exact same_upd hms _ _ (s4 _ _ (f4 b u hb' e))
      · rw [upd_ne nch]
        exact same_upd hms _ _ g2
      · have z := f3 y hy
        rw [upd_ne (fun e => by rw [e, f1] at z; cases z)]
        exact same_upd hms _ _ (s4 _ _ z)
      · rw [upd_ne nx]
        exact upd_same
    · refine ⟨_, rfl, rfl, _, rfl, ?_⟩
      refine ite2 (fun z => absurd (of_decide_eq_true z) (fun e => nomatch e)) (fun _ => ?_)
      have nch : ch ≠ x := fun e => by rw [e, hx] at hch; cases hch
      have e2 := X2 ch _ nch hch
      refine ⟨_, rfl, ch, _, rfl, .inr ⟨SqT.of e2, ?_⟩⟩
      refine ⟨_, rfl, x, _, dx, _, rfl, upd_same, T.cl_Place, T.n_Place_changes, (by show 2 < 1000; decide), ?_⟩
      rw [putf3]
      have f1 : (upd (upd (upd H1 x (.ins a.x_Place dx [(sN, .str nm)])) x (.ins a.x_Place dx [(sN, .str nm), (sO, .int o)])) x (.ins a.x_Place dx [(sN, .str nm), (sO, .int o), (sC, .ref ch)])) x = some (.ins a.x_Place dx [(sN, .str nm), (sO, .int o), (sC, .ref ch)]) := upd_same
      have f2 : (upd (upd (upd H1 x (.ins a.x_Place dx [(sN, .str nm)])) x (.ins a.x_Place dx [(sN, .str nm), (sO, .int o)])) x (.ins a.x_Place dx [(sN, .str nm), (sO, .int o), (sC, .ref ch)])) ch = some (.tup (refs cs)) := by rw [upd_ne nch]; exact e2
      have f3 : RowOk (upd (upd (upd H1 x (.ins a.x_Place dx [(sN, .str nm)])) x (.ins a.x_Place dx [(sN, .str nm), (sO, .int o)])) x (.ins a.x_Place dx [(sN, .str nm), (sO, .int o), (sC, .ref ch)])) cs := fun y hy => by
        have z := hok y hy
        have n : y.1 ≠ x := fun e => by rw [e, hx] at z; cases z
        rw [upd_ne n]
        exact X2 _ _ n z
      have f4 : SameX x H (upd (upd (upd H1 x (.ins a.x_Place dx [(sN, .str nm)])) x (.ins a.x_Place dx [(sN, .str nm), (sO, .int o)])) x (.ins a.x_Place dx [(sN, .str nm), (sO, .int o), (sC, .ref ch)])) := fun b u hb e => by
        rw [upd_ne hb]
        exact X2 b u hb e
      refine ⟨_, rfl, x, _, dx, _, _, rfl, f1, T.cl_Place, T.n_Place_changes, look_c3 _ _ _, ch, cs, rfl, f2, f3, hb, ?_⟩
      refine ⟨_, rfl, x, _, dx, _, _, rfl, f1, T.cl_Place, T.n_Place_changes, look_c3 _ _ _, ch, rfl, ⟨_, SqT.of f2⟩, ?_⟩
      refine comp_pair (K := K) (seq_tup (SqT.of f2)) f3 (fun _ => true) (fun c => .int c.1) (by have := hb.2.1; omega) (fun y hy H' _ R hR => hR H' (Same.refl _)) (fun y hy _ H' _ R hR => ⟨_, rfl, hR H' (Same.refl _)⟩) (fun D H4 s4 hD0 hD => ?_)
      refine ⟨D, _, rfl, .inl ⟨SqL.of hD, fun ms hms => ?_⟩⟩
      rw [mom_vals]
      have g1 := s4 _ _ f1
      have g2 := s4 _ _ f2
      have nx : ms ≠ x := fun e => by rw [e, g1] at hms; cases hms
      refine ⟨_, rfl, x, _, dx, _, rfl, same_upd hms _ _ g1, T.cl_Place, T.n_Place_moments, (by show 3 < 1000; decide), ?_⟩
      rw [putf4]
      refine k ch ms _ (fun b u hb' e => ?_) ⟨⟨dx, upd_same⟩, ?_, fun y hy => ?_, ?_, hb.1, hb.2.1⟩
      · rw [upd_ne hb']
        exact same_upd hms _ _ (s4 _ _ (f4 b u hb' e))
      · rw [upd_ne nch]
        exact same_upd hms _ _ g2
      · have z := f3 y hy
        rw [upd_ne (fun e => by rw [e, f1] at z; cases z)]
        exact same_upd hms _ _ (s4 _ _ z)
      · rw [upd_ne nx]
        exact upd_same
end
end K37

namespace K37
open PySem L2
section
variable {P : Program} {w : World} {K : PySem.W.Frag} {mg : Str → Option Value} {base : Heap} {a : Adr}
theorem sc_offset_at : FnScope ["place", "moment"] ["place", "moment"] (defScope s_offset_at) := ⟨rfl, rfl, rfl, by decide +kernel, rfl, by decide +kernel, by decide +kernel⟩

theorem ok_offset_at (T : Txt K mg a) : FnOk P w K mg base CX0 true 3 a.f_offset_at a.d_offset_at ["place", "moment"] (sp_offset_at a.x_Place) := by
  refine T.F_offset_at.ok sc_offset_at (fun vs H Q E h => ?_) (fun cdv A outer s H vs Q E hr h => ?_)
  · obtain ⟨x, nm, own, ch, ms, cs, m, rfl, _⟩ := h; rfl
  · obtain ⟨x, nm, own, ch, ms, cs, m, rfl, pl, k⟩ := h
    refine ⟨_, (pss_one (ps_ret (pe_call ((ok_offset_behind T).mono (by decide)) hr rfl T.m_offset_behind T.F_offset_behind.kp T.b_offset_behind .nil pass0 (pa_cons (pv 0) (pa_cons (pe_call ((ok_changes_until T).mono (by decide)) hr rfl T.m_changes_until T.F_changes_until.kp T.b_changes_until .nil pass0 (pa_cons (pv 0) (pa_cons (pv 1) pa_nil))) pa_nil))))), ?_⟩
    exact ⟨_, rfl, _, rfl, _, rfl, x, nm, own, ch, ms, cs, m, rfl, pl, x, nm, own, ch, ms, cs, _, rfl, pl, by rw [← sps_len]; exact DC.cnt_le _ _, k⟩
end
end K37

namespace K37
open PySem L2
section
variable {P : Program} {w : World} {K : PySem.W.Frag} {mg : Str → Option Value} {base : Heap} {a : Adr}
theorem sc_moments_of : FnScope ["place", "day", "minute", "local", "first", "last", "found", "many", "moment"] ["place", "day", "minute"] (defScope s_moments_of) := ⟨rfl, rfl, rfl, by decide +kernel, rfl, by decide +kernel, by decide +kernel⟩

theorem ok_moments_of (T : Txt K mg a) : FnOk P w K mg base CX0 true 3 a.f_moments_of a.d_moments_of ["place", "day", "minute"] (sp_moments_of a.x_Place) := by
  refine T.F_moments_of.ok sc_moments_of (fun vs H Q E h => ?_) (fun cdv A outer s H vs Q E hr h => ?_)
  · obtain ⟨x, nm, own, ch, ms, cs, d, m, rfl, _⟩ := h; rfl
  · obtain ⟨x, nm, own, ch, ms, cs, d, m, rfl, pl, hb, k⟩ := h
    refine ⟨_, (pss_cons (ps_set (i := 3) sc_moments_of.nd rfl (Or.inl rfl) (pe_op op_add (pe_op op_mul (pv 1) (pe_globI rfl T.g_DAY_MINUTES)) (pv 2)))
      (pss_cons (ps_set (i := 4) sc_moments_of.nd rfl (Or.inl rfl) (pe_call ((ok_changes_until T).mono (by decide)) hr rfl T.m_changes_until T.F_changes_until.kp T.b_changes_until .nil pass0 (pa_cons (pv 0) (pa_cons (pe_op op_sub (pv 3) (pe_globI rfl T.g_MOST_OFFSET)) pa_nil))))
      (pss_cons (ps_set (i := 5) sc_moments_of.nd rfl (Or.inl rfl) (pe_call ((ok_changes_until T).mono (by decide)) hr rfl T.m_changes_until T.F_changes_until.kp T.b_changes_until .nil pass0 (pa_cons (pv 0) (pa_cons (pe_op op_add (pv 3) (pe_globI rfl T.g_MOST_OFFSET)) pa_nil))))
      (pss_cons (ps_set (i := 6) sc_moments_of.nd rfl (Or.inl rfl) (pe_lst pa_nil))
      (pss_cons (ps_for PassesOwn.never rfl (pi_range2 rfl T.n_range (pa_cons (pv 4) (pa_cons (pe_op op_add (pv 5) pe_int) pa_nil))) (pg_name (i := 7) sc_moments_of.nd rfl (Or.inl rfl)) (pss_cons (ps_set (i := 8) sc_moments_of.nd rfl (Or.inl rfl) (pe_op op_sub (pv 3) (pe_call ((ok_offset_behind T).mono (by decide)) hr rfl T.m_offset_behind T.F_offset_behind.kp T.b_offset_behind .nil pass0 (pa_cons (pv 0) (pa_cons (pv 7) pa_nil)))))
      (pss_one (ps_if (pt_cmpR op_eq (pe_call ((ok_changes_until T).mono (by decide)) hr rfl T.m_changes_until T.F_changes_until.kp T.b_changes_until .nil pass0 (pa_cons (pv 0) (pa_cons (pv 8) pa_nil))) (pv 7) (nomark _)) (pss_one (ps_expr (pe_bm PySem.F.plainAttrs_list PySem.F.slot_list_append PySem.F.type_list_append mt_append (pv 6) (pa_cons (pv 8) pa_nil)))) pss_nil))))
      (pss_one (ps_ret (pv 6)))))))), ?_⟩
    refine ⟨_, rfl, _, _, rfl, rfl, .inr ⟨by decide, by decide⟩, _, rfl, _, _, rfl, rfl, ?_⟩
    refine ⟨_, rfl, _, rfl, _, _, rfl, rfl, x, nm, own, ch, ms, cs, _, rfl, pl, ?_⟩
    refine ⟨_, rfl, _, rfl, _, _, rfl, rfl, x, nm, own, ch, ms, cs, _, rfl, pl, ?_⟩
    refine ⟨by decide, fun F hF => ?_⟩
    have c1 := DC.cnt_le (sps cs) (d * 1440 + m - 900)
    have c2 := DC.cnt_le (sps cs) (d * 1440 + m + 900)
    have c3 := DC.cnt_mono (sps cs) (show d * 1440 + m - 900 ≤ d * 1440 + m + 900 by omega)
    have few := pl.few
    rw [sps_len] at c1 c2
    refine ⟨_, rfl, _, rfl, _, _, rfl, rfl, _, _, rfl, ⟨by omega, by omega, by omega, by omega⟩, ?_⟩
    refine for_range (fun i σ H' => Same H H' ∧ ∃ (ns : List Int) (y z : Option V), H' F = some (.lst (ns.map V.int)) ∧ DC.Got own (sps cs) (d * 1440 + m) ns (DC.cnt (sps cs) (d * 1440 + m - 900)) (DC.cnt (sps cs) (d * 1440 + m - 900) + i) ∧ σ = [some (.ref x), some (.int d), some (.int m), some (.int (d * 1440 + m)), some (.int (DC.cnt (sps cs) (d * 1440 + m - 900) : Nat)), some (.int (DC.cnt (sps cs) (d * 1440 + m + 900) : Nat)), some (.ref F), y, z]) ⟨same_upd hF, [], _, _, upd_same, DC.Got.nil _ _ _ _, rfl⟩ ?_ ?_
    · rintro i σ H1 hi ⟨s1, ns, y, z, hf, got, rfl⟩
      have pl1 := pl.up s1
      have e0 : ((DC.cnt (sps cs) (d * 1440 + m - 900) : Nat) : Int) + (i : Int) = ((DC.cnt (sps cs) (d * 1440 + m - 900) + i : Nat) : Int) := by omega
      rw [e0]
      refine ⟨_, rfl, _, rfl, _, rfl, x, nm, own, ch, ms, cs, _, rfl, pl1, by omega, _, _, rfl, rfl, ?_⟩
      refine ⟨_, rfl, _, rfl, x, nm, own, ch, ms, cs, _, rfl, pl1, _, rfl, rfl, _, rfl, ?_⟩
      rw [vint]
      refine ite2 (fun q => ?_) (fun q => ?_)
      · have q' : DC.cnt (sps cs) (d * 1440 + m - DC.off own (sps cs) (DC.cnt (sps cs) (d * 1440 + m - 900) + i)) = DC.cnt (sps cs) (d * 1440 + m - 900) + i := by
          have := of_decide_eq_true q
          omega
        refine ⟨_, rfl, .inl ⟨rfl, _, SqL.of hf⟩, _, rfl, F, _, _, rfl, rfl, hf, ?_, ?_⟩
        · rw [List.length_map]
          have := got.few
          exact Nat.lt_of_le_of_lt (by omega : ns.length ≤ 401) (by decide)
        · exact ⟨put_int s1 hF, _, _, _, by rw [upd_same, List.map_append]; rfl, got.add (Nat.le_add_right _ _) q', rfl⟩
      · have q' : ¬ DC.cnt (sps cs) (d * 1440 + m - DC.off own (sps cs) (DC.cnt (sps cs) (d * 1440 + m - 900) + i)) = DC.cnt (sps cs) (d * 1440 + m - 900) + i := fun w => q (decide_eq_true (by omega))
        exact ⟨s1, ns, _, _, hf, got.skip q', rfl⟩
    · rintro σ H1 ⟨s1, ns, y, z, hf, got, rfl⟩
      rw [show DC.cnt (sps cs) (d * 1440 + m - 900) + (((DC.cnt (sps cs) (d * 1440 + m + 900) : Nat) : Int) + 1 - ((DC.cnt (sps cs) (d * 1440 + m - 900) : Nat) : Int)).toNat = DC.cnt (sps cs) (d * 1440 + m + 900) + 1 by omega] at got
      refine ⟨_, rfl, k F H1 ns s1 hF hf got.rise (fun w => got.fin hb w) ?_⟩
      have := got.few
      omega
end
end K37

namespace K37
open PySem L2
section
variable {P : Program} {w : World} {K : PySem.W.Frag} {mg : Str → Option Value} {base : Heap} {a : Adr}
theorem sc_leap_over : FnScope ["place", "local", "first", "many", "moment", "ahead"] ["place", "local"] (defScope s_leap_over) := ⟨rfl, rfl, rfl, by decide +kernel, rfl, by decide +kernel, by decide +kernel⟩

theorem ok_leap_over (T : Txt K mg a) : FnOk P w K mg base CX0 true 3 a.f_leap_over a.d_leap_over ["place", "local"] (sp_leap_over a.x_Place) := by
  refine T.F_leap_over.ok sc_leap_over (fun vs H Q E h => ?_) (fun cdv A outer s H vs Q E hr h => ?_)
  · obtain ⟨x, nm, own, ch, ms, cs, l, rfl, _⟩ := h; rfl
  · obtain ⟨x, nm, own, ch, ms, cs, l, rfl, pl, hb, hno, k⟩ := h
    obtain ⟨dx, ob⟩ := pl.ob
    refine ⟨_, (pss_cons (ps_set (i := 2) sc_leap_over.nd rfl (Or.inl rfl) (pe_call ((ok_changes_until T).mono (by decide)) hr rfl T.m_changes_until T.F_changes_until.kp T.b_changes_until .nil pass0 (pa_cons (pv 0) (pa_cons (pe_op op_sub (pv 1) (pe_globI rfl T.g_MOST_OFFSET)) pa_nil))))
      (pss_cons (ps_for PassesOwn.never rfl (pi_range2 rfl T.n_range (pa_cons (pv 2) (pa_cons (pe_callB (call_len_seqK (K := K) rfl) rfl T.n_len (by decide +kernel) (pa_cons (pe_fldK (K := K) rfl (pv 0)) pa_nil)) pa_nil))) (pg_name (i := 3) sc_leap_over.nd rfl (Or.inl rfl)) (pss_cons (ps_set (i := 4) sc_leap_over.nd rfl (Or.inl rfl) (pe_ix (ix_tupK (K := K) rfl) (pe_fldK (K := K) rfl (pv 0)) (pv 3) (fun _ _ => rfl)))
      (pss_cons (ps_set (i := 5) sc_leap_over.nd rfl (Or.inl rfl) (pe_op op_add (pe_op op_sub (pv 4) pe_int) (pe_call ((ok_offset_behind T).mono (by decide)) hr rfl T.m_offset_behind T.F_offset_behind.kp T.b_offset_behind .nil pass0 (pa_cons (pv 0) (pa_cons (pv 3) pa_nil)))))
      (pss_one (ps_if (pt_chain op_lt op_lt (pv 5) (pv 1) (pe_op op_add (pv 4) (pe_call ((ok_offset_behind T).mono (by decide)) hr rfl T.m_offset_behind T.F_offset_behind.kp T.b_offset_behind .nil pass0 (pa_cons (pv 0) (pa_cons (pe_op op_add (pv 3) pe_int) pa_nil))))) (pss_one (ps_ret (pv 4))) pss_nil)))))
      (pss_one (ps_ret pe_non)))), ?_⟩
    refine ⟨_, rfl, _, rfl, _, _, rfl, rfl, x, nm, own, ch, ms, cs, _, rfl, pl, ?_⟩
    have c1 := DC.cnt_le (sps cs) (l - 900)
    have few := pl.few
    rw [sps_len] at c1
    have ml : ((DC.mom (sps cs)).map V.int).length = cs.length := by rw [List.length_map, DC.mom_len, sps_len]
    refine ⟨_, rfl, _, rfl, x, _, dx, _, _, rfl, ob, T.cl_Place, T.n_Place_moments, fl_ms _ _ _ _, ms, _, rfl, .inr (SqT.of pl.ms), _, _, rfl, ⟨by omega, by omega, by omega, by rw [ml]; omega⟩, ?_⟩
    rw [ml]
    refine for_range (fun i σ H' => H' = H ∧ (∀ (j : Nat) c, j < DC.cnt (sps cs) (l - 900) + i → ¬ DC.Leap own (sps cs) l j c) ∧ ∃ y z u, σ = [some (.ref x), some (.int l), some (.int (DC.cnt (sps cs) (l - 900) : Nat)), y, z, u]) ⟨rfl, fun j c hj => DC.leap_low pl.rise hb hj, _, _, _, rfl⟩ ?_ ?_
    · rintro i σ H1 hi ⟨rfl, low, y1, y2, y3, rfl⟩
      have e0 : ((DC.cnt (sps cs) (l - 900) : Nat) : Int) + (i : Int) = ((DC.cnt (sps cs) (l - 900) + i : Nat) : Int) := by omega
      rw [e0]
      obtain ⟨y, hy⟩ := rs_get (rs := cs) (i := DC.cnt (sps cs) (l - 900) + i) (by omega)
      have hys := sps_at hy
      refine ⟨_, rfl, x, _, dx, _, _, rfl, ob, T.cl_Place, T.n_Place_moments, fl_ms _ _ _ _, _, rfl, ms, _, _, _, rfl, rfl, SqT.of pl.ms, atI_nat (ints_at (DC.mom_at hys)), ?_⟩
      refine ⟨_, rfl, _, _, rfl, rfl, _, rfl, _, rfl, x, nm, own, ch, ms, cs, _, rfl, pl, by omega, _, _, rfl, rfl, ?_⟩
      refine ⟨_, rfl, _, rfl, _, _, rfl, rfl, _, rfl, ?_⟩
      refine ite2 (fun q => ?_) (fun q => ?_)
      · refine ⟨_, rfl, _, rfl, _, rfl, _, _, rfl, rfl, x, nm, own, ch, ms, cs, DC.cnt (sps cs) (l - 900) + i + 1, rfl, pl, by omega, _, _, rfl, rfl, _, _, rfl, rfl, _, rfl, ?_⟩
        rw [DC.off_succ hys]
        refine ite2 (fun q2 => ?_) (fun q2 => ?_)
        · exact ⟨_, rfl, k _ ⟨_, _, ⟨hys, of_decide_eq_true q, of_decide_eq_true q2⟩, rfl, low⟩⟩
        · refine ⟨rfl, fun j c hj => ?_, _, _, _, rfl⟩
          by_cases hj' : j < DC.cnt (sps cs) (l - 900) + i
          · exact low j c hj'
          · obtain rfl : j = DC.cnt (sps cs) (l - 900) + i := by omega
            rintro ⟨g1, _, g3⟩
            rw [hys] at g1
            cases g1
            exact q2 (decide_eq_true g3)
      · refine ⟨_, rfl, iteF ⟨rfl, fun j c hj => ?_, _, _, _, rfl⟩⟩
        by_cases hj' : j < DC.cnt (sps cs) (l - 900) + i
        · exact low j c hj'
        · obtain rfl : j = DC.cnt (sps cs) (l - 900) + i := by omega
          rintro ⟨g1, g2, _⟩
          rw [hys] at g1
          cases g1
          exact q (decide_eq_true g2)
    · rintro σ H1 ⟨rfl, low, y1, y2, y3, rfl⟩
      obtain ⟨j, c, lp⟩ := DC.leap_is pl.rise hb hno
      have hj : j < cs.length := by
        obtain ⟨z, _⟩ := List.getElem?_eq_some_iff.mp lp.1
        rw [sps_len] at z
        exact z
      exact absurd lp (low j c (by omega))
end
end K37

namespace K37
open PySem L2
section
variable {P : Program} {w : World} {K : PySem.W.Frag} {mg : Str → Option Value} {base : Heap} {a : Adr}
theorem sc_shown : FnScope ["place", "moment"] ["place", "moment"] (defScope s_shown) := ⟨rfl, rfl, rfl, by decide +kernel, rfl, by decide +kernel, by decide +kernel⟩

theorem ok_shown (T : Txt K mg a) : FnOk P w K mg base CX0 true 4 a.f_shown a.d_shown ["place", "moment"] (sp_shown a.x_Place) := by
  refine T.F_shown.ok sc_shown (fun vs H Q E h => ?_) (fun cdv A outer s H vs Q E hr h => ?_)
  · obtain ⟨x, nm, own, ch, ms, cs, m, rfl, _⟩ := h; rfl
  · obtain ⟨x, nm, own, ch, ms, cs, m, rfl, pl, k⟩ := h
    refine ⟨_, (pss_one (ps_ret (pe_callB call_divmod rfl T.n_divmod (by decide +kernel) (pa_cons (pe_op op_add (pv 1) (pe_call ((ok_offset_at T).mono (by decide)) hr rfl T.m_offset_at T.F_offset_at.kp T.b_offset_at .nil pass0 (pa_cons (pv 0) (pa_cons (pv 1) pa_nil)))) (pa_cons (pe_globI rfl T.g_DAY_MINUTES) pa_nil))))), ?_⟩
    exact ⟨_, rfl, _, rfl, _, rfl, x, nm, own, ch, ms, cs, m, rfl, pl, _, _, rfl, rfl, _, _, rfl, ⟨by decide, by decide⟩, fun p hp => k p _ (same_upd hp) hp upd_same⟩
end
end K37

namespace K37
open PySem L2
section
variable {P : Program} {w : World} {K : PySem.W.Frag} {mg : Str → Option Value} {base : Heap} {a : Adr}
theorem sc_moment_of : FnScope ["place", "day", "minute", "later", "found"] ["place", "day", "minute", "later"] (defScope s_moment_of) := ⟨rfl, rfl, rfl, by decide +kernel, rfl, by decide +kernel, by decide +kernel⟩

theorem ok_moment_of (T : Txt K mg a) : FnOk P w K mg base CX0 true 4 a.f_moment_of a.d_moment_of ["place", "day", "minute", "later"] (sp_moment_of a.x_Place) := by
  refine T.F_moment_of.ok sc_moment_of (fun vs H Q E h => ?_) (fun cdv A outer s H vs Q E hr h => ?_)
  · obtain ⟨x, nm, own, ch, ms, cs, d, m, b, rfl, _⟩ := h; rfl
  · obtain ⟨x, nm, own, ch, ms, cs, d, m, b, rfl, pl, hb, k⟩ := h
    refine ⟨_, (pss_cons (ps_set (i := 4) sc_moment_of.nd rfl (Or.inl rfl) (pe_call ((ok_moments_of T).mono (by decide)) hr rfl T.m_moments_of T.F_moments_of.kp T.b_moments_of .nil pass0 (pa_cons (pv 0) (pa_cons (pv 1) (pa_cons (pv 2) pa_nil)))))
      (pss_cons (ps_if (pt_not (pt_truth (pv 4) (fun _ => rfl))) (pss_one (ps_ret (pe_call ((ok_leap_over T).mono (by decide)) hr rfl T.m_leap_over T.F_leap_over.kp T.b_leap_over .nil pass0 (pa_cons (pv 0) (pa_cons (pe_op op_add (pe_op op_mul (pv 1) (pe_globI rfl T.g_DAY_MINUTES)) (pv 2)) pa_nil))))) pss_nil)
      (pss_one (ps_ret (pe_ifExp (pt_val (pv 3)) (pe_ix (ix_listK (K := K) rfl) (pv 4) (pe_un un_neg pe_int) (fun _ _ => rfl)) (pe_ix (ix_listK (K := K) rfl) (pv 4) pe_int (fun _ _ => rfl))))))), ?_⟩
    refine ⟨_, rfl, _, rfl, _, rfl, x, nm, own, ch, ms, cs, d, m, rfl, pl, hb, fun D H1 ns s1 hD0 hD hri hmem hz => ?_⟩
    refine ⟨_, rfl, _, .inl ⟨_, SqL.of hD, rfl⟩, ?_⟩
    refine ite2 (fun q => ?_) (fun q => ?_)
    · have e : ns = [] := by
        cases ns with
        | nil => rfl
        | cons a l => cases q
      refine ⟨_, rfl, _, rfl, _, _, rfl, rfl, .inr ⟨by decide, by decide⟩, _, rfl, _, _, rfl, rfl, x, nm, own, ch, ms, cs, _, rfl, pl.up s1, hb, fun z hz' => ?_, fun z hf => ?_⟩
      · have := (hmem z).mpr hz'
        rw [e] at this
        exact nomatch this
      · exact k z H1 s1 ⟨ns, hri, hmem, .inl ⟨e, hf⟩⟩
    · have e : ns ≠ [] := fun w => q (by rw [w]; rfl)
      refine ⟨_, rfl, _, rfl, ?_⟩
      refine ite2 (fun w => ?_) (fun w => ?_)
      · obtain ⟨z, z1, z2⟩ := last_at e
        refine ⟨_, rfl, _, rfl, D, _, _, _, rfl, rfl, SqL.of hD, z2, ?_⟩
        exact k z H1 s1 ⟨ns, hri, hmem, .inr ⟨e, by rw [if_pos w]; exact z1⟩⟩
      · obtain ⟨z, hz0⟩ := int_get (ns := ns) (i := 0) (List.length_pos_iff.mpr e)
        refine ⟨_, rfl, D, _, _, _, rfl, rfl, SqL.of hD, atI_nat (j := 0) (ints_at hz0), ?_⟩
        exact k z H1 s1 ⟨ns, hri, hmem, .inr ⟨e, by rw [if_neg w]; exact hz0⟩⟩
end
end K37

namespace K37
open PySem L2
section
variable {P : Program} {w : World} {K : PySem.W.Frag} {mg : Str → Option Value} {base : Heap} {a : Adr}
theorem sc_law_showing : FnScope ["_law_place", "_law_own", "_law_changes", "_law_first", "_law_many", "_law_by_local", "_law_moment", "_law_local"] ["_law_place", "_law_own", "_law_changes", "_law_first", "_law_many"] (defScope s_law_showing) := ⟨rfl, rfl, rfl, by decide +kernel, rfl, by decide +kernel, by decide +kernel⟩

theorem ok_law_showing (T : Txt K mg a) : FnOk P w K mg base CX0 true 5 a.f_law_showing a.d_law_showing ["_law_place", "_law_own", "_law_changes", "_law_first", "_law_many"] (sp_law_showing a.x_Place) := by
  refine T.F_law_showing.ok sc_law_showing (fun vs H Q E h => ?_) (fun cdv A outer s H vs Q E hr h => ?_)
  · obtain ⟨x, nm, own, ch, ms, p, cs, lo, n, rfl, _⟩ := h; rfl
  · obtain ⟨x, nm, own, ch, ms, p, cs, lo, n, rfl, pl, hp, hok, n0, n1, b0, b1, k⟩ := h
    refine ⟨_, (pss_cons (ps_set (i := 5) sc_law_showing.nd rfl (Or.inl rfl) pe_dnewK)
      (pss_cons (ps_for PassesOwn.never rfl (pi_range2 rfl T.n_range (pa_cons (pv 3) (pa_cons (pe_op op_add (pv 3) (pv 4)) pa_nil))) (pg_name (i := 6) sc_law_showing.nd rfl (Or.inl rfl)) (pss_cons (ps_set (i := 7) sc_law_showing.nd rfl (Or.inl rfl) (pe_op op_add (pv 6) (pe_call ((ok_law_offset_of T).mono (by decide)) hr rfl T.m_law_offset_of T.F_law_offset_of.kp T.b_law_offset_of .nil pass0 (pa_cons (pv 1) (pa_cons (pv 2) (pa_cons (pv 6) pa_nil))))))
      (pss_cons (ps_if (pt_not (pt_val (pe_call ((ok_law_pair_is T).mono (by decide)) hr rfl T.m_law_pair_is T.F_law_pair_is.kp T.b_law_pair_is .nil pass0 (pa_cons (pe_call ((ok_shown T).mono (by decide)) hr rfl T.m_shown T.F_shown.kp T.b_shown .nil pass0 (pa_cons (pv 0) (pa_cons (pv 6) pa_nil))) (pa_cons (pv 7) pa_nil))))) (pss_one ps_never) pss_nil)
      (pss_one (ps_dput (hu_of hr) (pv 5) (pv 7) (pe_op op_cat (pe_dget2 (hu_of hr) (pv 5) (pv 7) (pe_lst pa_nil) ⟨rfl, rfl, rfl, rfl⟩) (pe_lst (pa_cons (pv 6) pa_nil))) rfl)))))
      (pss_one (ps_ret (pv 5))))), ?_⟩
    refine fun d hd0 => ?_
    refine ⟨_, rfl, _, rfl, _, rfl, _, _, rfl, rfl, _, _, rfl, ⟨by omega, by omega, by omega, by omega⟩, ?_⟩
    refine for_range (fun i σ H' => Same H H' ∧ ∃ (kvs : List (Key × V)) (y z : Option V), kvs.length ≤ i ∧ H' d = some (.dK kvs) ∧ ByL own (sps cs) H' kvs lo (lo + (i : Int)) ∧ σ = [some (.ref x), some (.int own), some (.ref p), some (.int lo), some (.int n), some (.ref d), y, z]) ?_ ?_ ?_
    · refine ⟨same_upd hd0, [], _, _, Nat.le_refl _, upd_same, ?_, rfl⟩
      rw [show lo + ((0 : Nat) : Int) = lo by omega]
      exact ByL.nil
    · rintro i σ H1 hi ⟨s1, kvs, y, z, hkl, hd, by_, rfl⟩
      have hi' : i < 1000 := by omega
      refine ⟨_, rfl, _, rfl, _, rfl, _, rfl, own, _, p, cs, rfl, s1 _ _ hp, hok.up s1, pl.rise, by have := pl.few; omega, _, _, rfl, rfl, ?_⟩
      refine ⟨_, rfl, _, rfl, x, nm, own, ch, ms, cs, _, rfl, pl.up s1, fun q H2 s2 hq0 hq => ?_⟩
      refine ⟨_, rfl, q, _, _, _, rfl, hq, Int.emod_nonneg _ (by decide), Int.emod_lt_of_pos _ (by decide), pair_eq _, _, rfl, iteF ?_⟩
      refine ⟨_, rfl, d, rfl, .inl ⟨_, .inl (s2 _ _ hd)⟩, _, rfl, by decide, fun b1' hb1' => ?_⟩
      have U1 := s2.trans (same_upd (o := .lst []) hb1')
      refine ⟨_, DGet.k (k := Sum.inl (lo + (i : Int) + DC.offAt own (sps cs) (lo + (i : Int)))) (U1 _ _ hd), _, rfl, (by show 1 ≤ sizeLine; decide), fun b2 hb2 => ?_⟩
      rcases by_ (DC.At own (sps cs) (lo + (i : Int))) with ⟨g1, g2⟩ | ⟨a0, nsA, g1, g2, g3, g4, g5, g6⟩
      · have g1' : valV kvs (Sum.inl (lo + (i : Int) + DC.offAt own (sps cs) (lo + (i : Int)))) = none := g1
        rw [g1']
        have hA0 : (upd H2 b1' (.lst [])) b1' = some (.lst (([] : List Int).map V.int)) := upd_same
        have st := same_upd (o := .lst [.int (lo + (i : Int))]) hb2
        refine ⟨b1', b2, ([] : List Int).map V.int, [.int (lo + (i : Int))], rfl, rfl, st _ _ hA0, upd_same, ?_, fun b3 hb3 => ?_⟩
        · rw [List.length_map]
          exact Nat.le_trans (by have := hi'; show 0 + 1 ≤ 1001; omega) (by decide)
        have s3 := same_upd (o := .lst (([] : List Int).map V.int ++ [.int (lo + (i : Int))])) hb3
        have U2 := (U1.trans st).trans s3
        refine ⟨_, rfl, _, rfl, d, _, rfl, DPut.k (k := Sum.inl (lo + (i : Int) + DC.offAt own (sps cs) (lo + (i : Int)))) (U2 _ _ hd) ?_, ?_⟩
        · exact Nat.lt_of_le_of_lt (by omega : kvs.length ≤ 1000) (by decide)
        have hbd : b3 ≠ d := fun e => by rw [e, (U1.trans st) _ _ hd] at hb3; cases hb3
        refine ⟨fun c u e => ?_, _, _, _, by have := length_putK kvs (Sum.inl (lo + (i : Int) + DC.offAt own (sps cs) (lo + (i : Int)))) (V.ref b3); omega, upd_same, ?_, rfl⟩
        · rw [upd_ne (ne_of_none e hd0)]
          exact U2 _ _ (s1 _ _ e)
        · have e1 : lo + ((i + 1 : Nat) : Int) = lo + (i : Int) + 1 := by omega
          rw [e1]
          refine by_.step (ns := []) (by omega) (fun c xs e => ?_) ?_ (.inl ⟨g1, rfl⟩)
          · rw [upd_ne (fun z => by rw [z, hd] at e; cases e)]
            exact U2 _ _ e
          · rw [upd_ne hbd, upd_same, List.map_append]
            rfl
      · have g1' : valV kvs (Sum.inl (lo + (i : Int) + DC.offAt own (sps cs) (lo + (i : Int)))) = some (.ref a0) := g1
        rw [g1']
        have hA0 := U1 _ _ g2
        have st := same_upd (o := .lst [.int (lo + (i : Int))]) hb2
        refine ⟨a0, b2, nsA.map V.int, [.int (lo + (i : Int))], rfl, rfl, st _ _ hA0, upd_same, ?_, fun b3 hb3 => ?_⟩
        · rw [List.length_map]
          exact Nat.le_trans (by have := g5; show nsA.length + 1 ≤ 1001; omega) (by decide)
        have s3 := same_upd (o := .lst (nsA.map V.int ++ [.int (lo + (i : Int))])) hb3
        have U2 := (U1.trans st).trans s3
        refine ⟨_, rfl, _, rfl, d, _, rfl, DPut.k (k := Sum.inl (lo + (i : Int) + DC.offAt own (sps cs) (lo + (i : Int)))) (U2 _ _ hd) ?_, ?_⟩
        · exact Nat.lt_of_le_of_lt (by omega : kvs.length ≤ 1000) (by decide)
        have hbd : b3 ≠ d := fun e => by rw [e, (U1.trans st) _ _ hd] at hb3; cases hb3
        refine ⟨fun c u e => ?_, _, _, _, by have := length_putK kvs (Sum.inl (lo + (i : Int) + DC.offAt own (sps cs) (lo + (i : Int)))) (V.ref b3); omega, upd_same, ?_, rfl⟩
        · rw [upd_ne (ne_of_none e hd0)]
          exact U2 _ _ (s1 _ _ e)
        · have e1 : lo + ((i + 1 : Nat) : Int) = lo + (i : Int) + 1 := by omega
          rw [e1]
          refine by_.step (ns := nsA) (by omega) (fun c xs e => ?_) ?_ (.inr ⟨a0, g1, g2⟩)
          · rw [upd_ne (fun z => by rw [z, hd] at e; cases e)]
            exact U2 _ _ e
          · rw [upd_ne hbd, upd_same, List.map_append]
            rfl
    · rintro σ H1 ⟨s1, kvs, y, z, hkl, hd, by_, rfl⟩
      rw [show lo + (((lo + n - lo).toNat : Nat) : Int) = lo + n by omega] at by_
      exact ⟨_, rfl, k d H1 kvs s1 hd by_⟩
end
end K37

namespace K37
open PySem L2
section
variable {P : Program} {w : World} {K : PySem.W.Frag} {mg : Str → Option Value} {base : Heap} {a : Adr}
theorem sc_law : FnScope ["_law_script", "_law_own", "_law_at", "_law_begin", "_law_changes", "_law_k", "_law_wide", "_law_place", "_law_first", "_law_many", "_law_by_local", "_law_by_moment", "_law_step", "_law_local", "_law_day", "_law_minute", "_law_due"] ["_law_script"] (defScope s_law) := ⟨rfl, rfl, rfl, by decide +kernel, rfl, by decide +kernel, by decide +kernel⟩

theorem ok_law (T : Txt K mg a) : FnOk P w K mg base CX0 true 7 a.f_law a.d_law ["_law_script"] (sp_law K) := by
  refine T.F_law.ok sc_law (fun vs H Q E h => ?_) (fun cdv A outer s H vs Q E hr h => ?_)
  · obtain ⟨sa, ns, rfl, _⟩ := h; rfl
  · obtain ⟨sa, ns, rfl, hS, hlen, k⟩ := h
    refine ⟨_, (pss_cons (ps_set (i := 1) sc_law.nd rfl (Or.inr rfl) (pe_call ((ok_law_small T).mono (by decide)) hr rfl T.m_law_small T.F_law_small.kp T.b_law_small .nil pass0 (pa_cons (pe_call ((ok_law_cell_at T).mono (by decide)) hr rfl T.m_law_cell_at T.F_law_cell_at.kp T.b_law_cell_at .nil pass0 (pa_cons (pv 0) (pa_cons pe_int pa_nil))) (pa_cons pe_int pa_nil))))
      (pss_cons (ps_set (i := 2) sc_law.nd rfl (Or.inl rfl) (pe_op op_sub (pe_call ((ok_law_mixed T).mono (by decide)) hr rfl T.m_law_mixed T.F_law_mixed.kp T.b_law_mixed .nil pass0 (pa_cons (pe_call ((ok_law_cell_at T).mono (by decide)) hr rfl T.m_law_cell_at T.F_law_cell_at.kp T.b_law_cell_at .nil pass0 (pa_cons (pv 0) (pa_cons pe_int pa_nil))) (pa_cons pe_int (pa_cons pe_int pa_nil)))) pe_int))
      (pss_cons (ps_set (i := 3) sc_law.nd rfl (Or.inl rfl) (pv 2))
      (pss_cons (ps_set (i := 4) sc_law.nd rfl (Or.inr rfl) (pe_lst pa_nil))
      (pss_cons (ps_for PassesOwn.never rfl (pi_range1 rfl T.n_range (pa_cons (pe_op op_add pe_int (pe_op op_mod (pe_call ((ok_law_cell_at T).mono (by decide)) hr rfl T.m_law_cell_at T.F_law_cell_at.kp T.b_law_cell_at .nil pass0 (pa_cons (pv 0) (pa_cons pe_int pa_nil))) pe_int)) pa_nil)) (pg_name (i := 5) sc_law.nd rfl (Or.inl rfl)) (pss_cons (ps_set (i := 6) sc_law.nd rfl (Or.inl rfl) (pe_ix (ix_listK (K := K) rfl) (pe_lst (pa_lits [.int 3, .int 20, .int 60] (by decide +kernel))) (pe_call ((ok_law_mixed T).mono (by decide)) hr rfl T.m_law_mixed T.F_law_mixed.kp T.b_law_mixed .nil pass0 (pa_cons (pe_call ((ok_law_cell_at T).mono (by decide)) hr rfl T.m_law_cell_at T.F_law_cell_at.kp T.b_law_cell_at .nil pass0 (pa_cons (pv 0) (pa_cons pe_int pa_nil))) (pa_cons (pv 5) (pa_cons pe_int pa_nil)))) (fun _ _ => rfl)))
      (pss_cons (ps_set (i := 2) sc_law.nd rfl (Or.inl rfl) (pe_op op_add (pe_op op_add (pv 2) pe_int) (pe_call ((ok_law_mixed T).mono (by decide)) hr rfl T.m_law_mixed T.F_law_mixed.kp T.b_law_mixed .nil pass0 (pa_cons (pe_call ((ok_law_cell_at T).mono (by decide)) hr rfl T.m_law_cell_at T.F_law_cell_at.kp T.b_law_cell_at .nil pass0 (pa_cons (pv 0) (pa_cons pe_int pa_nil))) (pa_cons (pe_op op_add pe_int (pv 5)) (pa_cons (pv 6) pa_nil))))))
      (pss_one (ps_expr (pe_bm PySem.F.plainAttrs_list PySem.F.slot_list_append PySem.F.type_list_append mt_append (pv 4) (pa_cons (pe_tup (pa_cons (pv 2) (pa_cons (pe_call ((ok_law_small T).mono (by decide)) hr rfl T.m_law_small T.F_law_small.kp T.b_law_small .nil pass0 (pa_cons (pe_call ((ok_law_cell_at T).mono (by decide)) hr rfl T.m_law_cell_at T.F_law_cell_at.kp T.b_law_cell_at .nil pass0 (pa_cons (pv 0) (pa_cons pe_int pa_nil))) (pa_cons (pe_op op_add pe_int (pe_op op_mul pe_int (pv 5))) pa_nil))) pa_nil))) pa_nil)))))))
      (pss_cons (ps_set (i := 4) sc_law.nd rfl (Or.inr rfl) (pe_callTy (call_tuple_ofK (K := K) rfl) rfl T.n_tuple (by decide +kernel) (pa_cons (pv 4) pa_nil)))
      (pss_cons (ps_set (i := 7) sc_law.nd rfl (Or.inl rfl) (pe_make T.mk_Place ((ok_Place___init T).mono (by decide)) hr rfl T.m_Place T.b_Place___init .nil pass0 (pa_cons pe_str (pa_cons (pv 1) (pa_cons (pv 4) pa_nil)))))
      (pss_cons (ps_set (i := 8) sc_law.nd rfl (Or.inl rfl) (pe_op op_sub (pv 3) pe_int))
      (pss_cons (ps_set (i := 9) sc_law.nd rfl (Or.inl rfl) (pe_op op_add (pe_op op_sub (pv 2) (pv 3)) pe_int))
      (pss_cons (ps_set (i := 10) sc_law.nd rfl (Or.inl rfl) (pe_call ((ok_law_showing T).mono (by decide)) hr rfl T.m_law_showing T.F_law_showing.kp T.b_law_showing .nil pass0 (pa_cons (pv 7) (pa_cons (pv 1) (pa_cons (pv 4) (pa_cons (pv 8) (pa_cons (pv 9) pa_nil)))))))
      (pss_cons (ps_if (pt_cmpR op_isN (pv 10) pe_non (nomark _)) (pss_one ps_never) pss_nil)
      (pss_cons (ps_setComp (i0 := 11) sc_law.nd rfl rfl (N := ["_law_moment", "_law_own", "_law_changes"]) (cap := [none, some 1, some 4]) (by show CompScope (defScope s_law) _ ["_law_script", "_law_own", "_law_at", "_law_begin", "_law_changes", "_law_k", "_law_wide", "_law_place", "_law_first", "_law_many", "_law_by_local", "_law_by_moment", "_law_step", "_law_local", "_law_day", "_law_minute", "_law_due"] _ _; exact ⟨rfl, by decide +kernel, by decide +kernel, by decide +kernel, by decide +kernel, rfl, by decide +kernel⟩) rfl (pi_range2 rfl T.n_range (pa_cons (pv 8) (pa_cons (pe_op op_add (pv 8) (pv 9)) pa_nil))) (fun C s H fp => ⟨(pg_name (i := 0) (by show (["_law_moment", "_law_own", "_law_changes"] : List Str).Nodup; decide +kernel) rfl (Or.inl rfl) (.inr rfl)), pf_none, (pe_tup (pa_cons (pv 0) (pa_cons (pe_op op_add (pv 0) (pe_call ((ok_law_offset_of T).mono (by decide)) hr rfl T.m_law_offset_of T.F_law_offset_of.kp T.b_law_offset_of .nil pass0 (pa_cons (pv 1) (pa_cons (pv 2) (pa_cons (pv 0) pa_nil))))) pa_nil)))⟩))
      (pss_cons (ps_set (i := 12) sc_law.nd rfl (Or.inl rfl) (pe_op op_add pe_int (pe_op op_mod (pe_call ((ok_law_cell_at T).mono (by decide)) hr rfl T.m_law_cell_at T.F_law_cell_at.kp T.b_law_cell_at .nil pass0 (pa_cons (pv 0) (pa_cons pe_int pa_nil))) pe_int)))
      (pss_cons (ps_for PassesOwn.never rfl (pi_range3 rfl T.n_range (pa_cons (pe_op op_add (pe_op op_sub (pv 3) pe_int) (pe_op op_mod (pe_op op_fdiv (pe_call ((ok_law_cell_at T).mono (by decide)) hr rfl T.m_law_cell_at T.F_law_cell_at.kp T.b_law_cell_at .nil pass0 (pa_cons (pv 0) (pa_cons pe_int pa_nil))) pe_int) (pv 12))) (pa_cons (pe_op op_add (pv 2) pe_int) (pa_cons (pv 12) pa_nil)))) (pg_name (i := 13) sc_law.nd rfl (Or.inl rfl)) (pss_cons (ps_asg (pe_callB call_divmod rfl T.n_divmod (by decide +kernel) (pa_cons (pv 13) (pa_cons pe_int pa_nil))) (pg_tup rfl (pgs_cons (pg_name (i := 14) sc_law.nd rfl (Or.inl rfl)) (pgs_cons (pg_name (i := 15) sc_law.nd rfl (Or.inl rfl)) pgs_nil))))
      (pss_cons (ps_set (i := 16) sc_law.nd rfl (Or.inl rfl) (pe_dget2 (hu_of hr) (pv 10) (pv 13) (pe_lst pa_nil) ⟨rfl, rfl, rfl, rfl⟩))
      (pss_cons (ps_if (pt_not (pt_val (pe_call ((ok_law_list_is T).mono (by decide)) hr rfl T.m_law_list_is T.F_law_list_is.kp T.b_law_list_is .nil pass0 (pa_cons (pe_call ((ok_moments_of T).mono (by decide)) hr rfl T.m_moments_of T.F_moments_of.kp T.b_moments_of .nil pass0 (pa_cons (pv 7) (pa_cons (pv 14) (pa_cons (pv 15) pa_nil)))) (pa_cons (pv 16) pa_nil))))) (pss_one ps_never) pss_nil)
      (pss_cons (ps_if (pt_cmpR (op_eqNil (hu2 hr)) (pv 16) (pe_lst pa_nil) (nomark _)) (pss_one (ps_set (i := 16) sc_law.nd rfl (Or.inl rfl) (pe_lst (pa_cons (pe_call ((ok_law_leap T).mono (by decide)) hr rfl T.m_law_leap T.F_law_leap.kp T.b_law_leap .nil pass0 (pa_cons (pv 11) (pa_cons (pv 13) pa_nil))) pa_nil)))) pss_nil)
      (pss_one (ps_if (PW.pt (pw_or (pt_cmpR op_ne (pe_call ((ok_moment_of T).mono (by decide)) hr rfl T.m_moment_of T.F_moment_of.kp T.b_moment_of_1.choose_spec.1 T.b_moment_of_1.choose_spec.2 pass0 (pa_cons (pv 7) (pa_cons (pv 14) (pa_cons (pv 15) pa_nil)))) (pe_ix (ix_listK (K := K) rfl) (pv 16) pe_int (fun _ _ => rfl)) (nomark _)) (pw_or1 (pt_cmpR op_ne (pe_call ((ok_moment_of T).mono (by decide)) hr rfl T.m_moment_of T.F_moment_of.kp T.b_moment_of .nil pass0 (pa_cons (pv 7) (pa_cons (pv 14) (pa_cons (pv 15) (pa_cons pe_bl pa_nil))))) (pe_ix (ix_listK (K := K) rfl) (pv 16) (pe_un un_neg pe_int) (fun _ _ => rfl)) (nomark _))))) (pss_one ps_never) pss_nil)))))))
      (pss_one (ps_ret pe_bl)))))))))))))))), ?_⟩
    refine ⟨_, rfl, sa, ns, _, rfl, hS, by decide, fun c0 => ⟨_, _, rfl, by decide, by decide, fun own o1 o2 => ?_⟩⟩
    refine ⟨_, rfl, sa, ns, _, rfl, hS, by decide, fun c1 => ⟨_, _, _, rfl, by decide, by decide, by decide, fun v v0 v1 => ⟨_, _, rfl, rfl, ?_⟩⟩⟩
    refine ⟨_, rfl, ?_⟩
    refine ⟨by decide, fun R hR => ?_⟩
    have SS := same_upd (o := .lst []) hR
    refine ⟨_, rfl, sa, ns, _, rfl, SS.seq hS, by decide, fun c2 => ⟨_, _, rfl, rfl, (by show (0 : Int) < 5; decide), _, _, rfl, rfl, _, rfl, by omega, by omega, ?_⟩⟩
    refine for_range (n := (1 + c2 % 5).toNat) (fun i σ H' => Same H H' ∧ ∃ (at0 : Int) (rs : List RA) (y z : Option V), RowAt H' R rs ∧ DC.Rise (DC.mom (sps rs)) ∧ (∀ c ∈ sps rs, (v - 4000000) < c.1 ∧ c.1 ≤ at0) ∧ (∀ c ∈ sps rs, -130 ≤ c.2 ∧ c.2 ≤ 130) ∧ rs.length = i ∧ (v - 4000000) ≤ at0 ∧ at0 ≤ (v - 4000000) + 60 * (i : Int) ∧ σ = [some (.ref sa), some (.int own), some (.int at0), some (.int (v - 4000000)), some (.ref R), y, z, none, none, none, none, none, none, none, none, none, none]) ⟨SS, _, [], _, _, ⟨upd_same, RowOk.nil⟩, .nil, (fun _ h => nomatch h), (fun _ h => nomatch h), rfl, Int.le_refl _, by omega, rfl⟩ ?_ ?_
    · rintro i σ H1 hi ⟨s1, at0, rs, y, z, hrs, hri, htop, hof, hlen2, hat, hat2, rfl⟩
      refine ⟨by decide, fun l hl => ?_⟩
      have u1 := same_upd (o := .lst [.int 3, .int 20, .int 60]) hl
      replace SS := s1.trans u1
      refine ⟨_, rfl, sa, ns, _, rfl, SS.seq hS, by decide, fun c3 => ⟨_, rfl, _, _, _, rfl, by omega, by omega, by decide, fun w w0 w1 => ?_⟩⟩
      obtain ⟨wd, wd0, wd1, we⟩ := atI_pick (ts := [3, 20, 60]) (i := w) 3 60 w0 w1 (by decide)
      refine ⟨l, _, _, _, rfl, rfl, SqL.of upd_same, we, ?_⟩
      refine ⟨_, rfl, _, _, rfl, rfl, _, rfl, sa, ns, _, rfl, SS.seq hS, by decide, fun c4 => ⟨_, rfl, _, _, rfl, rfl, _, rfl, _, _, _, rfl, by omega, by omega, by omega, fun v2 a2 b2 => ⟨_, _, rfl, rfl, ?_⟩⟩⟩
      have hrs1 := hrs.up u1
      refine ⟨_, rfl, .inl ⟨rfl, _, SqL.of hrs1.1⟩, _, rfl, _, rfl, sa, ns, _, rfl, SS.seq hS, by decide, fun c5 => ⟨_, rfl, _, _, rfl, rfl, .inl ⟨by decide, by decide⟩, _, _, rfl, rfl, _, _, rfl, by omega, by omega, fun o o3 o4 => ⟨(by show 2 ≤ sizeLine; decide), fun t ht => ?_⟩⟩⟩
      have hR0 : H R = none := hR
      refine ⟨R, _, _, rfl, rfl, hrs1.at2 ht, by rw [refs_len]; exact Nat.lt_of_le_of_lt (by omega : rs.length ≤ 400) (by decide), ?_⟩
      refine ⟨fun b u e => ?_, at0 + 1 + v2, rs ++ [(t, at0 + 1 + v2, o)], _, _, hrs1.put ht, ?_, ?_, ?_, by rw [List.length_append, hlen2]; rfl, by omega, by omega, rfl⟩
      · rw [upd_ne (ne_of_none e hR0)]
        exact same_upd ht _ _ (SS _ _ e)
      · rw [sps_app]
        unfold DC.mom DC.Rise
        rw [List.map_append]
        refine List.pairwise_append.mpr ⟨hri, List.pairwise_singleton _ _, fun p hp q hq => ?_⟩
        obtain ⟨c', hc', rfl⟩ := List.mem_map.mp hp
        have := htop c' hc'
        simp only [List.map_cons, List.map_nil, List.mem_singleton] at hq
        omega
      · intro c' hc'
        rw [sps_app] at hc'
        rcases List.mem_append.mp hc' with h | h
        · have := htop c' h; omega
        · rw [List.mem_singleton] at h; subst h; exact ⟨by show v - 4000000 < at0 + 1 + v2; omega, Int.le_refl _⟩
      · intro c' hc'
        rw [sps_app] at hc'
        rcases List.mem_append.mp hc' with h | h
        · exact hof c' h
        · rw [List.mem_singleton] at h; subst h; exact ⟨o3, o4⟩
    rintro σ H1 ⟨s1, at0, cs, y, z, hrs, hri, htop, hof, hlen2, hat, hat2, rfl⟩
    have hcl : cs.length ≤ 5 := by omega
    have hat3 : at0 ≤ (v - 4000000) + 300 := by omega
    clear SS
    refine ⟨_, rfl, R, _, rfl, .inl ⟨SqL.of hrs.1, fun p hp => ?_⟩⟩
    have u2 := same_upd (o := .tup (refs cs)) hp
    have bds : Bds cs := ⟨hri, by omega, fun c hc => by have := hof c hc; omega⟩
    have bd : DC.Bd own (sps cs) := ⟨by omega, by omega, fun c hc => by have := hof c hc; omega⟩
    refine ⟨_, rfl, _, rfl, fun x0 dx nx ndx nex => ⟨x0, dx, "here", own, .ref p, cs, rfl, upd_same, by decide +kernel, by decide +kernel, by omega, by omega, bds, .inr ⟨p, rfl, (by rw [upd_ne (ne_of_none upd_same nx), upd_ne (ne_of_none upd_same ndx)]; exact upd_same), fun y hy => (by rw [upd_ne (ne_of_none (u2 _ _ (hrs.2 y hy)) nx), upd_ne (ne_of_none (u2 _ _ (hrs.2 y hy)) ndx)]; exact u2 _ _ (hrs.2 y hy))⟩, fun ch ms H3 sx pl => ⟨rfl, ?_⟩⟩⟩
    have s3 : Same (upd H1 p (.tup (refs cs))) H3 := fun b u e => sx b u (ne_of_none e nx) (by rw [upd_ne (ne_of_none e nx), upd_ne (ne_of_none e ndx)]; exact e)
    have p3 := s3 _ _ upd_same
    have ok3 := (hrs.2.up u2).up s3
    refine ⟨_, rfl, _, _, rfl, rfl, ?_⟩
    refine ⟨_, rfl, _, rfl, _, _, rfl, rfl, _, _, rfl, rfl, ?_⟩
    refine ⟨_, rfl, _, rfl, _, rfl, _, rfl, _, rfl, x0, "here", own, ch, ms, p, cs, _, _, rfl, pl, p3, ok3, by omega, by omega, by omega, by omega, fun d H4 kvs s4 hd by_ => ?_⟩
    refine ⟨_, rfl, rfl, _, rfl, ?_⟩
    refine ite2 (fun z => absurd (of_decide_eq_true z) (fun e => nomatch e)) (fun _ => ?_)
    refine ⟨_, rfl, _, rfl, _, rfl, _, _, rfl, rfl, _, _, rfl, ⟨by omega, by omega, by omega, by omega⟩, ?_⟩
    refine comp_mkrow (seq_range _ _ _) (pairF own (sps cs)) ?_ (fun x hx H' _ R hR => hR) ?_ (fun Bm H5 rs s5 hBm0 hBm hokB hspB => ?_)
    · rw [List.length_map, List.length_range]
      omega
    · intro x hx H' sm R hR
      obtain ⟨j, hj, rfl⟩ := List.mem_map.mp hx
      refine ⟨_, rfl, _, rfl, _, rfl, _, rfl, _, rfl, own, _, p, cs, rfl, sm _ _ (s4 _ _ p3), (ok3.up s4).up sm, hri, by omega, _, _, rfl, rfl, (by show 2 ≤ sizeLine; decide), fun b hb => ?_⟩
      exact hR b _ (same_upd hb) hb upd_same
    rw [pairF_range] at hspB
    have s45 := s4.trans s5
    have SS : Same H H5 := ((s1.trans u2).trans s3).trans s45
    refine ⟨_, rfl, sa, ns, _, rfl, SS.seq hS, by decide, fun c6 => ⟨_, _, rfl, rfl, (by show (0 : Int) < 5; decide), _, _, rfl, rfl, ?_⟩⟩
    have st0 : 2 ≤ 2 + c6 % 5 := by omega
    have st1 : 2 + c6 % 5 ≤ 6 := by omega
    refine ⟨_, rfl, _, _, rfl, rfl, _, rfl, sa, ns, _, rfl, SS.seq hS, by decide, fun c7 => ⟨_, _, rfl, rfl, ⟨by decide, by decide⟩, _, rfl, _, _, rfl, rfl, (by show (0 : Int) < 2 + c6 % 5; omega), _, _, rfl, rfl, _, rfl, _, _, rfl, rfl, _, rfl, _, _, _, rfl, ?bnd, (by show (0 : Int) < 2 + c6 % 5; omega), (by show 2 + c6 % 5 < 1000; omega), ?_⟩⟩
    case bnd =>
      have m0 : 0 ≤ c7 / 5 % (2 + c6 % 5) := Int.emod_nonneg _ (by omega)
      have m1 : c7 / 5 % (2 + c6 % 5) < 2 + c6 % 5 := Int.emod_lt_of_pos _ (by omega)
      exact ⟨by omega, by omega, by omega, by omega⟩
    have q0 : 0 ≤ c7 / 5 % (2 + c6 % 5) := Int.emod_nonneg _ (by omega)
    generalize c7 / 5 % (2 + c6 % 5) = qq at q0
    refine for_range3 (fun i σ H' => Same H5 H' ∧ ∃ y1 y2 y3 y4, σ = [some (.ref sa), some (.int own), some (.int at0), some (.int (v - 4000000)), some (.ref p), y, z, some (.ref x0), some (.int ((v - 4000000) - 260)), some (.int (at0 - (v - 4000000) + 520)), some (.ref d), some (.ref Bm), some (.int (2 + c6 % 5)), y1, y2, y3, y4]) ⟨Same.refl _, _, _, _, _, rfl⟩ ?_ (fun σ H' _ => k _)
    rintro i σ H6 hi ⟨s6, y1, y2, y3, y4, rfl⟩
    have lb := rs3 (by omega) hi
    generalize hl0 : v - 4000000 - 130 + qq + (i : Int) * (2 + c6 % 5) = l at lb
    have lb1 : (v - 4000000) - 130 ≤ l := by omega
    have lb2 : l < at0 + 130 := lb.2
    have pl6 := (pl.up s45).up s6
    have inr : ∀ m, DC.Sh own (sps cs) l m → (v - 4000000) - 260 ≤ m ∧ m < (v - 4000000) - 260 + (at0 - (v - 4000000) + 520) := fun m hm => by
      have := DC.offAt_in (B := 130) ⟨by omega, by omega⟩ (fun c hc => hof c hc) m
      unfold DC.Sh at hm
      omega
    refine ⟨_, rfl, _, _, rfl, ⟨by decide, by decide⟩, fun q hq => ?_⟩
    have s7 := same_upd (o := .tup [.int (l / 1440), .int (l % 1440)]) hq
    refine ⟨q, _, rfl, SqT.of upd_same, rfl, _, _, rfl, _, _, rfl, rfl, ?_⟩
    have s57 := s6.trans s7
    refine ⟨_, rfl, d, rfl, .inl ⟨_, .inl (s57 _ _ (s5 _ _ hd))⟩, _, rfl, by decide, fun e he => ⟨_, DGet.k (k := Sum.inl l) ((same_upd he) _ _ (s57 _ _ (s5 _ _ hd))), ?_⟩⟩
    have s8 := s57.trans (same_upd (o := .lst []) he)
    obtain ⟨Du, nsd, eDu, hDu, hrd, hmd, hld⟩ : ∃ (Du : Addr) (nsd : List Int), (valV kvs (Sum.inl l)).getD (V.ref e) = .ref Du ∧ (upd (upd H6 q (.tup [.int (l / 1440), .int (l % 1440)])) e (.lst [])) Du = some (.lst (nsd.map V.int)) ∧ DC.Rise nsd ∧ (∀ m, m ∈ nsd ↔ DC.Sh own (sps cs) l m) ∧ nsd.length ≤ 1000 := by
      rcases by_ l with ⟨g1, g2⟩ | ⟨a0, nsA, g1, g2, g3, g4, g5, g6⟩
      · refine ⟨e, [], by rw [g1]; rfl, upd_same, .nil, fun m => ⟨(fun z => nomatch z), fun z => ?_⟩, Nat.zero_le _⟩
        have := inr m z
        exact absurd z (g2 m this.1 this.2)
      · refine ⟨a0, nsA, by rw [g1]; rfl, s8 _ _ (s5 _ _ g2), g3, fun m => ?_, by omega⟩
        rw [g6 m]
        exact ⟨fun z => z.2.2, fun z => ⟨(inr m z).1, (inr m z).2, z⟩⟩
    rw [eDu]
    refine ⟨_, rfl, _, rfl, _, rfl, x0, "here", own, ch, ms, cs, _, _, rfl, pl6.up (s7.trans (same_upd he)), bd, fun D H9 ns9 s9 hD90 hD9 hri9 hmem9 hl9 => ?_⟩
    have en : ns9 = nsd := DC.rise_uniq hri9 hrd fun m => by rw [hmem9 m, pair_eq, hmd m]
    subst en
    refine ⟨_, rfl, D, Du, ns9, rfl, hD9, s9 _ _ hDu, by omega, _, rfl, iteF ?_⟩
    have s10 := s8.trans s9
    replace hDu := s9 _ _ hDu
    refine ⟨_, rfl, by decide, fun e2 he2 => ⟨Du, e2, _, rfl, rfl, same_upd he2 _ _ hDu, upd_same, _, rfl, ?_⟩⟩
    have s11 := s10.trans (same_upd (o := .lst []) he2)
    replace hDu := same_upd (o := .lst []) he2 _ _ hDu
    refine ite2 (fun hem => ?_) (fun hem => ?_)
    · have e0 : ns9 = [] := by
        cases ns9 with
        | nil => rfl
        | cons y r => cases hem
      have hno : ∀ m, ¬ DC.Sh own (sps cs) l m := fun m hm => by
        have := (hmd m).mpr hm
        rw [e0] at this
        exact nomatch this
      obtain ⟨z0, f0⟩ := DC.first_is (DC.leap_is hri bd hno)
      obtain ⟨c, hc, ec⟩ := DC.first_mem f0
      have hcb := htop c hc
      refine ⟨_, rfl, _, rfl, Bm, own, (v - 4000000) - 260, l, z0, sps cs, rs, _, rfl, s11 _ _ hBm, hokB.up s11, hspB, by omega, hri, f0, by omega, by omega, (by show 1 ≤ sizeLine; decide), fun Du2 hDu2 => ?_⟩
      have s12 := s11.trans (same_upd (o := .lst [.int z0]) hDu2)
      have hDu : (upd (upd H9 e2 (.lst [])) Du2 (.lst [.int z0])) Du2 = some (.lst (([z0] : List Int).map V.int)) := upd_same
      have told0 : ∀ z1, Told own (sps cs) l false z1 → ([z0] : List Int)[0]? = some z1 := fun z1 t => by rw [told_first hno f0 t]; rfl
      have told1 : ∀ z1, Told own (sps cs) l true z1 → atI (([z0] : List Int).map V.int) (-1) = some (.int z1) := fun z1 t => by rw [told_first hno f0 t]; rfl
      refine ⟨_, rfl, _, rfl, _, rfl, x0, "here", own, ch, ms, cs, _, _, false, rfl, ((pl.up s45).up s12), bd, fun z1 H8 s8 t1 => ?_⟩
      rw [pair_eq] at t1
      refine ⟨_, rfl, Du2, _, _, _, rfl, rfl, SqL.of (s8 _ _ hDu), atI_nat (j := 0) (ints_at (told0 z1 t1)), rfl, _, rfl, ?_⟩
      refine ite2 (fun w => absurd w (by simp)) (fun _ => ?_)
      refine ⟨_, rfl, _, rfl, _, rfl, x0, "here", own, ch, ms, cs, _, _, true, rfl, ((pl.up s45).up s12).up s8, bd, fun z2 H9 s9 t2 => ?_⟩
      rw [pair_eq] at t2
      refine ⟨_, rfl, _, rfl, Du2, _, _, _, rfl, rfl, SqL.of (s9 _ _ (s8 _ _ hDu)), told1 z2 t2, rfl, _, rfl, ?_⟩
      exact ite2 (fun w => absurd w (by simp)) (fun _ => ⟨((s12).trans s8).trans s9, _, _, _, _, rfl⟩)
    · have hne : ns9 ≠ [] := fun w => hem (by rw [w]; rfl)
      have told0 : ∀ z1, Told own (sps cs) l false z1 → ns9[0]? = some z1 := fun z1 t => told_at hrd hmd hne t
      have told1 : ∀ z1, Told own (sps cs) l true z1 → atI (ns9.map V.int) (-1) = some (.int z1) := fun z1 t => by
        obtain ⟨w, w1, w2⟩ := last_at hne
        have := told_at hrd hmd hne t
        rw [if_pos rfl, w1] at this
        rw [w2, Option.some.inj this]
      refine ⟨_, rfl, _, rfl, _, rfl, x0, "here", own, ch, ms, cs, _, _, false, rfl, ((pl.up s45).up s11), bd, fun z1 H8 s8 t1 => ?_⟩
      rw [pair_eq] at t1
      refine ⟨_, rfl, Du, _, _, _, rfl, rfl, SqL.of (s8 _ _ hDu), atI_nat (j := 0) (ints_at (told0 z1 t1)), rfl, _, rfl, ?_⟩
      refine ite2 (fun w => absurd w (by simp)) (fun _ => ?_)
      refine ⟨_, rfl, _, rfl, _, rfl, x0, "here", own, ch, ms, cs, _, _, true, rfl, ((pl.up s45).up s11).up s8, bd, fun z2 H9 s9 t2 => ?_⟩
      rw [pair_eq] at t2
      refine ⟨_, rfl, _, rfl, Du, _, _, _, rfl, rfl, SqL.of (s9 _ _ (s8 _ _ hDu)), told1 z2 t2, rfl, _, rfl, ?_⟩
      exact ite2 (fun w => absurd w (by simp)) (fun _ => ⟨((s11).trans s8).trans s9, _, _, _, _, rfl⟩)
end
end K37

namespace K37
open PySem L2
theorem txt_mk {K : PySem.W.Frag} {h : Heap} {mg : Str → Option Value} (X : K.In h) (G : h.Ns mainGlobals mg)
    {f_is_made_of : Addr} {oc_is_made_of kV_is_made_of dc_is_made_of pm_is_made_of cd_is_made_of ct_is_made_of : Value} {od_is_made_of an_is_made_of : Option Addr} {sl_is_made_of : Array (Option Value)}
    {f_count_below : Addr} {oc_count_below kV_count_below dc_count_below pm_count_below cd_count_below ct_count_below : Value} {od_count_below an_count_below : Option Addr} {sl_count_below : Array (Option Value)}
    {f_check_offset : Addr} {oc_check_offset kV_check_offset dc_check_offset pm_check_offset cd_check_offset ct_check_offset : Value} {od_check_offset an_check_offset : Option Addr} {sl_check_offset : Array (Option Value)}
    {f_offset_behind : Addr} {oc_offset_behind kV_offset_behind dc_offset_behind pm_offset_behind cd_offset_behind ct_offset_behind : Value} {od_offset_behind an_offset_behind : Option Addr} {sl_offset_behind : Array (Option Value)}
    {f_law_cell_at : Addr} {oc_law_cell_at kV_law_cell_at dc_law_cell_at pm_law_cell_at cd_law_cell_at ct_law_cell_at : Value} {od_law_cell_at an_law_cell_at : Option Addr} {sl_law_cell_at : Array (Option Value)}
    {f_law_whole : Addr} {oc_law_whole kV_law_whole dc_law_whole pm_law_whole cd_law_whole ct_law_whole : Value} {od_law_whole an_law_whole : Option Addr} {sl_law_whole : Array (Option Value)}
    {f_law_mixed : Addr} {oc_law_mixed kV_law_mixed dc_law_mixed pm_law_mixed cd_law_mixed ct_law_mixed : Value} {od_law_mixed an_law_mixed : Option Addr} {sl_law_mixed : Array (Option Value)}
    {f_law_offset_of : Addr} {oc_law_offset_of kV_law_offset_of dc_law_offset_of pm_law_offset_of cd_law_offset_of ct_law_offset_of : Value} {od_law_offset_of an_law_offset_of : Option Addr} {sl_law_offset_of : Array (Option Value)}
    {f_law_leap : Addr} {oc_law_leap kV_law_leap dc_law_leap pm_law_leap cd_law_leap ct_law_leap : Value} {od_law_leap an_law_leap : Option Addr} {sl_law_leap : Array (Option Value)}
    {f_is_name : Addr} {oc_is_name kV_is_name dc_is_name pm_is_name cd_is_name ct_is_name : Value} {od_is_name an_is_name : Option Addr} {sl_is_name : Array (Option Value)}
    {f_check_changes : Addr} {oc_check_changes kV_check_changes dc_check_changes pm_check_changes cd_check_changes ct_check_changes : Value} {od_check_changes an_check_changes : Option Addr} {sl_check_changes : Array (Option Value)}
    {f_changes_until : Addr} {oc_changes_until kV_changes_until dc_changes_until pm_changes_until cd_changes_until ct_changes_until : Value} {od_changes_until an_changes_until : Option Addr} {sl_changes_until : Array (Option Value)}
    {f_law_pair_is : Addr} {oc_law_pair_is kV_law_pair_is dc_law_pair_is pm_law_pair_is cd_law_pair_is ct_law_pair_is : Value} {od_law_pair_is an_law_pair_is : Option Addr} {sl_law_pair_is : Array (Option Value)}
    {f_law_list_is : Addr} {oc_law_list_is kV_law_list_is dc_law_list_is pm_law_list_is cd_law_list_is ct_law_list_is : Value} {od_law_list_is an_law_list_is : Option Addr} {sl_law_list_is : Array (Option Value)}
    {f_law_small : Addr} {oc_law_small kV_law_small dc_law_small pm_law_small cd_law_small ct_law_small : Value} {od_law_small an_law_small : Option Addr} {sl_law_small : Array (Option Value)}
    {f_Place___init : Addr} {oc_Place___init dV_Place___init kV_Place___init dc_Place___init pm_Place___init cd_Place___init ct_Place___init : Value} {od_Place___init an_Place___init : Option Addr} {sl_Place___init : Array (Option Value)}
    {x_Place : Addr}
    {t_Place___init : Addr} {ot_Place___init : Obj}  {nt_Place___init : Nat}
    {f_offset_at : Addr} {oc_offset_at kV_offset_at dc_offset_at pm_offset_at cd_offset_at ct_offset_at : Value} {od_offset_at an_offset_at : Option Addr} {sl_offset_at : Array (Option Value)}
    {f_moments_of : Addr} {oc_moments_of kV_moments_of dc_moments_of pm_moments_of cd_moments_of ct_moments_of : Value} {od_moments_of an_moments_of : Option Addr} {sl_moments_of : Array (Option Value)}
    {f_leap_over : Addr} {oc_leap_over kV_leap_over dc_leap_over pm_leap_over cd_leap_over ct_leap_over : Value} {od_leap_over an_leap_over : Option Addr} {sl_leap_over : Array (Option Value)}
    {f_shown : Addr} {oc_shown kV_shown dc_shown pm_shown cd_shown ct_shown : Value} {od_shown an_shown : Option Addr} {sl_shown : Array (Option Value)}
    {f_moment_of : Addr} {oc_moment_of dV_moment_of kV_moment_of dc_moment_of pm_moment_of cd_moment_of ct_moment_of : Value} {od_moment_of an_moment_of : Option Addr} {sl_moment_of : Array (Option Value)}
    {t_moment_of : Addr} {ot_moment_of : Obj}  {nt_moment_of : Nat}
    {f_law_showing : Addr} {oc_law_showing kV_law_showing dc_law_showing pm_law_showing cd_law_showing ct_law_showing : Value} {od_law_showing an_law_showing : Option Addr} {sl_law_showing : Array (Option Value)}
    {f_law : Addr} {oc_law kV_law dc_law pm_law cd_law ct_law : Value} {od_law an_law : Option Addr} {sl_law : Array (Option Value)}
    {t_DAY_MINUTES : Tok}
    {t_FIGURES : Tok}
    {t_LETTERS : Tok}
    {t_MOST_CHANGES : Tok}
    {t_MOST_OFFSET : Tok}
    {t_NAME_SIGNS : Tok}
    (a_is_made_of : PySem.W.nsIn K mainGlobals "is_made_of" = some (some (.ref f_is_made_of))) (l_is_made_of : K.lookup f_is_made_of = some ⟨oc_is_made_of, od_is_made_of, .func (PySem.W.fnOf "is_made_of" "is_made_of" (defArgs s_is_made_of) (defBody s_is_made_of) (defScope s_is_made_of) .none kV_is_made_of dc_is_made_of pm_is_made_of an_is_made_of cd_is_made_of ct_is_made_of), sl_is_made_of⟩) (e_is_made_of : PySem.W.codeIn K cd_is_made_of "is_made_of" = true) (k_is_made_of : PySem.W.keepIn K (.ref f_is_made_of) = true)
    (a_count_below : PySem.W.nsIn K mainGlobals "count_below" = some (some (.ref f_count_below))) (l_count_below : K.lookup f_count_below = some ⟨oc_count_below, od_count_below, .func (PySem.W.fnOf "count_below" "count_below" (defArgs s_count_below) (defBody s_count_below) (defScope s_count_below) .none kV_count_below dc_count_below pm_count_below an_count_below cd_count_below ct_count_below), sl_count_below⟩) (e_count_below : PySem.W.codeIn K cd_count_below "count_below" = true) (k_count_below : PySem.W.keepIn K (.ref f_count_below) = true)
    (a_check_offset : PySem.W.nsIn K mainGlobals "check_offset" = some (some (.ref f_check_offset))) (l_check_offset : K.lookup f_check_offset = some ⟨oc_check_offset, od_check_offset, .func (PySem.W.fnOf "check_offset" "check_offset" (defArgs s_check_offset) (defBody s_check_offset) (defScope s_check_offset) .none kV_check_offset dc_check_offset pm_check_offset an_check_offset cd_check_offset ct_check_offset), sl_check_offset⟩) (e_check_offset : PySem.W.codeIn K cd_check_offset "check_offset" = true) (k_check_offset : PySem.W.keepIn K (.ref f_check_offset) = true)
    (a_offset_behind : PySem.W.nsIn K mainGlobals "offset_behind" = some (some (.ref f_offset_behind))) (l_offset_behind : K.lookup f_offset_behind = some ⟨oc_offset_behind, od_offset_behind, .func (PySem.W.fnOf "offset_behind" "offset_behind" (defArgs s_offset_behind) (defBody s_offset_behind) (defScope s_offset_behind) .none kV_offset_behind dc_offset_behind pm_offset_behind an_offset_behind cd_offset_behind ct_offset_behind), sl_offset_behind⟩) (e_offset_behind : PySem.W.codeIn K cd_offset_behind "offset_behind" = true) (k_offset_behind : PySem.W.keepIn K (.ref f_offset_behind) = true)
    (a_law_cell_at : PySem.W.nsIn K mainGlobals "_law_cell_at" = some (some (.ref f_law_cell_at))) (l_law_cell_at : K.lookup f_law_cell_at = some ⟨oc_law_cell_at, od_law_cell_at, .func (PySem.W.fnOf "_law_cell_at" "_law_cell_at" (defArgs s_law_cell_at) (defBody s_law_cell_at) (defScope s_law_cell_at) .none kV_law_cell_at dc_law_cell_at pm_law_cell_at an_law_cell_at cd_law_cell_at ct_law_cell_at), sl_law_cell_at⟩) (e_law_cell_at : PySem.W.codeIn K cd_law_cell_at "_law_cell_at" = true) (k_law_cell_at : PySem.W.keepIn K (.ref f_law_cell_at) = true)
    (a_law_whole : PySem.W.nsIn K mainGlobals "_law_whole" = some (some (.ref f_law_whole))) (l_law_whole : K.lookup f_law_whole = some ⟨oc_law_whole, od_law_whole, .func (PySem.W.fnOf "_law_whole" "_law_whole" (defArgs s_law_whole) (defBody s_law_whole) (defScope s_law_whole) .none kV_law_whole dc_law_whole pm_law_whole an_law_whole cd_law_whole ct_law_whole), sl_law_whole⟩) (e_law_whole : PySem.W.codeIn K cd_law_whole "_law_whole" = true) (k_law_whole : PySem.W.keepIn K (.ref f_law_whole) = true)
    (a_law_mixed : PySem.W.nsIn K mainGlobals "_law_mixed" = some (some (.ref f_law_mixed))) (l_law_mixed : K.lookup f_law_mixed = some ⟨oc_law_mixed, od_law_mixed, .func (PySem.W.fnOf "_law_mixed" "_law_mixed" (defArgs s_law_mixed) (defBody s_law_mixed) (defScope s_law_mixed) .none kV_law_mixed dc_law_mixed pm_law_mixed an_law_mixed cd_law_mixed ct_law_mixed), sl_law_mixed⟩) (e_law_mixed : PySem.W.codeIn K cd_law_mixed "_law_mixed" = true) (k_law_mixed : PySem.W.keepIn K (.ref f_law_mixed) = true)
    (a_law_offset_of : PySem.W.nsIn K mainGlobals "_law_offset_of" = some (some (.ref f_law_offset_of))) (l_law_offset_of : K.lookup f_law_offset_of = some ⟨oc_law_offset_of, od_law_offset_of, .func (PySem.W.fnOf "_law_offset_of" "_law_offset_of" (defArgs s_law_offset_of) (defBody s_law_offset_of) (defScope s_law_offset_of) .none kV_law_offset_of dc_law_offset_of pm_law_offset_of an_law_offset_of cd_law_offset_of ct_law_offset_of), sl_law_offset_of⟩) (e_law_offset_of : PySem.W.codeIn K cd_law_offset_of "_law_offset_of" = true) (k_law_offset_of : PySem.W.keepIn K (.ref f_law_offset_of) = true)
    (a_law_leap : PySem.W.nsIn K mainGlobals "_law_leap" = some (some (.ref f_law_leap))) (l_law_leap : K.lookup f_law_leap = some ⟨oc_law_leap, od_law_leap, .func (PySem.W.fnOf "_law_leap" "_law_leap" (defArgs s_law_leap) (defBody s_law_leap) (defScope s_law_leap) .none kV_law_leap dc_law_leap pm_law_leap an_law_leap cd_law_leap ct_law_leap), sl_law_leap⟩) (e_law_leap : PySem.W.codeIn K cd_law_leap "_law_leap" = true) (k_law_leap : PySem.W.keepIn K (.ref f_law_leap) = true)
    (a_is_name : PySem.W.nsIn K mainGlobals "is_name" = some (some (.ref f_is_name))) (l_is_name : K.lookup f_is_name = some ⟨oc_is_name, od_is_name, .func (PySem.W.fnOf "is_name" "is_name" (defArgs s_is_name) (defBody s_is_name) (defScope s_is_name) .none kV_is_name dc_is_name pm_is_name an_is_name cd_is_name ct_is_name), sl_is_name⟩) (e_is_name : PySem.W.codeIn K cd_is_name "is_name" = true) (k_is_name : PySem.W.keepIn K (.ref f_is_name) = true)
    (a_check_changes : PySem.W.nsIn K mainGlobals "check_changes" = some (some (.ref f_check_changes))) (l_check_changes : K.lookup f_check_changes = some ⟨oc_check_changes, od_check_changes, .func (PySem.W.fnOf "check_changes" "check_changes" (defArgs s_check_changes) (defBody s_check_changes) (defScope s_check_changes) .none kV_check_changes dc_check_changes pm_check_changes an_check_changes cd_check_changes ct_check_changes), sl_check_changes⟩) (e_check_changes : PySem.W.codeIn K cd_check_changes "check_changes" = true) (k_check_changes : PySem.W.keepIn K (.ref f_check_changes) = true)
    (a_changes_until : PySem.W.nsIn K mainGlobals "changes_until" = some (some (.ref f_changes_until))) (l_changes_until : K.lookup f_changes_until = some ⟨oc_changes_until, od_changes_until, .func (PySem.W.fnOf "changes_until" "changes_until" (defArgs s_changes_until) (defBody s_changes_until) (defScope s_changes_until) .none kV_changes_until dc_changes_until pm_changes_until an_changes_until cd_changes_until ct_changes_until), sl_changes_until⟩) (e_changes_until : PySem.W.codeIn K cd_changes_until "changes_until" = true) (k_changes_until : PySem.W.keepIn K (.ref f_changes_until) = true)
    (a_law_pair_is : PySem.W.nsIn K mainGlobals "_law_pair_is" = some (some (.ref f_law_pair_is))) (l_law_pair_is : K.lookup f_law_pair_is = some ⟨oc_law_pair_is, od_law_pair_is, .func (PySem.W.fnOf "_law_pair_is" "_law_pair_is" (defArgs s_law_pair_is) (defBody s_law_pair_is) (defScope s_law_pair_is) .none kV_law_pair_is dc_law_pair_is pm_law_pair_is an_law_pair_is cd_law_pair_is ct_law_pair_is), sl_law_pair_is⟩) (e_law_pair_is : PySem.W.codeIn K cd_law_pair_is "_law_pair_is" = true) (k_law_pair_is : PySem.W.keepIn K (.ref f_law_pair_is) = true)
    (a_law_list_is : PySem.W.nsIn K mainGlobals "_law_list_is" = some (some (.ref f_law_list_is))) (l_law_list_is : K.lookup f_law_list_is = some ⟨oc_law_list_is, od_law_list_is, .func (PySem.W.fnOf "_law_list_is" "_law_list_is" (defArgs s_law_list_is) (defBody s_law_list_is) (defScope s_law_list_is) .none kV_law_list_is dc_law_list_is pm_law_list_is an_law_list_is cd_law_list_is ct_law_list_is), sl_law_list_is⟩) (e_law_list_is : PySem.W.codeIn K cd_law_list_is "_law_list_is" = true) (k_law_list_is : PySem.W.keepIn K (.ref f_law_list_is) = true)
    (a_law_small : PySem.W.nsIn K mainGlobals "_law_small" = some (some (.ref f_law_small))) (l_law_small : K.lookup f_law_small = some ⟨oc_law_small, od_law_small, .func (PySem.W.fnOf "_law_small" "_law_small" (defArgs s_law_small) (defBody s_law_small) (defScope s_law_small) .none kV_law_small dc_law_small pm_law_small an_law_small cd_law_small ct_law_small), sl_law_small⟩) (e_law_small : PySem.W.codeIn K cd_law_small "_law_small" = true) (k_law_small : PySem.W.keepIn K (.ref f_law_small) = true)
    (aC_Place : PySem.W.nsIn K mainGlobals "Place" = some (some (.ref x_Place)))
    (pg_Place : PySem.W.plainGet K x_Place Str.empty = true)
    (hd_Place : PySem.W.hasDictIn K x_Place = true)
    (po_Place : PySem.W.plainOver K x_Place = true)
    (sa_Place : PySem.W.findIn K (.ref x_Place) "__setattr__" = some (some (.builtin "object.__setattr__")))
    (mk_Place : PySem.W.makesIn K x_Place = true)
    (kc_Place : PySem.W.keepIn K (.ref x_Place) = true)
    (nf_name_Place : PySem.W.findIn K (.ref x_Place) "name" = some none)
    (nf_offset_Place : PySem.W.findIn K (.ref x_Place) "offset" = some none)
    (nf_changes_Place : PySem.W.findIn K (.ref x_Place) "changes" = some none)
    (nf_moments_Place : PySem.W.findIn K (.ref x_Place) "moments" = some none)
    (a_Place___init : PySem.W.findIn K (.ref x_Place) "__init__" = some (some (.ref f_Place___init))) (l_Place___init : K.lookup f_Place___init = some ⟨oc_Place___init, od_Place___init, .func (PySem.W.fnOf "__init__" "Place.__init__" (defArgs s_Place___init) (defBody s_Place___init) (defScope s_Place___init) dV_Place___init kV_Place___init dc_Place___init pm_Place___init an_Place___init cd_Place___init ct_Place___init), sl_Place___init⟩) (e_Place___init : PySem.W.codeIn K cd_Place___init "Place.__init__" = true) (k_Place___init : PySem.W.keepIn K (.ref f_Place___init) = true)
    (i_Place___init : PySem.W.isFn K (.ref f_Place___init) = true)
    (v_Place___init : dV_Place___init = .ref t_Place___init) (w_Place___init : K.lookup t_Place___init = some ot_Place___init) (x_Place___init : ot_Place___init.data = .seq #[.none] nt_Place___init)
    (a_offset_at : PySem.W.nsIn K mainGlobals "offset_at" = some (some (.ref f_offset_at))) (l_offset_at : K.lookup f_offset_at = some ⟨oc_offset_at, od_offset_at, .func (PySem.W.fnOf "offset_at" "offset_at" (defArgs s_offset_at) (defBody s_offset_at) (defScope s_offset_at) .none kV_offset_at dc_offset_at pm_offset_at an_offset_at cd_offset_at ct_offset_at), sl_offset_at⟩) (e_offset_at : PySem.W.codeIn K cd_offset_at "offset_at" = true) (k_offset_at : PySem.W.keepIn K (.ref f_offset_at) = true)
    (a_moments_of : PySem.W.nsIn K mainGlobals "moments_of" = some (some (.ref f_moments_of))) (l_moments_of : K.lookup f_moments_of = some ⟨oc_moments_of, od_moments_of, .func (PySem.W.fnOf "moments_of" "moments_of" (defArgs s_moments_of) (defBody s_moments_of) (defScope s_moments_of) .none kV_moments_of dc_moments_of pm_moments_of an_moments_of cd_moments_of ct_moments_of), sl_moments_of⟩) (e_moments_of : PySem.W.codeIn K cd_moments_of "moments_of" = true) (k_moments_of : PySem.W.keepIn K (.ref f_moments_of) = true)
    (a_leap_over : PySem.W.nsIn K mainGlobals "leap_over" = some (some (.ref f_leap_over))) (l_leap_over : K.lookup f_leap_over = some ⟨oc_leap_over, od_leap_over, .func (PySem.W.fnOf "leap_over" "leap_over" (defArgs s_leap_over) (defBody s_leap_over) (defScope s_leap_over) .none kV_leap_over dc_leap_over pm_leap_over an_leap_over cd_leap_over ct_leap_over), sl_leap_over⟩) (e_leap_over : PySem.W.codeIn K cd_leap_over "leap_over" = true) (k_leap_over : PySem.W.keepIn K (.ref f_leap_over) = true)
    (a_shown : PySem.W.nsIn K mainGlobals "shown" = some (some (.ref f_shown))) (l_shown : K.lookup f_shown = some ⟨oc_shown, od_shown, .func (PySem.W.fnOf "shown" "shown" (defArgs s_shown) (defBody s_shown) (defScope s_shown) .none kV_shown dc_shown pm_shown an_shown cd_shown ct_shown), sl_shown⟩) (e_shown : PySem.W.codeIn K cd_shown "shown" = true) (k_shown : PySem.W.keepIn K (.ref f_shown) = true)
    (a_moment_of : PySem.W.nsIn K mainGlobals "moment_of" = some (some (.ref f_moment_of))) (l_moment_of : K.lookup f_moment_of = some ⟨oc_moment_of, od_moment_of, .func (PySem.W.fnOf "moment_of" "moment_of" (defArgs s_moment_of) (defBody s_moment_of) (defScope s_moment_of) dV_moment_of kV_moment_of dc_moment_of pm_moment_of an_moment_of cd_moment_of ct_moment_of), sl_moment_of⟩) (e_moment_of : PySem.W.codeIn K cd_moment_of "moment_of" = true) (k_moment_of : PySem.W.keepIn K (.ref f_moment_of) = true)
    (v_moment_of : dV_moment_of = .ref t_moment_of) (w_moment_of : K.lookup t_moment_of = some ot_moment_of) (x_moment_of : ot_moment_of.data = .seq #[.bool false] nt_moment_of)
    (a_law_showing : PySem.W.nsIn K mainGlobals "_law_showing" = some (some (.ref f_law_showing))) (l_law_showing : K.lookup f_law_showing = some ⟨oc_law_showing, od_law_showing, .func (PySem.W.fnOf "_law_showing" "_law_showing" (defArgs s_law_showing) (defBody s_law_showing) (defScope s_law_showing) .none kV_law_showing dc_law_showing pm_law_showing an_law_showing cd_law_showing ct_law_showing), sl_law_showing⟩) (e_law_showing : PySem.W.codeIn K cd_law_showing "_law_showing" = true) (k_law_showing : PySem.W.keepIn K (.ref f_law_showing) = true)
    (a_law : PySem.W.nsIn K mainGlobals "law" = some (some (.ref f_law))) (l_law : K.lookup f_law = some ⟨oc_law, od_law, .func (PySem.W.fnOf "law" "law" (defArgs s_law) (defBody s_law) (defScope s_law) .none kV_law dc_law pm_law an_law cd_law ct_law), sl_law⟩) (e_law : PySem.W.codeIn K cd_law "law" = true) (k_law : PySem.W.keepIn K (.ref f_law) = true)
    (g_DAY_MINUTES : PySem.W.nsIn K mainGlobals "DAY_MINUTES" = some (some (.int 1440 t_DAY_MINUTES)))
    (g_FIGURES : PySem.W.nsIn K mainGlobals "FIGURES" = some (some (.str "0123456789" t_FIGURES)))
    (g_LETTERS : PySem.W.nsIn K mainGlobals "LETTERS" = some (some (.str "abcdefghijklmnopqrstuvwxyz" t_LETTERS)))
    (g_MOST_CHANGES : PySem.W.nsIn K mainGlobals "MOST_CHANGES" = some (some (.int 400 t_MOST_CHANGES)))
    (g_MOST_OFFSET : PySem.W.nsIn K mainGlobals "MOST_OFFSET" = some (some (.int 900 t_MOST_OFFSET)))
    (g_NAME_SIGNS : PySem.W.nsIn K mainGlobals "NAME_SIGNS" = some (some (.int 8 t_NAME_SIGNS)))
    (n_all : PySem.W.nsIn K mainGlobals "all" = some none)
    (n_bool : PySem.W.nsIn K mainGlobals "bool" = some none)
    (n_divmod : PySem.W.nsIn K mainGlobals "divmod" = some none)
    (n_int : PySem.W.nsIn K mainGlobals "int" = some none)
    (n_isinstance : PySem.W.nsIn K mainGlobals "isinstance" = some none)
    (n_len : PySem.W.nsIn K mainGlobals "len" = some none)
    (n_list : PySem.W.nsIn K mainGlobals "list" = some none)
    (n_range : PySem.W.nsIn K mainGlobals "range" = some none)
    (n_tuple : PySem.W.nsIn K mainGlobals "tuple" = some none) :
    ∃ a : Adr, Txt K mg a ∧ a.f_law = f_law ∧ ∀ (s : Shared) (v : Value), BindsTo s a.d_law ⟨[v], []⟩ [("_law_script", v)] := by
  have F_is_made_of := fun_mk (st := s_is_made_of) l_is_made_of e_is_made_of k_is_made_of
  have b_is_made_of := F_is_made_of.binds (ps := ["text", "signs"]) fun _ _ _ _ _ _ us hl => match us, hl with | [_, _], _ => rfl
  have F_count_below := fun_mk (st := s_count_below) l_count_below e_count_below k_count_below
  have b_count_below := F_count_below.binds (ps := ["days", "number"]) fun _ _ _ _ _ _ us hl => match us, hl with | [_, _], _ => rfl
  have F_check_offset := fun_mk (st := s_check_offset) l_check_offset e_check_offset k_check_offset
  have b_check_offset := F_check_offset.binds (ps := ["offset"]) fun _ _ _ _ _ _ us hl => match us, hl with | [_], _ => rfl
  have F_offset_behind := fun_mk (st := s_offset_behind) l_offset_behind e_offset_behind k_offset_behind
  have b_offset_behind := F_offset_behind.binds (ps := ["place", "many"]) fun _ _ _ _ _ _ us hl => match us, hl with | [_, _], _ => rfl
  have F_law_cell_at := fun_mk (st := s_law_cell_at) l_law_cell_at e_law_cell_at k_law_cell_at
  have b_law_cell_at := F_law_cell_at.binds (ps := ["_law_script", "_law_k"]) fun _ _ _ _ _ _ us hl => match us, hl with | [_, _], _ => rfl
  have F_law_whole := fun_mk (st := s_law_whole) l_law_whole e_law_whole k_law_whole
  have b_law_whole := F_law_whole.binds (ps := ["_law_found"]) fun _ _ _ _ _ _ us hl => match us, hl with | [_], _ => rfl
  have F_law_mixed := fun_mk (st := s_law_mixed) l_law_mixed e_law_mixed k_law_mixed
  have b_law_mixed := F_law_mixed.binds (ps := ["_law_cell", "_law_k", "_law_many"]) fun _ _ _ _ _ _ us hl => match us, hl with | [_, _, _], _ => rfl
  have F_law_offset_of := fun_mk (st := s_law_offset_of) l_law_offset_of e_law_offset_of k_law_offset_of
  have b_law_offset_of := F_law_offset_of.binds (ps := ["_law_own", "_law_changes", "_law_moment"]) fun _ _ _ _ _ _ us hl => match us, hl with | [_, _, _], _ => rfl
  have F_law_leap := fun_mk (st := s_law_leap) l_law_leap e_law_leap k_law_leap
  have b_law_leap := F_law_leap.binds (ps := ["_law_by_moment", "_law_local"]) fun _ _ _ _ _ _ us hl => match us, hl with | [_, _], _ => rfl
  have F_is_name := fun_mk (st := s_is_name) l_is_name e_is_name k_is_name
  have b_is_name := F_is_name.binds (ps := ["text"]) fun _ _ _ _ _ _ us hl => match us, hl with | [_], _ => rfl
  have F_check_changes := fun_mk (st := s_check_changes) l_check_changes e_check_changes k_check_changes
  have b_check_changes := F_check_changes.binds (ps := ["changes"]) fun _ _ _ _ _ _ us hl => match us, hl with | [_], _ => rfl
  have F_changes_until := fun_mk (st := s_changes_until) l_changes_until e_changes_until k_changes_until
  have b_changes_until := F_changes_until.binds (ps := ["place", "moment"]) fun _ _ _ _ _ _ us hl => match us, hl with | [_, _], _ => rfl
  have F_law_pair_is := fun_mk (st := s_law_pair_is) l_law_pair_is e_law_pair_is k_law_pair_is
  have b_law_pair_is := F_law_pair_is.binds (ps := ["_law_found", "_law_local"]) fun _ _ _ _ _ _ us hl => match us, hl with | [_, _], _ => rfl
  have F_law_list_is := fun_mk (st := s_law_list_is) l_law_list_is e_law_list_is k_law_list_is
  have b_law_list_is := F_law_list_is.binds (ps := ["_law_found", "_law_due"]) fun _ _ _ _ _ _ us hl => match us, hl with | [_, _], _ => rfl
  have F_law_small := fun_mk (st := s_law_small) l_law_small e_law_small k_law_small
  have b_law_small := F_law_small.binds (ps := ["_law_cell", "_law_k"]) fun _ _ _ _ _ _ us hl => match us, hl with | [_, _], _ => rfl
  subst v_Place___init
  have F_Place___init := funD_mk (st := s_Place___init) l_Place___init e_Place___init k_Place___init
  have b_Place___init : Binds K (PySem.W.fnOf "__init__" "Place.__init__" (defArgs s_Place___init) (defBody s_Place___init) (defScope s_Place___init) (.ref t_Place___init) kV_Place___init dc_Place___init pm_Place___init an_Place___init cd_Place___init ct_Place___init) ["self", "name", "offset", "changes"] [] := fun s us KX hl => match us, hl with | [_, _, _, _], _ => BindsTo.of_defaults rfl (KX _ _ w_Place___init) x_Place___init rfl rfl
  have F_offset_at := fun_mk (st := s_offset_at) l_offset_at e_offset_at k_offset_at
  have b_offset_at := F_offset_at.binds (ps := ["place", "moment"]) fun _ _ _ _ _ _ us hl => match us, hl with | [_, _], _ => rfl
  have F_moments_of := fun_mk (st := s_moments_of) l_moments_of e_moments_of k_moments_of
  have b_moments_of := F_moments_of.binds (ps := ["place", "day", "minute"]) fun _ _ _ _ _ _ us hl => match us, hl with | [_, _, _], _ => rfl
  have F_leap_over := fun_mk (st := s_leap_over) l_leap_over e_leap_over k_leap_over
  have b_leap_over := F_leap_over.binds (ps := ["place", "local"]) fun _ _ _ _ _ _ us hl => match us, hl with | [_, _], _ => rfl
  have F_shown := fun_mk (st := s_shown) l_shown e_shown k_shown
  have b_shown := F_shown.binds (ps := ["place", "moment"]) fun _ _ _ _ _ _ us hl => match us, hl with | [_, _], _ => rfl
  subst v_moment_of
  have F_moment_of := funD_mk (st := s_moment_of) l_moment_of e_moment_of k_moment_of
  have b_moment_of : Binds K (PySem.W.fnOf "moment_of" "moment_of" (defArgs s_moment_of) (defBody s_moment_of) (defScope s_moment_of) (.ref t_moment_of) kV_moment_of dc_moment_of pm_moment_of an_moment_of cd_moment_of ct_moment_of) ["place", "day", "minute", "later"] [] := fun s us KX hl => match us, hl with | [_, _, _, _], _ => BindsTo.of_defaults rfl (KX _ _ w_moment_of) x_moment_of rfl rfl
  have F_law_showing := fun_mk (st := s_law_showing) l_law_showing e_law_showing k_law_showing
  have b_law_showing := F_law_showing.binds (ps := ["_law_place", "_law_own", "_law_changes", "_law_first", "_law_many"]) fun _ _ _ _ _ _ us hl => match us, hl with | [_, _, _, _, _], _ => rfl
  have F_law := fun_mk (st := s_law) l_law e_law k_law
  have b_law := F_law.binds (ps := ["_law_script"]) fun _ _ _ _ _ _ us hl => match us, hl with | [_], _ => rfl
  exact ⟨{ f_is_made_of := f_is_made_of, d_is_made_of := _, f_count_below := f_count_below, d_count_below := _, f_check_offset := f_check_offset, d_check_offset := _, f_offset_behind := f_offset_behind, d_offset_behind := _, f_law_cell_at := f_law_cell_at, d_law_cell_at := _, f_law_whole := f_law_whole, d_law_whole := _, f_law_mixed := f_law_mixed, d_law_mixed := _, f_law_offset_of := f_law_offset_of, d_law_offset_of := _, f_law_leap := f_law_leap, d_law_leap := _, f_is_name := f_is_name, d_is_name := _, f_check_changes := f_check_changes, d_check_changes := _, f_changes_until := f_changes_until, d_changes_until := _, f_law_pair_is := f_law_pair_is, d_law_pair_is := _, f_law_list_is := f_law_list_is, d_law_list_is := _, f_law_small := f_law_small, d_law_small := _, f_Place___init := f_Place___init, d_Place___init := _, f_offset_at := f_offset_at, d_offset_at := _, f_moments_of := f_moments_of, d_moments_of := _, f_leap_over := f_leap_over, d_leap_over := _, f_shown := f_shown, d_shown := _, f_moment_of := f_moment_of, d_moment_of := _, f_law_showing := f_law_showing, d_law_showing := _, f_law := f_law, d_law := _, x_Place := x_Place }, ⟨F_is_made_of, PySem.W.mg_of X G a_is_made_of, b_is_made_of, F_count_below, PySem.W.mg_of X G a_count_below, b_count_below, F_check_offset, PySem.W.mg_of X G a_check_offset, b_check_offset, F_offset_behind, PySem.W.mg_of X G a_offset_behind, b_offset_behind, F_law_cell_at, PySem.W.mg_of X G a_law_cell_at, b_law_cell_at, F_law_whole, PySem.W.mg_of X G a_law_whole, b_law_whole, F_law_mixed, PySem.W.mg_of X G a_law_mixed, b_law_mixed, F_law_offset_of, PySem.W.mg_of X G a_law_offset_of, b_law_offset_of, F_law_leap, PySem.W.mg_of X G a_law_leap, b_law_leap, F_is_name, PySem.W.mg_of X G a_is_name, b_is_name, F_check_changes, PySem.W.mg_of X G a_check_changes, b_check_changes, F_changes_until, PySem.W.mg_of X G a_changes_until, b_changes_until, F_law_pair_is, PySem.W.mg_of X G a_law_pair_is, b_law_pair_is, F_law_list_is, PySem.W.mg_of X G a_law_list_is, b_law_list_is, F_law_small, PySem.W.mg_of X G a_law_small, b_law_small, F_Place___init, b_Place___init, F_offset_at, PySem.W.mg_of X G a_offset_at, b_offset_at, F_moments_of, PySem.W.mg_of X G a_moments_of, b_moments_of, F_leap_over, PySem.W.mg_of X G a_leap_over, b_leap_over, F_shown, PySem.W.mg_of X G a_shown, b_shown, F_moment_of, PySem.W.mg_of X G a_moment_of, b_moment_of, ⟨[.bool false], (fun s us KX hl => match us, (show us.length = 3 by rw [List.length_append] at hl; simpa using hl) with | [_, _, _], _ => BindsTo.of_defaults rfl (KX _ _ w_moment_of) x_moment_of rfl rfl), (.cons (rfl) .nil)⟩, F_law_showing, PySem.W.mg_of X G a_law_showing, b_law_showing, F_law, PySem.W.mg_of X G a_law, b_law, ⟨_, PySem.W.mg_of X G g_DAY_MINUTES⟩, ⟨_, PySem.W.mg_of X G g_FIGURES⟩, ⟨_, PySem.W.mg_of X G g_LETTERS⟩, ⟨_, PySem.W.mg_of X G g_MOST_CHANGES⟩, ⟨_, PySem.W.mg_of X G g_MOST_OFFSET⟩, ⟨_, PySem.W.mg_of X G g_NAME_SIGNS⟩, PySem.W.mg_of X G aC_Place, ⟨pg_Place, hd_Place, po_Place, sa_Place⟩, ⟨mk_Place, a_Place___init, i_Place___init, kc_Place⟩, nf_name_Place, nf_offset_Place, nf_changes_Place, nf_moments_Place, PySem.W.mg_none_of X G n_all, PySem.W.mg_none_of X G n_bool, PySem.W.mg_none_of X G n_divmod, PySem.W.mg_none_of X G n_int, PySem.W.mg_none_of X G n_isinstance, PySem.W.mg_none_of X G n_len, PySem.W.mg_none_of X G n_list, PySem.W.mg_none_of X G n_range, PySem.W.mg_none_of X G n_tuple⟩, rfl, fun s v => .of_eq rfl⟩
end K37
namespace K37
open PySem L2
theorem walk {l : PySem.W.OpenLaw} {q : Program} {loose : List Str} {XP : (Str → Option Value) → Heap → Prop} {YP : World → Heap → Prop} {d : DefRec} {K : Params → PySem.W.Frag} (hn : l.most = some 63) (hdf : d.params.defaults = [])
    (hY : ∀ (w : World) (h : Heap), YP w h → (K w.params).In h)
    (F : ∀ (w : World) (mg : Str → Option Value) (fa : Addr) (h : Heap), (K w.params).In h → h.Ns mainGlobals mg → mg d.name = some (.ref fa) →
      ∃ fd : FuncData, (∀ (s : Shared) (u : Value), BindsTo s fd ⟨[u], []⟩ [("_law_script", u)]) ∧ ∀ base : Heap, (K w.params).In base → base.Ns mainGlobals mg → FnOk l.prog w (K w.params) mg base CX0 true 7 fa fd ["_law_script"] (sp_law (K w.params))) :
    PySem.W.WalkO q loose XP YP l.row.toRowW d [] (fun f vs => PySem.call f vs) :=
  L2.walk_of (cm := true) (n := 63) (k := 7) (x := "_law_script") (CX := fun _ => CX0) (sp := fun w => sp_law (K w.params)) hn (by decide) hdf ⟨fun _ => rfl, by decide, by decide⟩ hY F (fun _ _ a ns hl _ hS => ⟨a, ns, rfl, hS, hl, fun _ => rfl⟩) fun _ _ _ _ _ z => z
theorem all_ok {l : PySem.W.OpenLaw} {w : World} {K : PySem.W.Frag} {mg : Str → Option Value} {fa f : Addr} (hfa : mg "law" = some (.ref fa))
    (h : ∃ a : Adr, Txt K mg a ∧ a.f_law = f ∧ ∀ (s : Shared) (v : Value), BindsTo s a.d_law ⟨[v], []⟩ [("_law_script", v)]) :
    ∃ fd : FuncData, (∀ (s : Shared) (u : Value), BindsTo s fd ⟨[u], []⟩ [("_law_script", u)]) ∧ ∀ base : Heap, K.In base → base.Ns mainGlobals mg → FnOk l.prog w K mg base CX0 true 7 fa fd ["_law_script"] (sp_law K) := by
  obtain ⟨a, T, _, hb⟩ := h
  have e := T.m_law
  rw [hfa] at e
  cases e
  exact ⟨a.d_law, hb, fun base _ _ => ok_law T⟩
end K37
open PySem PySem.W PyProof.Rows
set_option maxRecDepth 100000 in
set_option maxHeartbeats 0 in
theorem PySem.Challenge.cw_hourhouse_k37_whole_clock_walked_holds : PySem.Challenge.rw_hourhouse_k37_whole_clock_walked.Holds := by
  w_on; o_law; k_head; (case hw => w_witness2)
  k_fill
  refine K37.walk (l := PySem.Challenge.rw_hourhouse_k37_whole_clock_walked) rfl rfl (fun w h Y => PySem.W.kIn_of Y) ?F
  case F =>
    intro w mg fa h KX G hmg
    refine' K37.all_ok hmg (K37.txt_mk KX G ?a_is_made_of ?l_is_made_of ?e_is_made_of ?k_is_made_of ?a_count_below ?l_count_below ?e_count_below ?k_count_below ?a_check_offset ?l_check_offset ?e_check_offset ?k_check_offset ?a_offset_behind ?l_offset_behind ?e_offset_behind ?k_offset_behind ?a_law_cell_at ?l_law_cell_at ?e_law_cell_at ?k_law_cell_at ?a_law_whole ?l_law_whole ?e_law_whole ?k_law_whole ?a_law_mixed ?l_law_mixed ?e_law_mixed ?k_law_mixed ?a_law_offset_of ?l_law_offset_of ?e_law_offset_of ?k_law_offset_of ?a_law_leap ?l_law_leap ?e_law_leap ?k_law_leap ?a_is_name ?l_is_name ?e_is_name ?k_is_name ?a_check_changes ?l_check_changes ?e_check_changes ?k_check_changes ?a_changes_until ?l_changes_until ?e_changes_until ?k_changes_until ?a_law_pair_is ?l_law_pair_is ?e_law_pair_is ?k_law_pair_is ?a_law_list_is ?l_law_list_is ?e_law_list_is ?k_law_list_is ?a_law_small ?l_law_small ?e_law_small ?k_law_small ?aC_Place ?pg_Place ?hd_Place ?po_Place ?sa_Place ?mk_Place ?kc_Place ?nf_name_Place ?nf_offset_Place ?nf_changes_Place ?nf_moments_Place ?a_Place___init ?l_Place___init ?e_Place___init ?k_Place___init ?i_Place___init ?v_Place___init ?w_Place___init ?x_Place___init ?a_offset_at ?l_offset_at ?e_offset_at ?k_offset_at ?a_moments_of ?l_moments_of ?e_moments_of ?k_moments_of ?a_leap_over ?l_leap_over ?e_leap_over ?k_leap_over ?a_shown ?l_shown ?e_shown ?k_shown ?a_moment_of ?l_moment_of ?e_moment_of ?k_moment_of ?v_moment_of ?w_moment_of ?x_moment_of ?a_law_showing ?l_law_showing ?e_law_showing ?k_law_showing ?a_law ?l_law ?e_law ?k_law ?g_DAY_MINUTES ?g_FIGURES ?g_LETTERS ?g_MOST_CHANGES ?g_MOST_OFFSET ?g_NAME_SIGNS ?n_all ?n_bool ?n_divmod ?n_int ?n_isinstance ?n_len ?n_list ?n_range ?n_tuple)
    (case a_is_made_of => k_is)
    (case l_is_made_of => k_is)
    (case e_is_made_of => k_is)
    (case k_is_made_of => k_is)
    (case a_count_below => k_is)
    (case l_count_below => k_is)
    (case e_count_below => k_is)
    (case k_count_below => k_is)
    (case a_check_offset => k_is)
    (case l_check_offset => k_is)
    (case e_check_offset => k_is)
    (case k_check_offset => k_is)
    (case a_offset_behind => k_is)
    (case l_offset_behind => k_is)
    (case e_offset_behind => k_is)
    (case k_offset_behind => k_is)
    (case a_law_cell_at => k_is)
    (case l_law_cell_at => k_is)
    (case e_law_cell_at => k_is)
    (case k_law_cell_at => k_is)
    (case a_law_whole => k_is)
    (case l_law_whole => k_is)
    (case e_law_whole => k_is)
    (case k_law_whole => k_is)
    (case a_law_mixed => k_is)
    (case l_law_mixed => k_is)
    (case e_law_mixed => k_is)
    (case k_law_mixed => k_is)
    (case a_law_offset_of => k_is)
    (case l_law_offset_of => k_is)
    (case e_law_offset_of => k_is)
    (case k_law_offset_of => k_is)
    (case a_law_leap => k_is)
    (case l_law_leap => k_is)
    (case e_law_leap => k_is)
    (case k_law_leap => k_is)
    (case a_is_name => k_is)
    (case l_is_name => k_is)
    (case e_is_name => k_is)
    (case k_is_name => k_is)
    (case a_check_changes => k_is)
    (case l_check_changes => k_is)
    (case e_check_changes => k_is)
    (case k_check_changes => k_is)
    (case a_changes_until => k_is)
    (case l_changes_until => k_is)
    (case e_changes_until => k_is)
    (case k_changes_until => k_is)
    (case a_law_pair_is => k_is)
    (case l_law_pair_is => k_is)
    (case e_law_pair_is => k_is)
    (case k_law_pair_is => k_is)
    (case a_law_list_is => k_is)
    (case l_law_list_is => k_is)
    (case e_law_list_is => k_is)
    (case k_law_list_is => k_is)
    (case a_law_small => k_is)
    (case l_law_small => k_is)
    (case e_law_small => k_is)
    (case k_law_small => k_is)
    (case aC_Place => k_is)
    (case pg_Place => k_is)
    (case hd_Place => k_is)
    (case po_Place => k_is)
    (case sa_Place => k_is)
    (case mk_Place => k_is)
    (case kc_Place => k_is)
    (case nf_name_Place => k_is)
    (case nf_offset_Place => k_is)
    (case nf_changes_Place => k_is)
    (case nf_moments_Place => k_is)
    (case a_Place___init => k_is)
    (case l_Place___init => k_is)
    (case e_Place___init => k_is)
    (case k_Place___init => k_is)
    (case i_Place___init => k_is)
    (case v_Place___init => rfl)
    (case w_Place___init => k_is)
    (case x_Place___init => rfl)
    (case a_offset_at => k_is)
    (case l_offset_at => k_is)
    (case e_offset_at => k_is)
    (case k_offset_at => k_is)
    (case a_moments_of => k_is)
    (case l_moments_of => k_is)
    (case e_moments_of => k_is)
    (case k_moments_of => k_is)
    (case a_leap_over => k_is)
    (case l_leap_over => k_is)
    (case e_leap_over => k_is)
    (case k_leap_over => k_is)
    (case a_shown => k_is)
    (case l_shown => k_is)
    (case e_shown => k_is)
    (case k_shown => k_is)
    (case a_moment_of => k_is)
    (case l_moment_of => k_is)
    (case e_moment_of => k_is)
    (case k_moment_of => k_is)
    (case v_moment_of => rfl)
    (case w_moment_of => k_is)
    (case x_moment_of => rfl)
    (case a_law_showing => k_is)
    (case l_law_showing => k_is)
    (case e_law_showing => k_is)
    (case k_law_showing => k_is)
    (case a_law => k_is)
    (case l_law => k_is)
    (case e_law => k_is)
    (case k_law => k_is)
    (case g_DAY_MINUTES => k_is)
    (case g_FIGURES => k_is)
    (case g_LETTERS => k_is)
    (case g_MOST_CHANGES => k_is)
    (case g_MOST_OFFSET => k_is)
    (case g_NAME_SIGNS => k_is)
    (case n_all => k_is)
    (case n_bool => k_is)
    (case n_divmod => k_is)
    (case n_int => k_is)
    (case n_isinstance => k_is)
    (case n_len => k_is)
    (case n_list => k_is)
    (case n_range => k_is)
    (case n_tuple => k_is)


