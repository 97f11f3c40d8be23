import PyProof.Rows.All
import Wide.All
import OpenK.AllK
import Wide.FinOn
import Lean
import PyProof.EqAt
import PyProof.EqKinds
import PyProof.TupleCall
import PySem.Challenge.RW_hourhouse_k81_moments_as_texts
set_option Elab.async false
set_option genInjectivity false
set_option genSizeOf false
set_option linter.all false
set_option maxRecDepth 100000
/-! THE HAND LAYER, for ints, bools, texts, own classes, LISTS and tuples (index, slices, in, append, pop ..), calls, loops. Paste it whole ahead of your own text; what your proof does not reach may be deleted. -/
namespace L2
open PySem PySem.Spec PyProof.Rows

/-- a key: an int or a str -/
abbrev Key := Sum Int Str
def keyIs : Key → Value → Bool
  | .inl k, v => Value.isInt k v
  | .inr x, v => Value.isStrOf x v
def keyH (w : World) : Key → Int
  | .inl k => hashInt k
  | .inr x => hashStr w x
theorem keyIs_shape : ∀ {k : Key} {v : Value}, keyIs k v = true → (∃ i t, k = Sum.inl i ∧ v = Value.int i t) ∨ (∃ x t, k = Sum.inr x ∧ v = Value.str x t)
  | .inl i, v, h => by
    obtain ⟨t, e⟩ := Value.isInt_shape (k := i) (v := v) h
    exact .inl ⟨i, t, rfl, e⟩
  | .inr x, v, h => by
    obtain ⟨t, e⟩ := Value.isStrOf_shape (x := x) (v := v) h
    exact .inr ⟨x, t, rfl, e⟩
theorem key_ll (a b : Int) : decide ((Sum.inl a : Key) = Sum.inl b) = (a == b) := by
  by_cases e : a = b
  · subst e; simp
  · have h : ¬ (Sum.inl a : Key) = Sum.inl b := fun q => e (Sum.inl.inj q)
    rw [decide_eq_false h]
    exact (beq_eq_false_iff_ne.mpr e).symm
theorem key_rr (a b : Str) : decide ((Sum.inr a : Key) = Sum.inr b) = decide (a = b) := by
  by_cases e : a = b
  · subst e; simp
  · have h : ¬ (Sum.inr a : Key) = Sum.inr b := fun q => e (Sum.inr.inj q)
    rw [decide_eq_false h, decide_eq_false e]
theorem key_lr (a : Int) (b : Str) : decide ((Sum.inl a : Key) = Sum.inr b) = false := decide_eq_false (fun q => nomatch q)
theorem key_rl (a : Str) (b : Int) : decide ((Sum.inr a : Key) = Sum.inl b) = false := decide_eq_false (fun q => nomatch q)

def mixKind (prog : Program) (w : World) : PySem.KeyKind prog w Key where
  is := keyIs
  hash := keyH w
  inj := fun v a b ha hb => by
    rcases keyIs_shape ha with ⟨i, t, rfl, rfl⟩ | ⟨x, t, rfl, rfl⟩
    · rcases keyIs_shape hb with ⟨j, u, rfl, e⟩ | ⟨y, u, rfl, e⟩
      · injection e with e1 _; rw [e1]
      · exact nomatch e
    · rcases keyIs_shape hb with ⟨j, u, rfl, e⟩ | ⟨y, u, rfl, e⟩
      · exact nomatch e
      · injection e with e1 _; rw [e1]
  byValue := fun k v h => by
    rcases keyIs_shape h with ⟨i, t, rfl, rfl⟩ | ⟨x, t, rfl, rfl⟩ <;> rfl
  pyHash := fun hv h => by
    rcases keyIs_shape hv with ⟨i, t, rfl, rfl⟩ | ⟨x, t, rfl, rfl⟩
    · exact wpAny_pyHash_int h
    · exact wpAny_pyHash_str h
  eqBool := fun hu hv h => by
    rcases keyIs_shape hu with ⟨i, t, rfl, rfl⟩ | ⟨x, t, rfl, rfl⟩
    · rcases keyIs_shape hv with ⟨j, u, rfl, rfl⟩ | ⟨y, u, rfl, rfl⟩
      · rw [key_ll] at h; exact wpAny_eqBool_int h
      · rw [key_lr] at h; exact SeqAt.EqAt.int_str i t y u _ _ _ _ h
    · rcases keyIs_shape hv with ⟨j, u, rfl, rfl⟩ | ⟨y, u, rfl, rfl⟩
      · rw [key_rl] at h; exact SeqAt.EqAt.str_int x t j u _ _ _ _ h
      · rw [key_rr] at h; exact wpAny_eqBool_str h
  «strs» := fun k x t v h => by
    rcases keyIs_shape h with ⟨i, u, rfl, e⟩ | ⟨y, u, rfl, e⟩
    · exact nomatch e
    · injection e with e1 _
      subst e1
      cases v <;> rfl

end L2

namespace L2
open PySem PySem.Spec PyProof.Rows

set_option genInjectivity true
/-- a value, without the heap -/
inductive V where
  | non | bl (b : Bool) | int (i : Int) | str (x : Str) | byt (b : Array UInt8) | flt (b : UInt64) | ref (a : Addr) | ty (n : String)
  deriving DecidableEq

set_option genInjectivity false
def RelV : V → Value → Prop
  | .non, u => u = Value.none
  | .bl b, u => u = Value.bool b
  | .int i, u => ∃ t, u = Value.int i t
  | .str x, u => ∃ t, u = Value.str x t
  | .byt b, u => ∃ t, u = Value.bytes b t
  | .flt b, u => ∃ t, u = Value.float b t
  | .ref a, u => u = Value.ref a
  | .ty n, u => u = Value.type n

abbrev Vals : List V → List Value → Prop := Paired RelV
theorem Vals.length {xs : List V} {us : List Value} (r : Vals xs us) : xs.length = us.length := Paired.length r
theorem Vals.get : ∀ {xs : List V} {us : List Value} {i : Nat} {x : V}, Vals xs us → xs[i]? = some x → ∃ u, us[i]? = some u ∧ RelV x u
  | _, _, _, _, .nil, e => by simp at e
  | _, _, 0, _, .cons r _, e => by simp at e; subst e; exact ⟨_, rfl, r⟩
  | _, _, i + 1, x, .cons _ t, e => by
    obtain ⟨u, h1, h2⟩ := Vals.get (i := i) (x := x) t (by simpa using e)
    exact ⟨u, by simpa using h1, h2⟩
theorem Vals.set {x : V} {u : Value} (r : RelV x u) : ∀ {xs : List V} {us : List Value} (i : Nat), Vals xs us → Vals (xs.set i x) (us.set i u)
  | _, _, _, .nil => .nil
  | _, _, 0, .cons _ t => .cons r t
  | _, _, i + 1, .cons q t => .cons q (Vals.set r i t)
theorem Vals.append : ∀ {xs ys : List V} {us ws : List Value}, Vals xs us → Vals ys ws → Vals (xs ++ ys) (us ++ ws)
  | _, _, _, _, .nil, s => s
  | _, _, _, _, .cons r t, s => .cons r (Vals.append t s)
theorem Vals.take : ∀ {xs : List V} {us : List Value} (n : Nat), Vals xs us → Vals (xs.take n) (us.take n)
  | _, _, 0, _ => .nil
  | _, _, _ + 1, .nil => .nil
  | _, _, n + 1, .cons r t => .cons r (Vals.take n t)
theorem Vals.drop : ∀ {xs : List V} {us : List Value} (n : Nat), Vals xs us → Vals (xs.drop n) (us.drop n)
  | _, _, 0, r => r
  | _, _, _ + 1, .nil => .nil
  | _, _, n + 1, .cons _ t => Vals.drop n t
def RelO : Option V → Option Value → Prop
  | some v, some u => RelV v u
  | none, none => True
  | _, _ => False
def KV {κ : Type} : List (κ × V) → List (κ × Value) → Prop := Paired fun (p : κ × V) (q : κ × Value) => p.1 = q.1 ∧ RelV p.2 q.2

/-- a key of a dict (00_mix): an int or a text -/
def kV : Key → V
  | .inl i => .int i
  | .inr x => .str x

set_option genInjectivity true
/-- what stands at a tracked address -/
inductive HO where
  /-- a list -/
  | lst (xs : List V)
  /-- a tuple (never changes) -/
  | tup (xs : List V)
  /-- a dict whose keys are ints and texts; one whose keys are tuples of ints and texts (the empty one is both) -/
  | dK (kvs : List (Key × V)) | dT (kvs : List (List Key × V))
  /-- a set of ints: its members, its size -/
  | set (S : Int → Bool) (n : Nat)
  /-- an instance of the class at C, its dict at dx, its attributes -/
  | ins (C dx : Addr) (fs : List (Str × V))
  /-- the dict of the instance at x -/
  | own (x : Addr)
  /-- the dict of an exception -/
  | xd (fs : List (Str × V))
  /-- a bound method, f of x -/
  | met (f x : Addr)
  /-- a range object lo, lo + 1, .. below hi -/
  | rng (lo hi : Int)
  /-- a thing that is known to the object (the script; a dict while a loop walks it): read, never written while it is so -/
  | frz (o : Obj) (u : HO)
  /-- a code object's table -/
  | tbl (ps : Array Value)
  /-- any other thing, by what is true of its one object (a def of one's own: SetO a S n := HO.ext fun h => ..) -/
  | ext (φ : Heap → Prop)

set_option genInjectivity false
abbrev Hp := Addr → Option HO
def upd (H : Hp) (a : Addr) (o : HO) : Hp := fun b => if b = a then some o else H b
theorem upd_same {H : Hp} {a : Addr} {o : HO} : upd H a o a = some o := by unfold upd; rw [if_pos rfl]
theorem upd_ne {H : Hp} {a b : Addr} {o : HO} (h : b ≠ a) : upd H a o b = H b := by unfold upd; rw [if_neg h]
theorem ne_of_none {H : Hp} {a b : Addr} {o : HO} (h : H a = some o) (h' : H b = none) : a ≠ b := by
  intro e; subst e; rw [h] at h'; cases h'

section
variable (P : Program) (w : World)
def ObjOk (H : Hp) (h : Heap) (a : Addr) : HO → Prop
  | .lst xs => xs.length ≤ sizeLine ∧ ∃ (its : List Value) (n : Nat), Vals xs its ∧ h.get? a = some { cls := .type "list", data := .seq its.toArray n }
  | .tup xs => xs.length ≤ sizeLine ∧ ∃ its : List Value, Vals xs its ∧ IsTup h a its.toArray
  | .dK kvs => kvs.length ≤ sizeLine ∧ (a == sysModules) = false ∧ ∃ vs, KV kvs vs ∧ h.DictOf (mixKind P w) a vs
  | .dT kvs => kvs.length ≤ sizeLine ∧ (a == sysModules) = false ∧ ∃ xs : List (List Key × Addr × Value),
      Paired (fun (p : List Key × V) (q : List Key × Addr × Value) => p.1 = q.1 ∧ H q.2.1 = some (.tup (p.1.map kV)) ∧ RelV p.2 q.2.2) kvs xs ∧
      ∃ o es ep, h.get? a = some o ∧ o.ExactDict ∧ o.data = .dict es ep ∧ es.toList = xs.map (entryOfKey (tupleKind (mixKind P w))) ∧ (xs.map (·.1)).Nodup
  | .set S n => h.SetOf (intKind P w) a S n
  | .ins C dx fs => H dx = some (.own a) ∧ fs.length ≤ 1000 ∧ dx ≠ a ∧ h.get? a = some (PySem.W.instObj C dx) ∧
      ∃ mA, h.Ns1 dx mA ∧ (∀ f, RelO (fs.lookup f) (mA f)) ∧ PySem.Within mA (fs.map (·.1))
  | .own _ => ∃ o, h.get? a = some o
  | .xd fs => ∃ mA, h.Ns1 a mA ∧ ∀ f, RelO (fs.lookup f) (mA f)
  | .rng lo hi => ∃ t u v, h.get? a = some { cls := .type "range", data := .fields #[.int lo t, .int hi u, .int 1 v] }
  | .frz o u => h.get? a = some o ∧ ObjOk H h a u
  | .tbl ps => h.get? a = some { cls := .none, data := .fields ps }
  | .met f x => h.get? a = some (PySem.W.methodObj (.ref f) (.ref x))
  | .ext φ => φ h ∧ (∃ o, h.get? a = some o) ∧ ∀ h1 h2 : Heap, φ h1 → (∀ o, h1.get? a = some o → h2.get? a = some o) → φ h2
/-- the abstract heap is held -/
def HOk (H : Hp) (h : Heap) : Prop := ∀ a o, H a = some o → ObjOk P w H h a o
end

section
variable {P : Program} {w : World} {H H' : Hp} {h h' : Heap} {a : Addr} {o : HO}
theorem ObjOk.lt (x : ObjOk P w H h a o) : a < h.objs.size := by
  cases o with
  | lst xs => obtain ⟨_, _, _, _, e⟩ := x; exact Heap.lt_size e
  | tup xs => obtain ⟨_, _, _, p⟩ := x; exact p.lt
  | dK kvs => obtain ⟨_, _, _, _, o, _, _, e, _⟩ := x; exact Heap.lt_size e
  | dT kvs => obtain ⟨_, _, _, _, o, _, _, e, _⟩ := x; exact Heap.lt_size e
  | set S n => obtain ⟨o, _, _, _, e, _⟩ := x; exact Heap.lt_size e
  | ins C dx fs => obtain ⟨_, _, _, e, _⟩ := x; exact Heap.lt_size e
  | own y => obtain ⟨_, e⟩ := x; exact Heap.lt_size e
  | xd fs => obtain ⟨_, ⟨_, _, _, e, _⟩, _⟩ := x; exact Heap.lt_size e
  | rng lo hi => obtain ⟨_, _, _, e⟩ := x; exact Heap.lt_size e
  | frz ob u => obtain ⟨e, _⟩ := x; exact Heap.lt_size e
  | tbl ps => exact Heap.lt_size (show h.get? a = some _ from x)
  | met f y => exact Heap.lt_size (show h.get? a = some _ from x)
  | ext φ => obtain ⟨_, ⟨_, e⟩, _⟩ := x; exact Heap.lt_size e
theorem Paired.mapP {α β : Type} {F G : α → β → Prop} : ∀ {l₁ : List α} {l₂ : List β}, Paired F l₁ l₂ → (∀ a b, F a b → G a b) → Paired G l₁ l₂
  | _, _, .nil, _ => .nil
  | _, _, .cons r t, f => .cons (f _ _ r) (Paired.mapP t f)
/-- what an object's description leans on: its own object, its own dict, the tuples -/
theorem ObjOk.stay (x : ObjOk P w H h a o) (k : ∀ b u, (b = a ∨ H b = some (.own a)) → h.get? b = some u → h'.get? b = some u)
    (ho : ∀ b, H b = some (.own a) → H' b = some (.own a)) (ht : ∀ b xs, H b = some (.tup xs) → H' b = some (.tup xs)) : ObjOk P w H' h' a o := by
  induction o with
  | lst xs => obtain ⟨z, its, n, r, e⟩ := x; exact ⟨z, its, n, r, k _ _ (.inl rfl) e⟩
  | tup xs => obtain ⟨z, its, r, ob, e, c⟩ := x; exact ⟨z, its, r, ob, k _ _ (.inl rfl) e, c⟩
  | dK kvs => obtain ⟨z, y, vs, r, ob, es, ep, e, c⟩ := x; exact ⟨z, y, vs, r, ob, es, ep, k _ _ (.inl rfl) e, c⟩
  | dT kvs =>
    obtain ⟨z, y, xs, r, ob, es, ep, e, c⟩ := x
    exact ⟨z, y, xs, Paired.mapP r fun p q z => ⟨z.1, ht _ _ z.2.1, z.2.2⟩, ob, es, ep, k _ _ (.inl rfl) e, c⟩
  | set S n => obtain ⟨ob, es, ep, t, e, c⟩ := x; exact ⟨ob, es, ep, t, k _ _ (.inl rfl) e, c⟩
  | ins C dx fs =>
    obtain ⟨d, z, ne, e, mA, ⟨od, es, ep, e2, c⟩, r⟩ := x
    exact ⟨ho _ d, z, ne, k _ _ (.inl rfl) e, mA, ⟨od, es, ep, k _ _ (.inr d) e2, c⟩, r⟩
  | own y => obtain ⟨ob, e⟩ := x; exact ⟨ob, k _ _ (.inl rfl) e⟩
  | xd fs => obtain ⟨mA, ⟨od, es, ep, e, c⟩, r⟩ := x; exact ⟨mA, ⟨od, es, ep, k _ _ (.inl rfl) e, c⟩, r⟩
  | rng lo hi => obtain ⟨t, u, v, e⟩ := x; exact ⟨t, u, v, k _ _ (.inl rfl) e⟩
  | frz ob u ih => obtain ⟨e, q⟩ := x; exact ⟨k _ _ (.inl rfl) e, ih q⟩
  | tbl ps =>
    have e : h.get? a = some { cls := .none, data := .fields ps } := x
    show h'.get? a = some { cls := .none, data := .fields ps }
    exact k a _ (.inl rfl) e
  | met f y =>
    have e : h.get? a = some (PySem.W.methodObj (.ref f) (.ref y)) := x
    show h'.get? a = some (PySem.W.methodObj (.ref f) (.ref y))
    exact k a _ (.inl rfl) e
  | ext φ => obtain ⟨p, ⟨o, e⟩, st⟩ := x; exact ⟨st _ _ p fun o q => k _ _ (.inl rfl) q, ⟨o, k _ _ (.inl rfl) e⟩, st⟩
theorem HOk.lt (x : HOk P w H h) (e : H a = some o) : a < h.objs.size := (x a o e).lt
theorem HOk.fresh (x : HOk P w H h) (e : h.objs.size ≤ a) : H a = none := by
  cases q : H a with
  | none => rfl
  | some u => exact absurd (Nat.lt_of_lt_of_le (x.lt q) e) (Nat.lt_irrefl _)
/-- every object of the heap is kept -/
theorem HOk.kept (x : HOk P w H h) (k : ∀ b u, h.get? b = some u → h'.get? b = some u) : HOk P w H h' := fun a o e =>
  (x a o e).stay (fun b u _ q => k b u q) (fun _ q => q) fun _ _ q => q
/-- a new object is laid and tracked -/
theorem HOk.laid (x : HOk P w H h) (k : ∀ b u, h.get? b = some u → h'.get? b = some u) (hp : h.objs.size ≤ a) (new : ObjOk P w (upd H a o) h' a o) : HOk P w (upd H a o) h' := fun b u e => by
  have hn := x.fresh hp
  by_cases hb : b = a
  · subst hb; rw [upd_same] at e; cases e; exact new
  · rw [upd_ne hb] at e
    exact (x b u e).stay (fun c v _ q => k c v q) (fun c q => by rw [upd_ne (ne_of_none q hn)]; exact q) fun c xs q => by rw [upd_ne (ne_of_none q hn)]; exact q
end

/-- what may be read as u: it is u, or a known u -/
def Rd (H : Hp) (a : Addr) (u : HO) : Prop := H a = some u ∨ ∃ o, H a = some (.frz o u)
theorem Rd.ok {P : Program} {w : World} {H : Hp} {h : Heap} {a : Addr} {u : HO} (r : Rd H a u) (x : HOk P w H h) : ObjOk P w H h a u := by
  rcases r with r | ⟨o, r⟩
  · exact x a u r
  · obtain ⟨_, q⟩ := x a _ r
    exact q
/-- what may be written -/
def Mut : Option HO → Prop
  | some (.lst _) => True
  | some (.dK _) => True
  | some (.dT _) => True
  | some (.set _ _) => True
  | some (.ins _ _ _) => True
  | some (.ext _) => True
  | _ => False
section
variable {P : Program} {w : World} {H : Hp} {h h' : Heap} {x e : Addr} {o' : HO}
/-- the object at e is changed: x itself, or the dict of the instance x -/
theorem HOk.write (ok : HOk P w H h) (mu : Mut (H x)) (he : e = x ∨ H e = some (.own x)) (k : ∀ b u, b ≠ e → h.get? b = some u → h'.get? b = some u) (heo : ∃ u, h'.get? e = some u)
    (new : ObjOk P w (upd H x o') h' x o') : HOk P w (upd H x o') h' := fun b u q => by
  have nown : ∀ c y, H c = some (.own y) → c ≠ x := fun c y r z => by subst z; rw [r] at mu; exact mu
  have ntup : ∀ c xs, H c = some (.tup xs) → c ≠ x := fun c xs r z => by subst z; rw [r] at mu; exact mu
  by_cases hb : b = x
  · subst hb; rw [upd_same] at q; cases q; exact new
  · rw [upd_ne hb] at q
    by_cases hbe : b = e
    · have q' : H b = some (.own x) := by
        rcases he with z | z
        · exact absurd (hbe.trans z) hb
        · rw [hbe]; exact z
      rw [q] at q'; cases q'
      obtain ⟨v, hv⟩ := heo
      exact ⟨v, by rw [hbe]; exact hv⟩
    · refine (ok b u q).stay (fun c v hc r => k c v ?_ r) (fun c r => by rw [upd_ne (nown c b r)]; exact r) fun c xs r => by rw [upd_ne (ntup c xs r)]; exact r
      rcases hc with rfl | hc
      · exact hbe
      · rintro rfl
        rcases he with z | z
        · exact nown c b hc z
        · rw [hc] at z; cases z; exact hb rfl
end

/-! ### kept unless tracked; of the frames at fs (the callers') the slots may change (an exception that passes writes there); of the records at ex (iterators) nothing is said -/
structure Un (fs ex : List Addr) (H H' : Hp) (h h' : Heap) : Prop where
  keep : ∀ b o, h.get? b = some o → H b = none → b ∉ fs → b ∉ ex → h'.get? b = some o
  slot : ∀ b o, h.get? b = some o → H b = none → b ∈ fs → b ∉ ex → ∃ sl, h'.get? b = some { o with slots := sl }
  free : ∀ b o, h.get? b = some o → H b = none → b ∉ ex → H' b = none
  there : ∀ b o, h.get? b = some o → b ∉ ex → ∃ o', h'.get? b = some o'
  tups : ∀ b xs, H b = some (.tup xs) → H' b = some (.tup xs)
  frzs : ∀ b o u, H b = some (.frz o u) → H' b = some (.frz o u)
  tbls : ∀ b ps, H b = some (.tbl ps) → ∃ more, H' b = some (.tbl (ps ++ more))
section
variable {fs fs' ex ex' : List Addr} {H H1 H2 : Hp} {h h1 h2 h' : Heap} {a x e : Addr} {o : HO}
theorem Un.any (u : Un fs ex H H1 h h1) {b : Addr} {ob : Obj} (q : h.get? b = some ob) (n : H b = none) (hx : b ∉ ex) : ∃ sl, h1.get? b = some { ob with slots := sl } := by
  by_cases hb : b ∈ fs
  · exact u.slot b ob q n hb hx
  · exact ⟨ob.slots, u.keep b ob q n hb hx⟩
theorem Un.kept (k : ∀ b u, h.get? b = some u → h'.get? b = some u) : Un fs ex H H h h' :=
  ⟨fun b ob q _ _ _ => k b ob q, fun b ob q _ _ _ => ⟨ob.slots, k b ob q⟩, fun _ _ _ n _ => n, fun b ob q _ => ⟨ob, k b ob q⟩, fun _ _ q => q, fun _ _ _ q => q, fun _ ps q => ⟨#[], by rw [q]; simp⟩⟩
theorem Un.refl : Un fs ex H H h h := Un.kept fun _ _ q => q
theorem Un.laid (k : ∀ b u, h.get? b = some u → h'.get? b = some u) (hp : h.objs.size ≤ a) (hn : H a = none) : Un fs ex H (upd H a o) h h' where
  keep := fun b u q _ _ _ => k b u q
  slot := fun b u q _ _ _ => ⟨u.slots, k b u q⟩
  free := fun b u q n _ => by rw [upd_ne (Nat.ne_of_lt (Nat.lt_of_lt_of_le (Heap.lt_size q) hp))]; exact n
  there := fun b u q _ => ⟨u, k b u q⟩
  tups := fun b xs q => by rw [upd_ne (ne_of_none q hn)]; exact q
  frzs := fun b u xs q => by rw [upd_ne (ne_of_none q hn)]; exact q
  tbls := fun b ps q => ⟨#[], by rw [upd_ne (ne_of_none q hn), q]; simp⟩
theorem Un.write (mu : Mut (H x)) (he : e = x ∨ H e = some (.own x)) (k : ∀ b u, b ≠ e → h.get? b = some u → h'.get? b = some u) (heo : ∃ u, h'.get? e = some u) : Un fs ex H (upd H x o) h h' := by
  have hx : ∀ b, H b = none → b ≠ x := fun b n z => by subst z; rw [n] at mu; exact mu
  have hb : ∀ b, H b = none → b ≠ e := fun b n z => by
    subst z
    rcases he with r | r
    · exact hx b n r
    · rw [n] at r; cases r
  have hm : ∀ b u, H b = some u → ¬ Mut (some u) → b ≠ x := fun b u q nm z => by subst z; rw [q] at mu; exact nm mu
  refine ⟨fun b u q n _ _ => k b u (hb b n) q, fun b u q n _ _ => ⟨u.slots, k b u (hb b n) q⟩, fun b u q n _ => by rw [upd_ne (hx b n)]; exact n, fun b u q _ => ?_,
    fun b xs q => by rw [upd_ne (hm b _ q fun z => z)]; exact q, fun b u xs q => by rw [upd_ne (hm b _ q fun z => z)]; exact q, fun b ps q => ⟨#[], by rw [upd_ne (hm b _ q fun z => z), q]; simp⟩⟩
  by_cases hbe : b = e
  · subst hbe; exact heo
  · exact ⟨u, k b u hbe q⟩
end

/-! ### the heap without what is tracked -/
def trk (h : Heap) (H : Hp) : List Addr := (List.range h.objs.size).filter fun a => (H a).isSome
def hidT (h : Heap) (H : Hp) : Heap := PySem.W.hideAll h (trk h H)
theorem hidT_size (h : Heap) (H : Hp) : (hidT h H).objs.size = h.objs.size := PySem.W.hideAll_size _ _
theorem hidT_get {h : Heap} {H : Hp} {b : Addr} {o : Obj} (e : h.get? b = some o) (n : H b = none) : (hidT h H).get? b = some o :=
  PySem.W.hideAll_get _ e fun hm => by
    have q : (H b).isSome = true := (List.mem_filter.mp hm).2
    rw [n] at q; simp at q
theorem of_hidT {h : Heap} {H : Hp} {b : Addr} {o : Obj} (e : (hidT h H).get? b = some o) : h.get? b = some o ∧ H b = none := by
  have e' : h.get? b = some o := PySem.W.of_hideAll (trk h H) e
  refine ⟨e', ?_⟩
  cases q : H b with
  | none => rfl
  | some x =>
    have hm : b ∈ trk h H := List.mem_filter.mpr ⟨List.mem_range.mpr (Heap.lt_size e'), by simp [q]⟩
    have z : (hidT h H).get? b = none := PySem.W.hideAll_none (trk h H) hm
    rw [z] at e; cases e

/-! ### OpenK's ledger, filled with every new object but one -/
def allNews (g h : Heap) (L : Addr) : List (Addr × Obj) := (List.range h.objs.size).filterMap fun a => if a = L ∨ (g.get? a).isSome = true then none else (h.get? a).map fun o => (a, o)
def rest (g h : Heap) (L d : Addr) : List (Addr × Obj) := (allNews g h L).filter fun p => decide (p.1 ≠ d)
end L2

namespace L2
open PySem PySem.Spec PyProof.Rows

/-- the module's facts, over the base: the heap at the law's entry without what is tracked there -/
structure Mod (K : PySem.W.Frag) (mg : Str → Option Value) (base : Heap) : Prop where
  kin : K.In base
  glob : base.Ns mainGlobals mg
  blt : ∃ mb, base.Ns builtinsNs mb ∧ ∀ x : Str, x ≠ "__name__" → mb x = bootBuiltins x
  nolimit : base.NoLimit

/-- the context: a def's body (or a comprehension's block) running. base: fixed through the whole law; s₀, H₀: the entry; outer: the frames whose slots others may change (a def's callers); stack: all frames that run;
   ex: iterators that were made ahead of the entry and are walked here (a comprehension's); fn: the names whose cells were made at the entry (a def: all; a comprehension's block: its own); calm: not within an except suite; pn: pins that every state bears; xe: what is wanted of an exception that leaves the code -/
structure Cx where
  prog : Program
  w : World
  K : PySem.W.Frag
  mg : Str → Option Value
  base : Heap
  A : Around
  N : List Str
  s₀ : Shared
  H₀ : Hp
  env : Env
  outer : List Env
  stack : List Env
  ex : List Addr
  fn : Str → Bool
  calm : Bool
  pn : List (Addr × Obj)
  xe : Value → Shared → Prop
/-- the callers' frames -/
def frs (l : List Env) : List Addr := l.filterMap (·.frame)
abbrev Cx.fs (X : Cx) : List Addr := frs X.outer

def Vis (sc : Scope) (x : Str) : Prop := sc.names.lookup x = some .local ∨ sc.names.lookup x = some .cell ∨ sc.names.lookup x = some .free
def Loc (sc : Scope) (x : Str) : Prop := sc.names.lookup x = some .local ∨ sc.names.lookup x = some .cell
def Look (env : Env) (h : Heap) (m : Str → Option Value) (x : Str) (u : Value) : Prop :=
  (env.kindOf x = some .local ∧ m x = some u) ∨ ((env.kindOf x = some .cell ∨ env.kindOf x = some .free) ∧ ∃ c, env.cells.lookup x = some c ∧ h.IsCell c (some u))

structure Cx.Ok (X : Cx) : Prop where
  mod : Mod X.K X.mg X.base
  kind : X.env.scope.kind = .function
  glob : X.env.globals = mainGlobals
  blt : X.env.builtins = builtinsNs
  above : X.s₀.heap.objs.size ≤ X.env.locals
  inj : ∀ x y c, X.env.cells.lookup x = some c → X.env.cells.lookup y = some c → x = y
  has : ∀ x, (X.env.kindOf x = some .cell ∨ X.env.kindOf x = some .free) → ∃ c, X.env.cells.lookup x = some c
  cab : ∀ x c, X.fn x = true → X.env.cells.lookup x = some c → X.s₀.heap.objs.size ≤ c
  hd : X.calm = true → X.A.handled = none
  frames : X.A.frames = some X.stack
  stk : X.stack = X.outer ∨ (X.stack = X.env :: X.outer ∧ X.env.frame = some X.env.locals)
  exf : ∀ b ∈ X.ex, b ≠ X.env.locals ∧ ∀ x c, X.env.cells.lookup x = some c → c ≠ b
  bs : ∀ b o, X.base.get? b = some o → X.s₀.heap.get? b = some o ∧ X.H₀ b = none
  bsz : X.base.objs.size ≤ X.s₀.heap.objs.size
  noex : ∀ b o, X.base.get? b = some o → b ∉ X.ex
  exfs : ∀ b ∈ X.ex, b ∉ X.fs
  funs : X.s₀.heap.FunFrames X.base X.outer
  frf : ∀ b ∈ X.fs, X.H₀ b = none

structure Inv (X : Cx) (pins : List (Addr × Obj)) (σ : List (Option V)) (H : Hp) (s : Shared) : Prop where
  ok : X.Ok
  os : s.os = X.s₀.os
  bare : AllBare s.gens
  base : Un X.fs X.ex X.H₀ H X.s₀.heap s.heap
  loc : ∃ m, s.heap.Ns X.env.locals m ∧ ∀ (i : Nat) (x : Str) (v : V), X.N[i]? = some x → σ[i]? = some (some v) → Vis X.env.scope x → ∃ u, RelV v u ∧ Look X.env s.heap m x u
  cell : ∀ x c, X.env.cells.lookup x = some c → ∃ v, s.heap.IsCell c v
  free : H X.env.locals = none
  freeC : ∀ x c, X.env.cells.lookup x = some c → H c = none
  pin : ∀ p ∈ X.pn ++ pins, s.heap.get? p.1 = some p.2 ∧ H p.1 = none ∧ p.1 ≠ X.env.locals ∧ p.1 ∉ X.fs ∧ ∀ v, p.2.data ≠ .cell v
  hok : HOk X.prog X.w H s.heap
  len : σ.length = X.N.length

section
variable {X : Cx} {pins : List (Addr × Obj)} {σ : List (Option V)} {H H' : Hp} {s : Shared} {h' : Heap}

theorem Cx.Ok.nofr (ok : X.Ok) {b : Addr} {o : Obj} (e : X.base.get? b = some o) : b ∉ X.fs := fun hb => by
  have := (ok.funs.mem hb).1
  rw [e] at this; cases this
theorem Inv.bs (I : Inv X pins σ H s) : ∀ b o, X.base.get? b = some o → s.heap.get? b = some o ∧ H b = none := fun b o e =>
  ⟨I.base.keep b o (I.ok.bs b o e).1 (I.ok.bs b o e).2 (I.ok.nofr e) (I.ok.noex b o e), I.base.free b o (I.ok.bs b o e).1 (I.ok.bs b o e).2 (I.ok.noex b o e)⟩
theorem Inv.bk (I : Inv X pins σ H s) : ∀ b o, X.base.get? b = some o → s.heap.get? b = some o := fun b o e => (I.bs b o e).1
theorem Inv.mod (I : Inv X pins σ H s) : Mod X.K X.mg X.base := I.ok.mod
theorem Inv.kIn (I : Inv X pins σ H s) : X.K.In s.heap := I.ok.mod.kin.keeps I.bk
theorem Inv.lt (I : Inv X pins σ H s) : X.env.locals < s.heap.objs.size := let ⟨_, hn, _⟩ := I.loc; hn.lt
theorem Inv.sz (I : Inv X pins σ H s) : X.s₀.heap.objs.size ≤ s.heap.objs.size := Nat.le_trans I.ok.above (Nat.le_of_lt I.lt)
theorem Inv.nofs (I : Inv X pins σ H s) {a : Addr} (h : s.heap.objs.size ≤ a) : a ∉ X.fs := fun hb => by
  obtain ⟨_, o, ho, _⟩ := I.ok.funs.mem hb
  exact absurd (Nat.lt_of_lt_of_le (Heap.lt_size ho) (Nat.le_trans I.sz h)) (Nat.lt_irrefl _)
theorem Inv.cne (I : Inv X pins σ H s) : ∀ x c, X.env.cells.lookup x = some c → c ≠ X.env.locals := fun x c e z => by
  obtain ⟨v, o, ho, hd⟩ := I.cell x c e
  obtain ⟨m, ⟨o', es, ep, ho', hd', _⟩, _⟩ := I.loc
  rw [z, ho'] at ho; cases ho; rw [hd'] at hd; cases hd
theorem Inv.funs (I : Inv X pins σ H s) : s.heap.FunFrames X.base X.outer := by
  have all : ∀ (l : List Env), (∀ b ∈ frs l, b ∈ X.fs) → X.s₀.heap.FunFrames X.base l → s.heap.FunFrames X.base l := by
    intro l
    induction l with
    | nil => intro _ _; trivial
    | cons env r ih =>
      intro hs hl
      obtain ⟨hk, ⟨L, o, hf, hn, ho, hd⟩, hr⟩ := hl
      have hL : L ∈ X.fs := hs L (by unfold frs; rw [List.filterMap_cons, hf]; exact List.mem_cons_self)
      obtain ⟨sl, e⟩ := I.base.slot L o ho (I.ok.frf L hL) hL fun z => I.ok.exfs L z hL
      exact ⟨hk, ⟨L, _, hf, hn, e, hd⟩, ih (fun b hb => hs b (by unfold frs; rw [List.filterMap_cons, hf]; exact List.mem_cons_of_mem _ hb)) hr⟩
  exact all X.outer (fun _ hb => hb) I.ok.funs

/-- the frames that run, for a call -/
theorem Inv.stack (I : Inv X pins σ H s) : s.heap.FunFrames X.base X.stack := by
  rcases I.ok.stk with e | ⟨e, hf⟩
  · rw [e]; exact I.funs
  · rw [e]
    obtain ⟨m, hn, _⟩ := I.loc
    refine .cons (by rw [I.ok.kind]; decide) hf hn ?_ I.funs
    exact Heap.get?_none_of_le (Nat.le_trans I.ok.bsz I.ok.above)
theorem Inv.stkSub (I : Inv X pins σ H s) : ∀ b ∈ frs X.stack, b ∈ X.env.locals :: X.fs := fun b hb => by
  rcases I.ok.stk with e | ⟨e, hf⟩
  · rw [e] at hb; exact List.mem_cons_of_mem _ hb
  · rw [e] at hb
    unfold frs at hb
    rw [List.filterMap_cons, hf] at hb
    exact hb
theorem Inv.stkFree (I : Inv X pins σ H s) : ∀ b ∈ frs X.stack, H b = none := fun b hb => by
  rcases List.mem_cons.mp (I.stkSub b hb) with e | hb
  · rw [e]; exact I.free
  · obtain ⟨_, o, ho, _⟩ := I.ok.funs.mem hb
    exact I.base.free b o ho (I.ok.frf b hb) fun z => I.ok.exfs b z hb

/-- THE STEP: the untracked objects but the frame and the records at ch are kept (the callers' frames up to slots), the frame's map is kept, the new abstract heap is held -/
theorem Inv.step {g' : Array GenState} {t' : Nat} {d' : Drawn} {ch : List Addr} (I : Inv X pins σ H s)
    (hch : ∀ b ∈ ch, (b ∈ X.ex ∨ X.s₀.heap.objs.size ≤ b) ∧ b ≠ X.env.locals ∧ (∀ x c, X.env.cells.lookup x = some c → c ≠ b) ∧ ∀ p ∈ X.pn ++ pins, p.1 ≠ b)
    (keep : ∀ b o, b ≠ X.env.locals → b ∉ X.fs → b ∉ ch → s.heap.get? b = some o → H b = none → h'.get? b = some o)
    (slot : ∀ b o, b ≠ X.env.locals → b ∈ X.fs → b ∉ ch → s.heap.get? b = some o → H b = none → ∃ sl, h'.get? b = some { o with slots := sl }) (free : ∀ b o, b ∉ ch → s.heap.get? b = some o → H b = none → H' b = none)
    (there : ∀ b o, b ∉ ch → s.heap.get? b = some o → ∃ o', h'.get? b = some o')
    (tups : ∀ b xs, H b = some (.tup xs) → H' b = some (.tup xs)) (frzs : ∀ b o u, H b = some (.frz o u) → H' b = some (.frz o u)) (tbls : ∀ b ps, H b = some (.tbl ps) → ∃ more, H' b = some (.tbl (ps ++ more)))
    (ns : ∀ m, s.heap.Ns X.env.locals m → h'.Ns X.env.locals m) (hok : HOk X.prog X.w H' h') (hg : AllBare g') :
    Inv X pins σ H' { s with heap := h', gens := g', drawn := d', toks := t' } := by
  have neL : ∀ b o, X.s₀.heap.get? b = some o → b ≠ X.env.locals := fun b o e => Nat.ne_of_lt (Nat.lt_of_lt_of_le (Heap.lt_size e) I.ok.above)
  have neC : ∀ b o, X.s₀.heap.get? b = some o → b ∉ X.ex → b ∉ ch := fun b o e hx hb => by
    rcases (hch b hb).1 with z | z
    · exact hx z
    · exact absurd (Nat.lt_of_lt_of_le (Heap.lt_size e) z) (Nat.lt_irrefl _)
  have cellK : ∀ x c, X.env.cells.lookup x = some c → ∀ v, s.heap.IsCell c v → h'.IsCell c v := fun x c e v ⟨o, ho, hd⟩ => by
    have nch : c ∉ ch := fun z => (hch c z).2.2.1 x c e rfl
    by_cases hc : c ∈ X.fs
    · obtain ⟨sl, q⟩ := slot c o (I.cne x c e) hc nch ho (I.freeC x c e)
      exact ⟨_, q, hd⟩
    · exact ⟨o, keep c o (I.cne x c e) hc nch ho (I.freeC x c e), hd⟩
  refine ⟨I.ok, I.os, hg, ⟨fun b o e n hb hx => ?_, fun b o e n hb hx => ?_, fun b o e n hx => ?_, fun b o e hx => ?_, fun b xs e => tups b xs (I.base.tups b xs e), fun b o xs e => frzs b o xs (I.base.frzs b o xs e), fun b ps e => ?_⟩, ?_, fun x c e => ?_, ?_, fun x c e => ?_, fun p hp => ?_, hok, I.len⟩
  · exact keep b o (neL b o e) hb (neC b o e hx) (I.base.keep b o e n hb hx) (I.base.free b o e n hx)
  · obtain ⟨sl, e1⟩ := I.base.slot b o e n hb hx
    obtain ⟨sl', e2⟩ := slot b _ (neL b o e) hb (neC b o e hx) e1 (I.base.free b o e n hx)
    exact ⟨sl', e2⟩
  · obtain ⟨o', e1⟩ := I.base.there b o e hx
    exact free b o' (neC b o e hx) e1 (I.base.free b o e n hx)
  · obtain ⟨o', e1⟩ := I.base.there b o e hx
    exact there b o' (neC b o e hx) e1
  · obtain ⟨m1, e1⟩ := I.base.tbls b ps e
    obtain ⟨m2, e2⟩ := tbls b _ e1
    exact ⟨m1 ++ m2, by rw [e2, Array.append_assoc]⟩
  · obtain ⟨m, hn, hl⟩ := I.loc
    refine ⟨m, ns m hn, fun i x v e1 e2 e3 => ?_⟩
    obtain ⟨u, r, l⟩ := hl i x v e1 e2 e3
    refine ⟨u, r, ?_⟩
    rcases l with l | ⟨k, c, e, z⟩
    · exact .inl l
    · exact .inr ⟨k, c, e, cellK x c e _ z⟩
  · obtain ⟨v, z⟩ := I.cell x c e
    exact ⟨v, cellK x c e v z⟩
  · obtain ⟨m, ⟨o, _, _, ho, _⟩, _⟩ := I.loc
    exact free _ o (fun z => (hch _ z).2.1 rfl) ho I.free
  · obtain ⟨v, o, ho, hd⟩ := I.cell x c e
    exact free c o (fun z => (hch c z).2.2.1 x c e rfl) ho (I.freeC x c e)
  · obtain ⟨e, n, ne, nf, d⟩ := I.pin p hp
    have nch : p.1 ∉ ch := fun z => (hch p.1 z).2.2.2 p hp rfl
    exact ⟨keep p.1 p.2 ne nf nch e n, free p.1 p.2 nch e n, ne, nf, d⟩
/-- .. where the frame's own object is kept too -/
theorem Inv.un {t' : Nat} (I : Inv X pins σ H s) (u : Un X.fs [] H H' s.heap h') (hok : HOk X.prog X.w H' h') : Inv X pins σ H' { s with heap := h', toks := t' } := by
  obtain ⟨m, ⟨o, es, ep, ho, r⟩, _⟩ := id I.loc
  obtain ⟨sl, hL⟩ := u.any ho I.free (by simp)
  exact I.step (g' := s.gens) (d' := s.drawn) (ch := []) (fun _ z => nomatch z) (fun b o _ hb _ e n => u.keep b o e n hb (by simp)) (fun b o _ hb _ e n => u.slot b o e n hb (by simp)) (fun b o _ e n => u.free b o e n (by simp)) (fun b o _ e => u.there b o e (by simp)) u.tups u.frzs u.tbls (fun m' hm => by
    obtain ⟨o', es', ep', ho', r'⟩ := hm
    rw [ho] at ho'; cases ho'
    exact ⟨_, es', ep', hL, r'⟩) hok I.bare
/-- behind a call (or a comprehension's block): the slots of this frame may have changed too, the records at ch may have turned -/
theorem Inv.call {g' : Array GenState} {t' : Nat} {d' : Drawn} {ch : List Addr} (I : Inv X pins σ H s) (u : Un (frs X.stack) ch H H' s.heap h') (hok : HOk X.prog X.w H' h') (hg : AllBare g')
    (hch : ∀ b ∈ ch, (b ∈ X.ex ∨ X.s₀.heap.objs.size ≤ b) ∧ b ≠ X.env.locals ∧ (∀ x c, X.env.cells.lookup x = some c → c ≠ b) ∧ ∀ p ∈ X.pn ++ pins, p.1 ≠ b) :
    Inv X pins σ H' { s with heap := h', gens := g', drawn := d', toks := t' } := by
  obtain ⟨m, ⟨o, es, ep, ho, r⟩, _⟩ := id I.loc
  obtain ⟨sl, hL⟩ := u.any ho I.free fun z => (hch _ z).2.1 rfl
  exact I.step (ch := ch) hch (fun b o hL hb hc e n => u.keep b o e n (fun z => (List.mem_cons.mp (I.stkSub b z)).elim hL hb) hc) (fun b o _ _ hc e n => u.any e n hc) (fun b o hc e n => u.free b o e n hc) (fun b o hc e => u.there b o e hc) u.tups u.frzs u.tbls (fun m' hm => by
    obtain ⟨o', es', ep', ho', r'⟩ := hm
    rw [ho] at ho'; cases ho'
    exact ⟨_, es', ep', hL, r'⟩) hok hg
/-- an untracked record of ours (an iterator) has turned -/
theorem Inv.turned {t' : Nat} {it : Addr} (I : Inv X pins σ H s) (k : ∀ b o, b ≠ it → s.heap.get? b = some o → h'.get? b = some o) (hn : H it = none) (hL : it ≠ X.env.locals)
    (h1 : it ∈ X.ex ∨ X.s₀.heap.objs.size ≤ it) (h2 : ∀ x c, X.env.cells.lookup x = some c → c ≠ it) (h3 : ∀ p ∈ X.pn ++ pins, p.1 ≠ it) : Inv X pins σ H { s with heap := h', toks := t' } := by
  have nit : ∀ b u, H b = some u → b ≠ it := fun b u e z => by rw [z, hn] at e; cases e
  refine I.step (g' := s.gens) (d' := s.drawn) (ch := [it]) (fun b hb => ?_) (fun b o _ _ hc e _ => k b o (fun z => hc (by simp [z])) e) (fun b o _ _ hc e _ => ⟨o.slots, k b o (fun z => hc (by simp [z])) e⟩) (fun _ _ _ _ n => n)
    (fun b o hc e => ⟨o, k b o (fun z => hc (by simp [z])) e⟩) (fun _ _ e => e) (fun _ _ _ e => e) (fun b ps e => ⟨#[], by rw [e]; simp⟩) (fun m hm => ?_) (fun b u e => ?_) I.bare
  · have e : b = it := by simpa using hb
    subst e
    exact ⟨h1, hL, h2, h3⟩
  · obtain ⟨o, es, ep, ho, r⟩ := hm
    exact ⟨o, es, ep, k _ o (Ne.symm hL) ho, r⟩
  · refine (I.hok b u e).stay (fun c v hc q => k c v ?_ q) (fun _ q => q) fun _ _ q => q
    rcases hc with z | z
    · rw [z]; exact nit b u e
    · exact nit c _ z
theorem Inv.tok (I : Inv X pins σ H s) (t : Nat) : Inv X pins σ H { s with toks := t } := I.un (h' := s.heap) (t' := t) Un.refl I.hok
/-- all objects kept -/
theorem Inv.kept {t' : Nat} (I : Inv X pins σ H s) (k : ∀ b u, s.heap.get? b = some u → h'.get? b = some u) : Inv X pins σ H { s with heap := h', toks := t' } := I.un (Un.kept k) (I.hok.kept k)
/-- a new object laid and tracked -/
theorem Inv.laid {a : Addr} {o : HO} {t' : Nat} (I : Inv X pins σ H s) (k : ∀ b u, s.heap.get? b = some u → h'.get? b = some u) (hp : s.heap.objs.size ≤ a) (new : ObjOk X.prog X.w (upd H a o) h' a o) :
    Inv X pins σ (upd H a o) { s with heap := h', toks := t' } := I.un (Un.laid k hp (I.hok.fresh hp)) (I.hok.laid k hp new)
/-- an object written -/
theorem Inv.write {x e : Addr} {o : HO} {t' : Nat} (I : Inv X pins σ H s) (mu : Mut (H x)) (he : e = x ∨ H e = some (.own x)) (k : ∀ b u, b ≠ e → s.heap.get? b = some u → h'.get? b = some u) (heo : ∃ u, h'.get? e = some u)
    (new : ObjOk X.prog X.w (upd H x o) h' x o) : Inv X pins σ (upd H x o) { s with heap := h', toks := t' } := I.un (Un.write mu he k heo) (I.hok.write mu he k heo new)
theorem Inv.pins_of {pins' : List (Addr × Obj)} (I : Inv X pins σ H s) (h : ∀ p ∈ pins', s.heap.get? p.1 = some p.2 ∧ H p.1 = none ∧ p.1 ≠ X.env.locals ∧ p.1 ∉ X.fs ∧ ∀ v, p.2.data ≠ .cell v) : Inv X pins' σ H s :=
  ⟨I.ok, I.os, I.bare, I.base, I.loc, I.cell, I.free, I.freeC, fun p hp => (List.mem_append.mp hp).elim (fun z => I.pin p (List.mem_append_left _ z)) (h p), I.hok, I.len⟩

theorem nodup_ix {N : List Str} (hN : N.Nodup) {i j : Nat} {x : Str} (a : N[i]? = some x) (b : N[j]? = some x) : i = j := by
  obtain ⟨h1, e1⟩ := List.getElem?_eq_some_iff.mp a
  obtain ⟨h2, e2⟩ := List.getElem?_eq_some_iff.mp b
  exact (List.getElem_inj hN).mp (e1.trans e2.symm)

/-- a name is stored; what changed -/
theorem store_ok2 {M : Model} {A : Around} {E : Value → Shared → Prop} {i : Nat} {x : Str} {v : V} {u : Value} {Q : Unit → Shared → Prop} (I : Inv X pins σ H s) (hN : X.N.Nodup) (hi : X.N[i]? = some x) (hx : Loc X.env.scope x) (r : RelV v u)
    (h : ∀ s', Inv X pins (σ.set i (some v)) H s' → (∃ a, Heap.SameBut a s.heap s'.heap ∧ (a = X.env.locals ∨ X.env.cells.lookup x = some a)) → Q () s') (hf : X.fn x = true ∨ X.env.scope.names.lookup x = some .local := by first | exact .inl rfl | exact .inr rfl | assumption) : wpAny M A (storeName X.env x u) Q E s := by
  obtain ⟨m, hn, hl⟩ := id I.loc
  have hcls : (X.env.scope.kind == .class || (X.env.scope.kind == .module && X.env.locals != X.env.globals)) = false := by rw [I.ok.kind]; rfl
  have hiσ : i < σ.length := by rw [I.len]; exact (List.getElem?_eq_some_iff.mp hi).1
  have cne := I.cne
  have tracked : ∀ {a : Addr} {h' : Heap}, (∃ o, s.heap.get? a = some o ∧ H a = none) → Heap.SameBut a s.heap h' → HOk X.prog X.w H h' := fun {a h'} ha hs b ob e => by
    obtain ⟨_, _, hfree⟩ := ha
    refine (I.hok b ob e).stay (fun c w' hc q => (hs.2 c ?_).trans q) (fun _ q => q) fun _ _ q => q
    rintro rfl
    rcases hc with rfl | hc
    · rw [hfree] at e; cases e
    · rw [hfree] at hc; cases hc
  rcases hx with hk | hk
  · refine wpAny_storeName_local hk hn (fun h' hn' hs => ?_) hcls
    obtain ⟨oL, _, _, hoL, _⟩ := id hn
    refine h _ ⟨I.ok, I.os, I.bare, ⟨fun b o e n hb hx => ?_, fun b o e n hb hx => ?_, I.base.free, fun b o e hx => ?_, I.base.tups, I.base.frzs, I.base.tbls⟩, ⟨_, hn', fun j y v' e1 e2 e3 => ?_⟩, fun y c e => ?_, I.free, I.freeC, fun p hp => ?_, tracked ⟨oL, hoL, I.free⟩ hs, by simpa using I.len⟩ ⟨_, hs, .inl rfl⟩
    · exact (hs.2 b (Nat.ne_of_lt (Nat.lt_of_lt_of_le (Heap.lt_size e) I.ok.above))).trans (I.base.keep b o e n hb hx)
    · obtain ⟨sl, e1⟩ := I.base.slot b o e n hb hx
      exact ⟨sl, (hs.2 b (Nat.ne_of_lt (Nat.lt_of_lt_of_le (Heap.lt_size e) I.ok.above))).trans e1⟩
    · obtain ⟨o', e1⟩ := I.base.there b o e hx
      exact ⟨o', (hs.2 b (Nat.ne_of_lt (Nat.lt_of_lt_of_le (Heap.lt_size e) I.ok.above))).trans e1⟩
    · by_cases hj : j = i
      · subst hj
        rw [hi] at e1; cases e1
        rw [List.getElem?_set_self hiσ] at e2
        cases e2
        exact ⟨u, r, .inl ⟨hk, by simp⟩⟩
      · rw [List.getElem?_set_ne (Ne.symm hj)] at e2
        obtain ⟨u', r', q⟩ := hl j y v' e1 e2 e3
        refine ⟨u', r', ?_⟩
        rcases q with ⟨k, e⟩ | ⟨k, c, e, z⟩
        · refine .inl ⟨k, ?_⟩
          have : y ≠ x := fun e => hj (nodup_ix hN e1 (e ▸ hi))
          simp [this, e]
        · exact .inr ⟨k, c, e, z.sameBut hs (cne y c e)⟩
    · obtain ⟨w', z⟩ := I.cell y c e
      exact ⟨w', z.sameBut hs (cne y c e)⟩
    · obtain ⟨e, n, ne, nf, d⟩ := I.pin p hp
      exact ⟨(hs.2 p.1 ne).trans e, n, ne, nf, d⟩
  · have hfn : X.fn x = true := by
      rcases hf with z | z
      · exact z
      · rw [z] at hk; cases hk
    obtain ⟨c, hc⟩ := I.ok.has x (.inl hk)
    obtain ⟨w', z⟩ := I.cell x c hc
    refine wpAny_storeName_cell I.ok.kind hk hc z (fun h' hc' hs => ?_)
    obtain ⟨oc, hoc, hocd⟩ := id z
    refine h { s with heap := h' } ⟨I.ok, I.os, I.bare, ⟨fun b o e n hb hx => ?_, fun b o e n hb hx => ?_, I.base.free, fun b o e hx => ?_, I.base.tups, I.base.frzs, I.base.tbls⟩, ⟨m, hn.sameBut hs (Ne.symm (cne x c hc)), fun j y v' e1 e2 e3 => ?_⟩, fun y c' e => ?_, I.free, I.freeC, fun p hp => ?_, tracked ⟨oc, hoc, I.freeC x c hc⟩ hs, by simpa using I.len⟩ ⟨c, hs, .inr hc⟩
    · exact (hs.2 b (Nat.ne_of_lt (Nat.lt_of_lt_of_le (Heap.lt_size e) (I.ok.cab x c hfn hc)))).trans (I.base.keep b o e n hb hx)
    · obtain ⟨sl, e1⟩ := I.base.slot b o e n hb hx
      exact ⟨sl, (hs.2 b (Nat.ne_of_lt (Nat.lt_of_lt_of_le (Heap.lt_size e) (I.ok.cab x c hfn hc)))).trans e1⟩
    · obtain ⟨o', e1⟩ := I.base.there b o e hx
      exact ⟨o', (hs.2 b (Nat.ne_of_lt (Nat.lt_of_lt_of_le (Heap.lt_size e) (I.ok.cab x c hfn hc)))).trans e1⟩
    · by_cases hj : j = i
      · subst hj
        rw [hi] at e1; cases e1
        rw [List.getElem?_set_self hiσ] at e2
        cases e2
        exact ⟨u, r, .inr ⟨.inl hk, c, hc, hc'⟩⟩
      · rw [List.getElem?_set_ne (Ne.symm hj)] at e2
        obtain ⟨u', r', q⟩ := hl j y v' e1 e2 e3
        refine ⟨u', r', ?_⟩
        rcases q with q | ⟨k, c', e, z'⟩
        · exact .inl q
        · refine .inr ⟨k, c', e, z'.sameBut hs ?_⟩
          rintro rfl
          exact hj (nodup_ix hN e1 (I.ok.inj _ _ _ e hc ▸ hi))
    · by_cases hcc : c' = c
      · subst hcc; exact ⟨_, hc'⟩
      · obtain ⟨w2, z2⟩ := I.cell y c' e
        exact ⟨w2, z2.sameBut hs hcc⟩
    · obtain ⟨e, n, ne, nf, d⟩ := I.pin p hp
      refine ⟨(hs.2 p.1 ?_).trans e, n, ne, nf, d⟩
      intro q
      rw [q, hoc] at e
      have q' : oc = p.2 := Option.some.inj e
      exact d w' (by rw [← q']; exact hocd)
theorem store_ok {M : Model} {A : Around} {E : Value → Shared → Prop} {i : Nat} {x : Str} {v : V} {u : Value} {Q : Unit → Shared → Prop} (I : Inv X pins σ H s) (hN : X.N.Nodup) (hi : X.N[i]? = some x) (hx : Loc X.env.scope x) (r : RelV v u)
    (h : ∀ s', Inv X pins (σ.set i (some v)) H s' → Q () s') (hf : X.fn x = true ∨ X.env.scope.names.lookup x = some .local := by first | exact .inl rfl | exact .inr rfl | assumption) : wpAny M A (storeName X.env x u) Q E s :=
  store_ok2 I hN hi hx r (fun s' I' _ => h s' I') hf
/-- behind a call or a block, the state as it is -/
theorem Inv.call' {s' : Shared} {ch : List Addr} (I : Inv X pins σ H s) (ho : s'.os = s.os) (u : Un (frs X.stack) ch H H' s.heap s'.heap) (hok : HOk X.prog X.w H' s'.heap) (hg : AllBare s'.gens)
    (hch : ∀ b ∈ ch, (b ∈ X.ex ∨ X.s₀.heap.objs.size ≤ b) ∧ b ≠ X.env.locals ∧ (∀ x c, X.env.cells.lookup x = some c → c ≠ b) ∧ ∀ p ∈ X.pn ++ pins, p.1 ≠ b) : Inv X pins σ H' s' := by
  obtain ⟨h', g', d', t', o'⟩ := s'
  have e : o' = s.os := ho
  subst e
  exact I.call (g' := g') (t' := t') (d' := d') u hok hg hch
end

/-! ### the judgements -/
/-- an exception: its class, its own dict's address (where it has one), the abstract heap behind it -/
abbrev XK := Value → Option Addr → Hp → Prop
abbrev St := List (Option V)
abbrev VK := V → Hp → Prop
/-- an expression's reading; a test's; an argument list's -/
abbrev TE := St → Hp → VK → Prop
abbrev TT := St → Hp → (Bool → Hp → Prop) → Prop
abbrev TA := St → Hp → (List V → Hp → Prop) → Prop
/-- what is wanted behind a statement -/
structure Ends where
  nx : St → Hp → Prop
  rt : VK
  bk : St → Hp → Prop := fun _ _ => False
  ct : St → Hp → Prop := fun _ _ => False
abbrev TS := Ends → St → Hp → Prop

def EP (X : Cx) (pins : List (Addr × Obj)) (σ : St) (Q : VK) (u : Value) (s' : Shared) : Prop := ∃ v H', Inv X pins σ H' s' ∧ RelV v u ∧ Q v H'
def TP (X : Cx) (pins : List (Addr × Obj)) (σ : St) (Q : Bool → Hp → Prop) (b : Bool) (s' : Shared) : Prop := ∃ H', Inv X pins σ H' s' ∧ Q b H'
def AP (X : Cx) (pins : List (Addr × Obj)) (σ : St) (Q : List V → Hp → Prop) (us : List Value) (s' : Shared) : Prop := ∃ vs H', Inv X pins σ H' s' ∧ Vals vs us ∧ Q vs H'
def SP (X : Cx) (pins : List (Addr × Obj)) (D : Ends) (f : Flow) (s' : Shared) : Prop :=
  match f with
  | .next => ∃ σ' H', Inv X pins σ' H' s' ∧ D.nx σ' H'
  | .brk => ∃ σ' H', Inv X pins σ' H' s' ∧ D.bk σ' H'
  | .cont => ∃ σ' H', Inv X pins σ' H' s' ∧ D.ct σ' H'
  | .ret u => ∃ v σ' H', Inv X pins σ' H' s' ∧ RelV v u ∧ D.rt v H'

def PE (X : Cx) (e : Expr) (t : TE) : Prop :=
  ∀ (pins : List (Addr × Obj)) (s : Shared) (σ : St) (H : Hp) (Q : VK), Inv X pins σ H s → t σ H Q → wpAny (model X.prog X.w) X.A (eval e X.env) (EP X pins σ Q) X.xe s
def PT (X : Cx) (e : Expr) (t : TT) : Prop :=
  ∀ (pins : List (Addr × Obj)) (s : Shared) (σ : St) (H : Hp) (Q : Bool → Hp → Prop), Inv X pins σ H s → t σ H Q → wpAny (model X.prog X.w) X.A (isTrue e X.env (eval e X.env)) (TP X pins σ Q) X.xe s
/-- a test whatever its 'whole' is (and, or) -/
def PW (X : Cx) (e : Expr) (t : TT) : Prop :=
  ∀ (whole : Sem Value) (pins : List (Addr × Obj)) (s : Shared) (σ : St) (H : Hp) (Q : Bool → Hp → Prop), Inv X pins σ H s → t σ H Q → wpAny (model X.prog X.w) X.A (isTrue e X.env whole) (TP X pins σ Q) X.xe s
theorem PW.pt {X : Cx} {e : Expr} {t : TT} (h : PW X e t) : PT X e t := h _
/-- an argument list (no star), from the left -/
def PA (X : Cx) (es : List Expr) (t : TA) : Prop :=
  ∀ (pos : Pos) (pins : List (Addr × Obj)) (s : Shared) (σ : St) (H : Hp) (Q : List V → Hp → Prop), Inv X pins σ H s → t σ H Q → wpAny (model X.prog X.w) X.A (spliced (backTo pos (starEach es X.env))) (AP X pins σ Q) X.xe s
def PS (X : Cx) (st : Stmt) (t : TS) : Prop :=
  ∀ (pins : List (Addr × Obj)) (s : Shared) (σ : St) (H : Hp) (D : Ends), Inv X pins σ H s → t D σ H → wpAny (model X.prog X.w) X.A (exec st X.env) (SP X pins D) X.xe s
def PSs (X : Cx) (st : List Stmt) (t : TS) : Prop :=
  ∀ (pins : List (Addr × Obj)) (s : Shared) (σ : St) (H : Hp) (D : Ends), Inv X pins σ H s → t D σ H → wpAny (model X.prog X.w) X.A (execs st X.env) (SP X pins D) X.xe s
/-- weaken the end -/
theorem thn {α : Type} {t : Sem α} {Q Q' : α → Shared → Prop} {M : Model} {A : Around} {E : Value → Shared → Prop} {s : Shared} (h : wpAny M A t Q E s) (hQ : ∀ a s, Q a s → Q' a s) : wpAny M A t Q' E s := wpAny_mono h hQ fun _ _ x => x
end L2

namespace L2
open PySem PySem.Spec PyProof.Rows
section
variable {X : Cx}

/-! ### names and constants -/
def tVar (i : Nat) : TE := fun σ H Q => ∃ v, σ[i]? = some (some v) ∧ Q v H
def tC (v : V) : TE := fun _ H Q => Q v H
theorem pe_var {i : Nat} {x : Str} {pos : Pos} (hN : X.N[i]? = some x) (hv : Vis X.env.scope x) (hd : (x == ("__debug__" : Str)) = false := by decide) (hcd : (x == ("__classdict__" : Str)) = false := by decide) : PE X (.Name x pos) (tVar i) := by
  intro pins s σ H Q I h
  obtain ⟨v, e, h⟩ := h
  obtain ⟨m, hn, hl⟩ := I.loc
  obtain ⟨u, r, l⟩ := hl i x v hN e hv
  have fin : EP X pins σ Q u s := ⟨v, H, I, r, h⟩
  rcases l with ⟨hk, hm⟩ | ⟨hk, c, hc, hcell⟩
  · exact wpAny_Name (wpAny_loadName_local I.ok.kind hk hn hm fin) hd
  · rcases hk with hk | hk
    · exact wpAny_Name (wpAny_loadName_cell I.ok.kind hk hc hcell fin) hd
    · exact wpAny_Name (wpAny_loadName_free I.ok.kind hk hc hcell fin hcd) hd
theorem pe_int {i j pos} : PE X (.Constant (.int i) j pos) (tC (.int i)) := fun _ _ _ H _ I h => wpAny_Constant_int ⟨.int i, H, I.tok _, ⟨_, rfl⟩, h⟩
theorem pe_bl {b j pos} : PE X (.Constant (.bool b) j pos) (tC (.bl b)) := fun _ _ _ H _ I h => Constant_bool ⟨.bl b, H, I, rfl, h⟩
theorem pe_str {x j pos} : PE X (.Constant (.str x) j pos) (tC (.str x)) := fun _ _ _ H _ I h => Calls.Constant_str ⟨.str x, H, I.tok _, ⟨_, rfl⟩, h⟩

/-- a global name of the def -/
def Gl (X : Cx) (x : Str) : Prop := X.env.kindOf x = some .globalImplicit
theorem ld_glob {E : Value → Shared → Prop} {pins : List (Addr × Obj)} {s : Shared} {σ : St} {H : Hp} {x : Str} {u : Value} {pos : Pos} {Q : Value → Shared → Prop} (I : Inv X pins σ H s) (hg : Gl X x) (hm : X.mg x = some u) (h : Q u s)
    (hd : (x == ("__debug__" : Str)) = false := by decide) : wpAny (model X.prog X.w) X.A (eval (.Name x pos) X.env) Q E s :=
  Calls.Name_function_global I.ok.kind hg (Calls.loadGlobal_global (by rw [I.ok.glob]; exact I.mod.glob.keeps I.bk) hm h) hd
theorem ld_blt {E : Value → Shared → Prop} {pins : List (Addr × Obj)} {s : Shared} {σ : St} {H : Hp} {x : Str} {u : Value} {pos : Pos} {Q : Value → Shared → Prop} (I : Inv X pins σ H s) (hg : Gl X x) (hm : X.mg x = none) (hv : bootBuiltins x = some u) (h : Q u s)
    (hn : x ≠ "__name__" := by decide) (hd : (x == ("__debug__" : Str)) = false := by decide) : wpAny (model X.prog X.w) X.A (eval (.Name x pos) X.env) Q E s := by
  obtain ⟨mb, h1, h2⟩ := I.mod.blt
  exact Calls.Name_function_global I.ok.kind hg (Calls.loadGlobal_builtin (by rw [I.ok.glob]; exact I.mod.glob.keeps I.bk) hm (by rw [I.ok.blt]; exact h1.keeps I.bk) ((h2 x hn).trans hv) h) hd
/-- a module's constant, a class, a function, as a value -/
theorem pe_glob {x : Str} {v : V} {u : Value} {pos : Pos} (hg : Gl X x) (hm : X.mg x = some u) (r : RelV v u) (hd : (x == ("__debug__" : Str)) = false := by decide) : PE X (.Name x pos) (tC v) :=
  fun _ _ _ H _ I h => ld_glob I hg hm ⟨v, H, I, r, h⟩ hd
theorem pe_bltn {x : Str} {v : V} {u : Value} {pos : Pos} (hg : Gl X x) (hm : X.mg x = none) (hv : bootBuiltins x = some u) (r : RelV v u) (hn : x ≠ "__name__" := by decide) (hd : (x == ("__debug__" : Str)) = false := by decide) : PE X (.Name x pos) (tC v) :=
  fun _ _ _ H _ I h => ld_blt I hg hm hv ⟨v, H, I, r, h⟩ hn hd

/-! ### arithmetic -/
variable {a b : Expr} {ta tb : TE} {pos : Pos}
/-! ### comparisons -/
/-- a comparison as a value, as a test -/
def tB (t : TE) : TT := fun σ H Q => t σ H fun x H1 => ∃ c, x = .bl c ∧ Q c H1
/-- an expression whose value is a bool, as a test -/
theorem pt_val {e : Expr} {t : TE} (h : PE X e t) (he : ∀ whole, isTrue e X.env whole = (do let v ← whole; standAt e.pos; holding [v] (truthy v)) := by intro _; rfl) : PT X e (tB t) := by
  intro pins s σ H Q I hw
  refine isTrue_plain (thn (h pins s σ H _ I hw) fun v s1 ⟨x, H1, I1, r1, q1⟩ => ?_) (he _)
  obtain ⟨d, rfl, q⟩ := q1
  cases r1
  exact wpAny_truthy_bool ⟨H1, I1, q⟩

/-! ### and, or, not -/
variable {tA tB' : TT} {rest : List Expr}
def tAnd (t u : TT) : TT := fun σ H Q => t σ H fun c H1 => if c = true then u σ H1 Q else Q false H1
def tOr (t u : TT) : TT := fun σ H Q => t σ H fun c H1 => if c = true then Q true H1 else u σ H1 Q
def tNot (t : TT) : TT := fun σ H Q => t σ H fun c H1 => Q (!c) H1
theorem pw_and1 (ha : PT X a tA) : PW X (.BoolOp .And [a] pos) tA := by
  intro wh pins s σ H Q I h
  refine isTrue_and (thn (ha pins s σ H Q I h) fun c s1 e => ?_)
  cases c with
  | true => exact isTrue_and_nil e
  | false => exact e
theorem pw_or1 (ha : PT X a tA) : PW X (.BoolOp .Or [a] pos) tA := by
  intro wh pins s σ H Q I h
  refine isTrue_or (thn (ha pins s σ H Q I h) fun c s1 e => ?_)
  cases c with
  | false => exact isTrue_or_nil e
  | true => exact e
theorem pw_and (ha : PT X a tA) (hb : PW X (.BoolOp .And (b :: rest) pos) tB') : PW X (.BoolOp .And (a :: b :: rest) pos) (tAnd tA tB') := by
  intro wh pins s σ H Q I h
  refine isTrue_and (thn (ha pins s σ H _ I h) fun c s1 ⟨H1, I1, q1⟩ => ?_)
  cases c with
  | true => exact hb wh pins s1 σ H1 Q I1 q1
  | false => exact ⟨H1, I1, q1⟩
theorem pw_or (ha : PT X a tA) (hb : PW X (.BoolOp .Or (b :: rest) pos) tB') : PW X (.BoolOp .Or (a :: b :: rest) pos) (tOr tA tB') := by
  intro wh pins s σ H Q I h
  refine isTrue_or (thn (ha pins s σ H _ I h) fun c s1 ⟨H1, I1, q1⟩ => ?_)
  cases c with
  | true => exact ⟨H1, I1, q1⟩
  | false => exact hb wh pins s1 σ H1 Q I1 q1
theorem pt_not (ha : PT X a tA) : PT X (.UnaryOp .Not a pos) (tNot tA) := by
  intro pins s σ H Q I h
  exact isTrue_not (ha pins s σ H (fun c H1 => Q (!c) H1) I h)
/-- .. as values (bools) -/
def tAndV (ta tb : TE) : TE := fun σ H Q => ta σ H fun x H1 => ∃ c, x = .bl c ∧ if c = true then tb σ H1 Q else Q (.bl false) H1
def tOrV (ta tb : TE) : TE := fun σ H Q => ta σ H fun x H1 => ∃ c, x = .bl c ∧ if c = true then Q (.bl true) H1 else tb σ H1 Q
theorem pe_one {op} {t : TE} (h : PE X a t) : PE X (.BoolOp op [a] pos) t := fun pins s σ H Q I hw => BoolOp_one (h pins s σ H Q I hw)
theorem pe_and (ha : PE X a ta) (hb : PE X (.BoolOp .And (b :: rest) pos) tb) : PE X (.BoolOp .And (a :: b :: rest) pos) (tAndV ta tb) := by
  intro pins s σ H Q I h
  refine BoolOp_and (thn (ha pins s σ H _ I h) fun v s1 ⟨x, H1, I1, r1, q1⟩ => ?_)
  obtain ⟨c, rfl, q1⟩ := q1
  cases r1
  refine wpAny_truthy_bool ?_
  cases c with
  | true => exact hb pins s1 σ H1 Q I1 q1
  | false => exact ⟨.bl false, H1, I1, rfl, q1⟩
theorem pe_or (ha : PE X a ta) (hb : PE X (.BoolOp .Or (b :: rest) pos) tb) : PE X (.BoolOp .Or (a :: b :: rest) pos) (tOrV ta tb) := by
  intro pins s σ H Q I h
  refine BoolOp_or (thn (ha pins s σ H _ I h) fun v s1 ⟨x, H1, I1, r1, q1⟩ => ?_)
  obtain ⟨c, rfl, q1⟩ := q1
  cases r1
  refine wpAny_truthy_bool ?_
  cases c with
  | false => exact hb pins s1 σ H1 Q I1 q1
  | true => exact ⟨.bl true, H1, I1, rfl, q1⟩
end
end L2

namespace L2
open PySem PySem.Spec PyProof.Rows

/-! ### a list, a tuple that is read: tracked, frozen, or an object of the module -/
def SqL (K : PySem.W.Frag) (H : Hp) (a : Addr) (xs : List V) : Prop :=
  Rd H a (.lst xs) ∨
    ∃ (o : Obj) (its : Array Value) (n : Nat), K.lookup a = some o ∧ o.cls = .type "list" ∧ o.dict = none ∧ o.data = .seq its n ∧ its.size ≤ sizeLine ∧ Vals xs its.toList
def SqT (K : PySem.W.Frag) (H : Hp) (a : Addr) (xs : List V) : Prop :=
  Rd H a (.tup xs) ∨
    ∃ (o : Obj) (its : Array Value) (n : Nat), K.lookup a = some o ∧ o.cls = .type "tuple" ∧ o.data = .seq its n ∧ its.size ≤ sizeLine ∧ Vals xs its.toList
def absV : Value → Option V
  | .none => some .non
  | .bool b => some (.bl b)
  | .int i _ => some (.int i)
  | .str x _ => some (.str x)
  | .bytes b _ => some (.byt b)
  | .float b _ => some (.flt b)
  | .ref a => some (.ref a)
  | .type n => some (.ty n)
  | _ => none
theorem RelV.abs {x : V} {u : Value} (r : RelV x u) : absV u = some x := by
  cases x with
  | non => cases r; rfl
  | bl _ => cases r; rfl
  | int _ => obtain ⟨t, rfl⟩ := r; rfl
  | str _ => obtain ⟨t, rfl⟩ := r; rfl
  | byt _ => obtain ⟨t, rfl⟩ := r; rfl
  | flt _ => obtain ⟨t, rfl⟩ := r; rfl
  | ref _ => cases r; rfl
  | ty _ => cases r; rfl
theorem RelV.inj {x y : V} {u : Value} (r : RelV x u) (q : RelV y u) : x = y := Option.some.inj (r.abs.symm.trans q.abs)
theorem Vals.inj : ∀ {xs ys : List V} {us : List Value}, Vals xs us → Vals ys us → xs = ys
  | _, _, _, .nil, .nil => rfl
  | _, _, _, .cons r t, .cons r' t' => by rw [r.inj r', Vals.inj t t']
section
variable {X : Cx} {pins : List (Addr × Obj)} {σ : St} {H : Hp} {s : Shared} {a : Addr} {xs ys : List V}
theorem SqL.of {K : PySem.W.Frag} (h : H a = some (.lst xs)) : SqL K H a xs := .inl (.inl h)
theorem SqT.of {K : PySem.W.Frag} (h : H a = some (.tup xs)) : SqT K H a xs := .inl (.inl h)
theorem Inv.list (I : Inv X pins σ H s) (h : SqL X.K H a xs) : ∃ its : List Value, Vals xs its ∧ PlainL s.heap a its.toArray ∧ xs.length ≤ sizeLine := by
  rcases h with h | ⟨o, its, n, hk, hc, hd, hs, hz, r⟩
  · obtain ⟨z, its, n, r, e⟩ := h.ok I.hok
    exact ⟨its, r, ⟨_, n, e, rfl, rfl, rfl⟩, z⟩
  · refine ⟨its.toList, r, ⟨o, n, I.kIn a o hk, hc, hd, by simpa using hs⟩, ?_⟩
    have e := r.length
    simp only [Array.length_toList] at e
    omega
theorem Inv.tuple (I : Inv X pins σ H s) (h : SqT X.K H a xs) : ∃ its : List Value, Vals xs its ∧ IsTup s.heap a its.toArray ∧ xs.length ≤ sizeLine := by
  rcases h with h | ⟨o, its, n, hk, hc, hs, hz, r⟩
  · obtain ⟨z, its, r, p⟩ := h.ok I.hok
    exact ⟨its, r, p, z⟩
  · refine ⟨its.toList, r, ⟨o, I.kIn a o hk, hc, n, by simpa using hs⟩, ?_⟩
    have e := r.length
    simp only [Array.length_toList] at e
    omega
theorem Inv.list_inj (I : Inv X pins σ H s) (h : SqL X.K H a xs) (h' : SqL X.K H a ys) : xs = ys := by
  obtain ⟨its, r, ⟨o, n, e, _, _, d⟩, _⟩ := I.list h
  obtain ⟨its', r', ⟨o', n', e', _, _, d'⟩, _⟩ := I.list h'
  rw [e] at e'; cases e'
  rw [d] at d'
  injection d' with d1 _
  have : its = its' := by simpa using congrArg Array.toList d1
  subst this
  exact r.inj r'
end

/-! ### another wish about exceptions -/
abbrev Cx.wish (X : Cx) (E : Value → Shared → Prop) : Cx := { X with xe := E }
/-- no exception leaves -/
abbrev Cx.nox (X : Cx) : Cx := X.wish fun _ _ => False
theorem Cx.Ok.wish {X : Cx} (ok : X.Ok) (E : Value → Shared → Prop) : (X.wish E).Ok :=
  ⟨ok.mod, ok.kind, ok.glob, ok.blt, ok.above, ok.inj, ok.has, ok.cab, ok.hd, ok.frames, ok.stk, ok.exf, ok.bs, ok.bsz, ok.noex, ok.exfs, ok.funs, ok.frf⟩
theorem Cx.Ok.unwish {X : Cx} {E : Value → Shared → Prop} (ok : (X.wish E).Ok) : X.Ok :=
  ⟨ok.mod, ok.kind, ok.glob, ok.blt, ok.above, ok.inj, ok.has, ok.cab, ok.hd, ok.frames, ok.stk, ok.exf, ok.bs, ok.bsz, ok.noex, ok.exfs, ok.funs, ok.frf⟩
section
variable {X : Cx} {pins : List (Addr × Obj)} {σ : St} {H : Hp} {s : Shared} {E : Value → Shared → Prop}
theorem Inv.wish (I : Inv X pins σ H s) (E : Value → Shared → Prop) : Inv (X.wish E) pins σ H s := ⟨I.ok.wish E, I.os, I.bare, I.base, I.loc, I.cell, I.free, I.freeC, I.pin, I.hok, I.len⟩
theorem Inv.unwish (I : Inv (X.wish E) pins σ H s) : Inv X pins σ H s := ⟨I.ok.unwish, I.os, I.bare, I.base, I.loc, I.cell, I.free, I.freeC, I.pin, I.hok, I.len⟩
theorem SP.unwish {D : Ends} {f : Flow} {s' : Shared} (h : SP (X.wish E) pins D f s') : SP X pins D f s' := by
  cases f with
  | next => obtain ⟨σ', H', I, q⟩ := h; exact ⟨σ', H', I.unwish, q⟩
  | brk => obtain ⟨σ', H', I, q⟩ := h; exact ⟨σ', H', I.unwish, q⟩
  | cont => obtain ⟨σ', H', I, q⟩ := h; exact ⟨σ', H', I.unwish, q⟩
  | ret u => obtain ⟨v, σ', H', I, r, q⟩ := h; exact ⟨v, σ', H', I.unwish, r, q⟩
theorem PSs.nox {st : List Stmt} {t : TS} (h : PSs X.nox st t) : PSs X st t := fun pins s σ H D I hw =>
  wpAny_mono (h pins s σ H D (I.wish _) hw) (fun _ _ q => q.unwish) fun _ _ z => False.elim z
end

/-! ### blocks and small statements -/
section
variable {X : Cx} {st : Stmt} {rest : List Stmt} {t u : TS} {e : Expr} {te : TE} {pos : Pos}
def tNext : TS := fun D σ H => D.nx σ H
def tSeq (t u : TS) : TS := fun D σ H => t { D with nx := u D } σ H
theorem pss_nil : PSs X [] tNext := fun _ _ σ H _ I h => wpAny_execs_nil ⟨σ, H, I, h⟩
theorem pss_cons (h1 : PS X st t) (h2 : PSs X rest u) : PSs X (st :: rest) (tSeq t u) := by
  intro pins s σ H D I h
  refine wpAny_execs_cons (thn (h1 pins s σ H { D with nx := u D } I h) fun f s1 q => ?_)
  cases f with
  | next =>
    obtain ⟨σ', H', I', q⟩ := q
    exact h2 pins s1 σ' H' D I' q
  | ret v => exact q
  | brk => exact q
  | cont => exact q
theorem pss_one (h1 : PS X st t) : PSs X [st] t := by
  intro pins s σ H D I h
  refine wpAny_execs_cons (thn (h1 pins s σ H D I h) fun f s1 q => ?_)
  cases f with
  | next => exact wpAny_execs_nil q
  | ret v => exact q
  | brk => exact q
  | cont => exact q
/-- in a def's body nothing is shown -/
theorem Inv.quiet {pins : List (Addr × Obj)} {σ : St} {H : Hp} {s : Shared} (I : Inv X pins σ H s) : interactive X.env = false := by simp [interactive, I.ok.kind]
/-- an expression whose value is dropped -/
def tDrop (te : TE) : TS := fun D σ H => te σ H fun _ H1 => D.nx σ H1
theorem ps_expr (he : PE X e te) (hs : swapsWith e none pos.line X.env = pure false := by rfl) : PS X (.Expr e pos) (tDrop te) := by
  intro pins s σ H D I h
  exact wpAny_Expr_any (thn (he pins s σ H _ I h) fun v s1 ⟨x, H1, I1, r1, q1⟩ => ⟨σ, H1, I1, q1⟩) I.quiet hs
def tRet (te : TE) : TS := fun D σ H => te σ H D.rt
theorem ps_ret (he : PE X e te) : PS X (.Return (some e) pos) (tRet te) := by
  intro pins s σ H D I h
  exact wpAny_Return_some (thn (he pins s σ H _ I h) fun v s1 ⟨x, H1, I1, r1, q1⟩ => ⟨x, σ, H1, I1, r1, q1⟩)
def tIfS (c : TT) (t u : TS) : TS := fun D σ H => c σ H fun b H1 => if b = true then t D σ H1 else u D σ H1
theorem ps_if {c : Expr} {a b : List Stmt} {tc : TT} (hc : PT X c tc) (ha : PSs X a t) (hb : PSs X b u) : PS X (.If c a b pos) (tIfS tc t u) := by
  intro pins s σ H D I h
  refine wpAny_If (thn (hc pins s σ H _ I h) fun d s1 ⟨H1, I1, q1⟩ => ?_)
  cases d with
  | true => exact ha pins s1 σ H1 D I1 q1
  | false => exact hb pins s1 σ H1 D I1 q1
/-- code that the proof never comes to -/
def tNever : TS := fun _ _ _ => False
theorem ps_never : PS X st tNever := fun _ _ _ _ _ _ h => h.elim
end

/-! ### targets -/
abbrev TG := V → St → Hp → (St → Hp → Prop) → Prop
abbrev TGs := List V → St → Hp → (St → Hp → Prop) → Prop
def PG (X : Cx) (target : Expr) (t : TG) : Prop :=
  ∀ (pins : List (Addr × Obj)) (s : Shared) (σ : St) (H : Hp) (v : V) (u : Value) (Q : St → Hp → Prop), Inv X pins σ H s → RelV v u → t v σ H Q →
    wpAny (model X.prog X.w) X.A (assign target X.env u) (fun _ s' => ∃ σ' H', Inv X pins σ' H' s' ∧ Q σ' H') X.xe s
/-- several targets, one after another -/
def PGs (X : Cx) (ts : List Expr) (t : TGs) : Prop :=
  ∀ (pins : List (Addr × Obj)) (s : Shared) (σ : St) (H : Hp) (vs : List V) (us : List Value) (Q : St → Hp → Prop), Inv X pins σ H s → Vals vs us → t vs σ H Q →
    wpAny (model X.prog X.w) X.A (assignInOrder ((assignEach ts X.env).map (·.2)) us) (fun _ s' => ∃ σ' H', Inv X pins σ' H' s' ∧ Q σ' H') X.xe s
/-- o[i] = v, by values -/
abbrev TSet := V → V → V → Hp → (Hp → Prop) → Prop
def PSet (X : Cx) (t : TSet) : Prop :=
  ∀ (pins : List (Addr × Obj)) (s : Shared) (σ : St) (H : Hp) (o i v : V) (ov iv u : Value) (Q : Hp → Prop), Inv X pins σ H s → RelV o ov → RelV i iv → RelV v u → t o i v H Q →
    wpAny (model X.prog X.w) X.A (setItem ov iv u) (fun _ s' => ∃ H', Inv X pins σ H' s' ∧ Q H') X.xe s
section
variable {X : Cx} {pos : Pos}
def gName (i : Nat) : TG := fun v σ H Q => Q (σ.set i (some v)) H
theorem pg_name {i : Nat} {x : Str} (hN : X.N.Nodup) (hi : X.N[i]? = some x) (hx : Loc X.env.scope x) (hf : X.fn x = true ∨ X.env.scope.names.lookup x = some .local := by first | exact .inl rfl | exact .inr rfl | assumption) : PG X (.Name x pos) (gName i) := by
  intro pins s σ H v u Q I r h
  exact wpAny_assign_Name (store_ok I hN hi hx r (fun s' I' => ⟨_, H, I', h⟩) hf)
def gNil : TGs := fun vs σ H Q => vs = [] ∧ Q σ H
def gCons (t : TG) (u : TGs) : TGs := fun vs σ H Q => ∃ v r, vs = v :: r ∧ t v σ H fun σ' H' => u r σ' H' Q
theorem pgs_nil : PGs X [] gNil := by
  intro pins s σ H vs us Q I r h
  obtain ⟨e, h⟩ := h
  subst e
  cases r
  exact assignInOrder_nil ⟨σ, H, I, h⟩
theorem pgs_cons {e : Expr} {es : List Expr} {t : TG} {u : TGs} (h1 : PG X e t) (h2 : PGs X es u)
    (hs : (assignEach (e :: es) X.env).map (·.2) = assign e X.env :: (assignEach es X.env).map (·.2) := by rfl) : PGs X (e :: es) (gCons t u) := by
  intro pins s σ H vs us Q I r h
  obtain ⟨v, vr, e1, h⟩ := h
  subst e1
  cases r with
  | cons r rr =>
    rw [hs]
    refine assignInOrder_cons (thn (h1 pins s σ H _ _ _ I r h) fun _ s1 ⟨σ1, H1, I1, q1⟩ => ?_)
    exact h2 pins s1 σ1 H1 _ _ Q I1 rr q1
/-- (a, b, ..) = a tuple of that length -/
def gTup (K : PySem.W.Frag) (n : Nat) (t : TGs) : TG := fun v σ H Q => ∃ a xs, v = .ref a ∧ SqT K H a xs ∧ xs.length = n ∧ t xs σ H Q
theorem pg_tup {es : List Expr} {k : Nat} {t : TGs} {n : Nat} (hc : X.calm = true) (h : PGs X es t)
    (hn : (assignEach es X.env).length = n := by rfl) (hst : (assignEach es X.env).findIdx? (·.1) = none := by rfl) : PG X (.Tuple es k pos) (gTup X.K n t) := by
  intro pins s σ H v u Q I r hw
  obtain ⟨a, xs, e1, hq, hl, hw⟩ := hw
  subst e1
  cases r
  obtain ⟨its, rv, ht, hz⟩ := I.tuple hq
  refine assign_Tuple_tuple (I.ok.hd hc) ht (by simp [hn, ← hl, rv.length]) hst fun h' hx => ?_
  have I1 : Inv X pins σ H { s with heap := h' } := I.kept (t' := s.toks) fun b o e => hx b o (Nat.ne_of_lt (Heap.lt_size e)) e
  exact h pins _ σ H xs _ Q I1 (by simpa using rv) hw
/-- o[i] = .. -/
def gSub (to ti : TE) (t : TSet) : TG := fun v σ H Q => to σ H fun o H1 => ti σ H1 fun i H2 => t o i v H2 fun H3 => Q σ H3
theorem pg_sub {o i : Expr} {to ti : TE} {t : TSet} (ho : PE X o to) (hi : PE X i ti) (hs : PSet X t)
    (ha : ∀ v, assign (.Subscript o i pos) X.env v = (do
      let ov ← holding [v] (eval o X.env)
      let iv ← holding [v, ov] (eval i X.env)
      standAt pos
      holding [v, ov, iv] (setItem ov iv v)
      release [v, ov, iv] []) := by intro _; rfl) : PG X (.Subscript o i pos) (gSub to ti t) := by
  intro pins s σ H v u Q I r h
  rw [ha]
  refine wpAny_bind (wpAny_holding (thn (ho pins s σ H _ I h) fun ov s1 ⟨x, H1, I1, r1, q1⟩ => ?_))
  refine wpAny_bind (wpAny_holding (thn (hi pins s1 σ H1 _ I1 q1) fun iv s2 ⟨y, H2, I2, r2, q2⟩ => ?_))
  refine wpAny_bind (wpAny_standAt (wpAny_bind (wpAny_holding (thn (hs pins s2 σ H2 x y v ov iv u _ I2 r1 r2 r q2) fun _ s3 ⟨H3, I3, q3⟩ => ?_))))
  exact wpAny_release ⟨σ, H3, I3, q3⟩
/-- target = value -/
def tAsg (te : TE) (g : TG) : TS := fun D σ H => te σ H fun x H1 => g x σ H1 D.nx
theorem ps_asg {tg e : Expr} {te : TE} {g : TG} (he : PE X e te) (hg : PG X tg g) (hs : swapsWithSole [tg] e pos.line X.env = pure false := by rfl) (hw : swappedStores [tg] e X.env = pure none := by rfl)
    (h1 : (assignEach [tg] X.env).map (·.2) = [assign tg X.env] := by rfl) : PS X (.Assign [tg] e pos) (tAsg te g) := by
  intro pins s σ H D I h
  refine wpAny_Assign_stores (thn (he pins s σ H _ I h) fun v s1 ⟨x, H1, I1, r1, q1⟩ => ?_) hs hw
  rw [h1]
  exact thn (hg pins s1 σ H1 x v _ I1 r1 q1) fun _ s2 q => q
/-- name = value -/
theorem ps_set {i : Nat} {x : Str} {e : Expr} {te : TE} {pos' : Pos} (hN : X.N.Nodup) (hi : X.N[i]? = some x) (hx : Loc X.env.scope x) (he : PE X e te) (hs : swapsWith e (some (.Name x pos')) pos.line X.env = pure false := by rfl) (hf : X.fn x = true ∨ X.env.scope.names.lookup x = some .local := by first | exact .inl rfl | exact .inr rfl | assumption) :
    PS X (.Assign [.Name x pos'] e pos) (tAsg te (gName i)) := by
  intro pins s σ H D I h
  refine wpAny_Assign_Name (thn (he pins s σ H _ I h) fun v s1 ⟨y, H1, I1, r1, q1⟩ => ?_) hs
  exact store_ok I1 hN hi hx r1 (fun s2 I2 => ⟨_, H1, I2, q1⟩) hf
end

/-! ### while -/
section
variable {X : Cx} {pos : Pos}
end

/-! ### what a loop or a comprehension walks -/
/-- at turn i: it yields x (the heap may grow), or it stops -/
structure It where
  go : Nat → Hp → Prop
  yld : Nat → Hp → V → Hp → Prop
  stop : Nat → Hp → Prop
/-- the iterator's own objects may turn: they are not the frame's, not pinned, younger than the entry (or a comprehension's own) -/
def FpOk (X : Cx) (pins : List (Addr × Obj)) (H : Hp) (b : Addr) : Prop :=
  H b = none ∧ b ≠ X.env.locals ∧ b ∉ X.fs ∧ (b ∈ X.ex ∨ X.s₀.heap.objs.size ≤ b) ∧ (∀ x c, X.env.cells.lookup x = some c → c ≠ b) ∧ ∀ p ∈ X.pn ++ pins, p.1 ≠ b
theorem Inv.fpOk {X : Cx} {pins : List (Addr × Obj)} {σ : St} {H H' : Hp} {s : Shared} {b : Addr} (I : Inv X pins σ H s) (hb : s.heap.objs.size ≤ b) (hn : H' b = none) : FpOk X pins H' b := by
  refine ⟨hn, Nat.ne_of_gt (Nat.lt_of_lt_of_le I.lt hb), I.nofs hb, .inr (Nat.le_trans I.sz hb), fun x c e z => ?_, fun p hp z => ?_⟩
  · obtain ⟨v, q⟩ := I.cell x c e
    exact absurd (Nat.lt_of_lt_of_le q.lt (by rw [z]; exact hb)) (Nat.lt_irrefl _)
  · exact absurd (Nat.lt_of_lt_of_le (Heap.lt_size (I.pin p hp).1) (by rw [z]; exact hb)) (Nat.lt_irrefl _)
structure Turn (P : Program) (w : World) (K : PySem.W.Frag) (tg : Expr) (J : It) (fp : List Addr) (it : Addr) (tn : Nat → Heap → Prop) : Prop where
  mem : it ∈ fp
  obj : ∀ i h, tn i h → ∀ b ∈ fp, ∃ o, h.get? b = some o ∧ ∀ v, o.data ≠ .cell v
  keep : ∀ i h h', tn i h → (∀ b ∈ fp, ∀ o, h.get? b = some o → h'.get? b = some o) → tn i h'
  item : ∀ (X : Cx), X.prog = P → X.w = w → X.K = K → X.calm = true → ∀ (i : Nat) (pins : List (Addr × Obj)) (s : Shared) (σ : St) (H : Hp) (E : Value → Shared → Prop), Inv X pins σ H s → (∀ b ∈ fp, FpOk X pins H b) → tn i s.heap → J.go i H →
    wpAny (model P w) X.A (pyNext (.ref it)) (fun r s1 => ∃ u, r = some u ∧
      wpAny (model P w) X.A (letOwnedTupleGo tg (.ref it) u) (fun _ s2 => ∃ x H', Inv X pins σ H' s2 ∧ RelV x u ∧ J.yld i H x H' ∧ tn (i + 1) s2.heap ∧ ∀ b ∈ fp, H' b = none) E s1) E s
  done : ∀ (X : Cx), X.prog = P → X.w = w → X.K = K → X.calm = true → ∀ (i : Nat) (pins : List (Addr × Obj)) (s : Shared) (σ : St) (H : Hp) (E : Value → Shared → Prop), Inv X pins σ H s → (∀ b ∈ fp, FpOk X pins H b) → tn i s.heap → J.stop i H →
    wpAny (model P w) X.A (pyNext (.ref it)) (fun r s1 => r = none ∧ Inv X pins σ H s1) E s
  self : ∀ (A : Around) (i : Nat) (s : Shared) (Q : Value → Shared → Prop) (E : Value → Shared → Prop), tn i s.heap → Q (.ref it) s → wpAny (model P w) A (pyIter (.ref it)) Q E s
abbrev TI := St → Hp → (It → Hp → Prop) → Prop
/-- an iterator has come -/
def PIE (X : Cx) (pins : List (Addr × Obj)) (σ : St) (tg : Expr) (R : It → Hp → Prop) (itv : Value) (s2 : Shared) : Prop :=
  ∃ (it : Addr) (fp : List Addr) (tn : Nat → Heap → Prop) (J : It) (H' : Hp), itv = .ref it ∧ Inv X pins σ H' s2 ∧ Turn X.prog X.w X.K tg J fp it tn ∧ tn 0 s2.heap ∧ (∀ b ∈ fp, FpOk X pins H' b) ∧ R J H'
def PI (X : Cx) (tg iter : Expr) (wi : TI) : Prop :=
  ∀ (pins : List (Addr × Obj)) (s : Shared) (σ : St) (H : Hp) (R : It → Hp → Prop), Inv X pins σ H s → wi σ H R →
    wpAny (model X.prog X.w) X.A (eval iter X.env) (fun v s1 => wpAny (model X.prog X.w) X.A (pyIter v) (PIE X pins σ tg R) X.xe s1) X.xe s

/-- the step ahead of the store is nothing for an iterator that keeps no tuple -/
theorem go_of {M : Model} {A : Around} {E : Value → Shared → Prop} {s : Shared} {tg : Expr} {it : Addr} {u : Value} {o : Obj} {n : String} {vs : Array Value} {Q : Unit → Shared → Prop} (ho : s.heap.get? it = some o) (hc : o.cls = .type n) (hd : o.data = .fields vs)
    (hn : ["enumerate", "zip", "dict_itemiterator", "dict_reverseitemiterator", "odict_iterator", "itertools.zip_longest", "itertools.pairwise"].contains n = false) (hQ : Q () s) : wpAny M A (letOwnedTupleGo tg (.ref it) u) Q E s := by
  unfold letOwnedTupleGo
  cases tg <;> first
    | exact wpAny_pure hQ
    | (cases u <;> first
        | exact wpAny_pure hQ
        | (refine wpAny_bind (wpAny_load ho ?_)
           rw [hc, hd]
           show wpAny M A (if (["enumerate", "zip", "dict_itemiterator", "dict_reverseitemiterator", "odict_iterator", "itertools.zip_longest", "itertools.pairwise"].contains n && vs[0]? == some (rawInt _)) = true then _ else _) Q E s
           rw [if_neg (by intro h; rw [hn, Bool.false_and] at h; cases h)]
           exact wpAny_pure hQ))

/-- the list at a, as it stands at each turn (a loop may append to it) -/
def Itl (K : PySem.W.Frag) (a : Addr) : It :=
  ⟨fun i H => ∃ xs x, SqL K H a xs ∧ xs[i]? = some x, fun i H x H' => H' = H ∧ ∀ xs, SqL K H a xs → xs[i]? = some x, fun i H => ∃ xs, SqL K H a xs ∧ xs.length ≤ i⟩
theorem turn_list {P : Program} {w : World} {K : PySem.W.Frag} {tg : Expr} (a it : Addr) : Turn P w K tg (Itl K a) [it] it (fun i h => h.IsListIter it a i) where
  mem := by simp
  obj := fun i h st b hb => by
    have e : b = it := by simpa using hb
    subst e
    obtain ⟨o, e, c, d⟩ := st
    exact ⟨o, e, fun v z => by rw [d] at z; cases z⟩
  keep := fun i h h' st k => st.at fun o e => k it (by simp) o e
  item := by
    intro X hP hw hK hc i pins s σ H E I hf st hg
    subst hP hw hK
    obtain ⟨xs, x, hq, hx⟩ := hg
    obtain ⟨its, rv, p, hz⟩ := I.list hq
    obtain ⟨u, hu, ru⟩ := rv.get hx
    obtain ⟨f0, f1, f2, f3, f4, f5⟩ := hf it (by simp)
    refine wpAny_pyNext_list_item st p.isList (x := u) (by simpa using hu) fun h' st' sb => ?_
    have I1 : Inv X pins σ H { s with heap := h' } := I.turned (t' := s.toks) (fun b o hb e => (sb.2 b hb).trans e) f0 f1 f3 f4 f5
    obtain ⟨o, e, c, d⟩ := id st'
    exact ⟨u, rfl, go_of (s := { s with heap := h' }) e c d (by decide) ⟨x, H, I1, ru, ⟨rfl, fun ys hy => by rw [I.list_inj hy hq]; exact hx⟩, st', fun b hb => (hf b hb).1⟩⟩
  done := by
    intro X hP hw hK hc i pins s σ H E I hf st hg
    subst hP hw hK
    obtain ⟨xs, hq, hx⟩ := hg
    obtain ⟨its, rv, p, hz⟩ := I.list hq
    obtain ⟨f0, f1, f2, f3, f4, f5⟩ := hf it (by simp)
    have hl := rv.length
    exact wpAny_pyNext_list_end (I.ok.hd hc) st p.isList (by simp; omega) fun h' eb => ⟨rfl, I.turned (t' := s.toks) (fun b o hb e => eb b o hb e) f0 f1 f3 f4 f5⟩
  self := fun _ _ _ _ _ st h => wpAny_pyIter_listiter st h
end L2

namespace L2
open PySem PySem.Spec PyProof.Rows
section
variable {X : Cx} {tg : Expr}
def iList (K : PySem.W.Frag) (tl : TE) : TI := fun σ H R => tl σ H fun x H1 => ∃ a, x = .ref a ∧ (∃ xs, SqL K H1 a xs) ∧ R (Itl K a) H1
theorem pi_list {l : Expr} {tl : TE} (hl : PE X l tl) : PI X tg l (iList X.K tl) := by
  intro pins s σ H R I h
  refine thn (hl pins s σ H _ I h) fun v s1 ⟨x, H1, I1, r1, q1⟩ => ?_
  obtain ⟨a, e, ⟨xs, hq⟩, q⟩ := q1
  subst e
  cases r1
  obtain ⟨its, rv, p, hz⟩ := I1.list hq
  refine wpAny_pyIter_list p.isList ?_
  refine ⟨s1.heap.objs.size, [s1.heap.objs.size], _, _, H1, rfl, I1.kept (t' := s1.toks) fun b o e => Heap.get?_push_of_some _ e, turn_list a _, ⟨_, Heap.get?_push_size _ rfl, rfl, rfl⟩, fun b hb => ?_, q⟩
  have e : b = s1.heap.objs.size := by simpa using hb
  subst e
  exact I1.fpOk (Nat.le_refl _) (I1.hok.fresh (Nat.le_refl _))
/-! ### for -/
/-- W: the invariant by the turn and a measure; N: what the body is to reach -/
def tFor (wi : TI) (g : TG) (tb : TS) : TS := fun D σ H => wi σ H fun J H1 => ∃ W : Nat → Nat → St → Hp → Prop, (∃ m, W 0 m σ H1) ∧ ∀ i m σ H, W i m σ H →
  (J.stop i H ∧ D.nx σ H) ∨ (J.go i H ∧ ∃ N : St → Hp → Prop, (∀ σ' H', N σ' H' → ∃ m', m' < m ∧ W (i + 1) m' σ' H') ∧ ∀ x H', J.yld i H x H' → g x σ H' fun σ2 H2 => tb { D with nx := N, ct := N, bk := D.nx } σ2 H2)
/-- the records at fp as they stand -/
def pinsAt (fp : List Addr) (h : Heap) : List (Addr × Obj) := fp.filterMap fun b => (h.get? b).map fun o => (b, o)
theorem mem_pinsAt {fp : List Addr} {h : Heap} {b : Addr} {o : Obj} (hb : b ∈ fp) (e : h.get? b = some o) : (b, o) ∈ pinsAt fp h := List.mem_filterMap.mpr ⟨b, hb, by rw [e]; rfl⟩
theorem of_pinsAt {fp : List Addr} {h : Heap} {p : Addr × Obj} (hp : p ∈ pinsAt fp h) : p.1 ∈ fp ∧ h.get? p.1 = some p.2 := by
  obtain ⟨b, hb, e⟩ := List.mem_filterMap.mp hp
  cases q : h.get? b with
  | none => rw [q] at e; cases e
  | some o =>
    rw [q] at e
    have e' : (b, o) = p := Option.some.inj e
    subst e'
    exact ⟨hb, q⟩
theorem Inv.pinned {pins : List (Addr × Obj)} {σ : St} {H : Hp} {s : Shared} {fp : List Addr} (I : Inv X pins σ H s) (hf : ∀ b ∈ fp, FpOk X pins H b) (ho : ∀ b ∈ fp, ∃ o, s.heap.get? b = some o ∧ ∀ v, o.data ≠ .cell v) : Inv X (pins ++ pinsAt fp s.heap) σ H s :=
  I.pins_of fun p hp => (List.mem_append.mp hp).elim (fun z => I.pin p (List.mem_append_right _ z)) fun z => by
    obtain ⟨hb, e⟩ := of_pinsAt z
    obtain ⟨f0, f1, f2, _⟩ := hf p.1 hb
    obtain ⟨o, e', d⟩ := ho p.1 hb
    rw [e] at e'; cases e'
    exact ⟨e, f0, f1, f2, d⟩
theorem Inv.unpinned {pins pl : List (Addr × Obj)} {σ : St} {H : Hp} {s : Shared} (I : Inv X (pins ++ pl) σ H s) : Inv X pins σ H s := I.pins_of fun p hp => I.pin p (List.mem_append_right _ (List.mem_append_left _ hp))
theorem ps_for {iter : Expr} {body : List Stmt} {wi : TI} {g : TG} {tb : TS} {pos : Pos} (hp : PassesOwn (model X.prog X.w) X.A X.env X.xe) (hc : X.calm = true) (hi : PI X tg iter wi) (hg : PG X tg g) (hb : PSs X body tb)
    (hs : ∀ x, foldedSetIterable iter X.env x = pure x := by intro _; rfl) : PS X (.For tg iter body [] pos) (tFor wi g tb) := by
  intro pins s σ H D I h
  refine wpAny_For (thn (hi pins s σ H _ I h) fun v s1 h1 => thn h1 fun itv s2 h2 => ?_) hs
  obtain ⟨it, fp, tn, J, H2, e, I2, T, st2, f2, W, ⟨m0, w0⟩, turn⟩ := h2
  subst e
  -- what stays true of the iterator's objects through the loop
  have stat : ∀ {H' : Hp}, (∀ b ∈ fp, H' b = none) → ∀ b ∈ fp, FpOk X pins H' b := fun hn b hb => ⟨hn b hb, (f2 b hb).2⟩
  refine codeAny_forLoop_any (fun n s' => ∃ i σ' H', Inv X pins σ' H' s' ∧ tn i s'.heap ∧ (∀ b ∈ fp, H' b = none) ∧ W i n σ' H') ?_ m0 ⟨0, σ, H2, I2, st2, fun b hb => (f2 b hb).1, w0⟩
  rintro n s3 ⟨i, σ3, H3, I3, st3, fr3, w3⟩
  rcases turn i n σ3 H3 w3 with ⟨stop, qn⟩ | ⟨go, N, hN, step⟩
  · refine wpAny_passesOwn hp (thn (T.done X rfl rfl rfl hc i pins s3 σ3 H3 X.xe I3 (stat fr3) st3 stop) fun r s4 ⟨hr, I4⟩ => ?_)
    subst hr
    exact wpAny_execs_nil ⟨σ3, H3, I4, qn⟩
  · refine wpAny_passesOwn hp (thn (T.item X rfl rfl rfl hc i pins s3 σ3 H3 X.xe I3 (stat fr3) st3 go) fun r s4 ⟨u, hr, h4⟩ => ?_)
    subst hr
    refine wpAny_passesOwn hp (thn h4 fun _ s5 ⟨x, H5, I5, r5, y5, st5, fr5⟩ => ?_)
    have I5' := I5.pinned (stat fr5) (T.obj _ _ st5)
    refine wpAny_passesOwn hp (thn (hg _ s5 σ3 H5 x u _ I5' r5 (step x H5 y5)) fun _ s6 ⟨σ6, H6, I6, q6⟩ => ?_)
    refine wpAny_passesOwn hp (thn (hb _ s6 σ6 H6 _ I6 q6) fun f s7 q7 => ?_)
    have again : ∀ {σ7 : St} {H7 : Hp}, Inv X (pins ++ pinsAt fp s5.heap) σ7 H7 s7 → N σ7 H7 → ∃ m, m < n ∧ ∃ i σ' H', Inv X pins σ' H' s7 ∧ tn i s7.heap ∧ (∀ b ∈ fp, H' b = none) ∧ W i m σ' H' := fun {σ7 H7} I7 n7 => by
      obtain ⟨m', hm, w7⟩ := hN σ7 H7 n7
      refine ⟨m', hm, i + 1, σ7, H7, I7.unpinned, T.keep _ _ _ st5 fun b hb o e => (I7.pin (b, o) (List.mem_append_right _ (List.mem_append_right _ (mem_pinsAt hb e)))).1, fun b hb => ?_, w7⟩
      obtain ⟨o, e, d⟩ := T.obj _ _ st5 b hb
      exact (I7.pin (b, o) (List.mem_append_right _ (List.mem_append_right _ (mem_pinsAt hb e)))).2.1
    cases f with
    | next => obtain ⟨σ7, H7, I7, n7⟩ := q7; exact again I7 n7
    | cont => obtain ⟨σ7, H7, I7, n7⟩ := q7; exact again I7 n7
    | brk => obtain ⟨σ7, H7, I7, q7⟩ := q7; exact ⟨σ7, H7, I7.unpinned, q7⟩
    | ret v => obtain ⟨x7, σ7, H7, I7, r7, q7⟩ := q7; exact ⟨x7, σ7, H7, I7.unpinned, r7, q7⟩
end

/-! ### the forms one uses -/
end L2

namespace L2
open PySem PySem.Spec PyProof.Rows

abbrev R2 := V → V → Hp → VK → Prop
/-- a two-place operation on values: f is binaryOp op, inplaceOp op or compareOp op -/
def OpR (X : Cx) (f : Value → Value → Sem Value) (r : R2) : Prop :=
  ∀ (pins : List (Addr × Obj)) (s : Shared) (σ : St) (H : Hp) (x y : V) (v u : Value) (Q : VK), Inv X pins σ H s → RelV x v → RelV y u → r x y H Q →
    wpAny (model X.prog X.w) X.A (f v u) (EP X pins σ Q) X.xe s
/-- a one-place operation -/
def UnR (X : Cx) (f : Value → Sem Value) (r : V → Hp → VK → Prop) : Prop :=
  ∀ (pins : List (Addr × Obj)) (s : Shared) (σ : St) (H : Hp) (x : V) (v : Value) (Q : VK), Inv X pins σ H s → RelV x v → r x H Q →
    wpAny (model X.prog X.w) X.A (f v) (EP X pins σ Q) X.xe s
/-- a call of a value that is known (a builtin, a type) with values -/
def CallR (X : Cx) (f : Value) (r : List V → Hp → VK → Prop) : Prop :=
  ∀ (pins : List (Addr × Obj)) (s : Shared) (σ : St) (H : Hp) (xs : List V) (us : List Value) (Q : VK), Inv X pins σ H s → Vals xs us → r xs H Q →
    wpAny (model X.prog X.w) X.A (call f us) (EP X pins σ Q) X.xe s
def tOp (r : R2) (ta tb : TE) : TE := fun σ H Q => ta σ H fun x H1 => tb σ H1 fun y H2 => r x y H2 Q
def tUn (r : V → Hp → VK → Prop) (ta : TE) : TE := fun σ H Q => ta σ H fun x H1 => r x H1 Q
/-- ints in, under C, and a value out -/
def rI (C : Int → Int → Prop) (g : Int → Int → V) : R2 := fun x y H Q => ∃ i j, x = .int i ∧ y = .int j ∧ C i j ∧ Q (g i j) H
def rI0 (g : Int → Int → V) : R2 := fun x y H Q => ∃ i j, x = .int i ∧ y = .int j ∧ Q (g i j) H
def rU (g : Int → V) : V → Hp → VK → Prop := fun x H Q => ∃ i, x = .int i ∧ Q (g i) H

section
variable {X : Cx} {a b c : Expr} {ta tb tc : TE} {pos : Pos}

theorem binT (ha : PE X a ta) (hb : PE X b tb) {pins : List (Addr × Obj)} {s : Shared} {σ : St} {H : Hp} {R : V → V → Hp → Prop} (I : Inv X pins σ H s)
    (h : ta σ H fun x H1 => tb σ H1 fun y H2 => R x y H2) {Q : Value → Shared → Prop} {f : Value → Value → Sem Value}
    (hf : ∀ v u s2 x y H2, Inv X pins σ H2 s2 → RelV x v → RelV y u → R x y H2 → wpAny (model X.prog X.w) X.A (f v u) Q X.xe s2) :
    wpAny (model X.prog X.w) X.A (eval a X.env) (fun v s₁ => wpAny (model X.prog X.w) X.A (eval b X.env) (fun u s₂ => wpAny (model X.prog X.w) X.A (f v u) Q X.xe s₂) X.xe s₁) X.xe s := by
  refine thn (ha pins s σ H _ I h) fun v s1 ⟨x, H1, I1, r1, q1⟩ => ?_
  refine thn (hb pins s1 σ H1 _ I1 q1) fun u s2 ⟨y, H2, I2, r2, q2⟩ => ?_
  exact hf v u s2 x y H2 I2 r1 r2 q2

theorem pe_op {op : Operator} {r : R2} (ho : OpR X (binaryOp op) r) (ha : PE X a ta) (hb : PE X b tb) : PE X (.BinOp a op b pos) (tOp r ta tb) := by
  intro pins s σ H Q I h
  exact wpAny_BinOp (binT ha hb I h fun v u s2 x y H2 I2 rx ry q => ho pins s2 σ H2 x y v u Q I2 rx ry q)
theorem pe_un {op : UnaryOp} {r : V → Hp → VK → Prop} (ho : UnR X (unaryOp op) r) (ha : PE X a ta) : PE X (.UnaryOp op a pos) (tUn r ta) := by
  intro pins s σ H Q I h
  exact UnaryOp_ (thn (ha pins s σ H _ I h) fun v s1 ⟨x, H1, I1, r1, q1⟩ => ho pins s1 σ H1 x v Q I1 r1 q1)
/-! ### ints -/
theorem opI {f : Value → Value → Sem Value} {C : Int → Int → Prop} {g : Int → Int → Int}
    (rule : ∀ (i j : Int) (t u : Tok) (s : Shared) (Q : Value → Shared → Prop) (E : Value → Shared → Prop), C i j → Q (.int (g i j) s.toks) { s with toks := s.toks + 1 } → wpAny (model X.prog X.w) X.A (f (.int i t) (.int j u)) Q E s) :
    OpR X f (rI C fun i j => .int (g i j)) := by
  intro pins s σ H x y v u Q I rx ry h
  obtain ⟨i, j, rfl, rfl, hc, q⟩ := h
  obtain ⟨t, rfl⟩ := rx
  obtain ⟨t', rfl⟩ := ry
  exact rule i j t t' s _ _ hc ⟨.int (g i j), H, I.tok _, ⟨_, rfl⟩, q⟩
theorem opI0 {f : Value → Value → Sem Value} {g : Int → Int → Int}
    (rule : ∀ (i j : Int) (t u : Tok) (s : Shared) (Q : Value → Shared → Prop) (E : Value → Shared → Prop), Q (.int (g i j) s.toks) { s with toks := s.toks + 1 } → wpAny (model X.prog X.w) X.A (f (.int i t) (.int j u)) Q E s) :
    OpR X f (rI0 fun i j => .int (g i j)) := by
  intro pins s σ H x y v u Q I rx ry h
  obtain ⟨i, j, rfl, rfl, q⟩ := h
  obtain ⟨t, rfl⟩ := rx
  obtain ⟨t', rfl⟩ := ry
  exact rule i j t t' s _ _ ⟨.int (g i j), H, I.tok _, ⟨_, rfl⟩, q⟩
theorem opB0 {f : Value → Value → Sem Value} {g : Int → Int → Bool}
    (rule : ∀ (i j : Int) (t u : Tok) (s : Shared) (Q : Value → Shared → Prop) (E : Value → Shared → Prop), Q (.bool (g i j)) s → wpAny (model X.prog X.w) X.A (f (.int i t) (.int j u)) Q E s) :
    OpR X f (rI0 fun i j => .bl (g i j)) := by
  intro pins s σ H x y v u Q I rx ry h
  obtain ⟨i, j, rfl, rfl, q⟩ := h
  obtain ⟨t, rfl⟩ := rx
  obtain ⟨t', rfl⟩ := ry
  exact rule i j t t' s _ _ ⟨.bl (g i j), H, I, rfl, q⟩

def CDiv (i j : Int) : Prop := 0 < j ∧ j < 1073741824
def CMul (i j : Int) : Prop := (-(2 ^ 64) < i ∧ i < 2 ^ 64) ∨ (-(2 ^ 64) < j ∧ j < 2 ^ 64)
theorem CMul.ok {i j : Int} (h : CMul i j) : IntMulOk i j := by
  rcases h with ⟨h1, h2⟩ | ⟨h1, h2⟩
  · exact .of_left (intBits_le_64 h1 h2)
  · exact .of_right (intBits_le_64 h1 h2)
theorem op_add : OpR X (binaryOp .Add) (rI0 fun i j => .int (i + j)) := opI0 fun _ _ _ _ _ _ _ q => add_int q
theorem op_sub : OpR X (binaryOp .Sub) (rI0 fun i j => .int (i - j)) := opI0 fun _ _ _ _ _ _ _ q => sub_int q
theorem op_mul : OpR X (binaryOp .Mult) (rI CMul fun i j => .int (i * j)) := opI fun _ _ _ _ _ _ _ hc q => mul_int q hc.ok
/-- // by a positive divisor -/
theorem op_fdiv : OpR X (binaryOp .FloorDiv) (rI CDiv fun i j => .int (i / j)) := opI fun i j _ _ _ _ _ hc q => by
  have h1 : (0 : Int) < j := hc.1
  have h2 : j < 1073741824 := hc.2
  exact floordiv_int (by omega) (by rw [Int.fdiv_eq_ediv_of_nonneg i (by omega)]; exact q) (.inl (PyProof.noPylong_small (by omega)))
/-- % by a positive divisor of any size -/
theorem op_mod : OpR X (binaryOp .Mod) (rI (fun _ j => 0 < j) fun i j => .int (i % j)) := opI fun i j _ _ _ _ _ hc q => by
  have h1 : (0 : Int) < j := hc
  exact mod_int' (by omega) (by rw [Int.fmod_eq_emod_of_nonneg i (by omega)]; exact q)
theorem unI {f : Value → Sem Value} {g : Int → Int}
    (rule : ∀ (i : Int) (t : Tok) (s : Shared) (Q : Value → Shared → Prop) (E : Value → Shared → Prop), Q (.int (g i) s.toks) { s with toks := s.toks + 1 } → wpAny (model X.prog X.w) X.A (f (.int i t)) Q E s) :
    UnR X f (rU fun i => .int (g i)) := by
  intro pins s σ H x v Q I rx h
  obtain ⟨i, rfl, q⟩ := h
  obtain ⟨t, rfl⟩ := rx
  exact rule i t s _ _ ⟨.int (g i), H, I.tok _, ⟨_, rfl⟩, q⟩
theorem un_neg : UnR X (unaryOp .USub) (rU fun i => .int (-i)) := unI fun _ _ _ _ _ q => neg_int q
/-! ### bools among ints: n += (a < b) -/
end

/-! ### comparisons -/
/-- the scalars that == tells apart as data does -/
def scal : V → V → Bool
  | .non, .non => true | .non, .int _ => true | .int _, .non => true | .non, .bl _ => true | .bl _, .non => true | .non, .str _ => true | .str _, .non => true
  | .int _, .int _ => true | .bl _, .bl _ => true | .str _, .str _ => true | .byt _, .byt _ => true
  | .int _, .str _ => true | .str _, .int _ => true | .bl _, .str _ => true | .str _, .bl _ => true
  | _, _ => false
def rEq : R2 := fun x y H Q => scal x y = true ∧ Q (.bl (decide (x = y))) H
def rNe : R2 := fun x y H Q => scal x y = true ∧ Q (.bl (!decide (x = y))) H

theorem dec_int {i j : Int} : decide (V.int i = V.int j) = (i == j) := by
  rw [Bool.eq_iff_iff]
  simp
theorem dec_bl {i j : Bool} : decide (V.bl i = V.bl j) = (i == j) := by
  rw [Bool.eq_iff_iff]
  simp
theorem dec_str {i j : Str} : decide (V.str i = V.str j) = (i == j) := by
  rw [Bool.eq_iff_iff]
  simp
theorem dec_byt {i j : Array UInt8} : decide (V.byt i = V.byt j) = (i.toList == j.toList) := by
  rw [Bool.eq_iff_iff]
  cases i
  cases j
  simp

section
variable {X : Cx} {a b c : Expr} {ta tb tc : TE} {pos : Pos}
theorem fin_bl {pins : List (Addr × Obj)} {σ : St} {H : Hp} {s : Shared} {Q : VK} {k k' : Bool} (I : Inv X pins σ H s) (q : Q (.bl k) H) (e : k = k') : EP X pins σ Q (.bool k') s := by
  subst e
  exact ⟨.bl k, H, I, rfl, q⟩
theorem op_eq : OpR X (compareOp .Eq) rEq := by
  intro pins s σ H x y v u Q I rx ry h
  obtain ⟨hs, q⟩ := h
  cases x with
  | non =>
    cases rx
    cases y with
    | non => cases ry; exact PySem.EqNone.eq_none_none (fin_bl I q (by simp))
    | bl j => cases ry; exact PySem.EqNone.eq_none_bool (fin_bl I q (by simp))
    | int j => obtain ⟨t', rfl⟩ := ry; exact PySem.EqNone.eq_none_int (fin_bl I q (by simp))
    | str j => obtain ⟨t', rfl⟩ := ry; exact PySem.EqNone.eq_none_str (fin_bl I q (by simp))
    | _ => exact absurd (show false = true from hs) Bool.false_ne_true
  | bl i =>
    cases rx
    cases y with
    | non => cases ry; exact PySem.EqNone.eq_bool_none (fin_bl I q (by simp))
    | bl j => cases ry; exact eq_bool (fin_bl I q dec_bl)
    | str j => obtain ⟨t', rfl⟩ := ry; exact PySem.EqMixed.eq_bool_str (fin_bl I q (by simp))
    | _ => exact absurd (show false = true from hs) Bool.false_ne_true
  | int i =>
    obtain ⟨t, rfl⟩ := rx
    cases y with
    | non => cases ry; exact PySem.EqNone.eq_int_none (fin_bl I q (by simp))
    | int j => obtain ⟨t', rfl⟩ := ry; exact eq_int (fin_bl I q dec_int)
    | str j => obtain ⟨t', rfl⟩ := ry; exact PySem.EqMixed.eq_int_str (fin_bl I q (by simp))
    | _ => exact absurd (show false = true from hs) Bool.false_ne_true
  | str i =>
    obtain ⟨t, rfl⟩ := rx
    cases y with
    | non => cases ry; exact PySem.EqNone.eq_str_none (fin_bl I q (by simp))
    | bl j => cases ry; exact PySem.EqMixed.eq_str_bool (fin_bl I q (by simp))
    | int j => obtain ⟨t', rfl⟩ := ry; exact PySem.EqMixed.eq_str_int (fin_bl I q (by simp))
    | str j => obtain ⟨t', rfl⟩ := ry; exact eq_str (fin_bl I q dec_str)
    | _ => exact absurd (show false = true from hs) Bool.false_ne_true
  | byt i =>
    obtain ⟨t, rfl⟩ := rx
    cases y with
    | byt j => obtain ⟨t', rfl⟩ := ry; exact PySem.W.eq_bytes (fin_bl I q dec_byt)
    | _ => exact absurd (show false = true from hs) Bool.false_ne_true
  | _ => cases y <;> exact absurd (show false = true from hs) Bool.false_ne_true
theorem op_ne : OpR X (compareOp .NotEq) rNe := by
  intro pins s σ H x y v u Q I rx ry h
  obtain ⟨hs, q⟩ := h
  cases x with
  | non =>
    cases rx
    cases y with
    | non => cases ry; exact PySem.EqNone.ne_none_none (fin_bl I q (by simp))
    | bl j => cases ry; exact PySem.EqNone.ne_none_bool (fin_bl I q (by simp))
    | int j => obtain ⟨t', rfl⟩ := ry; exact PySem.EqNone.ne_none_int (fin_bl I q (by simp))
    | str j => obtain ⟨t', rfl⟩ := ry; exact PySem.EqNone.ne_none_str (fin_bl I q (by simp))
    | _ => exact absurd (show false = true from hs) Bool.false_ne_true
  | bl i =>
    cases rx
    cases y with
    | non => cases ry; exact PySem.EqNone.ne_bool_none (fin_bl I q (by simp))
    | bl j => cases ry; exact ne_bool (fin_bl I q (congrArg not dec_bl))
    | str j => obtain ⟨t', rfl⟩ := ry; exact PySem.EqMixed.ne_bool_str (fin_bl I q (by simp))
    | _ => exact absurd (show false = true from hs) Bool.false_ne_true
  | int i =>
    obtain ⟨t, rfl⟩ := rx
    cases y with
    | non => cases ry; exact PySem.EqNone.ne_int_none (fin_bl I q (by simp))
    | int j => obtain ⟨t', rfl⟩ := ry; exact ne_int (fin_bl I q (congrArg not dec_int))
    | str j => obtain ⟨t', rfl⟩ := ry; exact PySem.EqMixed.ne_int_str (fin_bl I q (by simp))
    | _ => exact absurd (show false = true from hs) Bool.false_ne_true
  | str i =>
    obtain ⟨t, rfl⟩ := rx
    cases y with
    | non => cases ry; exact PySem.EqNone.ne_str_none (fin_bl I q (by simp))
    | bl j => cases ry; exact PySem.EqMixed.ne_str_bool (fin_bl I q (by simp))
    | int j => obtain ⟨t', rfl⟩ := ry; exact PySem.EqMixed.ne_str_int (fin_bl I q (by simp))
    | str j => obtain ⟨t', rfl⟩ := ry; exact ne_str (fin_bl I q (congrArg not dec_str))
    | _ => exact absurd (show false = true from hs) Bool.false_ne_true
  | byt i =>
    obtain ⟨t, rfl⟩ := rx
    cases y with
    | byt j => obtain ⟨t', rfl⟩ := ry; exact PySem.W.ne_bytes (fin_bl I q (congrArg not dec_byt))
    | _ => exact absurd (show false = true from hs) Bool.false_ne_true
  | _ => cases y <;> exact absurd (show false = true from hs) Bool.false_ne_true

theorem op_lt : OpR X (compareOp .Lt) (rI0 fun i j => .bl (decide (i < j))) := opB0 fun _ _ _ _ _ _ _ q => lt_int q
theorem op_le : OpR X (compareOp .LtE) (rI0 fun i j => .bl (decide (i ≤ j))) := opB0 fun _ _ _ _ _ _ _ q => le_int q
theorem op_gt : OpR X (compareOp .Gt) (rI0 fun i j => .bl (decide (j < i))) := opB0 fun _ _ _ _ _ _ _ q => gt_int q
theorem op_ge : OpR X (compareOp .GtE) (rI0 fun i j => .bl (decide (j ≤ i))) := opB0 fun _ _ _ _ _ _ _ q => ge_int q
/-- the one string within the other -/
theorem op_in_str : OpR X (compareOp .In) (fun x y H Q => ∃ i j, x = .str i ∧ y = .str j ∧ Q (.bl (!(Builtin.Str.occurrences j i 0 j.length 1).isEmpty)) H) := by
  intro pins s σ H x y v u Q I rx ry h
  obtain ⟨i, j, rfl, rfl, q⟩ := h
  obtain ⟨t, rfl⟩ := rx
  obtain ⟨t', rfl⟩ := ry
  exact in_str (fin_bl I q rfl)

theorem nomark (b : Expr) {op : CmpOp} (h : op ≠ .In := by decide) (h2 : op ≠ .NotIn := by decide) : behindInMarks op b = false := by
  have e1 : (op == CmpOp.In) = false := by cases op <;> first | rfl | exact absurd rfl h
  have e2 : (op == CmpOp.NotIn) = false := by cases op <;> first | rfl | exact absurd rfl h2
  cases b <;> simp [behindInMarks, e1, e2]
/-- a comparison as a value; hm: nomark b, or (for in, not in) by with_unfolding_all rfl -/
theorem pe_cmpR {op : CmpOp} {r : R2} (ho : OpR X (compareOp op) r) (ha : PE X a ta) (hb : PE X b tb) (hm : behindInMarks op b = false) : PE X (.Compare a [op] [b] pos) (tOp r ta tb) := by
  intro pins s σ H Q I h
  exact wpAny_Compare1 (binT ha hb I h fun v u s2 x y H2 I2 rx ry q => ho pins s2 σ H2 x y v u Q I2 rx ry q) hm
/-- a reading of a value as a test -/
def tTest (t : TE) : TT := fun σ H Q => t σ H fun x H' => ∃ k, x = .bl k ∧ Q k H'
theorem pt_cmpR {op : CmpOp} {r : R2} (ho : OpR X (compareOp op) r) (ha : PE X a ta) (hb : PE X b tb) (hm : behindInMarks op b = false) : PT X (.Compare a [op] [b] pos) (tTest (tOp r ta tb)) := by
  intro pins s σ H Q I h
  refine wpAny_isTrue_Compare1 (thn (ha pins s σ H _ I h) fun v s1 ⟨x, H1, I1, r1, q1⟩ => thn (hb pins s1 σ H1 _ I1 q1) fun u s2 ⟨y, H2, I2, r2, q2⟩ =>
    thn (ho pins s2 σ H2 x y v u _ I2 r1 r2 q2) fun c s3 ⟨z, H3, I3, r3, k, e, q3⟩ => ?_) hm
  subst e
  cases r3
  exact wpAny_truthy_bool ⟨H3, I3, q3⟩
/-- a op1 b op2 c -/
def tChain (r r' : R2) (ta tb tc : TE) : TE := fun σ H Q => ta σ H fun x H1 => tb σ H1 fun y H2 => r x y H2 fun z H3 => ∃ k, z = .bl k ∧
  (if k = true then tc σ H3 fun w' H4 => r' y w' H4 Q else Q (.bl false) H3)
theorem pe_chain {op op' : CmpOp} {r r' : R2} (ho : OpR X (compareOp op) r) (ho' : OpR X (compareOp op') r') (ha : PE X a ta) (hb : PE X b tb) (hc : PE X c tc)
    (hm : lastMarks [op, op'] [b, c] = false := by with_unfolding_all rfl) : PE X (.Compare a [op, op'] [b, c] pos) (tChain r r' ta tb tc) := by
  intro pins s σ H Q I h
  refine Compare_chain (thn (ha pins s σ H _ I h) fun v s1 ⟨x, H1, I1, r1, q1⟩ => chain_link (thn (hb pins s1 σ H1 _ I1 q1) fun u s2 ⟨y, H2, I2, r2, q2⟩ =>
    thn (ho pins s2 σ H2 x y v u _ I2 r1 r2 q2) fun d s3 ⟨z, H3, I3, r3, k, e, q3⟩ => ?_)) hm
  subst e
  cases r3
  refine wpAny_truthy_bool ?_
  cases k with
  | false => exact ite_ff ⟨.bl false, H3, I3, rfl, q3⟩
  | true => exact ite_tt (chain_last (thn (hc pins s3 σ H3 _ I3 q3) fun w' s4 ⟨z', H4, I4, r4, q4⟩ => ho' pins s4 σ H4 y z' u w' Q I4 r2 r4 q4))
/-! ### truth -/
theorem line63 : (sizeLine : Nat) < 2 ^ 63 := by rw [sizeLine_eq]; decide
/-! ### strs and bytes -/
theorem op_add_str : OpR X (binaryOp .Add) (fun x y H Q => ∃ i j, x = .str i ∧ y = .str j ∧ i.length + j.length ≤ sizeLine ∧ Q (.str (i ++ j)) H) := by
  intro pins s σ H x y v u Q I rx ry h
  obtain ⟨i, j, rfl, rfl, hz, q⟩ := h
  obtain ⟨t, rfl⟩ := rx
  obtain ⟨t', rfl⟩ := ry
  exact add_str (fun t' tk => ⟨.str (i ++ j), H, I.tok _, ⟨_, rfl⟩, q⟩) hz
/-! ### scalar builtins, by CallR -/
theorem vals1 {x : V} {us : List Value} (r : Vals [x] us) : ∃ u, us = [u] ∧ RelV x u := by
  cases r with
  | cons r1 r2 => cases r2; exact ⟨_, rfl, r1⟩
theorem vals2 {x y : V} {us : List Value} (r : Vals [x, y] us) : ∃ u w', us = [u, w'] ∧ RelV x u ∧ RelV y w' := by
  cases r with
  | cons r1 r2 =>
    cases r2 with
    | cons r3 r4 => cases r4; exact ⟨_, _, rfl, r1, r3⟩
theorem call_int1 : CallR X (.type "int") (fun xs H Q => (∃ i, xs = [.int i] ∧ Q (.int i) H) ∨ ∃ k, xs = [.bl k] ∧ Q (.int (if k then 1 else 0)) H) := by
  intro pins s σ H xs us Q I r h
  rcases h with ⟨i, rfl, q⟩ | ⟨k, rfl, q⟩
  · obtain ⟨u, rfl, t, rfl⟩ := vals1 r
    exact call_int_int ⟨.int i, H, I, ⟨_, rfl⟩, q⟩
  · obtain ⟨u, rfl, r1⟩ := vals1 r
    cases r1
    exact call_int_bool ⟨.int (if k then 1 else 0), H, I.tok _, ⟨_, rfl⟩, q⟩
theorem call_str_int : CallR X (.type "str") (fun xs H Q => ∃ i, xs = [.int i] ∧ i.natAbs.log2 < 1920 ∧ Q (.str (toString i)) H) := by
  intro pins s σ H xs us Q I r h
  obtain ⟨i, rfl, hz, q⟩ := h
  obtain ⟨u, rfl, t, rfl⟩ := vals1 r
  exact PySem.P.str_of_int hz ⟨.str _, H, I.tok _, ⟨_, rfl⟩, q⟩
/-- divmod: a new tuple -/
theorem call_divmod : CallR X (.builtin "divmod") (fun xs H Q => ∃ i j, xs = [.int i, .int j] ∧ CDiv i j ∧ ∀ p, H p = none → Q (.ref p) (upd H p (.tup [.int (i / j), .int (i % j)]))) := by
  intro pins s σ H xs us Q I r h
  obtain ⟨i, j, rfl, ⟨h1, h2⟩, q⟩ := h
  obtain ⟨u, w', rfl, ⟨t, rfl⟩, ⟨t', rfl⟩⟩ := vals2 r
  refine divmod_int (by omega) ?_ (.inl (PyProof.noPylong_small (by omega)))
  rw [Int.fdiv_eq_ediv_of_nonneg i (by omega), Int.fmod_eq_emod_of_nonneg i (by omega)]
  have hn : H s.heap.objs.size = none := I.hok.fresh (Nat.le_refl _)
  refine ⟨.ref s.heap.objs.size, _, ?_, rfl, q _ hn⟩
  refine I.laid (fun b o e => Heap.get?_push_of_some _ e) (Nat.le_refl _) ⟨by simp only [List.length_cons, List.length_nil]; rw [sizeLine_eq]; decide, [.int (i / j) s.toks, .int (i % j) (s.toks + 1)], .cons ⟨_, rfl⟩ (.cons ⟨_, rfl⟩ .nil), ?_⟩
  exact ⟨_, Heap.get?_push_size s.heap rfl, rfl, 0, rfl⟩
end
end L2

namespace L2
open PySem PySem.Spec PyProof.Rows

/-! ### an instance, its attributes a map -/
structure ObjM (h : Heap) (x dx C : Addr) (mA : Str → Option Value) : Prop where
  obj : h.get? x = some (PySem.W.instObj C dx)
  ns : h.Ns1 dx mA
  ne : dx ≠ x

theorem lookIn_ns {h : Heap} {dx : Addr} {mA : Str → Option Value} (n : h.Ns1 dx mA) : ∃ od, h.get? dx = some od ∧ ∀ name, PySem.W.lookIn name od = some (mA name) := by
  obtain ⟨o, es, ep, ho, hd, hk, _, hm⟩ := n
  refine ⟨o, ho, fun name => ?_⟩
  have e := hm name
  unfold nsFind findBy at e
  rw [← Array.find?_toList] at e
  unfold PySem.W.lookIn
  rw [hd]
  dsimp only
  split
  · rename_i y q
    rw [q] at e
    exact congrArg some e
  · rename_i q
    rw [q] at e
    have a : es.toList.any (·.refKey) = false := by
      rw [List.any_eq_false]
      intro y hy
      obtain ⟨z, t, hkey⟩ := hk y (Array.mem_toList_iff.mp hy)
      simp [DictEntry.refKey, hkey]
    have a' : ¬ es.toList.any (·.refKey) = true := by rw [a]; exact Bool.false_ne_true
    rw [if_neg a']
    exact congrArg some e

theorem ObjM.look {h : Heap} {x dx C : Addr} {mA : Str → Option Value} (I : ObjM h x dx C mA) : ∃ od, PySem.W.InstAt h x (PySem.W.instObj C dx) C (some od) ∧ ∀ name, PySem.W.lookIn name od = some (mA name) :=
  let ⟨od, ho, hl⟩ := lookIn_ns I.ns
  ⟨od, ⟨I.obj, rfl, rfl, ho⟩, hl⟩

section
variable {prog : Program} {w : World} {A : Around} {E : Value → Shared → Prop} {s : Shared} {K : PySem.W.Frag} {x dx C f : Addr} {mA : Str → Option Value} {name : Str} {v : Value}

end

/-! ### the attributes as a list of pairs -/
section
variable {P : Program} {w : World} {H H' : Hp} {h h' : Heap} {a C dx : Addr} {fs fs' : List (Str × V)}
theorem ins_get (hok : HOk P w H h) (e : H a = some (.ins C dx fs)) : ∃ mA, ObjM h a dx C mA ∧ (∀ f, RelO (fs.lookup f) (mA f)) ∧ PySem.Within mA (fs.map (·.1)) ∧ fs.length ≤ 1000 ∧ H dx = some (.own a) := by
  obtain ⟨d, z, ne, ob, mA, n, r, q⟩ := (show ObjOk P w H h a (.ins C dx fs) from hok a _ e)
  exact ⟨mA, ⟨ob, n, ne⟩, r, q, z, d⟩
end

/-! ### what of the text a class must have -/
structure Cls (K : PySem.W.Frag) (C : Addr) : Prop where
  pg : PySem.W.plainGet K C Str.empty = true
  hd : PySem.W.hasDictIn K C = true
  po : PySem.W.plainOver K C = true
  sa : PySem.W.findIn K (.ref C) "__setattr__" = some (some (.builtin "object.__setattr__"))
theorem Cls.get {K : PySem.W.Frag} {C : Addr} (c : Cls K C) (f : Str) : PySem.W.plainGet K C f = true := c.pg
/-- a constant of the class -/
structure Con (K : PySem.W.Frag) (C : Addr) (f : Str) (v : V) (u : Value) : Prop where
  at_ : PySem.W.findIn K (.ref C) f = some (some u)
  rel : RelV v u
  get : PySem.W.specialIn K u "__get__" = some none
  cp : PySem.W.copiedNames.contains f = false
/-- a method: a plain def of the class or of one above it -/
structure Meth (K : PySem.W.Frag) (C : Addr) (m : Str) (f : Addr) : Prop where
  at_ : PySem.W.findIn K (.ref C) m = some (some (.ref f))
  fn : PySem.W.isFn K (.ref f) = true
  kp : PySem.W.keepIn K (.ref f) = true

section
variable {X : Cx} {pins : List (Addr × Obj)} {σ : St} {H : Hp} {s : Shared} {a C dx : Addr} {fs : List (Str × V)} {f : Str} {v : V} {A : Around} {E : Value → Shared → Prop}

end

/-! ### readings and rules -/
section
variable {X : Cx} {o e value : Expr} {f : Str} {pos pos' tpos : Pos} {ta tv : TE}
end

/-! ### isinstance -/
section
variable {X : Cx} {pins : List (Addr × Obj)} {σ : St} {H : Hp} {s : Shared} {A : Around} {E : Value → Shared → Prop} {Q : Value → Shared → Prop} {c : Value} {b : Bool}
set_option genInjectivity true
/-- the type of a value, as the fragment's deciders take it; for an instance its class -/
inductive TyOf (K : PySem.W.Frag) (H : Hp) : V → Value → Prop where
  | non : TyOf K H .non (.type "NoneType")
  | bl (x : Bool) : TyOf K H (.bl x) (.type "bool")
  | int (i : Int) : TyOf K H (.int i) (.type "int")
  | str (x : Str) : TyOf K H (.str x) (.type "str")
  | flt (x : UInt64) : TyOf K H (.flt x) (.type "float")
  | lst {a : Addr} {xs : List V} (e : H a = some (.lst xs)) : TyOf K H (.ref a) (.type "list")
  | frz {a : Addr} {o : Obj} {xs : List V} (e : H a = some (.frz o (.lst xs))) : TyOf K H (.ref a) (.type "list")
  | tup {a : Addr} {xs : List V} (e : H a = some (.tup xs)) : TyOf K H (.ref a) (.type "tuple")
  | dK {a : Addr} {kvs : List (Key × V)} (e : H a = some (.dK kvs)) : TyOf K H (.ref a) (.type "dict")
  | dT {a : Addr} {kvs : List (List Key × V)} (e : H a = some (.dT kvs)) : TyOf K H (.ref a) (.type "dict")
  | ins {a C dx : Addr} {fs : List (Str × V)} (e : H a = some (.ins C dx fs)) (cl : Cls K C) (ha : PySem.W.findIn K (.ref C) "__class__" = some (some (.builtin "object.__class__")))
      (hn : PySem.W.specialIn K (.builtin "object.__class__") "__get__" = some (some (.builtin "getset_descriptor.__get__"))) (htk : PySem.W.takesIn K (.builtin "object.__class__") = some true)
      (hm : PySem.W.mroIn K C (.type "object") = some true) : TyOf K H (.ref a) (.ref C)
set_option genInjectivity false
/-- isinstance(x, c) for one class c, a built-in or an own one: kitOne's answer -/
theorem isinst_ok {x : V} {u t : Value} (I : Inv X pins σ H s) (rx : RelV x u) (ty : TyOf X.K H x t) (e : PySem.W.kitOne X.K t c = some b) (h : ∀ tk, Q (.bool b) { s with toks := tk }) :
    wpAny (model X.prog X.w) A (call (.builtin "isinstance") [u, c]) Q E s := by
  cases ty with
  | non => cases (show u = Value.none from rx); exact PySem.W.kia_one PySem.W.kitx_none I.kIn True.intro e (fun z => nomatch z) h
  | bl y => cases (show u = Value.bool y from rx); exact PySem.W.kia_one PySem.W.kitx_bool I.kIn True.intro e (fun z => nomatch z) h
  | int i => obtain ⟨t, q⟩ := (show ∃ t, u = Value.int i t from rx); cases q; exact PySem.W.kia_one PySem.W.kitx_int I.kIn True.intro e (fun z => nomatch z) h
  | str y => obtain ⟨t, q⟩ := (show ∃ t, u = Value.str y t from rx); cases q; exact PySem.W.kia_one PySem.W.kitx_str I.kIn True.intro e (fun z => nomatch z) h
  | flt y => obtain ⟨t, q⟩ := (show ∃ t, u = Value.float y t from rx); cases q; exact PySem.W.kia_one PySem.W.kitx_float I.kIn True.intro e (fun z => nomatch z) h
  | @lst a xs ea =>
    cases (show u = Value.ref a from rx)
    obtain ⟨_, _, n, _, h1⟩ := (show ObjOk X.prog X.w H s.heap a (.lst xs) from I.hok a _ ea)
    exact PySem.W.kia_one PySem.W.kitx_list I.kIn ⟨_, h1, rfl⟩ e (fun z => nomatch z) h
  | @frz a ob xs ea =>
    cases (show u = Value.ref a from rx)
    obtain ⟨_, _, _, n, _, h1⟩ := (show ObjOk X.prog X.w H s.heap a (.frz ob (.lst xs)) from I.hok a _ ea)
    exact PySem.W.kia_one PySem.W.kitx_list I.kIn ⟨_, h1, rfl⟩ e (fun z => nomatch z) h
  | @tup a xs ea =>
    cases (show u = Value.ref a from rx)
    obtain ⟨_, _, _, p⟩ := (show ObjOk X.prog X.w H s.heap a (.tup xs) from I.hok a _ ea)
    obtain ⟨o, h1, h2, _⟩ := p
    exact PySem.W.kia_one PySem.W.kitx_tuple I.kIn ⟨o, h1, h2⟩ e (fun z => nomatch z) h
  | @dK a kvs ea =>
    cases (show u = Value.ref a from rx)
    obtain ⟨_, _, vs, _, p⟩ := (show ObjOk X.prog X.w H s.heap a (.dK kvs) from I.hok a _ ea)
    obtain ⟨o, es, ep, h1, h2, _⟩ := p
    exact PySem.W.kia_one PySem.W.kitx_dict I.kIn ⟨o, h1, h2.1⟩ e (fun z => nomatch z) h
  | @dT a kvs ea =>
    cases (show u = Value.ref a from rx)
    obtain ⟨_, _, xs, _, o, es, ep, h1, h2, _⟩ := (show ObjOk X.prog X.w H s.heap a (.dT kvs) from I.hok a _ ea)
    exact PySem.W.kia_one PySem.W.kitx_dict I.kIn ⟨o, h1, h2.1⟩ e (fun z => nomatch z) h
  | @ins a C dx fs ea cl ha hn htk hm =>
    cases (show u = Value.ref a from rx)
    obtain ⟨mA, O, _⟩ := ins_get I.hok ea
    obtain ⟨od, J, _⟩ := O.look
    exact PySem.W.kia_one (PySem.W.kitx_own (cl.get _) cl.hd ha hn htk hm) I.kIn J e (fun z => nomatch z) h
end
end L2

namespace L2
open PySem PySem.Spec PyProof.Rows

/-! ### room -/
structure Room (cm : Bool) (k : Nat) (A : Around) : Prop where
  hd : cm = true → A.handled = none
  dp : A.depth + 3 * k + 5 < recursionLimit
  un : A.units + 16 * k + 200 < cLine
theorem Room.mono {cm : Bool} {j k : Nat} {A : Around} (r : Room cm k A) (h : j ≤ k) : Room cm j A := ⟨r.hd, by have := r.dp; omega, by have := r.un; omega⟩
theorem Room.deeper {cm : Bool} {k : Nat} {A : Around} (r : Room cm (k + 1) A) (env : Env) : Room cm k (A.deeper env) :=
  ⟨r.hd, by have := r.dp; show A.depth + 1 + 3 * k + 5 < _; omega, by have := r.un; show A.units + 3 + 16 * k + 200 < _; omega⟩
theorem Room.depth {cm : Bool} {k : Nat} {A : Around} (r : Room cm k A) : A.depth < recursionLimit := by have := r.dp; omega
/-! ### argument lists and displays -/
def tNil : TA := fun _ H Q => Q [] H
def tCons (ta : TE) (tr : TA) : TA := fun σ H Q => ta σ H fun x H1 => tr σ H1 fun xs H2 => Q (x :: xs) H2
section
variable {X : Cx} {e : Expr} {es : List Expr} {te : TE} {t : TA} {pos : Pos}
theorem pa_nil : PA X [] tNil := fun _ _ _ _ H Q I h => Calls.spliced_nil ⟨[], H, I, .nil, h⟩
theorem pa_cons (ha : PE X e te) (hr : PA X es t) (hs : starEach (e :: es) X.env = (false, eval e X.env) :: starEach es X.env := by rfl) : PA X (e :: es) (tCons te t) := by
  intro pos pins s σ H Q I h
  rw [hs]
  show wpAny _ _ (spliced ((false, eval e X.env) :: backTo pos (starEach es X.env))) _ _ s
  refine Calls.spliced_cons (thn (ha pins s σ H _ I h) fun u s1 ⟨x, H1, I1, r1, q1⟩ => ?_)
  exact thn (hr pos pins s1 σ H1 _ I1 q1) fun us s2 ⟨xs, H2, I2, r2, q2⟩ => ⟨x :: xs, H2, I2, .cons r1 r2, q2⟩

/-- a tuple, a list of written items -/
def tTup (t : TA) : TE := fun σ H Q => t σ H fun xs H1 => xs.length ≤ sizeLine ∧ ∀ p, H1 p = none → Q (.ref p) (upd H1 p (.tup xs))
def tLst (t : TA) : TE := fun σ H Q => t σ H fun xs H1 => xs.length ≤ sizeLine ∧ ∀ p, H1 p = none → Q (.ref p) (upd H1 p (.lst xs))
theorem pe_tup {x1} (h : PA X es t) : PE X (.Tuple es x1 pos) (tTup t) := by
  intro pins s σ H Q I hq
  refine wpAny_Tuple_spliced (thn (h pos pins s σ H _ I hq) fun us s1 ⟨xs, H1, I1, r, z, q⟩ => ⟨by rw [← r.length]; exact z, ?_⟩)
  have hf : H1 s1.heap.objs.size = none := I1.hok.fresh (Nat.le_refl _)
  refine ⟨.ref s1.heap.objs.size, upd H1 s1.heap.objs.size (.tup xs), I1.laid (t' := s1.toks) (fun b u e => Heap.get?_push_of_some _ e) (Nat.le_refl _) ?_, rfl, q _ hf⟩
  exact ⟨z, us, r, ⟨_, Heap.get?_push_size _ rfl, rfl, _, rfl⟩⟩
theorem pe_lst (h : PA X es t) : PE X (.List es pos) (tLst t) := by
  intro pins s σ H Q I hq
  refine wpAny_List_spliced (thn (h pos pins s σ H _ I hq) fun us s1 ⟨xs, H1, I1, r, z, q⟩ => ⟨by rw [← r.length]; exact z, ?_⟩)
  have hf : H1 s1.heap.objs.size = none := I1.hok.fresh (Nat.le_refl _)
  refine ⟨.ref s1.heap.objs.size, upd H1 s1.heap.objs.size (.lst xs), I1.laid (t' := s1.toks) (fun b u e => Heap.get?_push_of_some _ e) (Nat.le_refl _) ?_, rfl, q _ hf⟩
  exact ⟨z, us, 0, r, Heap.get?_push_size _ rfl⟩
end

/-! ### what a def promises -/
/-- a def's promise: the bound arguments in the parameters' order, the heap, the wanted end, the wanted exception -/
abbrev Sp := List V → Hp → VK → XK → Prop
/-- how an exception lies behind a call (file 08 gives it): the callers' frames, abstract heap and state ahead of the call, the wish, the exception, the state -/
abbrev CXT := List Env → Hp → Shared → XK → Value → Shared → Prop

/-- the state at a call -/
structure Env0 (P : Program) (w : World) (K : PySem.W.Frag) (mg : Str → Option Value) (base : Heap) (A : Around) (outer : List Env) (s : Shared) (H : Hp) : Prop where
  frames : A.frames = some outer
  mod : Mod K mg base
  bs : ∀ b o, base.get? b = some o → s.heap.get? b = some o ∧ H b = none
  bsz : base.objs.size ≤ s.heap.objs.size
  funs : s.heap.FunFrames base outer
  frf : ∀ b ∈ frs outer, H b = none
  hok : HOk P w H s.heap
  bare : AllBare s.gens
/-- a call's end -/
def CE (outer : List Env) (P : Program) (w : World) (H : Hp) (s : Shared) (Q : VK) (u : Value) (s' : Shared) : Prop :=
  ∃ v H', s'.os = s.os ∧ AllBare s'.gens ∧ Un (frs outer) [] H H' s.heap s'.heap ∧ HOk P w H' s'.heap ∧ RelV v u ∧ Q v H'
def CR (CX : CXT) (outer : List Env) (P : Program) (w : World) (H : Hp) (s : Shared) (Q : VK) (E : XK) (r : Result) (s' : Shared) : Prop :=
  match r with
  | .ok (.ret u) => CE outer P w H s Q u s'
  | .ok _ => False
  | .error e => CX outer H s E e s'
structure FnOk (P : Program) (w : World) (K : PySem.W.Frag) (mg : Str → Option Value) (base : Heap) (CX : CXT) (cm : Bool) (k : Nat) (f : Addr) (fd : FuncData) (ps : List Str) (sp : Sp) : Prop where
  len : ∀ vs H Q E, sp vs H Q E → vs.length = ps.length
  run : ∀ (A : Around) (outer : List Env) (s : Shared) (H : Hp) (args : Args) (us : List Value) (vs : List V) (Q : VK) (E : XK), Room cm k A → Env0 P w K mg base A outer s H → BindsTo s fd args (ps.zip us) → Vals vs us → sp vs H Q E →
    codeAny (model P w) A (.call (.ref f) args) (CR CX outer P w H s Q E) s
theorem FnOk.mono {cm : Bool} {P : Program} {w : World} {K : PySem.W.Frag} {mg : Str → Option Value} {base : Heap} {CX : CXT} {j k : Nat} {f : Addr} {fd : FuncData} {ps : List Str} {sp : Sp} (F : FnOk P w K mg base CX cm j f fd ps sp) (h : j ≤ k) :
    FnOk P w K mg base CX cm k f fd ps sp := ⟨F.len, fun A outer s H args us vs Q E hr => F.run A outer s H args us vs Q E (hr.mono h)⟩
section
variable {X : Cx} {pins : List (Addr × Obj)} {σ : St} {H : Hp} {s s' : Shared}
/-- from a body: what a callee wants -/
theorem Inv.env0 (I : Inv X pins σ H s) : Env0 X.prog X.w X.K X.mg X.base X.A X.stack s H :=
  ⟨I.ok.frames, I.ok.mod, I.bs, Nat.le_trans I.ok.bsz I.sz, I.stack, I.stkFree, I.hok, I.bare⟩
/-- behind a call -/
theorem Inv.after {Q : VK} {u : Value} (I : Inv X pins σ H s) (h : CE X.stack X.prog X.w H s Q u s') : EP X pins σ Q u s' := by
  obtain ⟨v, H', os, bare, un, hok, r, q⟩ := h
  obtain ⟨hh, g, d, t, os'⟩ := s'
  obtain rfl : os' = s.os := os
  exact ⟨v, H', I.call (h' := hh) (g' := g) (d' := d) (t' := t) (ch := []) un hok bare (fun b z => absurd z (by simp)), r, q⟩
end

/-! ### calls -/
/-- f(..): the written arguments, then the defaults dvs; E: what is wanted of an exception -/
def tCall (sp : Sp) (dvs : List V) (E : XK) (t : TA) : TE := fun σ H Q => t σ H fun vs H1 => sp (vs ++ dvs) H1 Q E
/-- how the parameters are bound: us the positional arguments, kw the keywords' values by name, ds the defaults that fill up -/
def Binds (K : PySem.W.Frag) (fd : FuncData) (ps : List Str) (ds : List Value) : Prop :=
  ∀ (s : Shared) (us : List Value), K.In s.heap → (us ++ ds).length = ps.length → BindsTo s fd ⟨us, []⟩ (ps.zip (us ++ ds))
/-- every parameter is given -/
theorem Binds.all {K : PySem.W.Frag} {fd : FuncData} {ps : List Str} (h : ∀ us : List Value, us.length = ps.length → bindArgs fd ⟨us, []⟩ = pure (ps.zip us)) : Binds K fd ps [] := fun s us _ hl => by
  rw [List.append_nil] at hl ⊢
  exact .of_eq (h us hl)

/-- an exception of a callee reaches what this body wants of exceptions -/
def Passes (CX : CXT) (X : Cx) (E : XK) : Prop := ∀ (pins : List (Addr × Obj)) (σ : St) (H : Hp) (s : Shared) (e : Value) (s' : Shared), Inv X pins σ H s → CX X.stack H s E e s' → X.xe e s'

section
variable {X : Cx} {CX : CXT} {cm : Bool} {k : Nat} {f C : Addr} {fd : FuncData} {ps : List Str} {sp : Sp} {dvs : List V} {ds : List Value} {E : XK} {x m : Str} {p pos apos : Pos} {e o : Expr} {es : List Expr} {ta : TE} {t : TA}

/-- the callee runs -/
theorem run_fn {pins : List (Addr × Obj)} {σ : St} {H : Hp} {s : Shared} {Q : VK} {us : List Value} {vs : List V} (F : FnOk X.prog X.w X.K X.mg X.base CX cm k f fd ps sp) (hr : Room cm k X.A) (hb : Binds X.K fd ps ds) (hd : Vals dvs ds) (hx : Passes CX X E)
    (I : Inv X pins σ H s) (r : Vals vs us) (h : sp (vs ++ dvs) H Q E) : wpAny (model X.prog X.w) X.A (call (.ref f) us) (EP X pins σ Q) X.xe s := by
  have r2 : Vals (vs ++ dvs) (us ++ ds) := r.append hd
  have hl : (us ++ ds).length = ps.length := by rw [← r2.length]; exact F.len _ _ _ _ h
  refine wpAny_call (codeAny_mono (F.run X.A X.stack s H ⟨us, []⟩ (us ++ ds) (vs ++ dvs) Q E hr I.env0 (hb s us I.kIn hl) r2 h) fun r s' hq => ?_)
  cases r with
  | error e => exact hx pins σ H s e s' I hq
  | ok fl =>
    cases fl with
    | ret u => exact I.after hq
    | next => exact False.elim hq
    | brk => exact False.elim hq
    | cont => exact False.elim hq

theorem pe_call (F : FnOk X.prog X.w X.K X.mg X.base CX cm k f fd ps sp) (hr : Room cm k X.A) (hg : Gl X x) (hm : X.mg x = some (.ref f)) (hk : PySem.W.keepIn X.K (.ref f) = true) (hb : Binds X.K fd ps ds) (hd : Vals dvs ds) (hx : Passes CX X E)
    (ha : PA X (e :: es) t) (hdb : (x == ("__debug__" : Str)) = false := by decide) (he : starEach (e :: es) X.env = (false, eval e X.env) :: starEach es X.env := by rfl) (hpl : (backTo pos (starEach es X.env)).any (·.1) = false := by rfl) :
    PE X (.Call (.Name x p) (e :: es) [] pos) (tCall sp dvs E t) := by
  intro pins s σ H Q I h
  refine wpAny_Call_Name_kw (ld_glob I hg hm ?_ hdb)
  refine PySem.W.callWith_K (h₀ := X.base) I.ok.mod.kin hk (thn (ha pos pins s σ H _ I h) fun us s1 ⟨vs, H1, I1, r, q⟩ => ⟨I1.kIn, ?_⟩) he hpl
  exact run_fn F hr hb hd hx I1 r q
/-- what a class must have to be made -/
structure Mk (K : PySem.W.Frag) (C f : Addr) : Prop where
  makes : PySem.W.makesIn K C = true
  init : PySem.W.findIn K (.ref C) "__init__" = some (some (.ref f))
  fn : PySem.W.isFn K (.ref f) = true
  kp : PySem.W.keepIn K (.ref C) = true

end

/-! ### keywords -/
section
variable {X : Cx} {CX : CXT} {cm : Bool} {k : Nat} {f C : Addr} {fd : FuncData} {ps ks : List Str} {sp : Sp} {E : XK} {x m : Str} {p pos apos kpos : Pos} {e o : Expr} {es : List Expr} {kws : List Keyword} {te ta : TE} {t tk : TA} {nm : Option Str}
/-- how a call with keywords binds: g puts the positional values us and the keywords' values ws (names ks) in the parameters' order, defaults among them -/
structure KBinds (K : PySem.W.Frag) (fd : FuncData) (ps ks : List Str) (g : List Value → List Value → List Value) (gV : List V → List V → List V) : Prop where
  to : ∀ (s : Shared) (us ws : List Value), K.In s.heap → (g us ws).length = ps.length → BindsTo s fd ⟨us, ks.zip ws⟩ (ps.zip (g us ws))
  rel : ∀ {vs : List V} {us : List Value} {zs : List V} {ws : List Value}, Vals vs us → Vals zs ws → Vals (gV vs zs) (g us ws)
variable {g : List Value → List Value → List Value} {gV : List V → List V → List V}
end

/-! ### a def's body keeps its promise -/
/-- names: the parameters first -/
structure FnScope (N P : List Str) (sc : Scope) : Prop where
  kind : sc.kind = .function
  co : sc.isCoroutine = false
  gen : sc.isGenerator = false
  nd : N.Nodup
  pre : N.take P.length = P
  par : ∀ x ∈ P, sc.names.lookup x = some .local ∨ sc.names.lookup x = some .cell
  nofree : ∀ y ∈ sc.names, y.2 ≠ .free

theorem bindL_out {kindOf : Str → Option NameKind} {x : Str} : ∀ {binds : List (Str × Value)} {m : Str → Option Value}, (∀ v, (x, v) ∉ binds) → bindL kindOf binds m x = m x
  | [], _, _ => rfl
  | (n, v) :: r, m, h => by
    unfold bindL
    rw [bindL_out fun w hw => h w (List.mem_cons_of_mem _ hw)]
    split
    · have : x ≠ n := by rintro rfl; exact h v List.mem_cons_self
      simp [this]
    · rfl
theorem bindC_out {kindOf : Str → Option NameKind} {x : Str} : ∀ {binds : List (Str × Value)} {m : Str → Option Value}, (∀ v, (x, v) ∉ binds) → bindC kindOf binds m x = m x
  | [], _, _ => rfl
  | (n, v) :: r, m, h => by
    unfold bindC
    rw [bindC_out fun w hw => h w (List.mem_cons_of_mem _ hw)]
    split
    · rfl
    · have : x ≠ n := by rintro rfl; exact h v List.mem_cons_self
      simp [this]
theorem bindL_get {kindOf : Str → Option NameKind} {x : Str} {v : Value} : ∀ {P : List Str} {vs : List Value} {i : Nat} {m : Str → Option Value}, P.Nodup → P[i]? = some x → vs[i]? = some v → kindOf x = some .local →
    bindL kindOf (P.zip vs) m x = some v
  | [], _, _, _, _, h, _, _ => by simp at h
  | _ :: _, [], _, _, _, _, h, _ => by simp at h
  | p :: P, w :: vs, 0, m, nd, h1, h2, hk => by
    simp at h1 h2; subst h1; subst h2
    show bindL kindOf ((p, w) :: P.zip vs) m p = _
    unfold bindL
    rw [bindL_out fun v hv => (List.nodup_cons.mp nd).1 (List.of_mem_zip hv).1, if_pos hk]
    simp
  | p :: P, w :: vs, i + 1, m, nd, h1, h2, hk => by
    show bindL kindOf ((p, w) :: P.zip vs) m x = _
    unfold bindL
    exact bindL_get (i := i) (List.nodup_cons.mp nd).2 (by simpa using h1) (by simpa using h2) hk
theorem bindC_get {kindOf : Str → Option NameKind} {x : Str} {v : Value} : ∀ {P : List Str} {vs : List Value} {i : Nat} {m : Str → Option Value}, P.Nodup → P[i]? = some x → vs[i]? = some v → kindOf x ≠ some .local →
    bindC kindOf (P.zip vs) m x = some v
  | [], _, _, _, _, h, _, _ => by simp at h
  | _ :: _, [], _, _, _, _, h, _ => by simp at h
  | p :: P, w :: vs, 0, m, nd, h1, h2, hk => by
    simp at h1 h2; subst h1; subst h2
    show bindC kindOf ((p, w) :: P.zip vs) m p = _
    unfold bindC
    rw [bindC_out fun v hv => (List.nodup_cons.mp nd).1 (List.of_mem_zip hv).1, if_neg hk]
    simp
  | p :: P, w :: vs, i + 1, m, nd, h1, h2, hk => by
    show bindC kindOf ((p, w) :: P.zip vs) m x = _
    unfold bindC
    exact bindC_get (i := i) (List.nodup_cons.mp nd).2 (by simpa using h1) (by simpa using h2) hk

/-- the names' values at the entry -/
def start (N : List Str) (vs : List V) : St := vs.map some ++ List.replicate (N.length - vs.length) none

/-- the context of a def's body, at its entry; an exception leaves the frame, then lies as CX says -/
def cxOf (CX : CXT) (cm : Bool) (P : Program) (w : World) (K : PySem.W.Frag) (mg : Str → Option Value) (base : Heap) (N : List Str) (qual : Str) (scope : Scope) (f : Addr) (cd : Value) (A : Around) (outer : List Env) (s : Shared) (H : Hp) (E : XK) : Cx where
  prog := P
  w := w
  K := K
  mg := mg
  base := base
  A := A.deeper (envOfC qual scope s.heap.objs.size f cd)
  N := N
  s₀ := s
  H₀ := H
  env := envOfC qual scope s.heap.objs.size f cd
  outer := outer
  stack := envOfC qual scope s.heap.objs.size f cd :: outer
  ex := []
  calm := cm
  fn := fun _ => true
  pn := []
  xe := fun e s' => wpAny (model P w) (A.deeper (envOfC qual scope s.heap.objs.size f cd)) (leaving (envOfC qual scope s.heap.objs.size f cd) e) (fun _ s'' => CX outer H s E e s'') (fun e' s'' => CX outer H s E e' s'') s'

theorem cell_has {sc : Scope} {n : Nat} {x : Str} (h : sc.names.lookup x = some .cell) : ∃ c, (cellsFrom n sc.names []).lookup x = some c := by
  have q := PySem.W.cellsFrom_some sc.names n [] (.inl h)
  exact Option.isSome_iff_exists.mp q

theorem inv_start {cm : Bool} {CX : CXT} {P : Program} {w : World} {K : PySem.W.Frag} {mg : Str → Option Value} {base : Heap} {N ps : List Str} {qual : Str} {scope : Scope} {f : Addr} {cd : Value} {A : Around} {outer : List Env} {s s1 : Shared} {H : Hp} {E : XK} {us : List Value} {vs : List V}
    (S : FnScope N ps scope) (hd : cm = true → A.handled = none) (e0 : Env0 P w K mg base A outer s H) (hl : vs.length = ps.length) (r : Vals vs us)
    (x : InCallC s s.heap.objs.size (bindL (envOfC qual scope s.heap.objs.size f cd).kindOf (ps.zip us) fun _ => none) (cellsFrom (s.heap.objs.size + 1) scope.names []) (bindC (envOfC qual scope s.heap.objs.size f cd).kindOf (ps.zip us) fun _ => none) s1) :
    Inv (cxOf CX cm P w K mg base N qual scope f cd A outer s H E) [] (start N vs) H s1 := by
  have hpl : ps.length ≤ N.length := by have := congrArg List.length S.pre; rw [List.length_take] at this; omega
  obtain ⟨h1, tk, rfl, hk⟩ := x.done
  have noA : ∀ b : Addr, b ∉ (cxOf CX cm P w K mg base N qual scope f cd A outer s H E).ex := fun b z => absurd (show b ∈ ([] : List Addr) from z) (by simp)
  refine ⟨⟨e0.mod, S.kind, rfl, rfl, Nat.le_refl _, fun y z c h1 h2 => ?_, fun y hy => ?_, fun y c _ h => ?_, hd, Around.frames_deeper e0.frames, .inr ⟨rfl, rfl⟩, fun b z => absurd z (noA b), e0.bs, e0.bsz, fun b _ _ => noA b, fun b z => absurd z (noA b), e0.funs, e0.frf⟩,
    rfl, e0.bare, Un.kept hk, ⟨_, x.toInCall.ns, fun i y v h1 h2 h3 => ?_⟩, fun y c h => ⟨_, x.cell y c h⟩, e0.hok.fresh (Nat.le_refl _), fun y c h => ?_, fun p hp => absurd (show p ∈ ([] : List (Addr × Obj)) from hp) (by simp), e0.hok.kept hk, ?_⟩
  · exact name_of_addr x.apart (PySem.mem_of_lookup h1) (PySem.mem_of_lookup h2)
  · have hy : scope.names.lookup y = some .cell ∨ scope.names.lookup y = some .free := hy
    rcases hy with hy | hy
    · exact cell_has hy
    · exact absurd rfl (S.nofree _ (PySem.mem_of_lookup hy))
  · exact Nat.le_of_lt (x.above y c (PySem.mem_of_lookup h))
  · have hi : i < vs.length := by
      unfold start at h2
      by_cases hi : i < vs.length
      · exact hi
      · rw [List.getElem?_append_right (by simpa using hi)] at h2
        rw [List.getElem?_replicate] at h2
        split at h2 <;> cases h2
    have ha : vs[i]? = some v := by
      unfold start at h2
      rw [List.getElem?_append_left (by simpa using hi), List.getElem?_map] at h2
      cases e : vs[i]? with
      | none => rw [e] at h2; cases h2
      | some a => rw [e] at h2; cases h2; rfl
    obtain ⟨u, hu, rv⟩ := r.get ha
    have hp : ps[i]? = some y := by
      rw [← S.pre, List.getElem?_take_of_lt (by omega)]; exact h1
    have ndP : ps.Nodup := by rw [← S.pre]; exact S.nd.sublist (List.take_sublist _ _)
    refine ⟨u, rv, ?_⟩
    rcases S.par y (List.mem_of_getElem? hp) with k | k
    · exact .inl ⟨k, bindL_get ndP hp hu k⟩
    · obtain ⟨c, e⟩ := cell_has (n := s.heap.objs.size + 1) k
      refine .inr ⟨.inl k, c, e, ?_⟩
      have q := x.cell y c e
      rw [bindC_get ndP hp hu (by show scope.names.lookup y ≠ _; rw [k]; decide)] at q
      exact q
  · exact e0.hok.fresh (Nat.le_of_lt (x.above y c (PySem.mem_of_lookup h)))
  · unfold start
    show _ = N.length
    rw [List.length_append, List.length_map, List.length_replicate]
    omega

/-- THE RULE: a def (or a method) of the text, by its body. The body's reading t is chosen for each entry; it is run at the parameters' values -/
theorem fn_of {cm : Bool} {CX : CXT} {P : Program} {w : World} {K : PySem.W.Frag} {mg : Str → Option Value} {base : Heap} {k : Nat} {f : Addr} {name qual : Str} {params : Arguments} {body : List Stmt} {scope : Scope} {dV kV doc pm cdv ct oc : Value} {an od : Option Addr}
    {osl : Array (Option Value)} {N ps : List Str} {sp : Sp} (lk : K.lookup f = some ⟨oc, od, .func (PySem.W.fnOf name qual params body scope dV kV doc pm an cdv ct), osl⟩) (hcd : PySem.W.codeIn K cdv qual = true) (S : FnScope N ps scope)
    (len : ∀ vs H Q E, sp vs H Q E → vs.length = ps.length)
    (hbody : ∀ (A : Around) (outer : List Env) (s : Shared) (H : Hp) (vs : List V) (Q : VK) (E : XK), Room cm k (A.deeper (envOfC qual scope s.heap.objs.size f cdv)) → sp vs H Q E →
      ∃ t, PSs (cxOf CX cm P w K mg base N qual scope f cdv A outer s H E) body t ∧ t { nx := fun _ H' => Q .non H', rt := Q } (start N vs) H) :
    FnOk P w K mg base CX cm (k + 1) f (PySem.W.fnOf name qual params body scope dV kV doc pm an cdv ct) ps sp := by
  refine ⟨len, fun A outer s H args us vs Q E hr e0 hb r hsp => ?_⟩
  have hl := len _ _ _ _ hsp
  have KX : K.In s.heap := e0.mod.kin.keeps fun b o e => (e0.bs b o e).1
  have lim : s.heap.NoLimit := e0.mod.nolimit.keeps fun b o e => (e0.bs b o e).1
  have hkind : ∀ y ∈ ps.zip us, scope.names.lookup y.1 = some .local ∨ (scope.names.lookup y.1 = some .cell ∧ ((cellsFrom (s.heap.objs.size + 1) scope.names []).lookup y.1).isSome = true) := fun ⟨n, v⟩ hy => by
    rcases S.par n (List.of_mem_zip hy).1 with q | q
    · exact .inl q
    · exact .inr ⟨q, PySem.W.cellsFrom_some _ _ _ (.inl q)⟩
  refine codeAny_call_function hr.depth (KX _ _ lk) rfl S.co S.gen rfl (PySem.W.codeRec_of KX hcd) (hb _ _ _ _ ?_)
  refine wpAny_newFunctionEnv_cells S.kind hkind fun env he s1 x => ?_
  subst he
  refine ⟨lim.keeps x.toInCall.keep, codeAny_func ?_⟩
  obtain ⟨t, ht, hq⟩ := hbody A outer s H vs Q E (hr.deeper _) hsp
  have I : Inv (cxOf CX cm P w K mg base N qual scope f cdv A outer s H E) [] (start N vs) H s1 := inv_start S hr.hd e0 hl r x
  refine wpAny_mono (ht [] s1 (start N vs) H _ I hq) (fun fl s' hs => ?_) fun e s' hs => hs
  have fin : ∀ {σ' : St} {H' : Hp} {v : V} {u : Value}, Inv (cxOf CX cm P w K mg base N qual scope f cdv A outer s H E) [] σ' H' s' → RelV v u → Q v H' → CE outer P w H s Q u s' :=
    fun {σ' H' v u} J rv q => ⟨v, H', J.os, J.bare, J.base, J.hok, rv, q⟩
  cases fl with
  | ret u =>
    obtain ⟨v, σ', H', J, rv, q⟩ := hs
    exact fin J rv q
  | next =>
    obtain ⟨σ', H', J, q⟩ := hs
    exact fin (v := V.non) (u := Value.none) J rfl q
  | brk =>
    obtain ⟨_, _, _, q⟩ := hs
    exact False.elim q
  | cont =>
    obtain ⟨_, _, _, q⟩ := hs
    exact False.elim q
end L2

namespace L2
open PySem PySem.Spec PyProof.Rows
section
variable {X : Cx} {x : Str} {p pos : Pos} {e : Expr} {es : List Expr} {t : TA} {id T : String} {r : List V → Hp → VK → Prop}

def tCB (r : List V → Hp → VK → Prop) (t : TA) : TE := fun σ H Q => t σ H fun vs H1 => r vs H1 Q
/-- f(e, ..), f a built-in function -/
theorem pe_callB (hc : CallR X (.builtin id) r) (hg : Gl X x) (hm : X.mg x = none) (hv : bootBuiltins x = some (.builtin id)) (ha : PA X (e :: es) t) (hn : x ≠ "__name__" := by decide) (hdb : (x == ("__debug__" : Str)) = false := by decide)
    (he : starEach (e :: es) X.env = (false, eval e X.env) :: starEach es X.env := by rfl) (hpl : (backTo pos (starEach es X.env)).any (·.1) = false := by rfl) : PE X (.Call (.Name x p) (e :: es) [] pos) (tCB r t) := by
  intro pins s σ H Q I h
  refine wpAny_Call_Name_kw (ld_blt I hg hm hv ?_ hn hdb)
  exact PyProof.Rows.callWith_builtin1 (thn (ha pos pins s σ H _ I h) fun us s1 ⟨vs, H1, I1, r1, q1⟩ => hc pins s1 σ H1 vs us Q I1 r1 q1) he hpl
/-- T(e, ..), T a built-in type -/
theorem pe_callTy (hc : CallR X (.type T) r) (hg : Gl X x) (hm : X.mg x = none) (hv : bootBuiltins x = some (.type T)) (ha : PA X (e :: es) t) (hn : x ≠ "__name__" := by decide) (hdb : (x == ("__debug__" : Str)) = false := by decide)
    (he : starEach (e :: es) X.env = (false, eval e X.env) :: starEach es X.env := by rfl) (hpl : (backTo pos (starEach es X.env)).any (·.1) = false := by rfl) : PE X (.Call (.Name x p) (e :: es) [] pos) (tCB r t) := by
  intro pins s σ H Q I h
  refine wpAny_Call_Name_kw (ld_blt I hg hm hv ?_ hn hdb)
  exact PyProof.Rows.callWith_type1 (thn (ha pos pins s σ H _ I h) fun us s1 ⟨vs, H1, I1, r1, q1⟩ => hc pins s1 σ H1 vs us Q I1 r1 q1) he hpl
end
end L2

namespace HT
open PySem PyProof.Rows

section
open PySem.SeqAt
open PySem.AutoSeq1 (wpAny_loadPart')
open PySem.MeetsSeq PySem.MeetsSeq2 PySem.MeetsSeq3

end

section
variable {prog : Program} {w : World} {A : Around} {E : Value → Shared → Prop} {s : Shared}

/-! ### t[a:b], not the whole -/
/-- a slice's bound as a place among n (d where it is left out) -/
def sIx (n d : Nat) : Option Int → Nat
  | none => d
  | some v => if v < 0 then (v + (n : Int)).toNat else min v.toNat n
end
end HT

namespace L2
open PySem PySem.Spec PyProof.Rows

/-! ### the parts of a slice -/
abbrev TO := St → Hp → (Option Int → Hp → Prop) → Prop
/-- a slice's part (left out, or an int) -/
def PO (X : Cx) (e : Option Expr) (t : TO) : Prop :=
  ∀ (pins : List (Addr × Obj)) (s : Shared) (σ : St) (H : Hp) (Q : Option Int → Hp → Prop), Inv X pins σ H s → t σ H Q →
    wpAny (model X.prog X.w) X.A (evalPart e X.env) (fun u s' => ∃ o H', Inv X pins σ H' s' ∧ IsPart u o ∧ Q o H') X.xe s
def tNoPart : TO := fun _ H Q => Q none H
def tPart (t : TE) : TO := fun σ H Q => t σ H fun x H1 => ∃ i, x = .int i ∧ Q (some i) H1

section
variable {X : Cx} {e : Expr} {te : TE} {lo hi : Option Expr} {tl th : TO} {pos p2 : Pos}

theorem po_none : PO X none tNoPart := by
  intro pins s σ H Q I h
  rw [evalPart_none]
  exact wpAny_pure ⟨none, H, I, .none, h⟩
theorem po_some (h : PE X e te) : PO X (some e) (tPart te) := by
  intro pins s σ H Q I hw
  rw [evalPart_some]
  refine thn (h pins s σ H _ I hw) fun u s1 ⟨x, H1, I1, r1, q1⟩ => ?_
  obtain ⟨i, rfl, q⟩ := q1
  obtain ⟨t, rfl⟩ := r1
  exact ⟨some i, H1, I1, .int i t, q⟩

/-- what a slice of a value is, by values: the slice object stands at sl -/
def SlR (X : Cx) (r : V → Option Int → Option Int → Hp → VK → Prop) : Prop :=
  ∀ (pins : List (Addr × Obj)) (s : Shared) (σ : St) (H : Hp) (x : V) (v vl vu : Value) (lo hi : Option Int) (sl : Addr) (Q : VK), Inv X pins σ H s → RelV x v → s.heap.IsSliceOf sl vl vu .none → IsPart vl lo → IsPart vu hi → r x lo hi H Q →
    ∃ T id, typeLookup (.type T) "__getitem__" = pure (some (.builtin id)) ∧ s.TypeIs v T ∧ wpAny (model X.prog X.w) X.A (getItem v (.ref sl)) (EP X pins σ Q) X.xe s
def tSl (r : V → Option Int → Option Int → Hp → VK → Prop) (te : TE) (tl th : TO) : TE := fun σ H Q => te σ H fun x H1 => tl σ H1 fun l H2 => th σ H2 fun u H3 => r x l u H3 Q
/-- a[lo:hi], any a -/
theorem pe_slice {r : V → Option Int → Option Int → Hp → VK → Prop} (hr : SlR X r) (he : PE X e te) (hl : PO X lo tl) (hu : PO X hi th) : PE X (.Subscript e (.Slice lo hi none p2) pos) (tSl r te tl th) := by
  intro pins s σ H Q I h
  refine Subscript_ (thn (he pins s σ H _ I h) fun v s1 ⟨x, H1, I1, r1, q1⟩ => ?_)
  refine wpAny_Slice (thn (hl pins s1 σ H1 _ I1 q1) fun vl s2 ⟨l, H2, I2, pl, q2⟩ => thn (hu pins s2 σ H2 _ I2 q2) fun vu s3 ⟨u, H3, I3, pu, q3⟩ => ?_)
  rw [evalPart_none]
  refine wpAny_pure ?_
  have I4 : Inv X pins σ H3 { s3 with heap := s3.heap.push { cls := .type "slice", data := .fields #[vl, vu, .none] } } := I3.kept (t' := s3.toks) fun b ob q => Heap.get?_push_of_some _ q
  obtain ⟨T, id, hT, ht, hg⟩ := hr pins { s3 with heap := s3.heap.push { cls := .type "slice", data := .fields #[vl, vu, .none] } } σ H3 x v vl vu l u s3.heap.objs.size Q I4 r1 (Heap.IsSliceOf.new ..) pl pu q3
  show wpAny (model X.prog X.w) X.A (subscriptTail e (.Slice lo hi none p2) v (.ref s3.heap.objs.size)) (EP X pins σ Q) X.xe { s3 with heap := s3.heap.push { cls := .type "slice", data := .fields #[vl, vu, .none] } }
  exact tail_any (ops := [.ref s3.heap.objs.size, v]) ht hT hg (by with_unfolding_all rfl)

/-- the items of xs[lo:hi] -/
def cutV (xs : List V) (lo hi : Option Int) : List V := (xs.drop (HT.sIx xs.length 0 lo)).take (HT.sIx xs.length xs.length hi - HT.sIx xs.length 0 lo)
theorem cutV_length (xs : List V) (lo hi : Option Int) : (cutV xs lo hi).length ≤ xs.length := by
  unfold cutV
  rw [List.length_take, List.length_drop]
  omega
/-! ### t < u, t + u -/
end
end L2

namespace L2
open PySem PySem.Spec PyProof.Rows

/-! ### places -/
/-- the place that an index of any sign means -/
def ixN (n : Nat) (i : Int) : Option Nat := if 0 ≤ i then (if i < n then some i.toNat else none) else if -(n : Int) ≤ i then some (i + n).toNat else none
def atI {α : Type} (xs : List α) (i : Int) : Option α := (ixN xs.length i).bind fun j => xs[j]?
theorem ixN_seq {n : Nat} {i : Int} {j : Nat} (h : ixN n i = some j) : seqIndex? i n = some j ∧ j < n ∧ -(n : Int) ≤ i ∧ i < n := by
  unfold ixN at h
  by_cases h0 : 0 ≤ i
  · rw [if_pos h0] at h
    by_cases h1 : i < n
    · rw [if_pos h1] at h
      have e : i.toNat = j := Option.some.inj h
      exact ⟨by rw [seqIndex_of h0 h1, e], by omega, by omega, h1⟩
    · rw [if_neg h1] at h; cases h
  · rw [if_neg h0] at h
    by_cases h1 : -(n : Int) ≤ i
    · rw [if_pos h1] at h
      have e : (i + n).toNat = j := Option.some.inj h
      exact ⟨by rw [seqIndex_neg (by omega) h1, e], by omega, h1, by omega⟩
    · rw [if_neg h1] at h; cases h
theorem atI_get {α : Type} {xs : List α} {i : Int} {v : α} (h : atI xs i = some v) : ∃ j, seqIndex? i xs.length = some j ∧ xs[j]? = some v ∧ j < xs.length ∧ -(xs.length : Int) ≤ i ∧ i < xs.length := by
  unfold atI at h
  cases e : ixN xs.length i with
  | none => rw [e] at h; cases h
  | some j =>
    rw [e] at h
    obtain ⟨h1, h2, h3, h4⟩ := ixN_seq e
    exact ⟨j, h1, h, h2, h3, h4⟩
theorem atI_nat {α : Type} {xs : List α} {j : Nat} {v : α} (h : xs[j]? = some v) : atI xs (j : Int) = some v := by
  have hj : j < xs.length := (List.getElem?_eq_some_iff.mp h).1
  have e : ixN xs.length (j : Int) = some j := by
    unfold ixN
    rw [if_pos (by omega), if_pos (by omega)]; simp
  unfold atI; rw [e]; exact h
/-! ### what may be subscripted -/
/-- what stands as an index of a plain subscript -/
def PlainIx (b : Expr) : Prop := ∀ o i, subscripted b false o i = operate [o, i] (getItem o i)
/-- a subscript by values -/
def IxR (X : Cx) (r : R2) : Prop :=
  ∀ (value slice : Expr) (pins : List (Addr × Obj)) (s : Shared) (σ : St) (H : Hp) (x y : V) (v u : Value) (Q : VK), Inv X pins σ H s → RelV x v → RelV y u → r x y H Q →
    subscripted slice false v u = operate [v, u] (getItem v u) → wpAny (model X.prog X.w) X.A (subscriptTail value slice v u) (EP X pins σ Q) X.xe s
/-- a call of a builtin's method by values: the receiver, the arguments -/
def MtR (X : Cx) (id : String) (r : V → List V → Hp → VK → Prop) : Prop :=
  ∀ (pins : List (Addr × Obj)) (s : Shared) (σ : St) (H : Hp) (x : V) (xs : List V) (v : Value) (us : List Value) (Q : VK), Inv X pins σ H s → RelV x v → Vals xs us → r x xs H Q →
    wpAny (model X.prog X.w) X.A (call (.builtin id) (v :: us)) (EP X pins σ Q) X.xe s
section
variable {X : Cx} {a b : Expr} {ta tb : TE} {pos : Pos}
/-- a[b] -/
theorem pe_ix {r : R2} (hr : IxR X r) (ha : PE X a ta) (hb : PE X b tb) (hs : PlainIx b) : PE X (.Subscript a b pos) (tOp r ta tb) := by
  intro pins s σ H Q I h
  exact Subscript_ (binT ha hb I h fun v u s2 x y H2 I2 rx ry q => hr a b pins s2 σ H2 x y v u Q I2 rx ry q (hs _ _))

def rIxL (K : PySem.W.Frag) : R2 := fun x y H Q => ∃ p xs i v, x = .ref p ∧ y = .int i ∧ SqL K H p xs ∧ atI xs i = some v ∧ Q v H
def rIxT (K : PySem.W.Frag) : R2 := fun x y H Q => ∃ p xs i v, x = .ref p ∧ y = .int i ∧ SqT K H p xs ∧ atI xs i = some v ∧ Q v H
def rIxS : R2 := fun x y H Q => ∃ z i c, x = .str z ∧ y = .int i ∧ z.length ≤ sizeLine ∧ atI z.cps.toList i = some c ∧ Q (.str ⟨#[c]⟩) H
theorem ix_list : IxR X (rIxL X.K) := by
  intro value slice pins s σ H x y v u Q I rx ry h hs
  obtain ⟨p, xs, i, z, rfl, rfl, hq, he, q⟩ := h
  cases rx
  obtain ⟨t, rfl⟩ := ry
  obtain ⟨its, r, pl, hz⟩ := I.list hq
  obtain ⟨j, h1, h2, h3, h4, h5⟩ := atI_get he
  obtain ⟨w, ew, rw'⟩ := r.get h2
  have hl := r.length
  have hn := line63
  have fin : EP X pins σ Q w s := ⟨z, H, I, rw', q⟩
  by_cases h0 : 0 ≤ i
  · have hj : i.toNat = j := by
      rw [seqIndex_of h0 h5] at h1
      exact Option.some.inj h1
    exact item_listR pl.isList h0 (by omega) (by rw [hj]; simpa using ew) fin hs
  · have hj : (i + (its.toArray.size : Int)).toNat = j := by
      rw [seqIndex_neg (by omega) h4] at h1
      rw [List.size_toArray, ← hl]
      exact Option.some.inj h1
    exact subscriptTail_builtinR (x := w) pl.isList.typeIs slot_list_getitem.lookup
      (wpAny_getItem_list_neg (Q := fun r s' => r = w ∧ EP X pins σ Q r s') pl.isList (by omega) (by rw [List.size_toArray] <;> omega) (by omega) (by rw [hj]; simpa using ew) ⟨rfl, fin⟩) hs
theorem ix_tup : IxR X (rIxT X.K) := by
  intro value slice pins s σ H x y v u Q I rx ry h hs
  obtain ⟨p, xs, i, z, rfl, rfl, hq, he, q⟩ := h
  cases rx
  obtain ⟨t, rfl⟩ := ry
  obtain ⟨its, r, pl, hz⟩ := I.tuple hq
  obtain ⟨j, h1, h2, h3, h4, h5⟩ := atI_get he
  obtain ⟨w, ew, rw'⟩ := r.get h2
  have hl := r.length
  have hn := line63
  have fin : EP X pins σ Q w s := ⟨z, H, I, rw', q⟩
  exact subscriptTail_builtinR (x := w) pl.typeIs slot_tuple_getitem.lookup
    (getItem_tuple (j := j) (Q := fun r s' => r = w ∧ EP X pins σ Q r s') pl (by omega) (by omega) (by rw [List.size_toArray, ← hl]; exact h1) (by simpa using ew) ⟨rfl, fin⟩) hs
theorem ix_str : IxR X rIxS := by
  intro value slice pins s σ H x y v u Q I rx ry h hs
  obtain ⟨z, i, c, rfl, rfl, hz, he, q⟩ := h
  obtain ⟨t, rfl⟩ := rx
  obtain ⟨t', rfl⟩ := ry
  obtain ⟨j, h1, h2, h3, h4, h5⟩ := atI_get he
  have hl : z.cps.toList.length = z.length := by simp [Str.length]
  rw [hl] at h1 h4 h5
  have hn := line63
  exact tail_any (typeIs_str s z t) slot_str_getitem.lookup (getItem_str (c := c) (by
    have e1 : decide (i < -(2 ^ 63 : Int)) = false := decide_eq_false (by omega)
    have e2 : decide (i ≥ 2 ^ 63) = false := decide_eq_false (by omega)
    rw [e1, e2, Bool.or_false]) (by rw [h1]; simpa using h2) ⟨.str ⟨#[c]⟩, H, I.tok _, ⟨_, rfl⟩, q⟩) hs
/-! ### xs[i] = v, any sign -/
/-- the list's object behind a store -/
theorem mapSeq_set (its : List Value) (n j : Nat) (u : Value) : Obj.mapSeq (·.setIfInBounds j u) { cls := .type "list", data := .seq its.toArray n } = { cls := .type "list", data := .seq (its.set j u).toArray n } := by
  simp [Obj.mapSeq]
theorem Inv.lst {pins : List (Addr × Obj)} {σ : St} {H : Hp} {s : Shared} {p : Addr} {xs : List V} (I : Inv X pins σ H s) (h : H p = some (.lst xs)) :
    ∃ (its : List Value) (n : Nat), Vals xs its ∧ s.heap.get? p = some { cls := .type "list", data := .seq its.toArray n } ∧ xs.length ≤ sizeLine := by
  obtain ⟨z, its, n, r, e⟩ := I.hok p _ h
  exact ⟨its, n, r, e, z⟩
/-- the list at p is written by an update of its object -/
theorem Inv.lstUpd {pins : List (Addr × Obj)} {σ : St} {H : Hp} {s : Shared} {p : Addr} {xs ys : List V} {its its' : List Value} {n n' : Nat} {f : Obj → Obj} (I : Inv X pins σ H s) (h : H p = some (.lst xs))
    (ho : s.heap.get? p = some { cls := .type "list", data := .seq its.toArray n }) (hf : f { cls := .type "list", data := .seq its.toArray n } = { cls := .type "list", data := .seq its'.toArray n' }) (r : Vals ys its') (hz : ys.length ≤ sizeLine) (t : Nat) :
    Inv X pins σ (upd H p (.lst ys)) { s with heap := s.heap.update p f, toks := t } := by
  have e : (s.heap.update p f).get? p = some { cls := .type "list", data := .seq its'.toArray n' } := by
    rw [Heap.get?_update_self f ho (by rw [hf] <;> rfl), hf]
  refine I.write (x := p) (e := p) (by rw [h]; trivial) (.inl rfl) (fun b u hb q => (Heap.get?_update_other _ _ (Ne.symm hb)).trans q) ⟨_, e⟩ ?_
  exact ⟨hz, its', n', r, e⟩
def rSetL : V → V → V → Hp → (Hp → Prop) → Prop := fun o i v H Q => ∃ p xs k j, o = .ref p ∧ i = .int k ∧ H p = some (.lst xs) ∧ ixN xs.length k = some j ∧ Q (upd H p (.lst (xs.set j v)))
theorem set_list : PSet X rSetL := by
  intro pins s σ H o i v ov iv u Q I ro ri rv h
  obtain ⟨p, xs, k, j, rfl, rfl, hp, hj, q⟩ := h
  cases ro
  obtain ⟨t, rfl⟩ := ri
  obtain ⟨its, n, r, ho, hz⟩ := I.lst hp
  obtain ⟨h1, h2, h3, h4⟩ := ixN_seq hj
  have hl := r.length
  have hn := line63
  have I' : Inv X pins σ (upd H p (.lst (xs.set j v))) { s with heap := s.heap.update p (Obj.mapSeq (·.setIfInBounds j u)) } :=
    I.lstUpd hp ho (mapSeq_set its n j u) (r.set rv j) (by rw [List.length_set]; exact hz) s.toks
  by_cases h0 : 0 ≤ k
  · have hk : k.toNat = j := by
      rw [seqIndex_of h0 h4] at h1
      exact Option.some.inj h1
    exact PySem.W.ki_setAt ho h0 (by omega) (by rw [List.size_toArray, ← hl]; exact h4) (by rw [hk]; exact ⟨_, I', q⟩)
  · have hk : (k + (its.toArray.size : Int)).toNat = j := by
      rw [seqIndex_neg (by omega) h3] at h1
      rw [List.size_toArray, ← hl]
      exact Option.some.inj h1
    exact PySem.W.ki_setBack ho (by omega) (by rw [List.size_toArray, ← hl]; exact h3) (by omega) (by rw [hk]; exact ⟨_, I', q⟩)

/-! ### slices -/
theorem slice_bounds (lo hi : Option Int) (n : Nat) : (sliceBounds lo hi none n).1 = ((HT.sIx n 0 lo : Nat) : Int) ∧ (sliceBounds lo hi none n).2.1 = ((HT.sIx n n hi : Nat) : Int) ∧ (sliceBounds lo hi none n).2.2 = 1 := by
  refine ⟨?_, ?_, rfl⟩
  · cases lo with
    | none => simp [sliceBounds, HT.sIx]
    | some i =>
      simp only [sliceBounds, HT.sIx, Option.getD_none, show (1 : Int) > 0 by decide, if_true]
      by_cases h : i < 0
      · simp only [h, if_true] <;> omega
      · simp only [h, if_false] <;> omega
  · cases hi with
    | none => simp [sliceBounds, HT.sIx]
    | some i =>
      simp only [sliceBounds, HT.sIx, Option.getD_none, show (1 : Int) > 0 by decide, if_true]
      by_cases h : i < 0
      · simp only [h, if_true] <;> omega
      · simp only [h, if_false] <;> omega
theorem slicePick_cut (its : List Value) (lo hi : Option Int) : slicePick its.toArray lo hi none = ((its.drop (HT.sIx its.length 0 lo)).take (HT.sIx its.length its.length hi - HT.sIx its.length 0 lo)).toArray := by
  obtain ⟨h1, h2, h3⟩ := slice_bounds lo hi its.toArray.size
  unfold slicePick
  rw [h1, h2, h3]
  simp only [sliceRange_one, pick_run, List.size_toArray] <;> rfl
/-- xs[lo:hi] of a list: a new list -/
def rSlL (K : PySem.W.Frag) : V → Option Int → Option Int → Hp → VK → Prop := fun x lo hi H Q => ∃ a xs, x = .ref a ∧ SqL K H a xs ∧ ∀ p, H p = none → Q (.ref p) (upd H p (.lst (cutV xs lo hi)))
theorem sl_list : SlR X (rSlL X.K) := by
  intro pins s σ H x v vl vu lo hi sl Q I rx hs pl pu h
  obtain ⟨a, xs, rfl, hx, q⟩ := h
  cases rx
  obtain ⟨its, r, ht, hz⟩ := I.list hx
  have hlen := r.length
  refine ⟨"list", _, slot_list_getitem.lookup, ht.isList.typeIs, ?_⟩
  refine wpAny_getItem_list_slice ht.isList hs pl pu .none (by simp) ?_ (by rw [List.size_toArray] <;> omega)
  rw [slicePick_cut, ← hlen]
  refine ⟨.ref s.heap.objs.size, _, I.laid (t' := s.toks) (o := .lst (cutV xs lo hi)) (fun b ob q => Heap.get?_push_of_some _ q) (Nat.le_refl _) ?_, rfl, q _ (I.hok.fresh (Nat.le_refl _))⟩
  exact ⟨Nat.le_trans (cutV_length xs lo hi) hz, _, 0, (r.drop (HT.sIx xs.length 0 lo)).take (HT.sIx xs.length xs.length hi - HT.sIx xs.length 0 lo), Heap.get?_push_size _ rfl⟩

/-! ### in, not in: flat items -/
/-! ### len, list(x), tuple(x) of any list or tuple that is read -/
theorem call_len_seq : CallR X (.builtin "len") (fun xs H Q => ∃ p ys, xs = [.ref p] ∧ (SqL X.K H p ys ∨ SqT X.K H p ys) ∧ Q (.int ys.length) H) := by
  intro pins s σ H xs us Q I r h
  obtain ⟨p, ys, rfl, hq, q⟩ := h
  obtain ⟨u, rfl, rx⟩ := vals1 r
  cases rx
  have hn := line63
  rcases hq with hq | hq
  · obtain ⟨its, r', pl, hz⟩ := I.list hq
    have hlen := r'.length
    exact Calls.call_len_list pl.isList (by simp only [List.size_toArray] <;> omega) ⟨.int ys.length, H, I.tok _, ⟨s.toks + 1, by rw [List.size_toArray, hlen]⟩, q⟩
  · obtain ⟨its, r', pl, hz⟩ := I.tuple hq
    have hlen := r'.length
    exact len_tuple pl (by simp only [List.size_toArray] <;> omega) ⟨.int ys.length, H, I.tok _, ⟨s.toks + 1, by rw [List.size_toArray, hlen]⟩, q⟩
theorem call_len_str : CallR X (.builtin "len") (fun xs H Q => ∃ z, xs = [.str z] ∧ z.length ≤ sizeLine ∧ Q (.int z.length) H) := by
  intro pins s σ H xs us Q I r h
  obtain ⟨z, rfl, hz, q⟩ := h
  obtain ⟨u, rfl, t, rfl⟩ := vals1 r
  have hn := line63
  exact len_str (by omega) ⟨.int z.length, H, I.tok _, ⟨_, rfl⟩, q⟩
/-! ### the call of a builtin's method: o.m(..) -/
/-- the value is of that builtin type -/
def tyV (K : PySem.W.Frag) (T : String) (x : V) (H : Hp) : Prop := match x with
  | .str _ => T = "str"
  | .int _ => T = "int"
  | .ref p => (T = "list" ∧ ∃ xs, SqL K H p xs) ∨ (T = "tuple" ∧ ∃ o, K.lookup p = some o ∧ o.cls = .type "tuple" ∧ o.dict = none) ∨
      (T = "dict" ∧ ((∃ kvs, H p = some (.dK kvs)) ∨ ∃ kvs, H p = some (.dT kvs))) ∨ (T = "set" ∧ ∃ S n, H p = some (.set S n))
  | _ => False
theorem tyV_is {pins : List (Addr × Obj)} {σ : St} {H : Hp} {s : Shared} {T : String} {x : V} {v : Value} (I : Inv X pins σ H s) (r : RelV x v) (ty : tyV X.K T x H) :
    s.TypeIs v T ∧ ∀ a, v = .ref a → ∃ ob, s.heap.get? a = some ob ∧ ob.dict = none := by
  cases x with
  | str z =>
    obtain ⟨t, rfl⟩ := r
    cases (show T = "str" from ty)
    exact ⟨typeIs_str s z t, fun _ e => nomatch e⟩
  | int i =>
    obtain ⟨t, rfl⟩ := r
    cases (show T = "int" from ty)
    exact ⟨typeIs_int s i t, fun _ e => nomatch e⟩
  | ref p =>
    cases r
    rcases ty with ⟨rfl, xs, hq⟩ | ⟨rfl, o, hk, hc, hd⟩ | ⟨rfl, hk⟩ | ⟨rfl, S, n, hk⟩
    · obtain ⟨its, _, pl, _⟩ := I.list hq
      refine ⟨pl.isList.typeIs, fun a e => ?_⟩
      cases e
      obtain ⟨o, n, e, c, hd, _⟩ := pl
      exact ⟨o, e, hd⟩
    · refine ⟨⟨o, I.kIn p o hk, hc⟩, fun a e => ?_⟩
      cases e
      exact ⟨o, I.kIn _ o hk, hd⟩
    · have z : ∃ o, s.heap.get? p = some o ∧ o.ExactDict := by
        rcases hk with ⟨kvs, hk⟩ | ⟨kvs, hk⟩
        · obtain ⟨_, _, _, _, o, _, _, e, ex, _⟩ := I.hok p _ hk
          exact ⟨o, e, ex⟩
        · obtain ⟨_, _, _, _, o, _, _, e, ex, _⟩ := I.hok p _ hk
          exact ⟨o, e, ex⟩
      obtain ⟨o, e, ex⟩ := z
      refine ⟨⟨o, e, ex.1⟩, fun a e2 => ?_⟩
      cases e2
      exact ⟨o, e, ex.2.1⟩
    · obtain ⟨o, _, _, _, e, ex, _⟩ := I.hok p _ hk
      refine ⟨⟨o, e, ex.1⟩, fun a e2 => ?_⟩
      cases e2
      exact ⟨o, e, ex.2.1⟩
  | _ => exact False.elim ty
def tBM (K : PySem.W.Frag) (T : String) (r : V → List V → Hp → VK → Prop) (to : TE) (t : TA) : TE := fun σ H Q => to σ H fun x H1 => tyV K T x H1 ∧ t σ H1 fun xs H2 => r x xs H2 Q
variable {o e : Expr} {es : List Expr} {to : TE} {t : TA} {name : Str} {apos cpos : Pos} {T id : String} {r : V → List V → Hp → VK → Prop}
theorem pe_bm (pa : PlainAttrs T) (slot : Slot T name id) (hty : typeOf (.builtin id) = pure (.type "method_descriptor")) (hm : MtR X id r) (ho : PE X o to) (ha : PA X (e :: es) t)
    (hbase : attributeBase o name X.env (eval o X.env) = eval o X.env := by rfl)
    (hfew : ((backTo cpos (starEach (e :: es) X.env)).all (fun x => !x.1) && (backToKw cpos (keywordEach [] X.env)).all (fun x => x.1.isSome)
      && decide ((e :: es).length + ([] : List Keyword).length + (if ([] : List Keyword).isEmpty then 0 else 1) < 30)) = true := by rfl)
    (hline : (apos.endLine == cpos.line) = true := by rfl) (hs : starEach (e :: es) X.env = (false, eval e X.env) :: starEach es X.env := by rfl) (hplain : (backTo cpos (starEach es X.env)).any (·.1) = false := by rfl) :
    PE X (.Call (.Attribute o name apos) (e :: es) [] cpos) (tBM X.K T r to t) := by
  intro pins s σ H Q I h
  refine wpAny_Call_method_late hbase hfew hline rfl (thn (ho pins s σ H _ I h) fun v s1 ⟨x, H1, I1, r1, ty, q1⟩ => ?_)
  obtain ⟨h1, h2⟩ := tyV_is I1 r1 ty
  refine ⟨T, id, pa, slot, hty, h1, h2, ?_⟩
  have hA := ha cpos pins s1 σ H1 _ I1 q1
  rw [hs] at hA ⊢
  refine Calls.callWith_builtin (by show (false || (backTo cpos (starEach es X.env)).any (·.1)) = false; rw [hplain] <;> rfl) (Calls.evalArgs_plain ?_)
  exact thn hA fun us s2 ⟨vs, H2, I2, r2, q2⟩ => hm pins s2 σ H2 x vs v us Q I2 r1 r2 q2
/- xs.append(e), list.index on a module's tuple .. are MtR facts of 06m -/
end
end L2

namespace L2
open PySem PySem.Spec PyProof.Rows

def MtM (X : Cx) (id : String) (r : V → List V → Hp → VK → Prop) : Prop :=
  ∀ (pins : List (Addr × Obj)) (s : Shared) (σ : St) (H : Hp) (x : V) (xs : List V) (v : Value) (us : List Value) (Q : VK), Inv X pins σ H s → RelV x v → Vals xs us → r x xs H Q →
    wpAny (model X.prog X.w) X.A (call (.builtin id) (v :: us)) (EP X pins σ Q) X.xe s

/-! ### lists of values -/
theorem Vals.one : ∀ {x : V} {us : List Value}, Vals [x] us → ∃ u, us = [u] ∧ RelV x u
  | _, _, .cons r .nil => ⟨_, rfl, r⟩
theorem Vals.two : ∀ {x y : V} {us : List Value}, Vals [x, y] us → ∃ u v, us = [u, v] ∧ RelV x u ∧ RelV y v
  | _, _, _, .cons r (.cons q .nil) => ⟨_, _, rfl, r, q⟩
section
variable {X : Cx} {pins : List (Addr × Obj)} {σ : St} {H : Hp} {s : Shared} {l b : Addr} {xs ys zs : List V}

/-! ### the two steps: a tracked list is rewritten, a new list is laid -/
theorem Inv.lset {its its' : List Value} {n : Nat} {f : Array Value → Array Value} {t' : Nat} (I : Inv X pins σ H s) (hH : H l = some (.lst xs))
    (e : s.heap.get? l = some { cls := .type "list", data := .seq its.toArray n }) (hf : f its.toArray = its'.toArray) (hv : Vals ys its') (hz : ys.length ≤ sizeLine) :
    Inv X pins σ (upd H l (.lst ys)) { s with heap := s.heap.update l (Obj.mapSeq f), toks := t' } := by
  have q := PySem.IsL.update e f
  rw [hf] at q
  refine I.write (x := l) (e := l) (by rw [hH]; exact trivial) (.inl rfl) (fun b' u hb hu => (Heap.get?_update_other s.heap (Obj.mapSeq f) (Ne.symm hb)).trans hu) ⟨_, q⟩ ?_
  exact ⟨hz, its', _, hv, q⟩
theorem Inv.lnew {its : List Value} {t' : Nat} (I : Inv X pins σ H s) (hv : Vals ys its) (hz : ys.length ≤ sizeLine) :
    Inv X pins σ (upd H s.heap.objs.size (.lst ys)) { s with heap := s.heap.push { cls := .type "list", data := .seq its.toArray }, toks := t' } :=
  I.laid (fun _ _ q => Heap.get?_push_of_some _ q) (Nat.le_refl _) ⟨hz, its, 0, hv, Heap.get?_push_size _ rfl⟩
theorem Inv.fresh (I : Inv X pins σ H s) : H s.heap.objs.size = none := I.hok.fresh (Nat.le_refl _)
theorem Inv.lstM (I : Inv X pins σ H s) (hH : H l = some (.lst xs)) : xs.length ≤ sizeLine ∧ ∃ (its : List Value) (n : Nat), Vals xs its ∧ xs.length = its.length ∧ s.heap.get? l = some { cls := .type "list", data := .seq its.toArray n } := by
  obtain ⟨z, its, n, r, e⟩ := I.hok l _ hH
  exact ⟨z, its, n, r, r.length, e⟩

end

section
variable {X : Cx}

/-! ### methods -/
def rAppend : V → List V → Hp → VK → Prop := fun x vs H Q => ∃ l xs y, x = .ref l ∧ vs = [y] ∧ H l = some (.lst xs) ∧ xs.length < sizeLine ∧ Q .non (upd H l (.lst (xs ++ [y])))
theorem mt_append : MtM X "list.append" rAppend := by
  intro pins s σ H x vs v us Q I rx rv h
  obtain ⟨l, xs, y, rfl, rfl, hH, hz, q⟩ := h
  cases rx
  obtain ⟨u, rfl, ru⟩ := rv.one
  obtain ⟨z, its, n, r, hl, e⟩ := I.lstM hH
  refine call_meets F.slot_list_append ⟨_, e, rfl⟩ F.entry_list_append (F.args_list_append_2 _ _) (PySem.list_append l its.toArray n u (by rw [List.size_toArray]; omega)) ⟨e, ?_⟩
  refine ⟨.non, _, I.lset (its' := its ++ [u]) hH e (by simp) (r.append (.cons ru .nil)) ?_, rfl, q⟩
  rw [List.length_append, List.length_singleton]
  omega

/-! ### list + list, list += list, list * int -/
def rCat : R2 := fun x y H Q => ∃ l b xs zs, x = .ref l ∧ y = .ref b ∧ H l = some (.lst xs) ∧ H b = some (.lst zs) ∧ xs.length + zs.length ≤ sizeLine ∧ ∀ p, H p = none → Q (.ref p) (upd H p (.lst (xs ++ zs)))
theorem op_cat : OpR X (binaryOp .Add) rCat := by
  intro pins s σ H x y v u Q I rx ry h
  obtain ⟨l, b, xs, zs, rfl, rfl, hH, hB, hz, q⟩ := h
  cases rx
  cases ry
  obtain ⟨z, its, n, r, hl, e⟩ := I.lstM hH
  obtain ⟨z2, its2, n2, r2, hl2, e2⟩ := I.lstM hB
  refine PySem.P.add_list e e2 ?_ (by rw [List.size_toArray, List.size_toArray]; omega)
  have ea : its.toArray ++ its2.toArray = (its ++ its2).toArray := by simp
  rw [ea]
  exact ⟨.ref _, _, I.lnew (t' := s.toks) (r.append r2) (by rw [List.length_append]; omega), rfl, q _ I.fresh⟩
/-! ### del xs[i] -/
end

/-! ### xs[a:b] = ys -/
section
variable {prog : Program} {w : World} {A : Around} {E : Value → Shared → Prop} {s : Shared}
end

section
variable {X : Cx}
end
end L2

namespace Att
open PySem PySem.W PySem.Calls PyProof.Rows

/-! ### the script -/
theorem ints_of_wellAll {P : Params} {h : Heap} : ∀ (ns : List Int) (vs : List Value), WellAll P h vs (ns.map WData.int) → IntsAre vs ns := by
  intro ns
  induction ns with
  | nil =>
    intro vs w
    rw [List.map_nil] at w
    cases w
    exact .nil
  | cons n ns ih =>
    intro vs w
    rw [List.map_cons] at w
    cases w with
    | cons a b =>
      cases a
      exact .cons _ _ (ih _ b)

theorem script_of {l : OpenLaw} {n : Nat} (hn : l.most = some n) {P : Params} {h : Heap} {args : List WData} {vals : List Value}
    (hpre : l.row.toRowW.claim.pre args = true) (hwl : WellAll P h vals args) :
    ∃ a vs ns, vals = [Value.ref a] ∧ args = [WData.list (ns.map WData.int)] ∧ h.get? a = some { cls := .type "list", data := .seq vs.toArray } ∧ IntsAre vs ns ∧ ns.length ≤ n := by
  have hsh : WShape.hasAll [] args [.list .int] = true := (pre_splitW hpre).1
  have hc : l.pre.holds [] { args := args } = true := (pre_splitW hpre).2
  obtain ⟨d, r, rfl, h1, h2⟩ := hasAllW_cons hsh
  obtain rfl := hasAllW_nil h2
  obtain ⟨xs, rfl, h3⟩ := hasW_list h1
  obtain ⟨ns, rfl⟩ := items_int h3
  have hlen : ns.length ≤ n := by
    unfold OpenLaw.pre at hc
    have h4 : (WTm.not (.lt (.lit (.int (n : Int))) (.len (.arg 0)))).holds [] { args := [.list (ns.map .int)] } = true := by
      have h4 := (holds_andW hc).1
      rw [hn] at h4
      exact h4
    have h5 := condW_of h4 (w_not (w_lt w_lit (w_len_list (w_arg rfl))))
    rw [List.length_map] at h5
    refine Nat.le_of_not_lt fun q => ?_
    have q' : (n : Int) < ((ns.length : Nat) : Int) := by omega
    first
      | (rw [decide_eq_true q'] at h5; exact absurd h5 (by decide))
      | (simp at h5; omega)
  cases hwl with
  | cons w1 w2 =>
    cases w2
    cases w1 with
    | list ho hall => exact ⟨_, _, ns, rfl, rfl, ho, ints_of_wellAll ns _ hall, hlen⟩

theorem post_true (l : OpenLaw) (args : List WData) : l.row.toRowW.claim.post args (.bool true) args = true :=
  postW_of (r := l.row.toRowW) (X := (true == true))
    (show WShape.has [] (.bool true) .bool = true by first | rfl | decide | simp [WShape.has, WShape.arms, WShape.armsAll])
    (show (WTm.eq .res (.lit (.bool true))).value [] { args := args, res := some (.bool true), after := args } = some (.bool (true == true)) from w_eq_bool (w_res rfl) w_lit) rfl

/-! ### the attachment: holds_open's last premise (the goal 'hc' behind k_head) from a wpAny of the law's body -/
/-- the same from a codeAny of the CALL (for a layer whose function contracts speak of calls) -/
theorem attach_call {l : OpenLaw} {n : Nat} {q : Program} {loose : List Str} {XP : (Str → Option Value) → Heap → Prop} {YP : World → Heap → Prop} {d : DefRec}
    (hn : l.most = some n) (hdf : d.params.defaults = [])
    (call : ∀ (w : World) (s₀ s₁ : Shared) (mg mb : Str → Option Value) (fa : Addr) (o : Obj) (pm cd doc : Value) (a : Addr) (vs : List Value) (ns : List Int),
      Ground q loose [] XP w s₀ mg mb s₁.heap → YP w s₁.heap →
      s₁.heap.get? fa = some o → o.data = .func (docDef d.name d.params d.body d.scope pm cd doc) → s₁.heap.CodeRec cd d.name → mg d.name = some (.ref fa) →
      s₁.heap.get? a = some { cls := .type "list", data := .seq vs.toArray } → IntsAre vs ns → ns.length ≤ n → s₁.gens = #[] →
      codeAny (model l.prog w) callerA (.call (.ref fa) ⟨[.ref a], []⟩) (fun r s' => r = .ok (.ret (.bool true)) ∧ OldK s₁.heap s'.heap ∧ s'.os = s₁.os ∧ AllBare s'.gens) s₁) :
    WalkO q loose XP YP l.row.toRowW d [] (fun f vs => PySem.call f vs) := by
  intro w s₀ s₁ mg mb G Y fa o pm cd doc dV kV ho hd hcd hD hmg hg args vals as hpre hlay hrd hwl hlo
  obtain rfl : dV = .none := Dflts.none hD hdf
  obtain rfl : kV = .none := Dflts.noKw hD
  obtain ⟨a, vs, ns, rfl, rfl, hobj, hints, hlen⟩ := script_of hn hpre hwl
  refine enter_call (codeAny_mono (call w s₀ s₁ mg mb fa o pm cd doc a vs ns G Y ho (fd_plain hd) hcd hmg hobj hints hlen hg) fun r s' hq => ?_)
  obtain ⟨rfl, h2, h3, h4⟩ := hq
  exact ⟨.inl ⟨.bool true, .bool true, [], rfl, fun _ => rfl, .bool true, post_true l _, fun _ => ⟨List.Pairwise.nil, fun _ hm => (nomatch hm)⟩⟩, h2, h3, h4⟩

/-! ### rules over ANY heap (no ledger) from facts about the written part K: the library's own take a ledger (News) for what they write -/
section
variable {prog : Program} {w : World} {A : Around} {E : Value → Shared → Prop} {s : Shared} {K : Frag}

/-! the whole heap as the ledger: makes every rule that writes through a ledger a rule over any heap -/
def ledger (h : Heap) (L d : Addr) : List (Addr × Obj) := (List.range h.objs.size).filterMap fun a => if a = L ∨ a = d then none else (h.get? a).map fun o => (a, o)
end
end Att

namespace L2
open PySem PySem.Spec PyProof.Rows

theorem vals_ints : ∀ {vs : List Value} {ns : List Int}, IntsAre vs ns → Vals (ns.map V.int) vs
  | _, _, .nil => .nil
  | _, _, .cons n t h => .cons ⟨t, rfl⟩ (vals_ints h)

/-- nothing is tracked but the script, known to the object (or it is an object of the module) -/
def Only (H : Hp) : Prop := ∀ b, H b = none ∨ ∃ o xs, H b = some (.frz o (.lst xs))

/-- THE HEAD: the law's promise, at the heap behind the top. F, the promise of the law's def, may use that base is part of the heap (so K.In base, base.Ns mainGlobals mg stand in Mod) -/
theorem law_call {cm : Bool} {P : Program} {w : World} {K : PySem.W.Frag} {mg mb : Str → Option Value} {CX : CXT} {k : Nat} {fa a : Addr} {fd : FuncData} {x : Str} {sp : Sp} {s₁ : Shared} {vs : List Value} {ns : List Int}
    (KX : K.In s₁.heap) (hns : s₁.heap.Ns mainGlobals mg) (hb : s₁.heap.Ns builtinsNs mb) (hbb : ∀ x : Str, x ≠ "__name__" → mb x = bootBuiltins x) (hlim : s₁.heap.NoLimit) (hg : s₁.gens = #[])
    (ha : s₁.heap.get? a = some { cls := .type "list", data := .seq vs.toArray }) (hi : IntsAre vs ns) (hl : ns.length ≤ sizeLine) (hr : Room cm k callerA)
    (F : ∀ base : Heap, K.In base → base.Ns mainGlobals mg → FnOk P w K mg base CX cm k fa fd [x] sp) (hbind : ∀ (s : Shared) (u : Value), BindsTo s fd ⟨[u], []⟩ [(x, u)])
    (hsp : ∀ H : Hp, Only H → SqL K H a (ns.map V.int) → sp [.ref a] H (fun v _ => v = .bl true) fun _ _ _ => False)
    (hCX : ∀ H e s', CX [] H s₁ (fun _ _ _ => False) e s' → False) :
    codeAny (model P w) callerA (.call (.ref fa) ⟨[.ref a], []⟩) (fun r s' => r = .ok (.ret (.bool true)) ∧ OldK s₁.heap s'.heap ∧ s'.os = s₁.os ∧ AllBare s'.gens) s₁ := by
  have rv := vals_ints hi
  have lenV := hi.length
  -- from an abstract heap in which nothing but the script may be tracked
  have core : ∀ H : Hp, Only H → SqL K H a (ns.map V.int) → HOk P w H s₁.heap → (∀ b, H b ≠ none → b = a) → (H a ≠ none → K.lookup a = none) →
      codeAny (model P w) callerA (.call (.ref fa) ⟨[.ref a], []⟩) (fun r s' => r = .ok (.ret (.bool true)) ∧ OldK s₁.heap s'.heap ∧ s'.os = s₁.os ∧ AllBare s'.gens) s₁ := by
    intro H hO hS hok hA hK
    have base_of : ∀ {b : Addr} {o : Obj}, s₁.heap.get? b = some o → H b = none → (hidT s₁.heap H).get? b = some o := fun e n => hidT_get e n
    have noA : ∀ {b : Addr} {o : Obj} {es : Array DictEntry} {ep : Nat}, s₁.heap.get? b = some o → o.data = .dict es ep → H b = none := fun {b o es ep} e d => by
      cases q : H b with
      | none => rfl
      | some u =>
        have e' : b = a := hA b (by rw [q]; simp)
        subst e'
        rw [ha] at e; cases e
        have d' : Data.seq vs.toArray _ = Data.dict es ep := d
        cases d'
    have nsK : ∀ {b : Addr} {m : Str → Option Value}, s₁.heap.Ns b m → (hidT s₁.heap H).Ns b m := fun {b m} ⟨o, es, ep, e, d, r⟩ => ⟨o, es, ep, base_of e (noA e d), d, r⟩
    have hKb : K.In (hidT s₁.heap H) := fun b o e => base_of (KX b o e) (by
      cases q : H b with
      | none => rfl
      | some u =>
        have e' : b = a := hA b (by rw [q]; simp)
        subst e'
        rw [hK (by rw [q]; simp)] at e; cases e)
    have hM : Mod K mg (hidT s₁.heap H) := ⟨hKb, nsK hns, ⟨mb, nsK hb, hbb⟩, let ⟨mc, h1, h2⟩ := hlim; ⟨mc, nsK h1, h2⟩⟩
    have e0 : Env0 P w K mg (hidT s₁.heap H) callerA [] s₁ H := ⟨rfl, hM, fun b o e => of_hidT e, Nat.le_of_eq (hidT_size _ _), trivial, fun b hb => absurd (show b ∈ ([] : List Addr) from hb) (by simp), hok, .of_eq hg⟩
    refine codeAny_mono ((F _ hKb (nsK hns)).run callerA [] s₁ H ⟨[.ref a], []⟩ [.ref a] [.ref a] _ _ hr e0 (hbind s₁ (.ref a)) (.cons rfl .nil) (hsp H hO hS)) fun r s' h => ?_
    cases r with
    | error e => exact (hCX H e s' h).elim
    | ok fl =>
      cases fl with
      | next => exact False.elim h
      | brk => exact False.elim h
      | cont => exact False.elim h
      | ret u =>
        obtain ⟨v, H', os, bare, un, hok', r', q⟩ := h
        have q' : v = .bl true := q
        subst q'
        obtain rfl : u = Value.bool true := r'
        refine ⟨rfl, OldK.of_keep fun b o e => ?_, os, bare⟩
        cases q : H b with
        | none => exact un.keep b o e q (by intro z; exact absurd (show b ∈ ([] : List Addr) from z) (by simp)) (by simp)
        | some u =>
          rcases hO b with z | ⟨ob, xs, z⟩
          · rw [q] at z; cases z
          · have z2 := un.frzs b ob _ z
            obtain ⟨e1, _⟩ := hok b _ z
            obtain ⟨e2, _⟩ := hok' b _ z2
            rw [e] at e1; cases e1
            exact e2
  cases hk : K.lookup a with
  | some o =>
    -- the script is one of the module's own objects
    have e := KX a o hk
    rw [ha] at e
    cases e
    refine core (fun _ => none) (fun _ => .inl rfl) (.inr ⟨_, vs.toArray, _, hk, rfl, rfl, rfl, by rw [List.size_toArray, lenV]; exact hl, by simpa using rv⟩) (fun b u z => by have z' : (none : Option HO) = some u := z; cases z') (fun b z => absurd rfl z) fun z => absurd rfl z
  | none =>
    refine core (fun b => if b = a then some (.frz { cls := .type "list", data := .seq vs.toArray } (.lst (ns.map V.int))) else none) (fun b => ?_) (.inl (.inr ⟨{ cls := .type "list", data := .seq vs.toArray }, if_pos rfl⟩)) (fun b u z => ?_) (fun b z => ?_) fun _ => hk
    · by_cases hb : b = a
      · exact .inr ⟨_, _, if_pos hb⟩
      · exact .inl (if_neg hb)
    · by_cases hb : b = a
      · have z' := (if_pos hb).symm.trans z
        cases z'
        subst hb
        exact ⟨ha, by rw [List.length_map]; exact hl, vs, _, rv, ha⟩
      · have z' := (if_neg hb).symm.trans z
        cases z'
    · by_cases hb : b = a
      · exact hb
      · exact absurd (if_neg hb) z
end L2

namespace L2
open PySem PySem.Spec PyProof.Rows

abbrev KOf {K : PySem.W.Frag} {h : Heap} (_ : K.In h) : PySem.W.Frag := K

/-- the goal that k_head leaves (case hc), from the law's promise. F gives the function object fd (K's own) once, then the promise over every base -/
theorem walk_of {cm : Bool} {l : PySem.W.OpenLaw} {n k : Nat} {q : Program} {loose : List Str} {XP : (Str → Option Value) → Heap → Prop} {YP : World → Heap → Prop} {d : DefRec} {K : Params → PySem.W.Frag} {CX : World → CXT} {sp : World → Sp} {x : Str}
    (hn : l.most = some n) (hn2 : n ≤ sizeLine) (hdf : d.params.defaults = []) (hr : Room cm k callerA)
    (hY : ∀ (w : World) (h : Heap), YP w h → (K w.params).In h)
    (F : ∀ (w : World) (mg : Str → Option Value) (fa : Addr) (h : Heap), (K w.params).In h → h.Ns mainGlobals mg → mg d.name = some (.ref fa) →
      ∃ fd : FuncData, (∀ (s : Shared) (u : Value), BindsTo s fd ⟨[u], []⟩ [(x, u)]) ∧
        ∀ base : Heap, (K w.params).In base → base.Ns mainGlobals mg → FnOk l.prog w (K w.params) mg base (CX w) cm k fa fd [x] (sp w))
    (hsp : ∀ (w : World) (H : Hp) (a : Addr) (ns : List Int), ns.length ≤ n → Only H → SqL (K w.params) H a (ns.map V.int) → sp w [.ref a] H (fun v _ => v = .bl true) fun _ _ _ => False)
    (hCX : ∀ (w : World) (H : Hp) (s : Shared) (e : Value) (s' : Shared), CX w [] H s (fun _ _ _ => False) e s' → False) :
    PySem.W.WalkO q loose XP YP l.row.toRowW d [] (fun f vs => PySem.call f vs) := by
  refine Att.attach_call hn hdf fun w s₀ s₁ mg mb fa o pm cd doc a vs ns G Y ho hd hcd hmg hobj hints hlen hg => ?_
  have KX := hY w _ Y
  obtain ⟨fd, hb, hF⟩ := F w mg fa _ KX G.T.g hmg
  exact law_call KX G.T.g G.T.b G.T.builtins G.T.nolimit hg hobj hints (Nat.le_trans hlen hn2) hr hF hb (fun H hO hS => hsp w H a ns hlen hO hS) fun H e s' => hCX w H s₁ e s'
end L2

/- THE LAST THEOREM (shape; LID, My.* are yours):
   My.Adr: a structure of the addresses that your layer names (classes, functions); My.Txt K t: a structure (Prop) of the equations over K;
   My.txt_mk : {K} {implicit addresses ..} (e1 : nsIn K mainGlobals "law" = some (some (.ref f))) (e2 : K.lookup f = some ⟨oc, od, .func (fnOf "law" "law" params body scope dV kV doc pm an cdv ct), sl⟩) (e3 : codeIn K cdv "law" = true) .. : ∃ t, My.Txt K t

set_option maxRecDepth 100000 in
set_option maxHeartbeats 0 in
theorem PySem.Challenge.cw_LID_holds : PySem.Challenge.rw_LID.Holds := by
  w_on; o_law; k_head; (case hw => w_witness2)
  k_fill
  refine L2.walk_of (l := PySem.Challenge.rw_LID) (n := 63) (k := 40) (x := "script") (CX := fun w => ..) (sp := fun _ => My.sp_law) rfl (by decide) rfl ⟨rfl, by decide, by decide⟩ (fun w h Y => PySem.W.kIn_of Y) ?F ?S ?C
  case F =>
    intro w mg fa h KX G hmg
    have T : ∃ t, My.Txt (L2.KOf KX) t := by
      dsimp only [L2.KOf]                          -- K must stand as «<heap const> w.params» for k_is
      refine' My.txt_mk ?e1 ?e2 ?e3 ..
      (case e1 => PySem.W.k_is)                    -- in the order: a name -> its address -> its object -> its parts
      (case e2 => PySem.W.k_is)
      ..
    obtain ⟨t, T⟩ := T
    have e0 := hmg.symm.trans (PySem.W.mg_of KX G T.law)
    cases e0                                       -- fa is the law's own address
    exact ⟨_, fun s u => .of_eq rfl, fun base kb nb => My.law_fn T kb nb⟩     -- if «.of_eq rfl» comes too early: refine' ⟨_, ?b, fun base kb nb => My.law_fn T kb nb⟩; exact fun s u => .of_eq rfl
  case S => exact fun w H a ns hl hO hS => ..
  case C => exact ..
(the tactic k_is has no namespace: write k_is) -/

/-! SHORT WORDS over the layer: a def of the text, its body, what a loop and a test want. -/
namespace L2
open PySem PySem.Spec PyProof.Rows

/-! ### the text by places -/
def defArgs (s : Stmt) : Arguments := match s with
  | .FunctionDef _ a _ _ _ _ _ _ _ _ => a
  | _ => { posonlyargs := [], args := [], vararg := none, kwonlyargs := [], kw_defaults := [], kwarg := none, defaults := [] }
def defBody (s : Stmt) : List Stmt := match s with
  | .FunctionDef _ _ b _ _ _ _ _ _ _ => b
  | _ => []
def defScope (s : Stmt) : Scope := match s with
  | .FunctionDef _ _ _ _ _ _ sc _ _ _ => sc
  | _ => { kind := .function, names := [], isGenerator := false, isCoroutine := false }

/-! ### no exception leaves a def -/
abbrev CX0 : CXT := fun _ _ _ _ _ _ => False
abbrev E0 : XK := fun _ _ _ => False
theorem pass0 {X : Cx} : Passes CX0 X E0 := fun _ _ _ _ _ _ _ h => h.elim

/-! ### a def (or method) of the text as it stands behind the top -/
structure Fun (K : PySem.W.Frag) (x qual : Str) (st : Stmt) (f : Addr) (fd : FuncData) : Prop where
  ex : ∃ (oc : Value) (od : Option Addr) (kV doc pm : Value) (an : Option Addr) (cdv ct : Value) (osl : Array (Option Value)),
    fd = PySem.W.fnOf x qual (defArgs st) (defBody st) (defScope st) .none kV doc pm an cdv ct ∧ K.lookup f = some ⟨oc, od, .func fd, osl⟩ ∧ PySem.W.codeIn K cdv qual = true
  kp : PySem.W.keepIn K (.ref f) = true
section
variable {P : Program} {w : World} {K : PySem.W.Frag} {mg : Str → Option Value} {base : Heap}
/-- THE RULE for a def: its body as a term of rules, and the reading of that term -/
theorem Fun.ok {cm : Bool} {x qual : Str} {st : Stmt} {f : Addr} {fd : FuncData} {N ps : List Str} {k : Nat} {sp : Sp} (F : Fun K x qual st f fd) (S : FnScope N ps (defScope st)) (len : ∀ vs H Q E, sp vs H Q E → vs.length = ps.length)
    (hbody : ∀ (cdv : Value) (A : Around) (outer : List Env) (s : Shared) (H : Hp) (vs : List V) (Q : VK) (E : XK), Room cm k (A.deeper (envOfC qual (defScope st) s.heap.objs.size f cdv)) → sp vs H Q E →
      ∃ t, PSs (cxOf CX0 cm P w K mg base N qual (defScope st) f cdv A outer s H E).nox (defBody st) t ∧ t { nx := fun _ H' => Q .non H', rt := Q } (start N vs) H) : FnOk P w K mg base CX0 cm (k + 1) f fd ps sp := by
  obtain ⟨oc, od, kV, doc, pm, an, cdv, ct, osl, rfl, lk, hcd⟩ := F.ex
  refine fn_of lk hcd S len fun A outer s H vs Q E hr hsp => ?_
  obtain ⟨t, h, q⟩ := hbody cdv A outer s H vs Q E hr hsp
  exact ⟨t, h.nox, q⟩
/-- how its arguments bind (no defaults): h is «fun _ _ _ _ _ _ us hl => match us, hl with | [_, _], _ => rfl», one _ a parameter -/
theorem Fun.binds {x qual : Str} {st : Stmt} {f : Addr} {fd : FuncData} {ps : List Str} (F : Fun K x qual st f fd)
    (h : ∀ (kV doc pm : Value) (an : Option Addr) (cdv ct : Value) (us : List Value), us.length = ps.length → bindArgs (PySem.W.fnOf x qual (defArgs st) (defBody st) (defScope st) .none kV doc pm an cdv ct) ⟨us, []⟩ = pure (ps.zip us)) : Binds K fd ps [] := by
  obtain ⟨oc, od, kV, doc, pm, an, cdv, ct, osl, rfl, lk, hcd⟩ := F.ex
  exact .all (h kV doc pm an cdv ct)
theorem fun_mk {x qual : Str} {st : Stmt} {f : Addr} {oc : Value} {od an : Option Addr} {osl : Array (Option Value)} {kV doc pm cdv ct : Value} (l : K.lookup f = some ⟨oc, od, .func (PySem.W.fnOf x qual (defArgs st) (defBody st) (defScope st) .none kV doc pm an cdv ct), osl⟩)
    (c : PySem.W.codeIn K cdv qual = true) (k : PySem.W.keepIn K (.ref f) = true) : Fun K x qual st f (PySem.W.fnOf x qual (defArgs st) (defBody st) (defScope st) .none kV doc pm an cdv ct) := ⟨⟨oc, od, kV, doc, pm, an, cdv, ct, osl, rfl, l, c⟩, k⟩
end
/-! ### expressions in short: the name that stands in the i-th slot -/
section
variable {X : Cx}
theorem pv (i : Nat) {x : Str} {pos : Pos} (hN : X.N[i]? = some x := by rfl) (hv : Vis X.env.scope x := by first | exact Or.inl rfl | exact Or.inr (Or.inl rfl) | exact Or.inr (Or.inr rfl)) (hd : (x == ("__debug__" : Str)) = false := by decide)
    (hcd : (x == ("__classdict__" : Str)) = false := by decide) : PE X (.Name x pos) (tVar i) := pe_var hN hv hd hcd
end

/-! ### tests -/
theorem iteF {A B : Prop} (h : B) : if false = true then A else B := by
  rw [if_neg Bool.false_ne_true]
  exact h
theorem iteT {A B : Prop} (h : A) : if true = true then A else B := by
  rw [if_pos rfl]
  exact h
theorem ite2 {c A B : Prop} [Decidable c] (h1 : c → A) (h2 : ¬ c → B) : if c then A else B := by
  by_cases h : c
  · rw [if_pos h]
    exact h1 h
  · rw [if_neg h]
    exact h2 h
theorem iteNS {c A B : Prop} [Decidable c] (hc : c) (h : B) : if (!decide c) = true then A else B := by
  rw [decide_eq_true hc]
  exact iteF h

/-! ### heaps -/
/-- all that was tracked is as it was -/
def Same (H H' : Hp) : Prop := ∀ b o, H b = some o → H' b = some o
theorem Same.refl (H : Hp) : Same H H := fun _ _ h => h
theorem Same.trans {H H1 H2 : Hp} (a : Same H H1) (b : Same H1 H2) : Same H H2 := fun c o h => b c o (a c o h)
theorem Same.seq {K : PySem.W.Frag} {H H' : Hp} {a : Addr} {xs : List V} (e : Same H H') (h : SqL K H a xs) : SqL K H' a xs := by
  rcases h with (h | ⟨o, h⟩) | h
  · exact .inl (.inl (e _ _ h))
  · exact .inl (.inr ⟨o, e _ _ h⟩)
  · exact .inr h

end L2

namespace L2
open PySem PySem.Spec PyProof.Rows

/-- what a comprehension's scope draws from around: the free names' cells -/
def clOf (env : Env) : List (Str × NameKind) → List (Str × Addr) → List (Str × Addr)
  | [], acc => acc
  | (n, k) :: r, acc => if k == .free then clOf env r ((n, (env.cells.lookup n).getD 0) :: acc) else clOf env r acc
theorem clOf_old {env : Env} {x : Str} {c : Addr} : ∀ {ns : List (Str × NameKind)} {acc : List (Str × Addr)}, (∃ c, acc.lookup x = some c) → ∃ c, (clOf env ns acc).lookup x = some c
  | [], _, h => h
  | (n, k) :: r, acc, h => by
    unfold clOf
    split
    · refine clOf_old (c := c) ?_
      obtain ⟨c', e⟩ := h
      rw [List.lookup_cons]
      cases q : x == n
      · exact ⟨c', e⟩
      · exact ⟨_, rfl⟩
    · exact clOf_old (c := c) h
theorem clOf_has {env : Env} {x : Str} : ∀ {ns : List (Str × NameKind)} {acc : List (Str × Addr)}, (x, NameKind.free) ∈ ns → ∃ c, (clOf env ns acc).lookup x = some c
  | (n, k) :: r, acc, h => by
    unfold clOf
    rcases List.mem_cons.mp h with e | h
    · cases e
      rw [if_pos (by rfl)]
      exact clOf_old (c := 0) ⟨_, by rw [List.lookup_cons, beq_self_eq_true]⟩
    · split
      · exact clOf_has h
      · exact clOf_has h
theorem clOf_of {env : Env} {x : Str} {c : Addr} : ∀ {ns : List (Str × NameKind)} {acc : List (Str × Addr)}, (∀ y ∈ ns, y.2 = .free → ∃ d, env.cells.lookup y.1 = some d) → (∀ y d, acc.lookup y = some d → env.cells.lookup y = some d) →
    (clOf env ns acc).lookup x = some c → env.cells.lookup x = some c
  | [], _, _, ha, h => ha _ _ h
  | (n, k) :: r, acc, hn, ha, h => by
    unfold clOf at h
    have hr : ∀ y ∈ r, y.2 = .free → ∃ d, env.cells.lookup y.1 = some d := fun y hy => hn y (List.mem_cons_of_mem _ hy)
    split at h
    · rename_i hk
      have hk' : k = .free := by simpa using hk
      obtain ⟨d, hd⟩ := hn (n, k) List.mem_cons_self hk'
      refine clOf_of hr (fun y d' hy => ?_) h
      rw [List.lookup_cons] at hy
      cases q : y == n
      · rw [q] at hy
        exact ha y d' hy
      · rw [q] at hy
        have e : y = n := by simpa using q
        subst e
        have hd' : env.cells.lookup y = some d := hd
        rw [hd'] at hy
        rw [hd']
        exact hy
    · exact clOf_of hr ha h
theorem mem_of_lookup_str {x : Str} {k : NameKind} : ∀ {ns : List (Str × NameKind)}, ns.lookup x = some k → (x, k) ∈ ns
  | (n, j) :: r, h => by
    rw [List.lookup_cons] at h
    cases q : x == n
    · rw [q] at h
      exact List.mem_cons_of_mem _ (mem_of_lookup_str h)
    · rw [q] at h
      have e : x = n := by simpa using q
      subst e
      cases h
      exact List.mem_cons_self

/-- the context of a comprehension's block; no exception leaves it -/
def cxComp (X : Cx) (N : List Str) (scope : Scope) (C : Addr) (s : Shared) (H : Hp) (fp : List Addr) : Cx where
  prog := X.prog
  w := X.w
  K := X.K
  mg := X.mg
  base := X.base
  A := X.A
  N := N
  s₀ := s
  H₀ := H
  env := compEnvC scope (clOf X.env scope.names []) C X.env
  outer := X.stack
  stack := X.stack
  ex := fp
  fn := fun _ => false
  calm := X.calm
  pn := []
  xe := fun _ _ => False

/-- the names that are drawn from around, by their places -/
def capOk (sc scope : Scope) (N0 : List Str) : List (Option Nat) → List Str → Bool
  | [], _ => true
  | none :: r, _ :: n => capOk sc scope N0 r n
  | some j :: r, x :: n => decide (N0[j]? = some x) && decide (scope.names.lookup x = some .free) && decide (sc.names.lookup x = some .cell) && capOk sc scope N0 r n
  | _ :: _, [] => false
theorem capOk_get {sc scope : Scope} {N0 : List Str} : ∀ {cap : List (Option Nat)} {N : List Str} {i j : Nat}, capOk sc scope N0 cap N = true → cap[i]? = some (some j) →
    ∃ x, N[i]? = some x ∧ N0[j]? = some x ∧ scope.names.lookup x = some .free ∧ sc.names.lookup x = some .cell
  | [], _, _, _, _, e => by simp at e
  | o :: _, [], _, _, h, _ => by cases o <;> simp [capOk] at h
  | o :: r, y :: n, 0, j, h, e => by
    simp at e
    subst e
    unfold capOk at h
    simp only [Bool.and_eq_true, decide_eq_true_eq] at h
    exact ⟨y, rfl, h.1.1.1, h.1.1.2, h.1.2⟩
  | o :: r, y :: n, i + 1, j, h, e => by
    have h' : capOk sc scope N0 r n = true := by
      cases o with
      | none => exact h
      | some k =>
        unfold capOk at h
        simp only [Bool.and_eq_true] at h
        exact h.2
    obtain ⟨x, a, b⟩ := capOk_get (i := i) (j := j) h' (by simpa using e)
    exact ⟨x, by simpa using a, b⟩
/-- what must be true of the written scope; sc: the scope around -/
structure CompScope (sc scope : Scope) (N0 N : List Str) (cap : List (Option Nat)) : Prop where
  kind : scope.kind = .function
  cell : ∀ y ∈ scope.names, y.2 ≠ .cell
  names : ∀ y ∈ scope.names, y.2 = .local → scope.names.lookup y.1 = some .local
  free : ∀ y ∈ scope.names, y.2 = .free → sc.names.lookup y.1 = some .cell
  nd : N.Nodup
  len : cap.length = N.length
  cap : capOk sc scope N0 cap N = true

/-- the block's names ahead of the first turn -/
def capt (cap : List (Option Nat)) (σ : St) : St := cap.map fun o => match o with
  | none => none
  | some j => (σ[j]?).join

theorem relabel_free {scope : Scope} {env : Env} (hk : env.scope.kind = .function) (hf : ∀ y ∈ scope.names, y.2 = .free → env.kindOf y.1 = some .cell) {x : Str} (h : scope.names.lookup x = some .free) :
    (relabel scope env).names.lookup x = some .cell := by
  have all : ∀ (ns : List (Str × NameKind)), (∀ y ∈ ns, y.2 = .free → env.kindOf y.1 = some .cell) → ns.lookup x = some .free →
      (ns.map fun (n, k) => if (k == .free && env.scope.kind == .function && env.kindOf n == some .cell) then (n, NameKind.cell) else (n, k)).lookup x = some .cell := by
    intro ns
    induction ns with
    | nil => intro _ h; simp at h
    | cons y r ih =>
      obtain ⟨n, k⟩ := y
      intro hf h
      rw [List.map_cons]
      rw [List.lookup_cons] at h
      cases q : x == n
      · rw [q] at h
        have := ih (fun y hy => hf y (List.mem_cons_of_mem _ hy)) h
        show List.lookup x ((if (k == .free && env.scope.kind == .function && env.kindOf n == some .cell) = true then (n, NameKind.cell) else (n, k)) :: _) = _
        split <;> (rw [List.lookup_cons, q]; exact this)
      · rw [q] at h
        cases h
        have e := hf (n, .free) List.mem_cons_self rfl
        show List.lookup x ((if (NameKind.free == .free && env.scope.kind == .function && env.kindOf n == some .cell) = true then (n, NameKind.cell) else (n, NameKind.free)) :: _) = _
        rw [if_pos (by rw [hk, e]; rfl), List.lookup_cons, q]
  exact all scope.names hf h
theorem relabel_back {scope : Scope} {env : Env} {x : Str} (hc : ∀ y ∈ scope.names, y.2 ≠ .cell) (h : (relabel scope env).names.lookup x = some .cell ∨ (relabel scope env).names.lookup x = some .free) : (x, NameKind.free) ∈ scope.names := by
  have all : ∀ (ns : List (Str × NameKind)), (∀ y ∈ ns, y.2 ≠ .cell) →
      (∀ k, (k = NameKind.cell ∨ k = NameKind.free) → (ns.map fun (n, k) => if (k == .free && env.scope.kind == .function && env.kindOf n == some .cell) then (n, NameKind.cell) else (n, k)).lookup x = some k → (x, NameKind.free) ∈ ns) := by
    intro ns
    induction ns with
    | nil => intro _ k _ h; simp at h
    | cons y r ih =>
      obtain ⟨n, j⟩ := y
      intro hc k hk h
      rw [List.map_cons] at h
      have hr : ∀ y ∈ r, y.2 ≠ NameKind.cell := fun y hy => hc y (List.mem_cons_of_mem _ hy)
      change List.lookup x ((if (j == .free && env.scope.kind == .function && env.kindOf n == some .cell) = true then (n, NameKind.cell) else (n, j)) :: _) = some k at h
      split at h
      · rename_i hj
        rw [Bool.and_eq_true, Bool.and_eq_true] at hj
        have hj' : j = .free := by simpa using hj.1.1
        subst hj'
        rw [List.lookup_cons] at h
        cases q : x == n
        · rw [q] at h
          exact List.mem_cons_of_mem _ (ih hr k hk h)
        · have e : x = n := by simpa using q
          subst e
          exact List.mem_cons_self
      · rw [List.lookup_cons] at h
        cases q : x == n
        · rw [q] at h
          exact List.mem_cons_of_mem _ (ih hr k hk h)
        · rw [q] at h
          cases h
          have e : x = n := by simpa using q
          subst e
          rcases hk with z | z
          · exact absurd z (hc (x, j) List.mem_cons_self)
          · rw [z]; exact List.mem_cons_self
  rcases h with h | h
  · exact all scope.names hc _ (.inl rfl) h
  · exact all scope.names hc _ (.inr rfl) h

section
variable {X : Cx} {pins : List (Addr × Obj)} {σ : St} {H : Hp} {s : Shared} {h₁ : Heap} {scope : Scope} {N : List Str} {cap : List (Option Nat)} {fp : List Addr} {t' : Nat}

theorem comp_start (S : CompScope X.env.scope scope X.N N cap) (I : Inv X pins σ H s) (hf : ∀ b ∈ fp, FpOk X pins H b) (hlt : ∀ b ∈ fp, b < s.heap.objs.size)
    (hns : h₁.Ns s.heap.objs.size (fun x => ([] : List (Str × Value)).reverse.lookup x)) (keep : ∀ b o, s.heap.get? b = some o → h₁.get? b = some o) :
    Inv (cxComp X N scope s.heap.objs.size s H fp) [] (capt cap σ) H { s with heap := h₁, toks := t' } := by
  have hkf : ∀ y ∈ scope.names, y.2 = .free → X.env.kindOf y.1 = some .cell := S.free
  have hcell : ∀ y ∈ scope.names, y.2 = .free → ∃ d, X.env.cells.lookup y.1 = some d := fun y hy e => I.ok.has _ (.inl (hkf y hy e))
  have hcl : ∀ x c, (clOf X.env scope.names []).lookup x = some c → X.env.cells.lookup x = some c := fun x c h => clOf_of hcell (fun y d h => by simp at h) h
  refine ⟨⟨I.ok.mod, S.kind, I.ok.glob, I.ok.blt, Nat.le_refl _, fun x y c h1 h2 => I.ok.inj x y c (hcl x c h1) (hcl y c h2), fun x h => clOf_has (relabel_back S.cell h), (fun x c h => nomatch h), I.ok.hd, I.ok.frames, .inl rfl,
    fun b hb => ⟨Nat.ne_of_lt (hlt b hb), fun x c h => (hf b hb).2.2.2.2.1 x c (hcl x c h)⟩, I.bs, Nat.le_trans I.ok.bsz I.sz, fun b o e hb => ?_, fun b hb h => ?_, I.stack, I.stkFree⟩,
    rfl, I.bare, Un.kept keep, ⟨_, hns, fun i x v e1 e2 e3 => ?_⟩, fun x c h => ?_, I.hok.fresh (Nat.le_refl _), fun x c h => I.freeC x c (hcl x c h), fun p hp => (by simp [cxComp] at hp), I.hok.kept keep, ?_⟩
  · rcases (hf b hb).2.2.2.1 with z | z
    · exact I.ok.noex b o e z
    · exact absurd (Nat.lt_of_lt_of_le (Heap.lt_size (I.ok.bs b o e).1) z) (Nat.lt_irrefl _)
  · rcases List.mem_cons.mp (I.stkSub b h) with z | z
    · exact (hf b hb).2.1 z
    · exact (hf b hb).2.2.1 z
  · have e2' : (capt cap σ)[i]? = some (some v) := e2
    unfold capt at e2'
    rw [List.getElem?_map] at e2'
    cases q : cap[i]? with
    | none => rw [q] at e2'; cases e2'
    | some o =>
      cases o with
      | none => rw [q] at e2'; cases e2'
      | some j =>
        rw [q] at e2'
        obtain ⟨y, n1, n2, n3, n4⟩ := capOk_get S.cap q
        have e1' : N[i]? = some x := e1
        rw [n1] at e1'
        cases e1'
        have ej : σ[j]? = some (some v) := by
          have e3 : (σ[j]?).join = some v := Option.some.inj e2'
          cases r : σ[j]? with
          | none => rw [r] at e3; cases e3
          | some o => rw [r] at e3; rw [show o = some v from e3]
        obtain ⟨m, hn, hl⟩ := I.loc
        obtain ⟨u, ru, l⟩ := hl j x v n2 ej (.inr (.inl n4))
        refine ⟨u, ru, .inr ⟨.inl (relabel_free I.ok.kind hkf n3), ?_⟩⟩
        rcases l with ⟨hk, _⟩ | ⟨_, c, hc, z⟩
        · have n4' : X.env.kindOf x = some .cell := n4
          rw [n4'] at hk; cases hk
        · obtain ⟨c', hc'⟩ := clOf_has (env := X.env) (acc := []) (mem_of_lookup_str n3)
          have := hcl x c' hc'
          rw [hc] at this
          cases this
          exact ⟨c, hc', z.keeps keep⟩
  · obtain ⟨v, z⟩ := I.cell x c (hcl x c h)
    exact ⟨v, z.keeps keep⟩
  · show (capt cap σ).length = N.length
    unfold capt
    rw [List.length_map]
    exact S.len

/-- behind the block: the frame is as it was -/
theorem comp_end {pins' : List (Addr × Obj)} {σ' : St} {H' : Hp} {s' : Shared} {h' : Heap} (I : Inv X pins σ H s) (hf : ∀ b ∈ fp, FpOk X pins H b) (J : Inv (cxComp X N scope s.heap.objs.size s H fp) pins' σ' H' s')
    (sb : Heap.SameBut s.heap.objs.size s'.heap h') : Inv X pins σ H' { s' with heap := h' } := by
  have I1 : Inv X pins σ H' s' := I.call' J.os J.base J.hok J.bare fun b hb => ⟨(hf b hb).2.2.2.1, (hf b hb).2.1, (hf b hb).2.2.2.2.1, (hf b hb).2.2.2.2.2⟩
  have hfree : H' s.heap.objs.size = none := J.free
  refine I1.turned (t' := s'.toks) (it := s.heap.objs.size) (fun b o hb e => (sb.2 b hb).trans e) hfree (Nat.ne_of_gt I.lt) (.inr I.sz) (fun x c h z => ?_) fun p hp z => ?_
  · obtain ⟨v, q⟩ := I.cell x c h
    have := q.lt
    rw [z] at this
    exact Nat.lt_irrefl _ this
  · have := Heap.lt_size (I.pin p hp).1
    rw [z] at this
    exact Nat.lt_irrefl _ this
end

/-- the tests of a clause: none, or one -/
def PIfs (X : Cx) (ifs : List Expr) (t : TT) : Prop :=
  ∀ (pins : List (Addr × Obj)) (s : Shared) (σ : St) (H : Hp) (Q : Bool → Hp → Prop), Inv X pins σ H s → t σ H Q →
    wpAny (model X.prog X.w) X.A (forIn ifs true fun c r => if r = true then do let ok ← isTrue c X.env (eval c X.env); pure (ForInStep.yield ok) else pure (ForInStep.yield r)) (TP X pins σ Q) X.xe s
def tYes : TT := fun _ H Q => Q true H
theorem pf_none {X : Cx} : PIfs X [] tYes := fun pins s σ H Q I h => wpAny_tests_nil ⟨H, I, h⟩
section
variable {prog : Program} {w : World} {A : Around} {R : Result → Shared → Prop} {s : Shared}
theorem compLoop_gen {elt target iter : Expr} {ifs : List Expr} {scope : Scope} {pos : Pos} {it acc : Value} {env : Env} (I : Nat → Shared → Prop)
    (turn : ∀ n s, I n s → wpAny (model prog w) A (pyNext it) (fun r s₁ => match r with
      | none => R (.ok .next) s₁
      | some v => wpAny (model prog w) A (letOwnedTupleGo target it v) (fun _ s₀ => wpAny (model prog w) A (assign target env v) (fun _ s₂ =>
          wpAny (model prog w) A (forIn ifs true fun c r => if r = true then do let ok ← isTrue c env (eval c env); pure (ForInStep.yield ok) else pure (ForInStep.yield r)) (fun ok s₃ =>
            if ok = true then wpAny (model prog w) A (eval elt env) (fun x s₄ =>
              wpAny (model prog w) A (call (.builtin "list.append") [acc, x]) (fun _ s₅ => ∃ m, m < n ∧ I m s₅) (fun _ _ => False) s₄) (fun _ _ => False) s₃
            else ∃ m, m < n ∧ I m s₃) (fun _ _ => False) s₂) (fun _ _ => False) s₀) (fun _ _ => False) s₁) (fun _ _ => False) s)
    (n : Nat) (h : I n s) : codeAny (model prog w) A (.compLoop (.ListComp elt [⟨target, iter, ifs, 0⟩] scope pos) 0 it acc env) R s := by
  refine codeAny_loop rfl I (fun n s hI => ?_) n h
  show wpAny _ A ((compTurn (.ListComp elt [⟨target, iter, ifs, 0⟩] scope pos) 0 it acc env).onRaise (fun x => do noteFrame x env; theTreesLotGoes x)) _ _ s
  refine wpAny_noted ?_
  rw [compTurn_list]
  refine wpAny_bind (wpAny_standAt (wpAny_bind (wpAny_mono (turn n s hI) (fun r s₁ h₁ => ?_) fun _ _ h' => h'.elim)))
  cases r with
  | none => exact wpAny_pure h₁
  | some v =>
    refine wpAny_bind (wpAny_mono h₁ (fun _ s₀ h₀ => ?_) fun _ _ h' => h'.elim)
    refine wpAny_bind (wpAny_mono h₀ (fun _ s₂ h₂ => wpAny_bind (wpAny_mono h₂ (fun ok s₃ h₃ => ?_) fun _ _ h' => h'.elim)) fun _ _ h' => h'.elim)
    cases ok with
    | false => exact wpAny_pure ⟨rfl, h₃⟩
    | true =>
      exact wpAny_bind (wpAny_bind (wpAny_mono h₃ (fun x s₄ h₄ => wpAny_bind (wpAny_mono h₄ (fun _ s₅ h₅ => wpAny_pure (wpAny_pure ⟨rfl, h₅⟩)) fun _ _ h' => h'.elim)) fun _ _ h' => h'.elim))
end

/-- the turns of a comprehension: D the new list, W the invariant by the turn, a measure, the items so far, the block's names, the heap -/
def compBody (J : It) (H1 : Hp) (cap : List (Option Nat)) (g : TG) (tt : TT) (te : TE) (σ : St) (Q : VK) : Prop := ∀ D, H1 D = none →
  ∃ W : Nat → Nat → List V → St → Hp → Prop, (∃ m, W 0 m [] (capt cap σ) (upd H1 D (.lst []))) ∧ ∀ i m ys σ' H', W i m ys σ' H' → H' D = some (.lst ys) ∧
    ((J.stop i H' ∧ Q (.ref D) H') ∨ (J.go i H' ∧ ∀ x H2, J.yld i H' x H2 → g x σ' H2 fun σ2 H3 => tt σ2 H3 fun b H4 =>
      if b = true then te σ2 H4 fun y H5 => H5 D = some (.lst ys) ∧ ys.length < sizeLine ∧ ∃ m', m' < m ∧ W (i + 1) m' (ys ++ [y]) σ2 (upd H5 D (.lst (ys ++ [y])))
      else ∃ m', m' < m ∧ W (i + 1) m' ys σ2 H4))
/-- [elt for target in iter if test] -/
def tComp (wi : TI) (cap : List (Option Nat)) (g : TG) (tt : TT) (te : TE) : TE := fun σ H Q => wi σ H fun J H1 => compBody J H1 cap g tt te σ Q

theorem pe_comp {X : Cx} {elt tgt iter : Expr} {ifs : List Expr} {scope : Scope} {pos : Pos} {N : List Str} {cap : List (Option Nat)} {wi : TI} {g : TG} {tt : TT} {te : TE}
    (S : CompScope X.env.scope scope X.N N cap) (hc : X.calm = true) (hi : PI X tgt iter wi)
    (hb : ∀ (C : Addr) (s : Shared) (H : Hp) (fp : List Addr), PG (cxComp X N scope C s H fp) tgt g ∧ PIfs (cxComp X N scope C s H fp) ifs tt ∧ PE (cxComp X N scope C s H fp) elt te)
    (hclos : closureFor scope X.env = pure (clOf X.env scope.names []) := by with_unfolding_all rfl) (hs : ∀ x, foldedSetIterable iter X.env x = pure x := by intro _; rfl) :
    PE X (.ListComp elt [⟨tgt, iter, ifs, 0⟩] scope pos) (tComp wi cap g tt te) := by
  intro pins s σ H Q I h
  rw [eval_ListComp]
  refine wpAny_comprehension_free (use := none) (cl := clOf X.env scope.names []) rfl hs hclos S.kind S.names ?_
  refine thn (hi pins s σ H _ I h) fun v s1 h1 => thn h1 fun itv s2 h2 => ?_
  obtain ⟨it, fp, tn, J, H2, e, I2, T, st2, f2, k⟩ := h2
  subst e
  refine wpAny_newObj_type (wpAny_newFunctionEnv S.cell (by intro y hy; simp at hy) (fun h₁ hns₁ hsb₁ => ?_) S.kind)
  dsimp only at hns₁ hsb₁ ⊢
  have I3 : Inv X pins σ (upd H2 s2.heap.objs.size (.lst [])) { s2 with heap := s2.heap.push { cls := .type "list", dict := none, data := .seq ([] : List Value).toArray } } := I2.lnew (t' := s2.toks) .nil (Nat.zero_le _)
  obtain ⟨W, ⟨m0, w0⟩, turn⟩ := k s2.heap.objs.size I2.fresh
  generalize hD : s2.heap.objs.size = D at *
  generalize hsD : ({ s2 with heap := s2.heap.push { cls := .type "list", dict := none, data := .seq ([] : List Value).toArray } } : Shared) = sD at *
  have hsz : sD.heap.objs.size = D + 1 := by rw [← hsD, ← hD]; exact Heap.size_push ..
  have hheap : s2.heap.push { cls := .type "list", dict := none, data := .seq ([] : List Value).toArray } = sD.heap := by rw [← hsD]
  rw [hheap] at hns₁ hsb₁ ⊢
  have up : ∀ b o, s2.heap.get? b = some o → sD.heap.get? b = some o := fun b o e => by rw [← hheap]; exact Heap.get?_push_of_some _ e
  have keep : ∀ b o, sD.heap.get? b = some o → h₁.get? b = some o := fun b o e => hsb₁.extBut b o (Nat.ne_of_lt (Heap.lt_size e)) (Heap.get?_push_of_some _ e)
  have hfD : D ∉ fp := fun hm => by
    obtain ⟨o, e, _⟩ := T.obj _ _ st2 D hm
    have := Heap.lt_size e
    rw [hD] at this
    exact Nat.lt_irrefl _ this
  have f3 : ∀ b ∈ fp, FpOk X pins (upd H2 D (.lst [])) b := fun b hb => ⟨by rw [upd_ne (fun z => hfD (by rw [← z]; exact hb))]; exact (f2 b hb).1, (f2 b hb).2⟩
  have hlt : ∀ b ∈ fp, b < sD.heap.objs.size := fun b hb => by
    obtain ⟨o, e, _⟩ := T.obj _ _ st2 b hb
    exact Heap.lt_size (up b o e)
  have I4 := comp_start (t' := s2.toks + ([] : List (Str × Value)).length) S I3 f3 hlt hns₁ keep
  obtain ⟨hg, hif, hel⟩ := hb sD.heap.objs.size sD (upd H2 D (.lst [])) fp
  have st4 : tn 0 h₁ := T.keep _ _ _ st2 fun b hb o e => keep b o (up b o e)
  have stat : ∀ {H' : Hp}, (∀ b ∈ fp, H' b = none) → ∀ b ∈ fp, FpOk (cxComp X N scope sD.heap.objs.size sD (upd H2 D (.lst [])) fp) [] H' b := fun hn b hb =>
    ⟨hn b hb, (I4.ok.exf b hb).1, I4.ok.exfs b hb, .inl hb, fun x c h z => (I4.ok.exf b hb).2 x c h z, fun p hp => (by simp [cxComp] at hp)⟩
  have loop : codeAny (model X.prog X.w) X.A (.compLoop (.ListComp elt [⟨tgt, iter, ifs, 0⟩] scope pos) 0 (.ref it) (.ref D) (compEnvC scope (clOf X.env scope.names []) sD.heap.objs.size X.env))
      (compPost (model X.prog X.w) X.A X.xe none (EP X pins σ Q) (.ref D) sD.heap.objs.size) { sD with heap := h₁, toks := s2.toks + ([] : List (Str × Value)).length } := by
    refine compLoop_gen (fun n s' => ∃ i ys σ' H', Inv (cxComp X N scope sD.heap.objs.size sD (upd H2 D (.lst [])) fp) [] σ' H' s' ∧ tn i s'.heap ∧ (∀ b ∈ fp, H' b = none) ∧ W i n ys σ' H') ?_ m0
      ⟨0, [], capt cap σ, _, I4, st4, fun b hb => (f3 b hb).1, w0⟩
    rintro n s5 ⟨i, ys, σ5, H5, I5, st5, fr5, w5⟩
    obtain ⟨hD5, way⟩ := turn i n ys σ5 H5 w5
    rcases way with ⟨stop, q⟩ | ⟨go, step⟩
    · refine thn (T.done (cxComp X N scope sD.heap.objs.size sD (upd H2 D (.lst [])) fp) rfl rfl rfl hc i [] s5 σ5 H5 (fun _ _ => False) I5 (stat fr5) st5 stop) fun r s6 ⟨hr, I6⟩ => ?_
      subst hr
      obtain ⟨m, hn, _⟩ := I6.loc
      exact ⟨m, hn, fun h' sb => ⟨.ref D, H5, comp_end I3 f3 I6 sb, rfl, q⟩⟩
    · refine thn (T.item (cxComp X N scope sD.heap.objs.size sD (upd H2 D (.lst [])) fp) rfl rfl rfl hc i [] s5 σ5 H5 (fun _ _ => False) I5 (stat fr5) st5 go) fun r s6 ⟨u, hr, h6⟩ => ?_
      subst hr
      refine thn h6 fun _ s7 ⟨x, H7, I7, r7, y7, st7, fr7⟩ => ?_
      have I7' := I7.pinned (stat fr7) (T.obj _ _ st7)
      refine thn (hg _ s7 σ5 H7 x u _ I7' r7 (step x H7 y7)) fun _ s8 ⟨σ8, H8, I8, q8⟩ => ?_
      refine thn (hif _ s8 σ8 H8 _ I8 q8) fun b s9 ⟨H9, I9, q9⟩ => ?_
      have back : ∀ {σ' : St} {H' : Hp} {s' : Shared}, Inv (cxComp X N scope sD.heap.objs.size sD (upd H2 D (.lst [])) fp) ([] ++ pinsAt fp s7.heap) σ' H' s' → tn (i + 1) s'.heap ∧ ∀ b ∈ fp, H' b = none := fun {σ' H' s'} J' =>
        ⟨T.keep _ _ _ st7 fun b hb o e => (J'.pin (b, o) (List.mem_append_right _ (List.mem_append_right _ (mem_pinsAt hb e)))).1, fun b hb => by
          obtain ⟨o, e, d⟩ := T.obj _ _ st7 b hb
          exact (J'.pin (b, o) (List.mem_append_right _ (List.mem_append_right _ (mem_pinsAt hb e)))).2.1⟩
      cases b with
      | false =>
        obtain ⟨m', hm, w9⟩ := (show ∃ m', m' < n ∧ W (i + 1) m' ys σ8 H9 from q9)
        exact ⟨m', hm, i + 1, ys, σ8, H9, I9.unpinned, (back I9).1, (back I9).2, w9⟩
      | true =>
        refine thn (hel _ s9 σ8 H9 _ I9 (show te σ8 H9 _ from q9)) fun y s10 ⟨v10, H10, I10, r10, q10⟩ => ?_
        obtain ⟨hD10, hz, m', hm, w10⟩ := q10
        refine thn (mt_append (X := cxComp X N scope sD.heap.objs.size sD (upd H2 D (.lst [])) fp) _ s10 σ8 H10 (.ref D) [v10] (.ref D) [y] (fun _ H' => H' = upd H10 D (.lst (ys ++ [v10]))) I10 rfl (.cons r10 .nil) ⟨D, ys, v10, rfl, rfl, hD10, hz, rfl⟩) fun _ s11 ⟨v11, H11, I11, _, e11⟩ => ?_
        subst e11
        exact ⟨m', hm, i + 1, ys ++ [v10], σ8, _, I11.unpinned, (back I11).1, (back I11).2, w10⟩
  subst hsD
  subst hD
  exact codeAny_compStart_list loop (T.self _ 0 _ _ _ st4 loop)
end L2

namespace L2
open PySem PySem.Spec PyProof.Rows
section
variable {X : Cx} {x : Str} {pos : Pos} {tg : Expr}
/-- a module's int, text, object -/
theorem pe_globI {i : Int} (hg : Gl X x) (hm : ∃ t, X.mg x = some (.int i t)) (hd : (x == ("__debug__" : Str)) = false := by decide) : PE X (.Name x pos) (tC (.int i)) := by
  obtain ⟨t, e⟩ := hm
  exact pe_glob hg e ⟨t, rfl⟩ hd
theorem pe_globS {y : Str} (hg : Gl X x) (hm : ∃ t, X.mg x = some (.str y t)) (hd : (x == ("__debug__" : Str)) = false := by decide) : PE X (.Name x pos) (tC (.str y)) := by
  obtain ⟨t, e⟩ := hm
  exact pe_glob hg e ⟨t, rfl⟩ hd
theorem pe_globR {a : Addr} (hg : Gl X x) (hm : X.mg x = some (.ref a)) (hd : (x == ("__debug__" : Str)) = false := by decide) : PE X (.Name x pos) (tC (.ref a)) := pe_glob hg hm rfl hd

/-- text * int -/
theorem op_mul_str : OpR X (binaryOp .Mult) (fun x y H Q => ∃ z n, x = .str z ∧ y = .int n ∧ MulOk z n ∧ Q (.str (Txt.mul z n)) H) := by
  intro pins s σ H x y v u Q I rx ry h
  obtain ⟨z, n, rfl, rfl, ok, q⟩ := h
  obtain ⟨t, rfl⟩ := rx
  obtain ⟨t', rfl⟩ := ry
  exact SB.mul ok fun t' k => ⟨.str _, H, I.tok _, ⟨_, rfl⟩, q⟩
/-- isinstance(x, T), T a built-in class -/
theorem call_isinst : CallR X (.builtin "isinstance") (fun xs H Q => ∃ x T t b, xs = [x, .ty T] ∧ TyOf X.K H x t ∧ PySem.W.kitOne X.K t (.type T) = some b ∧ Q (.bl b) H) := by
  intro pins s σ H xs us Q I r h
  obtain ⟨x, T, t, b, rfl, ty, e, q⟩ := h
  obtain ⟨u, v, rfl, ru, rv⟩ := r.two
  cases rv
  exact isinst_ok I ru ty e fun tk => ⟨.bl b, H, I.tok tk, rfl, q⟩

theorem bools_of : ∀ {bs : List Bool} {us : List Value}, Vals (bs.map V.bl) us → LSm.BoolsAre us bs
  | [], _, .nil => .nil
  | b :: bs, _, .cons r t => by cases r; exact .cons b (bools_of t)
theorem all_boolsL {prog : Program} {w : World} {A : Around} {E : Value → Shared → Prop} {s : Shared} {l : Addr} {vs : List Value} {bs : List Bool} {Q : Value → Shared → Prop} (hh : A.handled = none) (hl : s.heap.IsList l vs.toArray) (hb : LSm.BoolsAre vs bs)
    (h : ∀ h' tk, (∀ b o, s.heap.get? b = some o → h'.get? b = some o) → Q (.bool (bs.all id)) { s with heap := h', toks := tk }) : wpAny (model prog w) A (call (.builtin "all") [.ref l]) Q E s := by
  have hlt : l < s.heap.objs.size := by obtain ⟨_, e, _⟩ := hl; exact Heap.lt_size e
  refine call_all_walk (wpAny_pyIter_list hl ?_)
  refine ⟨s.heap.objs.size, [s.heap.objs.size, l], [s.heap.objs.size], vs.toArray.size, _, _, fun i => (bs[i]?).getD true, rfl, Walks.list (A := A.in1) hh _ l (Nat.ne_of_lt hlt) vs.toArray,
    ⟨⟨_, Heap.get?_push_size _ rfl, rfl, rfl⟩, hl.push _⟩, fun i v s' Q' E' hP hQ => ?_, fun h' tk hk => ?_⟩
  · obtain ⟨b, e, rfl⟩ := hb.get i v (by simpa using hP)
    simp only [e, Option.getD_some] at hQ
    exact wpAny_truthy_bool hQ
  · have e : ((List.range vs.toArray.size).all fun i => (bs[i]?).getD true) = bs.all id := by
      rw [List.size_toArray, hb.length]; exact LSm.range_all bs
    rw [e]
    exact h h' tk (LSm.kept_iter hk)
/-- all(list of bools) -/
theorem call_all (hc : X.calm = true) : CallR X (.builtin "all") (fun xs H Q => ∃ (p : Addr) (bs : List Bool), xs = [.ref p] ∧ SqL X.K H p (bs.map V.bl) ∧ Q (.bl (bs.all id)) H) := by
  intro pins s σ H xs us Q I r h
  obtain ⟨p, bs, rfl, hq, q⟩ := h
  obtain ⟨u, rfl, ru⟩ := r.one
  cases ru
  obtain ⟨its, rv, pl, hz⟩ := I.list hq
  exact all_boolsL (I.ok.hd hc) pl.isList (bools_of rv) fun h' tk hk => ⟨.bl _, H, I.kept hk, rfl, q⟩
/-- the signs of a text -/
def Its (y : Str) : It := ⟨fun i _ => i < y.cps.size, fun i H x H' => H' = H ∧ ∃ c, y.cps[i]? = some c ∧ x = .str ⟨#[c]⟩, fun i _ => i = y.cps.size⟩
theorem walks_str {prog : Program} {w : World} {A : Around} (hh : A.handled = none) (I : Addr) (y : Str) (t : Tok) : Walks prog w A I [I] [I] y.cps.size (SignAt y) (fun i h => h.IsStrIter I (strIterType y) y t i) := by
  unfold strIterType
  split
  · exact Walks.strAscii hh I y t
  · exact Walks.strWide hh I y t
theorem turn_str {P : Program} {w : World} {K : PySem.W.Frag} (y : Str) (t : Tok) (it : Addr) : Turn P w K tg (Its y) [it] it (fun i h => h.IsStrIter it (strIterType y) y t i) where
  mem := by simp
  obj := fun i h st b hb => by
    have e : b = it := by simpa using hb
    subst e
    obtain ⟨o, e, c, d⟩ := st
    exact ⟨o, e, fun v z => by rw [d] at z; cases z⟩
  keep := fun i h h' st k => by
    obtain ⟨o, e, r⟩ := st
    exact ⟨o, k it (by simp) o e, r⟩
  item := by
    intro X hP hw hK hc i pins s σ H E I hf st hg
    subst hP hw hK
    obtain ⟨f0, f1, f2, f3, f4, f5⟩ := hf it (by simp)
    have W := walks_str (prog := X.prog) (w := X.w) (I.ok.hd hc) it y t
    refine W.item i s _ _ hg st fun v h' tk hv st' kk => ?_
    obtain ⟨c, t', hc', rfl⟩ := hv
    have I1 : Inv X pins σ H { s with heap := h', toks := tk } := I.turned (fun b o hb e => kk b o (by simpa using hb) e) f0 f1 f3 f4 f5
    obtain ⟨o, e, c1, d⟩ := id st'
    refine ⟨_, rfl, go_of (s := { s with heap := h', toks := tk }) (n := strIterType y) e c1 d ?_ ⟨.str ⟨#[c]⟩, H, I1, ⟨t', rfl⟩, ⟨rfl, c, hc', rfl⟩, st', fun b hb => (hf b hb).1⟩⟩
    unfold strIterType
    split <;> decide
  done := by
    intro X hP hw hK hc i pins s σ H E I hf st hg
    subst hP hw hK
    have hg' : i = y.cps.size := hg
    subst hg'
    obtain ⟨f0, f1, f2, f3, f4, f5⟩ := hf it (by simp)
    have W := walks_str (prog := X.prog) (w := X.w) (I.ok.hd hc) it y t
    exact W.done s _ _ st fun h' tk kk => ⟨rfl, I.turned (fun b o hb e => kk b o (by simpa using hb) e) f0 f1 f3 f4 f5⟩
  self := fun A i s Q E st h => by
    obtain ⟨o, e, c, d⟩ := id st
    revert st c
    unfold strIterType
    split
    · intro st c; exact wpAny_pyIter_striter_ascii st h
    · intro st c; exact wpAny_pyIter_striter_wide st h
def iStr (tl : TE) : TI := fun σ H R => tl σ H fun x H1 => ∃ y, x = .str y ∧ R (Its y) H1
theorem pi_str {l : Expr} {tl : TE} (hl : PE X l tl) : PI X tg l (iStr tl) := by
  intro pins s σ H R I h
  refine thn (hl pins s σ H _ I h) fun v s1 ⟨x, H1, I1, r1, q1⟩ => ?_
  obtain ⟨y, e, q⟩ := q1
  subst e
  obtain ⟨t, rfl⟩ := r1
  refine wpAny_pyIter_strU ?_
  refine ⟨s1.heap.objs.size, [s1.heap.objs.size], _, _, H1, rfl, I1.kept (t' := s1.toks) fun b o e => Heap.get?_push_of_some _ e, turn_str y t _, ⟨_, Heap.get?_push_size _ rfl, rfl, rfl⟩, fun b hb => ?_, q⟩
  have e : b = s1.heap.objs.size := by simpa using hb
  subst e
  exact I1.fpOk (Nat.le_refl _) (I1.hok.fresh (Nat.le_refl _))
end
end L2
namespace L2
open PySem PySem.Spec PyProof.Rows
/-- a def with defaults -/
structure FunD (K : PySem.W.Frag) (x qual : Str) (st : Stmt) (f : Addr) (fd : FuncData) : Prop where
  ex : ∃ (oc : Value) (od : Option Addr) (dV kV doc pm : Value) (an : Option Addr) (cdv ct : Value) (osl : Array (Option Value)),
    fd = PySem.W.fnOf x qual (defArgs st) (defBody st) (defScope st) dV kV doc pm an cdv ct ∧ K.lookup f = some ⟨oc, od, .func fd, osl⟩ ∧ PySem.W.codeIn K cdv qual = true
  kp : PySem.W.keepIn K (.ref f) = true
section
variable {P : Program} {w : World} {K : PySem.W.Frag} {mg : Str → Option Value} {base : Heap}
theorem FunD.ok {cm : Bool} {x qual : Str} {st : Stmt} {f : Addr} {fd : FuncData} {N ps : List Str} {k : Nat} {sp : Sp} (F : FunD K x qual st f fd) (S : FnScope N ps (defScope st)) (len : ∀ vs H Q E, sp vs H Q E → vs.length = ps.length)
    (hbody : ∀ (cdv : Value) (A : Around) (outer : List Env) (s : Shared) (H : Hp) (vs : List V) (Q : VK) (E : XK), Room cm k (A.deeper (envOfC qual (defScope st) s.heap.objs.size f cdv)) → sp vs H Q E →
      ∃ t, PSs (cxOf CX0 cm P w K mg base N qual (defScope st) f cdv A outer s H E).nox (defBody st) t ∧ t { nx := fun _ H' => Q .non H', rt := Q } (start N vs) H) : FnOk P w K mg base CX0 cm (k + 1) f fd ps sp := by
  obtain ⟨oc, od, dV, kV, doc, pm, an, cdv, ct, osl, rfl, lk, hcd⟩ := F.ex
  exact fn_of lk hcd S len fun A outer s H vs Q E hr h => by
    obtain ⟨t, ht, q⟩ := hbody cdv A outer s H vs Q E hr h
    exact ⟨t, ht.nox, q⟩
theorem funD_mk {x qual : Str} {st : Stmt} {f : Addr} {oc : Value} {od an : Option Addr} {osl : Array (Option Value)} {dV kV doc pm cdv ct : Value} (l : K.lookup f = some ⟨oc, od, .func (PySem.W.fnOf x qual (defArgs st) (defBody st) (defScope st) dV kV doc pm an cdv ct), osl⟩)
    (c : PySem.W.codeIn K cdv qual = true) (k : PySem.W.keepIn K (.ref f) = true) : FunD K x qual st f (PySem.W.fnOf x qual (defArgs st) (defBody st) (defScope st) dV kV doc pm an cdv ct) :=
  ⟨⟨oc, od, dV, kV, doc, pm, an, cdv, ct, osl, rfl, l, c⟩, k⟩
end
end L2
namespace L2
open PySem PySem.Spec PyProof.Rows
/-- what an iterator yields, whatever else is laid meanwhile -/
def Seq (J : It) (H : Hp) (xs : List V) : Prop := ∀ H', Same H H' → (∀ (i : Nat) x, xs[i]? = some x → J.go i H' ∧ ∀ x' H2, J.yld i H' x' H2 → x' = x ∧ H2 = H') ∧ J.stop xs.length H'
theorem seq_str (y : Str) (H : Hp) : Seq (Its y) H (y.cps.toList.map fun c => .str ⟨#[c]⟩) := fun H' _ => by
  refine ⟨fun i x e => ?_, ?_⟩
  · rw [List.getElem?_map] at e
    cases q : y.cps.toList[i]? with
    | none => rw [q] at e; cases e
    | some c =>
      rw [q] at e
      have q' : y.cps[i]? = some c := by simpa using q
      refine ⟨(Array.getElem?_eq_some_iff.mp q').1, fun x' H2 hy => ?_⟩
      obtain ⟨e1, c', e2, e3⟩ := hy
      rw [q'] at e2
      cases e2
      exact ⟨e3.trans (Option.some.inj e), e1⟩
  · show _ = _
    simp
theorem seq_list {K : PySem.W.Frag} {H : Hp} {a : Addr} {xs : List V} (h : SqL K H a xs) : Seq (Itl K a) H xs := fun H' s => by
  have h' := s.seq h
  refine ⟨fun i x e => ⟨⟨xs, x, h', e⟩, fun x' H2 hy => ?_⟩, ⟨xs, h', Nat.le_refl _⟩⟩
  obtain ⟨e1, e2⟩ := hy
  have := e2 xs h'
  rw [e] at this
  exact ⟨(Option.some.inj this).symm, e1⟩
theorem same_upd {H : Hp} {p : Addr} {o : HO} (h : H p = none) : Same H (upd H p o) := fun b u e => by rw [upd_ne (ne_of_none e h)]; exact e
/-- for, over what an iterator yields -/
theorem for_seq {J : It} {xs : List V} {g : TG} {tb : TS} {D : Ends} {σ : St} {H0 H : Hp} (hJ : Seq J H0 xs) (Pv : Nat → St → Hp → Prop) (h0 : Pv 0 σ H) (hsm : ∀ i σ H, i ≤ xs.length → Pv i σ H → Same H0 H)
    (hs : ∀ (i : Nat) x σ H, xs[i]? = some x → Pv i σ H → g x σ H fun σ2 H2 => tb { D with nx := Pv (i + 1), ct := Pv (i + 1), bk := D.nx } σ2 H2) (hd : ∀ σ H, Pv xs.length σ H → D.nx σ H) :
    ∃ W : Nat → Nat → St → Hp → Prop, (∃ m, W 0 m σ H) ∧ ∀ i m σ H, W i m σ H →
      (J.stop i H ∧ D.nx σ H) ∨ (J.go i H ∧ ∃ N : St → Hp → Prop, (∀ σ' H', N σ' H' → ∃ m', m' < m ∧ W (i + 1) m' σ' H') ∧ ∀ x H', J.yld i H x H' → g x σ H' fun σ2 H2 => tb { D with nx := N, ct := N, bk := D.nx } σ2 H2) := by
  refine ⟨fun i m σ H => m = xs.length - i ∧ i ≤ xs.length ∧ Pv i σ H, ⟨xs.length, by simp, Nat.zero_le _, h0⟩, ?_⟩
  rintro i m σ H ⟨rfl, hi, p⟩
  obtain ⟨q1, q2⟩ := hJ H (hsm i σ H hi p)
  by_cases hlt : i < xs.length
  · have e : xs[i]? = some xs[i] := by simp [hlt]
    obtain ⟨go, y⟩ := q1 i _ e
    refine .inr ⟨go, Pv (i + 1), fun σ' H' p' => ⟨xs.length - (i + 1), by omega, rfl, hlt, p'⟩, fun x H' hy => ?_⟩
    obtain ⟨rfl, rfl⟩ := y x H' hy
    exact hs i _ σ _ e p
  · have e : i = xs.length := by omega
    subst e
    exact .inl ⟨q2, hd σ H p⟩
/-- a comprehension of one name whose parts lay things at most -/
theorem comp_pure {J : It} {cap : List (Option Nat)} {tt : TT} {te : TE} {σ : St} {H1 : Hp} {Q : VK} {xs : List V} (hJ : Seq J H1 xs) (p : V → Bool) (f : V → V) (hsz : xs.length ≤ 100000)
    (hp : ∀ x ∈ xs, ∀ H', Same H1 H' → ∀ R : Bool → Hp → Prop, (∀ H'', Same H' H'' → R (p x) H'') → tt ((capt cap σ).set 0 (some x)) H' R)
    (he : ∀ x ∈ xs, p x = true → ∀ H', Same H1 H' → ∀ R : VK, (∀ H'', Same H' H'' → R (f x) H'') → te ((capt cap σ).set 0 (some x)) H' R)
    (k : ∀ D H', Same H1 H' → H1 D = none → H' D = some (.lst ((xs.filter p).map f)) → Q (.ref D) H') :
    compBody J H1 cap (gName 0) tt te σ Q := by
  intro D hD
  refine ⟨fun i m ys σ' H' => m = xs.length - i ∧ i ≤ xs.length ∧ (∀ v, σ'.set 0 v = (capt cap σ).set 0 v) ∧ H' D = some (.lst ys) ∧ Same H1 H' ∧ ys = ((xs.take i).filter p).map f,
    ⟨xs.length, by simp, Nat.zero_le _, fun _ => rfl, upd_same, same_upd hD, by simp⟩, ?_⟩
  rintro i m ys σ' H' ⟨rfl, hi, hσ, hl, sm, hys⟩
  refine ⟨hl, ?_⟩
  obtain ⟨q1, q2⟩ := hJ H' sm
  by_cases hlt : i < xs.length
  · have e : xs[i]? = some xs[i] := by simp [hlt]
    obtain ⟨go, y⟩ := q1 i _ e
    refine .inr ⟨go, fun x H2 hy => ?_⟩
    obtain ⟨rfl, rfl⟩ := y x H2 hy
    have hm : xs[i] ∈ xs := List.getElem_mem hlt
    have etake : xs.take (i + 1) = xs.take i ++ [xs[i]] := by rw [List.take_add_one, e]; rfl
    show tt (σ'.set 0 (some xs[i])) _ _
    rw [hσ]
    refine hp _ hm _ sm _ fun H4 s4 => ?_
    have hss : ∀ v, ((capt cap σ).set 0 (some xs[i])).set 0 v = (capt cap σ).set 0 v := fun v => by rw [List.set_set]
    cases hb : p xs[i] with
    | false =>
      refine iteF ⟨xs.length - (i + 1), by omega, rfl, hlt, hss, s4 _ _ hl, sm.trans s4, ?_⟩
      rw [etake, List.filter_append, hys]
      simp [hb]
    | true =>
      refine iteT ?_
      refine he _ hm hb _ (sm.trans s4) _ fun H5 s5 => ?_
      have hl5 := s5 _ _ (s4 _ _ hl)
      refine ⟨hl5, ?_, xs.length - (i + 1), by omega, rfl, hlt, hss, upd_same, fun b o eb => ?_, ?_⟩
      · have h1 : ys.length ≤ xs.length := by
          rw [hys, List.length_map]
          exact Nat.le_trans (List.length_filter_le _ _) (List.length_take_le' _ _)
        have h2 : (100000 : Nat) < sizeLine := by decide
        omega
      · rw [upd_ne (ne_of_none eb hD)]
        exact s5 _ _ (s4 _ _ (sm _ _ eb))
      · rw [etake, List.filter_append, hys]
        simp [hb]
  · have e : i = xs.length := by omega
    subst e
    refine .inl ⟨q2, k D _ sm hD ?_⟩
    rw [hl, hys, List.take_length]
end L2
namespace L2
open PySem PySem.Spec PyProof.Rows
section
variable {X : Cx}
/-- one sign in a text -/
theorem op_in_chr : OpR X (compareOp .In) (fun x y H Q => ∃ c j, x = .str ⟨#[c]⟩ ∧ y = .str j ∧ Q (.bl (decide (c ∈ j.cps.toList))) H) := by
  intro pins s σ H x y v u Q I rx ry h
  obtain ⟨c, j, rfl, rfl, q⟩ := h
  refine op_in_str pins s σ H _ _ v u Q I rx ry ⟨_, j, rfl, rfl, ?_⟩
  rw [StrLaws.found_one]
  exact q
end
theorem atI_int {α : Type} {xs : List α} {i : Int} (h0 : 0 ≤ i) (h1 : i < xs.length) : atI xs i = some (xs[i.toNat]'(by omega)) := by
  have := atI_nat (xs := xs) (j := i.toNat) (v := xs[i.toNat]'(by omega)) (by simp)
  rw [show ((i.toNat : Nat) : Int) = i by omega] at this
  exact this
/-- the item of a written list of texts -/
theorem atI_strs {ts : List Str} {i : Int} (h0 : 0 ≤ i) (h1 : i < ts.length) : ∃ t, t ∈ ts ∧ atI (ts.map V.str) i = some (.str t) := by
  refine ⟨ts[i.toNat]'(by omega), List.getElem_mem _, ?_⟩
  rw [atI_int h0 (by simpa using h1)]
  simp
theorem atI_ints {ts : List Int} {i : Int} (h0 : 0 ≤ i) (h1 : i < ts.length) : ∃ t, t ∈ ts ∧ atI (ts.map V.int) i = some (.int t) := by
  refine ⟨ts[i.toNat]'(by omega), List.getElem_mem _, ?_⟩
  rw [atI_int h0 (by simpa using h1)]
  simp
end L2
namespace L2
open PySem PySem.Spec PyProof.Rows
end L2
namespace L2
end L2

namespace L2
open PySem PySem.Spec PyProof.Rows

/-! ### own error classes, as the written part tells them -/
/-- the bases of an error class under ValueError -/
def vE : List Value := [.type "ValueError", .type "Exception", .type "BaseException", .type "object"]
theorem exc_obj {K : PySem.W.Frag} {h : Heap} {C : Addr} {bmB : List Value} {newId : String} (X : K.In h) (q : PySem.W.excIn K C bmB newId = true) :
    ∃ bm N nm qn bs hd sn sub ab col dd k0 k1 k2 k3 k5 mN, h.get? C = some (excClassObj nm qn C N bs bm hd sn sub ab col dd k0 k1 k2 k3 k5 newId) ∧ h.Ns N mN ∧ mN "__init__" = none ∧ OwnTail h bmB bm := by
  unfold PySem.W.excIn at q
  split at q
  case h_2 => cases q
  case h_1 dct cdat slots look =>
    split at q
    case h_2 => cases q
    case h_1 C2 tl a0 a1 a2 a3 nw a5 e1 e2 =>
      simp only [Bool.and_eq_true, beq_iff_eq, Bool.not_eq_true'] at q
      obtain ⟨⟨⟨⟨⟨z1, z2⟩, z3⟩, z4⟩, z5⟩, z6⟩ := q
      subst z1 z2
      obtain ⟨nm, bs, mro, ns, qn, hd, sn, sub, ab, col, del⟩ := cdat
      dsimp only at e1 z3 z5 z6
      subst e1 z3
      have es : slots = #[a0, a1, a2, a3, some (.builtin nw), a5] := by
        cases slots
        exact congrArg Array.mk e2
      subst es
      exact ⟨tl, ns, nm, qn, bs, hd, sn, sub, ab, col, dct, a0, a1, a2, a3, a5, _, X _ _ look, .of_isNs (PySem.W.isNs_of_in X z5), PySem.W.nsMap_none_of_in X z5 z6, PySem.W.tail_of_in X z4⟩

/-! ### what is tracked stays -/
theorem HOk.tracked {P : Program} {w : World} {H : Hp} {h h' : Heap} (x : HOk P w H h) (k : ∀ b u o, H b = some u → h.get? b = some o → h'.get? b = some o) : HOk P w H h' := fun a o e =>
  (x a o e).stay (fun b u hb q => by
    rcases hb with hb | hb
    · subst hb; exact k _ _ _ e q
    · exact k _ _ _ hb q) (fun _ q => q) fun _ _ q => q

/-- an exception of an own class, in flight behind a call -/
def CXe (P : Program) (w : World) : CXT := fun outer H s E ev s' => ∃ (ea t C : Addr) (H' : Hp) (B : Heap), ev = .ref ea ∧ s'.os = s.os ∧ AllBare s'.gens ∧
  Un (frs outer) [] H H' s.heap s'.heap ∧ HOk P w H' s'.heap ∧ Heap.FlyingW B outer ea (.ref C) (.ref t) s'.heap ∧
  (∀ b o, s.heap.get? b = some o → H b = none → b ∉ frs outer → B.get? b = some o) ∧ (∀ b o, s.heap.get? b = some o → b ∉ frs outer → ∃ o', B.get? b = some o') ∧
  (∀ b u o, H' b = some u → s'.heap.get? b = some o → B.get? b = some o) ∧ H' ea = none ∧ s.heap.get? ea = none ∧ E (.ref C) none H'

/-- no exception is wanted: none comes -/
theorem passF {P : Program} {w : World} {X : Cx} : Passes (CXe P w) X (fun _ _ _ => False) := fun _ _ _ _ _ _ _ c => by
  obtain ⟨_, _, _, _, _, _, _, _, _, _, _, _, _, _, _, _, q⟩ := c
  exact q.elim

theorem HOk.there {P : Program} {w : World} {H : Hp} {h : Heap} {b : Addr} {v : HO} (ok : HOk P w H h) (e : H b = some v) : ∃ o', h.get? b = some o' := by
  have := ok b v e
  cases v with
  | lst xs => obtain ⟨_, _, _, _, z⟩ := this; exact ⟨_, z⟩
  | tup xs => obtain ⟨_, _, _, o, z, _⟩ := this; exact ⟨_, z⟩
  | dK kvs => obtain ⟨_, _, _, _, o, _, _, z, _⟩ := this; exact ⟨_, z⟩
  | dT kvs => obtain ⟨_, _, _, _, o, _, _, z, _⟩ := this; exact ⟨_, z⟩
  | set S n => obtain ⟨o, _, _, _, z, _⟩ := this; exact ⟨_, z⟩
  | ins C dx fs => obtain ⟨_, _, _, z, _⟩ := this; exact ⟨_, z⟩
  | own y => exact this
  | xd fs => obtain ⟨_, ⟨_, _, _, z, _⟩, _⟩ := this; exact ⟨_, z⟩
  | rng lo hi => obtain ⟨_, _, _, z⟩ := this; exact ⟨_, z⟩
  | frz ob u => obtain ⟨z, _⟩ := this; exact ⟨_, z⟩
  | tbl ps => exact ⟨_, this⟩
  | met f y => exact ⟨_, this⟩
  | ext φ => exact this.2.1

section
variable {X : Cx} {pins : List (Addr × Obj)} {σ : St} {H H' : Hp} {s : Shared} {h h2 B : Heap}
/-- out of a frame: what lay behind a call lies behind the caller's own -/
theorem lies_of (I : Inv X pins σ H s) (hst : X.stack = X.env :: X.outer) (hex : X.ex = []) (u : Un (frs X.stack) [] H H' s.heap h) (ok : HOk X.prog X.w H' h)
    (oldB : ∀ b o, s.heap.get? b = some o → H b = none → b ∉ frs X.stack → B.get? b = some o) (thB : ∀ b o, s.heap.get? b = some o → b ∉ frs X.stack → ∃ o', B.get? b = some o')
    (trB : ∀ b u o, H' b = some u → h.get? b = some o → B.get? b = some o) (st : B.StaysIn h2) (up : h.UpToSlots h2) :
    Un (frs X.outer) [] X.H₀ H' X.s₀.heap h2 ∧ HOk X.prog X.w H' h2 ∧ (∀ b o, X.s₀.heap.get? b = some o → X.H₀ b = none → b ∉ frs X.outer → B.get? b = some o) ∧
      (∀ b o, X.s₀.heap.get? b = some o → b ∉ frs X.outer → ∃ o', B.get? b = some o') ∧ (∀ b u o, H' b = some u → h2.get? b = some o → B.get? b = some o) := by
  have nx : ∀ b, b ∉ X.ex := fun b => by rw [hex]; simp
  have nst : ∀ b o, X.s₀.heap.get? b = some o → b ∉ frs X.outer → b ∉ frs X.stack := fun b o e hb z => by
    rcases List.mem_cons.mp (I.stkSub b z) with q | q
    · exact absurd q (Nat.ne_of_lt (Nat.lt_of_lt_of_le (Heap.lt_size e) I.ok.above))
    · exact hb q
  have sub : ∀ b, b ∈ frs X.outer → b ∈ frs X.stack := fun b hb => by
    rw [hst]
    unfold frs at *
    rw [List.filterMap_cons]
    split
    · exact hb
    · exact List.mem_cons_of_mem _ hb
  have old : ∀ b o, X.s₀.heap.get? b = some o → X.H₀ b = none → b ∉ frs X.outer → B.get? b = some o := fun b o e n hb => oldB b o (I.base.keep b o e n hb (nx b)) (I.base.free b o e n (nx b)) (nst b o e hb)
  have th : ∀ b o, X.s₀.heap.get? b = some o → b ∉ frs X.outer → ∃ o', B.get? b = some o' := fun b o e hb => by
    obtain ⟨o', e'⟩ := I.base.there b o e (nx b)
    exact thB b o' e' (nst b o e hb)
  have sl : ∀ b o, X.s₀.heap.get? b = some o → b ∈ frs X.outer → ∃ sl, h2.get? b = some { o with slots := sl } := fun b o e hb => by
    have n0 := I.ok.frf b hb
    obtain ⟨s1, e1⟩ := I.base.slot b o e n0 hb (nx b)
    obtain ⟨s2, e2⟩ := u.slot b _ e1 (I.base.free b o e n0 (nx b)) (sub b hb) (by simp)
    obtain ⟨_, o', e', nf⟩ := I.ok.funs.mem hb
    rw [e] at e'
    cases e'
    obtain ⟨s3, e3⟩ := up b _ e2 nf
    exact ⟨s3, e3⟩
  refine ⟨⟨fun b o e n hb _ => st b o (old b o e n hb), fun b o e n hb _ => sl b o e hb, fun b o e n _ => ?_, fun b o e _ => ?_, fun b xs e => u.tups b xs (I.base.tups b xs e), fun b o v e => u.frzs b o v (I.base.frzs b o v e), fun b ps e => ?_⟩,
    ok.tracked fun b v o e q => st b o (trB b v o e q), old, th, fun b v o e q => ?_⟩
  · obtain ⟨o', e'⟩ := I.base.there b o e (nx b)
    exact u.free b o' e' (I.base.free b o e n (nx b)) (by simp)
  · by_cases hb : b ∈ frs X.outer
    · obtain ⟨s1, e1⟩ := sl b o e hb
      exact ⟨_, e1⟩
    · obtain ⟨o', e'⟩ := th b o e hb
      exact ⟨o', st b o' e'⟩
  · obtain ⟨m1, e1⟩ := I.base.tbls b ps e
    obtain ⟨m2, e2⟩ := u.tbls b _ e1
    exact ⟨m1 ++ m2, by rw [e2, Array.append_assoc]⟩
  · have hl := ok.lt e
    obtain ⟨o', e'⟩ := ok.there e
    have z := trB b v o' e e'
    have := st b o' z
    rw [q] at this
    cases this
    exact z
end

/-- an exception that is made here leaves as it is wanted -/
def Raises (X : Cx) (E : XK) : Prop := ∀ (pins : List (Addr × Obj)) (σ : St) (H : Hp) (s : Shared) (e C : Addr) (h' : Heap) (vs : List Value), Inv X pins σ H s → Heap.MadeExcOf s.heap h' e (.ref C) vs → E (.ref C) none H → X.xe (.ref e) { s with heap := h' }

section
variable {cm : Bool} {P : Program} {w : World} {K : PySem.W.Frag} {mg : Str → Option Value} {base : Heap} {N : List Str} {qual : Str} {scope : Scope} {f : Addr} {cd : Value} {A : Around} {outer : List Env} {s : Shared} {H : Hp} {E : XK}
theorem raises_def : Raises (cxOf (CXe P w) cm P w K mg base N qual scope f cd A outer s H E) E := by
  intro pins σ H1 s1 e C h' vs I mx q
  have old : ∀ b o, s1.heap.get? b = some o → H1 b = none → b ∉ frs (cxOf (CXe P w) cm P w K mg base N qual scope f cd A outer s H E).stack → (PySem.W.hideAll s1.heap (frs (cxOf (CXe P w) cm P w K mg base N qual scope f cd A outer s H E).stack)).get? b = some o := fun b o e _ hb => PySem.W.hideAll_get _ e hb
  have nfr : ∀ b u, H1 b = some u → b ∉ frs (cxOf (CXe P w) cm P w K mg base N qual scope f cd A outer s H E).stack := fun b u e z => by
    have := I.stkFree b z
    rw [e] at this
    cases this
  have ok1 : HOk P w H1 h' := I.hok.kept mx.keeps
  have tr : ∀ b u o, H1 b = some u → h'.get? b = some o → (PySem.W.hideAll s1.heap (frs (cxOf (CXe P w) cm P w K mg base N qual scope f cd A outer s H E).stack)).get? b = some o := fun b u o e z => by
    have hl : b < s1.heap.objs.size := I.hok.lt e
    cases q1 : s1.heap.get? b with
    | none =>
      obtain ⟨o', e'⟩ := I.hok.there e
      rw [q1] at e'
      cases e'
    | some o' =>
      have := mx.keeps b o' q1
      rw [z] at this
      cases this
      exact PySem.W.hideAll_get _ q1 (nfr b u e)
  refine wpAny_leaves_madeW (s := { s1 with heap := h' }) (base := PySem.W.hideAll s1.heap (frs (cxOf (CXe P w) cm P w K mg base N qual scope f cd A outer s H E).stack)) (h := s1.heap) I.ok.frames rfl (fun b o z => PySem.W.of_hideAll _ z) (PySem.W.funFrames_hide I.stack fun env he b hb => List.mem_filterMap.mpr ⟨env, he, hb⟩) mx fun h2 t fl tup ht up => ?_
  obtain ⟨u1, o1, b1, t1, r1⟩ := lies_of I rfl rfl (Un.kept mx.keeps) ok1 old (fun b o e hb => ⟨o, PySem.W.hideAll_get _ e hb⟩) tr fl.1 up
  refine ⟨e, t, C, H1, _, rfl, I.os, I.bare, u1, o1, fl, b1, t1, r1, ?_, ?_, q⟩
  · cases z : H1 e with
    | none => rfl
    | some v =>
      obtain ⟨o', e'⟩ := I.hok.there z
      have := mx.new
      rw [e'] at this
      cases this
  · cases z : s.heap.get? e with
    | none => rfl
    | some o =>
      obtain ⟨o', e'⟩ := I.base.there e o z (fun q => nomatch q)
      have := mx.new
      rw [e'] at this
      cases this
theorem passes_def : Passes (CXe P w) (cxOf (CXe P w) cm P w K mg base N qual scope f cd A outer s H E) E := by
  intro pins σ H1 s1 e s' I c
  obtain ⟨ea, t, C, H', B, rfl, os, bare, u, ok, fl, oldB, thB, trB, n1, n2, q⟩ := c
  refine wpAny_leaves_onW (s := s') I.ok.frames rfl fl fun h2 fl' up => ?_
  obtain ⟨u1, o1, b1, t1, r1⟩ := lies_of I rfl rfl u ok oldB thB trB fl'.1 up
  refine ⟨ea, t, C, H', B, rfl, os.trans I.os, bare, u1, o1, fl', b1, t1, r1, n1, ?_, q⟩
  cases z : s.heap.get? ea with
  | none => rfl
  | some o =>
    obtain ⟨o', e'⟩ := I.base.there ea o z (fun q => nomatch q)
    rw [n2] at e'
    cases e'

/-- a def from which exceptions may leave -/
theorem Fun.okE {x : Str} {st : Stmt} {f : Addr} {fd : FuncData} {N ps : List Str} {k : Nat} {sp : Sp} (F : Fun K x qual st f fd) (S : FnScope N ps (defScope st)) (len : ∀ vs H Q E, sp vs H Q E → vs.length = ps.length)
    (hbody : ∀ (cdv : Value) (A : Around) (outer : List Env) (s : Shared) (H : Hp) (vs : List V) (Q : VK) (E : XK), Room cm k (A.deeper (envOfC qual (defScope st) s.heap.objs.size f cdv)) → sp vs H Q E →
      ∃ t, PSs (cxOf (CXe P w) cm P w K mg base N qual (defScope st) f cdv A outer s H E) (defBody st) t ∧ t { nx := fun _ H' => Q .non H', rt := Q } (start N vs) H) : FnOk P w K mg base (CXe P w) cm (k + 1) f fd ps sp := by
  obtain ⟨oc, od, kV, doc, pm, an, cdv, ct, osl, rfl, lk, hcd⟩ := F.ex
  exact fn_of lk hcd S len fun A outer s H vs Q E hr h => hbody cdv A outer s H vs Q E hr h
end

section
variable {X : Cx} {E : XK} {x : Str} {C : Addr} {np cpos pos : Pos} {e0 : Expr} {es : List Expr} {t : TA}
/-- raise C(..), C an own class under ValueError -/
theorem ps_raise (R : Raises X E) (hc : X.calm = true) (hg : Gl X x) (hm : X.mg x = some (.ref C)) (q : PySem.W.excIn X.K C vE "ValueError.__new__" = true) (ha : PA X (e0 :: es) t)
    (he : starEach (e0 :: es) X.env = (false, eval e0 X.env) :: starEach es X.env := by rfl) (hpl : (backTo cpos (starEach es X.env)).any (·.1) = false := by rfl) (hd : (x == ("__debug__" : Str)) = false := by decide) :
    PS X (.Raise (some (.Call (.Name x np) (e0 :: es) [] cpos)) none pos) (fun _ σ H => t σ H fun vs H1 => vs.length ≤ sizeLine ∧ E (.ref C) none H1) := by
  intro pins s σ H D I h
  obtain ⟨bm, N, nm, qn, bs, hdc, sn, sub, ab, col, dd, k0, k1, k2, k3, k5, mN, hC, hN, hni, TL⟩ := exc_obj I.mod.kin q
  refine wpAny_Raise_call_subT (C := C) (nm := nm) (q := qn) (N := N) (bs := bs) (bm := bm) (hdct := hdc) (sn := sn) (sub := sub) (ab := ab) (col := col) (dd := dd) (k0 := k0) (k1 := k1) (k2 := k2) (k3 := k3) (k5 := k5)
    PySem.F.excBase_ValueError (mN := mN) (TL.hasType PySem.F.excBase_ValueError.hasBase) (I.ok.hd hc) (by rw [he]; show (false || (backTo cpos (starEach es X.env)).any (·.1)) = false; rw [hpl]; rfl) hni (ld_glob I hg hm ⟨rfl, ?_⟩ hd)
  have w1 := ha cpos pins s σ H _ I h
  rw [he] at w1 ⊢
  exact Calls.evalArgs_plain (thn w1 fun us s1 ⟨vs, H1, I1, r1, z, q1⟩ => ⟨rfl, by rw [← r1.length]; exact z, I1.bk _ _ hC, hN.keeps I1.bk, TL.keeps I1.bk, fun h' e mx => R pins σ H1 s1 e C h' us I1 mx q1⟩)
end

/-! ### try, except C: .. -/
/-- a handler's suite: an exception is being handled -/
def Cx.hnd (X : Cx) (e : Value) : Cx := { X with A := X.A.mark (some e), calm := false, xe := fun _ _ => False }
theorem Inv.hnd {X : Cx} {pins : List (Addr × Obj)} {σ : St} {H : Hp} {s : Shared} (I : Inv X pins σ H s) (e : Value) : Inv (X.hnd e) pins σ H s :=
  ⟨⟨I.ok.mod, I.ok.kind, I.ok.glob, I.ok.blt, I.ok.above, I.ok.inj, I.ok.has, I.ok.cab, (fun z => nomatch z), I.ok.frames, I.ok.stk, I.ok.exf, I.ok.bs, I.ok.bsz, I.ok.noex, I.ok.exfs, I.ok.funs, I.ok.frf⟩,
    I.os, I.bare, I.base, I.loc, I.cell, I.free, I.freeC, I.pin, I.hok, I.len⟩
theorem Inv.unhnd {X : Cx} {pins : List (Addr × Obj)} {σ : St} {H : Hp} {s : Shared} {e : Value} (ok : X.Ok) (I : Inv (X.hnd e) pins σ H s) : Inv X pins σ H s :=
  ⟨ok, I.os, I.bare, I.base, I.loc, I.cell, I.free, I.freeC, I.pin, I.hok, I.len⟩
end L2

namespace L2
open PySem PySem.Spec PyProof.Rows

/-- an exception of a callee reaches what this body wants, the names as they stand at the call -/
def PassesAt (CX : CXT) (X : Cx) (σ : St) (E : XK) : Prop := ∀ (pins : List (Addr × Obj)) (H : Hp) (s : Shared) (e : Value) (s' : Shared), Inv X pins σ H s → CX X.stack H s E e s' → X.xe e s'
section
variable {X : Cx} {CX : CXT} {cm : Bool} {k : Nat} {f : Addr} {fd : FuncData} {ps : List Str} {sp : Sp} {dvs : List V} {ds : List Value} {E : St → XK} {x : Str} {p pos : Pos} {e : Expr} {es : List Expr} {t : TA}
end

/-- the handler's class, of the text -/
structure Catch (K : PySem.W.Frag) (Cc : Addr) : Prop where
  ty : PySem.W.typeIn K (.ref Cc) = some (.type "type")
  mb : PySem.W.mroIn K Cc (.type "BaseException") = some true
theorem Catch.cls {K : PySem.W.Frag} {Cc : Addr} (c : Catch K Cc) : ∃ cd, PySem.W.clsIn K Cc = some cd := by
  obtain ⟨cd, a, _⟩ := Option.bind_eq_some_iff.mp c.mb
  exact ⟨cd, a⟩
theorem excMatches_in {K : PySem.W.Frag} {prog : Program} {w : World} {A : Around} {E : Value → Shared → Prop} {s : Shared} {Q : Bool → Shared → Prop} {e Cc C : Addr} {oe : Obj} (X : K.In s.heap) (he : s.heap.get? e = some oe) (hc : oe.cls = .ref C)
    (ct : Catch K Cc) (ms : PySem.W.mroIn K C (.ref Cc) = some true) (q : Q true s) : wpAny (model prog w) A (excMatches (.ref e) (.ref Cc)) Q E s := by
  obtain ⟨cd, hcd⟩ := ct.cls
  have L3 := PySem.W.looks_mroIn (M := model prog w) X ct.mb
  have L4 := PySem.W.looks_mroIn (M := model prog w) X ms
  have same : ∀ b o, s.heap.get? b = some o → s.heap.get? b = some o := fun _ _ z => z
  have f := tc_notTuple
  unfold PySem.W.clsIn at hcd
  split at hcd
  case h_2 => cases hcd
  case h_1 a1 a2 a3 a4 lk =>
    have ho := X _ _ lk
    have ty : Option.map (fun o : Obj => o.cls) (K.lookup Cc) = some (.type "type") := ct.ty
    rw [lk] at ty
    have ty' : a1 = .type "type" := Option.some.inj ty
    subst ty'
    obtain ⟨hp, g, d, tk, os⟩ := s
    have M3 : ∀ (A : Around) (Q : Bool → Shared → Prop) (E : Value → Shared → Prop), Q true ⟨hp, g, d, tk, os⟩ → wpAny (model prog w) A (isSubtype (.ref Cc) (.type "BaseException")) Q E ⟨hp, g, d, tk, os⟩ := fun A Q E z => L3 A Q E _ same z
    have M4 : ∀ (A : Around) (Q : Bool → Shared → Prop) (E : Value → Shared → Prop), Q true ⟨hp, g, d, tk, os⟩ → wpAny (model prog w) A (isSubtype (.ref C) (.ref Cc)) Q E ⟨hp, g, d, tk, os⟩ := fun A Q E z => L4 A Q E _ same z
    unfold excMatches
    repeat (first | (with_reducible refine wpAny_loadPart_at he ?_; rw [hc]) | with_reducible refine wpAny_loadPart_at ho ?_ | with_reducible refine M3 _ _ _ ?_ | with_reducible refine M4 _ _ _ ?_ | wp_step)
    exact q

/-- what a try's body runs in: its own wish about exceptions; the pins are borne by every state -/
def Cx.tryx (X : Cx) (pins : List (Addr × Obj)) (Eb : Value → Shared → Prop) : Cx := { X with pn := X.pn ++ pins, xe := Eb }
section
variable {X : Cx} {pins pins' : List (Addr × Obj)} {σ : St} {H H' : Hp} {s : Shared} {Eb : Value → Shared → Prop} {h h2 B : Heap}
theorem Inv.tryx (I : Inv X pins σ H s) (Eb : Value → Shared → Prop) : Inv (X.tryx pins Eb) [] σ H s :=
  ⟨⟨I.ok.mod, I.ok.kind, I.ok.glob, I.ok.blt, I.ok.above, I.ok.inj, I.ok.has, I.ok.cab, I.ok.hd, I.ok.frames, I.ok.stk, I.ok.exf, I.ok.bs, I.ok.bsz, I.ok.noex, I.ok.exfs, I.ok.funs, I.ok.frf⟩,
    I.os, I.bare, I.base, I.loc, I.cell, I.free, I.freeC, (fun p hp => I.pin p (by simpa [Cx.tryx] using hp)), I.hok, I.len⟩
theorem Inv.untryx (ok : X.Ok) (I : Inv (X.tryx pins Eb) pins' σ H s) : Inv X pins σ H s :=
  ⟨ok, I.os, I.bare, I.base, I.loc, I.cell, I.free, I.freeC, (fun p hp => I.pin p (List.mem_append_left _ hp)), I.hok, I.len⟩
/-- an exception has landed: the frame as it stood at the call -/
theorem Inv.landed (I : Inv X pins σ H s) {s' : Shared} (os : s'.os = s.os) (bare : AllBare s'.gens) (u : Un (frs X.stack) [] H H' s.heap s'.heap) (ok : HOk X.prog X.w H' s'.heap)
    (oldB : ∀ b o, s.heap.get? b = some o → H b = none → b ∉ frs X.stack → B.get? b = some o) (thB : ∀ b o, s.heap.get? b = some o → b ∉ frs X.stack → ∃ o', B.get? b = some o')
    (trB : ∀ b u o, H' b = some u → s'.heap.get? b = some o → B.get? b = some o) (st : B.StaysIn h2) (up : s'.heap.UpToSlots h2) : Inv X pins σ H' { s' with heap := h2 } := by
  have sl : ∀ b o, s.heap.get? b = some o → H b = none → b ∈ frs X.stack → ∃ sl, h2.get? b = some { o with slots := sl } := fun b o e n hb => by
    obtain ⟨s2, e2⟩ := u.slot b o e n hb (by simp)
    obtain ⟨_, o', e', nf⟩ := I.stack.mem hb
    rw [e] at e'
    cases e'
    obtain ⟨s3, e3⟩ := up b _ e2 nf
    exact ⟨s3, e3⟩
  refine I.call' (s' := { s' with heap := h2 }) (ch := []) os ⟨fun b o e n hb _ => st b o (oldB b o e n hb), fun b o e n hb _ => sl b o e n hb, u.free, fun b o e _ => ?_, u.tups, u.frzs, u.tbls⟩ (ok.tracked fun b v o e q => st b o (trB b v o e q)) bare (fun b z => nomatch z)
  by_cases hb : b ∈ frs X.stack
  · obtain ⟨s1, e1⟩ := sl b o e (I.stkFree b hb) hb
    exact ⟨_, e1⟩
  · obtain ⟨o', e'⟩ := thB b o e hb
    exact ⟨o', st b o' e'⟩
end

end L2

namespace L2
open PySem PySem.Spec PyProof.Rows
section
variable {X : Cx}
/-- t[lo:hi] of a text -/
theorem sl_str : SlR X (fun x lo hi H Q => ∃ z, x = .str z ∧ z.length ≤ sizeLine ∧ Q (.str (Txt.slice z lo hi)) H) := by
  intro pins s σ H x v vl vu lo hi sl Q I rx hs pl pu h
  obtain ⟨z, rfl, hz, q⟩ := h
  obtain ⟨t, rfl⟩ := rx
  refine ⟨"str", _, F.slot_str_getitem.lookup, typeIs_str _ _ _, ?_⟩
  cases pl with
  | none =>
    cases pu with
    | none => exact wpAny_getItem_str_slice (l := none) (u := none) (st := none) hs rfl (post_val_or_str ⟨Nat.le_trans (Txt.slice_le z _ _) hz, fun t' k => ⟨.str _, H, I.tok _, ⟨_, rfl⟩, q⟩⟩)
    | int j uj => exact wpAny_getItem_str_slice (l := none) (u := some (j, uj)) (st := none) hs rfl (post_val_or_str ⟨Nat.le_trans (Txt.slice_le z _ _) hz, fun t' k => ⟨.str _, H, I.tok _, ⟨_, rfl⟩, q⟩⟩)
  | int i ui =>
    cases pu with
    | none => exact wpAny_getItem_str_slice (l := some (i, ui)) (u := none) (st := none) hs rfl (post_val_or_str ⟨Nat.le_trans (Txt.slice_le z _ _) hz, fun t' k => ⟨.str _, H, I.tok _, ⟨_, rfl⟩, q⟩⟩)
    | int j uj => exact wpAny_getItem_str_slice (l := some (i, ui)) (u := some (j, uj)) (st := none) hs rfl (post_val_or_str ⟨Nat.le_trans (Txt.slice_le z _ _) hz, fun t' k => ⟨.str _, H, I.tok _, ⟨_, rfl⟩, q⟩⟩)
/-- int(text) -/
theorem call_int_str : CallR X (.type "int") (fun xs H Q => ∃ z n, xs = [.str z] ∧ z.length ≤ 640 ∧ PySem.intText? z = some n ∧ Q (.int n) H) := by
  intro pins s σ H xs us Q I r h
  obtain ⟨z, n, rfl, hl, hn, q⟩ := h
  obtain ⟨u, rfl, ru⟩ := r.one
  obtain ⟨t, rfl⟩ := ru
  exact PySem.W.KIN.call_text hn hl ⟨.int n, H, I.tok _, ⟨_, rfl⟩, q⟩
/-- t.zfill(n) -/
theorem mt_zfill : MtR X "str.zfill" (fun x xs H Q => ∃ z i, x = .str z ∧ xs = [.int i] ∧ PadOk i = true ∧ Q (.str (Txt.zfill z i)) H) := by
  intro pins s σ H x xs v us Q I rx r h
  obtain ⟨z, i, rfl, rfl, hp, q⟩ := h
  obtain ⟨t, rfl⟩ := rx
  obtain ⟨u, rfl, ru⟩ := r.one
  obtain ⟨t', rfl⟩ := ru
  refine call_meets F.slot_str_zfill (typeIs_str _ _ _) F.entry_str_zfill (F.args_str_zfill_2 _ _) (gives_str_zfill z i t t' (PadOk.parts hp).1 (PadOk.parts hp).2).meets ?_
  exact post_val_or_made (fits_zfilled (PadOk.parts hp).2) fun t' k => ⟨.str _, H, I.tok _, ⟨_, rfl⟩, q⟩
/-! ### f-strings of texts -/
abbrev TJ := St → Hp → Str → (Str → Hp → Prop) → Prop
def PJ (X : Cx) (es : List Expr) (t : TJ) : Prop :=
  ∀ (pins : List (Addr × Obj)) (s : Shared) (σ : St) (H : Hp) (out : Str) (Q : Str → Hp → Prop), Inv X pins σ H s → t σ H out Q →
    wpAny (model X.prog X.w) X.A (joinParts out (evalEach es X.env)) (EP X pins σ fun v H' => ∃ y, v = .str y ∧ Q y H') X.xe s
def jNil : TJ := fun _ H out Q => out.length ≤ sizeLine ∧ Q out H
def jVal (te : TE) (tr : TJ) : TJ := fun σ H out Q => te σ H fun v H1 => ∃ y, v = .str y ∧ y.length ≤ sizeLine ∧ (out ++ y).length ≤ sizeLine ∧ tr σ H1 (out ++ y) Q
def jStr (x : Str) (tr : TJ) : TJ := fun σ H out Q => (out ++ x).length ≤ sizeLine ∧ tr σ H (out ++ x) Q
theorem pj_nil : PJ X [] jNil := fun pins s σ H out Q I h => joinParts_nil ⟨.str out, H, I.tok _, ⟨_, rfl⟩, out, rfl, h.2⟩ h.1
theorem pj_val {value : Expr} {es : List Expr} {te : TE} {tr : TJ} {pos : Pos} (he : PE X value te) (hr : PJ X es tr) : PJ X (.FormattedValue value (-1) none pos :: es) (jVal te tr) := by
  intro pins s σ H out Q I h
  refine joinParts_cons (FormattedValue_plain (thn (he pins s σ H _ I h) fun v s1 ⟨x, H1, I1, r1, y, e, hz, hz2, q⟩ => ?_))
  subst e
  obtain ⟨t, rfl⟩ := r1
  exact formatField_str (fun t' tk => ⟨hz2, hr pins _ σ H1 _ Q (I1.tok tk) q⟩) hz
theorem pj_str {x : Str} {j : Nat} {es : List Expr} {tr : TJ} {pos : Pos} (hr : PJ X es tr) : PJ X (.Constant (.str x) j pos :: es) (jStr x tr) := by
  intro pins s σ H out Q I h
  refine joinParts_cons (Calls.Constant_str ?_)
  exact ⟨h.1, hr pins _ σ H _ Q (I.tok _) h.2⟩
def tJoin (t : TJ) : TE := fun σ H Q => t σ H Str.empty fun y H' => Q (.str y) H'
theorem pe_join {a b : Expr} {es : List Expr} {t : TJ} {pos : Pos} (h : PJ X (a :: b :: es) t) : PE X (.JoinedStr (a :: b :: es) pos) (tJoin t) := by
  intro pins s σ H Q I hq
  refine JoinedStr_many (thn (h pins s σ H _ _ I hq) fun u s1 ⟨v, H1, I1, r1, y, e, q⟩ => ?_)
  subst e
  exact ⟨_, H1, I1, r1, q⟩
end
end L2

namespace L2
open PySem PySem.Spec PyProof.Rows
section
variable {X : Cx}
end
end L2

namespace L2
open PySem PySem.Spec PySem.Calls PyProof.Rows Builtin Builtin.ObjectAttr Builtin.Getset_descriptor

/-! ### isinstance of an exception of an own class -/
/-- what the text tells of an own error class -/
structure ExC (K : PySem.W.Frag) (C : Addr) : Prop where
  cs : (PySem.W.clsIn K C).isSome = true
  ga : PySem.W.findIn K (.ref C) "__getattribute__" = some (some (.builtin "BaseException.__getattribute__"))
  gn : PySem.W.findIn K (.ref C) "__getattr__" = some none
  ca : PySem.W.findIn K (.ref C) "__class__" = some (some (.builtin "object.__class__"))
  sg : PySem.W.specialIn K (.builtin "object.__class__") "__get__" = some (some (.builtin "getset_descriptor.__get__"))
  tk : PySem.W.takesIn K (.builtin "object.__class__") = some true
  mo : PySem.W.mroIn K C (.type "object") = some true
  mb : PySem.W.mroIn K C (.type "BaseException") = some true

def ExcAt (e C : Addr) (h : Heap) : Prop := ∃ oe, h.get? e = some oe ∧ oe.cls = .ref C
theorem ExcAt.type {M : Model} {e C : Addr} {h : Heap} (p : ExcAt e C h) : PySem.W.Looks M h (typeOf (.ref e)) (.ref C) := by
  obtain ⟨oe, a, b⟩ := p
  exact b ▸ (PySem.W.Looks.ld a).andThen .now

section
variable {prog : Program} {w : World} {K : PySem.W.Frag} {e C : Addr}
/-- object.__class__ of an exception -/
theorem exc_cls_get {A : Around} {R : Result → Shared → Prop} {tp : Value} {s : Shared} (X : K.In s.heap) (p : ExcAt e C s.heap) (mo : PySem.W.mroIn K C (.type "object") = some true)
    (z : R (.ok (.ret (.ref C))) s) : codeAny (model prog w) A (.call (.builtin "getset_descriptor.__get__") ⟨[.builtin "object.__class__", .ref e, tp], []⟩) R s := by
  obtain ⟨h0, g0, d0, t0, o0⟩ := s
  have K0 := p.type (M := model prog w)
  have K1 := PySem.W.looks_mroIn (M := model prog w) X mo
  refine codeAny_call_builtin PySem.W.KF.slot_gs.plain PySem.W.KF.entry_gs ?_
  refine PySem.W.KF.slot_gs.check _ _ _ _ _ _ _ _ PySem.W.KF.type_class (PySem.W.KF.args_gs _ _ _) ?_
  unfold Builtin.«getset_descriptor.__get__»
  unfold descrGet
  rw [PySem.W.dga_obj]
  refine wpAny_bind ?_
  refine wpAny_pure ?_
  unfold descrGetter descrCheckInstance
  unfold descrNameAndClass isInstance
  simp only [PySem.W.KF.owner_class]
  repeat lk
  refine ⟨Code.quiet_builtin _ (by decide +kernel), ?_⟩
  refine codeAny_builtin PySem.W.KF.entry_class ?_
  unfold Builtin.«object.__class__»
  unfold shownTypeOf
  repeat lk
  exact z
theorem exc_check {A : Around} {M : Model} {E : Value → Shared → Prop} {nameV : Value} {Q : Unit → Shared → Prop} {s : Shared} (X : K.In s.heap) (p : ExcAt e C s.heap) (c : ExC K C) (z : Q () s) :
    wpAny M A (checkBuiltinCall "BaseException.__getattribute__" ⟨[.ref e, nameV], []⟩) Q E s := by
  obtain ⟨h0, g0, d0, t0, o0⟩ := s
  have k1 : builtinKind "BaseException.__getattribute__" = some .slot := by decide +kernel
  have k2 : splitId "BaseException.__getattribute__" = some ("BaseException", "__getattribute__") := by decide +kernel
  have k3 := PySem.F.args_bexc_ga (.ref e) nameV
  have KI : PySem.W.Looks M h0 (isInstance (.ref e) (.type "BaseException")) true := p.type.andThen (PySem.W.looks_mroIn X c.mb)
  simp only [checkBuiltinCall, k1, k2]
  refine wpAny_bind ?_
  repeat (first | with_reducible refine KI.at ?_ | wp_step)
  exact z
theorem exc_entry {A : Around} {E : Value → Shared → Prop} {tk : Tok} {Q : Fin → Shared → Prop} {s : Shared} (X : K.In s.heap) (p : ExcAt e C s.heap) (c : ExC K C) (z : Q (.done (.ret (.ref C))) s) :
    wpAny (model prog w) A (Builtin.«object.__getattribute__» ⟨[.ref e, .str "__class__" tk], []⟩) Q E s := by
  obtain ⟨h0, g0, d0, t0, o0⟩ := s
  have K0 := p.type (M := model prog w)
  have K3 := PySem.W.looks_findIn (M := model prog w) X c.ca
  have K4 := PySem.W.looks_specialIn (M := model prog w) X c.sg
  have K5 := PySem.W.looks_takesIn (M := model prog w) X c.tk
  have KF : PySem.W.Looks (model prog w) h0 (find (.ref e) (.ref C) "__class__") (.bind (.builtin "getset_descriptor.__get__") (.builtin "object.__class__")) :=
    K3.andThen (PySem.W.Looks.andThen (a := some (Value.builtin "getset_descriptor.__get__")) (show PySem.W.Looks (model prog w) h0 (getOf (some (.builtin "object.__class__"))) _ from K4)
      (PySem.W.Looks.andThen (a := some (Value.builtin "getset_descriptor.__get__", Value.builtin "object.__class__")) (show PySem.W.Looks (model prog w) h0 (dataDescriptor? (some (.builtin "object.__class__")) (some (.builtin "getset_descriptor.__get__"))) _ from K5.andThen .now) (PySem.W.Looks.tag .now)))
  repeat (first | with_reducible refine K0.at ?_ | with_reducible refine KF.at ?_ | wp_step)
  exact exc_cls_get (s := ⟨h0, g0, d0, t0, o0⟩) X p c.mo (wpAny_pure z)
theorem exc_cls {A : Around} {E : Value → Shared → Prop} {Q : Option Value → Shared → Prop} {s : Shared} (X : K.In s.heap) (p : ExcAt e C s.heap) (c : ExC K C) (z : Q (some (.ref C)) { s with toks := s.toks + 1 }) :
    wpAny (model prog w) A (getAttr? (.ref e) "__class__") Q E s := by
  obtain ⟨h0, g0, d0, t0, o0⟩ := s
  have K0 := p.type (M := model prog w)
  have K1 := PySem.W.looks_findIn (M := model prog w) X c.ga
  have K2 := PySem.W.looks_findIn (M := model prog w) X c.gn
  unfold getAttr? getAttrBy?
  unfold getAttrBy
  refine wpAny_bind (wpAny_mkText ?_)
  refine wpAny_bind (wpAny_attempt (wpAny_holding ?_))
  refine wpAny_bind (K0.at ?_)
  refine wpAny_bind (K1.at ?_)
  have n1 : (onTheHeap (Value.ref C) && Value.builtin "BaseException.__getattribute__" == Value.builtin "object.__getattribute__") = false := by
    rw [show (Value.builtin "BaseException.__getattribute__" == Value.builtin "object.__getattribute__") = false by decide +kernel, Bool.and_false]
  dsimp only
  rw [if_neg (by rw [n1]; exact Bool.false_ne_true)]
  unfold getAttrByItsOwn hookBefore
  refine wpAny_bind ?_
  rw [if_pos (show onTheHeap (Value.ref C) = true from rfl)]
  refine K2.at ?_
  refine wpAny_bind (wpAny_attempt (wpAny_holding ?_))
  unfold callGetattribute
  rw [if_neg (by rw [Bool.false_and]; exact Bool.false_ne_true)]
  unfold boundAndCalled
  rw [PySem.F.attrBase_ValueError.ga.bind (.ref e)]
  refine wpAny_bind (wpAny_pure ?_)
  refine wpAny_call ?_
  refine codeAny_call_builtin PySem.F.attrBase_ValueError.ga.plain PySem.F.entry_bexc_ga ?_
  refine exc_check (s := ⟨h0, g0, d0, t0 + 1, o0⟩) X p c ?_
  refine exc_entry (s := ⟨h0, g0, d0, t0 + 1, o0⟩) X p c ?_
  repeat (any_goals (first | exact z | wp_step))
theorem exc_kit (c : ExC K C) : PySem.W.KitX K (.ref e) (.ref C) (ExcAt e C) := by
  obtain ⟨cd, hcd⟩ := Option.isSome_iff_exists.mp c.cs
  have cls : ∃ c1 d1 e1 f1, K.lookup C = some ⟨c1, d1, .cls e1, f1⟩ := by
    unfold PySem.W.clsIn at hcd
    split at hcd
    · exact ⟨_, _, _, _, by assumption⟩
    · cases hcd
  obtain ⟨c1, d1, e1, f1, lk⟩ := cls
  refine ⟨fun _ _ _ p => p.type, fun M h X _ => ?_, fun h tp dd its n sl X htp => ?_, fun X p k => exc_cls X p c k⟩
  · intro A' Q' E' s' k q
    unfold isType
    unfold loadHead
    exact wpAny_bind (wpAny_loadPart (k _ _ (X _ _ lk)) (wpAny_pure q))
  · refine Bool.eq_false_iff.mpr fun q => ?_
    have e2 : C = tp := Value.ref.inj (beq_iff_eq.mp q)
    subst e2
    rw [X _ _ lk] at htp
    cases htp
end

/-- an exception that is known by its class -/
def exo (e C : Addr) : HO := .ext (ExcAt e C)
section
variable {X : Cx}
theorem isi_exc {pins : List (Addr × Obj)} {σ : St} {H : Hp} {s : Shared} {e C : Addr} {c : Value} {b : Bool} {Q : VK} (I : Inv X pins σ H s) (he : H e = some (exo e C)) (x : ExC X.K C) (k : PySem.W.kitOne X.K (.ref C) c = some b) (q : Q (.bl b) H) :
    wpAny (model X.prog X.w) X.A (call (.builtin "isinstance") [.ref e, c]) (EP X pins σ Q) X.xe s := by
  have p : ExcAt e C s.heap := (I.hok e _ he).1
  exact PySem.W.kia_one (exc_kit x) I.kIn p k (fun z => nomatch z) fun tk => ⟨.bl b, H, I.tok tk, rfl, q⟩
/-- isinstance(e, D), D an own class; isinstance(e, T), T a built-in one -/
theorem call_isiE : CallR X (.builtin "isinstance") (fun xs H Q => ∃ (e C : Addr) (d : V) (c : Value) (b : Bool), xs = [.ref e, d] ∧ H e = some (exo e C) ∧ ExC X.K C ∧ ((∃ D, d = .ref D ∧ c = .ref D) ∨ ∃ T, d = .ty T ∧ c = .type T) ∧ PySem.W.kitOne X.K (.ref C) c = some b ∧ Q (.bl b) H) := by
  intro pins s σ H xs us Q I r h
  obtain ⟨e, C, d, c, b, rfl, he, x, hc, k, q⟩ := h
  obtain ⟨u, v, rfl, ru, rv⟩ := r.two
  cases ru
  rcases hc with ⟨D, rfl, rfl⟩ | ⟨T, rfl, rfl⟩
  · cases rv; exact isi_exc I he x k q
  · cases rv; exact isi_exc I he x k q
end

/-! ### except C as e -/
theorem Room.mark {cm : Bool} {k : Nat} {A : Around} (r : Room cm k A) (v : Option Value) : Room false k (A.mark v) := ⟨(fun z => nomatch z), r.dp, r.un⟩
section
variable {X : Cx} {pins pins' : List (Addr × Obj)} {σ : St} {H H' : Hp} {s : Shared} {h h2 B : Heap} {ea C : Addr}
/-- an exception has landed, and is known -/
theorem Inv.landedX (I : Inv X pins σ H s) {s' : Shared} (os : s'.os = s.os) (bare : AllBare s'.gens) (u : Un (frs X.stack) [] H H' s.heap s'.heap) (ok : HOk X.prog X.w H' s'.heap)
    (oldB : ∀ b o, s.heap.get? b = some o → H b = none → b ∉ frs X.stack → B.get? b = some o) (thB : ∀ b o, s.heap.get? b = some o → b ∉ frs X.stack → ∃ o', B.get? b = some o')
    (trB : ∀ b u o, H' b = some u → s'.heap.get? b = some o → B.get? b = some o) (st : B.StaysIn h2) (up : s'.heap.UpToSlots h2) (n1 : H' ea = none) (n2 : s.heap.get? ea = none) (at2 : ExcAt ea C h2) :
    Inv X pins σ (upd H' ea (exo ea C)) { s' with heap := h2 } := by
  have sl : ∀ b o, s.heap.get? b = some o → H b = none → b ∈ frs X.stack → ∃ sl, h2.get? b = some { o with slots := sl } := fun b o e n hb => by
    obtain ⟨s2, e2⟩ := u.slot b o e n hb (by simp)
    obtain ⟨_, o', e', nf⟩ := I.stack.mem hb
    rw [e] at e'
    cases e'
    obtain ⟨s3, e3⟩ := up b _ e2 nf
    exact ⟨s3, e3⟩
  have ne1 : ∀ b o, s.heap.get? b = some o → b ≠ ea := fun b o e z => by rw [z, n2] at e; cases e
  have ne2 : ∀ b o, H b = some o → b ≠ ea := fun b o e => by
    obtain ⟨o', e'⟩ := I.hok.there e
    exact ne1 b o' e'
  have ne3 : ∀ b o, H' b = some o → b ≠ ea := fun b o e z => by rw [z, n1] at e; cases e
  have ok2 : HOk X.prog X.w H' h2 := ok.tracked fun b v o e q => st b o (trB b v o e q)
  have ok3 : HOk X.prog X.w (upd H' ea (exo ea C)) h2 := fun b o e => by
    by_cases hb : b = ea
    · subst hb
      rw [upd_same] at e
      cases e
      obtain ⟨ob, e1, e2⟩ := id at2
      exact ⟨at2, ⟨ob, e1⟩, fun a1 a2 p k => by obtain ⟨o1, q1, q2⟩ := p; exact ⟨o1, k o1 q1, q2⟩⟩
    · rw [upd_ne hb] at e
      exact (ok2 b o e).stay (fun c w _ q => q) (fun c q => by rw [upd_ne (ne3 c _ q)]; exact q) fun c xs q => by rw [upd_ne (ne3 c _ q)]; exact q
  refine I.call' (s' := { s' with heap := h2 }) (ch := []) os ⟨fun b o e n hb _ => st b o (oldB b o e n hb), fun b o e n hb _ => sl b o e n hb, fun b o e n hb => by rw [upd_ne (ne1 b o e)]; exact u.free b o e n hb, fun b o e _ => ?_, fun b xs e => by rw [upd_ne (ne2 b _ e)]; exact u.tups b xs e,
    fun b o v e => by rw [upd_ne (ne2 b _ e)]; exact u.frzs b o v e, fun b ps e => by rw [upd_ne (ne2 b _ e)]; exact u.tbls b ps e⟩ ok3 bare (fun b z => nomatch z)
  by_cases hb : b ∈ frs X.stack
  · obtain ⟨s1, e1⟩ := sl b o e (I.stkFree b hb) hb
    exact ⟨_, e1⟩
  · obtain ⟨o', e'⟩ := thB b o e hb
    exact ⟨o', st b o' e'⟩
/-- a name goes behind a handler -/
theorem gone_ok {M : Model} {A : Around} {E : Value → Shared → Prop} {i : Nat} {x : Str} {pos : Pos} {Q : Unit → Shared → Prop} (I : Inv X pins σ H s) (hN : X.N.Nodup) (hi : X.N[i]? = some x) (hk : X.env.kindOf x = some .local)
    (h : ∀ s', Inv X pins (σ.set i none) H s' → Q () s') : wpAny M A (do bindName X.env x .none; unbindBehindTheSuite X.env x pos) Q E s := by
  obtain ⟨m, hn, hl⟩ := id I.loc
  have hcls : (X.env.scope.kind == .class || (X.env.scope.kind == .module && X.env.locals != X.env.globals)) = false := by rw [I.ok.kind]; rfl
  refine wpAny_nameGoes_keeps hk hn hcls fun h' v hn' hs => ?_
  have cne := I.cne
  have lne : ∀ b o, X.s₀.heap.get? b = some o → b ≠ X.env.locals := fun b o e => Nat.ne_of_lt (Nat.lt_of_lt_of_le (Heap.lt_size e) I.ok.above)
  have tne : ∀ b o, H b = some o → b ≠ X.env.locals := fun b o e z => by rw [z, I.free] at e; cases e
  refine h _ ⟨I.ok, I.os, I.bare, ⟨fun b o e n hb hx => (hs.2 b (lne b o e)).trans (I.base.keep b o e n hb hx), fun b o e n hb hx => ?_, I.base.free, fun b o e hx => ?_, I.base.tups, I.base.frzs, I.base.tbls⟩,
    ⟨_, hn', fun j y v' e1 e2 e3 => ?_⟩, fun y c e => ?_, I.free, I.freeC, fun p hp => ?_, fun b ob e => ?_, by simpa using I.len⟩
  · obtain ⟨sl, e1⟩ := I.base.slot b o e n hb hx
    exact ⟨sl, (hs.2 b (lne b o e)).trans e1⟩
  · obtain ⟨o', e1⟩ := I.base.there b o e hx
    exact ⟨o', (hs.2 b (lne b o e)).trans e1⟩
  · by_cases hj : j = i
    · subst hj
      have hiσ : j < σ.length := by rw [I.len]; exact (List.getElem?_eq_some_iff.mp hi).1
      rw [List.getElem?_set_self hiσ] at e2
      cases e2
    · rw [List.getElem?_set_ne (Ne.symm hj)] at e2
      obtain ⟨u', r', q⟩ := hl j y v' e1 e2 e3
      refine ⟨u', r', ?_⟩
      rcases q with ⟨k, e⟩ | ⟨k, c, e, z⟩
      · have ny : y ≠ x := fun e => hj (nodup_ix hN e1 (e ▸ hi))
        exact .inl ⟨k, by show (if y = x then v else m y) = some u'; rw [if_neg ny]; exact e⟩
      · exact .inr ⟨k, c, e, z.sameBut hs (cne y c e)⟩
  · obtain ⟨w', z⟩ := I.cell y c e
    exact ⟨w', z.sameBut hs (cne y c e)⟩
  · obtain ⟨e, n, ne, nf, d⟩ := I.pin p hp
    exact ⟨(hs.2 p.1 ne).trans e, n, ne, nf, d⟩
  · refine (I.hok b ob e).stay (fun c w' hc q => (hs.2 c ?_).trans q) (fun _ q => q) fun _ _ q => q
    rcases hc with rfl | hc
    · exact tne _ _ e
    · exact tne _ _ hc
end

/-- try: body; except C as e: suite. The exception stands at a new address, its class is known; the name is gone behind the suite -/
def tTryAs (K : PySem.W.Frag) (Cc : Addr) (i : Nat) (tb : (St → XK) → TS) (th : Value → TS) : TS := fun D σ H =>
  tb (fun σ' cls _ H' => ∃ C, cls = .ref C ∧ PySem.W.mroIn K C (.ref Cc) = some true ∧ ∀ e, H' e = none → th (.ref e) { nx := fun σ2 H2 => D.nx (σ2.set i none) H2, rt := D.rt, bk := fun σ2 H2 => D.bk (σ2.set i none) H2, ct := fun σ2 H2 => D.ct (σ2.set i none) H2 }
    (σ'.set i (some (.ref e))) (upd H' e (exo e C))) D σ H
theorem ps_tryAs {X : Cx} {i : Nat} {x n : Str} {Cc : Addr} {np hpos pos : Pos} {body suite : List Stmt} {b0 : Stmt} {tb : (St → XK) → TS} {th : Value → TS} (hg : Gl X x) (hm : X.mg x = some (.ref Cc)) (ct : Catch X.K Cc) (hN : X.N.Nodup) (hi : X.N[i]? = some n) (hk : X.env.kindOf n = some .local) (hl : X.env.scope.names.lookup n = some .local)
    (hb : ∀ (pins : List (Addr × Obj)) (Eb : Value → Shared → Prop) (E : St → XK), (∀ σ, PassesAt (CXe X.prog X.w) (X.tryx pins Eb) σ (E σ)) → PSs (X.tryx pins Eb) body (tb E))
    (hh : ∀ e : Value, PSs (X.hnd e) (b0 :: suite) (th e)) (hst : X.stack = X.env :: X.outer := by rfl) (hf : X.env.frame = some X.env.locals := by rfl) (hd : (x == ("__debug__" : Str)) = false := by decide) :
    PS X (.Try body [.ExceptHandler (some (.Name x np)) (some n) (b0 :: suite) hpos] [] [] pos) (tTryAs X.K Cc i tb th) := by
  intro pins s σ H D I h
  refine wpAny_Try_except ?_
  have pass : ∀ σ', PassesAt (CXe X.prog X.w) (X.tryx pins fun e s₁ => wpAny (model X.prog X.w) X.A (noteFrame e X.env) (fun _ s₂ => wpAny (model X.prog X.w) X.A (setFlight e none) (fun _ s₃ =>
      wpAny (model X.prog X.w) X.A (handleBy e X.env [.ExceptHandler (some (.Name x np)) (some n) (b0 :: suite) hpos]) (SP X pins D) X.xe s₃) X.xe s₂) X.xe s₁) σ' (fun cls _ H' => ∃ C, cls = .ref C ∧ PySem.W.mroIn X.K C (.ref Cc) = some true ∧
        ∀ e, H' e = none → th (.ref e) { nx := fun σ2 H2 => D.nx (σ2.set i none) H2, rt := D.rt, bk := fun σ2 H2 => D.bk (σ2.set i none) H2, ct := fun σ2 H2 => D.ct (σ2.set i none) H2 } (σ'.set i (some (.ref e))) (upd H' e (exo e C))) := by
    intro σ' pins' H1 s1 ev s2 I1 c
    obtain ⟨ea, t, C, H', B, rfl, os, bare, u, ok, fl, oldB, thB, trB, n1, n2, C', eC, ms, q⟩ := c
    cases eC
    have J1 : Inv X pins σ' H1 s1 := I1.untryx I.ok
    have hfr : X.A.frames = some (X.env :: X.outer) := by rw [← hst]; exact I.ok.frames
    have fl' : Heap.FlyingW B (X.env :: X.outer) ea (.ref C) (.ref t) s2.heap := by rw [← hst]; exact fl
    refine wpAny_looks_onW (s := s2) hfr hf fl' fun h4 held up4 => ?_
    refine wpAny_landsW (s := { s2 with heap := h4 }) held fun h5 fl5 up5 => ?_
    have J5 : Inv X pins σ' H' { s2 with heap := h5 } := J1.landed os bare u ok oldB thB trB fl5.1 (up4.trans up5)
    obtain ⟨ob, hob, hobc⟩ := fl5.there
    refine wpAny_handleBy_cons (codeAny_handlers_test (ld_glob (X := X.hnd (.ref ea)) (J5.hnd (.ref ea)) hg hm ?_ hd)) (by intro z; cases z)
    refine excMatches_in J5.kIn hob hobc ct ms (codeAny_handlers_suite_as ?_)
    refine lands_againW (s := { s2 with heap := h5 }) fl5 fun h6 fl6 up6 => ?_
    have J6 : Inv X pins σ' (upd H' ea (exo ea C)) { s2 with heap := h6 } := J1.landedX os bare u ok oldB thB trB fl6.1 ((up4.trans up5).trans up6) n1 n2 (by obtain ⟨o6, a6, b6⟩ := fl6.there; exact ⟨o6, a6, b6⟩)
    refine store_ok (X := X.hnd (.ref ea)) (J6.hnd (.ref ea)) hN hi (.inl hl) (show RelV (.ref ea) (.ref ea) from rfl) (fun s7 I7 => ?_) (.inr hl)
    refine wpAny_mono (hh (.ref ea) pins s7 _ _ _ I7 (q ea n1)) (fun f s8 z => ?_) fun _ _ z => z.elim
    cases f with
    | next => obtain ⟨σ8, H8, I8, q8⟩ := z; exact gone_ok (I8.unhnd I.ok) hN hi hk fun s9 I9 => ⟨_, H8, I9, q8⟩
    | brk => obtain ⟨σ8, H8, I8, q8⟩ := z; exact gone_ok (I8.unhnd I.ok) hN hi hk fun s9 I9 => ⟨_, H8, I9, q8⟩
    | cont => obtain ⟨σ8, H8, I8, q8⟩ := z; exact gone_ok (I8.unhnd I.ok) hN hi hk fun s9 I9 => ⟨_, H8, I9, q8⟩
    | ret v => obtain ⟨v8, σ8, H8, I8, r8, q8⟩ := z; exact gone_ok (I8.unhnd I.ok) hN hi hk fun s9 I9 => ⟨v8, _, H8, I9, r8, q8⟩
  refine wpAny_mono (hb pins _ _ pass [] s σ H D (I.tryx _) h) (fun f s7 z => ?_) fun _ _ z => z
  cases f with
  | next => obtain ⟨σ7, H7, I7, q7⟩ := z; exact wpAny_execs_nil ⟨σ7, H7, I7.untryx I.ok, q7⟩
  | brk => obtain ⟨σ7, H7, I7, q7⟩ := z; exact ⟨σ7, H7, I7.untryx I.ok, q7⟩
  | cont => obtain ⟨σ7, H7, I7, q7⟩ := z; exact ⟨σ7, H7, I7.untryx I.ok, q7⟩
  | ret v => obtain ⟨v7, σ7, H7, I7, r7, q7⟩ := z; exact ⟨v7, σ7, H7, I7.untryx I.ok, r7, q7⟩
end L2

/-! the rules that lean on the text, by its own name (within a comprehension, a try, a handler) -/
namespace L2
open PySem PySem.Spec PyProof.Rows
theorem exc_cs {K : PySem.W.Frag} {C : Addr} {v : Value} (h : PySem.W.mroIn K C v = some true) : (PySem.W.clsIn K C).isSome = true := by
  obtain ⟨cd, a, _⟩ := Option.bind_eq_some_iff.mp h
  rw [a]
  rfl
section
variable {X : Cx} {K : PySem.W.Frag} (hK : X.K = K)
include hK
theorem ix_tupK : IxR X (rIxT K) := by subst hK; exact ix_tup
theorem ix_listK : IxR X (rIxL K) := by subst hK; exact ix_list
theorem sl_listK : SlR X (rSlL K) := by subst hK; exact sl_list
theorem call_len_seqK : CallR X (.builtin "len") (fun xs H Q => ∃ p ys, xs = [.ref p] ∧ (SqL K H p ys ∨ SqT K H p ys) ∧ Q (.int ys.length) H) := by subst hK; exact call_len_seq
theorem call_isinstK : CallR X (.builtin "isinstance") (fun xs H Q => ∃ x T t b, xs = [x, .ty T] ∧ TyOf K H x t ∧ PySem.W.kitOne K t (.type T) = some b ∧ Q (.bl b) H) := by subst hK; exact call_isinst
theorem call_isiEK : CallR X (.builtin "isinstance") (fun xs H Q => ∃ (e C : Addr) (d : V) (c : Value) (b : Bool), xs = [.ref e, d] ∧ H e = some (exo e C) ∧ ExC K C ∧ ((∃ D, d = .ref D ∧ c = .ref D) ∨ ∃ T, d = .ty T ∧ c = .type T) ∧ PySem.W.kitOne K (.ref C) c = some b ∧ Q (.bl b) H) := by
  subst hK; exact call_isiE
theorem call_allK (hc : X.calm = true) : CallR X (.builtin "all") (fun xs H Q => ∃ (p : Addr) (bs : List Bool), xs = [.ref p] ∧ SqL K H p (bs.map V.bl) ∧ Q (.bl (bs.all id)) H) := by subst hK; exact call_all hc
theorem pi_listK {tg l : Expr} {tl : TE} (hl : PE X l tl) : PI X tg l (iList K tl) := by subst hK; exact pi_list hl
end
end L2

set_option maxHeartbeats 1000000
/-! ### split, join -/
namespace L2
open PySem PySem.Spec PySem.Calls PyProof.Rows Builtin Builtin.Str
section
variable {X : Cx}
end
end L2

namespace L2
open PySem PySem.W PyProof.Rows
/-! the sort of the model, its questions answered by keys of an order: what comes out is a rearrangement that rises -/
section
variable {O : KeyOrd} {key : Nat → O.α} {n : Nat} {cmp : Nat → Nat → (Bool → Shared → Prop) → Shared → Prop} {s : Shared}
def ka {O : KeyOrd} (key : Nat → O.α) (p : Array Nat) (i : Nat) : O.α := key (p.getD i 0)
def Up {O : KeyOrd} (key : Nat → O.α) (p : Array Nat) (k : Nat) : Prop := ∀ i j, i ≤ j → j < k → O.kle (ka key p i) (ka key p j)
def Down {O : KeyOrd} (key : Nat → O.α) (p : Array Nat) (k : Nat) : Prop := ∀ i j, i ≤ j → j < k → O.kle (ka key p j) (ka key p i)
def Rg (n : Nat) (p : Array Nat) : Prop := p.Perm (List.toArray (List.range n))
theorem Rg.size {p : Array Nat} (h : Rg n p) : p.size = n := by rw [Array.Perm.size_eq h]; simp
end
/-! rows: lists of tuples of two ints -/
abbrev RA := Addr × (Int × Int)
def refs (rs : List RA) : List V := rs.map fun x => V.ref x.1
def RowOk (H : Hp) (rs : List RA) : Prop := ∀ x ∈ rs, H x.1 = some (.tup [.int x.2.1, .int x.2.2])
def TupsH (h : Heap) (rs : List RA) : Prop := ∀ x ∈ rs, ∃ (o : Obj) (t u : Tok) (k : Nat), h.get? x.1 = some o ∧ o.cls = .type "tuple" ∧ o.data = .seq #[.int x.2.1 t, .int x.2.2 u] k
section
variable {prog : Program} {w : World} {A : Around} {E : Value → Shared → Prop} {s : Shared} {rs : List RA}
end
end L2

namespace L2
open PySem PySem.Spec PyProof.Rows PySem.SeqAt
/-! rows compared, turned about; lists that are empty or not -/
section
variable {X : Cx}
end
end L2

namespace L2
open PySem PySem.Spec PyProof.Rows PySem.SeqAt
def RowAt (H : Hp) (l : Addr) (rs : List RA) : Prop := H l = some (.lst (refs rs)) ∧ RowOk H rs
/-- all but what stands at F is as it was -/
def SameX (F : Addr) (H H' : Hp) : Prop := ∀ b o, b ≠ F → H b = some o → H' b = some o
section
variable {X : Cx}
end
end L2

namespace L2
open PySem PySem.Spec PySem.Calls PyProof.Rows
section
variable {X : Cx} {m : Str} {apos pos : Pos} {o e : Expr} {es : List Expr} {ta : TE} {t : TA}
/-- one class's answer to a call of m -/
structure Ans (X : Cx) (m : Str) (n : Nat) (C : Addr) (R : V → List V → Hp → VK → Prop) : Prop where
  cls : Cls X.K C
  run : ∃ (f : Addr) (fd : FuncData) (ps : List Str) (ds : List Value) (dvs : List V) (CX : CXT) (cm : Bool) (k : Nat) (sp : Sp) (E : XK), Meth X.K C m f ∧ FnOk X.prog X.w X.K X.mg X.base CX cm k f fd ps sp ∧ Room cm k X.A ∧ Binds X.K fd ps ds ∧ Vals dvs ds ∧ Passes CX X E ∧
    ∀ x vs H Q, vs.length = n → R x vs H Q → sp (x :: (vs ++ dvs)) H Q E
end
section
variable {X : Cx} {K : PySem.W.Frag} {o e value : Expr} {f : Str} {pos pos' : Pos} {ta tv : TE} (hK : X.K = K)
include hK
end
end L2
namespace L2
open PySem PySem.Spec PySem.Calls PyProof.Rows
section
variable {X : Cx} {CX : CXT} {cm : Bool} {k : Nat} {f C : Addr} {fd : FuncData} {ps : List Str} {sp : Sp} {dvs : List V} {ds : List Value} {E : XK} {x m : Str} {p pos apos : Pos} {e : Expr} {es : List Expr} {t : TA}
/-- a def of a class, read of the class itself -/
structure ClsFn (K : PySem.W.Frag) (C : Addr) (m : Str) (f : Addr) : Prop where
  ga : PySem.W.specialIn K (.ref C) "__getattribute__" = some (some (.builtin "type.__getattribute__"))
  rd : PySem.W.readsIn K C (.type "type") = true
  at_ : PySem.W.findCls K (.ref C) (.type "type") m = some (.val (.ref f))
  hi : PySem.W.handedIn (.ref f) = true
  kp : PySem.W.keepIn K (.ref f) = true
end
end L2

namespace L2
open PySem PySem.Spec PyProof.Rows
end L2
namespace L2
open PySem PySem.Spec PyProof.Rows PySem.SeqAt
section
variable {X : Cx}
end
end L2
namespace L2
open PySem PySem.Spec PyProof.Rows PySem.SeqAt
section
variable {X : Cx}
end
end L2

namespace L2
open PySem PySem.Spec PyProof.Rows PySem.Calls PySem.SeqAt
section
variable {X : Cx}
end
end L2

namespace L2
open PySem PySem.Spec PyProof.Rows
section
variable {X : Cx} {CX : CXT} {cm : Bool} {k : Nat} {f : Addr} {fd : FuncData} {ps : List Str} {sp : Sp} {dvs : List V} {ds : List Value} {E : St → XK} {x : Str} {p pos : Pos} {e : Expr} {es : List Expr} {t : TA} {tf : TE}
/-- x(e, ..), x a name that holds a def of the text; within a try -/
theorem pe_callV (F : FnOk X.prog X.w X.K X.mg X.base CX cm k f fd ps sp) (hr : Room cm k X.A) (hf : PE X (.Name x p) tf) (hk : PySem.W.keepIn X.K (.ref f) = true) (hb : Binds X.K fd ps ds) (hd : Vals dvs ds) (hx : ∀ σ, PassesAt CX X σ (E σ))
    (ha : PA X (e :: es) t) (he : starEach (e :: es) X.env = (false, eval e X.env) :: starEach es X.env := by rfl) (hpl : (backTo pos (starEach es X.env)).any (·.1) = false := by rfl) :
    PE X (.Call (.Name x p) (e :: es) [] pos) (fun σ H Q => tf σ H fun v H1 => v = .ref f ∧ t σ H1 fun vs H2 => sp (vs ++ dvs) H2 Q (E σ)) := by
  intro pins s σ H Q I h
  refine wpAny_Call_Name_kw (thn (hf pins s σ H _ I h) fun fv s0 ⟨v0, H0, I0, r0, e0, q0⟩ => ?_)
  subst e0
  cases r0
  refine PySem.W.callWith_K (h₀ := X.base) I0.ok.mod.kin hk (thn (ha pos pins s0 σ H0 _ I0 q0) fun us s1 ⟨vs, H1, I1, r, q⟩ => ⟨I1.kIn, ?_⟩) he hpl
  have r2 : Vals (vs ++ dvs) (us ++ ds) := r.append hd
  refine wpAny_call (codeAny_mono (F.run X.A X.stack s1 H1 ⟨us, []⟩ (us ++ ds) (vs ++ dvs) Q (E σ) hr I1.env0 (hb s1 us I1.kIn (by rw [← r2.length]; exact F.len _ _ _ _ q)) r2 q) fun fl s' hq => ?_)
  match fl, hq with
  | .error ev, hq => exact hx σ pins H1 s1 ev s' I1 hq
  | .ok (.ret u), hq => exact I1.after hq
  | .ok .next, hq => exact hq.elim
  | .ok .brk, hq => exact hq.elim
  | .ok .cont, hq => exact hq.elim
theorem PE.or {e : Expr} {t1 t2 : TE} (h1 : PE X e t1) (h2 : PE X e t2) : PE X e (fun σ H Q => t1 σ H Q ∨ t2 σ H Q) := by
  intro pins s σ H Q I h
  rcases h with h | h
  · exact h1 pins s σ H Q I h
  · exact h2 pins s σ H Q I h
end
end L2

/-! days and months: plain mathematics -/
namespace DM
def leap (y : Int) : Bool := decide (y % 400 = 0) || (decide (y % 4 = 0) && !decide (y % 100 = 0))
def year (y : Int) : Int := (y - 2000) * 365 + (y - 2000 + 3) / 4 - (y - 2000 + 99) / 100 + (y - 2000 + 399) / 400
def len (y m : Int) : Int := if m = 2 then (if leap y then 29 else 28) else if m = 1 ∨ m = 3 ∨ m = 5 ∨ m = 7 ∨ m = 8 ∨ m = 10 ∨ m = 12 then 31 else 30
def ahead (m : Int) : Int := if m ≤ 1 then 0 else if m = 2 then 31 else if m = 3 then 59 else if m = 4 then 90 else if m = 5 then 120 else if m = 6 then 151 else if m = 7 then 181 else if m = 8 then 212 else if m = 9 then 243 else if m = 10 then 273 else if m = 11 then 304 else 334
/-- the first day of the month of a number -/
def mb (n : Int) : Int := year (2000 + n / 12) + ahead (n % 12 + 1) + (if n % 12 + 1 > 2 ∧ leap (2000 + n / 12) = true then 1 else 0)

theorem leap_iff (y : Int) : leap y = true ↔ (y % 400 = 0 ∨ (y % 4 = 0 ∧ ¬ y % 100 = 0)) := by
  simp [leap]
theorem year_succ (y : Int) : year (y + 1) = year y + 365 + (if leap y = true then 1 else 0) := by
  unfold year
  by_cases h : leap y = true
  · rw [if_pos h]
    rw [leap_iff] at h
    omega
  · rw [if_neg h]
    rw [leap_iff] at h
    omega
theorem mb_tab : ∀ k : Nat, k < 11 → ∀ b : Bool, ahead ((k : Int) + 1 + 1) + (if (k : Int) + 1 + 1 > 2 ∧ b = true then 1 else 0) = ahead ((k : Int) + 1) + (if (k : Int) + 1 > 2 ∧ b = true then 1 else 0) +
    (if (k : Int) + 1 = 2 then (if b then 29 else 28) else if (k : Int) + 1 = 1 ∨ (k : Int) + 1 = 3 ∨ (k : Int) + 1 = 5 ∨ (k : Int) + 1 = 7 ∨ (k : Int) + 1 = 8 ∨ (k : Int) + 1 = 10 ∨ (k : Int) + 1 = 12 then 31 else 30) := by decide +kernel
theorem mb_end : ∀ b : Bool, ahead (0 + 1) + (if (0 : Int) + 1 > 2 ∧ b = true then 1 else 0) + 365 + (if b = true then 1 else 0) = ahead (11 + 1) + (if (11 : Int) + 1 > 2 ∧ b = true then 1 else 0) + 31 := by decide +kernel
theorem mb_succ (n : Int) : mb (n + 1) = mb n + len (2000 + n / 12) (n % 12 + 1) := by
  obtain ⟨k, hk⟩ := Int.eq_ofNat_of_zero_le (show 0 ≤ n % 12 by omega)
  unfold mb len
  by_cases h : n % 12 = 11
  · rw [show (n + 1) / 12 = n / 12 + 1 by omega, show (n + 1) % 12 = 0 by omega, h, show (2000 : Int) + (n / 12 + 1) = 2000 + n / 12 + 1 by omega, year_succ]
    have := mb_end (leap (2000 + n / 12))
    rw [if_neg (show ¬ ((0 : Int) + 1 > 2 ∧ leap (2000 + n / 12) = true) from fun z => absurd z.1 (by decide))] at this
    rw [if_neg (show ¬ ((0 : Int) + 1 > 2 ∧ leap (2000 + n / 12 + 1) = true) from fun z => absurd z.1 (by decide)), if_neg (show ¬ (11 : Int) + 1 = 2 by decide), if_pos (show (11 : Int) + 1 = 1 ∨ (11 : Int) + 1 = 3 ∨ (11 : Int) + 1 = 5 ∨ (11 : Int) + 1 = 7 ∨ (11 : Int) + 1 = 8 ∨ (11 : Int) + 1 = 10 ∨ (11 : Int) + 1 = 12 by decide)]
    omega
  · have := mb_tab k (by omega) (leap (2000 + n / 12))
    rw [show (n + 1) / 12 = n / 12 by omega, show (n + 1) % 12 = (k : Int) + 1 by omega, hk]
    rw [Int.add_assoc, this, ← Int.add_assoc, ← Int.add_assoc]
theorem len_pos (y m : Int) : 28 ≤ len y m ∧ len y m ≤ 31 := by
  unfold len
  split
  · split <;> omega
  · split <;> omega
theorem mb_0 : mb 0 = 0 := by decide
theorem mb_4800 : mb 4800 = 146097 := by decide
/-- the guess is near -/
def near (n : Nat) : Bool := decide (mb n * 4800 ≤ (n + 1) * 146097) && decide (((n : Int) - 1) * 146097 ≤ mb n * 4800)
def nearAll : Nat → Bool
  | 0 => true
  | n + 1 => near n && nearAll n
theorem nearAll_of : ∀ {k n : Nat}, nearAll k = true → n < k → near n = true
  | k + 1, n, h, hn => by
    unfold nearAll at h
    rw [Bool.and_eq_true] at h
    by_cases e : n = k
    · rw [e]; exact h.1
    · exact nearAll_of h.2 (by omega)
set_option maxRecDepth 100000 in
theorem near_ok : nearAll 4801 = true := by decide +kernel
theorem near_at {n : Int} (h0 : 0 ≤ n) (h1 : n ≤ 4800) : mb n * 4800 ≤ (n + 1) * 146097 ∧ (n - 1) * 146097 ≤ mb n * 4800 := by
  have h := nearAll_of (n := n.toNat) near_ok (by omega)
  unfold near at h
  rw [Bool.and_eq_true, decide_eq_true_eq, decide_eq_true_eq, show ((n.toNat : Nat) : Int) = n by omega] at h
  exact h
/-- the number of a day's month -/
def mo (d : Int) : Int := if mb (d * 4800 / 146097) > d then d * 4800 / 146097 - 1 else if mb (d * 4800 / 146097 + 1) ≤ d then d * 4800 / 146097 + 1 else d * 4800 / 146097
theorem mo_ok {d : Int} (h0 : 0 ≤ d) (h1 : d < 146097) : mb (mo d) ≤ d ∧ d < mb (mo d + 1) ∧ 0 ≤ mo d ∧ mo d < 4800 := by
  unfold mo
  have g0 : 0 ≤ d * 4800 / 146097 := by omega
  have g1 : d * 4800 / 146097 < 4800 := by omega
  have hd : (d * 4800 / 146097) * 146097 ≤ d * 4800 ∧ d * 4800 < (d * 4800 / 146097 + 1) * 146097 := by omega
  generalize d * 4800 / 146097 = g at *
  have e0 := mb_0
  have e1 := mb_4800
  split
  · rename_i h
    have hg : 1 ≤ g := by
      rcases Int.lt_or_le g 1 with z | z
      · have : g = 0 := by omega
        subst this
        omega
      · exact z
    have n1 := (near_at (n := g - 1) (by omega) (by omega)).1
    rw [show g - 1 + 1 = g by omega] at *
    exact ⟨by omega, by omega, by omega, by omega⟩
  · split
    · rename_i h2
      have hg : g + 1 < 4800 := by
        rcases Int.lt_or_le (g + 1) 4800 with z | z
        · exact z
        · have : g = 4799 := by omega
          subst this
          have h2' : mb 4800 ≤ d := h2
          omega
      have n2 := (near_at (n := g + 2) (by omega) (by omega)).2
      rw [show g + 1 + 1 = g + 2 by omega]
      exact ⟨by omega, by omega, by omega, by omega⟩
    · exact ⟨by omega, by omega, g0, g1⟩
end DM

/-! the text of a date -/
namespace DT
open PySem L2
def dg (n : Nat) : Nat := 48 + n % 10
/-- the year 2000 + n -/
def yt (n : Nat) : Str := ⟨#[50, dg (n / 100), dg (n / 10), dg n]⟩
def tt (n : Nat) : Str := ⟨#[dg (n / 10), dg n]⟩
def tx (y m d : Nat) : Str := ⟨#[50, dg (y / 100), dg (y / 10), dg y, 45, dg (m / 10), dg m, 45, dg (d / 10), dg d]⟩
theorem yt_of : ∀ n : Nat, n < 400 → ((toString (2000 + (n : Int)) : String) : Str) = yt n := by decide +kernel
theorem tt_of : ∀ n : Nat, n < 32 → Txt.zfill ((toString (n : Int) : String) : Str) 2 = tt n := by decide +kernel
theorem yt_int : ∀ n : Nat, n < 400 → PySem.intText? (yt n) = some (2000 + (n : Int)) := by decide +kernel
theorem tt_int : ∀ n : Nat, n < 32 → PySem.intText? (tt n) = some (n : Int) := by decide +kernel
theorem dg_fig (n : Nat) : dg n ∈ ("0123456789" : Str).cps.toList := by
  have h : ∀ k : Nat, k < 10 → 48 + k ∈ ("0123456789" : Str).cps.toList := by decide +kernel
  exact h _ (Nat.mod_lt _ (by decide))
theorem made (y m d : Nat) : ((yt y ++ tt m ++ tt d).cps.toList.all fun c => decide (c ∈ ("0123456789" : Str).cps.toList)) = true := by
  rw [List.all_eq_true]
  intro c hc
  refine decide_eq_true ?_
  have e : (yt y ++ tt m ++ tt d).cps.toList = [50, dg (y / 100), dg (y / 10), dg y, dg (m / 10), dg m, dg (d / 10), dg d] := rfl
  rw [e] at hc
  simp only [List.mem_cons, List.not_mem_nil, or_false] at hc
  rcases hc with h | h | h | h | h | h | h | h <;> subst h
  · exact dg_fig 2
  all_goals exact dg_fig _
theorem yt_log : ∀ n : Nat, n < 400 → (2000 + (n : Int)).natAbs.log2 < 1920 := by decide +kernel
theorem tt_log : ∀ n : Nat, n < 32 → (n : Int).natAbs.log2 < 1920 := by decide +kernel
/-- the text of a day -/
def dtx (d : Int) : Str := tx (DM.mo d / 12).toNat (DM.mo d % 12 + 1).toNat (d - DM.mb (DM.mo d) + 1).toNat
theorem parts {d : Int} (h0 : 0 ≤ d) (h1 : d < 146097) : ∃ y m e : Nat, y < 400 ∧ m < 32 ∧ e < 32 ∧ 2000 + DM.mo d / 12 = 2000 + (y : Int) ∧ DM.mo d % 12 + 1 = (m : Int) ∧ d - DM.mb (DM.mo d) + 1 = (e : Int) ∧ dtx d = tx y m e ∧
    1 ≤ m ∧ m ≤ 12 ∧ 1 ≤ e ∧ (e : Int) ≤ DM.len (2000 + (y : Int)) m ∧ (2000 + (y : Int) - 2000) * 12 + (m : Int) - 1 = DM.mo d ∧ DM.mb (DM.mo d) + (e : Int) - 1 = d := by
  obtain ⟨o1, o2, o3, o4⟩ := DM.mo_ok h0 h1
  have ms := DM.mb_succ (DM.mo d)
  have lp := DM.len_pos (2000 + DM.mo d / 12) (DM.mo d % 12 + 1)
  refine ⟨(DM.mo d / 12).toNat, (DM.mo d % 12 + 1).toNat, (d - DM.mb (DM.mo d) + 1).toNat, by omega, by omega, by omega, by omega, by omega, by omega, rfl, by omega, by omega, by omega, ?_, by omega, by omega⟩
  rw [show ((DM.mo d / 12).toNat : Int) = DM.mo d / 12 by omega, show ((DM.mo d % 12 + 1).toNat : Int) = DM.mo d % 12 + 1 by omega]
  omega
theorem len_app (a b : Str) : (a ++ b).length = a.length + b.length := Array.size_append
end DT

/-! which texts are a day's -/
namespace DK
open PySem PySem.NumText L2
def FG : List Nat := ("0123456789" : Str).cps.toList
theorem fg_of : ∀ c ∈ FG, 48 ≤ c ∧ c ≤ 57 := by decide +kernel
def figs (l : List Nat) : Bool := l.all fun c => decide (c ∈ FG)
def num (l : List Nat) : Int := (PySem.intText? ⟨l.toArray⟩).getD 0
theorem num_is {l : List Nat} (h : figs l = true) (h0 : l ≠ []) (h1 : l.length ≤ 640) : PySem.intText? ⟨l.toArray⟩ = some (num l) := by
  have hd : AllDigits (⟨l.toArray⟩ : Str).cps.toList := fun c hc => by
    have := List.all_eq_true.mp h c hc
    exact fg_of c (of_decide_eq_true this)
  have := intText_digits (x := ⟨l.toArray⟩) hd h0 (by show l.toArray.size ≤ 4300; rw [List.size_toArray]; omega)
  unfold num
  rw [this]
  rfl
/-- is it a date? the numbers' day -/
abbrev okd (y m d : Int) : Prop := 2000 ≤ y ∧ y ≤ 2399 ∧ 1 ≤ m ∧ m ≤ 12 ∧ 1 ≤ d ∧ d ≤ DM.len y m
def dayn (y m d : Int) : Int := DM.mb ((y - 2000) * 12 + m - 1) + d - 1
def of3 (a b c : List Nat) : Option Int := if okd (num a) (num b) (num c) then some (dayn (num a) (num b) (num c)) else none
/-- the day that a text is of -/
def dueL : List Nat → Option Int
  | [a, b, c, d, s, e, f, r, g, h] => if s = 45 ∧ r = 45 ∧ figs [a, b, c, d, e, f, g, h] = true then of3 [a, b, c, d] [e, f] [g, h] else none
  | _ => none
def due (t : Str) : Option Int := dueL t.cps.toList
theorem due_len {t : Str} (h : t.length ≠ 10) : due t = none := by
  unfold due
  have h' : t.cps.toList.length ≠ 10 := h
  revert h'
  generalize t.cps.toList = l
  intro h'
  unfold dueL
  split
  · exact absurd rfl h'
  · rfl
theorem ten {t : Str} (h : t.length = 10) : ∃ a b c d s e f r g k : Nat, t = ⟨#[a, b, c, d, s, e, f, r, g, k]⟩ := by
  obtain ⟨⟨l⟩⟩ := t
  have h' : l.length = 10 := h
  match l, h' with
  | [a, b, c, d, s, e, f, r, g, k], _ => exact ⟨a, b, c, d, s, e, f, r, g, k, rfl⟩
section
variable (a b c d s e f r g k : Nat)
theorem ten_due : due ⟨#[a, b, c, d, s, e, f, r, g, k]⟩ = if s = 45 ∧ r = 45 ∧ figs [a, b, c, d, e, f, g, k] = true then of3 [a, b, c, d] [e, f] [g, k] else none := rfl
theorem ten_4 : Txt.slice ⟨#[a, b, c, d, s, e, f, r, g, k]⟩ none (some 4) = ⟨#[a, b, c, d]⟩ := rfl
theorem ten_57 : Txt.slice ⟨#[a, b, c, d, s, e, f, r, g, k]⟩ (some 5) (some 7) = ⟨#[e, f]⟩ := rfl
theorem ten_8 : Txt.slice ⟨#[a, b, c, d, s, e, f, r, g, k]⟩ (some 8) none = ⟨#[g, k]⟩ := by
  have z : PySem.Builtin.Str.strSliceIndices (some 8) none 1 10 = [8, 9] := by decide +kernel
  unfold Txt.slice
  rw [show (⟨#[a, b, c, d, s, e, f, r, g, k]⟩ : Str).length = 10 from rfl, z]
  rfl
theorem ten_at4 : atI (⟨#[a, b, c, d, s, e, f, r, g, k]⟩ : Str).cps.toList 4 = some s := rfl
theorem ten_at7 : atI (⟨#[a, b, c, d, s, e, f, r, g, k]⟩ : Str).cps.toList 7 = some r := rfl
end
/-- a day's own text -/
theorem due_dtx {d : Int} (h0 : 0 ≤ d) (h1 : d < 146097) : due (DT.dtx d) = some d := by
  obtain ⟨y, m, e, hy, hm, he, e1, e2, e3, e4, m1, m2, d1, d2, n1, n2⟩ := DT.parts h0 h1
  rw [e4]
  unfold DT.tx
  rw [ten_due, if_pos ⟨rfl, rfl, DT.made y m e⟩]
  have a1 : num [50, DT.dg (y / 100), DT.dg (y / 10), DT.dg y] = 2000 + (y : Int) := by
    unfold num
    rw [show (⟨[50, DT.dg (y / 100), DT.dg (y / 10), DT.dg y].toArray⟩ : Str) = DT.yt y from rfl, DT.yt_int y hy]
    rfl
  have a2 : num [DT.dg (m / 10), DT.dg m] = (m : Int) := by
    unfold num
    rw [show (⟨[DT.dg (m / 10), DT.dg m].toArray⟩ : Str) = DT.tt m from rfl, DT.tt_int m hm]
    rfl
  have a3 : num [DT.dg (e / 10), DT.dg e] = (e : Int) := by
    unfold num
    rw [show (⟨[DT.dg (e / 10), DT.dg e].toArray⟩ : Str) = DT.tt e from rfl, DT.tt_int e he]
    rfl
  unfold of3 dayn
  rw [a1, a2, a3, if_pos ⟨by omega, by omega, by omega, by omega, by omega, d2⟩, n1, n2]
/-! ### split -/
theorem dash : ("-" : Str) = ⟨#[45]⟩ := by decide +kernel
def J : List (List Nat) → List Nat
  | [] => []
  | [p] => p
  | p :: q :: r => p ++ 45 :: J (q :: r)
def lookL : List Nat → Bool
  | [a, b, c, d, s, e, f, r, g, h] => decide (s = 45) && (decide (r = 45) && figs [a, b, c, d, e, f, g, h])
  | _ => false
/-- does it look like a day's? -/
def look (t : Str) : Bool := lookL t.cps.toList
theorem look_len {t : Str} (h : t.length ≠ 10) : look t = false := by
  unfold look
  have h' : t.cps.toList.length ≠ 10 := h
  revert h'
  generalize t.cps.toList = l
  intro h'
  unfold lookL
  split
  · exact absurd rfl h'
  · rfl
theorem ten_look (a b c d s e f r g k : Nat) : look ⟨#[a, b, c, d, s, e, f, r, g, k]⟩ = (decide (s = 45) && (decide (r = 45) && figs [a, b, c, d, e, f, g, k])) := rfl
theorem due_no {t : Str} (h : look t = false) : due t = none := by
  by_cases h10 : t.length = 10
  · obtain ⟨a, b, c, d, s, e, f, r, g, k, rfl⟩ := ten h10
    rw [ten_look] at h
    rw [ten_due, if_neg]
    rintro ⟨h1, h2, h3⟩
    rw [decide_eq_true h1, decide_eq_true h2, h3] at h
    cases h
  · exact due_len h10
theorem figs_sub {l m : List Nat} (h : figs l = true) (hs : ∀ c ∈ m, c ∈ l) : figs m = true := List.all_eq_true.mpr fun c hc => List.all_eq_true.mp h c (hs c hc)
theorem look_yes {t : Str} (h : look t = true) : ∃ a b c d e f g k : Nat, t = ⟨#[a, b, c, d, 45, e, f, 45, g, k]⟩ ∧ PySem.intText? ⟨#[a, b, c, d]⟩ = some (num [a, b, c, d]) ∧ PySem.intText? ⟨#[e, f]⟩ = some (num [e, f]) ∧ PySem.intText? ⟨#[g, k]⟩ = some (num [g, k]) ∧
    due t = of3 [a, b, c, d] [e, f] [g, k] := by
  by_cases h10 : t.length = 10
  · obtain ⟨a, b, c, d, s, e, f, r, g, k, rfl⟩ := ten h10
    rw [ten_look, Bool.and_eq_true, Bool.and_eq_true] at h
    obtain ⟨h1, h2, h3⟩ := h
    have h1 := of_decide_eq_true h1
    have h2 := of_decide_eq_true h2
    subst h1 h2
    refine ⟨a, b, c, d, e, f, g, k, rfl, num_is (l := [a, b, c, d]) (figs_sub h3 ?_) (by simp) (by show 4 ≤ 640; decide), num_is (l := [e, f]) (figs_sub h3 ?_) (by simp) (by show 2 ≤ 640; decide), num_is (l := [g, k]) (figs_sub h3 ?_) (by simp) (by show 2 ≤ 640; decide), ?_⟩
    · exact fun x hx => List.mem_append_left [e, f, g, k] hx
    · exact fun x hx => List.mem_append_right [a, b, c, d] (List.mem_append_left [g, k] hx)
    · exact fun x hx => List.mem_append_right [a, b, c, d, e, f] hx
    · rw [ten_due, if_pos ⟨rfl, rfl, h3⟩]
  · rw [look_len h10] at h
    cases h
theorem one_ne (s : Nat) : (!decide (V.str ⟨#[s]⟩ = V.str ("-" : Str))) = decide (s ≠ 45) := by
  rw [dash]
  by_cases h : s = 45
  · subst h; decide
  · rw [decide_eq_true h, decide_eq_false]
    · rfl
    · intro z
      rw [V.str.injEq] at z
      have := congrArg (fun q : Str => q.cps.toList) z
      exact h (List.cons.inj this).1
end DK

/-! the text of a moment -/
namespace DQ
open PySem PySem.NumText L2 DK
open PySem.Builtin.Str (strSliceIndices)
theorem clampHi (l : Option Int) (b len : Nat) : strSliceIndices l (some (b : Int)) 1 len = strSliceIndices l (some ((min b len : Nat) : Int)) 1 len := by
  have e : max (0 : Int) (min (b : Int) len) = max 0 (min ((min b len : Nat) : Int) len) := by omega
  have n1 : ¬ ((b : Int) < 0) := by omega
  have n2 : ¬ (((min b len : Nat) : Int) < 0) := by omega
  simp only [strSliceIndices, if_neg n1, if_neg n2, show (1 : Int) > 0 by decide, if_true, e]
theorem clampLo (u : Option Int) (a len : Nat) : strSliceIndices (some (a : Int)) u 1 len = strSliceIndices (some ((min a len : Nat) : Int)) u 1 len := by
  have e : max (0 : Int) (min (a : Int) len) = max 0 (min ((min a len : Nat) : Int) len) := by omega
  have n1 : ¬ ((a : Int) < 0) := by omega
  have n2 : ¬ (((min a len : Nat) : Int) < 0) := by omega
  simp only [strSliceIndices, if_neg n1, if_neg n2, show (1 : Int) > 0 by decide, if_true, e]
theorem sl_mid (l : List Nat) {a b : Nat} (hab : a ≤ b) : Txt.slice ⟨l.toArray⟩ (some (a : Int)) (some (b : Int)) = ⟨((l.drop a).take (b - a)).toArray⟩ := by
  have h1 : Txt.slice ⟨l.toArray⟩ (some (a : Int)) (some (b : Int)) = StrLaws.sliceText ⟨l.toArray⟩ (some ((min a l.length : Nat) : Int)) (some ((min b l.length : Nat) : Int)) := by
    unfold Txt.slice StrLaws.sliceText
    rw [clampHi, clampLo]
    rfl
  rw [h1, StrLaws.sliceText_nat _ (by omega) (by show min b l.length ≤ l.toArray.size; rw [List.size_toArray]; omega)]
  congr 2
  show (l.drop (min a l.length)).take (min b l.length - min a l.length) = _
  by_cases h : a ≤ l.length
  · rw [Nat.min_eq_left h]
    by_cases h2 : b ≤ l.length
    · rw [Nat.min_eq_left h2]
    · rw [Nat.min_eq_right (by omega), List.take_of_length_le (by rw [List.length_drop]; omega), List.take_of_length_le (by rw [List.length_drop]; omega)]
  · rw [List.drop_eq_nil_of_le (show l.length ≤ min a l.length by omega), List.drop_eq_nil_of_le (show l.length ≤ a by omega), List.take_nil, List.take_nil]
theorem sl_to (l : List Nat) (b : Nat) : Txt.slice ⟨l.toArray⟩ none (some (b : Int)) = ⟨(l.take b).toArray⟩ := by
  have h1 : Txt.slice ⟨l.toArray⟩ none (some (b : Int)) = Txt.slice ⟨l.toArray⟩ (some ((0 : Nat) : Int)) (some (b : Int)) := by
    unfold Txt.slice
    rw [StrLaws.sliceIdx_none_lo]
    rfl
  rw [h1, sl_mid l (Nat.zero_le b)]
  rfl
theorem sl_from (l : List Nat) (a : Nat) : Txt.slice ⟨l.toArray⟩ (some (a : Int)) none = ⟨(l.drop a).toArray⟩ := by
  by_cases h : a ≤ l.length
  · have h1 : Txt.slice ⟨l.toArray⟩ (some (a : Int)) none = Txt.slice ⟨l.toArray⟩ (some (a : Int)) (some (l.length : Int)) := by
      unfold Txt.slice
      rw [StrLaws.sliceIdx_none_hi]
      rfl
    rw [h1, sl_mid l h, List.take_of_length_le (by rw [List.length_drop]; omega)]
  · have h1 : Txt.slice ⟨l.toArray⟩ (some (a : Int)) none = Txt.slice ⟨l.toArray⟩ (some (a : Int)) (some (a : Int)) := by
      unfold Txt.slice
      rw [StrLaws.sliceIdx_none_hi, clampHi _ a, Nat.min_eq_right (show (⟨l.toArray⟩ : Str).length ≤ a by show l.toArray.size ≤ a; rw [List.size_toArray]; omega)]
    rw [h1, sl_mid l (Nat.le_refl a), Nat.sub_self, List.take_zero, List.drop_eq_nil_of_le (by omega)]
theorem sl_m1 (l : List Nat) (h : 1 ≤ l.length) : Txt.slice ⟨l.toArray⟩ none (some (-1)) = ⟨(l.take (l.length - 1)).toArray⟩ := by
  have h1 : Txt.slice ⟨l.toArray⟩ none (some (-1)) = Txt.slice ⟨l.toArray⟩ none (some ((l.length - 1 : Nat) : Int)) := by
    unfold Txt.slice
    rw [StrLaws.sliceIdx_neg_hi none (len := (⟨l.toArray⟩ : Str).length) (j := -1) (by decide) (by show -((l.toArray.size : Nat) : Int) ≤ -1; rw [List.size_toArray]; omega)]
    rw [show (-1 : Int) + ((⟨l.toArray⟩ : Str).length : Int) = ((l.length - 1 : Nat) : Int) by show (-1 : Int) + (l.toArray.size : Int) = _; rw [List.size_toArray]; omega]
  rw [h1, sl_to]
/-! ### reading -/
def clkL : List Nat → Option Int
  | [a, b, s, c, d] => if s = 58 ∧ figs [a, b, c, d] = true then (if num [a, b] < 24 ∧ num [c, d] < 60 then some (num [a, b] * 60 + num [c, d]) else none) else none
  | _ => none
def clk (t : Str) : Option Int := clkL t.cps.toList
def both : Option Int → Option Int → Option Int
  | some d, some c => some (d * 1440 + c)
  | _, _ => none
def rmL (l : List Nat) : Option Int := if (l.drop 10).take 1 = [95] then both (dueL (l.take 10)) (clkL (l.drop 11)) else none
/-- the moment that a text is of -/
def rm (t : Str) : Option Int := rmL t.cps.toList
theorem both_none (o : Option Int) : both o none = none := by cases o <;> rfl
theorem rm_mark {l : List Nat} (h : (l.drop 10).take 1 ≠ [95]) : rmL l = none := by unfold rmL; rw [if_neg h]
theorem rm_day {l : List Nat} (h : dueL (l.take 10) = none) : rmL l = none := by
  unfold rmL
  rw [h]
  split <;> rfl
theorem rm_clk {l : List Nat} (h : clkL (l.drop 11) = none) : rmL l = none := by
  unfold rmL
  rw [h, both_none]
  split <;> rfl
theorem clk_sep {a b s c d : Nat} (h : s ≠ 58) : clkL [a, b, s, c, d] = none := if_neg fun z => h z.1
theorem clk_fig {a b s c d : Nat} (x : Nat) (hx : x ∈ [a, b, c, d]) (h : ¬ x ∈ FG) : clkL [a, b, s, c, d] = none := if_neg fun z => h (of_decide_eq_true (List.all_eq_true.mp z.2 x hx))
theorem clk_h {a b s c d : Nat} (h : ¬ num [a, b] < 24) : clkL [a, b, s, c, d] = none := by
  show (if s = 58 ∧ figs [a, b, c, d] = true then (if num [a, b] < 24 ∧ num [c, d] < 60 then some (num [a, b] * 60 + num [c, d]) else none) else none) = none
  rw [if_neg (c := num [a, b] < 24 ∧ num [c, d] < 60) fun z => h z.1]
  split <;> rfl
theorem clk_n {a b s c d : Nat} (h : ¬ num [c, d] < 60) : clkL [a, b, s, c, d] = none := by
  show (if s = 58 ∧ figs [a, b, c, d] = true then (if num [a, b] < 24 ∧ num [c, d] < 60 then some (num [a, b] * 60 + num [c, d]) else none) else none) = none
  rw [if_neg (c := num [a, b] < 24 ∧ num [c, d] < 60) fun z => h z.2]
  split <;> rfl
theorem due_sep {a b c d s e f r g h : Nat} (z : ¬ (s = 45 ∧ r = 45)) : dueL [a, b, c, d, s, e, f, r, g, h] = none := if_neg fun w => z ⟨w.1, w.2.1⟩
theorem due_fig {a b c d s e f r g h : Nat} (x : Nat) (hx : x ∈ [a, b, c, d, e, f, g, h]) (z : ¬ x ∈ FG) : dueL [a, b, c, d, s, e, f, r, g, h] = none := if_neg fun w => z (of_decide_eq_true (List.all_eq_true.mp w.2.2 x hx))
theorem due_num {a b c d s e f r g h : Nat} (z : ¬ okd (num [a, b, c, d]) (num [e, f]) (num [g, h])) : dueL [a, b, c, d, s, e, f, r, g, h] = none := by
  show (if s = 45 ∧ r = 45 ∧ figs [a, b, c, d, e, f, g, h] = true then of3 [a, b, c, d] [e, f] [g, h] else none) = none
  unfold of3
  rw [if_neg (c := okd (num [a, b, c, d]) (num [e, f]) (num [g, h])) z]
  split <;> rfl
/-! ### writing -/
open DT (dg tt)
def ml (y m e h n : Nat) : List Nat := [50, dg (y / 100), dg (y / 10), dg y, 45, dg (m / 10), dg m, 45, dg (e / 10), dg e, 95, dg (h / 10), dg h, 58, dg (n / 10), dg n]
def ck (k : Int) : Str := tt (k / 60).toNat ++ (":" : Str) ++ tt (k % 60).toNat
/-- the text of a moment -/
def mt (x : Int) : Str := DT.dtx (x / 1440) ++ ("_" : Str) ++ ck (x % 1440)
theorem mt_ml (y m e h n : Nat) : DT.tx y m e ++ ("_" : Str) ++ (tt h ++ (":" : Str) ++ tt n) = ⟨(ml y m e h n).toArray⟩ := rfl
theorem tt60 : ∀ n : Nat, n < 60 → PySem.intText? (tt n) = some (n : Int) := by decide +kernel
theorem tt60_of : ∀ n : Nat, n < 60 → Txt.zfill ((toString (n : Int) : String) : Str) 2 = tt n := by decide +kernel
theorem tt60_law : ∀ n : Nat, n < 60 → Txt.mul ("0" : Str) (if decide ((n : Int) < 10) = true then 1 else 0) ++ ((toString (n : Int) : String) : Str) = tt n := by decide +kernel
theorem log60 : ∀ n : Nat, n < 60 → (n : Int).natAbs.log2 < 1920 := by decide +kernel
theorem num_tt {n : Nat} (h : n < 60) : num [dg (n / 10), dg n] = (n : Int) := by
  unfold num
  rw [show (⟨[dg (n / 10), dg n].toArray⟩ : Str) = tt n from rfl, tt60 n h]
  rfl
theorem fig_dg (n : Nat) : dg n ∈ FG := DT.dg_fig n
theorem clk_ck {h n : Nat} (hh : h < 24) (hn : n < 60) : clkL [dg (h / 10), dg h, 58, dg (n / 10), dg n] = some ((h : Int) * 60 + n) := by
  show (if (58 : Nat) = 58 ∧ figs [dg (h / 10), dg h, dg (n / 10), dg n] = true then (if num [dg (h / 10), dg h] < 24 ∧ num [dg (n / 10), dg n] < 60 then some (num [dg (h / 10), dg h] * 60 + num [dg (n / 10), dg n]) else none) else none) = _
  have hf : figs [dg (h / 10), dg h, dg (n / 10), dg n] = true := List.all_eq_true.mpr fun c hc => decide_eq_true (by
    simp only [List.mem_cons, List.not_mem_nil, or_false] at hc
    rcases hc with rfl | rfl | rfl | rfl <;> exact fig_dg _)
  rw [num_tt (by omega : h < 60), num_tt hn, if_pos ⟨rfl, hf⟩, if_pos ⟨by omega, by omega⟩]
theorem rm_mt {x : Int} (h0 : 0 ≤ x) (h1 : x < 146097 * 1440) : rm (mt x) = some x := by
  have d0 : 0 ≤ x / 1440 := by omega
  have d1 : x / 1440 < 146097 := by omega
  have hd := due_dtx d0 d1
  unfold mt ck
  obtain ⟨y, m, e, hy, hm, he, e1, e2, e3, e4, _⟩ := DT.parts d0 d1
  rw [e4] at hd ⊢
  rw [mt_ml]
  show (if [95] = [95] then both (dueL [50, dg (y / 100), dg (y / 10), dg y, 45, dg (m / 10), dg m, 45, dg (e / 10), dg e]) (clkL [dg ((x % 1440 / 60).toNat / 10), dg (x % 1440 / 60).toNat, 58, dg ((x % 1440 % 60).toNat / 10), dg (x % 1440 % 60).toNat]) else none) = some x
  rw [if_pos rfl, show dueL [50, dg (y / 100), dg (y / 10), dg y, 45, dg (m / 10), dg m, 45, dg (e / 10), dg e] = some (x / 1440) from hd, clk_ck (by omega) (by omega)]
  show some (x / 1440 * 1440 + (((x % 1440 / 60).toNat : Int) * 60 + ((x % 1440 % 60).toNat : Int))) = some x
  congr 1
  omega
theorem mt_is {x : Int} (h0 : 0 ≤ x) (h1 : x < 146097 * 1440) : ∃ a b c d e f g k p q r s : Nat, mt x = ⟨#[a, b, c, d, 45, e, f, 45, g, k, 95, p, q, 58, r, s]⟩ ∧ ∀ z ∈ [a, b, c, d, e, f, g, k, p, q, r, s], z ∈ FG := by
  unfold mt ck
  obtain ⟨y, m, e, hy, hm, he, e1, e2, e3, e4, _⟩ := DT.parts (d := x / 1440) (by omega) (by omega)
  rw [e4, mt_ml]
  refine ⟨_, _, _, _, _, _, _, _, _, _, _, _, rfl, fun z hz => ?_⟩
  simp only [List.mem_cons, List.not_mem_nil, or_false] at hz
  rcases hz with rfl | rfl | rfl | rfl | rfl | rfl | rfl | rfl | rfl | rfl | rfl | rfl
  · exact fig_dg 2
  all_goals exact fig_dg _
theorem mt_len (x : Int) : (mt x).length ≤ 1000 := by show 16 ≤ 1000; decide
theorem clk_len {t : Str} (h : t.length ≠ 5) : clk t = none := by
  unfold clk
  have h' : t.cps.toList.length ≠ 5 := h
  revert h'
  generalize t.cps.toList = l
  intro h'
  unfold clkL
  split
  · exact absurd rfl h'
  · rfl
theorem five {t : Str} (h : t.length = 5) : ∃ a b s c d : Nat, t = ⟨#[a, b, s, c, d]⟩ := by
  obtain ⟨⟨l⟩⟩ := t
  have h' : l.length = 5 := h
  match l, h' with
  | [a, b, s, c, d], _ => exact ⟨a, b, s, c, d, rfl⟩
theorem five_clk (a b s c d : Nat) : clk ⟨#[a, b, s, c, d]⟩ = if s = 58 ∧ figs [a, b, c, d] = true then (if num [a, b] < 24 ∧ num [c, d] < 60 then some (num [a, b] * 60 + num [c, d]) else none) else none := rfl
theorem five_2 (a b s c d : Nat) : Txt.slice ⟨#[a, b, s, c, d]⟩ none (some 2) = ⟨#[a, b]⟩ := sl_to [a, b, s, c, d] 2
theorem five_3 (a b s c d : Nat) : Txt.slice ⟨#[a, b, s, c, d]⟩ (some 3) none = ⟨#[c, d]⟩ := sl_from [a, b, s, c, d] 3
theorem two_len : ∀ n : Nat, n < 60 → (Txt.mul ("0" : Str) (if decide ((n : Int) < 10) = true then 1 else 0)).length + ((toString (n : Int) : String) : Str).length ≤ 4 := by decide +kernel
theorem two_ok (b : Bool) : MulOk ("0" : Str) (if b = true then 1 else 0) := by
  cases b
  · exact ⟨by decide, by decide +kernel⟩
  · exact ⟨by decide, by decide +kernel⟩
theorem colon : (":" : Str) = ⟨#[58]⟩ := by decide +kernel
theorem under : ("_" : Str) = ⟨#[95]⟩ := by decide +kernel
theorem ne_58 (s : Nat) : (!decide (V.str ⟨#[s]⟩ = V.str (":" : Str))) = decide (s ≠ 58) := by
  rw [colon]
  by_cases h : s = 58
  · subst h; decide
  · rw [decide_eq_true h, decide_eq_false]
    · rfl
    · intro z
      rw [V.str.injEq] at z
      exact h (List.cons.inj (congrArg (fun q : Str => q.cps.toList) z)).1
theorem ne_95 (m : List Nat) : (!decide (V.str ⟨m.toArray⟩ = V.str ("_" : Str))) = decide (m ≠ [95]) := by
  rw [under]
  by_cases h : m = [95]
  · subst h; decide
  · rw [decide_eq_true h, decide_eq_false]
    · rfl
    · intro z
      rw [V.str.injEq] at z
      exact h (congrArg (fun q : Str => q.cps.toList) z)
end DQ

namespace DQ
open PySem L2 DK
section
variable {a b c d e f g k p q r s : Nat}
theorem no95 {l : List Nat} {x : Nat} (h : ∀ z ∈ l, z ∈ FG) (hx : x ∈ l) : x ≠ 95 := fun z => by
  have := fg_of x (h x hx)
  omega
theorem sp0 (h : ∀ z ∈ [a, b, c, d, e, f, g, k, p, q, r, s], z ∈ FG) : rm ((⟨#[a, b, c, d, 45, e, f, 45, g, k, 95, p, q, 58, r, s]⟩ : Str) ++ (" " : Str)) = none := by
  have no95 := fun x hx => no95 (x := x) h hx
  show rmL [a, b, c, d, 45, e, f, 45, g, k, 95, p, q, 58, r, s, 32] = none
  exact rm_clk rfl
theorem sp1 (h : ∀ z ∈ [a, b, c, d, e, f, g, k, p, q, r, s], z ∈ FG) : rm ((" " : Str) ++ (⟨#[a, b, c, d, 45, e, f, 45, g, k, 95, p, q, 58, r, s]⟩ : Str)) = none := by
  have no95 := fun x hx => no95 (x := x) h hx
  show rmL [32, a, b, c, d, 45, e, f, 45, g, k, 95, p, q, 58, r, s] = none
  exact rm_mark (fun z => no95 k (by simp) (List.cons.inj z).1)
theorem sp2 (h : ∀ z ∈ [a, b, c, d, e, f, g, k, p, q, r, s], z ∈ FG) : rm (Txt.slice (⟨#[a, b, c, d, 45, e, f, 45, g, k, 95, p, q, 58, r, s]⟩ : Str) none (some 10) ++ (" " : Str) ++ Txt.slice (⟨#[a, b, c, d, 45, e, f, 45, g, k, 95, p, q, 58, r, s]⟩ : Str) (some 11) none) = none := by
  have no95 := fun x hx => no95 (x := x) h hx
  rw [(show Txt.slice (⟨#[a, b, c, d, 45, e, f, 45, g, k, 95, p, q, 58, r, s]⟩ : Str) none (some 10) = ⟨#[a, b, c, d, 45, e, f, 45, g, k]⟩ from sl_to [a, b, c, d, 45, e, f, 45, g, k, 95, p, q, 58, r, s] 10), (show Txt.slice (⟨#[a, b, c, d, 45, e, f, 45, g, k, 95, p, q, 58, r, s]⟩ : Str) (some 11) none = ⟨#[p, q, 58, r, s]⟩ from sl_from [a, b, c, d, 45, e, f, 45, g, k, 95, p, q, 58, r, s] 11)]
  show rmL [a, b, c, d, 45, e, f, 45, g, k, 32, p, q, 58, r, s] = none
  exact rm_mark (by show [32] ≠ [95]; decide)
theorem sp3 (h : ∀ z ∈ [a, b, c, d, e, f, g, k, p, q, r, s], z ∈ FG) : rm (Txt.slice (⟨#[a, b, c, d, 45, e, f, 45, g, k, 95, p, q, 58, r, s]⟩ : Str) none (some 10) ++ ("__" : Str) ++ Txt.slice (⟨#[a, b, c, d, 45, e, f, 45, g, k, 95, p, q, 58, r, s]⟩ : Str) (some 11) none) = none := by
  have no95 := fun x hx => no95 (x := x) h hx
  rw [(show Txt.slice (⟨#[a, b, c, d, 45, e, f, 45, g, k, 95, p, q, 58, r, s]⟩ : Str) none (some 10) = ⟨#[a, b, c, d, 45, e, f, 45, g, k]⟩ from sl_to [a, b, c, d, 45, e, f, 45, g, k, 95, p, q, 58, r, s] 10), (show Txt.slice (⟨#[a, b, c, d, 45, e, f, 45, g, k, 95, p, q, 58, r, s]⟩ : Str) (some 11) none = ⟨#[p, q, 58, r, s]⟩ from sl_from [a, b, c, d, 45, e, f, 45, g, k, 95, p, q, 58, r, s] 11)]
  show rmL [a, b, c, d, 45, e, f, 45, g, k, 95, 95, p, q, 58, r, s] = none
  exact rm_clk rfl
theorem sp4 (h : ∀ z ∈ [a, b, c, d, e, f, g, k, p, q, r, s], z ∈ FG) : rm (Txt.slice (⟨#[a, b, c, d, 45, e, f, 45, g, k, 95, p, q, 58, r, s]⟩ : Str) none (some 10) ++ Txt.slice (⟨#[a, b, c, d, 45, e, f, 45, g, k, 95, p, q, 58, r, s]⟩ : Str) (some 11) none) = none := by
  have no95 := fun x hx => no95 (x := x) h hx
  rw [(show Txt.slice (⟨#[a, b, c, d, 45, e, f, 45, g, k, 95, p, q, 58, r, s]⟩ : Str) none (some 10) = ⟨#[a, b, c, d, 45, e, f, 45, g, k]⟩ from sl_to [a, b, c, d, 45, e, f, 45, g, k, 95, p, q, 58, r, s] 10), (show Txt.slice (⟨#[a, b, c, d, 45, e, f, 45, g, k, 95, p, q, 58, r, s]⟩ : Str) (some 11) none = ⟨#[p, q, 58, r, s]⟩ from sl_from [a, b, c, d, 45, e, f, 45, g, k, 95, p, q, 58, r, s] 11)]
  show rmL [a, b, c, d, 45, e, f, 45, g, k, p, q, 58, r, s] = none
  exact rm_mark (fun z => no95 p (by simp) (List.cons.inj z).1)
theorem sp5 (h : ∀ z ∈ [a, b, c, d, e, f, g, k, p, q, r, s], z ∈ FG) : rm (Txt.slice (⟨#[a, b, c, d, 45, e, f, 45, g, k, 95, p, q, 58, r, s]⟩ : Str) none (some 11) ++ ("24" : Str) ++ Txt.slice (⟨#[a, b, c, d, 45, e, f, 45, g, k, 95, p, q, 58, r, s]⟩ : Str) (some 13) none) = none := by
  have no95 := fun x hx => no95 (x := x) h hx
  rw [(show Txt.slice (⟨#[a, b, c, d, 45, e, f, 45, g, k, 95, p, q, 58, r, s]⟩ : Str) none (some 11) = ⟨#[a, b, c, d, 45, e, f, 45, g, k, 95]⟩ from sl_to [a, b, c, d, 45, e, f, 45, g, k, 95, p, q, 58, r, s] 11), (show Txt.slice (⟨#[a, b, c, d, 45, e, f, 45, g, k, 95, p, q, 58, r, s]⟩ : Str) (some 13) none = ⟨#[58, r, s]⟩ from sl_from [a, b, c, d, 45, e, f, 45, g, k, 95, p, q, 58, r, s] 13)]
  show rmL [a, b, c, d, 45, e, f, 45, g, k, 95, 50, 52, 58, r, s] = none
  exact rm_clk (clk_h (by decide +kernel))
theorem sp6 (h : ∀ z ∈ [a, b, c, d, e, f, g, k, p, q, r, s], z ∈ FG) : rm (Txt.slice (⟨#[a, b, c, d, 45, e, f, 45, g, k, 95, p, q, 58, r, s]⟩ : Str) none (some 14) ++ ("60" : Str)) = none := by
  have no95 := fun x hx => no95 (x := x) h hx
  rw [(show Txt.slice (⟨#[a, b, c, d, 45, e, f, 45, g, k, 95, p, q, 58, r, s]⟩ : Str) none (some 14) = ⟨#[a, b, c, d, 45, e, f, 45, g, k, 95, p, q, 58]⟩ from sl_to [a, b, c, d, 45, e, f, 45, g, k, 95, p, q, 58, r, s] 14)]
  show rmL [a, b, c, d, 45, e, f, 45, g, k, 95, p, q, 58, 54, 48] = none
  exact rm_clk (clk_n (by decide +kernel))
theorem sp7 (h : ∀ z ∈ [a, b, c, d, e, f, g, k, p, q, r, s], z ∈ FG) : rm (Txt.slice (⟨#[a, b, c, d, 45, e, f, 45, g, k, 95, p, q, 58, r, s]⟩ : Str) none (some 13) ++ ("." : Str) ++ Txt.slice (⟨#[a, b, c, d, 45, e, f, 45, g, k, 95, p, q, 58, r, s]⟩ : Str) (some 14) none) = none := by
  have no95 := fun x hx => no95 (x := x) h hx
  rw [(show Txt.slice (⟨#[a, b, c, d, 45, e, f, 45, g, k, 95, p, q, 58, r, s]⟩ : Str) none (some 13) = ⟨#[a, b, c, d, 45, e, f, 45, g, k, 95, p, q]⟩ from sl_to [a, b, c, d, 45, e, f, 45, g, k, 95, p, q, 58, r, s] 13), (show Txt.slice (⟨#[a, b, c, d, 45, e, f, 45, g, k, 95, p, q, 58, r, s]⟩ : Str) (some 14) none = ⟨#[r, s]⟩ from sl_from [a, b, c, d, 45, e, f, 45, g, k, 95, p, q, 58, r, s] 14)]
  show rmL [a, b, c, d, 45, e, f, 45, g, k, 95, p, q, 46, r, s] = none
  exact rm_clk (clk_sep (by decide))
theorem sp8 (h : ∀ z ∈ [a, b, c, d, e, f, g, k, p, q, r, s], z ∈ FG) : rm (Txt.slice (⟨#[a, b, c, d, 45, e, f, 45, g, k, 95, p, q, 58, r, s]⟩ : Str) none (some (-1))) = none := by
  have no95 := fun x hx => no95 (x := x) h hx
  rw [(show Txt.slice (⟨#[a, b, c, d, 45, e, f, 45, g, k, 95, p, q, 58, r, s]⟩ : Str) none (some (-1)) = ⟨#[a, b, c, d, 45, e, f, 45, g, k, 95, p, q, 58, r]⟩ from sl_m1 [a, b, c, d, 45, e, f, 45, g, k, 95, p, q, 58, r, s] (by show 1 ≤ 16; decide))]
  show rmL [a, b, c, d, 45, e, f, 45, g, k, 95, p, q, 58, r] = none
  exact rm_clk rfl
theorem sp9 (h : ∀ z ∈ [a, b, c, d, e, f, g, k, p, q, r, s], z ∈ FG) : rm ((⟨#[a, b, c, d, 45, e, f, 45, g, k, 95, p, q, 58, r, s]⟩ : Str) ++ ("0" : Str)) = none := by
  have no95 := fun x hx => no95 (x := x) h hx
  show rmL [a, b, c, d, 45, e, f, 45, g, k, 95, p, q, 58, r, s, 48] = none
  exact rm_clk rfl
theorem sp10 (h : ∀ z ∈ [a, b, c, d, e, f, g, k, p, q, r, s], z ∈ FG) : rm (Txt.slice (⟨#[a, b, c, d, 45, e, f, 45, g, k, 95, p, q, 58, r, s]⟩ : Str) none (some 10)) = none := by
  have no95 := fun x hx => no95 (x := x) h hx
  rw [(show Txt.slice (⟨#[a, b, c, d, 45, e, f, 45, g, k, 95, p, q, 58, r, s]⟩ : Str) none (some 10) = ⟨#[a, b, c, d, 45, e, f, 45, g, k]⟩ from sl_to [a, b, c, d, 45, e, f, 45, g, k, 95, p, q, 58, r, s] 10)]
  show rmL [a, b, c, d, 45, e, f, 45, g, k] = none
  exact rm_mark (by show ([] : List Nat) ≠ [95]; decide)
theorem sp11 (h : ∀ z ∈ [a, b, c, d, e, f, g, k, p, q, r, s], z ∈ FG) : rm (Txt.slice (⟨#[a, b, c, d, 45, e, f, 45, g, k, 95, p, q, 58, r, s]⟩ : Str) none (some 10) ++ ("_" : Str)) = none := by
  have no95 := fun x hx => no95 (x := x) h hx
  rw [(show Txt.slice (⟨#[a, b, c, d, 45, e, f, 45, g, k, 95, p, q, 58, r, s]⟩ : Str) none (some 10) = ⟨#[a, b, c, d, 45, e, f, 45, g, k]⟩ from sl_to [a, b, c, d, 45, e, f, 45, g, k, 95, p, q, 58, r, s] 10)]
  show rmL [a, b, c, d, 45, e, f, 45, g, k, 95] = none
  exact rm_clk rfl
theorem sp12 (h : ∀ z ∈ [a, b, c, d, e, f, g, k, p, q, r, s], z ∈ FG) : rm (Txt.slice (⟨#[a, b, c, d, 45, e, f, 45, g, k, 95, p, q, 58, r, s]⟩ : Str) none (some 11) ++ ("9" : Str) ++ Txt.slice (⟨#[a, b, c, d, 45, e, f, 45, g, k, 95, p, q, 58, r, s]⟩ : Str) (some 13) none) = none := by
  have no95 := fun x hx => no95 (x := x) h hx
  rw [(show Txt.slice (⟨#[a, b, c, d, 45, e, f, 45, g, k, 95, p, q, 58, r, s]⟩ : Str) none (some 11) = ⟨#[a, b, c, d, 45, e, f, 45, g, k, 95]⟩ from sl_to [a, b, c, d, 45, e, f, 45, g, k, 95, p, q, 58, r, s] 11), (show Txt.slice (⟨#[a, b, c, d, 45, e, f, 45, g, k, 95, p, q, 58, r, s]⟩ : Str) (some 13) none = ⟨#[58, r, s]⟩ from sl_from [a, b, c, d, 45, e, f, 45, g, k, 95, p, q, 58, r, s] 13)]
  show rmL [a, b, c, d, 45, e, f, 45, g, k, 95, 57, 58, r, s] = none
  exact rm_clk rfl
theorem sp13 (h : ∀ z ∈ [a, b, c, d, e, f, g, k, p, q, r, s], z ∈ FG) : rm (Txt.slice (⟨#[a, b, c, d, 45, e, f, 45, g, k, 95, p, q, 58, r, s]⟩ : Str) none (some 11) ++ ("+1" : Str) ++ Txt.slice (⟨#[a, b, c, d, 45, e, f, 45, g, k, 95, p, q, 58, r, s]⟩ : Str) (some 13) none) = none := by
  have no95 := fun x hx => no95 (x := x) h hx
  rw [(show Txt.slice (⟨#[a, b, c, d, 45, e, f, 45, g, k, 95, p, q, 58, r, s]⟩ : Str) none (some 11) = ⟨#[a, b, c, d, 45, e, f, 45, g, k, 95]⟩ from sl_to [a, b, c, d, 45, e, f, 45, g, k, 95, p, q, 58, r, s] 11), (show Txt.slice (⟨#[a, b, c, d, 45, e, f, 45, g, k, 95, p, q, 58, r, s]⟩ : Str) (some 13) none = ⟨#[58, r, s]⟩ from sl_from [a, b, c, d, 45, e, f, 45, g, k, 95, p, q, 58, r, s] 13)]
  show rmL [a, b, c, d, 45, e, f, 45, g, k, 95, 43, 49, 58, r, s] = none
  exact rm_clk (clk_fig 43 (by simp) (show ¬ 43 ∈ FG by decide +kernel))
theorem sp14 (h : ∀ z ∈ [a, b, c, d, e, f, g, k, p, q, r, s], z ∈ FG) : rm (("" : Str)) = none := by
  have no95 := fun x hx => no95 (x := x) h hx
  show rmL [] = none
  exact rm_mark (by decide)
theorem sp15 (h : ∀ z ∈ [a, b, c, d, e, f, g, k, p, q, r, s], z ∈ FG) : rm (Txt.slice (⟨#[a, b, c, d, 45, e, f, 45, g, k, 95, p, q, 58, r, s]⟩ : Str) none (some 4) ++ ("/" : Str) ++ Txt.slice (⟨#[a, b, c, d, 45, e, f, 45, g, k, 95, p, q, 58, r, s]⟩ : Str) (some 5) none) = none := by
  have no95 := fun x hx => no95 (x := x) h hx
  rw [(show Txt.slice (⟨#[a, b, c, d, 45, e, f, 45, g, k, 95, p, q, 58, r, s]⟩ : Str) none (some 4) = ⟨#[a, b, c, d]⟩ from sl_to [a, b, c, d, 45, e, f, 45, g, k, 95, p, q, 58, r, s] 4), (show Txt.slice (⟨#[a, b, c, d, 45, e, f, 45, g, k, 95, p, q, 58, r, s]⟩ : Str) (some 5) none = ⟨#[e, f, 45, g, k, 95, p, q, 58, r, s]⟩ from sl_from [a, b, c, d, 45, e, f, 45, g, k, 95, p, q, 58, r, s] 5)]
  show rmL [a, b, c, d, 47, e, f, 45, g, k, 95, p, q, 58, r, s] = none
  exact rm_day (due_sep (by decide))
theorem sp16 (h : ∀ z ∈ [a, b, c, d, e, f, g, k, p, q, r, s], z ∈ FG) : rm (Txt.slice (⟨#[a, b, c, d, 45, e, f, 45, g, k, 95, p, q, 58, r, s]⟩ : Str) none (some 5) ++ ("13" : Str) ++ Txt.slice (⟨#[a, b, c, d, 45, e, f, 45, g, k, 95, p, q, 58, r, s]⟩ : Str) (some 7) none) = none := by
  have no95 := fun x hx => no95 (x := x) h hx
  rw [(show Txt.slice (⟨#[a, b, c, d, 45, e, f, 45, g, k, 95, p, q, 58, r, s]⟩ : Str) none (some 5) = ⟨#[a, b, c, d, 45]⟩ from sl_to [a, b, c, d, 45, e, f, 45, g, k, 95, p, q, 58, r, s] 5), (show Txt.slice (⟨#[a, b, c, d, 45, e, f, 45, g, k, 95, p, q, 58, r, s]⟩ : Str) (some 7) none = ⟨#[45, g, k, 95, p, q, 58, r, s]⟩ from sl_from [a, b, c, d, 45, e, f, 45, g, k, 95, p, q, 58, r, s] 7)]
  show rmL [a, b, c, d, 45, 49, 51, 45, g, k, 95, p, q, 58, r, s] = none
  exact rm_day (due_num (fun z => absurd z.2.2.2.1 (by decide +kernel)))
theorem sp17 (h : ∀ z ∈ [a, b, c, d, e, f, g, k, p, q, r, s], z ∈ FG) : rm (Txt.slice (⟨#[a, b, c, d, 45, e, f, 45, g, k, 95, p, q, 58, r, s]⟩ : Str) none (some 8) ++ ("32" : Str) ++ Txt.slice (⟨#[a, b, c, d, 45, e, f, 45, g, k, 95, p, q, 58, r, s]⟩ : Str) (some 10) none) = none := by
  have no95 := fun x hx => no95 (x := x) h hx
  rw [(show Txt.slice (⟨#[a, b, c, d, 45, e, f, 45, g, k, 95, p, q, 58, r, s]⟩ : Str) none (some 8) = ⟨#[a, b, c, d, 45, e, f, 45]⟩ from sl_to [a, b, c, d, 45, e, f, 45, g, k, 95, p, q, 58, r, s] 8), (show Txt.slice (⟨#[a, b, c, d, 45, e, f, 45, g, k, 95, p, q, 58, r, s]⟩ : Str) (some 10) none = ⟨#[95, p, q, 58, r, s]⟩ from sl_from [a, b, c, d, 45, e, f, 45, g, k, 95, p, q, 58, r, s] 10)]
  show rmL [a, b, c, d, 45, e, f, 45, 51, 50, 95, p, q, 58, r, s] = none
  exact rm_day (due_num (fun z => absurd (Int.le_trans z.2.2.2.2.2 (DM.len_pos _ _).2) (by decide +kernel)))
theorem sp18 (h : ∀ z ∈ [a, b, c, d, e, f, g, k, p, q, r, s], z ∈ FG) : rm (("1999" : Str) ++ Txt.slice (⟨#[a, b, c, d, 45, e, f, 45, g, k, 95, p, q, 58, r, s]⟩ : Str) (some 4) none) = none := by
  have no95 := fun x hx => no95 (x := x) h hx
  rw [(show Txt.slice (⟨#[a, b, c, d, 45, e, f, 45, g, k, 95, p, q, 58, r, s]⟩ : Str) (some 4) none = ⟨#[45, e, f, 45, g, k, 95, p, q, 58, r, s]⟩ from sl_from [a, b, c, d, 45, e, f, 45, g, k, 95, p, q, 58, r, s] 4)]
  show rmL [49, 57, 57, 57, 45, e, f, 45, g, k, 95, p, q, 58, r, s] = none
  exact rm_day (due_num (fun z => absurd z.1 (by decide +kernel)))
theorem sp19 (h : ∀ z ∈ [a, b, c, d, e, f, g, k, p, q, r, s], z ∈ FG) : rm (("2400" : Str) ++ Txt.slice (⟨#[a, b, c, d, 45, e, f, 45, g, k, 95, p, q, 58, r, s]⟩ : Str) (some 4) none) = none := by
  have no95 := fun x hx => no95 (x := x) h hx
  rw [(show Txt.slice (⟨#[a, b, c, d, 45, e, f, 45, g, k, 95, p, q, 58, r, s]⟩ : Str) (some 4) none = ⟨#[45, e, f, 45, g, k, 95, p, q, 58, r, s]⟩ from sl_from [a, b, c, d, 45, e, f, 45, g, k, 95, p, q, 58, r, s] 4)]
  show rmL [50, 52, 48, 48, 45, e, f, 45, g, k, 95, p, q, 58, r, s] = none
  exact rm_day (due_num (fun z => absurd z.2.1 (by decide +kernel)))
theorem sp20 (h : ∀ z ∈ [a, b, c, d, e, f, g, k, p, q, r, s], z ∈ FG) : rm (Txt.slice (⟨#[a, b, c, d, 45, e, f, 45, g, k, 95, p, q, 58, r, s]⟩ : Str) none (some 5) ++ ("00" : Str) ++ Txt.slice (⟨#[a, b, c, d, 45, e, f, 45, g, k, 95, p, q, 58, r, s]⟩ : Str) (some 7) none) = none := by
  have no95 := fun x hx => no95 (x := x) h hx
  rw [(show Txt.slice (⟨#[a, b, c, d, 45, e, f, 45, g, k, 95, p, q, 58, r, s]⟩ : Str) none (some 5) = ⟨#[a, b, c, d, 45]⟩ from sl_to [a, b, c, d, 45, e, f, 45, g, k, 95, p, q, 58, r, s] 5), (show Txt.slice (⟨#[a, b, c, d, 45, e, f, 45, g, k, 95, p, q, 58, r, s]⟩ : Str) (some 7) none = ⟨#[45, g, k, 95, p, q, 58, r, s]⟩ from sl_from [a, b, c, d, 45, e, f, 45, g, k, 95, p, q, 58, r, s] 7)]
  show rmL [a, b, c, d, 45, 48, 48, 45, g, k, 95, p, q, 58, r, s] = none
  exact rm_day (due_num (fun z => absurd z.2.2.1 (by decide +kernel)))
theorem sp21 (h : ∀ z ∈ [a, b, c, d, e, f, g, k, p, q, r, s], z ∈ FG) : rm (Txt.slice (⟨#[a, b, c, d, 45, e, f, 45, g, k, 95, p, q, 58, r, s]⟩ : Str) none (some 8) ++ ("00" : Str) ++ Txt.slice (⟨#[a, b, c, d, 45, e, f, 45, g, k, 95, p, q, 58, r, s]⟩ : Str) (some 10) none) = none := by
  have no95 := fun x hx => no95 (x := x) h hx
  rw [(show Txt.slice (⟨#[a, b, c, d, 45, e, f, 45, g, k, 95, p, q, 58, r, s]⟩ : Str) none (some 8) = ⟨#[a, b, c, d, 45, e, f, 45]⟩ from sl_to [a, b, c, d, 45, e, f, 45, g, k, 95, p, q, 58, r, s] 8), (show Txt.slice (⟨#[a, b, c, d, 45, e, f, 45, g, k, 95, p, q, 58, r, s]⟩ : Str) (some 10) none = ⟨#[95, p, q, 58, r, s]⟩ from sl_from [a, b, c, d, 45, e, f, 45, g, k, 95, p, q, 58, r, s] 10)]
  show rmL [a, b, c, d, 45, e, f, 45, 48, 48, 95, p, q, 58, r, s] = none
  exact rm_day (due_num (fun z => absurd z.2.2.2.2.1 (by decide +kernel)))
theorem sp22 (h : ∀ z ∈ [a, b, c, d, e, f, g, k, p, q, r, s], z ∈ FG) : rm ((⟨#[a, b, c, d, 45, e, f, 45, g, k, 95, p, q, 58, r, s]⟩ : Str) ++ (":00" : Str)) = none := by
  have no95 := fun x hx => no95 (x := x) h hx
  show rmL [a, b, c, d, 45, e, f, 45, g, k, 95, p, q, 58, r, s, 58, 48, 48] = none
  exact rm_clk rfl
theorem sx0 (h : ∀ z ∈ [a, b, c, d, e, f, g, k, p, q, r, s], z ∈ FG) : rm (Txt.slice (⟨#[a, b, c, d, 45, e, f, 45, g, k, 95, p, q, 58, r, s]⟩ : Str) none (some 0) ++ ("x" : Str) ++ Txt.slice (⟨#[a, b, c, d, 45, e, f, 45, g, k, 95, p, q, 58, r, s]⟩ : Str) (some 1) none) = none := by
  have no95 := fun x hx => no95 (x := x) h hx
  rw [(show Txt.slice (⟨#[a, b, c, d, 45, e, f, 45, g, k, 95, p, q, 58, r, s]⟩ : Str) none (some 0) = ⟨#[]⟩ from sl_to [a, b, c, d, 45, e, f, 45, g, k, 95, p, q, 58, r, s] 0), (show Txt.slice (⟨#[a, b, c, d, 45, e, f, 45, g, k, 95, p, q, 58, r, s]⟩ : Str) (some 1) none = ⟨#[b, c, d, 45, e, f, 45, g, k, 95, p, q, 58, r, s]⟩ from sl_from [a, b, c, d, 45, e, f, 45, g, k, 95, p, q, 58, r, s] 1)]
  show rmL [120, b, c, d, 45, e, f, 45, g, k, 95, p, q, 58, r, s] = none
  exact rm_day (due_fig 120 (by simp) (show ¬ 120 ∈ FG by decide +kernel))
theorem sx1 (h : ∀ z ∈ [a, b, c, d, e, f, g, k, p, q, r, s], z ∈ FG) : rm (Txt.slice (⟨#[a, b, c, d, 45, e, f, 45, g, k, 95, p, q, 58, r, s]⟩ : Str) none (some 1) ++ ("x" : Str) ++ Txt.slice (⟨#[a, b, c, d, 45, e, f, 45, g, k, 95, p, q, 58, r, s]⟩ : Str) (some 2) none) = none := by
  have no95 := fun x hx => no95 (x := x) h hx
  rw [(show Txt.slice (⟨#[a, b, c, d, 45, e, f, 45, g, k, 95, p, q, 58, r, s]⟩ : Str) none (some 1) = ⟨#[a]⟩ from sl_to [a, b, c, d, 45, e, f, 45, g, k, 95, p, q, 58, r, s] 1), (show Txt.slice (⟨#[a, b, c, d, 45, e, f, 45, g, k, 95, p, q, 58, r, s]⟩ : Str) (some 2) none = ⟨#[c, d, 45, e, f, 45, g, k, 95, p, q, 58, r, s]⟩ from sl_from [a, b, c, d, 45, e, f, 45, g, k, 95, p, q, 58, r, s] 2)]
  show rmL [a, 120, c, d, 45, e, f, 45, g, k, 95, p, q, 58, r, s] = none
  exact rm_day (due_fig 120 (by simp) (show ¬ 120 ∈ FG by decide +kernel))
theorem sx2 (h : ∀ z ∈ [a, b, c, d, e, f, g, k, p, q, r, s], z ∈ FG) : rm (Txt.slice (⟨#[a, b, c, d, 45, e, f, 45, g, k, 95, p, q, 58, r, s]⟩ : Str) none (some 2) ++ ("x" : Str) ++ Txt.slice (⟨#[a, b, c, d, 45, e, f, 45, g, k, 95, p, q, 58, r, s]⟩ : Str) (some 3) none) = none := by
  have no95 := fun x hx => no95 (x := x) h hx
  rw [(show Txt.slice (⟨#[a, b, c, d, 45, e, f, 45, g, k, 95, p, q, 58, r, s]⟩ : Str) none (some 2) = ⟨#[a, b]⟩ from sl_to [a, b, c, d, 45, e, f, 45, g, k, 95, p, q, 58, r, s] 2), (show Txt.slice (⟨#[a, b, c, d, 45, e, f, 45, g, k, 95, p, q, 58, r, s]⟩ : Str) (some 3) none = ⟨#[d, 45, e, f, 45, g, k, 95, p, q, 58, r, s]⟩ from sl_from [a, b, c, d, 45, e, f, 45, g, k, 95, p, q, 58, r, s] 3)]
  show rmL [a, b, 120, d, 45, e, f, 45, g, k, 95, p, q, 58, r, s] = none
  exact rm_day (due_fig 120 (by simp) (show ¬ 120 ∈ FG by decide +kernel))
theorem sx3 (h : ∀ z ∈ [a, b, c, d, e, f, g, k, p, q, r, s], z ∈ FG) : rm (Txt.slice (⟨#[a, b, c, d, 45, e, f, 45, g, k, 95, p, q, 58, r, s]⟩ : Str) none (some 3) ++ ("x" : Str) ++ Txt.slice (⟨#[a, b, c, d, 45, e, f, 45, g, k, 95, p, q, 58, r, s]⟩ : Str) (some 4) none) = none := by
  have no95 := fun x hx => no95 (x := x) h hx
  rw [(show Txt.slice (⟨#[a, b, c, d, 45, e, f, 45, g, k, 95, p, q, 58, r, s]⟩ : Str) none (some 3) = ⟨#[a, b, c]⟩ from sl_to [a, b, c, d, 45, e, f, 45, g, k, 95, p, q, 58, r, s] 3), (show Txt.slice (⟨#[a, b, c, d, 45, e, f, 45, g, k, 95, p, q, 58, r, s]⟩ : Str) (some 4) none = ⟨#[45, e, f, 45, g, k, 95, p, q, 58, r, s]⟩ from sl_from [a, b, c, d, 45, e, f, 45, g, k, 95, p, q, 58, r, s] 4)]
  show rmL [a, b, c, 120, 45, e, f, 45, g, k, 95, p, q, 58, r, s] = none
  exact rm_day (due_fig 120 (by simp) (show ¬ 120 ∈ FG by decide +kernel))
theorem sx4 (h : ∀ z ∈ [a, b, c, d, e, f, g, k, p, q, r, s], z ∈ FG) : rm (Txt.slice (⟨#[a, b, c, d, 45, e, f, 45, g, k, 95, p, q, 58, r, s]⟩ : Str) none (some 4) ++ ("x" : Str) ++ Txt.slice (⟨#[a, b, c, d, 45, e, f, 45, g, k, 95, p, q, 58, r, s]⟩ : Str) (some 5) none) = none := by
  have no95 := fun x hx => no95 (x := x) h hx
  rw [(show Txt.slice (⟨#[a, b, c, d, 45, e, f, 45, g, k, 95, p, q, 58, r, s]⟩ : Str) none (some 4) = ⟨#[a, b, c, d]⟩ from sl_to [a, b, c, d, 45, e, f, 45, g, k, 95, p, q, 58, r, s] 4), (show Txt.slice (⟨#[a, b, c, d, 45, e, f, 45, g, k, 95, p, q, 58, r, s]⟩ : Str) (some 5) none = ⟨#[e, f, 45, g, k, 95, p, q, 58, r, s]⟩ from sl_from [a, b, c, d, 45, e, f, 45, g, k, 95, p, q, 58, r, s] 5)]
  show rmL [a, b, c, d, 120, e, f, 45, g, k, 95, p, q, 58, r, s] = none
  exact rm_day (due_sep (by decide))
theorem sx5 (h : ∀ z ∈ [a, b, c, d, e, f, g, k, p, q, r, s], z ∈ FG) : rm (Txt.slice (⟨#[a, b, c, d, 45, e, f, 45, g, k, 95, p, q, 58, r, s]⟩ : Str) none (some 5) ++ ("x" : Str) ++ Txt.slice (⟨#[a, b, c, d, 45, e, f, 45, g, k, 95, p, q, 58, r, s]⟩ : Str) (some 6) none) = none := by
  have no95 := fun x hx => no95 (x := x) h hx
  rw [(show Txt.slice (⟨#[a, b, c, d, 45, e, f, 45, g, k, 95, p, q, 58, r, s]⟩ : Str) none (some 5) = ⟨#[a, b, c, d, 45]⟩ from sl_to [a, b, c, d, 45, e, f, 45, g, k, 95, p, q, 58, r, s] 5), (show Txt.slice (⟨#[a, b, c, d, 45, e, f, 45, g, k, 95, p, q, 58, r, s]⟩ : Str) (some 6) none = ⟨#[f, 45, g, k, 95, p, q, 58, r, s]⟩ from sl_from [a, b, c, d, 45, e, f, 45, g, k, 95, p, q, 58, r, s] 6)]
  show rmL [a, b, c, d, 45, 120, f, 45, g, k, 95, p, q, 58, r, s] = none
  exact rm_day (due_fig 120 (by simp) (show ¬ 120 ∈ FG by decide +kernel))
theorem sx6 (h : ∀ z ∈ [a, b, c, d, e, f, g, k, p, q, r, s], z ∈ FG) : rm (Txt.slice (⟨#[a, b, c, d, 45, e, f, 45, g, k, 95, p, q, 58, r, s]⟩ : Str) none (some 6) ++ ("x" : Str) ++ Txt.slice (⟨#[a, b, c, d, 45, e, f, 45, g, k, 95, p, q, 58, r, s]⟩ : Str) (some 7) none) = none := by
  have no95 := fun x hx => no95 (x := x) h hx
  rw [(show Txt.slice (⟨#[a, b, c, d, 45, e, f, 45, g, k, 95, p, q, 58, r, s]⟩ : Str) none (some 6) = ⟨#[a, b, c, d, 45, e]⟩ from sl_to [a, b, c, d, 45, e, f, 45, g, k, 95, p, q, 58, r, s] 6), (show Txt.slice (⟨#[a, b, c, d, 45, e, f, 45, g, k, 95, p, q, 58, r, s]⟩ : Str) (some 7) none = ⟨#[45, g, k, 95, p, q, 58, r, s]⟩ from sl_from [a, b, c, d, 45, e, f, 45, g, k, 95, p, q, 58, r, s] 7)]
  show rmL [a, b, c, d, 45, e, 120, 45, g, k, 95, p, q, 58, r, s] = none
  exact rm_day (due_fig 120 (by simp) (show ¬ 120 ∈ FG by decide +kernel))
theorem sx7 (h : ∀ z ∈ [a, b, c, d, e, f, g, k, p, q, r, s], z ∈ FG) : rm (Txt.slice (⟨#[a, b, c, d, 45, e, f, 45, g, k, 95, p, q, 58, r, s]⟩ : Str) none (some 7) ++ ("x" : Str) ++ Txt.slice (⟨#[a, b, c, d, 45, e, f, 45, g, k, 95, p, q, 58, r, s]⟩ : Str) (some 8) none) = none := by
  have no95 := fun x hx => no95 (x := x) h hx
  rw [(show Txt.slice (⟨#[a, b, c, d, 45, e, f, 45, g, k, 95, p, q, 58, r, s]⟩ : Str) none (some 7) = ⟨#[a, b, c, d, 45, e, f]⟩ from sl_to [a, b, c, d, 45, e, f, 45, g, k, 95, p, q, 58, r, s] 7), (show Txt.slice (⟨#[a, b, c, d, 45, e, f, 45, g, k, 95, p, q, 58, r, s]⟩ : Str) (some 8) none = ⟨#[g, k, 95, p, q, 58, r, s]⟩ from sl_from [a, b, c, d, 45, e, f, 45, g, k, 95, p, q, 58, r, s] 8)]
  show rmL [a, b, c, d, 45, e, f, 120, g, k, 95, p, q, 58, r, s] = none
  exact rm_day (due_sep (by decide))
theorem sx8 (h : ∀ z ∈ [a, b, c, d, e, f, g, k, p, q, r, s], z ∈ FG) : rm (Txt.slice (⟨#[a, b, c, d, 45, e, f, 45, g, k, 95, p, q, 58, r, s]⟩ : Str) none (some 8) ++ ("x" : Str) ++ Txt.slice (⟨#[a, b, c, d, 45, e, f, 45, g, k, 95, p, q, 58, r, s]⟩ : Str) (some 9) none) = none := by
  have no95 := fun x hx => no95 (x := x) h hx
  rw [(show Txt.slice (⟨#[a, b, c, d, 45, e, f, 45, g, k, 95, p, q, 58, r, s]⟩ : Str) none (some 8) = ⟨#[a, b, c, d, 45, e, f, 45]⟩ from sl_to [a, b, c, d, 45, e, f, 45, g, k, 95, p, q, 58, r, s] 8), (show Txt.slice (⟨#[a, b, c, d, 45, e, f, 45, g, k, 95, p, q, 58, r, s]⟩ : Str) (some 9) none = ⟨#[k, 95, p, q, 58, r, s]⟩ from sl_from [a, b, c, d, 45, e, f, 45, g, k, 95, p, q, 58, r, s] 9)]
  show rmL [a, b, c, d, 45, e, f, 45, 120, k, 95, p, q, 58, r, s] = none
  exact rm_day (due_fig 120 (by simp) (show ¬ 120 ∈ FG by decide +kernel))
theorem sx9 (h : ∀ z ∈ [a, b, c, d, e, f, g, k, p, q, r, s], z ∈ FG) : rm (Txt.slice (⟨#[a, b, c, d, 45, e, f, 45, g, k, 95, p, q, 58, r, s]⟩ : Str) none (some 9) ++ ("x" : Str) ++ Txt.slice (⟨#[a, b, c, d, 45, e, f, 45, g, k, 95, p, q, 58, r, s]⟩ : Str) (some 10) none) = none := by
  have no95 := fun x hx => no95 (x := x) h hx
  rw [(show Txt.slice (⟨#[a, b, c, d, 45, e, f, 45, g, k, 95, p, q, 58, r, s]⟩ : Str) none (some 9) = ⟨#[a, b, c, d, 45, e, f, 45, g]⟩ from sl_to [a, b, c, d, 45, e, f, 45, g, k, 95, p, q, 58, r, s] 9), (show Txt.slice (⟨#[a, b, c, d, 45, e, f, 45, g, k, 95, p, q, 58, r, s]⟩ : Str) (some 10) none = ⟨#[95, p, q, 58, r, s]⟩ from sl_from [a, b, c, d, 45, e, f, 45, g, k, 95, p, q, 58, r, s] 10)]
  show rmL [a, b, c, d, 45, e, f, 45, g, 120, 95, p, q, 58, r, s] = none
  exact rm_day (due_fig 120 (by simp) (show ¬ 120 ∈ FG by decide +kernel))
theorem sx10 (h : ∀ z ∈ [a, b, c, d, e, f, g, k, p, q, r, s], z ∈ FG) : rm (Txt.slice (⟨#[a, b, c, d, 45, e, f, 45, g, k, 95, p, q, 58, r, s]⟩ : Str) none (some 10) ++ ("x" : Str) ++ Txt.slice (⟨#[a, b, c, d, 45, e, f, 45, g, k, 95, p, q, 58, r, s]⟩ : Str) (some 11) none) = none := by
  have no95 := fun x hx => no95 (x := x) h hx
  rw [(show Txt.slice (⟨#[a, b, c, d, 45, e, f, 45, g, k, 95, p, q, 58, r, s]⟩ : Str) none (some 10) = ⟨#[a, b, c, d, 45, e, f, 45, g, k]⟩ from sl_to [a, b, c, d, 45, e, f, 45, g, k, 95, p, q, 58, r, s] 10), (show Txt.slice (⟨#[a, b, c, d, 45, e, f, 45, g, k, 95, p, q, 58, r, s]⟩ : Str) (some 11) none = ⟨#[p, q, 58, r, s]⟩ from sl_from [a, b, c, d, 45, e, f, 45, g, k, 95, p, q, 58, r, s] 11)]
  show rmL [a, b, c, d, 45, e, f, 45, g, k, 120, p, q, 58, r, s] = none
  exact rm_mark (by show [120] ≠ [95]; decide)
theorem sx11 (h : ∀ z ∈ [a, b, c, d, e, f, g, k, p, q, r, s], z ∈ FG) : rm (Txt.slice (⟨#[a, b, c, d, 45, e, f, 45, g, k, 95, p, q, 58, r, s]⟩ : Str) none (some 11) ++ ("x" : Str) ++ Txt.slice (⟨#[a, b, c, d, 45, e, f, 45, g, k, 95, p, q, 58, r, s]⟩ : Str) (some 12) none) = none := by
  have no95 := fun x hx => no95 (x := x) h hx
  rw [(show Txt.slice (⟨#[a, b, c, d, 45, e, f, 45, g, k, 95, p, q, 58, r, s]⟩ : Str) none (some 11) = ⟨#[a, b, c, d, 45, e, f, 45, g, k, 95]⟩ from sl_to [a, b, c, d, 45, e, f, 45, g, k, 95, p, q, 58, r, s] 11), (show Txt.slice (⟨#[a, b, c, d, 45, e, f, 45, g, k, 95, p, q, 58, r, s]⟩ : Str) (some 12) none = ⟨#[q, 58, r, s]⟩ from sl_from [a, b, c, d, 45, e, f, 45, g, k, 95, p, q, 58, r, s] 12)]
  show rmL [a, b, c, d, 45, e, f, 45, g, k, 95, 120, q, 58, r, s] = none
  exact rm_clk (clk_fig 120 (by simp) (show ¬ 120 ∈ FG by decide +kernel))
theorem sx12 (h : ∀ z ∈ [a, b, c, d, e, f, g, k, p, q, r, s], z ∈ FG) : rm (Txt.slice (⟨#[a, b, c, d, 45, e, f, 45, g, k, 95, p, q, 58, r, s]⟩ : Str) none (some 12) ++ ("x" : Str) ++ Txt.slice (⟨#[a, b, c, d, 45, e, f, 45, g, k, 95, p, q, 58, r, s]⟩ : Str) (some 13) none) = none := by
  have no95 := fun x hx => no95 (x := x) h hx
  rw [(show Txt.slice (⟨#[a, b, c, d, 45, e, f, 45, g, k, 95, p, q, 58, r, s]⟩ : Str) none (some 12) = ⟨#[a, b, c, d, 45, e, f, 45, g, k, 95, p]⟩ from sl_to [a, b, c, d, 45, e, f, 45, g, k, 95, p, q, 58, r, s] 12), (show Txt.slice (⟨#[a, b, c, d, 45, e, f, 45, g, k, 95, p, q, 58, r, s]⟩ : Str) (some 13) none = ⟨#[58, r, s]⟩ from sl_from [a, b, c, d, 45, e, f, 45, g, k, 95, p, q, 58, r, s] 13)]
  show rmL [a, b, c, d, 45, e, f, 45, g, k, 95, p, 120, 58, r, s] = none
  exact rm_clk (clk_fig 120 (by simp) (show ¬ 120 ∈ FG by decide +kernel))
theorem sx13 (h : ∀ z ∈ [a, b, c, d, e, f, g, k, p, q, r, s], z ∈ FG) : rm (Txt.slice (⟨#[a, b, c, d, 45, e, f, 45, g, k, 95, p, q, 58, r, s]⟩ : Str) none (some 13) ++ ("x" : Str) ++ Txt.slice (⟨#[a, b, c, d, 45, e, f, 45, g, k, 95, p, q, 58, r, s]⟩ : Str) (some 14) none) = none := by
  have no95 := fun x hx => no95 (x := x) h hx
  rw [(show Txt.slice (⟨#[a, b, c, d, 45, e, f, 45, g, k, 95, p, q, 58, r, s]⟩ : Str) none (some 13) = ⟨#[a, b, c, d, 45, e, f, 45, g, k, 95, p, q]⟩ from sl_to [a, b, c, d, 45, e, f, 45, g, k, 95, p, q, 58, r, s] 13), (show Txt.slice (⟨#[a, b, c, d, 45, e, f, 45, g, k, 95, p, q, 58, r, s]⟩ : Str) (some 14) none = ⟨#[r, s]⟩ from sl_from [a, b, c, d, 45, e, f, 45, g, k, 95, p, q, 58, r, s] 14)]
  show rmL [a, b, c, d, 45, e, f, 45, g, k, 95, p, q, 120, r, s] = none
  exact rm_clk (clk_sep (by decide))
theorem sx14 (h : ∀ z ∈ [a, b, c, d, e, f, g, k, p, q, r, s], z ∈ FG) : rm (Txt.slice (⟨#[a, b, c, d, 45, e, f, 45, g, k, 95, p, q, 58, r, s]⟩ : Str) none (some 14) ++ ("x" : Str) ++ Txt.slice (⟨#[a, b, c, d, 45, e, f, 45, g, k, 95, p, q, 58, r, s]⟩ : Str) (some 15) none) = none := by
  have no95 := fun x hx => no95 (x := x) h hx
  rw [(show Txt.slice (⟨#[a, b, c, d, 45, e, f, 45, g, k, 95, p, q, 58, r, s]⟩ : Str) none (some 14) = ⟨#[a, b, c, d, 45, e, f, 45, g, k, 95, p, q, 58]⟩ from sl_to [a, b, c, d, 45, e, f, 45, g, k, 95, p, q, 58, r, s] 14), (show Txt.slice (⟨#[a, b, c, d, 45, e, f, 45, g, k, 95, p, q, 58, r, s]⟩ : Str) (some 15) none = ⟨#[s]⟩ from sl_from [a, b, c, d, 45, e, f, 45, g, k, 95, p, q, 58, r, s] 15)]
  show rmL [a, b, c, d, 45, e, f, 45, g, k, 95, p, q, 58, 120, s] = none
  exact rm_clk (clk_fig 120 (by simp) (show ¬ 120 ∈ FG by decide +kernel))
theorem sx15 (h : ∀ z ∈ [a, b, c, d, e, f, g, k, p, q, r, s], z ∈ FG) : rm (Txt.slice (⟨#[a, b, c, d, 45, e, f, 45, g, k, 95, p, q, 58, r, s]⟩ : Str) none (some 15) ++ ("x" : Str) ++ Txt.slice (⟨#[a, b, c, d, 45, e, f, 45, g, k, 95, p, q, 58, r, s]⟩ : Str) (some 16) none) = none := by
  have no95 := fun x hx => no95 (x := x) h hx
  rw [(show Txt.slice (⟨#[a, b, c, d, 45, e, f, 45, g, k, 95, p, q, 58, r, s]⟩ : Str) none (some 15) = ⟨#[a, b, c, d, 45, e, f, 45, g, k, 95, p, q, 58, r]⟩ from sl_to [a, b, c, d, 45, e, f, 45, g, k, 95, p, q, 58, r, s] 15), (show Txt.slice (⟨#[a, b, c, d, 45, e, f, 45, g, k, 95, p, q, 58, r, s]⟩ : Str) (some 16) none = ⟨#[]⟩ from sl_from [a, b, c, d, 45, e, f, 45, g, k, 95, p, q, 58, r, s] 16)]
  show rmL [a, b, c, d, 45, e, f, 45, g, k, 95, p, q, 58, r, 120] = none
  exact rm_clk (clk_fig 120 (by simp) (show ¬ 120 ∈ FG by decide +kernel))
end
theorem spoilt {a b c d e f g k p q r s : Nat} {i : Int} (i0 : 0 ≤ i) (i1 : i < 16) (h : ∀ z ∈ [a, b, c, d, e, f, g, k, p, q, r, s], z ∈ FG) {t : Str} (ht : t = (⟨#[a, b, c, d, 45, e, f, 45, g, k, 95, p, q, 58, r, s]⟩ : Str)) : ∀ x ∈ ([t ++ (" " : Str), (" " : Str) ++ t, Txt.slice t none (some 10) ++ (" " : Str) ++ Txt.slice t (some 11) none, Txt.slice t none (some 10) ++ ("__" : Str) ++ Txt.slice t (some 11) none, Txt.slice t none (some 10) ++ Txt.slice t (some 11) none, Txt.slice t none (some 11) ++ ("24" : Str) ++ Txt.slice t (some 13) none, Txt.slice t none (some 14) ++ ("60" : Str), Txt.slice t none (some 13) ++ ("." : Str) ++ Txt.slice t (some 14) none, Txt.slice t none (some (-1)), t ++ ("0" : Str), Txt.slice t none (some 10), Txt.slice t none (some 10) ++ ("_" : Str), Txt.slice t none (some 11) ++ ("9" : Str) ++ Txt.slice t (some 13) none, Txt.slice t none (some 11) ++ ("+1" : Str) ++ Txt.slice t (some 13) none, ("" : Str), Txt.slice t none (some 4) ++ ("/" : Str) ++ Txt.slice t (some 5) none, Txt.slice t none (some 5) ++ ("13" : Str) ++ Txt.slice t (some 7) none, Txt.slice t none (some 8) ++ ("32" : Str) ++ Txt.slice t (some 10) none, ("1999" : Str) ++ Txt.slice t (some 4) none, ("2400" : Str) ++ Txt.slice t (some 4) none, Txt.slice t none (some 5) ++ ("00" : Str) ++ Txt.slice t (some 7) none, Txt.slice t none (some 8) ++ ("00" : Str) ++ Txt.slice t (some 10) none, t ++ (":00" : Str), Txt.slice t none (some i) ++ ("x" : Str) ++ Txt.slice t (some (i + 1)) none] : List Str), rm x = none := by
  subst ht
  intro x hx
  simp only [List.mem_cons, List.not_mem_nil, or_false] at hx
  rcases hx with rfl | rfl | rfl | rfl | rfl | rfl | rfl | rfl | rfl | rfl | rfl | rfl | rfl | rfl | rfl | rfl | rfl | rfl | rfl | rfl | rfl | rfl | rfl | rfl
  · exact sp0 h
  · exact sp1 h
  · exact sp2 h
  · exact sp3 h
  · exact sp4 h
  · exact sp5 h
  · exact sp6 h
  · exact sp7 h
  · exact sp8 h
  · exact sp9 h
  · exact sp10 h
  · exact sp11 h
  · exact sp12 h
  · exact sp13 h
  · exact sp14 h
  · exact sp15 h
  · exact sp16 h
  · exact sp17 h
  · exact sp18 h
  · exact sp19 h
  · exact sp20 h
  · exact sp21 h
  · exact sp22 h
  · obtain ⟨n, rfl⟩ := Int.eq_ofNat_of_zero_le i0
    have hn : n < 16 := by omega
    match n, hn with
    | 0, _ => exact sx0 h
    | 1, _ => exact sx1 h
    | 2, _ => exact sx2 h
    | 3, _ => exact sx3 h
    | 4, _ => exact sx4 h
    | 5, _ => exact sx5 h
    | 6, _ => exact sx6 h
    | 7, _ => exact sx7 h
    | 8, _ => exact sx8 h
    | 9, _ => exact sx9 h
    | 10, _ => exact sx10 h
    | 11, _ => exact sx11 h
    | 12, _ => exact sx12 h
    | 13, _ => exact sx13 h
    | 14, _ => exact sx14 h
    | 15, _ => exact sx15 h
end DQ

set_option smartUnfolding false
namespace K81
open PySem L2
def top (i : Nat) : Stmt := PySem.Challenge.pw_hourhouse_k81_moments_as_texts.main.body.getD i (.Pass ⟨0, 0, 0, 0⟩)
abbrev s_is_made_of : Stmt := top 18
abbrev s_is_day : Stmt := top 26
abbrev s_is_leap : Stmt := top 27
abbrev s_year_begin : Stmt := top 30
abbrev s_clock_text : Stmt := top 40
abbrev s_law_cell : Stmt := top 45
abbrev s_law_mix : Stmt := top 46
abbrev s_law_lone : Stmt := top 47
abbrev s_law_two : Stmt := top 48
abbrev s_law_spoilt : Stmt := top 50
abbrev s_month_days : Stmt := top 28
abbrev s_month_begin : Stmt := top 31
abbrev s_looks_like_day : Stmt := top 36
abbrev s_read_clock : Stmt := top 42
abbrev s_law_moment : Stmt := top 52
abbrev s_is_date : Stmt := top 29
abbrev s_month_of : Stmt := top 32
abbrev s_day_of : Stmt := top 33
abbrev s_date_of : Stmt := top 34
abbrev s_day_text : Stmt := top 35
abbrev s_read_day : Stmt := top 37
abbrev s_law_due : Stmt := top 49
abbrev s_moment_text : Stmt := top 41
abbrev s_read_moment : Stmt := top 43
abbrev s_law_refused : Stmt := top 51
abbrev s_law : Stmt := top 53
set_option genInjectivity false
set_option genSizeOf false
structure Adr where
  f_is_made_of : Addr
  d_is_made_of : FuncData
  f_is_day : Addr
  d_is_day : FuncData
  f_is_leap : Addr
  d_is_leap : FuncData
  f_year_begin : Addr
  d_year_begin : FuncData
  f_clock_text : Addr
  d_clock_text : FuncData
  f_law_cell : Addr
  d_law_cell : FuncData
  f_law_mix : Addr
  d_law_mix : FuncData
  f_law_lone : Addr
  d_law_lone : FuncData
  f_law_two : Addr
  d_law_two : FuncData
  f_law_spoilt : Addr
  d_law_spoilt : FuncData
  f_month_days : Addr
  d_month_days : FuncData
  f_month_begin : Addr
  d_month_begin : FuncData
  f_looks_like_day : Addr
  d_looks_like_day : FuncData
  f_read_clock : Addr
  d_read_clock : FuncData
  f_law_moment : Addr
  d_law_moment : FuncData
  f_is_date : Addr
  d_is_date : FuncData
  f_month_of : Addr
  d_month_of : FuncData
  f_day_of : Addr
  d_day_of : FuncData
  f_date_of : Addr
  d_date_of : FuncData
  f_day_text : Addr
  d_day_text : FuncData
  f_read_day : Addr
  d_read_day : FuncData
  f_law_due : Addr
  d_law_due : FuncData
  f_moment_text : Addr
  d_moment_text : FuncData
  f_read_moment : Addr
  d_read_moment : FuncData
  f_law_refused : Addr
  d_law_refused : FuncData
  f_law : Addr
  d_law : FuncData
  c_DAYS_AHEAD : Addr
  c_MONTH_LENGTHS : Addr
  x_Busy : Addr
  x_Closed : Addr
  x_Full : Addr
  x_HouseError : Addr
  x_Known : Addr
  x_NoDay : Addr
  x_NoHand : Addr
  x_NoLetter : Addr
  x_NoMeeting : Addr
  x_NoPlace : Addr
  x_NoRule : Addr
  x_NoSpan : Addr
  x_NoText : Addr
  x_NoThing : Addr
  x_NoWord : Addr
structure Txt (K : PySem.W.Frag) (mg : Str → Option Value) (a : Adr) : Prop where
  F_is_made_of : Fun K "is_made_of" "is_made_of" s_is_made_of a.f_is_made_of a.d_is_made_of
  m_is_made_of : mg "is_made_of" = some (.ref a.f_is_made_of)
  b_is_made_of : Binds K a.d_is_made_of ["text", "signs"] []
  F_is_day : Fun K "is_day" "is_day" s_is_day a.f_is_day a.d_is_day
  m_is_day : mg "is_day" = some (.ref a.f_is_day)
  b_is_day : Binds K a.d_is_day ["number"] []
  F_is_leap : Fun K "is_leap" "is_leap" s_is_leap a.f_is_leap a.d_is_leap
  m_is_leap : mg "is_leap" = some (.ref a.f_is_leap)
  b_is_leap : Binds K a.d_is_leap ["year"] []
  F_year_begin : Fun K "year_begin" "year_begin" s_year_begin a.f_year_begin a.d_year_begin
  m_year_begin : mg "year_begin" = some (.ref a.f_year_begin)
  b_year_begin : Binds K a.d_year_begin ["year"] []
  F_clock_text : Fun K "clock_text" "clock_text" s_clock_text a.f_clock_text a.d_clock_text
  m_clock_text : mg "clock_text" = some (.ref a.f_clock_text)
  b_clock_text : Binds K a.d_clock_text ["minute"] []
  F_law_cell : Fun K "_law_cell" "_law_cell" s_law_cell a.f_law_cell a.d_law_cell
  m_law_cell : mg "_law_cell" = some (.ref a.f_law_cell)
  b_law_cell : Binds K a.d_law_cell ["_law_script", "_law_k"] []
  F_law_mix : Fun K "_law_mix" "_law_mix" s_law_mix a.f_law_mix a.d_law_mix
  m_law_mix : mg "_law_mix" = some (.ref a.f_law_mix)
  b_law_mix : Binds K a.d_law_mix ["_law_state", "_law_cell_here"] []
  F_law_lone : Fun K "_law_lone" "_law_lone" s_law_lone a.f_law_lone a.d_law_lone
  m_law_lone : mg "_law_lone" = some (.ref a.f_law_lone)
  b_law_lone : Binds K a.d_law_lone ["_law_e"] []
  F_law_two : Fun K "_law_two" "_law_two" s_law_two a.f_law_two a.d_law_two
  m_law_two : mg "_law_two" = some (.ref a.f_law_two)
  b_law_two : Binds K a.d_law_two ["_law_number"] []
  F_law_spoilt : Fun K "_law_spoilt" "_law_spoilt" s_law_spoilt a.f_law_spoilt a.d_law_spoilt
  m_law_spoilt : mg "_law_spoilt" = some (.ref a.f_law_spoilt)
  b_law_spoilt : Binds K a.d_law_spoilt ["_law_text", "_law_way", "_law_at"] []
  F_month_days : Fun K "month_days" "month_days" s_month_days a.f_month_days a.d_month_days
  m_month_days : mg "month_days" = some (.ref a.f_month_days)
  b_month_days : Binds K a.d_month_days ["year", "month"] []
  F_month_begin : Fun K "month_begin" "month_begin" s_month_begin a.f_month_begin a.d_month_begin
  m_month_begin : mg "month_begin" = some (.ref a.f_month_begin)
  b_month_begin : Binds K a.d_month_begin ["number"] []
  F_looks_like_day : Fun K "looks_like_day" "looks_like_day" s_looks_like_day a.f_looks_like_day a.d_looks_like_day
  m_looks_like_day : mg "looks_like_day" = some (.ref a.f_looks_like_day)
  b_looks_like_day : Binds K a.d_looks_like_day ["text"] []
  F_read_clock : Fun K "read_clock" "read_clock" s_read_clock a.f_read_clock a.d_read_clock
  m_read_clock : mg "read_clock" = some (.ref a.f_read_clock)
  b_read_clock : Binds K a.d_read_clock ["text"] []
  F_law_moment : Fun K "_law_moment" "_law_moment" s_law_moment a.f_law_moment a.d_law_moment
  m_law_moment : mg "_law_moment" = some (.ref a.f_law_moment)
  b_law_moment : Binds K a.d_law_moment ["_law_state"] []
  F_is_date : Fun K "is_date" "is_date" s_is_date a.f_is_date a.d_is_date
  m_is_date : mg "is_date" = some (.ref a.f_is_date)
  b_is_date : Binds K a.d_is_date ["year", "month", "date"] []
  F_month_of : Fun K "month_of" "month_of" s_month_of a.f_month_of a.d_month_of
  m_month_of : mg "month_of" = some (.ref a.f_month_of)
  b_month_of : Binds K a.d_month_of ["day"] []
  F_day_of : FunD K "day_of" "day_of" s_day_of a.f_day_of a.d_day_of
  m_day_of : mg "day_of" = some (.ref a.f_day_of)
  b_day_of : Binds K a.d_day_of ["year", "month", "date"] []
  F_date_of : Fun K "date_of" "date_of" s_date_of a.f_date_of a.d_date_of
  m_date_of : mg "date_of" = some (.ref a.f_date_of)
  b_date_of : Binds K a.d_date_of ["day"] []
  F_day_text : Fun K "day_text" "day_text" s_day_text a.f_day_text a.d_day_text
  m_day_text : mg "day_text" = some (.ref a.f_day_text)
  b_day_text : Binds K a.d_day_text ["day"] []
  F_read_day : Fun K "read_day" "read_day" s_read_day a.f_read_day a.d_read_day
  m_read_day : mg "read_day" = some (.ref a.f_read_day)
  b_read_day : Binds K a.d_read_day ["text"] []
  F_law_due : Fun K "_law_due" "_law_due" s_law_due a.f_law_due a.d_law_due
  m_law_due : mg "_law_due" = some (.ref a.f_law_due)
  b_law_due : Binds K a.d_law_due ["_law_moment_here"] []
  F_moment_text : Fun K "moment_text" "moment_text" s_moment_text a.f_moment_text a.d_moment_text
  m_moment_text : mg "moment_text" = some (.ref a.f_moment_text)
  b_moment_text : Binds K a.d_moment_text ["moment"] []
  F_read_moment : Fun K "read_moment" "read_moment" s_read_moment a.f_read_moment a.d_read_moment
  m_read_moment : mg "read_moment" = some (.ref a.f_read_moment)
  b_read_moment : Binds K a.d_read_moment ["text"] []
  F_law_refused : Fun K "_law_refused" "_law_refused" s_law_refused a.f_law_refused a.d_law_refused
  m_law_refused : mg "_law_refused" = some (.ref a.f_law_refused)
  b_law_refused : Binds K a.d_law_refused ["_law_work", "_law_given"] []
  F_law : Fun K "law" "law" s_law a.f_law a.d_law
  m_law : mg "law" = some (.ref a.f_law)
  b_law : Binds K a.d_law ["_law_script"] []
  g_DAYS : ∃ t, mg "DAYS" = some (.int 146097 t)
  g_DAYS_AHEAD : mg "DAYS_AHEAD" = some (.ref a.c_DAYS_AHEAD)
  s_DAYS_AHEAD : ∀ H : Hp, SqT K H a.c_DAYS_AHEAD [.int 0, .int 31, .int 59, .int 90, .int 120, .int 151, .int 181, .int 212, .int 243, .int 273, .int 304, .int 334]
  g_DAY_MINUTES : ∃ t, mg "DAY_MINUTES" = some (.int 1440 t)
  g_FIGURES : ∃ t, mg "FIGURES" = some (.str "0123456789" t)
  g_FIRST_YEAR : ∃ t, mg "FIRST_YEAR" = some (.int 2000 t)
  g_LAST_YEAR : ∃ t, mg "LAST_YEAR" = some (.int 2399 t)
  g_MONTHS : ∃ t, mg "MONTHS" = some (.int 4800 t)
  g_MONTH_LENGTHS : mg "MONTH_LENGTHS" = some (.ref a.c_MONTH_LENGTHS)
  s_MONTH_LENGTHS : ∀ H : Hp, SqT K H a.c_MONTH_LENGTHS [.int 31, .int 28, .int 31, .int 30, .int 31, .int 30, .int 31, .int 31, .int 30, .int 31, .int 30, .int 31]
  m_Busy : mg "Busy" = some (.ref a.x_Busy)
  m_Closed : mg "Closed" = some (.ref a.x_Closed)
  m_Full : mg "Full" = some (.ref a.x_Full)
  m_HouseError : mg "HouseError" = some (.ref a.x_HouseError)
  c_HouseError : Catch K a.x_HouseError
  m_Known : mg "Known" = some (.ref a.x_Known)
  m_NoDay : mg "NoDay" = some (.ref a.x_NoDay)
  m_NoHand : mg "NoHand" = some (.ref a.x_NoHand)
  m_NoLetter : mg "NoLetter" = some (.ref a.x_NoLetter)
  m_NoMeeting : mg "NoMeeting" = some (.ref a.x_NoMeeting)
  m_NoPlace : mg "NoPlace" = some (.ref a.x_NoPlace)
  m_NoRule : mg "NoRule" = some (.ref a.x_NoRule)
  m_NoSpan : mg "NoSpan" = some (.ref a.x_NoSpan)
  m_NoText : mg "NoText" = some (.ref a.x_NoText)
  x_NoText : PySem.W.excIn K a.x_NoText vE "ValueError.__new__" = true
  m_NoThing : mg "NoThing" = some (.ref a.x_NoThing)
  m_NoWord : mg "NoWord" = some (.ref a.x_NoWord)
  s_NoText_HouseError : PySem.W.mroIn K a.x_NoText (.ref a.x_HouseError) = some true
  e_NoText : ExC K a.x_NoText
  k_NoText_NoDay : PySem.W.kitOne K (.ref a.x_NoText) (.ref a.x_NoDay) = some false
  k_NoText_NoText : PySem.W.kitOne K (.ref a.x_NoText) (.ref a.x_NoText) = some true
  k_NoText_NoRule : PySem.W.kitOne K (.ref a.x_NoText) (.ref a.x_NoRule) = some false
  k_NoText_NoPlace : PySem.W.kitOne K (.ref a.x_NoText) (.ref a.x_NoPlace) = some false
  k_NoText_NoSpan : PySem.W.kitOne K (.ref a.x_NoText) (.ref a.x_NoSpan) = some false
  k_NoText_NoThing : PySem.W.kitOne K (.ref a.x_NoText) (.ref a.x_NoThing) = some false
  k_NoText_Known : PySem.W.kitOne K (.ref a.x_NoText) (.ref a.x_Known) = some false
  k_NoText_Full : PySem.W.kitOne K (.ref a.x_NoText) (.ref a.x_Full) = some false
  k_NoText_NoLetter : PySem.W.kitOne K (.ref a.x_NoText) (.ref a.x_NoLetter) = some false
  k_NoText_NoHand : PySem.W.kitOne K (.ref a.x_NoText) (.ref a.x_NoHand) = some false
  k_NoText_NoWord : PySem.W.kitOne K (.ref a.x_NoText) (.ref a.x_NoWord) = some false
  k_NoText_NoMeeting : PySem.W.kitOne K (.ref a.x_NoText) (.ref a.x_NoMeeting) = some false
  k_NoText_Closed : PySem.W.kitOne K (.ref a.x_NoText) (.ref a.x_Closed) = some false
  k_NoText_Busy : PySem.W.kitOne K (.ref a.x_NoText) (.ref a.x_Busy) = some false
  k_NoText_ValueError : PySem.W.kitOne K (.ref a.x_NoText) (.type "ValueError") = some true
  n_ValueError : mg "ValueError" = none
  n_all : mg "all" = none
  n_bool : mg "bool" = none
  n_divmod : mg "divmod" = none
  n_int : mg "int" = none
  n_isinstance : mg "isinstance" = none
  n_len : mg "len" = none
  n_str : mg "str" = none

/-- the promises -/
def sp_is_leap : Sp := fun vs H Q _ => ∃ y : Int, vs = [.int y] ∧ Q (.bl (DM.leap y)) H
def sp_month_days : Sp := fun vs H Q _ => ∃ y m : Int, vs = [.int y, .int m] ∧ 1 ≤ m ∧ m ≤ 12 ∧ Q (.int (DM.len y m)) H
def sp_is_date : Sp := fun vs H Q _ => ∃ y m d : Int, vs = [.int y, .int m, .int d] ∧ Q (.bl (decide (2000 ≤ y ∧ y ≤ 2399 ∧ 1 ≤ m ∧ m ≤ 12 ∧ 1 ≤ d ∧ d ≤ DM.len y m))) H
def sp_year_begin : Sp := fun vs H Q _ => ∃ y : Int, vs = [.int y] ∧ Q (.int (DM.year y)) H
def sp_month_begin : Sp := fun vs H Q _ => ∃ n : Int, vs = [.int n] ∧ Q (.int (DM.mb n)) H
def sp_month_of : Sp := fun vs H Q _ => ∃ d : Int, vs = [.int d] ∧ Q (.int (DM.mo d)) H
def sp_day_of : Sp := fun vs H Q _ => ∃ y m d : Int, vs = [.int y, .int m, .int d] ∧ 2000 ≤ y ∧ y ≤ 2399 ∧ 1 ≤ m ∧ m ≤ 12 ∧ 1 ≤ d ∧ d ≤ DM.len y m ∧ Q (.int (DM.mb ((y - 2000) * 12 + m - 1) + d - 1)) H
def sp_is_made_of : Sp := fun vs H Q _ => ∃ t g : Str, vs = [.str t, .str g] ∧ t.length ≤ 1000 ∧ ∀ H', Same H H' → Q (.bl (t.cps.toList.all fun c => decide (c ∈ g.cps.toList))) H'
def sp_is_day : Sp := fun vs H Q _ => ∃ d : Int, vs = [.int d] ∧ Q (.bl (decide (0 ≤ d ∧ d < 146097))) H
def sp_date_of : Sp := fun vs H Q E => ∃ d : Int, vs = [.int d] ∧ 0 ≤ d ∧ d < 146097 ∧ ∀ p H', Same H H' → H p = none → H' p = some (.tup [.int (2000 + DM.mo d / 12), .int (DM.mo d % 12 + 1), .int (d - DM.mb (DM.mo d) + 1)]) → Q (.ref p) H'
def sp_day_text : Sp := fun vs H Q E => ∃ d : Int, vs = [.int d] ∧ 0 ≤ d ∧ d < 146097 ∧ ∀ H', Same H H' → Q (.str (DT.dtx d)) H'
def sp_looks_like_day : Sp := fun vs H Q _ => ∃ t : Str, vs = [.str t] ∧ t.length ≤ 1000 ∧ ∀ H', Same H H' → Q (.bl (DK.look t)) H'
def sp_read_day (x : Addr) : Sp := fun vs H Q E => ∃ t : Str, vs = [.str t] ∧ t.length ≤ 1000 ∧ ((∃ d, DK.due t = some d ∧ ∀ H', Same H H' → Q (.int d) H') ∨ (DK.due t = none ∧ ∀ H', Same H H' → E (.ref x) none H'))
def sp_read_clock (x : Addr) : Sp := fun vs H Q E => ∃ t : Str, vs = [.str t] ∧ t.length ≤ 1000 ∧ ((∃ d, DQ.clk t = some d ∧ ∀ H', Same H H' → Q (.int d) H') ∨ (DQ.clk t = none ∧ ∀ H', Same H H' → E (.ref x) none H'))
def sp_read_moment (x : Addr) : Sp := fun vs H Q E => ∃ t : Str, vs = [.str t] ∧ t.length ≤ 1000 ∧ ((∃ d, DQ.rm t = some d ∧ ∀ H', Same H H' → Q (.int d) H') ∨ (DQ.rm t = none ∧ ∀ H', Same H H' → E (.ref x) none H'))
def sp_clock_text : Sp := fun vs H Q _ => ∃ k : Int, vs = [.int k] ∧ 0 ≤ k ∧ k < 1440 ∧ Q (.str (DQ.ck k)) H
def sp_moment_text (x : Addr) : Sp := fun vs H Q E => ∃ m : Int, vs = [.int m] ∧ ((0 ≤ m ∧ m < 146097 * 1440 ∧ ∀ H', Same H H' → Q (.str (DQ.mt m)) H') ∨ ((m < 0 ∨ 146097 * 1440 ≤ m) ∧ E (.ref x) none H))
def sp_law_cell (K : PySem.W.Frag) : Sp := fun vs H Q _ => ∃ (p : Addr) (ns : List Int) (k : Int), vs = [.ref p, .int k] ∧ SqL K H p (ns.map V.int) ∧ 0 ≤ k ∧ ∀ v : Int, Q (.int v) H
def sp_law_mix : Sp := fun vs H Q _ => ∃ (st : Addr) (n c : Int), vs = [.ref st, .int c] ∧ H st = some (.lst [.int n]) ∧ ∀ n' v : Int, 0 ≤ v → Q (.int v) (upd H st (.lst [.int n']))
def sp_law_lone (x : Addr) : Sp := fun vs H Q _ => ∃ (e : Addr), vs = [.ref e] ∧ H e = some (exo e x) ∧ Q (.bl true) H
def sp_law_two : Sp := fun vs H Q _ => ∃ n : Nat, vs = [.int (n : Int)] ∧ n < 60 ∧ Q (.str (DT.tt n)) H
def sp_law_due : Sp := fun vs H Q _ => ∃ m : Int, vs = [.int m] ∧ 0 ≤ m ∧ m < 146097 * 1440 ∧ ∀ H', Same H H' → Q (.str (DQ.mt m)) H'
def sp_law_spoilt : Sp := fun vs H Q _ => ∃ (t : Str) (w i : Int), vs = [.str t, .int w, .int i] ∧ (∃ a b c d e f g k p q r s : Nat, t = (⟨#[a, b, c, d, 45, e, f, 45, g, k, 95, p, q, 58, r, s]⟩ : Str) ∧ ∀ z ∈ [a, b, c, d, e, f, g, k, p, q, r, s], z ∈ DK.FG) ∧ 0 ≤ i ∧ i < 16 ∧ ∀ (r : Str) H', DQ.rm r = none → r.length ≤ 1000 → Same H H' → Q (.str r) H'
def sp_law_refused (fm fr : Addr) : Sp := fun vs H Q _ => ((∃ m : Int, vs = [.ref fm, .int m] ∧ (m < 0 ∨ 146097 * 1440 ≤ m)) ∨ (∃ t : Str, vs = [.ref fr, .str t] ∧ t.length ≤ 1000 ∧ DQ.rm t = none)) ∧ ∀ H', Same H H' → Q (.bl true) H'
def sp_law_moment : Sp := fun vs H Q _ => ∃ (st : Addr) (n : Int), vs = [.ref st] ∧ H st = some (.lst [.int n]) ∧ ∀ (x n' : Int) H', 0 ≤ x → x < 146097 * 1440 → SameX st H H' → H' st = some (.lst [.int n']) → Q (.int x) H'
theorem vstr {i j : Str} : decide (V.str i = V.str j) = decide (i = j) := decide_eq_decide.mpr (by rw [V.str.injEq])
def sp_law (K : PySem.W.Frag) : Sp := fun vs H Q _ => ∃ (a : Addr) (ns : List Int), vs = [.ref a] ∧ SqL K H a (ns.map V.int) ∧ ns.length ≤ 63 ∧ ∀ H', Q (.bl true) H'
theorem ml_all : ∀ k : Nat, k < 12 → ∀ b : Bool, ¬ (k = 1 ∧ b = true) → atI [V.int 31, .int 28, .int 31, .int 30, .int 31, .int 30, .int 31, .int 31, .int 30, .int 31, .int 30, .int 31] (((k : Int) + 1) - 1) = some (.int (if (k : Int) + 1 = 2 then (if b then 29 else 28) else if (k : Int) + 1 = 1 ∨ (k : Int) + 1 = 3 ∨ (k : Int) + 1 = 5 ∨ (k : Int) + 1 = 7 ∨ (k : Int) + 1 = 8 ∨ (k : Int) + 1 = 10 ∨ (k : Int) + 1 = 12 then 31 else 30)) := by decide +kernel
theorem ml_at {y m : Int} (h1 : 1 ≤ m) (h2 : m ≤ 12) (h : ¬ (m = 2 ∧ DM.leap y = true)) : atI [V.int 31, .int 28, .int 31, .int 30, .int 31, .int 30, .int 31, .int 31, .int 30, .int 31, .int 30, .int 31] (m - 1) = some (.int (DM.len y m)) := by
  obtain ⟨k, hk⟩ := Int.eq_ofNat_of_zero_le (show 0 ≤ m - 1 by omega)
  have e : m = (k : Int) + 1 := by omega
  subst e
  exact ml_all k (by omega) (DM.leap y) (fun z => h ⟨by omega, z.2⟩)
theorem da_all : ∀ k : Nat, k < 12 → atI [V.int 0, .int 31, .int 59, .int 90, .int 120, .int 151, .int 181, .int 212, .int 243, .int 273, .int 304, .int 334] ((k : Int) + 1 - 1) = some (.int (DM.ahead ((k : Int) + 1))) := by decide +kernel
theorem da_at (n : Int) : atI [V.int 0, .int 31, .int 59, .int 90, .int 120, .int 151, .int 181, .int 212, .int 243, .int 273, .int 304, .int 334] (n % 12 + 1 - 1) = some (.int (DM.ahead (n % 12 + 1))) := by
  obtain ⟨k, hk⟩ := Int.eq_ofNat_of_zero_le (show 0 ≤ n % 12 by omega)
  rw [hk]
  exact da_all k (by omega)
theorem vint {i j : Int} : decide (V.int i = V.int j) = decide (i = j) := decide_eq_decide.mpr (by rw [V.int.injEq])
end K81

namespace K81
open PySem L2
section
variable {P : Program} {w : World} {K : PySem.W.Frag} {mg : Str → Option Value} {base : Heap} {a : Adr}
theorem sc_is_made_of : FnScope ["text", "signs"] ["text", "signs"] (defScope s_is_made_of) := ⟨rfl, rfl, rfl, by decide +kernel, rfl, by decide +kernel, by decide +kernel⟩

theorem ok_is_made_of (T : Txt K mg a) : FnOk P w K mg base CX0 true 1 a.f_is_made_of a.d_is_made_of ["text", "signs"] (sp_is_made_of) := by
  refine T.F_is_made_of.ok sc_is_made_of (fun vs H Q E h => ?_) (fun cdv A outer s H vs Q E hr h => ?_)
  · obtain ⟨t, g, rfl, _⟩ := h; rfl
  · obtain ⟨t, g, rfl, hl, k⟩ := h
    refine ⟨_, (pss_one (ps_ret (pe_callB (call_allK (K := K) rfl rfl) rfl T.n_all (by decide +kernel) (pa_cons (pe_comp (N := ["sign", "signs"]) (cap := [none, some 1]) (by show CompScope (defScope s_is_made_of) _ ["text", "signs"] _ _; exact ⟨rfl, by decide +kernel, by decide +kernel, by decide +kernel, by decide +kernel, rfl, by decide +kernel⟩) rfl (pi_str (pv 0)) (fun C s H fp => ⟨(pg_name (i := 0) (by show (["sign", "signs"] : List Str).Nodup; decide +kernel) rfl (Or.inl rfl) (.inr rfl)), pf_none, (pe_cmpR op_in_chr (pv 0) (pv 1) (by with_unfolding_all rfl))⟩)) pa_nil)))), ?_⟩
    refine ⟨_, rfl, t, rfl, ?_⟩
    refine comp_pure (seq_str t H) (fun _ => true) (fun v => V.bl (match v with | .str y => decide (y.cps.toList.headD 0 ∈ g.cps.toList) | _ => false)) ?_ ?_ ?_ ?_
    · rw [List.length_map, Array.length_toList]
      exact Nat.le_trans hl (by decide)
    · exact fun x _ H' _ R hR => hR H' (Same.refl _)
    · intro x hx _ H' _ R hR
      obtain ⟨c, _, rfl⟩ := List.mem_map.mp hx
      exact ⟨_, rfl, _, rfl, c, g, rfl, rfl, hR H' (Same.refl _)⟩
    · intro D H' sm _ hD
      refine ⟨D, t.cps.toList.map fun c => decide (c ∈ g.cps.toList), rfl, SqL.of ?_, ?_⟩
      · rw [hD, List.filter_eq_self.mpr (fun _ _ => rfl), List.map_map, List.map_map]
        rfl
      · have := k H' sm
        rw [List.all_map]
        exact this
end
end K81

namespace K81
open PySem L2
section
variable {P : Program} {w : World} {K : PySem.W.Frag} {mg : Str → Option Value} {base : Heap} {a : Adr}
theorem sc_is_day : FnScope ["number"] ["number"] (defScope s_is_day) := ⟨rfl, rfl, rfl, by decide +kernel, rfl, by decide +kernel, by decide +kernel⟩

theorem ok_is_day (T : Txt K mg a) : FnOk P w K mg base CX0 true 1 a.f_is_day a.d_is_day ["number"] (sp_is_day) := by
  refine T.F_is_day.ok sc_is_day (fun vs H Q E h => ?_) (fun cdv A outer s H vs Q E hr h => ?_)
  · obtain ⟨d, rfl, _⟩ := h; rfl
  · obtain ⟨d, rfl, k⟩ := h
    refine ⟨_, (pss_one (ps_ret (pe_chain op_le op_lt pe_int (pv 0) (pe_globI rfl T.g_DAYS)))), ?_⟩
    refine ⟨_, rfl, _, _, rfl, rfl, _, rfl, ?_⟩
    refine ite2 (fun e => ?_) (fun e => ?_)
    · have e' : 0 ≤ d := of_decide_eq_true e
      rw [show decide (0 ≤ d ∧ d < 146097) = decide (d < 146097) from decide_eq_decide.mpr ⟨fun z => z.2, fun z => ⟨e', z⟩⟩] at k
      exact ⟨_, _, rfl, rfl, k⟩
    · rw [decide_eq_false (fun z => e (decide_eq_true z.1))] at k
      exact k
end
end K81

namespace K81
open PySem L2
section
variable {P : Program} {w : World} {K : PySem.W.Frag} {mg : Str → Option Value} {base : Heap} {a : Adr}
theorem sc_is_leap : FnScope ["year"] ["year"] (defScope s_is_leap) := ⟨rfl, rfl, rfl, by decide +kernel, rfl, by decide +kernel, by decide +kernel⟩

theorem ok_is_leap (T : Txt K mg a) : FnOk P w K mg base CX0 true 1 a.f_is_leap a.d_is_leap ["year"] (sp_is_leap) := by
  refine T.F_is_leap.ok sc_is_leap (fun vs H Q E h => ?_) (fun cdv A outer s H vs Q E hr h => ?_)
  · obtain ⟨y, rfl, _⟩ := h; rfl
  · obtain ⟨y, rfl, k⟩ := h
    refine ⟨_, (pss_one (ps_ret (pe_or (pe_cmpR op_eq (pe_op op_mod (pv 0) pe_int) pe_int (nomark _)) (pe_one (pe_and (pe_cmpR op_eq (pe_op op_mod (pv 0) pe_int) pe_int (nomark _)) (pe_one (pe_cmpR op_ne (pe_op op_mod (pv 0) pe_int) pe_int (nomark _)))))))), ?_⟩
    refine ⟨_, rfl, _, _, rfl, rfl, (by show (0 : Int) < 400; decide), rfl, _, rfl, ?_⟩
    refine ite2 (fun h1 => ?_) (fun h1 => ?_)
    · rw [vint] at h1
      have e : DM.leap y = true := by rw [DM.leap_iff]; exact .inl (of_decide_eq_true h1)
      rw [e] at k
      exact k
    · rw [vint] at h1
      refine ⟨_, rfl, _, _, rfl, rfl, (by show (0 : Int) < 4; decide), rfl, _, rfl, ?_⟩
      refine ite2 (fun h2 => ?_) (fun h2 => ?_)
      · rw [vint] at h2
        refine ⟨_, rfl, _, _, rfl, rfl, (by show (0 : Int) < 100; decide), rfl, ?_⟩
        have e : DM.leap y = !decide (V.int (y % 100) = V.int 0) := by
          unfold DM.leap
          rw [vint, h2]
          simp at h1
          simp [h1]
        rw [e] at k
        exact k
      · rw [vint] at h2
        have e : DM.leap y = false := by
          unfold DM.leap
          simp at h1 h2
          simp [h1, h2]
        rw [e] at k
        exact k
end
end K81

namespace K81
open PySem L2
section
variable {P : Program} {w : World} {K : PySem.W.Frag} {mg : Str → Option Value} {base : Heap} {a : Adr}
theorem sc_year_begin : FnScope ["year", "past", "leaps"] ["year"] (defScope s_year_begin) := ⟨rfl, rfl, rfl, by decide +kernel, rfl, by decide +kernel, by decide +kernel⟩

theorem ok_year_begin (T : Txt K mg a) : FnOk P w K mg base CX0 true 1 a.f_year_begin a.d_year_begin ["year"] (sp_year_begin) := by
  refine T.F_year_begin.ok sc_year_begin (fun vs H Q E h => ?_) (fun cdv A outer s H vs Q E hr h => ?_)
  · obtain ⟨y, rfl, _⟩ := h; rfl
  · obtain ⟨y, rfl, k⟩ := h
    refine ⟨_, (pss_cons (ps_set (i := 1) sc_year_begin.nd rfl (Or.inl rfl) (pe_op op_sub (pv 0) (pe_globI rfl T.g_FIRST_YEAR)))
      (pss_cons (ps_set (i := 2) sc_year_begin.nd rfl (Or.inl rfl) (pe_op op_add (pe_op op_sub (pe_op op_fdiv (pe_op op_add (pv 1) pe_int) pe_int) (pe_op op_fdiv (pe_op op_add (pv 1) pe_int) pe_int)) (pe_op op_fdiv (pe_op op_add (pv 1) pe_int) pe_int)))
      (pss_one (ps_ret (pe_op op_add (pe_op op_mul (pv 1) pe_int) (pv 2)))))), ?_⟩
    refine ⟨_, rfl, _, _, rfl, rfl, ?_⟩
    refine ⟨_, rfl, _, _, rfl, rfl, _, _, rfl, rfl, ⟨by decide, by decide⟩, _, rfl, _, _, rfl, rfl, _, _, rfl, rfl, ⟨by decide, by decide⟩, _, _, rfl, rfl, _, rfl, _, _, rfl, rfl, _, _, rfl, rfl, ⟨by decide, by decide⟩, _, _, rfl, rfl, ?_⟩
    refine ⟨_, rfl, _, _, rfl, rfl, .inr ⟨by decide, by decide⟩, _, rfl, _, _, rfl, rfl, ?_⟩
    have e : DM.year y = (y - 2000) * 365 + ((y - 2000 + 3) / 4 - (y - 2000 + 99) / 100 + (y - 2000 + 399) / 400) := by unfold DM.year; omega
    rw [e] at k
    exact k
end
end K81

namespace K81
open PySem L2
section
variable {P : Program} {w : World} {K : PySem.W.Frag} {mg : Str → Option Value} {base : Heap} {a : Adr}
theorem sc_clock_text : FnScope ["minute", "hours", "minutes"] ["minute"] (defScope s_clock_text) := ⟨rfl, rfl, rfl, by decide +kernel, rfl, by decide +kernel, by decide +kernel⟩

theorem ok_clock_text (T : Txt K mg a) : FnOk P w K mg base CX0 true 1 a.f_clock_text a.d_clock_text ["minute"] (sp_clock_text) := by
  refine T.F_clock_text.ok sc_clock_text (fun vs H Q E h => ?_) (fun cdv A outer s H vs Q E hr h => ?_)
  · obtain ⟨k0, rfl, _⟩ := h; rfl
  · obtain ⟨k0, rfl, h0, h1, k⟩ := h
    refine ⟨_, (pss_cons (ps_set (i := 1) sc_clock_text.nd rfl (Or.inl rfl) (pe_bm PySem.F.plainAttrs_str PySem.F.slot_str_zfill PySem.F.type_str_zfill mt_zfill (pe_callTy call_str_int rfl T.n_str (by decide +kernel) (pa_cons (pe_op op_fdiv (pv 0) pe_int) pa_nil)) (pa_cons pe_int pa_nil)))
      (pss_cons (ps_set (i := 2) sc_clock_text.nd rfl (Or.inl rfl) (pe_bm PySem.F.plainAttrs_str PySem.F.slot_str_zfill PySem.F.type_str_zfill mt_zfill (pe_callTy call_str_int rfl T.n_str (by decide +kernel) (pa_cons (pe_op op_mod (pv 0) pe_int) pa_nil)) (pa_cons pe_int pa_nil)))
      (pss_one (ps_ret (pe_join (pj_val (pv 1) (pj_str (pj_val (pv 2) pj_nil)))))))), ?_⟩
    obtain ⟨h, n, hh, hn, eh, en⟩ : ∃ h n : Nat, h < 60 ∧ n < 60 ∧ k0 / 60 = (h : Int) ∧ k0 % 60 = (n : Int) := ⟨(k0 / 60).toNat, (k0 % 60).toNat, by omega, by omega, by omega, by omega⟩
    refine ⟨_, rfl, _, _, rfl, rfl, ⟨by decide, by decide⟩, _, rfl, ?_⟩
    rw [eh]
    refine ⟨DQ.log60 h hh, rfl, _, _, rfl, rfl, by decide +kernel, ?_⟩
    rw [DQ.tt60_of h hh]
    refine ⟨_, rfl, _, _, rfl, rfl, (by show (0 : Int) < 60; decide), _, rfl, ?_⟩
    rw [en]
    refine ⟨DQ.log60 n hn, rfl, _, _, rfl, rfl, by decide +kernel, ?_⟩
    rw [DQ.tt60_of n hn]
    unfold DQ.ck at k
    rw [eh, en] at k
    exact ⟨_, rfl, _, rfl, (by show 2 ≤ sizeLine; decide), (by show 2 ≤ sizeLine; decide), (by show 3 ≤ sizeLine; decide), _, rfl, _, rfl, (by show 2 ≤ sizeLine; decide), (by show 5 ≤ sizeLine; decide), (by show 5 ≤ sizeLine; decide), k⟩
end
end K81

namespace K81
open PySem L2
section
variable {P : Program} {w : World} {K : PySem.W.Frag} {mg : Str → Option Value} {base : Heap} {a : Adr}
theorem sc_law_cell : FnScope ["_law_script", "_law_k"] ["_law_script", "_law_k"] (defScope s_law_cell) := ⟨rfl, rfl, rfl, by decide +kernel, rfl, by decide +kernel, by decide +kernel⟩

theorem ok_law_cell (T : Txt K mg a) : FnOk P w K mg base CX0 true 1 a.f_law_cell a.d_law_cell ["_law_script", "_law_k"] (sp_law_cell K) := by
  refine T.F_law_cell.ok sc_law_cell (fun vs H Q E h => ?_) (fun cdv A outer s H vs Q E hr h => ?_)
  · obtain ⟨p, ns, i, rfl, _⟩ := h; rfl
  · obtain ⟨p, ns, i, rfl, hS, h0, k⟩ := h
    refine ⟨_, (pss_cons (ps_if (pt_cmpR op_lt (pv 1) (pe_callB (call_len_seqK (K := K) rfl) rfl T.n_len (by decide +kernel) (pa_cons (pv 0) pa_nil)) (nomark _)) (pss_one (ps_ret (pe_ix (ix_listK (K := K) rfl) (pv 0) (pv 1) (fun _ _ => rfl)))) pss_nil)
      (pss_one (ps_ret pe_int))), ?_⟩
    refine ⟨_, rfl, _, rfl, p, _, rfl, .inl hS, _, _, rfl, rfl, _, rfl, ?_⟩
    refine ite2 (fun e1 => ?_) (fun e1 => k 0)
    have e1' := of_decide_eq_true e1
    rw [List.length_map] at e1'
    obtain ⟨t, _, et⟩ := atI_ints h0 e1'
    exact ⟨_, rfl, _, rfl, p, _, _, _, rfl, rfl, hS, et, k t⟩
end
end K81

namespace K81
open PySem L2
section
variable {P : Program} {w : World} {K : PySem.W.Frag} {mg : Str → Option Value} {base : Heap} {a : Adr}
theorem sc_law_mix : FnScope ["_law_state", "_law_cell_here"] ["_law_state", "_law_cell_here"] (defScope s_law_mix) := ⟨rfl, rfl, rfl, by decide +kernel, rfl, by decide +kernel, by decide +kernel⟩

theorem ok_law_mix (T : Txt K mg a) : FnOk P w K mg base CX0 true 1 a.f_law_mix a.d_law_mix ["_law_state", "_law_cell_here"] (sp_law_mix) := by
  refine T.F_law_mix.ok sc_law_mix (fun vs H Q E h => ?_) (fun cdv A outer s H vs Q E hr h => ?_)
  · obtain ⟨st, n, c, rfl, _⟩ := h; rfl
  · obtain ⟨st, n, c, rfl, hst, k⟩ := h
    refine ⟨_, (pss_cons (ps_asg (pe_op op_mod (pe_op op_add (pe_op op_add (pe_op op_mul (pe_ix (ix_listK (K := K) rfl) (pv 0) pe_int (fun _ _ => rfl)) pe_int) (pe_op op_mul (pv 1) pe_int)) pe_int) pe_int) (pg_sub (pv 0) pe_int set_list))
      (pss_one (ps_ret (pe_op op_fdiv (pe_op op_mod (pe_op op_mul (pe_ix (ix_listK (K := K) rfl) (pv 0) pe_int (fun _ _ => rfl)) (pe_ix (ix_listK (K := K) rfl) (pv 0) pe_int (fun _ _ => rfl))) pe_int) pe_int)))), ?_⟩
    refine ⟨_, rfl, st, _, _, _, rfl, rfl, SqL.of hst, rfl, _, _, rfl, rfl, .inr ⟨by decide, by decide⟩, _, rfl, _, _, rfl, rfl, .inr ⟨by decide, by decide⟩, _, _, rfl, rfl, _, _, rfl, rfl, _, _, rfl, rfl, (by show (0 : Int) < 2147483647; decide), ?_⟩
    refine ⟨_, rfl, st, _, _, 0, rfl, rfl, hst, rfl, ?_⟩
    have b0 : 0 ≤ (n * 48271 + c * 16807 + 11) % 2147483647 := Int.emod_nonneg _ (by decide)
    have b1 : (n * 48271 + c * 16807 + 11) % 2147483647 < 2147483647 := Int.emod_lt_of_pos _ (by decide)
    exact ⟨_, rfl, st, _, _, _, rfl, rfl, SqL.of upd_same, rfl, _, rfl, st, _, _, _, rfl, rfl, SqL.of upd_same, rfl, _, _, rfl, rfl, .inl ⟨by omega, by omega⟩, _, _, rfl, rfl, (by show (0 : Int) < 2147483647; decide), _, _, rfl, rfl, ⟨by decide, by decide⟩, k _ _ (Int.ediv_nonneg (Int.emod_nonneg _ (by decide)) (by decide))⟩
end
end K81

namespace K81
open PySem L2
section
variable {P : Program} {w : World} {K : PySem.W.Frag} {mg : Str → Option Value} {base : Heap} {a : Adr}
theorem sc_law_lone : FnScope ["_law_e", "_law_found"] ["_law_e"] (defScope s_law_lone) := ⟨rfl, rfl, rfl, by decide +kernel, rfl, by decide +kernel, by decide +kernel⟩

theorem ok_law_lone (T : Txt K mg a) : FnOk P w K mg base CX0 false 1 a.f_law_lone a.d_law_lone ["_law_e"] (sp_law_lone a.x_NoText) := by
  refine T.F_law_lone.ok sc_law_lone (fun vs H Q E h => ?_) (fun cdv A outer s H vs Q E hr h => ?_)
  · obtain ⟨e, rfl, _⟩ := h; rfl
  · obtain ⟨e, rfl, he, k⟩ := h
    refine ⟨_, (pss_cons (ps_set (i := 1) sc_law_lone.nd rfl (Or.inl rfl) (pe_op op_add (pe_op op_add (pe_callTy call_int1 rfl T.n_int (by decide +kernel) (pa_cons (pe_callB (call_isiEK (K := K) rfl) rfl T.n_isinstance (by decide +kernel) (pa_cons (pv 0) (pa_cons (pe_globR rfl T.m_NoDay) pa_nil))) pa_nil)) (pe_callTy call_int1 rfl T.n_int (by decide +kernel) (pa_cons (pe_callB (call_isiEK (K := K) rfl) rfl T.n_isinstance (by decide +kernel) (pa_cons (pv 0) (pa_cons (pe_globR rfl T.m_NoText) pa_nil))) pa_nil))) (pe_callTy call_int1 rfl T.n_int (by decide +kernel) (pa_cons (pe_callB (call_isiEK (K := K) rfl) rfl T.n_isinstance (by decide +kernel) (pa_cons (pv 0) (pa_cons (pe_globR rfl T.m_NoRule) pa_nil))) pa_nil))))
      (pss_cons (ps_set (i := 1) sc_law_lone.nd rfl (Or.inl rfl) (pe_op op_add (pe_op op_add (pe_op op_add (pv 1) (pe_callTy call_int1 rfl T.n_int (by decide +kernel) (pa_cons (pe_callB (call_isiEK (K := K) rfl) rfl T.n_isinstance (by decide +kernel) (pa_cons (pv 0) (pa_cons (pe_globR rfl T.m_NoPlace) pa_nil))) pa_nil))) (pe_callTy call_int1 rfl T.n_int (by decide +kernel) (pa_cons (pe_callB (call_isiEK (K := K) rfl) rfl T.n_isinstance (by decide +kernel) (pa_cons (pv 0) (pa_cons (pe_globR rfl T.m_NoSpan) pa_nil))) pa_nil))) (pe_callTy call_int1 rfl T.n_int (by decide +kernel) (pa_cons (pe_callB (call_isiEK (K := K) rfl) rfl T.n_isinstance (by decide +kernel) (pa_cons (pv 0) (pa_cons (pe_globR rfl T.m_NoThing) pa_nil))) pa_nil))))
      (pss_cons (ps_set (i := 1) sc_law_lone.nd rfl (Or.inl rfl) (pe_op op_add (pe_op op_add (pe_op op_add (pv 1) (pe_callTy call_int1 rfl T.n_int (by decide +kernel) (pa_cons (pe_callB (call_isiEK (K := K) rfl) rfl T.n_isinstance (by decide +kernel) (pa_cons (pv 0) (pa_cons (pe_globR rfl T.m_Known) pa_nil))) pa_nil))) (pe_callTy call_int1 rfl T.n_int (by decide +kernel) (pa_cons (pe_callB (call_isiEK (K := K) rfl) rfl T.n_isinstance (by decide +kernel) (pa_cons (pv 0) (pa_cons (pe_globR rfl T.m_Full) pa_nil))) pa_nil))) (pe_callTy call_int1 rfl T.n_int (by decide +kernel) (pa_cons (pe_callB (call_isiEK (K := K) rfl) rfl T.n_isinstance (by decide +kernel) (pa_cons (pv 0) (pa_cons (pe_globR rfl T.m_NoLetter) pa_nil))) pa_nil))))
      (pss_cons (ps_set (i := 1) sc_law_lone.nd rfl (Or.inl rfl) (pe_op op_add (pe_op op_add (pe_op op_add (pv 1) (pe_callTy call_int1 rfl T.n_int (by decide +kernel) (pa_cons (pe_callB (call_isiEK (K := K) rfl) rfl T.n_isinstance (by decide +kernel) (pa_cons (pv 0) (pa_cons (pe_globR rfl T.m_NoHand) pa_nil))) pa_nil))) (pe_callTy call_int1 rfl T.n_int (by decide +kernel) (pa_cons (pe_callB (call_isiEK (K := K) rfl) rfl T.n_isinstance (by decide +kernel) (pa_cons (pv 0) (pa_cons (pe_globR rfl T.m_NoWord) pa_nil))) pa_nil))) (pe_callTy call_int1 rfl T.n_int (by decide +kernel) (pa_cons (pe_callB (call_isiEK (K := K) rfl) rfl T.n_isinstance (by decide +kernel) (pa_cons (pv 0) (pa_cons (pe_globR rfl T.m_NoMeeting) pa_nil))) pa_nil))))
      (pss_cons (ps_set (i := 1) sc_law_lone.nd rfl (Or.inl rfl) (pe_op op_add (pe_op op_add (pv 1) (pe_callTy call_int1 rfl T.n_int (by decide +kernel) (pa_cons (pe_callB (call_isiEK (K := K) rfl) rfl T.n_isinstance (by decide +kernel) (pa_cons (pv 0) (pa_cons (pe_globR rfl T.m_Closed) pa_nil))) pa_nil))) (pe_callTy call_int1 rfl T.n_int (by decide +kernel) (pa_cons (pe_callB (call_isiEK (K := K) rfl) rfl T.n_isinstance (by decide +kernel) (pa_cons (pv 0) (pa_cons (pe_globR rfl T.m_Busy) pa_nil))) pa_nil))))
      (pss_one (ps_ret (pe_and (pe_callB (call_isiEK (K := K) rfl) rfl T.n_isinstance (by decide +kernel) (pa_cons (pv 0) (pa_cons (pe_bltn (v := .ty "ValueError") rfl T.n_ValueError (by decide +kernel) rfl) pa_nil))) (pe_one (pe_cmpR op_eq (pv 1) pe_int (nomark _))))))))))), ?_⟩
    refine ⟨_, rfl, e, _, _, _, _, rfl, he, T.e_NoText, .inl ⟨_, rfl, rfl⟩, T.k_NoText_NoDay, .inr ⟨_, rfl, _, rfl, e, _, _, _, _, rfl, he, T.e_NoText, .inl ⟨_, rfl, rfl⟩, T.k_NoText_NoText, .inr ⟨_, rfl, _, _, rfl, rfl, _, rfl, e, _, _, _, _, rfl, he, T.e_NoText, .inl ⟨_, rfl, rfl⟩, T.k_NoText_NoRule, .inr ⟨_, rfl, _, _, rfl, rfl, ?_⟩⟩⟩⟩
    refine ⟨_, rfl, _, rfl, e, _, _, _, _, rfl, he, T.e_NoText, .inl ⟨_, rfl, rfl⟩, T.k_NoText_NoPlace, .inr ⟨_, rfl, _, _, rfl, rfl, _, rfl, e, _, _, _, _, rfl, he, T.e_NoText, .inl ⟨_, rfl, rfl⟩, T.k_NoText_NoSpan, .inr ⟨_, rfl, _, _, rfl, rfl, _, rfl, e, _, _, _, _, rfl, he, T.e_NoText, .inl ⟨_, rfl, rfl⟩, T.k_NoText_NoThing, .inr ⟨_, rfl, _, _, rfl, rfl, ?_⟩⟩⟩⟩
    refine ⟨_, rfl, _, rfl, e, _, _, _, _, rfl, he, T.e_NoText, .inl ⟨_, rfl, rfl⟩, T.k_NoText_Known, .inr ⟨_, rfl, _, _, rfl, rfl, _, rfl, e, _, _, _, _, rfl, he, T.e_NoText, .inl ⟨_, rfl, rfl⟩, T.k_NoText_Full, .inr ⟨_, rfl, _, _, rfl, rfl, _, rfl, e, _, _, _, _, rfl, he, T.e_NoText, .inl ⟨_, rfl, rfl⟩, T.k_NoText_NoLetter, .inr ⟨_, rfl, _, _, rfl, rfl, ?_⟩⟩⟩⟩
    refine ⟨_, rfl, _, rfl, e, _, _, _, _, rfl, he, T.e_NoText, .inl ⟨_, rfl, rfl⟩, T.k_NoText_NoHand, .inr ⟨_, rfl, _, _, rfl, rfl, _, rfl, e, _, _, _, _, rfl, he, T.e_NoText, .inl ⟨_, rfl, rfl⟩, T.k_NoText_NoWord, .inr ⟨_, rfl, _, _, rfl, rfl, _, rfl, e, _, _, _, _, rfl, he, T.e_NoText, .inl ⟨_, rfl, rfl⟩, T.k_NoText_NoMeeting, .inr ⟨_, rfl, _, _, rfl, rfl, ?_⟩⟩⟩⟩
    refine ⟨_, rfl, _, rfl, e, _, _, _, _, rfl, he, T.e_NoText, .inl ⟨_, rfl, rfl⟩, T.k_NoText_Closed, .inr ⟨_, rfl, _, _, rfl, rfl, _, rfl, e, _, _, _, _, rfl, he, T.e_NoText, .inl ⟨_, rfl, rfl⟩, T.k_NoText_Busy, .inr ⟨_, rfl, _, _, rfl, rfl, ?_⟩⟩⟩
    exact ⟨_, rfl, e, _, _, _, _, rfl, he, T.e_NoText, .inr ⟨_, rfl, rfl⟩, T.k_NoText_ValueError, _, rfl, iteT ⟨_, rfl, rfl, k⟩⟩
end
end K81

namespace K81
open PySem L2
section
variable {P : Program} {w : World} {K : PySem.W.Frag} {mg : Str → Option Value} {base : Heap} {a : Adr}
theorem sc_law_two : FnScope ["_law_number"] ["_law_number"] (defScope s_law_two) := ⟨rfl, rfl, rfl, by decide +kernel, rfl, by decide +kernel, by decide +kernel⟩

theorem ok_law_two (T : Txt K mg a) : FnOk P w K mg base CX0 true 1 a.f_law_two a.d_law_two ["_law_number"] (sp_law_two) := by
  refine T.F_law_two.ok sc_law_two (fun vs H Q E h => ?_) (fun cdv A outer s H vs Q E hr h => ?_)
  · obtain ⟨n, rfl, _⟩ := h; rfl
  · obtain ⟨n, rfl, hn, k⟩ := h
    refine ⟨_, (pss_one (ps_ret (pe_op op_add_str (pe_op op_mul_str pe_str (pe_callTy call_int1 rfl T.n_int (by decide +kernel) (pa_cons (pe_cmpR op_lt (pv 0) pe_int (nomark _)) pa_nil))) (pe_callTy call_str_int rfl T.n_str (by decide +kernel) (pa_cons (pv 0) pa_nil))))), ?_⟩
    have q := DQ.two_len n hn
    rw [← DQ.tt60_law n hn] at k
    exact ⟨_, rfl, _, _, rfl, rfl, .inr ⟨_, rfl, _, _, rfl, rfl, DQ.two_ok _, _, rfl, _, rfl, DQ.log60 n hn, _, _, rfl, rfl, Nat.le_trans q (by decide), k⟩⟩
end
end K81

namespace K81
open PySem L2
section
variable {P : Program} {w : World} {K : PySem.W.Frag} {mg : Str → Option Value} {base : Heap} {a : Adr}
theorem sc_law_spoilt : FnScope ["_law_text", "_law_way", "_law_at", "_law_some"] ["_law_text", "_law_way", "_law_at"] (defScope s_law_spoilt) := ⟨rfl, rfl, rfl, by decide +kernel, rfl, by decide +kernel, by decide +kernel⟩

theorem ok_law_spoilt (T : Txt K mg a) : FnOk P w K mg base CX0 true 1 a.f_law_spoilt a.d_law_spoilt ["_law_text", "_law_way", "_law_at"] (sp_law_spoilt) := by
  refine T.F_law_spoilt.ok sc_law_spoilt (fun vs H Q E h => ?_) (fun cdv A outer s H vs Q E hr h => ?_)
  · obtain ⟨t, w, i, rfl, _⟩ := h; rfl
  · obtain ⟨t, w, i, rfl, ⟨a0, b, c, d, e, f, g, k0, p, q, r, s0, ht, hf⟩, i0, i1, k⟩ := h
    refine ⟨_, (pss_cons (ps_set (i := 3) sc_law_spoilt.nd rfl (Or.inl rfl) (pe_lst (pa_cons (pe_op op_add_str (pv 0) pe_str) (pa_cons (pe_op op_add_str pe_str (pv 0)) (pa_cons (pe_op op_add_str (pe_op op_add_str (pe_slice sl_str (pv 0) po_none (po_some pe_int)) pe_str) (pe_slice sl_str (pv 0) (po_some pe_int) po_none)) (pa_cons (pe_op op_add_str (pe_op op_add_str (pe_slice sl_str (pv 0) po_none (po_some pe_int)) pe_str) (pe_slice sl_str (pv 0) (po_some pe_int) po_none)) (pa_cons (pe_op op_add_str (pe_slice sl_str (pv 0) po_none (po_some pe_int)) (pe_slice sl_str (pv 0) (po_some pe_int) po_none)) pa_nil)))))))
      (pss_cons (ps_set (i := 3) sc_law_spoilt.nd rfl (Or.inl rfl) (pe_op op_cat (pv 3) (pe_lst (pa_cons (pe_op op_add_str (pe_op op_add_str (pe_slice sl_str (pv 0) po_none (po_some pe_int)) pe_str) (pe_slice sl_str (pv 0) (po_some pe_int) po_none)) (pa_cons (pe_op op_add_str (pe_slice sl_str (pv 0) po_none (po_some pe_int)) pe_str) (pa_cons (pe_op op_add_str (pe_op op_add_str (pe_slice sl_str (pv 0) po_none (po_some pe_int)) pe_str) (pe_slice sl_str (pv 0) (po_some pe_int) po_none)) (pa_cons (pe_slice sl_str (pv 0) po_none (po_some (pe_un un_neg pe_int))) (pa_cons (pe_op op_add_str (pv 0) pe_str) pa_nil))))))))
      (pss_cons (ps_set (i := 3) sc_law_spoilt.nd rfl (Or.inl rfl) (pe_op op_cat (pv 3) (pe_lst (pa_cons (pe_slice sl_str (pv 0) po_none (po_some pe_int)) (pa_cons (pe_op op_add_str (pe_slice sl_str (pv 0) po_none (po_some pe_int)) pe_str) (pa_cons (pe_op op_add_str (pe_op op_add_str (pe_slice sl_str (pv 0) po_none (po_some pe_int)) pe_str) (pe_slice sl_str (pv 0) (po_some pe_int) po_none)) (pa_cons (pe_op op_add_str (pe_op op_add_str (pe_slice sl_str (pv 0) po_none (po_some pe_int)) pe_str) (pe_slice sl_str (pv 0) (po_some pe_int) po_none)) (pa_cons pe_str pa_nil))))))))
      (pss_cons (ps_set (i := 3) sc_law_spoilt.nd rfl (Or.inl rfl) (pe_op op_cat (pv 3) (pe_lst (pa_cons (pe_op op_add_str (pe_op op_add_str (pe_slice sl_str (pv 0) po_none (po_some pe_int)) pe_str) (pe_slice sl_str (pv 0) (po_some pe_int) po_none)) (pa_cons (pe_op op_add_str (pe_op op_add_str (pe_slice sl_str (pv 0) po_none (po_some pe_int)) pe_str) (pe_slice sl_str (pv 0) (po_some pe_int) po_none)) (pa_cons (pe_op op_add_str (pe_op op_add_str (pe_slice sl_str (pv 0) po_none (po_some pe_int)) pe_str) (pe_slice sl_str (pv 0) (po_some pe_int) po_none)) pa_nil))))))
      (pss_cons (ps_set (i := 3) sc_law_spoilt.nd rfl (Or.inl rfl) (pe_op op_cat (pv 3) (pe_lst (pa_cons (pe_op op_add_str pe_str (pe_slice sl_str (pv 0) (po_some pe_int) po_none)) pa_nil))))
      (pss_cons (ps_set (i := 3) sc_law_spoilt.nd rfl (Or.inl rfl) (pe_op op_cat (pv 3) (pe_lst (pa_cons (pe_op op_add_str pe_str (pe_slice sl_str (pv 0) (po_some pe_int) po_none)) (pa_cons (pe_op op_add_str (pe_op op_add_str (pe_slice sl_str (pv 0) po_none (po_some pe_int)) pe_str) (pe_slice sl_str (pv 0) (po_some pe_int) po_none)) (pa_cons (pe_op op_add_str (pe_op op_add_str (pe_slice sl_str (pv 0) po_none (po_some pe_int)) pe_str) (pe_slice sl_str (pv 0) (po_some pe_int) po_none)) (pa_cons (pe_op op_add_str (pv 0) pe_str) pa_nil)))))))
      (pss_one (ps_ret (pe_ix (ix_listK (K := K) rfl) (pe_op op_cat (pv 3) (pe_lst (pa_cons (pe_op op_add_str (pe_op op_add_str (pe_slice sl_str (pv 0) po_none (po_some (pv 2))) pe_str) (pe_slice sl_str (pv 0) (po_some (pe_op op_add (pv 2) pe_int)) po_none)) pa_nil))) (pe_op op_mod (pv 1) pe_int) (fun _ _ => rfl)))))))))), ?_⟩
    have bt : t.length ≤ 16 := by rw [ht]; exact Nat.le_refl 16
    have hz : t.length ≤ sizeLine := Nat.le_trans bt (by decide)
    have sl : ∀ lo hi, (Txt.slice t lo hi).length ≤ 16 := fun lo hi => Nat.le_trans (Txt.slice_le t lo hi) bt
    have zl : 1000 ≤ sizeLine := by decide
    have ad : ∀ {x y : Str} {m n : Nat}, x.length ≤ m → y.length ≤ n → (x ++ y).length ≤ m + n := fun h1 h2 => by rw [DT.len_app]; omega
    have ax : ∀ {x y : Str} {m n : Nat}, x.length ≤ m → y.length ≤ n → m + n ≤ 1000 → x.length + y.length ≤ sizeLine := fun h1 h2 h3 => by omega
    have key := DQ.spoilt i0 i1 hf ht
    clear ht hf
    refine ⟨_, rfl, _, _, rfl, rfl, ax bt (show (" " : Str).length ≤ 1 by decide +kernel) (by decide), _, rfl, _, _, rfl, rfl, ax (show (" " : Str).length ≤ 1 by decide +kernel) bt (by decide), _, rfl, _, rfl, _, rfl, hz, _, _, rfl, rfl, ax (sl _ _) (show (" " : Str).length ≤ 1 by decide +kernel) (by decide), _, rfl, _, rfl, _, rfl, hz, _, _, rfl, rfl, ax (ad (sl _ _) (show (" " : Str).length ≤ 1 by decide +kernel)) (sl _ _) (by decide), _, rfl, _, rfl, _, rfl, hz, _, _, rfl, rfl, ax (sl _ _) (show ("__" : Str).length ≤ 2 by decide +kernel) (by decide), _, rfl, _, rfl, _, rfl, hz, _, _, rfl, rfl, ax (ad (sl _ _) (show ("__" : Str).length ≤ 2 by decide +kernel)) (sl _ _) (by decide), _, rfl, _, rfl, _, rfl, hz, _, rfl, _, rfl, _, rfl, hz, _, _, rfl, rfl, ax (sl _ _) (sl _ _) (by decide), (by show 5 ≤ sizeLine; decide), fun l0 hl0 => ?_⟩
    refine ⟨_, rfl, _, rfl, _, rfl, _, rfl, hz, _, _, rfl, rfl, ax (sl _ _) (show ("24" : Str).length ≤ 2 by decide +kernel) (by decide), _, rfl, _, rfl, _, rfl, hz, _, _, rfl, rfl, ax (ad (sl _ _) (show ("24" : Str).length ≤ 2 by decide +kernel)) (sl _ _) (by decide), _, rfl, _, rfl, _, rfl, hz, _, _, rfl, rfl, ax (sl _ _) (show ("60" : Str).length ≤ 2 by decide +kernel) (by decide), _, rfl, _, rfl, _, rfl, hz, _, _, rfl, rfl, ax (sl _ _) (show ("." : Str).length ≤ 1 by decide +kernel) (by decide), _, rfl, _, rfl, _, rfl, hz, _, _, rfl, rfl, ax (ad (sl _ _) (show ("." : Str).length ≤ 1 by decide +kernel)) (sl _ _) (by decide), _, rfl, _, rfl, _, rfl, _, rfl, hz, _, rfl, _, _, rfl, rfl, ax bt (show ("0" : Str).length ≤ 1 by decide +kernel) (by decide), (by show 5 ≤ sizeLine; decide), fun l1 hl1 => ?_⟩
    refine ⟨l0, l1, _, _, rfl, rfl, same_upd hl1 _ _ upd_same, upd_same, (by show 5 + 5 ≤ sizeLine; decide), fun m1 hm1 => ?_⟩
    refine ⟨_, rfl, _, rfl, _, rfl, _, rfl, hz, _, rfl, _, rfl, _, rfl, hz, _, _, rfl, rfl, ax (sl _ _) (show ("_" : Str).length ≤ 1 by decide +kernel) (by decide), _, rfl, _, rfl, _, rfl, hz, _, _, rfl, rfl, ax (sl _ _) (show ("9" : Str).length ≤ 1 by decide +kernel) (by decide), _, rfl, _, rfl, _, rfl, hz, _, _, rfl, rfl, ax (ad (sl _ _) (show ("9" : Str).length ≤ 1 by decide +kernel)) (sl _ _) (by decide), _, rfl, _, rfl, _, rfl, hz, _, _, rfl, rfl, ax (sl _ _) (show ("+1" : Str).length ≤ 2 by decide +kernel) (by decide), _, rfl, _, rfl, _, rfl, hz, _, _, rfl, rfl, ax (ad (sl _ _) (show ("+1" : Str).length ≤ 2 by decide +kernel)) (sl _ _) (by decide), (by show 5 ≤ sizeLine; decide), fun l2 hl2 => ?_⟩
    refine ⟨m1, l2, _, _, rfl, rfl, same_upd hl2 _ _ upd_same, upd_same, (by show 10 + 5 ≤ sizeLine; decide), fun m2 hm2 => ?_⟩
    refine ⟨_, rfl, _, rfl, _, rfl, _, rfl, hz, _, _, rfl, rfl, ax (sl _ _) (show ("/" : Str).length ≤ 1 by decide +kernel) (by decide), _, rfl, _, rfl, _, rfl, hz, _, _, rfl, rfl, ax (ad (sl _ _) (show ("/" : Str).length ≤ 1 by decide +kernel)) (sl _ _) (by decide), _, rfl, _, rfl, _, rfl, hz, _, _, rfl, rfl, ax (sl _ _) (show ("13" : Str).length ≤ 2 by decide +kernel) (by decide), _, rfl, _, rfl, _, rfl, hz, _, _, rfl, rfl, ax (ad (sl _ _) (show ("13" : Str).length ≤ 2 by decide +kernel)) (sl _ _) (by decide), _, rfl, _, rfl, _, rfl, hz, _, _, rfl, rfl, ax (sl _ _) (show ("32" : Str).length ≤ 2 by decide +kernel) (by decide), _, rfl, _, rfl, _, rfl, hz, _, _, rfl, rfl, ax (ad (sl _ _) (show ("32" : Str).length ≤ 2 by decide +kernel)) (sl _ _) (by decide), (by show 3 ≤ sizeLine; decide), fun l3 hl3 => ?_⟩
    refine ⟨m2, l3, _, _, rfl, rfl, same_upd hl3 _ _ upd_same, upd_same, (by show 15 + 3 ≤ sizeLine; decide), fun m3 hm3 => ?_⟩
    refine ⟨_, rfl, _, rfl, _, rfl, _, rfl, hz, _, _, rfl, rfl, ax (show ("1999" : Str).length ≤ 4 by decide +kernel) (sl _ _) (by decide), (by show 1 ≤ sizeLine; decide), fun l4 hl4 => ?_⟩
    refine ⟨m3, l4, _, _, rfl, rfl, same_upd hl4 _ _ upd_same, upd_same, (by show 18 + 1 ≤ sizeLine; decide), fun m4 hm4 => ?_⟩
    refine ⟨_, rfl, _, rfl, _, rfl, _, rfl, hz, _, _, rfl, rfl, ax (show ("2400" : Str).length ≤ 4 by decide +kernel) (sl _ _) (by decide), _, rfl, _, rfl, _, rfl, hz, _, _, rfl, rfl, ax (sl _ _) (show ("00" : Str).length ≤ 2 by decide +kernel) (by decide), _, rfl, _, rfl, _, rfl, hz, _, _, rfl, rfl, ax (ad (sl _ _) (show ("00" : Str).length ≤ 2 by decide +kernel)) (sl _ _) (by decide), _, rfl, _, rfl, _, rfl, hz, _, _, rfl, rfl, ax (sl _ _) (show ("00" : Str).length ≤ 2 by decide +kernel) (by decide), _, rfl, _, rfl, _, rfl, hz, _, _, rfl, rfl, ax (ad (sl _ _) (show ("00" : Str).length ≤ 2 by decide +kernel)) (sl _ _) (by decide), _, rfl, _, _, rfl, rfl, ax bt (show (":00" : Str).length ≤ 3 by decide +kernel) (by decide), (by show 4 ≤ sizeLine; decide), fun l5 hl5 => ?_⟩
    refine ⟨m4, l5, _, _, rfl, rfl, same_upd hl5 _ _ upd_same, upd_same, (by show 19 + 4 ≤ sizeLine; decide), fun m5 hm5 => ?_⟩
    refine ⟨_, rfl, _, rfl, _, rfl, _, rfl, _, rfl, hz, _, _, rfl, rfl, ax (sl _ _) (show ("x" : Str).length ≤ 1 by decide +kernel) (by decide), _, rfl, _, rfl, _, _, rfl, rfl, _, rfl, _, rfl, hz, _, _, rfl, rfl, ax (ad (sl _ _) (show ("x" : Str).length ≤ 1 by decide +kernel)) (sl _ _) (by decide), (by show 1 ≤ sizeLine; decide), fun l6 hl6 => ?_⟩
    refine ⟨m5, l6, _, _, rfl, rfl, same_upd hl6 _ _ upd_same, upd_same, (by show 23 + 1 ≤ sizeLine; decide), fun m6 hm6 => ?_⟩
    have hlen : ∀ x ∈ ([t ++ (" " : Str), (" " : Str) ++ t, Txt.slice t none (some 10) ++ (" " : Str) ++ Txt.slice t (some 11) none, Txt.slice t none (some 10) ++ ("__" : Str) ++ Txt.slice t (some 11) none, Txt.slice t none (some 10) ++ Txt.slice t (some 11) none, Txt.slice t none (some 11) ++ ("24" : Str) ++ Txt.slice t (some 13) none, Txt.slice t none (some 14) ++ ("60" : Str), Txt.slice t none (some 13) ++ ("." : Str) ++ Txt.slice t (some 14) none, Txt.slice t none (some (-1)), t ++ ("0" : Str), Txt.slice t none (some 10), Txt.slice t none (some 10) ++ ("_" : Str), Txt.slice t none (some 11) ++ ("9" : Str) ++ Txt.slice t (some 13) none, Txt.slice t none (some 11) ++ ("+1" : Str) ++ Txt.slice t (some 13) none, ("" : Str), Txt.slice t none (some 4) ++ ("/" : Str) ++ Txt.slice t (some 5) none, Txt.slice t none (some 5) ++ ("13" : Str) ++ Txt.slice t (some 7) none, Txt.slice t none (some 8) ++ ("32" : Str) ++ Txt.slice t (some 10) none, ("1999" : Str) ++ Txt.slice t (some 4) none, ("2400" : Str) ++ Txt.slice t (some 4) none, Txt.slice t none (some 5) ++ ("00" : Str) ++ Txt.slice t (some 7) none, Txt.slice t none (some 8) ++ ("00" : Str) ++ Txt.slice t (some 10) none, t ++ (":00" : Str), Txt.slice t none (some i) ++ ("x" : Str) ++ Txt.slice t (some (i + 1)) none] : List Str), x.length ≤ 1000 := by
      intro x hx
      clear key
      simp only [List.mem_cons, List.not_mem_nil, or_false] at hx
      rcases hx with rfl | rfl | rfl | rfl | rfl | rfl | rfl | rfl | rfl | rfl | rfl | rfl | rfl | rfl | rfl | rfl | rfl | rfl | rfl | rfl | rfl | rfl | rfl | rfl
      · exact Nat.le_trans (ad bt (show (" " : Str).length ≤ 1 by decide +kernel)) (by decide)
      · exact Nat.le_trans (ad (show (" " : Str).length ≤ 1 by decide +kernel) bt) (by decide)
      · exact Nat.le_trans (ad (ad (sl _ _) (show (" " : Str).length ≤ 1 by decide +kernel)) (sl _ _)) (by decide)
      · exact Nat.le_trans (ad (ad (sl _ _) (show ("__" : Str).length ≤ 2 by decide +kernel)) (sl _ _)) (by decide)
      · exact Nat.le_trans (ad (sl _ _) (sl _ _)) (by decide)
      · exact Nat.le_trans (ad (ad (sl _ _) (show ("24" : Str).length ≤ 2 by decide +kernel)) (sl _ _)) (by decide)
      · exact Nat.le_trans (ad (sl _ _) (show ("60" : Str).length ≤ 2 by decide +kernel)) (by decide)
      · exact Nat.le_trans (ad (ad (sl _ _) (show ("." : Str).length ≤ 1 by decide +kernel)) (sl _ _)) (by decide)
      · exact Nat.le_trans (sl _ _) (by decide)
      · exact Nat.le_trans (ad bt (show ("0" : Str).length ≤ 1 by decide +kernel)) (by decide)
      · exact Nat.le_trans (sl _ _) (by decide)
      · exact Nat.le_trans (ad (sl _ _) (show ("_" : Str).length ≤ 1 by decide +kernel)) (by decide)
      · exact Nat.le_trans (ad (ad (sl _ _) (show ("9" : Str).length ≤ 1 by decide +kernel)) (sl _ _)) (by decide)
      · exact Nat.le_trans (ad (ad (sl _ _) (show ("+1" : Str).length ≤ 2 by decide +kernel)) (sl _ _)) (by decide)
      · exact Nat.le_trans (show ("" : Str).length ≤ 0 by decide +kernel) (by decide)
      · exact Nat.le_trans (ad (ad (sl _ _) (show ("/" : Str).length ≤ 1 by decide +kernel)) (sl _ _)) (by decide)
      · exact Nat.le_trans (ad (ad (sl _ _) (show ("13" : Str).length ≤ 2 by decide +kernel)) (sl _ _)) (by decide)
      · exact Nat.le_trans (ad (ad (sl _ _) (show ("32" : Str).length ≤ 2 by decide +kernel)) (sl _ _)) (by decide)
      · exact Nat.le_trans (ad (show ("1999" : Str).length ≤ 4 by decide +kernel) (sl _ _)) (by decide)
      · exact Nat.le_trans (ad (show ("2400" : Str).length ≤ 4 by decide +kernel) (sl _ _)) (by decide)
      · exact Nat.le_trans (ad (ad (sl _ _) (show ("00" : Str).length ≤ 2 by decide +kernel)) (sl _ _)) (by decide)
      · exact Nat.le_trans (ad (ad (sl _ _) (show ("00" : Str).length ≤ 2 by decide +kernel)) (sl _ _)) (by decide)
      · exact Nat.le_trans (ad bt (show (":00" : Str).length ≤ 3 by decide +kernel)) (by decide)
      · exact Nat.le_trans (ad (ad (sl _ _) (show ("x" : Str).length ≤ 1 by decide +kernel)) (sl _ _)) (by decide)
    obtain ⟨x, hx, et⟩ := atI_strs (ts := [t ++ (" " : Str), (" " : Str) ++ t, Txt.slice t none (some 10) ++ (" " : Str) ++ Txt.slice t (some 11) none, Txt.slice t none (some 10) ++ ("__" : Str) ++ Txt.slice t (some 11) none, Txt.slice t none (some 10) ++ Txt.slice t (some 11) none, Txt.slice t none (some 11) ++ ("24" : Str) ++ Txt.slice t (some 13) none, Txt.slice t none (some 14) ++ ("60" : Str), Txt.slice t none (some 13) ++ ("." : Str) ++ Txt.slice t (some 14) none, Txt.slice t none (some (-1)), t ++ ("0" : Str), Txt.slice t none (some 10), Txt.slice t none (some 10) ++ ("_" : Str), Txt.slice t none (some 11) ++ ("9" : Str) ++ Txt.slice t (some 13) none, Txt.slice t none (some 11) ++ ("+1" : Str) ++ Txt.slice t (some 13) none, ("" : Str), Txt.slice t none (some 4) ++ ("/" : Str) ++ Txt.slice t (some 5) none, Txt.slice t none (some 5) ++ ("13" : Str) ++ Txt.slice t (some 7) none, Txt.slice t none (some 8) ++ ("32" : Str) ++ Txt.slice t (some 10) none, ("1999" : Str) ++ Txt.slice t (some 4) none, ("2400" : Str) ++ Txt.slice t (some 4) none, Txt.slice t none (some 5) ++ ("00" : Str) ++ Txt.slice t (some 7) none, Txt.slice t none (some 8) ++ ("00" : Str) ++ Txt.slice t (some 10) none, t ++ (":00" : Str), Txt.slice t none (some i) ++ ("x" : Str) ++ Txt.slice t (some (i + 1)) none]) (i := w % 24) (Int.emod_nonneg _ (by decide)) (Int.emod_lt_of_pos _ (by decide))
    exact ⟨_, rfl, _, _, rfl, rfl, (by show (0 : Int) < 24; decide), m6, _, _, _, rfl, rfl, SqL.of upd_same, et, k x _ (key x hx) (hlen x hx) ((((((((((((((Same.refl _).trans (same_upd hl0)).trans (same_upd hl1)).trans (same_upd hm1)).trans (same_upd hl2)).trans (same_upd hm2)).trans (same_upd hl3)).trans (same_upd hm3)).trans (same_upd hl4)).trans (same_upd hm4)).trans (same_upd hl5)).trans (same_upd hm5)).trans (same_upd hl6)).trans (same_upd hm6))⟩
end
end K81

namespace K81
open PySem L2
section
variable {P : Program} {w : World} {K : PySem.W.Frag} {mg : Str → Option Value} {base : Heap} {a : Adr}
theorem sc_month_days : FnScope ["year", "month"] ["year", "month"] (defScope s_month_days) := ⟨rfl, rfl, rfl, by decide +kernel, rfl, by decide +kernel, by decide +kernel⟩

theorem ok_month_days (T : Txt K mg a) : FnOk P w K mg base CX0 true 2 a.f_month_days a.d_month_days ["year", "month"] (sp_month_days) := by
  refine T.F_month_days.ok sc_month_days (fun vs H Q E h => ?_) (fun cdv A outer s H vs Q E hr h => ?_)
  · obtain ⟨y, m, rfl, _⟩ := h; rfl
  · obtain ⟨y, m, rfl, h1, h2, k⟩ := h
    refine ⟨_, (pss_cons (ps_if (PW.pt (pw_and (pt_cmpR op_eq (pv 1) pe_int (nomark _)) (pw_and1 (pt_val (pe_call ((ok_is_leap T).mono (by decide)) hr rfl T.m_is_leap T.F_is_leap.kp T.b_is_leap .nil pass0 (pa_cons (pv 0) pa_nil)))))) (pss_one (ps_ret pe_int)) pss_nil)
      (pss_one (ps_ret (pe_ix (ix_tupK (K := K) rfl) (pe_globR rfl T.g_MONTH_LENGTHS) (pe_op op_sub (pv 1) pe_int) (fun _ _ => rfl))))), ?_⟩
    refine ⟨_, rfl, rfl, _, rfl, ?_⟩
    refine ite2 (fun e1 => ?_) (fun e1 => ?_)
    · rw [vint] at e1
      have e1' : m = 2 := of_decide_eq_true e1
      refine ⟨_, rfl, y, rfl, _, rfl, ?_⟩
      refine ite2 (fun e2 => ?_) (fun e2 => ?_)
      · have e : DM.len y m = 29 := by unfold DM.len; rw [if_pos e1', if_pos e2]
        rw [e] at k
        exact k
      · exact ⟨_, rfl, _, _, rfl, rfl, _, _, _, _, rfl, rfl, T.s_MONTH_LENGTHS _, ml_at h1 h2 (fun z => e2 z.2), k⟩
    · rw [vint] at e1
      refine iteF ?_
      exact ⟨_, rfl, _, _, rfl, rfl, _, _, _, _, rfl, rfl, T.s_MONTH_LENGTHS _, ml_at h1 h2 (fun z => e1 (decide_eq_true z.1)), k⟩
end
end K81

namespace K81
open PySem L2
section
variable {P : Program} {w : World} {K : PySem.W.Frag} {mg : Str → Option Value} {base : Heap} {a : Adr}
theorem sc_month_begin : FnScope ["number", "year", "month", "begin"] ["number"] (defScope s_month_begin) := ⟨rfl, rfl, rfl, by decide +kernel, rfl, by decide +kernel, by decide +kernel⟩

theorem ok_month_begin (T : Txt K mg a) : FnOk P w K mg base CX0 true 2 a.f_month_begin a.d_month_begin ["number"] (sp_month_begin) := by
  refine T.F_month_begin.ok sc_month_begin (fun vs H Q E h => ?_) (fun cdv A outer s H vs Q E hr h => ?_)
  · obtain ⟨n, rfl, _⟩ := h; rfl
  · obtain ⟨n, rfl, k⟩ := h
    refine ⟨_, (pss_cons (ps_set (i := 1) sc_month_begin.nd rfl (Or.inl rfl) (pe_op op_add (pe_globI rfl T.g_FIRST_YEAR) (pe_op op_fdiv (pv 0) pe_int)))
      (pss_cons (ps_set (i := 2) sc_month_begin.nd rfl (Or.inl rfl) (pe_op op_add (pe_op op_mod (pv 0) pe_int) pe_int))
      (pss_cons (ps_set (i := 3) sc_month_begin.nd rfl (Or.inl rfl) (pe_op op_add (pe_call ((ok_year_begin T).mono (by decide)) hr rfl T.m_year_begin T.F_year_begin.kp T.b_year_begin .nil pass0 (pa_cons (pv 1) pa_nil)) (pe_ix (ix_tupK (K := K) rfl) (pe_globR rfl T.g_DAYS_AHEAD) (pe_op op_sub (pv 2) pe_int) (fun _ _ => rfl))))
      (pss_cons (ps_if (PW.pt (pw_and (pt_cmpR op_gt (pv 2) pe_int (nomark _)) (pw_and1 (pt_val (pe_call ((ok_is_leap T).mono (by decide)) hr rfl T.m_is_leap T.F_is_leap.kp T.b_is_leap .nil pass0 (pa_cons (pv 1) pa_nil)))))) (pss_one (ps_ret (pe_op op_add (pv 3) pe_int))) pss_nil)
      (pss_one (ps_ret (pv 3))))))), ?_⟩
    refine ⟨_, rfl, _, _, rfl, rfl, ⟨by decide, by decide⟩, _, _, rfl, rfl, ?_⟩
    refine ⟨_, rfl, _, _, rfl, rfl, (by show (0 : Int) < 12; decide), _, _, rfl, rfl, ?_⟩
    refine ⟨_, rfl, _, rfl, _, rfl, _, _, rfl, rfl, _, _, _, _, rfl, rfl, T.s_DAYS_AHEAD _, da_at n, _, _, rfl, rfl, ?_⟩
    refine ⟨_, rfl, _, _, rfl, rfl, _, rfl, ?_⟩
    refine ite2 (fun e1 => ?_) (fun e1 => ?_)
    · have e1' := of_decide_eq_true e1
      refine ⟨_, rfl, _, rfl, _, rfl, ?_⟩
      refine ite2 (fun e2 => ?_) (fun e2 => ?_)
      · have e : DM.mb n = DM.year (2000 + n / 12) + DM.ahead (n % 12 + 1) + 1 := by unfold DM.mb; rw [if_pos ⟨e1', e2⟩]
        rw [e] at k
        exact ⟨_, rfl, _, _, rfl, rfl, k⟩
      · have e : DM.mb n = DM.year (2000 + n / 12) + DM.ahead (n % 12 + 1) := by unfold DM.mb; rw [if_neg (fun z => e2 z.2), Int.add_zero]
        rw [e] at k
        exact ⟨_, rfl, k⟩
    · have e : DM.mb n = DM.year (2000 + n / 12) + DM.ahead (n % 12 + 1) := by unfold DM.mb; rw [if_neg (fun z => e1 (decide_eq_true z.1)), Int.add_zero]
      rw [e] at k
      refine iteF ?_
      exact ⟨_, rfl, k⟩
end
end K81

namespace K81
open PySem L2
section
variable {P : Program} {w : World} {K : PySem.W.Frag} {mg : Str → Option Value} {base : Heap} {a : Adr}
theorem sc_looks_like_day : FnScope ["text"] ["text"] (defScope s_looks_like_day) := ⟨rfl, rfl, rfl, by decide +kernel, rfl, by decide +kernel, by decide +kernel⟩

theorem ok_looks_like_day (T : Txt K mg a) : FnOk P w K mg base CX0 true 2 a.f_looks_like_day a.d_looks_like_day ["text"] (sp_looks_like_day) := by
  refine T.F_looks_like_day.ok sc_looks_like_day (fun vs H Q E h => ?_) (fun cdv A outer s H vs Q E hr h => ?_)
  · obtain ⟨t, rfl, _⟩ := h; rfl
  · obtain ⟨t, rfl, hl, k⟩ := h
    refine ⟨_, (pss_cons (ps_if (PW.pt (pw_or (pt_cmpR op_ne (pe_callB call_len_str rfl T.n_len (by decide +kernel) (pa_cons (pv 0) pa_nil)) pe_int (nomark _)) (pw_or (pt_cmpR op_ne (pe_ix ix_str (pv 0) pe_int (fun _ _ => rfl)) pe_str (nomark _)) (pw_or1 (pt_cmpR op_ne (pe_ix ix_str (pv 0) pe_int (fun _ _ => rfl)) pe_str (nomark _)))))) (pss_one (ps_ret pe_bl)) pss_nil)
      (pss_one (ps_ret (pe_call ((ok_is_made_of T).mono (by decide)) hr rfl T.m_is_made_of T.F_is_made_of.kp T.b_is_made_of .nil pass0 (pa_cons (pe_op op_add_str (pe_op op_add_str (pe_slice sl_str (pv 0) po_none (po_some pe_int)) (pe_slice sl_str (pv 0) (po_some pe_int) (po_some pe_int))) (pe_slice sl_str (pv 0) (po_some pe_int) po_none)) (pa_cons (pe_globS rfl T.g_FIGURES) pa_nil)))))), ?_⟩
    have hz : t.length ≤ sizeLine := Nat.le_trans hl (by decide)
    refine ⟨_, rfl, _, rfl, hz, rfl, _, rfl, ?_⟩
    by_cases h10 : t.length = 10
    case neg =>
      refine ite2 (fun _ => ?_) (fun z => absurd ?_ z)
      · rw [DK.look_len h10] at k
        exact iteT (k H (Same.refl _))
      · rw [vint, decide_eq_false (by omega)]
        rfl
    obtain ⟨a, b, c, d, s0, e, f, r, g, u, rfl⟩ := DK.ten h10
    refine ite2 (fun z => absurd z (by show ¬ (!decide (V.int 10 = V.int 10)) = true; decide)) (fun _ => ?_)
    have ka := k
    rw [DK.ten_look] at k
    refine ⟨_, rfl, _, _, _, rfl, rfl, (by show 10 ≤ sizeLine; decide), DK.ten_at4 .., rfl, _, rfl, ?_⟩
    refine ite2 (fun z => ?_) (fun z => ?_)
    · rw [DK.one_ne] at z
      rw [decide_eq_false (of_decide_eq_true z), Bool.false_and] at k
      exact iteT (k H (Same.refl _))
    rw [DK.one_ne] at z
    have z4 : s0 = 45 := Decidable.not_not.mp (fun q => z (decide_eq_true q))
    refine ⟨_, rfl, _, _, _, rfl, rfl, (by show 10 ≤ sizeLine; decide), DK.ten_at7 .., rfl, _, rfl, ?_⟩
    refine ite2 (fun z => ?_) (fun z => ?_)
    · rw [DK.one_ne] at z
      rw [decide_eq_false (of_decide_eq_true z), Bool.false_and, Bool.and_false] at k
      exact k H (Same.refl _)
    rw [DK.one_ne] at z
    have z7 : r = 45 := Decidable.not_not.mp (fun q => z (decide_eq_true q))
    rw [decide_eq_true z4, decide_eq_true z7, Bool.true_and, Bool.true_and] at k
    refine ⟨_, rfl, _, rfl, _, rfl, (by show 10 ≤ sizeLine; decide), ?_⟩
    rw [DK.ten_4]
    refine ⟨_, rfl, _, rfl, _, rfl, _, rfl, (by show 10 ≤ sizeLine; decide), ?_⟩
    rw [DK.ten_57]
    refine ⟨_, _, rfl, rfl, (by show 6 ≤ sizeLine; decide), ?_⟩
    refine ⟨_, rfl, _, rfl, _, rfl, (by show 10 ≤ sizeLine; decide), ?_⟩
    rw [DK.ten_8]
    refine ⟨_, _, rfl, rfl, (by show 8 ≤ sizeLine; decide), _, _, rfl, (by show 8 ≤ 1000; decide), fun H' sm => ?_⟩
    exact k H' sm
end
end K81

namespace K81
open PySem L2
section
variable {P : Program} {w : World} {K : PySem.W.Frag} {mg : Str → Option Value} {base : Heap} {a : Adr}
theorem sc_read_clock : FnScope ["text", "hours", "minutes"] ["text"] (defScope s_read_clock) := ⟨rfl, rfl, rfl, by decide +kernel, rfl, by decide +kernel, by decide +kernel⟩

theorem ok_read_clock (T : Txt K mg a) : FnOk P w K mg base (CXe P w) true 2 a.f_read_clock a.d_read_clock ["text"] (sp_read_clock a.x_NoText) := by
  refine T.F_read_clock.okE sc_read_clock (fun vs H Q E h => ?_) (fun cdv A outer s H vs Q E hr h => ?_)
  · obtain ⟨t, rfl, _⟩ := h; rfl
  · obtain ⟨t, rfl, hl, k⟩ := h
    refine ⟨_, (pss_cons (ps_if (PW.pt (pw_or (pt_cmpR op_ne (pe_callB call_len_str rfl T.n_len (by decide +kernel) (pa_cons (pv 0) pa_nil)) pe_int (nomark _)) (pw_or (pt_cmpR op_ne (pe_ix ix_str (pv 0) pe_int (fun _ _ => rfl)) pe_str (nomark _)) (pw_or1 (pt_not (pt_val (pe_call ((ok_is_made_of T).mono (by decide)) hr rfl T.m_is_made_of T.F_is_made_of.kp T.b_is_made_of .nil pass0 (pa_cons (pe_op op_add_str (pe_slice sl_str (pv 0) po_none (po_some pe_int)) (pe_slice sl_str (pv 0) (po_some pe_int) po_none)) (pa_cons (pe_globS rfl T.g_FIGURES) pa_nil))))))))) (pss_one (ps_raise raises_def rfl rfl T.m_NoText T.x_NoText (pa_cons pe_str pa_nil))) pss_nil)
      (pss_cons (ps_set (i := 1) sc_read_clock.nd rfl (Or.inl rfl) (pe_callTy call_int_str rfl T.n_int (by decide +kernel) (pa_cons (pe_slice sl_str (pv 0) po_none (po_some pe_int)) pa_nil)))
      (pss_cons (ps_set (i := 2) sc_read_clock.nd rfl (Or.inl rfl) (pe_callTy call_int_str rfl T.n_int (by decide +kernel) (pa_cons (pe_slice sl_str (pv 0) (po_some pe_int) po_none) pa_nil)))
      (pss_cons (ps_if (PW.pt (pw_or (pt_cmpR op_ge (pv 1) pe_int (nomark _)) (pw_or1 (pt_cmpR op_ge (pv 2) pe_int (nomark _))))) (pss_one (ps_raise raises_def rfl rfl T.m_NoText T.x_NoText (pa_cons pe_str pa_nil))) pss_nil)
      (pss_one (ps_ret (pe_op op_add (pe_op op_mul (pv 1) pe_int) (pv 2)))))))), ?_⟩
    have hz : t.length ≤ sizeLine := Nat.le_trans hl (by decide)
    have no : DQ.clk t = none → ∀ H', Same H H' → E (.ref a.x_NoText) none H' := fun w H' sm => by
      rcases k with ⟨d0, hd, _⟩ | ⟨_, k⟩
      · rw [w] at hd
        cases hd
      · exact k H' sm
    refine ⟨_, rfl, _, rfl, hz, rfl, _, rfl, ?_⟩
    by_cases h5 : t.length = 5
    case neg =>
      refine ite2 (fun _ => iteT ⟨by show 1 ≤ sizeLine; decide, no (DQ.clk_len h5) H (Same.refl _)⟩) (fun z => absurd ?_ z)
      rw [vint, decide_eq_false (by omega)]
      rfl
    obtain ⟨a1, b1, s1, c1, d1, rfl⟩ := DQ.five h5
    refine ite2 (fun z => absurd z (by show ¬ (!decide (V.int 5 = V.int 5)) = true; decide)) (fun _ => ?_)
    rw [DQ.five_clk] at k no
    refine ⟨_, rfl, _, _, s1, rfl, rfl, (by show 5 ≤ sizeLine; decide), rfl, rfl, _, rfl, ?_⟩
    refine ite2 (fun z => iteT ⟨by show 1 ≤ sizeLine; decide, no (if_neg fun w => by rw [DQ.ne_58] at z; exact of_decide_eq_true z w.1) H (Same.refl _)⟩) (fun z => ?_)
    rw [DQ.ne_58] at z
    have z2 : s1 = 58 := Decidable.not_not.mp (fun q => z (decide_eq_true q))
    refine ⟨_, rfl, _, rfl, _, rfl, (by show 5 ≤ sizeLine; decide), ?_⟩
    rw [DQ.five_2]
    refine ⟨_, rfl, _, rfl, _, rfl, (by show 5 ≤ sizeLine; decide), ?_⟩
    rw [DQ.five_3]
    refine ⟨_, _, rfl, rfl, (by show 4 ≤ sizeLine; decide), _, _, rfl, (by show 4 ≤ 1000; decide), fun H1 sm1 => ⟨_, rfl, ?_⟩⟩
    cases hb : DK.figs [a1, b1, c1, d1] with
    | false =>
      refine ite2 (fun _ => ⟨by show 1 ≤ sizeLine; decide, no (if_neg fun w => by rw [hb] at w; cases w.2) H1 sm1⟩) (fun w => absurd ?_ w)
      show (!DK.figs [a1, b1, c1, d1]) = true
      rw [hb]
      rfl
    | true =>
      refine ite2 (fun w => absurd w ?_) (fun _ => ?_)
      · show ¬ (!DK.figs [a1, b1, c1, d1]) = true
        rw [hb]
        decide
      have i1 := DK.num_is (l := [a1, b1]) (DK.figs_sub hb (by intro x hx; simp only [List.mem_cons, List.not_mem_nil, or_false] at hx ⊢; omega)) (by simp) (by show 2 ≤ 640; decide)
      have i2 := DK.num_is (l := [c1, d1]) (DK.figs_sub hb (by intro x hx; simp only [List.mem_cons, List.not_mem_nil, or_false] at hx ⊢; omega)) (by simp) (by show 2 ≤ 640; decide)
      refine ⟨_, rfl, _, rfl, _, rfl, (by show 5 ≤ sizeLine; decide), ?_⟩
      rw [DQ.five_2]
      refine ⟨_, _, rfl, (by show 2 ≤ 640; decide), i1, ?_⟩
      refine ⟨_, rfl, _, rfl, _, rfl, (by show 5 ≤ sizeLine; decide), ?_⟩
      rw [DQ.five_3]
      refine ⟨_, _, rfl, (by show 2 ≤ 640; decide), i2, ?_⟩
      rw [if_pos ⟨z2, hb⟩] at k no
      generalize DK.num [a1, b1] = y at *
      generalize DK.num [c1, d1] = n at *
      refine ⟨_, rfl, _, _, rfl, rfl, _, rfl, ?_⟩
      refine ite2 (fun w => iteT ⟨by show 1 ≤ sizeLine; decide, no (if_neg fun v => by have := of_decide_eq_true w; omega) H1 sm1⟩) (fun w => ?_)
      refine ⟨_, rfl, _, _, rfl, rfl, _, rfl, ?_⟩
      refine ite2 (fun w2 => ⟨by show 1 ≤ sizeLine; decide, no (if_neg fun v => by have := of_decide_eq_true w2; omega) H1 sm1⟩) (fun w2 => ?_)
      have w' : ¬ 24 ≤ y := fun q => w (decide_eq_true q)
      have w2' : ¬ 60 ≤ n := fun q => w2 (decide_eq_true q)
      rw [if_pos ⟨by omega, by omega⟩] at k
      rcases k with ⟨d0, hd, k⟩ | ⟨hd, _⟩
      · have q := k H1 sm1
        rw [← Option.some.inj hd] at q
        exact ⟨_, rfl, _, _, rfl, rfl, .inr ⟨by decide, by decide⟩, _, rfl, _, _, rfl, rfl, q⟩
      · cases hd
end
end K81

namespace K81
open PySem L2
section
variable {P : Program} {w : World} {K : PySem.W.Frag} {mg : Str → Option Value} {base : Heap} {a : Adr}
theorem sc_law_moment : FnScope ["_law_state", "_law_way"] ["_law_state"] (defScope s_law_moment) := ⟨rfl, rfl, rfl, by decide +kernel, rfl, by decide +kernel, by decide +kernel⟩

theorem ok_law_moment (T : Txt K mg a) : FnOk P w K mg base CX0 true 2 a.f_law_moment a.d_law_moment ["_law_state"] (sp_law_moment) := by
  refine T.F_law_moment.ok sc_law_moment (fun vs H Q E h => ?_) (fun cdv A outer s H vs Q E hr h => ?_)
  · obtain ⟨st, n, rfl, _⟩ := h; rfl
  · obtain ⟨st, n, rfl, hst, k⟩ := h
    refine ⟨_, (pss_cons (ps_set (i := 1) sc_law_moment.nd rfl (Or.inl rfl) (pe_call ((ok_law_mix T).mono (by decide)) hr rfl T.m_law_mix T.F_law_mix.kp T.b_law_mix .nil pass0 (pa_cons (pv 0) (pa_cons pe_int pa_nil))))
      (pss_cons (ps_if (pt_cmpR op_eq (pe_op op_mod (pv 1) pe_int) pe_int (nomark _)) (pss_one (ps_ret (pe_ix (ix_listK (K := K) rfl) (pe_lst (pa_cons pe_int (pa_cons pe_int (pa_cons pe_int (pa_cons pe_int (pa_cons (pe_op op_sub (pe_op op_mul pe_int pe_int) pe_int) pa_nil)))))) (pe_op op_mod (pe_op op_fdiv (pv 1) pe_int) pe_int) (fun _ _ => rfl)))) pss_nil)
      (pss_one (ps_ret (pe_op op_add (pe_op op_mul (pe_op op_mod (pe_op op_fdiv (pv 1) pe_int) pe_int) pe_int) (pe_op op_mod (pe_call ((ok_law_mix T).mono (by decide)) hr rfl T.m_law_mix T.F_law_mix.kp T.b_law_mix .nil pass0 (pa_cons (pv 0) (pa_cons pe_int pa_nil))) pe_int)))))), ?_⟩
    refine ⟨_, rfl, st, n, 0, rfl, hst, fun n1 v hv => ?_⟩
    have x1 : SameX st H (upd H st (.lst [.int n1])) := fun b o hb e => by rw [upd_ne hb]; exact e
    have hs1 : upd H st (.lst [.int n1]) st = some (.lst [.int n1]) := upd_same
    generalize upd H st (.lst [.int n1]) = H1 at *
    refine ⟨_, rfl, _, _, rfl, rfl, (by show (0 : Int) < 5; decide), rfl, _, rfl, ?_⟩
    refine ite2 (fun _ => ?_) (fun _ => ?_)
    · refine ⟨_, _, rfl, rfl, .inr ⟨by decide, by decide⟩, _, _, rfl, rfl, (by show 5 ≤ sizeLine; decide), fun l hl => ?_⟩
      obtain ⟨t, ht, et⟩ := atI_ints (ts := [0, 59, 1439, 1440, 146097 * 1440 - 1]) (i := v / 5 % 5) (Int.emod_nonneg _ (by decide)) (Int.emod_lt_of_pos _ (by decide))
      have hb : 0 ≤ t ∧ t < 146097 * 1440 := by
        have : ∀ t ∈ ([0, 59, 1439, 1440, 146097 * 1440 - 1] : List Int), 0 ≤ t ∧ t < 146097 * 1440 := by decide
        exact this t ht
      exact ⟨_, rfl, _, _, rfl, rfl, ⟨by decide, by decide⟩, _, _, rfl, rfl, (by show (0 : Int) < 5; decide), l, _, _, _, rfl, rfl, SqL.of upd_same, et, k t n1 _ hb.1 hb.2 (fun b o hb e => same_upd hl _ _ (x1 b o hb e)) (same_upd hl _ _ hs1)⟩
    · refine ⟨_, rfl, _, _, rfl, rfl, ⟨by decide, by decide⟩, _, _, rfl, rfl, (by show (0 : Int) < 146097; decide), _, _, rfl, rfl, .inr ⟨by decide, by decide⟩, ?_⟩
      refine ⟨_, rfl, st, n1, 0, rfl, hs1, fun n2 v2 hv2 => ?_⟩
      refine ⟨_, _, rfl, rfl, (by show (0 : Int) < 1440; decide), _, _, rfl, rfl, ?_⟩
      have q1 := Int.emod_nonneg (v / 5) (by decide : (146097 : Int) ≠ 0)
      have q2 := Int.emod_lt_of_pos (v / 5) (by decide : (0 : Int) < 146097)
      have q3 := Int.emod_nonneg v2 (by decide : (1440 : Int) ≠ 0)
      have q4 := Int.emod_lt_of_pos v2 (by decide : (0 : Int) < 1440)
      exact k _ n2 _ (by omega) (by omega) (fun b o hb e => by rw [upd_ne hb]; exact x1 b o hb e) upd_same
end
end K81

namespace K81
open PySem L2
section
variable {P : Program} {w : World} {K : PySem.W.Frag} {mg : Str → Option Value} {base : Heap} {a : Adr}
theorem sc_is_date : FnScope ["year", "month", "date"] ["year", "month", "date"] (defScope s_is_date) := ⟨rfl, rfl, rfl, by decide +kernel, rfl, by decide +kernel, by decide +kernel⟩

theorem ok_is_date (T : Txt K mg a) : FnOk P w K mg base CX0 true 3 a.f_is_date a.d_is_date ["year", "month", "date"] (sp_is_date) := by
  refine T.F_is_date.ok sc_is_date (fun vs H Q E h => ?_) (fun cdv A outer s H vs Q E hr h => ?_)
  · obtain ⟨y, m, d, rfl, _⟩ := h; rfl
  · obtain ⟨y, m, d, rfl, k⟩ := h
    refine ⟨_, (pss_cons (ps_if (PW.pt (pw_or (pt_cmpR op_lt (pv 0) (pe_globI rfl T.g_FIRST_YEAR) (nomark _)) (pw_or (pt_cmpR op_gt (pv 0) (pe_globI rfl T.g_LAST_YEAR) (nomark _)) (pw_or (pt_cmpR op_lt (pv 1) pe_int (nomark _)) (pw_or1 (pt_cmpR op_gt (pv 1) pe_int (nomark _))))))) (pss_one (ps_ret pe_bl)) pss_nil)
      (pss_one (ps_ret (pe_chain op_le op_le pe_int (pv 2) (pe_call ((ok_month_days T).mono (by decide)) hr rfl T.m_month_days T.F_month_days.kp T.b_month_days .nil pass0 (pa_cons (pv 0) (pa_cons (pv 1) pa_nil))))))), ?_⟩
    refine ⟨_, rfl, _, _, rfl, rfl, _, rfl, ?_⟩
    refine ite2 (fun e1 => ?_) (fun e1 => ?_)
    · refine iteT ?_
      rw [decide_eq_false (by intro z; have := of_decide_eq_true e1; omega)] at k
      exact k
    have e1' : ¬ y < 2000 := fun z => e1 (decide_eq_true z)
    refine ⟨_, rfl, _, _, rfl, rfl, _, rfl, ?_⟩
    refine ite2 (fun e2 => ?_) (fun e2 => ?_)
    · refine iteT ?_
      rw [decide_eq_false (by intro z; have := of_decide_eq_true e2; omega)] at k
      exact k
    have e2' : ¬ 2399 < y := fun z => e2 (decide_eq_true z)
    refine ⟨_, rfl, _, _, rfl, rfl, _, rfl, ?_⟩
    refine ite2 (fun e3 => ?_) (fun e3 => ?_)
    · refine iteT ?_
      rw [decide_eq_false (by intro z; have := of_decide_eq_true e3; omega)] at k
      exact k
    have e3' : ¬ m < 1 := fun z => e3 (decide_eq_true z)
    refine ⟨_, rfl, _, _, rfl, rfl, _, rfl, ?_⟩
    refine ite2 (fun e4 => ?_) (fun e4 => ?_)
    · rw [decide_eq_false (by intro z; have := of_decide_eq_true e4; omega)] at k
      exact k
    have e4' : ¬ 12 < m := fun z => e4 (decide_eq_true z)
    refine ⟨_, rfl, _, _, rfl, rfl, _, rfl, ?_⟩
    refine ite2 (fun e5 => ?_) (fun e5 => ?_)
    · have e5' : 1 ≤ d := of_decide_eq_true e5
      refine ⟨_, rfl, _, rfl, y, m, rfl, by omega, by omega, _, _, rfl, rfl, ?_⟩
      have e : decide (2000 ≤ y ∧ y ≤ 2399 ∧ 1 ≤ m ∧ m ≤ 12 ∧ 1 ≤ d ∧ d ≤ DM.len y m) = decide (d ≤ DM.len y m) := decide_eq_decide.mpr ⟨fun z => z.2.2.2.2.2, fun z => ⟨by omega, by omega, by omega, by omega, e5', z⟩⟩
      rw [e] at k
      exact k
    · rw [decide_eq_false (by intro z; exact e5 (decide_eq_true z.2.2.2.2.1))] at k
      exact k
end
end K81

namespace K81
open PySem L2
section
variable {P : Program} {w : World} {K : PySem.W.Frag} {mg : Str → Option Value} {base : Heap} {a : Adr}
theorem sc_month_of : FnScope ["day", "guess"] ["day"] (defScope s_month_of) := ⟨rfl, rfl, rfl, by decide +kernel, rfl, by decide +kernel, by decide +kernel⟩

theorem ok_month_of (T : Txt K mg a) : FnOk P w K mg base CX0 true 3 a.f_month_of a.d_month_of ["day"] (sp_month_of) := by
  refine T.F_month_of.ok sc_month_of (fun vs H Q E h => ?_) (fun cdv A outer s H vs Q E hr h => ?_)
  · obtain ⟨d, rfl, _⟩ := h; rfl
  · obtain ⟨d, rfl, k⟩ := h
    refine ⟨_, (pss_cons (ps_set (i := 1) sc_month_of.nd rfl (Or.inl rfl) (pe_op op_fdiv (pe_op op_mul (pv 0) (pe_globI rfl T.g_MONTHS)) (pe_globI rfl T.g_DAYS)))
      (pss_cons (ps_if (pt_cmpR op_gt (pe_call ((ok_month_begin T).mono (by decide)) hr rfl T.m_month_begin T.F_month_begin.kp T.b_month_begin .nil pass0 (pa_cons (pv 1) pa_nil)) (pv 0) (nomark _)) (pss_one (ps_ret (pe_op op_sub (pv 1) pe_int))) pss_nil)
      (pss_cons (ps_if (pt_cmpR op_le (pe_call ((ok_month_begin T).mono (by decide)) hr rfl T.m_month_begin T.F_month_begin.kp T.b_month_begin .nil pass0 (pa_cons (pe_op op_add (pv 1) pe_int) pa_nil)) (pv 0) (nomark _)) (pss_one (ps_ret (pe_op op_add (pv 1) pe_int))) pss_nil)
      (pss_one (ps_ret (pv 1)))))), ?_⟩
    refine ⟨_, rfl, _, _, rfl, rfl, .inr ⟨by decide, by decide⟩, _, _, rfl, rfl, ⟨by decide, by decide⟩, ?_⟩
    refine ⟨_, rfl, _, rfl, _, rfl, _, _, rfl, rfl, _, rfl, ?_⟩
    refine ite2 (fun e1 => ?_) (fun e1 => ?_)
    · have e : DM.mo d = d * 4800 / 146097 - 1 := by unfold DM.mo; rw [if_pos (of_decide_eq_true e1)]
      rw [e] at k
      exact ⟨_, rfl, _, _, rfl, rfl, k⟩
    · refine ⟨_, rfl, _, _, rfl, rfl, _, rfl, _, rfl, _, _, rfl, rfl, _, rfl, ?_⟩
      refine ite2 (fun e2 => ?_) (fun e2 => ?_)
      · have e : DM.mo d = d * 4800 / 146097 + 1 := by unfold DM.mo; rw [if_neg (fun z => e1 (decide_eq_true z)), if_pos (of_decide_eq_true e2)]
        rw [e] at k
        exact ⟨_, rfl, _, _, rfl, rfl, k⟩
      · have e : DM.mo d = d * 4800 / 146097 := by unfold DM.mo; rw [if_neg (fun z => e1 (decide_eq_true z)), if_neg (fun z => e2 (decide_eq_true z))]
        rw [e] at k
        exact ⟨_, rfl, k⟩
end
end K81

namespace K81
open PySem L2
section
variable {P : Program} {w : World} {K : PySem.W.Frag} {mg : Str → Option Value} {base : Heap} {a : Adr}
theorem sc_day_of : FnScope ["year", "month", "date"] ["year", "month", "date"] (defScope s_day_of) := ⟨rfl, rfl, rfl, by decide +kernel, rfl, by decide +kernel, by decide +kernel⟩

theorem ok_day_of (T : Txt K mg a) : FnOk P w K mg base CX0 true 4 a.f_day_of a.d_day_of ["year", "month", "date"] (sp_day_of) := by
  refine T.F_day_of.ok sc_day_of (fun vs H Q E h => ?_) (fun cdv A outer s H vs Q E hr h => ?_)
  · obtain ⟨y, m, d, rfl, _⟩ := h; rfl
  · obtain ⟨y, m, d, rfl, h1, h2, h3, h4, h5, h6, k⟩ := h
    refine ⟨_, (pss_cons (ps_if (pt_not (pt_val (pe_call ((ok_is_date T).mono (by decide)) hr rfl T.m_is_date T.F_is_date.kp T.b_is_date .nil pass0 (pa_cons (pv 0) (pa_cons (pv 1) (pa_cons (pv 2) pa_nil)))))) (pss_one ps_never) pss_nil)
      (pss_one (ps_ret (pe_op op_sub (pe_op op_add (pe_call ((ok_month_begin T).mono (by decide)) hr rfl T.m_month_begin T.F_month_begin.kp T.b_month_begin .nil pass0 (pa_cons (pe_op op_sub (pe_op op_add (pe_op op_mul (pe_op op_sub (pv 0) (pe_globI rfl T.g_FIRST_YEAR)) pe_int) (pv 1)) pe_int) pa_nil)) (pv 2)) pe_int)))), ?_⟩
    refine ⟨_, rfl, _, rfl, _, rfl, y, m, d, rfl, _, rfl, ?_⟩
    refine iteNS ⟨h1, h2, h3, h4, h5, h6⟩ ?_
    exact ⟨_, rfl, _, _, rfl, rfl, _, _, rfl, rfl, .inr ⟨by decide, by decide⟩, _, rfl, _, _, rfl, rfl, _, _, rfl, rfl, _, rfl, _, rfl, _, _, rfl, rfl, _, _, rfl, rfl, k⟩
end
end K81

namespace K81
open PySem L2
section
variable {P : Program} {w : World} {K : PySem.W.Frag} {mg : Str → Option Value} {base : Heap} {a : Adr}
theorem sc_date_of : FnScope ["day", "number"] ["day"] (defScope s_date_of) := ⟨rfl, rfl, rfl, by decide +kernel, rfl, by decide +kernel, by decide +kernel⟩

theorem ok_date_of (T : Txt K mg a) : FnOk P w K mg base CX0 true 4 a.f_date_of a.d_date_of ["day"] (sp_date_of) := by
  refine T.F_date_of.ok sc_date_of (fun vs H Q E h => ?_) (fun cdv A outer s H vs Q E hr h => ?_)
  · obtain ⟨d, rfl, _⟩ := h; rfl
  · obtain ⟨d, rfl, h0, h1, k⟩ := h
    refine ⟨_, (pss_cons (ps_if (pt_not (pt_val (pe_call ((ok_is_day T).mono (by decide)) hr rfl T.m_is_day T.F_is_day.kp T.b_is_day .nil pass0 (pa_cons (pv 0) pa_nil)))) (pss_one ps_never) pss_nil)
      (pss_cons (ps_set (i := 1) sc_date_of.nd rfl (Or.inl rfl) (pe_call ((ok_month_of T).mono (by decide)) hr rfl T.m_month_of T.F_month_of.kp T.b_month_of .nil pass0 (pa_cons (pv 0) pa_nil)))
      (pss_one (ps_ret (pe_tup (pa_cons (pe_op op_add (pe_globI rfl T.g_FIRST_YEAR) (pe_op op_fdiv (pv 1) pe_int)) (pa_cons (pe_op op_add (pe_op op_mod (pv 1) pe_int) pe_int) (pa_cons (pe_op op_add (pe_op op_sub (pv 0) (pe_call ((ok_month_begin T).mono (by decide)) hr rfl T.m_month_begin T.F_month_begin.kp T.b_month_begin .nil pass0 (pa_cons (pv 1) pa_nil))) pe_int) pa_nil)))))))), ?_⟩
    refine ⟨_, rfl, d, rfl, _, rfl, ?_⟩
    refine iteNS ⟨h0, h1⟩ ?_
    refine ⟨_, rfl, _, rfl, ?_⟩
    exact ⟨_, rfl, _, _, rfl, rfl, ⟨by decide, by decide⟩, _, _, rfl, rfl, _, rfl, _, _, rfl, rfl, (by show (0 : Int) < 12; decide), _, _, rfl, rfl, _, rfl, _, rfl, _, rfl, _, _, rfl, rfl, _, _, rfl, rfl, (by show 3 ≤ sizeLine; decide), fun p hp => k p _ (same_upd hp) hp upd_same⟩
end
end K81

namespace K81
open PySem L2
section
variable {P : Program} {w : World} {K : PySem.W.Frag} {mg : Str → Option Value} {base : Heap} {a : Adr}
theorem sc_day_text : FnScope ["day", "parts", "year", "month", "date"] ["day"] (defScope s_day_text) := ⟨rfl, rfl, rfl, by decide +kernel, rfl, by decide +kernel, by decide +kernel⟩

theorem ok_day_text (T : Txt K mg a) : FnOk P w K mg base CX0 true 5 a.f_day_text a.d_day_text ["day"] (sp_day_text) := by
  refine T.F_day_text.ok sc_day_text (fun vs H Q E h => ?_) (fun cdv A outer s H vs Q E hr h => ?_)
  · obtain ⟨d, rfl, _⟩ := h; rfl
  · obtain ⟨d, rfl, h0, h1, k⟩ := h
    refine ⟨_, (pss_cons (ps_set (i := 1) sc_day_text.nd rfl (Or.inl rfl) (pe_call ((ok_date_of T).mono (by decide)) hr rfl T.m_date_of T.F_date_of.kp T.b_date_of .nil pass0 (pa_cons (pv 0) pa_nil)))
      (pss_cons (ps_set (i := 2) sc_day_text.nd rfl (Or.inl rfl) (pe_callTy call_str_int rfl T.n_str (by decide +kernel) (pa_cons (pe_ix (ix_tupK (K := K) rfl) (pv 1) pe_int (fun _ _ => rfl)) pa_nil)))
      (pss_cons (ps_set (i := 3) sc_day_text.nd rfl (Or.inl rfl) (pe_bm PySem.F.plainAttrs_str PySem.F.slot_str_zfill PySem.F.type_str_zfill mt_zfill (pe_callTy call_str_int rfl T.n_str (by decide +kernel) (pa_cons (pe_ix (ix_tupK (K := K) rfl) (pv 1) pe_int (fun _ _ => rfl)) pa_nil)) (pa_cons pe_int pa_nil)))
      (pss_cons (ps_set (i := 4) sc_day_text.nd rfl (Or.inl rfl) (pe_bm PySem.F.plainAttrs_str PySem.F.slot_str_zfill PySem.F.type_str_zfill mt_zfill (pe_callTy call_str_int rfl T.n_str (by decide +kernel) (pa_cons (pe_ix (ix_tupK (K := K) rfl) (pv 1) pe_int (fun _ _ => rfl)) pa_nil)) (pa_cons pe_int pa_nil)))
      (pss_one (ps_ret (pe_join (pj_val (pv 2) (pj_str (pj_val (pv 3) (pj_str (pj_val (pv 4) pj_nil)))))))))))), ?_⟩
    refine ⟨_, rfl, d, rfl, h0, h1, fun p H1 s1 _ hp => ?_⟩
    obtain ⟨y, m, e, hy, hm, he, e1, e2, e3, e4, _⟩ := DT.parts h0 h1
    rw [e1, e2, e3] at hp
    refine ⟨_, rfl, p, _, _, _, rfl, rfl, SqT.of hp, rfl, _, rfl, DT.yt_log y hy, ?_⟩
    rw [DT.yt_of y hy]
    refine ⟨_, rfl, p, _, _, _, rfl, rfl, SqT.of hp, rfl, _, rfl, DT.tt_log m hm, rfl, _, _, rfl, rfl, by decide +kernel, ?_⟩
    rw [DT.tt_of m hm]
    refine ⟨_, rfl, p, _, _, _, rfl, rfl, SqT.of hp, rfl, _, rfl, DT.tt_log e he, rfl, _, _, rfl, rfl, by decide +kernel, ?_⟩
    rw [DT.tt_of e he]
    have q := k H1 s1
    rw [e4] at q
    exact ⟨_, rfl, _, rfl, (by show 4 ≤ sizeLine; decide), (by show 4 ≤ sizeLine; decide), (by show 5 ≤ sizeLine; decide), _, rfl, _, rfl, (by show 2 ≤ sizeLine; decide), (by show 7 ≤ sizeLine; decide), (by show 8 ≤ sizeLine; decide), _, rfl, _, rfl, (by show 2 ≤ sizeLine; decide), (by show 10 ≤ sizeLine; decide), (by show 10 ≤ sizeLine; decide), q⟩
end
end K81

namespace K81
open PySem L2
section
variable {P : Program} {w : World} {K : PySem.W.Frag} {mg : Str → Option Value} {base : Heap} {a : Adr}
theorem sc_read_day : FnScope ["text", "year", "month", "date"] ["text"] (defScope s_read_day) := ⟨rfl, rfl, rfl, by decide +kernel, rfl, by decide +kernel, by decide +kernel⟩

theorem ok_read_day (T : Txt K mg a) : FnOk P w K mg base (CXe P w) true 5 a.f_read_day a.d_read_day ["text"] (sp_read_day a.x_NoText) := by
  refine T.F_read_day.okE sc_read_day (fun vs H Q E h => ?_) (fun cdv A outer s H vs Q E hr h => ?_)
  · obtain ⟨t, rfl, _⟩ := h; rfl
  · obtain ⟨t, rfl, hl, k⟩ := h
    refine ⟨_, (pss_cons (ps_if (pt_not (pt_val (pe_call ((ok_looks_like_day T).mono (by decide)) hr rfl T.m_looks_like_day T.F_looks_like_day.kp T.b_looks_like_day .nil pass0 (pa_cons (pv 0) pa_nil)))) (pss_one (ps_raise raises_def rfl rfl T.m_NoText T.x_NoText (pa_cons pe_str pa_nil))) pss_nil)
      (pss_cons (ps_set (i := 1) sc_read_day.nd rfl (Or.inl rfl) (pe_callTy call_int_str rfl T.n_int (by decide +kernel) (pa_cons (pe_slice sl_str (pv 0) po_none (po_some pe_int)) pa_nil)))
      (pss_cons (ps_set (i := 2) sc_read_day.nd rfl (Or.inl rfl) (pe_callTy call_int_str rfl T.n_int (by decide +kernel) (pa_cons (pe_slice sl_str (pv 0) (po_some pe_int) (po_some pe_int)) pa_nil)))
      (pss_cons (ps_set (i := 3) sc_read_day.nd rfl (Or.inl rfl) (pe_callTy call_int_str rfl T.n_int (by decide +kernel) (pa_cons (pe_slice sl_str (pv 0) (po_some pe_int) po_none) pa_nil)))
      (pss_cons (ps_if (pt_not (pt_val (pe_call ((ok_is_date T).mono (by decide)) hr rfl T.m_is_date T.F_is_date.kp T.b_is_date .nil pass0 (pa_cons (pv 1) (pa_cons (pv 2) (pa_cons (pv 3) pa_nil)))))) (pss_one (ps_raise raises_def rfl rfl T.m_NoText T.x_NoText (pa_cons pe_str pa_nil))) pss_nil)
      (pss_one (ps_ret (pe_call ((ok_day_of T).mono (by decide)) hr rfl T.m_day_of T.F_day_of.kp T.b_day_of .nil pass0 (pa_cons (pv 1) (pa_cons (pv 2) (pa_cons (pv 3) pa_nil))))))))))), ?_⟩
    refine ⟨_, rfl, t, rfl, hl, fun H1 s1 => ⟨_, rfl, ?_⟩⟩
    cases hb : DK.look t with
    | false =>
      refine ite2 (fun _ => ?_) (fun z => absurd rfl z)
      rw [DK.due_no hb] at k
      rcases k with ⟨d, hd, _⟩ | ⟨_, k⟩
      · cases hd
      · exact ⟨by show 1 ≤ sizeLine; decide, k H1 s1⟩
    | true =>
      refine iteF ?_
      obtain ⟨a, b, c, d, e, f, g, u, rfl, i1, i2, i3, hd⟩ := DK.look_yes hb
      refine ⟨_, rfl, _, rfl, _, rfl, (by show 10 ≤ sizeLine; decide), ?_⟩
      rw [DK.ten_4]
      refine ⟨_, _, rfl, (by show 4 ≤ 640; decide), i1, ?_⟩
      refine ⟨_, rfl, _, rfl, _, rfl, _, rfl, (by show 10 ≤ sizeLine; decide), ?_⟩
      rw [DK.ten_57]
      refine ⟨_, _, rfl, (by show 2 ≤ 640; decide), i2, ?_⟩
      refine ⟨_, rfl, _, rfl, _, rfl, (by show 10 ≤ sizeLine; decide), ?_⟩
      rw [DK.ten_8]
      refine ⟨_, _, rfl, (by show 2 ≤ 640; decide), i3, ?_⟩
      rw [hd] at k
      unfold DK.of3 at k
      refine ⟨_, rfl, _, rfl, _, rfl, _, _, _, rfl, _, rfl, ?_⟩
      clear i1 i2 i3 hd
      generalize DK.num [a, b, c, d] = y at *
      generalize DK.num [e, f] = m at *
      generalize DK.num [g, u] = n0 at *
      by_cases ok : DK.okd y m n0
      · rw [if_pos ok] at k
        rcases k with ⟨n, hn, k⟩ | ⟨hn, _⟩
        · refine iteNS ok ?_
          have q := k H1 s1
          rw [← Option.some.inj hn] at q
          unfold DK.dayn at q
          exact ⟨_, rfl, _, rfl, _, rfl, _, _, _, rfl, ok.1, ok.2.1, ok.2.2.1, ok.2.2.2.1, ok.2.2.2.2.1, ok.2.2.2.2.2, q⟩
        · cases hn
      · rw [if_neg ok] at k
        rcases k with ⟨n, hn, k⟩ | ⟨_, k⟩
        · cases hn
        · refine ite2 (fun _ => ?_) (fun z => absurd ?_ z)
          · exact ⟨by show 1 ≤ sizeLine; decide, k H1 s1⟩
          · rw [decide_eq_false ok]
            rfl
end
end K81

namespace K81
open PySem L2
section
variable {P : Program} {w : World} {K : PySem.W.Frag} {mg : Str → Option Value} {base : Heap} {a : Adr}
theorem sc_law_due : FnScope ["_law_moment_here", "_law_day", "_law_minute", "_law_year", "_law_month", "_law_date", "_law_clock"] ["_law_moment_here"] (defScope s_law_due) := ⟨rfl, rfl, rfl, by decide +kernel, rfl, by decide +kernel, by decide +kernel⟩

theorem ok_law_due (T : Txt K mg a) : FnOk P w K mg base CX0 true 5 a.f_law_due a.d_law_due ["_law_moment_here"] (sp_law_due) := by
  refine T.F_law_due.ok sc_law_due (fun vs H Q E h => ?_) (fun cdv A outer s H vs Q E hr h => ?_)
  · obtain ⟨m, rfl, _⟩ := h; rfl
  · obtain ⟨m, rfl, h0, h1, k⟩ := h
    refine ⟨_, (pss_cons (ps_asg (pe_callB call_divmod rfl T.n_divmod (by decide +kernel) (pa_cons (pv 0) (pa_cons pe_int pa_nil))) (pg_tup rfl (pgs_cons (pg_name (i := 1) sc_law_due.nd rfl (Or.inl rfl)) (pgs_cons (pg_name (i := 2) sc_law_due.nd rfl (Or.inl rfl)) pgs_nil))))
      (pss_cons (ps_asg (pe_call ((ok_date_of T).mono (by decide)) hr rfl T.m_date_of T.F_date_of.kp T.b_date_of .nil pass0 (pa_cons (pv 1) pa_nil)) (pg_tup rfl (pgs_cons (pg_name (i := 3) sc_law_due.nd rfl (Or.inl rfl)) (pgs_cons (pg_name (i := 4) sc_law_due.nd rfl (Or.inl rfl)) (pgs_cons (pg_name (i := 5) sc_law_due.nd rfl (Or.inl rfl)) pgs_nil)))))
      (pss_cons (ps_set (i := 6) sc_law_due.nd rfl (Or.inl rfl) (pe_op op_add_str (pe_op op_add_str (pe_call ((ok_law_two T).mono (by decide)) hr rfl T.m_law_two T.F_law_two.kp T.b_law_two .nil pass0 (pa_cons (pe_op op_fdiv (pv 2) pe_int) pa_nil)) pe_str) (pe_call ((ok_law_two T).mono (by decide)) hr rfl T.m_law_two T.F_law_two.kp T.b_law_two .nil pass0 (pa_cons (pe_op op_mod (pv 2) pe_int) pa_nil))))
      (pss_one (ps_ret (pe_op op_add_str (pe_op op_add_str (pe_op op_add_str (pe_op op_add_str (pe_op op_add_str (pe_op op_add_str (pe_callTy call_str_int rfl T.n_str (by decide +kernel) (pa_cons (pv 3) pa_nil)) pe_str) (pe_call ((ok_law_two T).mono (by decide)) hr rfl T.m_law_two T.F_law_two.kp T.b_law_two .nil pass0 (pa_cons (pv 4) pa_nil))) pe_str) (pe_call ((ok_law_two T).mono (by decide)) hr rfl T.m_law_two T.F_law_two.kp T.b_law_two .nil pass0 (pa_cons (pv 5) pa_nil))) pe_str) (pv 6))))))), ?_⟩
    obtain ⟨h, n, hh, hn, eh, en⟩ : ∃ h n : Nat, h < 60 ∧ n < 60 ∧ m % 1440 / 60 = (h : Int) ∧ m % 1440 % 60 = (n : Int) := ⟨(m % 1440 / 60).toNat, (m % 1440 % 60).toNat, by omega, by omega, by omega, by omega⟩
    obtain ⟨y, mo, e, hy, hm, he, e1, e2, e3, e4, m1, m2, d1, d2, n1, n2⟩ := DT.parts (d := m / 1440) (by omega) (by omega)
    refine ⟨_, rfl, _, _, rfl, ⟨by decide, by decide⟩, fun p hp => ?_⟩
    refine ⟨p, _, rfl, SqT.of upd_same, rfl, _, _, rfl, _, _, rfl, rfl, ?_⟩
    refine ⟨_, rfl, _, rfl, by omega, by omega, fun p2 H2 s2 _ hp2 => ?_⟩
    rw [e1, e2, e3] at hp2
    refine ⟨p2, _, rfl, SqT.of hp2, rfl, _, _, rfl, _, _, rfl, _, _, rfl, rfl, ?_⟩
    refine ⟨_, rfl, _, _, rfl, rfl, ⟨by decide, by decide⟩, ?_⟩
    refine ⟨h, (by show [V.int (m % 1440 / 60)] = _; rw [eh]), hh, _, _, rfl, rfl, (by show 3 ≤ sizeLine; decide), _, rfl, _, _, rfl, rfl, (by show (0 : Int) < 60; decide), ?_⟩
    refine ⟨n, (by show [V.int (m % 1440 % 60)] = _; rw [en]), hn, _, _, rfl, rfl, (by show 5 ≤ sizeLine; decide), ?_⟩
    refine ⟨_, rfl, _, rfl, DT.yt_log y hy, ?_⟩
    rw [DT.yt_of y hy]
    refine ⟨_, _, rfl, rfl, (by show 5 ≤ sizeLine; decide), _, rfl, mo, rfl, by omega, _, _, rfl, rfl, (by show 7 ≤ sizeLine; decide), _, _, rfl, rfl, (by show 8 ≤ sizeLine; decide), _, rfl, e, rfl, by omega, _, _, rfl, rfl, (by show 10 ≤ sizeLine; decide), _, _, rfl, rfl, (by show 11 ≤ sizeLine; decide), _, rfl, _, _, rfl, rfl, (by show 16 ≤ sizeLine; decide), ?_⟩
    have q := k H2 ((same_upd hp).trans s2)
    unfold DQ.mt DQ.ck at q
    rw [e4, eh, en] at q
    exact q
end
end K81

namespace K81
open PySem L2
section
variable {P : Program} {w : World} {K : PySem.W.Frag} {mg : Str → Option Value} {base : Heap} {a : Adr}
theorem sc_moment_text : FnScope ["moment", "day"] ["moment"] (defScope s_moment_text) := ⟨rfl, rfl, rfl, by decide +kernel, rfl, by decide +kernel, by decide +kernel⟩

theorem ok_moment_text (T : Txt K mg a) : FnOk P w K mg base (CXe P w) true 6 a.f_moment_text a.d_moment_text ["moment"] (sp_moment_text a.x_NoText) := by
  refine T.F_moment_text.okE sc_moment_text (fun vs H Q E h => ?_) (fun cdv A outer s H vs Q E hr h => ?_)
  · obtain ⟨m, rfl, _⟩ := h; rfl
  · obtain ⟨m, rfl, k⟩ := h
    refine ⟨_, (pss_cons (ps_set (i := 1) sc_moment_text.nd rfl (Or.inl rfl) (pe_op op_fdiv (pv 0) (pe_globI rfl T.g_DAY_MINUTES)))
      (pss_cons (ps_if (pt_not (pt_val (pe_call ((ok_is_day T).mono (by decide)) hr rfl T.m_is_day T.F_is_day.kp T.b_is_day .nil pass0 (pa_cons (pv 1) pa_nil)))) (pss_one (ps_raise raises_def rfl rfl T.m_NoText T.x_NoText (pa_cons pe_str pa_nil))) pss_nil)
      (pss_one (ps_ret (pe_op op_add_str (pe_op op_add_str (pe_call ((ok_day_text T).mono (by decide)) hr rfl T.m_day_text T.F_day_text.kp T.b_day_text .nil pass0 (pa_cons (pv 1) pa_nil)) pe_str) (pe_call ((ok_clock_text T).mono (by decide)) hr rfl T.m_clock_text T.F_clock_text.kp T.b_clock_text .nil pass0 (pa_cons (pe_op op_mod (pv 0) (pe_globI rfl T.g_DAY_MINUTES)) pa_nil))))))), ?_⟩
    refine ⟨_, rfl, _, _, rfl, rfl, ⟨by decide, by decide⟩, ?_⟩
    refine ⟨_, rfl, _, rfl, _, rfl, ?_⟩
    rcases k with ⟨h0, h1, k⟩ | ⟨hm, k⟩
    · refine iteNS ⟨by omega, by omega⟩ ?_
      refine ⟨_, rfl, _, rfl, by omega, by omega, fun H1 s1 => ?_⟩
      refine ⟨_, _, rfl, rfl, (by show 11 ≤ sizeLine; decide), _, rfl, _, _, rfl, rfl, (by show (0 : Int) < 1440; decide), _, rfl, by omega, by omega, ?_⟩
      exact ⟨_, _, rfl, rfl, (by show 16 ≤ sizeLine; decide), k H1 s1⟩
    · refine ite2 (fun e => ?_) (fun e => absurd ?_ e)
      · exact ⟨by show 1 ≤ sizeLine; decide, k⟩
      · rw [decide_eq_false (by omega)]
        rfl
end
end K81

namespace K81
open PySem L2
section
variable {P : Program} {w : World} {K : PySem.W.Frag} {mg : Str → Option Value} {base : Heap} {a : Adr}
theorem sc_read_moment : FnScope ["text"] ["text"] (defScope s_read_moment) := ⟨rfl, rfl, rfl, by decide +kernel, rfl, by decide +kernel, by decide +kernel⟩

theorem ok_read_moment (T : Txt K mg a) : FnOk P w K mg base (CXe P w) true 6 a.f_read_moment a.d_read_moment ["text"] (sp_read_moment a.x_NoText) := by
  refine T.F_read_moment.okE sc_read_moment (fun vs H Q E h => ?_) (fun cdv A outer s H vs Q E hr h => ?_)
  · obtain ⟨t, rfl, _⟩ := h; rfl
  · obtain ⟨t, rfl, hl, k⟩ := h
    refine ⟨_, (pss_cons (ps_if (pt_cmpR op_ne (pe_slice sl_str (pv 0) (po_some pe_int) (po_some pe_int)) pe_str (nomark _)) (pss_one (ps_raise raises_def rfl rfl T.m_NoText T.x_NoText (pa_cons pe_str pa_nil))) pss_nil)
      (pss_one (ps_ret (pe_op op_add (pe_op op_mul (pe_call ((ok_read_day T).mono (by decide)) hr rfl T.m_read_day T.F_read_day.kp T.b_read_day .nil passes_def (pa_cons (pe_slice sl_str (pv 0) po_none (po_some pe_int)) pa_nil)) (pe_globI rfl T.g_DAY_MINUTES)) (pe_call ((ok_read_clock T).mono (by decide)) hr rfl T.m_read_clock T.F_read_clock.kp T.b_read_clock .nil passes_def (pa_cons (pe_slice sl_str (pv 0) (po_some pe_int) po_none) pa_nil)))))), ?_⟩
    have hz : t.length ≤ sizeLine := Nat.le_trans hl (by decide)
    have no : DQ.rm t = none → ∀ H', Same H H' → E (.ref a.x_NoText) none H' := fun w H' sm => by
      rcases k with ⟨d0, hd, _⟩ | ⟨_, k⟩
      · rw [w] at hd
        cases hd
      · exact k H' sm
    obtain ⟨⟨l⟩⟩ := t
    have hlen : l.length ≤ 1000 := hl
    have no2 : (¬ (l.drop 10).take 1 = [95] ∨ DK.dueL (l.take 10) = none ∨ DQ.clkL (l.drop 11) = none) → DQ.rm ⟨⟨l⟩⟩ = none := fun w => by
      rcases w with w | w | w
      · exact DQ.rm_mark w
      · exact DQ.rm_day w
      · exact DQ.rm_clk w
    refine ⟨_, rfl, _, rfl, _, rfl, _, rfl, hz, ?_⟩
    rw [show Txt.slice ⟨⟨l⟩⟩ (some 10) (some 11) = ⟨((l.drop 10).take 1).toArray⟩ from DQ.sl_mid l (a := 10) (b := 11) (by decide)]
    refine ⟨rfl, _, rfl, ?_⟩
    refine ite2 (fun z => ⟨by show 1 ≤ sizeLine; decide, no (no2 (.inl (by rw [DQ.ne_95] at z; exact of_decide_eq_true z))) H (Same.refl _)⟩) (fun z => ?_)
    rw [DQ.ne_95] at z
    have z2 : (l.drop 10).take 1 = [95] := Decidable.not_not.mp (fun q => z (decide_eq_true q))
    refine ⟨_, rfl, _, rfl, _, rfl, hz, ?_⟩
    rw [show Txt.slice ⟨⟨l⟩⟩ none (some 10) = ⟨(l.take 10).toArray⟩ from DQ.sl_to l 10]
    cases hd : DK.dueL (l.take 10) with
    | none => exact ⟨_, rfl, (by show (l.take 10).toArray.size ≤ 1000; rw [List.size_toArray, List.length_take]; omega), .inr ⟨hd, fun H1 s1 => no (no2 (.inr (.inl hd))) H1 s1⟩⟩
    | some d =>
      refine ⟨_, rfl, (by show (l.take 10).toArray.size ≤ 1000; rw [List.size_toArray, List.length_take]; omega), .inl ⟨d, hd, fun H1 s1 => ?_⟩⟩
      refine ⟨_, _, rfl, rfl, .inr ⟨by decide, by decide⟩, _, rfl, _, rfl, _, rfl, hz, ?_⟩
      rw [show Txt.slice ⟨⟨l⟩⟩ (some 11) none = ⟨(l.drop 11).toArray⟩ from DQ.sl_from l 11]
      cases hc : DQ.clkL (l.drop 11) with
      | none => exact ⟨_, rfl, (by show (l.drop 11).toArray.size ≤ 1000; rw [List.size_toArray, List.length_drop]; omega), .inr ⟨hc, fun H2 s2 => no (no2 (.inr (.inr hc))) H2 (s1.trans s2)⟩⟩
      | some c =>
        refine ⟨_, rfl, (by show (l.drop 11).toArray.size ≤ 1000; rw [List.size_toArray, List.length_drop]; omega), .inl ⟨c, hc, fun H2 s2 => ?_⟩⟩
        have e : DQ.rm ⟨⟨l⟩⟩ = some (d * 1440 + c) := by
          show DQ.rmL l = _
          unfold DQ.rmL
          rw [if_pos z2, hd, hc]
          rfl
        rcases k with ⟨d0, hd0, k⟩ | ⟨hd0, _⟩
        · rw [e] at hd0
          have q := k H2 (s1.trans s2)
          rw [← Option.some.inj hd0] at q
          exact ⟨_, _, rfl, rfl, q⟩
        · rw [e] at hd0
          cases hd0
end
end K81

namespace K81
open PySem L2
section
variable {P : Program} {w : World} {K : PySem.W.Frag} {mg : Str → Option Value} {base : Heap} {a : Adr}
theorem sc_law_refused : FnScope ["_law_work", "_law_given", "_law_e"] ["_law_work", "_law_given"] (defScope s_law_refused) := ⟨rfl, rfl, rfl, by decide +kernel, rfl, by decide +kernel, by decide +kernel⟩

theorem ok_law_refused (T : Txt K mg a) : FnOk P w K mg base CX0 true 7 a.f_law_refused a.d_law_refused ["_law_work", "_law_given"] (sp_law_refused a.f_moment_text a.f_read_moment) := by
  refine T.F_law_refused.ok sc_law_refused (fun vs H Q E h => ?_) (fun cdv A outer s H vs Q E hr h => ?_)
  · rcases h with ⟨⟨m, rfl, _⟩ | ⟨t, rfl, _⟩, _⟩ <;> rfl
  · skip
    refine ⟨_, (pss_cons (ps_tryAs (i := 2) rfl T.m_HouseError T.c_HouseError sc_law_refused.nd rfl rfl rfl (fun pins Eb E hx => (pss_one (ps_expr (PE.or (pe_callV ((ok_moment_text T).mono (by decide)) hr (pv 0) T.F_moment_text.kp T.b_moment_text .nil hx (pa_cons (pv 1) pa_nil)) (pe_callV ((ok_read_moment T).mono (by decide)) hr (pv 0) T.F_read_moment.kp T.b_read_moment .nil hx (pa_cons (pv 1) pa_nil)))))) (fun e => (pss_one (ps_ret (pe_and (pe_call ((ok_law_lone T).mono (by decide)) (hr.mark _) rfl T.m_law_lone T.F_law_lone.kp T.b_law_lone .nil pass0 (pa_cons (pv 2) pa_nil)) (pe_one (pe_callB (call_isiEK (K := K) rfl) rfl T.n_isinstance (by decide +kernel) (pa_cons (pv 2) (pa_cons (pe_globR rfl T.m_NoText) pa_nil)))))))))
      (pss_one (ps_ret pe_bl))), ?_⟩
    rcases h with ⟨⟨m, rfl, hm⟩ | ⟨t, rfl, hl, ht⟩, k⟩
    · refine .inl ⟨_, rfl, rfl, _, rfl, m, rfl, .inr ⟨hm, a.x_NoText, rfl, T.s_NoText_HouseError, fun e he => ?_⟩⟩
      refine ⟨_, rfl, e, rfl, upd_same, _, rfl, iteT ?_⟩
      exact ⟨_, rfl, e, _, _, _, _, rfl, upd_same, T.e_NoText, .inl ⟨_, rfl, rfl⟩, T.k_NoText_NoText, k _ (same_upd he)⟩
    · refine .inr ⟨_, rfl, rfl, _, rfl, t, rfl, hl, .inr ⟨ht, fun H1 s1 => ⟨a.x_NoText, rfl, T.s_NoText_HouseError, fun e he => ?_⟩⟩⟩
      refine ⟨_, rfl, e, rfl, upd_same, _, rfl, iteT ?_⟩
      exact ⟨_, rfl, e, _, _, _, _, rfl, upd_same, T.e_NoText, .inl ⟨_, rfl, rfl⟩, T.k_NoText_NoText, k _ (s1.trans (same_upd he))⟩
end
end K81

namespace K81
open PySem L2
section
variable {P : Program} {w : World} {K : PySem.W.Frag} {mg : Str → Option Value} {base : Heap} {a : Adr}
theorem sc_law : FnScope ["_law_script", "_law_state", "_law_cell_here", "_law_moment_here", "_law_due_here", "_law_far", "_law_spoilt_here", "_law_text", "_law_found"] ["_law_script"] (defScope s_law) := ⟨rfl, rfl, rfl, by decide +kernel, rfl, by decide +kernel, by decide +kernel⟩

theorem ok_law (T : Txt K mg a) : FnOk P w K mg base CX0 true 8 a.f_law a.d_law ["_law_script"] (sp_law K) := by
  refine T.F_law.ok sc_law (fun vs H Q E h => ?_) (fun cdv A outer s H vs Q E hr h => ?_)
  · obtain ⟨sa, ns, rfl, _⟩ := h; rfl
  · obtain ⟨sa, ns, rfl, hS, hlen, k⟩ := h
    refine ⟨_, (pss_cons (ps_set (i := 1) sc_law.nd rfl (Or.inl rfl) (pe_lst (pa_cons (pe_op op_add pe_int (pe_op op_mod (pe_call ((ok_law_cell T).mono (by decide)) hr rfl T.m_law_cell T.F_law_cell.kp T.b_law_cell .nil pass0 (pa_cons (pv 0) (pa_cons pe_int pa_nil))) pe_int)) pa_nil)))
      (pss_cons (ps_for PassesOwn.never rfl (pi_listK (K := K) rfl (pe_op op_cat (pe_slice (sl_listK (K := K) rfl) (pv 0) (po_some pe_int) (po_some pe_int)) (pe_lst (pa_cons pe_int pa_nil)))) (pg_name (i := 2) sc_law.nd rfl (Or.inl rfl)) (pss_cons (ps_expr (pe_call ((ok_law_mix T).mono (by decide)) hr rfl T.m_law_mix T.F_law_mix.kp T.b_law_mix .nil pass0 (pa_cons (pv 1) (pa_cons (pv 2) pa_nil))))
      (pss_cons (ps_set (i := 3) sc_law.nd rfl (Or.inl rfl) (pe_call ((ok_law_moment T).mono (by decide)) hr rfl T.m_law_moment T.F_law_moment.kp T.b_law_moment .nil pass0 (pa_cons (pv 1) pa_nil)))
      (pss_cons (ps_set (i := 4) sc_law.nd rfl (Or.inl rfl) (pe_call ((ok_law_due T).mono (by decide)) hr rfl T.m_law_due T.F_law_due.kp T.b_law_due .nil pass0 (pa_cons (pv 3) pa_nil)))
      (pss_cons (ps_set (i := 5) sc_law.nd rfl (Or.inl rfl) (pe_ix (ix_listK (K := K) rfl) (pe_lst (pa_cons (pe_un un_neg pe_int) (pa_cons (pe_op op_mul pe_int pe_int) (pa_cons (pe_op op_sub (pe_un un_neg pe_int) (pe_call ((ok_law_mix T).mono (by decide)) hr rfl T.m_law_mix T.F_law_mix.kp T.b_law_mix .nil pass0 (pa_cons (pv 1) (pa_cons pe_int pa_nil)))) (pa_cons (pe_op op_add (pe_op op_mul pe_int pe_int) (pe_call ((ok_law_mix T).mono (by decide)) hr rfl T.m_law_mix T.F_law_mix.kp T.b_law_mix .nil pass0 (pa_cons (pv 1) (pa_cons pe_int pa_nil)))) pa_nil))))) (pe_op op_mod (pe_call ((ok_law_mix T).mono (by decide)) hr rfl T.m_law_mix T.F_law_mix.kp T.b_law_mix .nil pass0 (pa_cons (pv 1) (pa_cons pe_int pa_nil))) pe_int) (fun _ _ => rfl)))
      (pss_cons (ps_if (pt_not (pt_val (pe_call ((ok_law_refused T).mono (by decide)) hr rfl T.m_law_refused T.F_law_refused.kp T.b_law_refused .nil pass0 (pa_cons (pe_globR rfl T.m_moment_text) (pa_cons (pv 5) pa_nil))))) (pss_one (ps_ret pe_bl)) pss_nil)
      (pss_cons (ps_set (i := 6) sc_law.nd rfl (Or.inl rfl) (pe_call ((ok_law_spoilt T).mono (by decide)) hr rfl T.m_law_spoilt T.F_law_spoilt.kp T.b_law_spoilt .nil pass0 (pa_cons (pv 4) (pa_cons (pe_call ((ok_law_mix T).mono (by decide)) hr rfl T.m_law_mix T.F_law_mix.kp T.b_law_mix .nil pass0 (pa_cons (pv 1) (pa_cons pe_int pa_nil))) (pa_cons (pe_op op_mod (pe_call ((ok_law_mix T).mono (by decide)) hr rfl T.m_law_mix T.F_law_mix.kp T.b_law_mix .nil pass0 (pa_cons (pv 1) (pa_cons pe_int pa_nil))) pe_int) pa_nil)))))
      (pss_cons (ps_if (pt_not (pt_val (pe_call ((ok_law_refused T).mono (by decide)) hr rfl T.m_law_refused T.F_law_refused.kp T.b_law_refused .nil pass0 (pa_cons (pe_globR rfl T.m_read_moment) (pa_cons (pv 6) pa_nil))))) (pss_one (ps_ret pe_bl)) pss_nil)
      (pss_cons (ps_set (i := 7) sc_law.nd rfl (Or.inl rfl) (pe_call ((ok_moment_text T).mono (by decide)) hr rfl T.m_moment_text T.F_moment_text.kp T.b_moment_text .nil passF (pa_cons (pv 3) pa_nil)))
      (pss_cons (ps_if (PW.pt (pw_or (pt_not (pt_val (pe_callB (call_isinstK (K := K) rfl) rfl T.n_isinstance (by decide +kernel) (pa_cons (pv 7) (pa_cons (pe_bltn (v := .ty "str") rfl T.n_str (by decide +kernel) rfl) pa_nil))))) (pw_or1 (pt_cmpR op_ne (pv 7) (pv 4) (nomark _))))) (pss_one (ps_ret pe_bl)) pss_nil)
      (pss_cons (ps_set (i := 8) sc_law.nd rfl (Or.inl rfl) (pe_call ((ok_read_moment T).mono (by decide)) hr rfl T.m_read_moment T.F_read_moment.kp T.b_read_moment .nil passF (pa_cons (pv 7) pa_nil)))
      (pss_one (ps_if (PW.pt (pw_or (pt_val (pe_callB (call_isinstK (K := K) rfl) rfl T.n_isinstance (by decide +kernel) (pa_cons (pv 8) (pa_cons (pe_bltn (v := .ty "bool") rfl T.n_bool (by decide +kernel) rfl) pa_nil)))) (pw_or1 (pt_cmpR op_ne (pv 8) (pv 3) (nomark _))))) (pss_one (ps_ret pe_bl)) pss_nil)))))))))))))
      (pss_one (ps_ret pe_bl)))), ?_⟩
    refine ⟨_, rfl, sa, ns, 0, rfl, hS, by decide, fun v0 => ?_⟩
    refine ⟨_, _, rfl, rfl, (by show (0 : Int) < 2147483646; decide), _, _, rfl, rfl, (by show 1 ≤ sizeLine; decide), fun st hst0 => ?_⟩
    have hS1 : SqL K (upd H st (.lst [.int (1 + v0 % 2147483646)])) sa (ns.map V.int) := (same_upd hst0).seq hS
    refine ⟨_, rfl, _, rfl, _, rfl, sa, _, rfl, hS1, fun l hl => ?_⟩
    refine ⟨by decide, fun l2 hl2 => ⟨l, l2, _, _, rfl, rfl, same_upd hl2 _ _ upd_same, upd_same, ?_, fun p hp => ⟨p, rfl, ⟨_, SqL.of upd_same⟩, ?_⟩⟩⟩
    · have := cutV_length (ns.map V.int) (some 1) (some 7)
      rw [List.length_map] at this
      show _ + 1 ≤ sizeLine
      exact Nat.le_trans (Nat.add_le_add_right (Nat.le_trans this hlen) 1) (by decide)
    have hxs : ∀ x ∈ cutV (ns.map V.int) (some 1) (some 7) ++ [V.int 5], ∃ c : Int, x = .int c := fun x hx => by
      rcases List.mem_append.mp hx with hx | hx
      · obtain ⟨c, _, rfl⟩ := List.mem_map.mp (List.mem_of_mem_drop (List.mem_of_mem_take hx))
        exact ⟨c, rfl⟩
      · rw [List.mem_singleton] at hx
        exact ⟨5, hx⟩
    have hst1 : upd H st (.lst [.int (1 + v0 % 2147483646)]) st = some (.lst [.int (1 + v0 % 2147483646)]) := upd_same
    have hst2 := same_upd (o := .lst (cutV (ns.map V.int) (some 1) (some 7) ++ [V.int 5])) hp _ _ (same_upd (o := .lst [.int 5]) hl2 _ _ (same_upd (o := .lst (cutV (ns.map V.int) (some 1) (some 7))) hl _ _ hst1))
    have hps : p ≠ st := fun z => by
      have := same_upd (o := .lst [.int 5]) hl2 _ _ (same_upd (o := .lst (cutV (ns.map V.int) (some 1) (some 7))) hl _ _ hst1)
      exact ne_of_none this hp z.symm
    have hp2 : upd (upd (upd (upd H st (.lst [.int (1 + v0 % 2147483646)])) l (.lst (cutV (ns.map V.int) (some 1) (some 7)))) l2 (.lst [.int 5])) p (.lst (cutV (ns.map V.int) (some 1) (some 7) ++ [V.int 5])) p = some (.lst (cutV (ns.map V.int) (some 1) (some 7) ++ [V.int 5])) := upd_same
    generalize upd (upd (upd (upd H st (.lst [.int (1 + v0 % 2147483646)])) l (.lst (cutV (ns.map V.int) (some 1) (some 7)))) l2 (.lst [.int 5])) p (.lst (cutV (ns.map V.int) (some 1) (some 7) ++ [V.int 5])) = H0 at *
    generalize cutV (ns.map V.int) (some 1) (some 7) ++ [V.int 5] = xs at *
    have hseq : Seq (Itl K p) (fun b => if b = p then some (.lst xs) else none) xs := seq_list (SqL.of (if_pos rfl))
    refine for_seq hseq (fun i σ H' => H' p = some (.lst xs) ∧ (∃ n : Int, H' st = some (.lst [.int n])) ∧ ∃ x2 x3 x4 x5 x6 x7 x8, σ = [some (.ref sa), some (.ref st), x2, x3, x4, x5, x6, x7, x8]) ⟨hp2, ⟨_, hst2⟩, none, none, none, none, none, none, none, rfl⟩ (fun i σ H' _ h b o e => ?_) ?_ (fun σ H1 h => k H1)
    · change (if b = p then some (HO.lst xs) else none) = some o at e
      split at e
      · rename_i hb
        subst hb
        exact h.1.trans e
      · cases e
    rintro i x σ H1 hx ⟨hp1, ⟨n1, hs1⟩, x2, x3, x4, x5, x6, x7, x8, rfl⟩
    obtain ⟨c, rfl⟩ := hxs x (List.mem_of_getElem? hx)
    refine ⟨_, rfl, _, rfl, st, n1, c, rfl, hs1, fun n2 v2 hv2 => ?_⟩
    have hp3 : upd H1 st (.lst [.int n2]) p = some (.lst xs) := by rw [upd_ne hps]; exact hp1
    have hs3 : upd H1 st (.lst [.int n2]) st = some (.lst [.int n2]) := upd_same
    generalize upd H1 st (.lst [.int n2]) = H2 at *
    refine ⟨_, rfl, st, n2, rfl, hs3, fun m n3 H3 m0 m1 x3' hs4 => ?_⟩
    have hp4 := x3' _ _ hps hp3
    refine ⟨_, rfl, m, rfl, m0, m1, fun H4 s4 => ?_⟩
    have hp5 := s4 _ _ hp4
    have hs5 := s4 _ _ hs4
    refine ⟨_, rfl, _, _, rfl, rfl, .inr ⟨by decide, by decide⟩, _, rfl, ?_⟩
    refine ⟨_, rfl, st, n3, 0, rfl, hs5, fun n6 v6 hv6 => ?_⟩
    have hp6 : upd H4 st (.lst [.int n6]) p = some (.lst xs) := by rw [upd_ne hps]; exact hp5
    have hs6 : upd H4 st (.lst [.int n6]) st = some (.lst [.int n6]) := upd_same
    generalize upd H4 st (.lst [.int n6]) = H6 at *
    refine ⟨_, _, rfl, rfl, _, _, rfl, rfl, .inr ⟨by decide, by decide⟩, ?_⟩
    refine ⟨_, rfl, st, n6, 0, rfl, hs6, fun n7 v7 hv7 => ?_⟩
    have hp7 : upd H6 st (.lst [.int n7]) p = some (.lst xs) := by rw [upd_ne hps]; exact hp6
    have hs7 : upd H6 st (.lst [.int n7]) st = some (.lst [.int n7]) := upd_same
    generalize upd H6 st (.lst [.int n7]) = H7 at *
    refine ⟨_, _, rfl, rfl, (by show 4 ≤ sizeLine; decide), fun q hq => ?_⟩
    have hp8 := same_upd (o := .lst [.int (-1), .int (146097 * 1440), .int (-1 - v6), .int (146097 * 1440 + v7)]) hq _ _ hp7
    have hs8 := same_upd (o := .lst [.int (-1), .int (146097 * 1440), .int (-1 - v6), .int (146097 * 1440 + v7)]) hq _ _ hs7
    refine ⟨_, rfl, st, n7, 0, rfl, hs8, fun n9 v9 hv9 => ?_⟩
    have hqs : q ≠ st := fun z => by rw [z, hs7] at hq; cases hq
    have hq9 : upd (upd H7 q (.lst [.int (-1), .int (146097 * 1440), .int (-1 - v6), .int (146097 * 1440 + v7)])) st (.lst [.int n9]) q = some (.lst [.int (-1), .int (146097 * 1440), .int (-1 - v6), .int (146097 * 1440 + v7)]) := by rw [upd_ne hqs]; exact upd_same
    have hp9 : upd (upd H7 q (.lst [.int (-1), .int (146097 * 1440), .int (-1 - v6), .int (146097 * 1440 + v7)])) st (.lst [.int n9]) p = some (.lst xs) := by rw [upd_ne hps]; exact hp8
    have hs9 : upd (upd H7 q (.lst [.int (-1), .int (146097 * 1440), .int (-1 - v6), .int (146097 * 1440 + v7)])) st (.lst [.int n9]) st = some (.lst [.int n9]) := upd_same
    obtain ⟨far, hfar, et⟩ := atI_ints (ts := [-1, 146097 * 1440, -1 - v6, 146097 * 1440 + v7]) (i := v9 % 4) (Int.emod_nonneg _ (by decide)) (Int.emod_lt_of_pos _ (by decide))
    have hout : far < 0 ∨ 146097 * 1440 ≤ far := by
      simp only [List.mem_cons, List.not_mem_nil, or_false] at hfar
      rcases hfar with rfl | rfl | rfl | rfl <;> omega
    refine ⟨_, _, rfl, rfl, (by show (0 : Int) < 4; decide), q, _, _, _, rfl, rfl, SqL.of hq9, et, ?_⟩
    generalize upd (upd H7 q (.lst [.int (-1), .int (146097 * 1440), .int (-1 - v6), .int (146097 * 1440 + v7)])) st (.lst [.int n9]) = H9 at *
    refine ⟨_, rfl, .inl ⟨far, rfl, hout⟩, fun H10 s10 => ⟨_, rfl, ?_⟩⟩
    refine ite2 (fun z => absurd z (by decide)) (fun _ => ?_)
    have hp10 := s10 _ _ hp9
    have hs10 := s10 _ _ hs9
    refine ⟨_, rfl, _, rfl, st, n9, 0, rfl, hs10, fun n11 v11 hv11 => ?_⟩
    have hp11 : upd H10 st (.lst [.int n11]) p = some (.lst xs) := by rw [upd_ne hps]; exact hp10
    have hs11 : upd H10 st (.lst [.int n11]) st = some (.lst [.int n11]) := upd_same
    generalize upd H10 st (.lst [.int n11]) = H11 at *
    refine ⟨_, rfl, st, n11, 0, rfl, hs11, fun n12 v12 hv12 => ?_⟩
    have hp12 : upd H11 st (.lst [.int n12]) p = some (.lst xs) := by rw [upd_ne hps]; exact hp11
    have hs12 : upd H11 st (.lst [.int n12]) st = some (.lst [.int n12]) := upd_same
    generalize upd H11 st (.lst [.int n12]) = H12 at *
    refine ⟨_, _, rfl, rfl, (by show (0 : Int) < 16; decide), DQ.mt m, v11, v12 % 16, rfl, DQ.mt_is m0 m1, Int.emod_nonneg _ (by decide), Int.emod_lt_of_pos _ (by decide), fun r H13 hr hrl s13 => ?_⟩
    have hp13 := s13 _ _ hp12
    have hs13 := s13 _ _ hs12
    refine ⟨_, rfl, .inr ⟨r, rfl, hrl, hr⟩, fun H14 s14 => ⟨_, rfl, ?_⟩⟩
    refine ite2 (fun z => absurd z (by decide)) (fun _ => ?_)
    have hp14 := s14 _ _ hp13
    have hs14 := s14 _ _ hs13
    refine ⟨_, rfl, m, rfl, .inl ⟨m0, m1, fun H15 s15 => ?_⟩⟩
    have hp15 := s15 _ _ hp14
    have hs15 := s15 _ _ hs14
    refine ⟨_, rfl, _, _, _, _, rfl, TyOf.str _, rfl, _, rfl, ?_⟩
    refine ite2 (fun z => absurd z (by decide)) (fun _ => ?_)
    refine ⟨_, rfl, _, rfl, rfl, _, rfl, ?_⟩
    refine ite2 (fun z => absurd z (by rw [vstr, decide_eq_true rfl]; decide)) (fun _ => ?_)
    refine ⟨_, rfl, DQ.mt m, rfl, DQ.mt_len m, .inl ⟨m, DQ.rm_mt m0 m1, fun H16 s16 => ?_⟩⟩
    refine ⟨_, rfl, _, _, _, _, rfl, TyOf.int _, rfl, _, rfl, ?_⟩
    refine ite2 (fun z => absurd z (by decide)) (fun _ => ?_)
    refine ⟨_, rfl, _, rfl, rfl, _, rfl, ?_⟩
    refine ite2 (fun z => absurd z (by rw [vint, decide_eq_true rfl]; decide)) (fun _ => ?_)
    exact ⟨s16 _ _ hp15, ⟨_, s16 _ _ hs15⟩, _, _, _, _, _, _, _, rfl⟩
end
end K81

namespace K81
open PySem L2
theorem txt_mk {K : PySem.W.Frag} {h : Heap} {mg : Str → Option Value} (X : K.In h) (G : h.Ns mainGlobals mg)
    {f_is_made_of : Addr} {oc_is_made_of kV_is_made_of dc_is_made_of pm_is_made_of cd_is_made_of ct_is_made_of : Value} {od_is_made_of an_is_made_of : Option Addr} {sl_is_made_of : Array (Option Value)}
    {f_is_day : Addr} {oc_is_day kV_is_day dc_is_day pm_is_day cd_is_day ct_is_day : Value} {od_is_day an_is_day : Option Addr} {sl_is_day : Array (Option Value)}
    {f_is_leap : Addr} {oc_is_leap kV_is_leap dc_is_leap pm_is_leap cd_is_leap ct_is_leap : Value} {od_is_leap an_is_leap : Option Addr} {sl_is_leap : Array (Option Value)}
    {f_year_begin : Addr} {oc_year_begin kV_year_begin dc_year_begin pm_year_begin cd_year_begin ct_year_begin : Value} {od_year_begin an_year_begin : Option Addr} {sl_year_begin : Array (Option Value)}
    {f_clock_text : Addr} {oc_clock_text kV_clock_text dc_clock_text pm_clock_text cd_clock_text ct_clock_text : Value} {od_clock_text an_clock_text : Option Addr} {sl_clock_text : Array (Option Value)}
    {f_law_cell : Addr} {oc_law_cell kV_law_cell dc_law_cell pm_law_cell cd_law_cell ct_law_cell : Value} {od_law_cell an_law_cell : Option Addr} {sl_law_cell : Array (Option Value)}
    {f_law_mix : Addr} {oc_law_mix kV_law_mix dc_law_mix pm_law_mix cd_law_mix ct_law_mix : Value} {od_law_mix an_law_mix : Option Addr} {sl_law_mix : Array (Option Value)}
    {f_law_lone : Addr} {oc_law_lone kV_law_lone dc_law_lone pm_law_lone cd_law_lone ct_law_lone : Value} {od_law_lone an_law_lone : Option Addr} {sl_law_lone : Array (Option Value)}
    {f_law_two : Addr} {oc_law_two kV_law_two dc_law_two pm_law_two cd_law_two ct_law_two : Value} {od_law_two an_law_two : Option Addr} {sl_law_two : Array (Option Value)}
    {f_law_spoilt : Addr} {oc_law_spoilt kV_law_spoilt dc_law_spoilt pm_law_spoilt cd_law_spoilt ct_law_spoilt : Value} {od_law_spoilt an_law_spoilt : Option Addr} {sl_law_spoilt : Array (Option Value)}
    {f_month_days : Addr} {oc_month_days kV_month_days dc_month_days pm_month_days cd_month_days ct_month_days : Value} {od_month_days an_month_days : Option Addr} {sl_month_days : Array (Option Value)}
    {f_month_begin : Addr} {oc_month_begin kV_month_begin dc_month_begin pm_month_begin cd_month_begin ct_month_begin : Value} {od_month_begin an_month_begin : Option Addr} {sl_month_begin : Array (Option Value)}
    {f_looks_like_day : Addr} {oc_looks_like_day kV_looks_like_day dc_looks_like_day pm_looks_like_day cd_looks_like_day ct_looks_like_day : Value} {od_looks_like_day an_looks_like_day : Option Addr} {sl_looks_like_day : Array (Option Value)}
    {f_read_clock : Addr} {oc_read_clock kV_read_clock dc_read_clock pm_read_clock cd_read_clock ct_read_clock : Value} {od_read_clock an_read_clock : Option Addr} {sl_read_clock : Array (Option Value)}
    {f_law_moment : Addr} {oc_law_moment kV_law_moment dc_law_moment pm_law_moment cd_law_moment ct_law_moment : Value} {od_law_moment an_law_moment : Option Addr} {sl_law_moment : Array (Option Value)}
    {f_is_date : Addr} {oc_is_date kV_is_date dc_is_date pm_is_date cd_is_date ct_is_date : Value} {od_is_date an_is_date : Option Addr} {sl_is_date : Array (Option Value)}
    {f_month_of : Addr} {oc_month_of kV_month_of dc_month_of pm_month_of cd_month_of ct_month_of : Value} {od_month_of an_month_of : Option Addr} {sl_month_of : Array (Option Value)}
    {f_day_of : Addr} {oc_day_of dV_day_of kV_day_of dc_day_of pm_day_of cd_day_of ct_day_of : Value} {od_day_of an_day_of : Option Addr} {sl_day_of : Array (Option Value)}
    {t_day_of : Addr} {ot_day_of : Obj} {u_day_of_0 u_day_of_1 : Tok} {nt_day_of : Nat}
    {f_date_of : Addr} {oc_date_of kV_date_of dc_date_of pm_date_of cd_date_of ct_date_of : Value} {od_date_of an_date_of : Option Addr} {sl_date_of : Array (Option Value)}
    {f_day_text : Addr} {oc_day_text kV_day_text dc_day_text pm_day_text cd_day_text ct_day_text : Value} {od_day_text an_day_text : Option Addr} {sl_day_text : Array (Option Value)}
    {f_read_day : Addr} {oc_read_day kV_read_day dc_read_day pm_read_day cd_read_day ct_read_day : Value} {od_read_day an_read_day : Option Addr} {sl_read_day : Array (Option Value)}
    {f_law_due : Addr} {oc_law_due kV_law_due dc_law_due pm_law_due cd_law_due ct_law_due : Value} {od_law_due an_law_due : Option Addr} {sl_law_due : Array (Option Value)}
    {f_moment_text : Addr} {oc_moment_text kV_moment_text dc_moment_text pm_moment_text cd_moment_text ct_moment_text : Value} {od_moment_text an_moment_text : Option Addr} {sl_moment_text : Array (Option Value)}
    {f_read_moment : Addr} {oc_read_moment kV_read_moment dc_read_moment pm_read_moment cd_read_moment ct_read_moment : Value} {od_read_moment an_read_moment : Option Addr} {sl_read_moment : Array (Option Value)}
    {f_law_refused : Addr} {oc_law_refused kV_law_refused dc_law_refused pm_law_refused cd_law_refused ct_law_refused : Value} {od_law_refused an_law_refused : Option Addr} {sl_law_refused : Array (Option Value)}
    {f_law : Addr} {oc_law kV_law dc_law pm_law cd_law ct_law : Value} {od_law an_law : Option Addr} {sl_law : Array (Option Value)}
    {t_DAYS : Tok}
    {c_DAYS_AHEAD : Addr} {o_DAYS_AHEAD : Obj} {n_DAYS_AHEAD : Nat} {t_DAYS_AHEAD_0 t_DAYS_AHEAD_1 t_DAYS_AHEAD_2 t_DAYS_AHEAD_3 t_DAYS_AHEAD_4 t_DAYS_AHEAD_5 t_DAYS_AHEAD_6 t_DAYS_AHEAD_7 t_DAYS_AHEAD_8 t_DAYS_AHEAD_9 t_DAYS_AHEAD_10 t_DAYS_AHEAD_11 : Tok}
    {t_DAY_MINUTES : Tok}
    {t_FIGURES : Tok}
    {t_FIRST_YEAR : Tok}
    {t_LAST_YEAR : Tok}
    {t_MONTHS : Tok}
    {c_MONTH_LENGTHS : Addr} {o_MONTH_LENGTHS : Obj} {n_MONTH_LENGTHS : Nat} {t_MONTH_LENGTHS_0 t_MONTH_LENGTHS_1 t_MONTH_LENGTHS_2 t_MONTH_LENGTHS_3 t_MONTH_LENGTHS_4 t_MONTH_LENGTHS_5 t_MONTH_LENGTHS_6 t_MONTH_LENGTHS_7 t_MONTH_LENGTHS_8 t_MONTH_LENGTHS_9 t_MONTH_LENGTHS_10 t_MONTH_LENGTHS_11 : Tok}
    {x_Busy : Addr}
    {x_Closed : Addr}
    {x_Full : Addr}
    {x_HouseError : Addr}
    {x_Known : Addr}
    {x_NoDay : Addr}
    {x_NoHand : Addr}
    {x_NoLetter : Addr}
    {x_NoMeeting : Addr}
    {x_NoPlace : Addr}
    {x_NoRule : Addr}
    {x_NoSpan : Addr}
    {x_NoText : Addr}
    {x_NoThing : Addr}
    {x_NoWord : Addr}
    (a_is_made_of : PySem.W.nsIn K mainGlobals "is_made_of" = some (some (.ref f_is_made_of))) (l_is_made_of : K.lookup f_is_made_of = some ⟨oc_is_made_of, od_is_made_of, .func (PySem.W.fnOf "is_made_of" "is_made_of" (defArgs s_is_made_of) (defBody s_is_made_of) (defScope s_is_made_of) .none kV_is_made_of dc_is_made_of pm_is_made_of an_is_made_of cd_is_made_of ct_is_made_of), sl_is_made_of⟩) (e_is_made_of : PySem.W.codeIn K cd_is_made_of "is_made_of" = true) (k_is_made_of : PySem.W.keepIn K (.ref f_is_made_of) = true)
    (a_is_day : PySem.W.nsIn K mainGlobals "is_day" = some (some (.ref f_is_day))) (l_is_day : K.lookup f_is_day = some ⟨oc_is_day, od_is_day, .func (PySem.W.fnOf "is_day" "is_day" (defArgs s_is_day) (defBody s_is_day) (defScope s_is_day) .none kV_is_day dc_is_day pm_is_day an_is_day cd_is_day ct_is_day), sl_is_day⟩) (e_is_day : PySem.W.codeIn K cd_is_day "is_day" = true) (k_is_day : PySem.W.keepIn K (.ref f_is_day) = true)
    (a_is_leap : PySem.W.nsIn K mainGlobals "is_leap" = some (some (.ref f_is_leap))) (l_is_leap : K.lookup f_is_leap = some ⟨oc_is_leap, od_is_leap, .func (PySem.W.fnOf "is_leap" "is_leap" (defArgs s_is_leap) (defBody s_is_leap) (defScope s_is_leap) .none kV_is_leap dc_is_leap pm_is_leap an_is_leap cd_is_leap ct_is_leap), sl_is_leap⟩) (e_is_leap : PySem.W.codeIn K cd_is_leap "is_leap" = true) (k_is_leap : PySem.W.keepIn K (.ref f_is_leap) = true)
    (a_year_begin : PySem.W.nsIn K mainGlobals "year_begin" = some (some (.ref f_year_begin))) (l_year_begin : K.lookup f_year_begin = some ⟨oc_year_begin, od_year_begin, .func (PySem.W.fnOf "year_begin" "year_begin" (defArgs s_year_begin) (defBody s_year_begin) (defScope s_year_begin) .none kV_year_begin dc_year_begin pm_year_begin an_year_begin cd_year_begin ct_year_begin), sl_year_begin⟩) (e_year_begin : PySem.W.codeIn K cd_year_begin "year_begin" = true) (k_year_begin : PySem.W.keepIn K (.ref f_year_begin) = true)
    (a_clock_text : PySem.W.nsIn K mainGlobals "clock_text" = some (some (.ref f_clock_text))) (l_clock_text : K.lookup f_clock_text = some ⟨oc_clock_text, od_clock_text, .func (PySem.W.fnOf "clock_text" "clock_text" (defArgs s_clock_text) (defBody s_clock_text) (defScope s_clock_text) .none kV_clock_text dc_clock_text pm_clock_text an_clock_text cd_clock_text ct_clock_text), sl_clock_text⟩) (e_clock_text : PySem.W.codeIn K cd_clock_text "clock_text" = true) (k_clock_text : PySem.W.keepIn K (.ref f_clock_text) = true)
    (a_law_cell : PySem.W.nsIn K mainGlobals "_law_cell" = some (some (.ref f_law_cell))) (l_law_cell : K.lookup f_law_cell = some ⟨oc_law_cell, od_law_cell, .func (PySem.W.fnOf "_law_cell" "_law_cell" (defArgs s_law_cell) (defBody s_law_cell) (defScope s_law_cell) .none kV_law_cell dc_law_cell pm_law_cell an_law_cell cd_law_cell ct_law_cell), sl_law_cell⟩) (e_law_cell : PySem.W.codeIn K cd_law_cell "_law_cell" = true) (k_law_cell : PySem.W.keepIn K (.ref f_law_cell) = true)
    (a_law_mix : PySem.W.nsIn K mainGlobals "_law_mix" = some (some (.ref f_law_mix))) (l_law_mix : K.lookup f_law_mix = some ⟨oc_law_mix, od_law_mix, .func (PySem.W.fnOf "_law_mix" "_law_mix" (defArgs s_law_mix) (defBody s_law_mix) (defScope s_law_mix) .none kV_law_mix dc_law_mix pm_law_mix an_law_mix cd_law_mix ct_law_mix), sl_law_mix⟩) (e_law_mix : PySem.W.codeIn K cd_law_mix "_law_mix" = true) (k_law_mix : PySem.W.keepIn K (.ref f_law_mix) = true)
    (a_law_lone : PySem.W.nsIn K mainGlobals "_law_lone" = some (some (.ref f_law_lone))) (l_law_lone : K.lookup f_law_lone = some ⟨oc_law_lone, od_law_lone, .func (PySem.W.fnOf "_law_lone" "_law_lone" (defArgs s_law_lone) (defBody s_law_lone) (defScope s_law_lone) .none kV_law_lone dc_law_lone pm_law_lone an_law_lone cd_law_lone ct_law_lone), sl_law_lone⟩) (e_law_lone : PySem.W.codeIn K cd_law_lone "_law_lone" = true) (k_law_lone : PySem.W.keepIn K (.ref f_law_lone) = true)
    (a_law_two : PySem.W.nsIn K mainGlobals "_law_two" = some (some (.ref f_law_two))) (l_law_two : K.lookup f_law_two = some ⟨oc_law_two, od_law_two, .func (PySem.W.fnOf "_law_two" "_law_two" (defArgs s_law_two) (defBody s_law_two) (defScope s_law_two) .none kV_law_two dc_law_two pm_law_two an_law_two cd_law_two ct_law_two), sl_law_two⟩) (e_law_two : PySem.W.codeIn K cd_law_two "_law_two" = true) (k_law_two : PySem.W.keepIn K (.ref f_law_two) = true)
    (a_law_spoilt : PySem.W.nsIn K mainGlobals "_law_spoilt" = some (some (.ref f_law_spoilt))) (l_law_spoilt : K.lookup f_law_spoilt = some ⟨oc_law_spoilt, od_law_spoilt, .func (PySem.W.fnOf "_law_spoilt" "_law_spoilt" (defArgs s_law_spoilt) (defBody s_law_spoilt) (defScope s_law_spoilt) .none kV_law_spoilt dc_law_spoilt pm_law_spoilt an_law_spoilt cd_law_spoilt ct_law_spoilt), sl_law_spoilt⟩) (e_law_spoilt : PySem.W.codeIn K cd_law_spoilt "_law_spoilt" = true) (k_law_spoilt : PySem.W.keepIn K (.ref f_law_spoilt) = true)
    (a_month_days : PySem.W.nsIn K mainGlobals "month_days" = some (some (.ref f_month_days))) (l_month_days : K.lookup f_month_days = some ⟨oc_month_days, od_month_days, .func (PySem.W.fnOf "month_days" "month_days" (defArgs s_month_days) (defBody s_month_days) (defScope s_month_days) .none kV_month_days dc_month_days pm_month_days an_month_days cd_month_days ct_month_days), sl_month_days⟩) (e_month_days : PySem.W.codeIn K cd_month_days "month_days" = true) (k_month_days : PySem.W.keepIn K (.ref f_month_days) = true)
    (a_month_begin : PySem.W.nsIn K mainGlobals "month_begin" = some (some (.ref f_month_begin))) (l_month_begin : K.lookup f_month_begin = some ⟨oc_month_begin, od_month_begin, .func (PySem.W.fnOf "month_begin" "month_begin" (defArgs s_month_begin) (defBody s_month_begin) (defScope s_month_begin) .none kV_month_begin dc_month_begin pm_month_begin an_month_begin cd_month_begin ct_month_begin), sl_month_begin⟩) (e_month_begin : PySem.W.codeIn K cd_month_begin "month_begin" = true) (k_month_begin : PySem.W.keepIn K (.ref f_month_begin) = true)
    (a_looks_like_day : PySem.W.nsIn K mainGlobals "looks_like_day" = some (some (.ref f_looks_like_day))) (l_looks_like_day : K.lookup f_looks_like_day = some ⟨oc_looks_like_day, od_looks_like_day, .func (PySem.W.fnOf "looks_like_day" "looks_like_day" (defArgs s_looks_like_day) (defBody s_looks_like_day) (defScope s_looks_like_day) .none kV_looks_like_day dc_looks_like_day pm_looks_like_day an_looks_like_day cd_looks_like_day ct_looks_like_day), sl_looks_like_day⟩) (e_looks_like_day : PySem.W.codeIn K cd_looks_like_day "looks_like_day" = true) (k_looks_like_day : PySem.W.keepIn K (.ref f_looks_like_day) = true)
    (a_read_clock : PySem.W.nsIn K mainGlobals "read_clock" = some (some (.ref f_read_clock))) (l_read_clock : K.lookup f_read_clock = some ⟨oc_read_clock, od_read_clock, .func (PySem.W.fnOf "read_clock" "read_clock" (defArgs s_read_clock) (defBody s_read_clock) (defScope s_read_clock) .none kV_read_clock dc_read_clock pm_read_clock an_read_clock cd_read_clock ct_read_clock), sl_read_clock⟩) (e_read_clock : PySem.W.codeIn K cd_read_clock "read_clock" = true) (k_read_clock : PySem.W.keepIn K (.ref f_read_clock) = true)
    (a_law_moment : PySem.W.nsIn K mainGlobals "_law_moment" = some (some (.ref f_law_moment))) (l_law_moment : K.lookup f_law_moment = some ⟨oc_law_moment, od_law_moment, .func (PySem.W.fnOf "_law_moment" "_law_moment" (defArgs s_law_moment) (defBody s_law_moment) (defScope s_law_moment) .none kV_law_moment dc_law_moment pm_law_moment an_law_moment cd_law_moment ct_law_moment), sl_law_moment⟩) (e_law_moment : PySem.W.codeIn K cd_law_moment "_law_moment" = true) (k_law_moment : PySem.W.keepIn K (.ref f_law_moment) = true)
    (a_is_date : PySem.W.nsIn K mainGlobals "is_date" = some (some (.ref f_is_date))) (l_is_date : K.lookup f_is_date = some ⟨oc_is_date, od_is_date, .func (PySem.W.fnOf "is_date" "is_date" (defArgs s_is_date) (defBody s_is_date) (defScope s_is_date) .none kV_is_date dc_is_date pm_is_date an_is_date cd_is_date ct_is_date), sl_is_date⟩) (e_is_date : PySem.W.codeIn K cd_is_date "is_date" = true) (k_is_date : PySem.W.keepIn K (.ref f_is_date) = true)
    (a_month_of : PySem.W.nsIn K mainGlobals "month_of" = some (some (.ref f_month_of))) (l_month_of : K.lookup f_month_of = some ⟨oc_month_of, od_month_of, .func (PySem.W.fnOf "month_of" "month_of" (defArgs s_month_of) (defBody s_month_of) (defScope s_month_of) .none kV_month_of dc_month_of pm_month_of an_month_of cd_month_of ct_month_of), sl_month_of⟩) (e_month_of : PySem.W.codeIn K cd_month_of "month_of" = true) (k_month_of : PySem.W.keepIn K (.ref f_month_of) = true)
    (a_day_of : PySem.W.nsIn K mainGlobals "day_of" = some (some (.ref f_day_of))) (l_day_of : K.lookup f_day_of = some ⟨oc_day_of, od_day_of, .func (PySem.W.fnOf "day_of" "day_of" (defArgs s_day_of) (defBody s_day_of) (defScope s_day_of) dV_day_of kV_day_of dc_day_of pm_day_of an_day_of cd_day_of ct_day_of), sl_day_of⟩) (e_day_of : PySem.W.codeIn K cd_day_of "day_of" = true) (k_day_of : PySem.W.keepIn K (.ref f_day_of) = true)
    (v_day_of : dV_day_of = .ref t_day_of) (w_day_of : K.lookup t_day_of = some ot_day_of) (x_day_of : ot_day_of.data = .seq #[.int 1 u_day_of_0, .int 1 u_day_of_1] nt_day_of)
    (a_date_of : PySem.W.nsIn K mainGlobals "date_of" = some (some (.ref f_date_of))) (l_date_of : K.lookup f_date_of = some ⟨oc_date_of, od_date_of, .func (PySem.W.fnOf "date_of" "date_of" (defArgs s_date_of) (defBody s_date_of) (defScope s_date_of) .none kV_date_of dc_date_of pm_date_of an_date_of cd_date_of ct_date_of), sl_date_of⟩) (e_date_of : PySem.W.codeIn K cd_date_of "date_of" = true) (k_date_of : PySem.W.keepIn K (.ref f_date_of) = true)
    (a_day_text : PySem.W.nsIn K mainGlobals "day_text" = some (some (.ref f_day_text))) (l_day_text : K.lookup f_day_text = some ⟨oc_day_text, od_day_text, .func (PySem.W.fnOf "day_text" "day_text" (defArgs s_day_text) (defBody s_day_text) (defScope s_day_text) .none kV_day_text dc_day_text pm_day_text an_day_text cd_day_text ct_day_text), sl_day_text⟩) (e_day_text : PySem.W.codeIn K cd_day_text "day_text" = true) (k_day_text : PySem.W.keepIn K (.ref f_day_text) = true)
    (a_read_day : PySem.W.nsIn K mainGlobals "read_day" = some (some (.ref f_read_day))) (l_read_day : K.lookup f_read_day = some ⟨oc_read_day, od_read_day, .func (PySem.W.fnOf "read_day" "read_day" (defArgs s_read_day) (defBody s_read_day) (defScope s_read_day) .none kV_read_day dc_read_day pm_read_day an_read_day cd_read_day ct_read_day), sl_read_day⟩) (e_read_day : PySem.W.codeIn K cd_read_day "read_day" = true) (k_read_day : PySem.W.keepIn K (.ref f_read_day) = true)
    (a_law_due : PySem.W.nsIn K mainGlobals "_law_due" = some (some (.ref f_law_due))) (l_law_due : K.lookup f_law_due = some ⟨oc_law_due, od_law_due, .func (PySem.W.fnOf "_law_due" "_law_due" (defArgs s_law_due) (defBody s_law_due) (defScope s_law_due) .none kV_law_due dc_law_due pm_law_due an_law_due cd_law_due ct_law_due), sl_law_due⟩) (e_law_due : PySem.W.codeIn K cd_law_due "_law_due" = true) (k_law_due : PySem.W.keepIn K (.ref f_law_due) = true)
    (a_moment_text : PySem.W.nsIn K mainGlobals "moment_text" = some (some (.ref f_moment_text))) (l_moment_text : K.lookup f_moment_text = some ⟨oc_moment_text, od_moment_text, .func (PySem.W.fnOf "moment_text" "moment_text" (defArgs s_moment_text) (defBody s_moment_text) (defScope s_moment_text) .none kV_moment_text dc_moment_text pm_moment_text an_moment_text cd_moment_text ct_moment_text), sl_moment_text⟩) (e_moment_text : PySem.W.codeIn K cd_moment_text "moment_text" = true) (k_moment_text : PySem.W.keepIn K (.ref f_moment_text) = true)
    (a_read_moment : PySem.W.nsIn K mainGlobals "read_moment" = some (some (.ref f_read_moment))) (l_read_moment : K.lookup f_read_moment = some ⟨oc_read_moment, od_read_moment, .func (PySem.W.fnOf "read_moment" "read_moment" (defArgs s_read_moment) (defBody s_read_moment) (defScope s_read_moment) .none kV_read_moment dc_read_moment pm_read_moment an_read_moment cd_read_moment ct_read_moment), sl_read_moment⟩) (e_read_moment : PySem.W.codeIn K cd_read_moment "read_moment" = true) (k_read_moment : PySem.W.keepIn K (.ref f_read_moment) = true)
    (a_law_refused : PySem.W.nsIn K mainGlobals "_law_refused" = some (some (.ref f_law_refused))) (l_law_refused : K.lookup f_law_refused = some ⟨oc_law_refused, od_law_refused, .func (PySem.W.fnOf "_law_refused" "_law_refused" (defArgs s_law_refused) (defBody s_law_refused) (defScope s_law_refused) .none kV_law_refused dc_law_refused pm_law_refused an_law_refused cd_law_refused ct_law_refused), sl_law_refused⟩) (e_law_refused : PySem.W.codeIn K cd_law_refused "_law_refused" = true) (k_law_refused : PySem.W.keepIn K (.ref f_law_refused) = true)
    (a_law : PySem.W.nsIn K mainGlobals "law" = some (some (.ref f_law))) (l_law : K.lookup f_law = some ⟨oc_law, od_law, .func (PySem.W.fnOf "law" "law" (defArgs s_law) (defBody s_law) (defScope s_law) .none kV_law dc_law pm_law an_law cd_law ct_law), sl_law⟩) (e_law : PySem.W.codeIn K cd_law "law" = true) (k_law : PySem.W.keepIn K (.ref f_law) = true)
    (g_DAYS : PySem.W.nsIn K mainGlobals "DAYS" = some (some (.int 146097 t_DAYS)))
    (g_DAYS_AHEAD : PySem.W.nsIn K mainGlobals "DAYS_AHEAD" = some (some (.ref c_DAYS_AHEAD))) (o_DAYS_AHEAD' : K.lookup c_DAYS_AHEAD = some o_DAYS_AHEAD) (p_DAYS_AHEAD : o_DAYS_AHEAD.cls = .type "tuple") (q_DAYS_AHEAD : o_DAYS_AHEAD.data = .seq #[.int 0 t_DAYS_AHEAD_0, .int 31 t_DAYS_AHEAD_1, .int 59 t_DAYS_AHEAD_2, .int 90 t_DAYS_AHEAD_3, .int 120 t_DAYS_AHEAD_4, .int 151 t_DAYS_AHEAD_5, .int 181 t_DAYS_AHEAD_6, .int 212 t_DAYS_AHEAD_7, .int 243 t_DAYS_AHEAD_8, .int 273 t_DAYS_AHEAD_9, .int 304 t_DAYS_AHEAD_10, .int 334 t_DAYS_AHEAD_11] n_DAYS_AHEAD)
    (g_DAY_MINUTES : PySem.W.nsIn K mainGlobals "DAY_MINUTES" = some (some (.int 1440 t_DAY_MINUTES)))
    (g_FIGURES : PySem.W.nsIn K mainGlobals "FIGURES" = some (some (.str "0123456789" t_FIGURES)))
    (g_FIRST_YEAR : PySem.W.nsIn K mainGlobals "FIRST_YEAR" = some (some (.int 2000 t_FIRST_YEAR)))
    (g_LAST_YEAR : PySem.W.nsIn K mainGlobals "LAST_YEAR" = some (some (.int 2399 t_LAST_YEAR)))
    (g_MONTHS : PySem.W.nsIn K mainGlobals "MONTHS" = some (some (.int 4800 t_MONTHS)))
    (g_MONTH_LENGTHS : PySem.W.nsIn K mainGlobals "MONTH_LENGTHS" = some (some (.ref c_MONTH_LENGTHS))) (o_MONTH_LENGTHS' : K.lookup c_MONTH_LENGTHS = some o_MONTH_LENGTHS) (p_MONTH_LENGTHS : o_MONTH_LENGTHS.cls = .type "tuple") (q_MONTH_LENGTHS : o_MONTH_LENGTHS.data = .seq #[.int 31 t_MONTH_LENGTHS_0, .int 28 t_MONTH_LENGTHS_1, .int 31 t_MONTH_LENGTHS_2, .int 30 t_MONTH_LENGTHS_3, .int 31 t_MONTH_LENGTHS_4, .int 30 t_MONTH_LENGTHS_5, .int 31 t_MONTH_LENGTHS_6, .int 31 t_MONTH_LENGTHS_7, .int 30 t_MONTH_LENGTHS_8, .int 31 t_MONTH_LENGTHS_9, .int 30 t_MONTH_LENGTHS_10, .int 31 t_MONTH_LENGTHS_11] n_MONTH_LENGTHS)
    (m_Busy : PySem.W.nsIn K mainGlobals "Busy" = some (some (.ref x_Busy)))
    (m_Closed : PySem.W.nsIn K mainGlobals "Closed" = some (some (.ref x_Closed)))
    (m_Full : PySem.W.nsIn K mainGlobals "Full" = some (some (.ref x_Full)))
    (m_HouseError : PySem.W.nsIn K mainGlobals "HouseError" = some (some (.ref x_HouseError)))
    (ct_HouseError : PySem.W.typeIn K (.ref x_HouseError) = some (.type "type")) (cb_HouseError : PySem.W.mroIn K x_HouseError (.type "BaseException") = some true)
    (m_Known : PySem.W.nsIn K mainGlobals "Known" = some (some (.ref x_Known)))
    (m_NoDay : PySem.W.nsIn K mainGlobals "NoDay" = some (some (.ref x_NoDay)))
    (m_NoHand : PySem.W.nsIn K mainGlobals "NoHand" = some (some (.ref x_NoHand)))
    (m_NoLetter : PySem.W.nsIn K mainGlobals "NoLetter" = some (some (.ref x_NoLetter)))
    (m_NoMeeting : PySem.W.nsIn K mainGlobals "NoMeeting" = some (some (.ref x_NoMeeting)))
    (m_NoPlace : PySem.W.nsIn K mainGlobals "NoPlace" = some (some (.ref x_NoPlace)))
    (m_NoRule : PySem.W.nsIn K mainGlobals "NoRule" = some (some (.ref x_NoRule)))
    (m_NoSpan : PySem.W.nsIn K mainGlobals "NoSpan" = some (some (.ref x_NoSpan)))
    (m_NoText : PySem.W.nsIn K mainGlobals "NoText" = some (some (.ref x_NoText)))
    (x_NoText' : PySem.W.excIn K x_NoText [.type "ValueError", .type "Exception", .type "BaseException", .type "object"] "ValueError.__new__" = true)
    (m_NoThing : PySem.W.nsIn K mainGlobals "NoThing" = some (some (.ref x_NoThing)))
    (m_NoWord : PySem.W.nsIn K mainGlobals "NoWord" = some (some (.ref x_NoWord)))
    (s_NoText_HouseError : PySem.W.mroIn K x_NoText (.ref x_HouseError) = some true)
    (e0_NoText : PySem.W.findIn K (.ref x_NoText) "__getattribute__" = some (some (.builtin "BaseException.__getattribute__")))
    (e1_NoText : PySem.W.findIn K (.ref x_NoText) "__getattr__" = some none)
    (e2_NoText : PySem.W.findIn K (.ref x_NoText) "__class__" = some (some (.builtin "object.__class__")))
    (e3_NoText : PySem.W.specialIn K (.builtin "object.__class__") "__get__" = some (some (.builtin "getset_descriptor.__get__")))
    (e4_NoText : PySem.W.takesIn K (.builtin "object.__class__") = some true)
    (e5_NoText : PySem.W.mroIn K x_NoText (.type "object") = some true)
    (e6_NoText : PySem.W.mroIn K x_NoText (.type "BaseException") = some true)
    (k_NoText_NoDay : PySem.W.kitOne K (.ref x_NoText) (.ref x_NoDay) = some false)
    (k_NoText_NoText : PySem.W.kitOne K (.ref x_NoText) (.ref x_NoText) = some true)
    (k_NoText_NoRule : PySem.W.kitOne K (.ref x_NoText) (.ref x_NoRule) = some false)
    (k_NoText_NoPlace : PySem.W.kitOne K (.ref x_NoText) (.ref x_NoPlace) = some false)
    (k_NoText_NoSpan : PySem.W.kitOne K (.ref x_NoText) (.ref x_NoSpan) = some false)
    (k_NoText_NoThing : PySem.W.kitOne K (.ref x_NoText) (.ref x_NoThing) = some false)
    (k_NoText_Known : PySem.W.kitOne K (.ref x_NoText) (.ref x_Known) = some false)
    (k_NoText_Full : PySem.W.kitOne K (.ref x_NoText) (.ref x_Full) = some false)
    (k_NoText_NoLetter : PySem.W.kitOne K (.ref x_NoText) (.ref x_NoLetter) = some false)
    (k_NoText_NoHand : PySem.W.kitOne K (.ref x_NoText) (.ref x_NoHand) = some false)
    (k_NoText_NoWord : PySem.W.kitOne K (.ref x_NoText) (.ref x_NoWord) = some false)
    (k_NoText_NoMeeting : PySem.W.kitOne K (.ref x_NoText) (.ref x_NoMeeting) = some false)
    (k_NoText_Closed : PySem.W.kitOne K (.ref x_NoText) (.ref x_Closed) = some false)
    (k_NoText_Busy : PySem.W.kitOne K (.ref x_NoText) (.ref x_Busy) = some false)
    (k_NoText_ValueError : PySem.W.kitOne K (.ref x_NoText) (.type "ValueError") = some true)
    (n_ValueError : PySem.W.nsIn K mainGlobals "ValueError" = some none)
    (n_all : PySem.W.nsIn K mainGlobals "all" = some none)
    (n_bool : PySem.W.nsIn K mainGlobals "bool" = some none)
    (n_divmod : PySem.W.nsIn K mainGlobals "divmod" = some none)
    (n_int : PySem.W.nsIn K mainGlobals "int" = some none)
    (n_isinstance : PySem.W.nsIn K mainGlobals "isinstance" = some none)
    (n_len : PySem.W.nsIn K mainGlobals "len" = some none)
    (n_str : PySem.W.nsIn K mainGlobals "str" = some none) :
    ∃ a : Adr, Txt K mg a ∧ a.f_law = f_law ∧ ∀ (s : Shared) (v : Value), BindsTo s a.d_law ⟨[v], []⟩ [("_law_script", v)] := by
  have F_is_made_of := fun_mk (st := s_is_made_of) l_is_made_of e_is_made_of k_is_made_of
  have b_is_made_of := F_is_made_of.binds (ps := ["text", "signs"]) fun _ _ _ _ _ _ us hl => match us, hl with | [_, _], _ => rfl
  have F_is_day := fun_mk (st := s_is_day) l_is_day e_is_day k_is_day
  have b_is_day := F_is_day.binds (ps := ["number"]) fun _ _ _ _ _ _ us hl => match us, hl with | [_], _ => rfl
  have F_is_leap := fun_mk (st := s_is_leap) l_is_leap e_is_leap k_is_leap
  have b_is_leap := F_is_leap.binds (ps := ["year"]) fun _ _ _ _ _ _ us hl => match us, hl with | [_], _ => rfl
  have F_year_begin := fun_mk (st := s_year_begin) l_year_begin e_year_begin k_year_begin
  have b_year_begin := F_year_begin.binds (ps := ["year"]) fun _ _ _ _ _ _ us hl => match us, hl with | [_], _ => rfl
  have F_clock_text := fun_mk (st := s_clock_text) l_clock_text e_clock_text k_clock_text
  have b_clock_text := F_clock_text.binds (ps := ["minute"]) fun _ _ _ _ _ _ us hl => match us, hl with | [_], _ => rfl
  have F_law_cell := fun_mk (st := s_law_cell) l_law_cell e_law_cell k_law_cell
  have b_law_cell := F_law_cell.binds (ps := ["_law_script", "_law_k"]) fun _ _ _ _ _ _ us hl => match us, hl with | [_, _], _ => rfl
  have F_law_mix := fun_mk (st := s_law_mix) l_law_mix e_law_mix k_law_mix
  have b_law_mix := F_law_mix.binds (ps := ["_law_state", "_law_cell_here"]) fun _ _ _ _ _ _ us hl => match us, hl with | [_, _], _ => rfl
  have F_law_lone := fun_mk (st := s_law_lone) l_law_lone e_law_lone k_law_lone
  have b_law_lone := F_law_lone.binds (ps := ["_law_e"]) fun _ _ _ _ _ _ us hl => match us, hl with | [_], _ => rfl
  have F_law_two := fun_mk (st := s_law_two) l_law_two e_law_two k_law_two
  have b_law_two := F_law_two.binds (ps := ["_law_number"]) fun _ _ _ _ _ _ us hl => match us, hl with | [_], _ => rfl
  have F_law_spoilt := fun_mk (st := s_law_spoilt) l_law_spoilt e_law_spoilt k_law_spoilt
  have b_law_spoilt := F_law_spoilt.binds (ps := ["_law_text", "_law_way", "_law_at"]) fun _ _ _ _ _ _ us hl => match us, hl with | [_, _, _], _ => rfl
  have F_month_days := fun_mk (st := s_month_days) l_month_days e_month_days k_month_days
  have b_month_days := F_month_days.binds (ps := ["year", "month"]) fun _ _ _ _ _ _ us hl => match us, hl with | [_, _], _ => rfl
  have F_month_begin := fun_mk (st := s_month_begin) l_month_begin e_month_begin k_month_begin
  have b_month_begin := F_month_begin.binds (ps := ["number"]) fun _ _ _ _ _ _ us hl => match us, hl with | [_], _ => rfl
  have F_looks_like_day := fun_mk (st := s_looks_like_day) l_looks_like_day e_looks_like_day k_looks_like_day
  have b_looks_like_day := F_looks_like_day.binds (ps := ["text"]) fun _ _ _ _ _ _ us hl => match us, hl with | [_], _ => rfl
  have F_read_clock := fun_mk (st := s_read_clock) l_read_clock e_read_clock k_read_clock
  have b_read_clock := F_read_clock.binds (ps := ["text"]) fun _ _ _ _ _ _ us hl => match us, hl with | [_], _ => rfl
  have F_law_moment := fun_mk (st := s_law_moment) l_law_moment e_law_moment k_law_moment
  have b_law_moment := F_law_moment.binds (ps := ["_law_state"]) fun _ _ _ _ _ _ us hl => match us, hl with | [_], _ => rfl
  have F_is_date := fun_mk (st := s_is_date) l_is_date e_is_date k_is_date
  have b_is_date := F_is_date.binds (ps := ["year", "month", "date"]) fun _ _ _ _ _ _ us hl => match us, hl with | [_, _, _], _ => rfl
  have F_month_of := fun_mk (st := s_month_of) l_month_of e_month_of k_month_of
  have b_month_of := F_month_of.binds (ps := ["day"]) fun _ _ _ _ _ _ us hl => match us, hl with | [_], _ => rfl
  subst v_day_of
  have F_day_of := funD_mk (st := s_day_of) l_day_of e_day_of k_day_of
  have b_day_of : Binds K (PySem.W.fnOf "day_of" "day_of" (defArgs s_day_of) (defBody s_day_of) (defScope s_day_of) (.ref t_day_of) kV_day_of dc_day_of pm_day_of an_day_of cd_day_of ct_day_of) ["year", "month", "date"] [] := fun s us KX hl => match us, hl with | [_, _, _], _ => BindsTo.of_defaults rfl (KX _ _ w_day_of) x_day_of rfl rfl
  have F_date_of := fun_mk (st := s_date_of) l_date_of e_date_of k_date_of
  have b_date_of := F_date_of.binds (ps := ["day"]) fun _ _ _ _ _ _ us hl => match us, hl with | [_], _ => rfl
  have F_day_text := fun_mk (st := s_day_text) l_day_text e_day_text k_day_text
  have b_day_text := F_day_text.binds (ps := ["day"]) fun _ _ _ _ _ _ us hl => match us, hl with | [_], _ => rfl
  have F_read_day := fun_mk (st := s_read_day) l_read_day e_read_day k_read_day
  have b_read_day := F_read_day.binds (ps := ["text"]) fun _ _ _ _ _ _ us hl => match us, hl with | [_], _ => rfl
  have F_law_due := fun_mk (st := s_law_due) l_law_due e_law_due k_law_due
  have b_law_due := F_law_due.binds (ps := ["_law_moment_here"]) fun _ _ _ _ _ _ us hl => match us, hl with | [_], _ => rfl
  have F_moment_text := fun_mk (st := s_moment_text) l_moment_text e_moment_text k_moment_text
  have b_moment_text := F_moment_text.binds (ps := ["moment"]) fun _ _ _ _ _ _ us hl => match us, hl with | [_], _ => rfl
  have F_read_moment := fun_mk (st := s_read_moment) l_read_moment e_read_moment k_read_moment
  have b_read_moment := F_read_moment.binds (ps := ["text"]) fun _ _ _ _ _ _ us hl => match us, hl with | [_], _ => rfl
  have F_law_refused := fun_mk (st := s_law_refused) l_law_refused e_law_refused k_law_refused
  have b_law_refused := F_law_refused.binds (ps := ["_law_work", "_law_given"]) fun _ _ _ _ _ _ us hl => match us, hl with | [_, _], _ => rfl
  have F_law := fun_mk (st := s_law) l_law e_law k_law
  have b_law := F_law.binds (ps := ["_law_script"]) fun _ _ _ _ _ _ us hl => match us, hl with | [_], _ => rfl
  exact ⟨{ f_is_made_of := f_is_made_of, d_is_made_of := _, f_is_day := f_is_day, d_is_day := _, f_is_leap := f_is_leap, d_is_leap := _, f_year_begin := f_year_begin, d_year_begin := _, f_clock_text := f_clock_text, d_clock_text := _, f_law_cell := f_law_cell, d_law_cell := _, f_law_mix := f_law_mix, d_law_mix := _, f_law_lone := f_law_lone, d_law_lone := _, f_law_two := f_law_two, d_law_two := _, f_law_spoilt := f_law_spoilt, d_law_spoilt := _, f_month_days := f_month_days, d_month_days := _, f_month_begin := f_month_begin, d_month_begin := _, f_looks_like_day := f_looks_like_day, d_looks_like_day := _, f_read_clock := f_read_clock, d_read_clock := _, f_law_moment := f_law_moment, d_law_moment := _, f_is_date := f_is_date, d_is_date := _, f_month_of := f_month_of, d_month_of := _, f_day_of := f_day_of, d_day_of := _, f_date_of := f_date_of, d_date_of := _, f_day_text := f_day_text, d_day_text := _, f_read_day := f_read_day, d_read_day := _, f_law_due := f_law_due, d_law_due := _, f_moment_text := f_moment_text, d_moment_text := _, f_read_moment := f_read_moment, d_read_moment := _, f_law_refused := f_law_refused, d_law_refused := _, f_law := f_law, d_law := _, c_DAYS_AHEAD := c_DAYS_AHEAD, c_MONTH_LENGTHS := c_MONTH_LENGTHS, x_Busy := x_Busy, x_Closed := x_Closed, x_Full := x_Full, x_HouseError := x_HouseError, x_Known := x_Known, x_NoDay := x_NoDay, x_NoHand := x_NoHand, x_NoLetter := x_NoLetter, x_NoMeeting := x_NoMeeting, x_NoPlace := x_NoPlace, x_NoRule := x_NoRule, x_NoSpan := x_NoSpan, x_NoText := x_NoText, x_NoThing := x_NoThing, x_NoWord := x_NoWord }, ⟨F_is_made_of, PySem.W.mg_of X G a_is_made_of, b_is_made_of, F_is_day, PySem.W.mg_of X G a_is_day, b_is_day, F_is_leap, PySem.W.mg_of X G a_is_leap, b_is_leap, F_year_begin, PySem.W.mg_of X G a_year_begin, b_year_begin, F_clock_text, PySem.W.mg_of X G a_clock_text, b_clock_text, F_law_cell, PySem.W.mg_of X G a_law_cell, b_law_cell, F_law_mix, PySem.W.mg_of X G a_law_mix, b_law_mix, F_law_lone, PySem.W.mg_of X G a_law_lone, b_law_lone, F_law_two, PySem.W.mg_of X G a_law_two, b_law_two, F_law_spoilt, PySem.W.mg_of X G a_law_spoilt, b_law_spoilt, F_month_days, PySem.W.mg_of X G a_month_days, b_month_days, F_month_begin, PySem.W.mg_of X G a_month_begin, b_month_begin, F_looks_like_day, PySem.W.mg_of X G a_looks_like_day, b_looks_like_day, F_read_clock, PySem.W.mg_of X G a_read_clock, b_read_clock, F_law_moment, PySem.W.mg_of X G a_law_moment, b_law_moment, F_is_date, PySem.W.mg_of X G a_is_date, b_is_date, F_month_of, PySem.W.mg_of X G a_month_of, b_month_of, F_day_of, PySem.W.mg_of X G a_day_of, b_day_of, F_date_of, PySem.W.mg_of X G a_date_of, b_date_of, F_day_text, PySem.W.mg_of X G a_day_text, b_day_text, F_read_day, PySem.W.mg_of X G a_read_day, b_read_day, F_law_due, PySem.W.mg_of X G a_law_due, b_law_due, F_moment_text, PySem.W.mg_of X G a_moment_text, b_moment_text, F_read_moment, PySem.W.mg_of X G a_read_moment, b_read_moment, F_law_refused, PySem.W.mg_of X G a_law_refused, b_law_refused, F_law, PySem.W.mg_of X G a_law, b_law, ⟨_, PySem.W.mg_of X G g_DAYS⟩, PySem.W.mg_of X G g_DAYS_AHEAD, fun H => .inr ⟨_, _, _, o_DAYS_AHEAD', p_DAYS_AHEAD, q_DAYS_AHEAD, (by show 12 ≤ sizeLine; decide), (.cons ⟨_, rfl⟩ (.cons ⟨_, rfl⟩ (.cons ⟨_, rfl⟩ (.cons ⟨_, rfl⟩ (.cons ⟨_, rfl⟩ (.cons ⟨_, rfl⟩ (.cons ⟨_, rfl⟩ (.cons ⟨_, rfl⟩ (.cons ⟨_, rfl⟩ (.cons ⟨_, rfl⟩ (.cons ⟨_, rfl⟩ (.cons ⟨_, rfl⟩ .nil))))))))))))⟩, ⟨_, PySem.W.mg_of X G g_DAY_MINUTES⟩, ⟨_, PySem.W.mg_of X G g_FIGURES⟩, ⟨_, PySem.W.mg_of X G g_FIRST_YEAR⟩, ⟨_, PySem.W.mg_of X G g_LAST_YEAR⟩, ⟨_, PySem.W.mg_of X G g_MONTHS⟩, PySem.W.mg_of X G g_MONTH_LENGTHS, fun H => .inr ⟨_, _, _, o_MONTH_LENGTHS', p_MONTH_LENGTHS, q_MONTH_LENGTHS, (by show 12 ≤ sizeLine; decide), (.cons ⟨_, rfl⟩ (.cons ⟨_, rfl⟩ (.cons ⟨_, rfl⟩ (.cons ⟨_, rfl⟩ (.cons ⟨_, rfl⟩ (.cons ⟨_, rfl⟩ (.cons ⟨_, rfl⟩ (.cons ⟨_, rfl⟩ (.cons ⟨_, rfl⟩ (.cons ⟨_, rfl⟩ (.cons ⟨_, rfl⟩ (.cons ⟨_, rfl⟩ .nil))))))))))))⟩, PySem.W.mg_of X G m_Busy, PySem.W.mg_of X G m_Closed, PySem.W.mg_of X G m_Full, PySem.W.mg_of X G m_HouseError, ⟨ct_HouseError, cb_HouseError⟩, PySem.W.mg_of X G m_Known, PySem.W.mg_of X G m_NoDay, PySem.W.mg_of X G m_NoHand, PySem.W.mg_of X G m_NoLetter, PySem.W.mg_of X G m_NoMeeting, PySem.W.mg_of X G m_NoPlace, PySem.W.mg_of X G m_NoRule, PySem.W.mg_of X G m_NoSpan, PySem.W.mg_of X G m_NoText, x_NoText', PySem.W.mg_of X G m_NoThing, PySem.W.mg_of X G m_NoWord, s_NoText_HouseError, ⟨exc_cs e5_NoText, e0_NoText, e1_NoText, e2_NoText, e3_NoText, e4_NoText, e5_NoText, e6_NoText⟩, k_NoText_NoDay, k_NoText_NoText, k_NoText_NoRule, k_NoText_NoPlace, k_NoText_NoSpan, k_NoText_NoThing, k_NoText_Known, k_NoText_Full, k_NoText_NoLetter, k_NoText_NoHand, k_NoText_NoWord, k_NoText_NoMeeting, k_NoText_Closed, k_NoText_Busy, k_NoText_ValueError, PySem.W.mg_none_of X G n_ValueError, PySem.W.mg_none_of X G n_all, PySem.W.mg_none_of X G n_bool, PySem.W.mg_none_of X G n_divmod, PySem.W.mg_none_of X G n_int, PySem.W.mg_none_of X G n_isinstance, PySem.W.mg_none_of X G n_len, PySem.W.mg_none_of X G n_str⟩, rfl, fun s v => .of_eq rfl⟩
end K81
namespace K81
open PySem L2
theorem walk {l : PySem.W.OpenLaw} {q : Program} {loose : List Str} {XP : (Str → Option Value) → Heap → Prop} {YP : World → Heap → Prop} {d : DefRec} {K : Params → PySem.W.Frag} (hn : l.most = some 63) (hdf : d.params.defaults = [])
    (hY : ∀ (w : World) (h : Heap), YP w h → (K w.params).In h)
    (F : ∀ (w : World) (mg : Str → Option Value) (fa : Addr) (h : Heap), (K w.params).In h → h.Ns mainGlobals mg → mg d.name = some (.ref fa) →
      ∃ fd : FuncData, (∀ (s : Shared) (u : Value), BindsTo s fd ⟨[u], []⟩ [("_law_script", u)]) ∧ ∀ base : Heap, (K w.params).In base → base.Ns mainGlobals mg → FnOk l.prog w (K w.params) mg base CX0 true 8 fa fd ["_law_script"] (sp_law (K w.params))) :
    PySem.W.WalkO q loose XP YP l.row.toRowW d [] (fun f vs => PySem.call f vs) :=
  L2.walk_of (cm := true) (n := 63) (k := 8) (x := "_law_script") (CX := fun _ => CX0) (sp := fun w => sp_law (K w.params)) hn (by decide) hdf ⟨fun _ => rfl, by decide, by decide⟩ hY F (fun _ _ a ns hl _ hS => ⟨a, ns, rfl, hS, hl, fun _ => rfl⟩) fun _ _ _ _ _ z => z
theorem all_ok {l : PySem.W.OpenLaw} {w : World} {K : PySem.W.Frag} {mg : Str → Option Value} {fa f : Addr} (hfa : mg "law" = some (.ref fa))
    (h : ∃ a : Adr, Txt K mg a ∧ a.f_law = f ∧ ∀ (s : Shared) (v : Value), BindsTo s a.d_law ⟨[v], []⟩ [("_law_script", v)]) :
    ∃ fd : FuncData, (∀ (s : Shared) (u : Value), BindsTo s fd ⟨[u], []⟩ [("_law_script", u)]) ∧ ∀ base : Heap, K.In base → base.Ns mainGlobals mg → FnOk l.prog w K mg base CX0 true 8 fa fd ["_law_script"] (sp_law K) := by
  obtain ⟨a, T, _, hb⟩ := h
  have e := T.m_law
  rw [hfa] at e
  cases e
  exact ⟨a.d_law, hb, fun base _ _ => ok_law T⟩
end K81
open PySem PySem.W PyProof.Rows
set_option maxRecDepth 100000 in
set_option maxHeartbeats 0 in
theorem PySem.Challenge.cw_hourhouse_k81_moments_as_texts_holds : PySem.Challenge.rw_hourhouse_k81_moments_as_texts.Holds := by
  w_on; o_law; k_head; (case hw => w_witness2)
  k_fill
  refine K81.walk (l := PySem.Challenge.rw_hourhouse_k81_moments_as_texts) rfl rfl (fun w h Y => PySem.W.kIn_of Y) ?F
  case F =>
    intro w mg fa h KX G hmg
    refine' K81.all_ok hmg (K81.txt_mk KX G ?a_is_made_of ?l_is_made_of ?e_is_made_of ?k_is_made_of ?a_is_day ?l_is_day ?e_is_day ?k_is_day ?a_is_leap ?l_is_leap ?e_is_leap ?k_is_leap ?a_year_begin ?l_year_begin ?e_year_begin ?k_year_begin ?a_clock_text ?l_clock_text ?e_clock_text ?k_clock_text ?a_law_cell ?l_law_cell ?e_law_cell ?k_law_cell ?a_law_mix ?l_law_mix ?e_law_mix ?k_law_mix ?a_law_lone ?l_law_lone ?e_law_lone ?k_law_lone ?a_law_two ?l_law_two ?e_law_two ?k_law_two ?a_law_spoilt ?l_law_spoilt ?e_law_spoilt ?k_law_spoilt ?a_month_days ?l_month_days ?e_month_days ?k_month_days ?a_month_begin ?l_month_begin ?e_month_begin ?k_month_begin ?a_looks_like_day ?l_looks_like_day ?e_looks_like_day ?k_looks_like_day ?a_read_clock ?l_read_clock ?e_read_clock ?k_read_clock ?a_law_moment ?l_law_moment ?e_law_moment ?k_law_moment ?a_is_date ?l_is_date ?e_is_date ?k_is_date ?a_month_of ?l_month_of ?e_month_of ?k_month_of ?a_day_of ?l_day_of ?e_day_of ?k_day_of ?v_day_of ?w_day_of ?x_day_of ?a_date_of ?l_date_of ?e_date_of ?k_date_of ?a_day_text ?l_day_text ?e_day_text ?k_day_text ?a_read_day ?l_read_day ?e_read_day ?k_read_day ?a_law_due ?l_law_due ?e_law_due ?k_law_due ?a_moment_text ?l_moment_text ?e_moment_text ?k_moment_text ?a_read_moment ?l_read_moment ?e_read_moment ?k_read_moment ?a_law_refused ?l_law_refused ?e_law_refused ?k_law_refused ?a_law ?l_law ?e_law ?k_law ?g_DAYS ?g_DAYS_AHEAD ?o_DAYS_AHEAD' ?p_DAYS_AHEAD ?q_DAYS_AHEAD ?g_DAY_MINUTES ?g_FIGURES ?g_FIRST_YEAR ?g_LAST_YEAR ?g_MONTHS ?g_MONTH_LENGTHS ?o_MONTH_LENGTHS' ?p_MONTH_LENGTHS ?q_MONTH_LENGTHS ?m_Busy ?m_Closed ?m_Full ?m_HouseError ?ct_HouseError ?cb_HouseError ?m_Known ?m_NoDay ?m_NoHand ?m_NoLetter ?m_NoMeeting ?m_NoPlace ?m_NoRule ?m_NoSpan ?m_NoText ?x_NoText' ?m_NoThing ?m_NoWord ?s_NoText_HouseError ?e0_NoText ?e1_NoText ?e2_NoText ?e3_NoText ?e4_NoText ?e5_NoText ?e6_NoText ?k_NoText_NoDay ?k_NoText_NoText ?k_NoText_NoRule ?k_NoText_NoPlace ?k_NoText_NoSpan ?k_NoText_NoThing ?k_NoText_Known ?k_NoText_Full ?k_NoText_NoLetter ?k_NoText_NoHand ?k_NoText_NoWord ?k_NoText_NoMeeting ?k_NoText_Closed ?k_NoText_Busy ?k_NoText_ValueError ?n_ValueError ?n_all ?n_bool ?n_divmod ?n_int ?n_isinstance ?n_len ?n_str)
    (case a_is_made_of => k_is)
    (case l_is_made_of => k_is)
    (case e_is_made_of => k_is)
    (case k_is_made_of => k_is)
    (case a_is_day => k_is)
    (case l_is_day => k_is)
    (case e_is_day => k_is)
    (case k_is_day => k_is)
    (case a_is_leap => k_is)
    (case l_is_leap => k_is)
    (case e_is_leap => k_is)
    (case k_is_leap => k_is)
    (case a_year_begin => k_is)
    (case l_year_begin => k_is)
    (case e_year_begin => k_is)
    (case k_year_begin => k_is)
    (case a_clock_text => k_is)
    (case l_clock_text => k_is)
    (case e_clock_text => k_is)
    (case k_clock_text => k_is)
    (case a_law_cell => k_is)
    (case l_law_cell => k_is)
    (case e_law_cell => k_is)
    (case k_law_cell => k_is)
    (case a_law_mix => k_is)
    (case l_law_mix => k_is)
    (case e_law_mix => k_is)
    (case k_law_mix => k_is)
    (case a_law_lone => k_is)
    (case l_law_lone => k_is)
    (case e_law_lone => k_is)
    (case k_law_lone => k_is)
    (case a_law_two => k_is)
    (case l_law_two => k_is)
    (case e_law_two => k_is)
    (case k_law_two => k_is)
    (case a_law_spoilt => k_is)
    (case l_law_spoilt => k_is)
    (case e_law_spoilt => k_is)
    (case k_law_spoilt => k_is)
    (case a_month_days => k_is)
    (case l_month_days => k_is)
    (case e_month_days => k_is)
    (case k_month_days => k_is)
    (case a_month_begin => k_is)
    (case l_month_begin => k_is)
    (case e_month_begin => k_is)
    (case k_month_begin => k_is)
    (case a_looks_like_day => k_is)
    (case l_looks_like_day => k_is)
    (case e_looks_like_day => k_is)
    (case k_looks_like_day => k_is)
    (case a_read_clock => k_is)
    (case l_read_clock => k_is)
    (case e_read_clock => k_is)
    (case k_read_clock => k_is)
    (case a_law_moment => k_is)
    (case l_law_moment => k_is)
    (case e_law_moment => k_is)
    (case k_law_moment => k_is)
    (case a_is_date => k_is)
    (case l_is_date => k_is)
    (case e_is_date => k_is)
    (case k_is_date => k_is)
    (case a_month_of => k_is)
    (case l_month_of => k_is)
    (case e_month_of => k_is)
    (case k_month_of => k_is)
    (case a_day_of => k_is)
    (case l_day_of => k_is)
    (case e_day_of => k_is)
    (case k_day_of => k_is)
    (case v_day_of => rfl)
    (case w_day_of => k_is)
    (case x_day_of => rfl)
    (case a_date_of => k_is)
    (case l_date_of => k_is)
    (case e_date_of => k_is)
    (case k_date_of => k_is)
    (case a_day_text => k_is)
    (case l_day_text => k_is)
    (case e_day_text => k_is)
    (case k_day_text => k_is)
    (case a_read_day => k_is)
    (case l_read_day => k_is)
    (case e_read_day => k_is)
    (case k_read_day => k_is)
    (case a_law_due => k_is)
    (case l_law_due => k_is)
    (case e_law_due => k_is)
    (case k_law_due => k_is)
    (case a_moment_text => k_is)
    (case l_moment_text => k_is)
    (case e_moment_text => k_is)
    (case k_moment_text => k_is)
    (case a_read_moment => k_is)
    (case l_read_moment => k_is)
    (case e_read_moment => k_is)
    (case k_read_moment => k_is)
    (case a_law_refused => k_is)
    (case l_law_refused => k_is)
    (case e_law_refused => k_is)
    (case k_law_refused => k_is)
    (case a_law => k_is)
    (case l_law => k_is)
    (case e_law => k_is)
    (case k_law => k_is)
    (case g_DAYS => k_is)
    (case g_DAYS_AHEAD => k_is)
    (case o_DAYS_AHEAD' => k_is)
    (case p_DAYS_AHEAD => rfl)
    (case q_DAYS_AHEAD => rfl)
    (case g_DAY_MINUTES => k_is)
    (case g_FIGURES => k_is)
    (case g_FIRST_YEAR => k_is)
    (case g_LAST_YEAR => k_is)
    (case g_MONTHS => k_is)
    (case g_MONTH_LENGTHS => k_is)
    (case o_MONTH_LENGTHS' => k_is)
    (case p_MONTH_LENGTHS => rfl)
    (case q_MONTH_LENGTHS => rfl)
    (case m_Busy => k_is)
    (case m_Closed => k_is)
    (case m_Full => k_is)
    (case m_HouseError => k_is)
    (case ct_HouseError => k_is)
    (case cb_HouseError => k_is)
    (case m_Known => k_is)
    (case m_NoDay => k_is)
    (case m_NoHand => k_is)
    (case m_NoLetter => k_is)
    (case m_NoMeeting => k_is)
    (case m_NoPlace => k_is)
    (case m_NoRule => k_is)
    (case m_NoSpan => k_is)
    (case m_NoText => k_is)
    (case x_NoText' => k_exc)
    (case m_NoThing => k_is)
    (case m_NoWord => k_is)
    (case s_NoText_HouseError => k_is)
    (case e0_NoText => k_is)
    (case e1_NoText => k_is)
    (case e2_NoText => k_is)
    (case e3_NoText => k_is)
    (case e4_NoText => k_is)
    (case e5_NoText => k_is)
    (case e6_NoText => k_is)
    (case k_NoText_NoDay => kit_is)
    (case k_NoText_NoText => kit_is)
    (case k_NoText_NoRule => kit_is)
    (case k_NoText_NoPlace => kit_is)
    (case k_NoText_NoSpan => kit_is)
    (case k_NoText_NoThing => kit_is)
    (case k_NoText_Known => kit_is)
    (case k_NoText_Full => kit_is)
    (case k_NoText_NoLetter => kit_is)
    (case k_NoText_NoHand => kit_is)
    (case k_NoText_NoWord => kit_is)
    (case k_NoText_NoMeeting => kit_is)
    (case k_NoText_Closed => kit_is)
    (case k_NoText_Busy => kit_is)
    (case k_NoText_ValueError => kit_is)
    (case n_ValueError => k_is)
    (case n_all => k_is)
    (case n_bool => k_is)
    (case n_divmod => k_is)
    (case n_int => k_is)
    (case n_isinstance => k_is)
    (case n_len => k_is)
    (case n_str => k_is)


