import PyProof.Rows.All
import Wide.All
import OpenK.AllK
import Wide.FinOn
import Lean
import PyProof.EqAt
import PyProof.EqKinds
import PyProof.TupleCall
import PySem.Challenge.RW_hourhouse_k61_names_and_letters
set_option Elab.async false
set_option linter.all false
set_option maxRecDepth 100000
/-! THE HAND LAYER, for ints, bools, texts, own classes, LISTS and tuples (index, slices, in, append, pop ..), calls, loops. Paste it whole ahead of your own text; what your proof does not reach may be deleted. -/
namespace L2
open PySem PySem.Spec PyProof.Rows

/-- a key: an int or a str -/
abbrev Key := Sum Int Str
def keyIs : Key → Value → Bool
  | .inl k, v => Value.isInt k v
  | .inr x, v => Value.isStrOf x v
def keyH (w : World) : Key → Int
  | .inl k => hashInt k
  | .inr x => hashStr w x
theorem keyIs_shape : ∀ {k : Key} {v : Value}, keyIs k v = true → (∃ i t, k = Sum.inl i ∧ v = Value.int i t) ∨ (∃ x t, k = Sum.inr x ∧ v = Value.str x t)
  | .inl i, v, h => by
    obtain ⟨t, e⟩ := Value.isInt_shape (k := i) (v := v) h
    exact .inl ⟨i, t, rfl, e⟩
  | .inr x, v, h => by
    obtain ⟨t, e⟩ := Value.isStrOf_shape (x := x) (v := v) h
    exact .inr ⟨x, t, rfl, e⟩
theorem key_ll (a b : Int) : decide ((Sum.inl a : Key) = Sum.inl b) = (a == b) := by
  by_cases e : a = b
  · subst e; simp
  · have h : ¬ (Sum.inl a : Key) = Sum.inl b := fun q => e (Sum.inl.inj q)
    rw [decide_eq_false h]
    exact (beq_eq_false_iff_ne.mpr e).symm
theorem key_rr (a b : Str) : decide ((Sum.inr a : Key) = Sum.inr b) = decide (a = b) := by
  by_cases e : a = b
  · subst e; simp
  · have h : ¬ (Sum.inr a : Key) = Sum.inr b := fun q => e (Sum.inr.inj q)
    rw [decide_eq_false h, decide_eq_false e]
theorem key_lr (a : Int) (b : Str) : decide ((Sum.inl a : Key) = Sum.inr b) = false := decide_eq_false (fun q => nomatch q)
theorem key_rl (a : Str) (b : Int) : decide ((Sum.inr a : Key) = Sum.inl b) = false := decide_eq_false (fun q => nomatch q)

def mixKind (prog : Program) (w : World) : PySem.KeyKind prog w Key where
  is := keyIs
  hash := keyH w
  inj := fun v a b ha hb => by
    rcases keyIs_shape ha with ⟨i, t, rfl, rfl⟩ | ⟨x, t, rfl, rfl⟩
    · rcases keyIs_shape hb with ⟨j, u, rfl, e⟩ | ⟨y, u, rfl, e⟩
      · injection e with e1 _; rw [e1]
      · exact nomatch e
    · rcases keyIs_shape hb with ⟨j, u, rfl, e⟩ | ⟨y, u, rfl, e⟩
      · exact nomatch e
      · injection e with e1 _; rw [e1]
  byValue := fun k v h => by
    rcases keyIs_shape h with ⟨i, t, rfl, rfl⟩ | ⟨x, t, rfl, rfl⟩ <;> rfl
  pyHash := fun hv h => by
    rcases keyIs_shape hv with ⟨i, t, rfl, rfl⟩ | ⟨x, t, rfl, rfl⟩
    · exact wpAny_pyHash_int h
    · exact wpAny_pyHash_str h
  eqBool := fun hu hv h => by
    rcases keyIs_shape hu with ⟨i, t, rfl, rfl⟩ | ⟨x, t, rfl, rfl⟩
    · rcases keyIs_shape hv with ⟨j, u, rfl, rfl⟩ | ⟨y, u, rfl, rfl⟩
      · rw [key_ll] at h; exact wpAny_eqBool_int h
      · rw [key_lr] at h; exact SeqAt.EqAt.int_str i t y u _ _ _ _ h
    · rcases keyIs_shape hv with ⟨j, u, rfl, rfl⟩ | ⟨y, u, rfl, rfl⟩
      · rw [key_rl] at h; exact SeqAt.EqAt.str_int x t j u _ _ _ _ h
      · rw [key_rr] at h; exact wpAny_eqBool_str h
  «strs» := fun k x t v h => by
    rcases keyIs_shape h with ⟨i, u, rfl, e⟩ | ⟨y, u, rfl, e⟩
    · exact nomatch e
    · injection e with e1 _
      subst e1
      cases v <;> rfl

end L2

namespace L2
open PySem PySem.Spec PyProof.Rows

/-- a value, without the heap -/
inductive V where
  | non | bl (b : Bool) | int (i : Int) | str (x : Str) | byt (b : Array UInt8) | flt (b : UInt64) | ref (a : Addr) | ty (n : String)
  deriving DecidableEq

def RelV : V → Value → Prop
  | .non, u => u = Value.none
  | .bl b, u => u = Value.bool b
  | .int i, u => ∃ t, u = Value.int i t
  | .str x, u => ∃ t, u = Value.str x t
  | .byt b, u => ∃ t, u = Value.bytes b t
  | .flt b, u => ∃ t, u = Value.float b t
  | .ref a, u => u = Value.ref a
  | .ty n, u => u = Value.type n

abbrev Vals : List V → List Value → Prop := Paired RelV
theorem Vals.length {xs : List V} {us : List Value} (r : Vals xs us) : xs.length = us.length := Paired.length r
theorem Vals.get : ∀ {xs : List V} {us : List Value} {i : Nat} {x : V}, Vals xs us → xs[i]? = some x → ∃ u, us[i]? = some u ∧ RelV x u
  | _, _, _, _, .nil, e => by simp at e
  | _, _, 0, _, .cons r _, e => by simp at e; subst e; exact ⟨_, rfl, r⟩
  | _, _, i + 1, x, .cons _ t, e => by
    obtain ⟨u, h1, h2⟩ := Vals.get (i := i) (x := x) t (by simpa using e)
    exact ⟨u, by simpa using h1, h2⟩
theorem Vals.set {x : V} {u : Value} (r : RelV x u) : ∀ {xs : List V} {us : List Value} (i : Nat), Vals xs us → Vals (xs.set i x) (us.set i u)
  | _, _, _, .nil => .nil
  | _, _, 0, .cons _ t => .cons r t
  | _, _, i + 1, .cons q t => .cons q (Vals.set r i t)
theorem Vals.append : ∀ {xs ys : List V} {us ws : List Value}, Vals xs us → Vals ys ws → Vals (xs ++ ys) (us ++ ws)
  | _, _, _, _, .nil, s => s
  | _, _, _, _, .cons r t, s => .cons r (Vals.append t s)
theorem Vals.take : ∀ {xs : List V} {us : List Value} (n : Nat), Vals xs us → Vals (xs.take n) (us.take n)
  | _, _, 0, _ => .nil
  | _, _, _ + 1, .nil => .nil
  | _, _, n + 1, .cons r t => .cons r (Vals.take n t)
theorem Vals.drop : ∀ {xs : List V} {us : List Value} (n : Nat), Vals xs us → Vals (xs.drop n) (us.drop n)
  | _, _, 0, r => r
  | _, _, _ + 1, .nil => .nil
  | _, _, n + 1, .cons _ t => Vals.drop n t
def RelO : Option V → Option Value → Prop
  | some v, some u => RelV v u
  | none, none => True
  | _, _ => False
def KV {κ : Type} : List (κ × V) → List (κ × Value) → Prop := Paired fun (p : κ × V) (q : κ × Value) => p.1 = q.1 ∧ RelV p.2 q.2

/-- a key of a dict (00_mix): an int or a text -/
def kV : Key → V
  | .inl i => .int i
  | .inr x => .str x

/-- what stands at a tracked address -/
inductive HO where
  /-- a list -/
  | lst (xs : List V)
  /-- a tuple (never changes) -/
  | tup (xs : List V)
  /-- a dict whose keys are ints and texts; one whose keys are tuples of ints and texts (the empty one is both) -/
  | dK (kvs : List (Key × V)) | dT (kvs : List (List Key × V))
  /-- a set of ints: its members, its size -/
  | set (S : Int → Bool) (n : Nat)
  /-- an instance of the class at C, its dict at dx, its attributes -/
  | ins (C dx : Addr) (fs : List (Str × V))
  /-- the dict of the instance at x -/
  | own (x : Addr)
  /-- the dict of an exception -/
  | xd (fs : List (Str × V))
  /-- a bound method, f of x -/
  | met (f x : Addr)
  /-- a range object lo, lo + 1, .. below hi -/
  | rng (lo hi : Int)
  /-- a thing that is known to the object (the script; a dict while a loop walks it): read, never written while it is so -/
  | frz (o : Obj) (u : HO)
  /-- a code object's table -/
  | tbl (ps : Array Value)
  /-- any other thing, by what is true of its one object (a def of one's own: SetO a S n := HO.ext fun h => ..) -/
  | ext (φ : Heap → Prop)

abbrev Hp := Addr → Option HO
def upd (H : Hp) (a : Addr) (o : HO) : Hp := fun b => if b = a then some o else H b
theorem upd_same {H : Hp} {a : Addr} {o : HO} : upd H a o a = some o := by unfold upd; rw [if_pos rfl]
theorem upd_ne {H : Hp} {a b : Addr} {o : HO} (h : b ≠ a) : upd H a o b = H b := by unfold upd; rw [if_neg h]
theorem ne_of_none {H : Hp} {a b : Addr} {o : HO} (h : H a = some o) (h' : H b = none) : a ≠ b := by
  intro e; subst e; rw [h] at h'; cases h'

section
variable (P : Program) (w : World)
def ObjOk (H : Hp) (h : Heap) (a : Addr) : HO → Prop
  | .lst xs => xs.length ≤ sizeLine ∧ ∃ (its : List Value) (n : Nat), Vals xs its ∧ h.get? a = some { cls := .type "list", data := .seq its.toArray n }
  | .tup xs => xs.length ≤ sizeLine ∧ ∃ its : List Value, Vals xs its ∧ IsTup h a its.toArray
  | .dK kvs => kvs.length ≤ sizeLine ∧ (a == sysModules) = false ∧ ∃ vs, KV kvs vs ∧ h.DictOf (mixKind P w) a vs
  | .dT kvs => kvs.length ≤ sizeLine ∧ (a == sysModules) = false ∧ ∃ xs : List (List Key × Addr × Value),
      Paired (fun (p : List Key × V) (q : List Key × Addr × Value) => p.1 = q.1 ∧ H q.2.1 = some (.tup (p.1.map kV)) ∧ RelV p.2 q.2.2) kvs xs ∧
      ∃ o es ep, h.get? a = some o ∧ o.ExactDict ∧ o.data = .dict es ep ∧ es.toList = xs.map (entryOfKey (tupleKind (mixKind P w))) ∧ (xs.map (·.1)).Nodup
  | .set S n => h.SetOf (intKind P w) a S n
  | .ins C dx fs => H dx = some (.own a) ∧ fs.length ≤ 1000 ∧ dx ≠ a ∧ h.get? a = some (PySem.W.instObj C dx) ∧
      ∃ mA, h.Ns1 dx mA ∧ (∀ f, RelO (fs.lookup f) (mA f)) ∧ PySem.Within mA (fs.map (·.1))
  | .own _ => ∃ o, h.get? a = some o
  | .xd fs => ∃ mA, h.Ns1 a mA ∧ ∀ f, RelO (fs.lookup f) (mA f)
  | .rng lo hi => ∃ t u v, h.get? a = some { cls := .type "range", data := .fields #[.int lo t, .int hi u, .int 1 v] }
  | .frz o u => h.get? a = some o ∧ ObjOk H h a u
  | .tbl ps => h.get? a = some { cls := .none, data := .fields ps }
  | .met f x => h.get? a = some (PySem.W.methodObj (.ref f) (.ref x))
  | .ext φ => φ h ∧ (∃ o, h.get? a = some o) ∧ ∀ h1 h2 : Heap, φ h1 → (∀ o, h1.get? a = some o → h2.get? a = some o) → φ h2
/-- the abstract heap is held -/
def HOk (H : Hp) (h : Heap) : Prop := ∀ a o, H a = some o → ObjOk P w H h a o
end

section
variable {P : Program} {w : World} {H H' : Hp} {h h' : Heap} {a : Addr} {o : HO}
theorem ObjOk.lt (x : ObjOk P w H h a o) : a < h.objs.size := by
  cases o with
  | lst xs => obtain ⟨_, _, _, _, e⟩ := x; exact Heap.lt_size e
  | tup xs => obtain ⟨_, _, _, p⟩ := x; exact p.lt
  | dK kvs => obtain ⟨_, _, _, _, o, _, _, e, _⟩ := x; exact Heap.lt_size e
  | dT kvs => obtain ⟨_, _, _, _, o, _, _, e, _⟩ := x; exact Heap.lt_size e
  | set S n => obtain ⟨o, _, _, _, e, _⟩ := x; exact Heap.lt_size e
  | ins C dx fs => obtain ⟨_, _, _, e, _⟩ := x; exact Heap.lt_size e
  | own y => obtain ⟨_, e⟩ := x; exact Heap.lt_size e
  | xd fs => obtain ⟨_, ⟨_, _, _, e, _⟩, _⟩ := x; exact Heap.lt_size e
  | rng lo hi => obtain ⟨_, _, _, e⟩ := x; exact Heap.lt_size e
  | frz ob u => obtain ⟨e, _⟩ := x; exact Heap.lt_size e
  | tbl ps => exact Heap.lt_size (show h.get? a = some _ from x)
  | met f y => exact Heap.lt_size (show h.get? a = some _ from x)
  | ext φ => obtain ⟨_, ⟨_, e⟩, _⟩ := x; exact Heap.lt_size e
theorem Paired.mapP {α β : Type} {F G : α → β → Prop} : ∀ {l₁ : List α} {l₂ : List β}, Paired F l₁ l₂ → (∀ a b, F a b → G a b) → Paired G l₁ l₂
  | _, _, .nil, _ => .nil
  | _, _, .cons r t, f => .cons (f _ _ r) (Paired.mapP t f)
/-- what an object's description leans on: its own object, its own dict, the tuples -/
theorem ObjOk.stay (x : ObjOk P w H h a o) (k : ∀ b u, (b = a ∨ H b = some (.own a)) → h.get? b = some u → h'.get? b = some u)
    (ho : ∀ b, H b = some (.own a) → H' b = some (.own a)) (ht : ∀ b xs, H b = some (.tup xs) → H' b = some (.tup xs)) : ObjOk P w H' h' a o := by
  induction o with
  | lst xs => obtain ⟨z, its, n, r, e⟩ := x; exact ⟨z, its, n, r, k _ _ (.inl rfl) e⟩
  | tup xs => obtain ⟨z, its, r, ob, e, c⟩ := x; exact ⟨z, its, r, ob, k _ _ (.inl rfl) e, c⟩
  | dK kvs => obtain ⟨z, y, vs, r, ob, es, ep, e, c⟩ := x; exact ⟨z, y, vs, r, ob, es, ep, k _ _ (.inl rfl) e, c⟩
  | dT kvs =>
    obtain ⟨z, y, xs, r, ob, es, ep, e, c⟩ := x
    exact ⟨z, y, xs, Paired.mapP r fun p q z => ⟨z.1, ht _ _ z.2.1, z.2.2⟩, ob, es, ep, k _ _ (.inl rfl) e, c⟩
  | set S n => obtain ⟨ob, es, ep, t, e, c⟩ := x; exact ⟨ob, es, ep, t, k _ _ (.inl rfl) e, c⟩
  | ins C dx fs =>
    obtain ⟨d, z, ne, e, mA, ⟨od, es, ep, e2, c⟩, r⟩ := x
    exact ⟨ho _ d, z, ne, k _ _ (.inl rfl) e, mA, ⟨od, es, ep, k _ _ (.inr d) e2, c⟩, r⟩
  | own y => obtain ⟨ob, e⟩ := x; exact ⟨ob, k _ _ (.inl rfl) e⟩
  | xd fs => obtain ⟨mA, ⟨od, es, ep, e, c⟩, r⟩ := x; exact ⟨mA, ⟨od, es, ep, k _ _ (.inl rfl) e, c⟩, r⟩
  | rng lo hi => obtain ⟨t, u, v, e⟩ := x; exact ⟨t, u, v, k _ _ (.inl rfl) e⟩
  | frz ob u ih => obtain ⟨e, q⟩ := x; exact ⟨k _ _ (.inl rfl) e, ih q⟩
  | tbl ps =>
    have e : h.get? a = some { cls := .none, data := .fields ps } := x
    show h'.get? a = some { cls := .none, data := .fields ps }
    exact k a _ (.inl rfl) e
  | met f y =>
    have e : h.get? a = some (PySem.W.methodObj (.ref f) (.ref y)) := x
    show h'.get? a = some (PySem.W.methodObj (.ref f) (.ref y))
    exact k a _ (.inl rfl) e
  | ext φ => obtain ⟨p, ⟨o, e⟩, st⟩ := x; exact ⟨st _ _ p fun o q => k _ _ (.inl rfl) q, ⟨o, k _ _ (.inl rfl) e⟩, st⟩
theorem HOk.lt (x : HOk P w H h) (e : H a = some o) : a < h.objs.size := (x a o e).lt
theorem HOk.fresh (x : HOk P w H h) (e : h.objs.size ≤ a) : H a = none := by
  cases q : H a with
  | none => rfl
  | some u => exact absurd (Nat.lt_of_lt_of_le (x.lt q) e) (Nat.lt_irrefl _)
/-- every object of the heap is kept -/
theorem HOk.kept (x : HOk P w H h) (k : ∀ b u, h.get? b = some u → h'.get? b = some u) : HOk P w H h' := fun a o e =>
  (x a o e).stay (fun b u _ q => k b u q) (fun _ q => q) fun _ _ q => q
/-- a new object is laid and tracked -/
theorem HOk.laid (x : HOk P w H h) (k : ∀ b u, h.get? b = some u → h'.get? b = some u) (hp : h.objs.size ≤ a) (new : ObjOk P w (upd H a o) h' a o) : HOk P w (upd H a o) h' := fun b u e => by
  have hn := x.fresh hp
  by_cases hb : b = a
  · subst hb; rw [upd_same] at e; cases e; exact new
  · rw [upd_ne hb] at e
    exact (x b u e).stay (fun c v _ q => k c v q) (fun c q => by rw [upd_ne (ne_of_none q hn)]; exact q) fun c xs q => by rw [upd_ne (ne_of_none q hn)]; exact q
end

/-- what may be read as u: it is u, or a known u -/
def Rd (H : Hp) (a : Addr) (u : HO) : Prop := H a = some u ∨ ∃ o, H a = some (.frz o u)
theorem Rd.of {H : Hp} {a : Addr} {u : HO} (h : H a = some u) : Rd H a u := .inl h
theorem Rd.ok {P : Program} {w : World} {H : Hp} {h : Heap} {a : Addr} {u : HO} (r : Rd H a u) (x : HOk P w H h) : ObjOk P w H h a u := by
  rcases r with r | ⟨o, r⟩
  · exact x a u r
  · obtain ⟨_, q⟩ := x a _ r
    exact q
/-- what may be written -/
def Mut : Option HO → Prop
  | some (.lst _) => True
  | some (.dK _) => True
  | some (.dT _) => True
  | some (.set _ _) => True
  | some (.ins _ _ _) => True
  | some (.ext _) => True
  | _ => False
section
variable {P : Program} {w : World} {H : Hp} {h h' : Heap} {x e : Addr} {o' : HO}
/-- the object at e is changed: x itself, or the dict of the instance x -/
theorem HOk.write (ok : HOk P w H h) (mu : Mut (H x)) (he : e = x ∨ H e = some (.own x)) (k : ∀ b u, b ≠ e → h.get? b = some u → h'.get? b = some u) (heo : ∃ u, h'.get? e = some u)
    (new : ObjOk P w (upd H x o') h' x o') : HOk P w (upd H x o') h' := fun b u q => by
  have nown : ∀ c y, H c = some (.own y) → c ≠ x := fun c y r z => by subst z; rw [r] at mu; exact mu
  have ntup : ∀ c xs, H c = some (.tup xs) → c ≠ x := fun c xs r z => by subst z; rw [r] at mu; exact mu
  by_cases hb : b = x
  · subst hb; rw [upd_same] at q; cases q; exact new
  · rw [upd_ne hb] at q
    by_cases hbe : b = e
    · have q' : H b = some (.own x) := by
        rcases he with z | z
        · exact absurd (hbe.trans z) hb
        · rw [hbe]; exact z
      rw [q] at q'; cases q'
      obtain ⟨v, hv⟩ := heo
      exact ⟨v, by rw [hbe]; exact hv⟩
    · refine (ok b u q).stay (fun c v hc r => k c v ?_ r) (fun c r => by rw [upd_ne (nown c b r)]; exact r) fun c xs r => by rw [upd_ne (ntup c xs r)]; exact r
      rcases hc with rfl | hc
      · exact hbe
      · rintro rfl
        rcases he with z | z
        · exact nown c b hc z
        · rw [hc] at z; cases z; exact hb rfl
end

/-! ### kept unless tracked; of the frames at fs (the callers') the slots may change (an exception that passes writes there); of the records at ex (iterators) nothing is said -/
structure Un (fs ex : List Addr) (H H' : Hp) (h h' : Heap) : Prop where
  keep : ∀ b o, h.get? b = some o → H b = none → b ∉ fs → b ∉ ex → h'.get? b = some o
  slot : ∀ b o, h.get? b = some o → H b = none → b ∈ fs → b ∉ ex → ∃ sl, h'.get? b = some { o with slots := sl }
  free : ∀ b o, h.get? b = some o → H b = none → b ∉ ex → H' b = none
  there : ∀ b o, h.get? b = some o → b ∉ ex → ∃ o', h'.get? b = some o'
  tups : ∀ b xs, H b = some (.tup xs) → H' b = some (.tup xs)
  frzs : ∀ b o u, H b = some (.frz o u) → H' b = some (.frz o u)
  tbls : ∀ b ps, H b = some (.tbl ps) → ∃ more, H' b = some (.tbl (ps ++ more))
section
variable {fs fs' ex ex' : List Addr} {H H1 H2 : Hp} {h h1 h2 h' : Heap} {a x e : Addr} {o : HO}
theorem Un.any (u : Un fs ex H H1 h h1) {b : Addr} {ob : Obj} (q : h.get? b = some ob) (n : H b = none) (hx : b ∉ ex) : ∃ sl, h1.get? b = some { ob with slots := sl } := by
  by_cases hb : b ∈ fs
  · exact u.slot b ob q n hb hx
  · exact ⟨ob.slots, u.keep b ob q n hb hx⟩
theorem Un.trans (a : Un fs ex H H1 h h1) (b : Un fs ex H1 H2 h1 h2) : Un fs ex H H2 h h2 where
  keep := fun c ob q n hc hx => b.keep c ob (a.keep c ob q n hc hx) (a.free c ob q n hx) hc hx
  slot := fun c ob q n hc hx => by
    obtain ⟨sl, e1⟩ := a.slot c ob q n hc hx
    obtain ⟨sl', e2⟩ := b.slot c _ e1 (a.free c ob q n hx) hc hx
    exact ⟨sl', e2⟩
  free := fun c ob q n hx => by
    obtain ⟨o', e1⟩ := a.there c ob q hx
    exact b.free c o' e1 (a.free c ob q n hx) hx
  there := fun c ob q hx => by
    obtain ⟨o', e1⟩ := a.there c ob q hx
    exact b.there c o' e1 hx
  tups := fun c xs q => b.tups c xs (a.tups c xs q)
  frzs := fun c ob xs q => b.frzs c ob xs (a.frzs c ob xs q)
  tbls := fun c ps q => by
    obtain ⟨m1, e1⟩ := a.tbls c ps q
    obtain ⟨m2, e2⟩ := b.tbls c _ e1
    exact ⟨m1 ++ m2, by rw [e2, Array.append_assoc]⟩
theorem Un.kept (k : ∀ b u, h.get? b = some u → h'.get? b = some u) : Un fs ex H H h h' :=
  ⟨fun b ob q _ _ _ => k b ob q, fun b ob q _ _ _ => ⟨ob.slots, k b ob q⟩, fun _ _ _ n _ => n, fun b ob q _ => ⟨ob, k b ob q⟩, fun _ _ q => q, fun _ _ _ q => q, fun _ ps q => ⟨#[], by rw [q]; simp⟩⟩
theorem Un.refl : Un fs ex H H h h := Un.kept fun _ _ q => q
theorem Un.laid (k : ∀ b u, h.get? b = some u → h'.get? b = some u) (hp : h.objs.size ≤ a) (hn : H a = none) : Un fs ex H (upd H a o) h h' where
  keep := fun b u q _ _ _ => k b u q
  slot := fun b u q _ _ _ => ⟨u.slots, k b u q⟩
  free := fun b u q n _ => by rw [upd_ne (Nat.ne_of_lt (Nat.lt_of_lt_of_le (Heap.lt_size q) hp))]; exact n
  there := fun b u q _ => ⟨u, k b u q⟩
  tups := fun b xs q => by rw [upd_ne (ne_of_none q hn)]; exact q
  frzs := fun b u xs q => by rw [upd_ne (ne_of_none q hn)]; exact q
  tbls := fun b ps q => ⟨#[], by rw [upd_ne (ne_of_none q hn), q]; simp⟩
theorem Un.write (mu : Mut (H x)) (he : e = x ∨ H e = some (.own x)) (k : ∀ b u, b ≠ e → h.get? b = some u → h'.get? b = some u) (heo : ∃ u, h'.get? e = some u) : Un fs ex H (upd H x o) h h' := by
  have hx : ∀ b, H b = none → b ≠ x := fun b n z => by subst z; rw [n] at mu; exact mu
  have hb : ∀ b, H b = none → b ≠ e := fun b n z => by
    subst z
    rcases he with r | r
    · exact hx b n r
    · rw [n] at r; cases r
  have hm : ∀ b u, H b = some u → ¬ Mut (some u) → b ≠ x := fun b u q nm z => by subst z; rw [q] at mu; exact nm mu
  refine ⟨fun b u q n _ _ => k b u (hb b n) q, fun b u q n _ _ => ⟨u.slots, k b u (hb b n) q⟩, fun b u q n _ => by rw [upd_ne (hx b n)]; exact n, fun b u q _ => ?_,
    fun b xs q => by rw [upd_ne (hm b _ q fun z => z)]; exact q, fun b u xs q => by rw [upd_ne (hm b _ q fun z => z)]; exact q, fun b ps q => ⟨#[], by rw [upd_ne (hm b _ q fun z => z), q]; simp⟩⟩
  by_cases hbe : b = e
  · subst hbe; exact heo
  · exact ⟨u, k b u hbe q⟩
theorem Un.mono (u : Un fs ex H H1 h h1) (hs : ∀ b ∈ fs, b ∈ fs') (hx : ∀ b ∈ ex, b ∈ ex') : Un fs' ex' H H1 h h1 :=
  ⟨fun b ob q n hb he => u.keep b ob q n (fun z => hb (hs b z)) fun z => he (hx b z), fun _ _ q n _ he => u.any q n fun z => he (hx _ z), fun b ob q n he => u.free b ob q n fun z => he (hx b z), fun b ob q he => u.there b ob q fun z => he (hx b z), u.tups, u.frzs, u.tbls⟩
end

/-! ### the heap without what is tracked -/
def trk (h : Heap) (H : Hp) : List Addr := (List.range h.objs.size).filter fun a => (H a).isSome
def hidT (h : Heap) (H : Hp) : Heap := PySem.W.hideAll h (trk h H)
theorem hidT_size (h : Heap) (H : Hp) : (hidT h H).objs.size = h.objs.size := PySem.W.hideAll_size _ _
theorem hidT_get {h : Heap} {H : Hp} {b : Addr} {o : Obj} (e : h.get? b = some o) (n : H b = none) : (hidT h H).get? b = some o :=
  PySem.W.hideAll_get _ e fun hm => by
    have q : (H b).isSome = true := (List.mem_filter.mp hm).2
    rw [n] at q; simp at q
theorem of_hidT {h : Heap} {H : Hp} {b : Addr} {o : Obj} (e : (hidT h H).get? b = some o) : h.get? b = some o ∧ H b = none := by
  have e' : h.get? b = some o := PySem.W.of_hideAll (trk h H) e
  refine ⟨e', ?_⟩
  cases q : H b with
  | none => rfl
  | some x =>
    have hm : b ∈ trk h H := List.mem_filter.mpr ⟨List.mem_range.mpr (Heap.lt_size e'), by simp [q]⟩
    have z : (hidT h H).get? b = none := PySem.W.hideAll_none (trk h H) hm
    rw [z] at e; cases e

/-! ### OpenK's ledger, filled with every new object but one -/
def allNews (g h : Heap) (L : Addr) : List (Addr × Obj) := (List.range h.objs.size).filterMap fun a => if a = L ∨ (g.get? a).isSome = true then none else (h.get? a).map fun o => (a, o)
def rest (g h : Heap) (L d : Addr) : List (Addr × Obj) := (allNews g h L).filter fun p => decide (p.1 ≠ d)
end L2

namespace L2
open PySem PySem.Spec PyProof.Rows

/-- the module's facts, over the base: the heap at the law's entry without what is tracked there -/
structure Mod (K : PySem.W.Frag) (mg : Str → Option Value) (base : Heap) : Prop where
  kin : K.In base
  glob : base.Ns mainGlobals mg
  blt : ∃ mb, base.Ns builtinsNs mb ∧ ∀ x : Str, x ≠ "__name__" → mb x = bootBuiltins x
  nolimit : base.NoLimit

/-- the context: a def's body (or a comprehension's block) running. base: fixed through the whole law; s₀, H₀: the entry; outer: the frames whose slots others may change (a def's callers); stack: all frames that run;
   ex: iterators that were made ahead of the entry and are walked here (a comprehension's); fn: the names whose cells were made at the entry (a def: all; a comprehension's block: its own); calm: not within an except suite; pn: pins that every state bears; xe: what is wanted of an exception that leaves the code -/
structure Cx where
  prog : Program
  w : World
  K : PySem.W.Frag
  mg : Str → Option Value
  base : Heap
  A : Around
  N : List Str
  s₀ : Shared
  H₀ : Hp
  env : Env
  outer : List Env
  stack : List Env
  ex : List Addr
  fn : Str → Bool
  calm : Bool
  pn : List (Addr × Obj)
  xe : Value → Shared → Prop
/-- the callers' frames -/
def frs (l : List Env) : List Addr := l.filterMap (·.frame)
abbrev Cx.fs (X : Cx) : List Addr := frs X.outer

def Vis (sc : Scope) (x : Str) : Prop := sc.names.lookup x = some .local ∨ sc.names.lookup x = some .cell ∨ sc.names.lookup x = some .free
def Loc (sc : Scope) (x : Str) : Prop := sc.names.lookup x = some .local ∨ sc.names.lookup x = some .cell
def Look (env : Env) (h : Heap) (m : Str → Option Value) (x : Str) (u : Value) : Prop :=
  (env.kindOf x = some .local ∧ m x = some u) ∨ ((env.kindOf x = some .cell ∨ env.kindOf x = some .free) ∧ ∃ c, env.cells.lookup x = some c ∧ h.IsCell c (some u))

structure Cx.Ok (X : Cx) : Prop where
  mod : Mod X.K X.mg X.base
  kind : X.env.scope.kind = .function
  glob : X.env.globals = mainGlobals
  blt : X.env.builtins = builtinsNs
  above : X.s₀.heap.objs.size ≤ X.env.locals
  inj : ∀ x y c, X.env.cells.lookup x = some c → X.env.cells.lookup y = some c → x = y
  has : ∀ x, (X.env.kindOf x = some .cell ∨ X.env.kindOf x = some .free) → ∃ c, X.env.cells.lookup x = some c
  cab : ∀ x c, X.fn x = true → X.env.cells.lookup x = some c → X.s₀.heap.objs.size ≤ c
  hd : X.calm = true → X.A.handled = none
  frames : X.A.frames = some X.stack
  stk : X.stack = X.outer ∨ (X.stack = X.env :: X.outer ∧ X.env.frame = some X.env.locals)
  exf : ∀ b ∈ X.ex, b ≠ X.env.locals ∧ ∀ x c, X.env.cells.lookup x = some c → c ≠ b
  bs : ∀ b o, X.base.get? b = some o → X.s₀.heap.get? b = some o ∧ X.H₀ b = none
  bsz : X.base.objs.size ≤ X.s₀.heap.objs.size
  noex : ∀ b o, X.base.get? b = some o → b ∉ X.ex
  exfs : ∀ b ∈ X.ex, b ∉ X.fs
  funs : X.s₀.heap.FunFrames X.base X.outer
  frf : ∀ b ∈ X.fs, X.H₀ b = none

structure Inv (X : Cx) (pins : List (Addr × Obj)) (σ : List (Option V)) (H : Hp) (s : Shared) : Prop where
  ok : X.Ok
  os : s.os = X.s₀.os
  bare : AllBare s.gens
  base : Un X.fs X.ex X.H₀ H X.s₀.heap s.heap
  loc : ∃ m, s.heap.Ns X.env.locals m ∧ ∀ (i : Nat) (x : Str) (v : V), X.N[i]? = some x → σ[i]? = some (some v) → Vis X.env.scope x → ∃ u, RelV v u ∧ Look X.env s.heap m x u
  cell : ∀ x c, X.env.cells.lookup x = some c → ∃ v, s.heap.IsCell c v
  free : H X.env.locals = none
  freeC : ∀ x c, X.env.cells.lookup x = some c → H c = none
  pin : ∀ p ∈ X.pn ++ pins, s.heap.get? p.1 = some p.2 ∧ H p.1 = none ∧ p.1 ≠ X.env.locals ∧ p.1 ∉ X.fs ∧ ∀ v, p.2.data ≠ .cell v
  hok : HOk X.prog X.w H s.heap
  len : σ.length = X.N.length

section
variable {X : Cx} {pins : List (Addr × Obj)} {σ : List (Option V)} {H H' : Hp} {s : Shared} {h' : Heap}

theorem Cx.Ok.nofr (ok : X.Ok) {b : Addr} {o : Obj} (e : X.base.get? b = some o) : b ∉ X.fs := fun hb => by
  have := (ok.funs.mem hb).1
  rw [e] at this; cases this
theorem Inv.bs (I : Inv X pins σ H s) : ∀ b o, X.base.get? b = some o → s.heap.get? b = some o ∧ H b = none := fun b o e =>
  ⟨I.base.keep b o (I.ok.bs b o e).1 (I.ok.bs b o e).2 (I.ok.nofr e) (I.ok.noex b o e), I.base.free b o (I.ok.bs b o e).1 (I.ok.bs b o e).2 (I.ok.noex b o e)⟩
theorem Inv.bk (I : Inv X pins σ H s) : ∀ b o, X.base.get? b = some o → s.heap.get? b = some o := fun b o e => (I.bs b o e).1
theorem Inv.mod (I : Inv X pins σ H s) : Mod X.K X.mg X.base := I.ok.mod
theorem Inv.kIn (I : Inv X pins σ H s) : X.K.In s.heap := I.ok.mod.kin.keeps I.bk
theorem Inv.nolimit (I : Inv X pins σ H s) : s.heap.NoLimit := I.ok.mod.nolimit.keeps I.bk
theorem Inv.lt (I : Inv X pins σ H s) : X.env.locals < s.heap.objs.size := let ⟨_, hn, _⟩ := I.loc; hn.lt
theorem Inv.sz (I : Inv X pins σ H s) : X.s₀.heap.objs.size ≤ s.heap.objs.size := Nat.le_trans I.ok.above (Nat.le_of_lt I.lt)
theorem Inv.nofs (I : Inv X pins σ H s) {a : Addr} (h : s.heap.objs.size ≤ a) : a ∉ X.fs := fun hb => by
  obtain ⟨_, o, ho, _⟩ := I.ok.funs.mem hb
  exact absurd (Nat.lt_of_lt_of_le (Heap.lt_size ho) (Nat.le_trans I.sz h)) (Nat.lt_irrefl _)
theorem Inv.cne (I : Inv X pins σ H s) : ∀ x c, X.env.cells.lookup x = some c → c ≠ X.env.locals := fun x c e z => by
  obtain ⟨v, o, ho, hd⟩ := I.cell x c e
  obtain ⟨m, ⟨o', es, ep, ho', hd', _⟩, _⟩ := I.loc
  rw [z, ho'] at ho; cases ho; rw [hd'] at hd; cases hd
theorem Inv.funs (I : Inv X pins σ H s) : s.heap.FunFrames X.base X.outer := by
  have all : ∀ (l : List Env), (∀ b ∈ frs l, b ∈ X.fs) → X.s₀.heap.FunFrames X.base l → s.heap.FunFrames X.base l := by
    intro l
    induction l with
    | nil => intro _ _; trivial
    | cons env r ih =>
      intro hs hl
      obtain ⟨hk, ⟨L, o, hf, hn, ho, hd⟩, hr⟩ := hl
      have hL : L ∈ X.fs := hs L (by unfold frs; rw [List.filterMap_cons, hf]; exact List.mem_cons_self)
      obtain ⟨sl, e⟩ := I.base.slot L o ho (I.ok.frf L hL) hL fun z => I.ok.exfs L z hL
      exact ⟨hk, ⟨L, _, hf, hn, e, hd⟩, ih (fun b hb => hs b (by unfold frs; rw [List.filterMap_cons, hf]; exact List.mem_cons_of_mem _ hb)) hr⟩
  exact all X.outer (fun _ hb => hb) I.ok.funs

/-- the frames that run, for a call -/
theorem Inv.stack (I : Inv X pins σ H s) : s.heap.FunFrames X.base X.stack := by
  rcases I.ok.stk with e | ⟨e, hf⟩
  · rw [e]; exact I.funs
  · rw [e]
    obtain ⟨m, hn, _⟩ := I.loc
    refine .cons (by rw [I.ok.kind]; decide) hf hn ?_ I.funs
    exact Heap.get?_none_of_le (Nat.le_trans I.ok.bsz I.ok.above)
theorem Inv.stkSub (I : Inv X pins σ H s) : ∀ b ∈ frs X.stack, b ∈ X.env.locals :: X.fs := fun b hb => by
  rcases I.ok.stk with e | ⟨e, hf⟩
  · rw [e] at hb; exact List.mem_cons_of_mem _ hb
  · rw [e] at hb
    unfold frs at hb
    rw [List.filterMap_cons, hf] at hb
    exact hb
theorem Inv.stkFree (I : Inv X pins σ H s) : ∀ b ∈ frs X.stack, H b = none := fun b hb => by
  rcases List.mem_cons.mp (I.stkSub b hb) with e | hb
  · rw [e]; exact I.free
  · obtain ⟨_, o, ho, _⟩ := I.ok.funs.mem hb
    exact I.base.free b o ho (I.ok.frf b hb) fun z => I.ok.exfs b z hb

/-- THE STEP: the untracked objects but the frame and the records at ch are kept (the callers' frames up to slots), the frame's map is kept, the new abstract heap is held -/
theorem Inv.step {g' : Array GenState} {t' : Nat} {d' : Drawn} {ch : List Addr} (I : Inv X pins σ H s)
    (hch : ∀ b ∈ ch, (b ∈ X.ex ∨ X.s₀.heap.objs.size ≤ b) ∧ b ≠ X.env.locals ∧ (∀ x c, X.env.cells.lookup x = some c → c ≠ b) ∧ ∀ p ∈ X.pn ++ pins, p.1 ≠ b)
    (keep : ∀ b o, b ≠ X.env.locals → b ∉ X.fs → b ∉ ch → s.heap.get? b = some o → H b = none → h'.get? b = some o)
    (slot : ∀ b o, b ≠ X.env.locals → b ∈ X.fs → b ∉ ch → s.heap.get? b = some o → H b = none → ∃ sl, h'.get? b = some { o with slots := sl }) (free : ∀ b o, b ∉ ch → s.heap.get? b = some o → H b = none → H' b = none)
    (there : ∀ b o, b ∉ ch → s.heap.get? b = some o → ∃ o', h'.get? b = some o')
    (tups : ∀ b xs, H b = some (.tup xs) → H' b = some (.tup xs)) (frzs : ∀ b o u, H b = some (.frz o u) → H' b = some (.frz o u)) (tbls : ∀ b ps, H b = some (.tbl ps) → ∃ more, H' b = some (.tbl (ps ++ more)))
    (ns : ∀ m, s.heap.Ns X.env.locals m → h'.Ns X.env.locals m) (hok : HOk X.prog X.w H' h') (hg : AllBare g') :
    Inv X pins σ H' { s with heap := h', gens := g', drawn := d', toks := t' } := by
  have neL : ∀ b o, X.s₀.heap.get? b = some o → b ≠ X.env.locals := fun b o e => Nat.ne_of_lt (Nat.lt_of_lt_of_le (Heap.lt_size e) I.ok.above)
  have neC : ∀ b o, X.s₀.heap.get? b = some o → b ∉ X.ex → b ∉ ch := fun b o e hx hb => by
    rcases (hch b hb).1 with z | z
    · exact hx z
    · exact absurd (Nat.lt_of_lt_of_le (Heap.lt_size e) z) (Nat.lt_irrefl _)
  have cellK : ∀ x c, X.env.cells.lookup x = some c → ∀ v, s.heap.IsCell c v → h'.IsCell c v := fun x c e v ⟨o, ho, hd⟩ => by
    have nch : c ∉ ch := fun z => (hch c z).2.2.1 x c e rfl
    by_cases hc : c ∈ X.fs
    · obtain ⟨sl, q⟩ := slot c o (I.cne x c e) hc nch ho (I.freeC x c e)
      exact ⟨_, q, hd⟩
    · exact ⟨o, keep c o (I.cne x c e) hc nch ho (I.freeC x c e), hd⟩
  refine ⟨I.ok, I.os, hg, ⟨fun b o e n hb hx => ?_, fun b o e n hb hx => ?_, fun b o e n hx => ?_, fun b o e hx => ?_, fun b xs e => tups b xs (I.base.tups b xs e), fun b o xs e => frzs b o xs (I.base.frzs b o xs e), fun b ps e => ?_⟩, ?_, fun x c e => ?_, ?_, fun x c e => ?_, fun p hp => ?_, hok, I.len⟩
  · exact keep b o (neL b o e) hb (neC b o e hx) (I.base.keep b o e n hb hx) (I.base.free b o e n hx)
  · obtain ⟨sl, e1⟩ := I.base.slot b o e n hb hx
    obtain ⟨sl', e2⟩ := slot b _ (neL b o e) hb (neC b o e hx) e1 (I.base.free b o e n hx)
    exact ⟨sl', e2⟩
  · obtain ⟨o', e1⟩ := I.base.there b o e hx
    exact free b o' (neC b o e hx) e1 (I.base.free b o e n hx)
  · obtain ⟨o', e1⟩ := I.base.there b o e hx
    exact there b o' (neC b o e hx) e1
  · obtain ⟨m1, e1⟩ := I.base.tbls b ps e
    obtain ⟨m2, e2⟩ := tbls b _ e1
    exact ⟨m1 ++ m2, by rw [e2, Array.append_assoc]⟩
  · obtain ⟨m, hn, hl⟩ := I.loc
    refine ⟨m, ns m hn, fun i x v e1 e2 e3 => ?_⟩
    obtain ⟨u, r, l⟩ := hl i x v e1 e2 e3
    refine ⟨u, r, ?_⟩
    rcases l with l | ⟨k, c, e, z⟩
    · exact .inl l
    · exact .inr ⟨k, c, e, cellK x c e _ z⟩
  · obtain ⟨v, z⟩ := I.cell x c e
    exact ⟨v, cellK x c e v z⟩
  · obtain ⟨m, ⟨o, _, _, ho, _⟩, _⟩ := I.loc
    exact free _ o (fun z => (hch _ z).2.1 rfl) ho I.free
  · obtain ⟨v, o, ho, hd⟩ := I.cell x c e
    exact free c o (fun z => (hch c z).2.2.1 x c e rfl) ho (I.freeC x c e)
  · obtain ⟨e, n, ne, nf, d⟩ := I.pin p hp
    have nch : p.1 ∉ ch := fun z => (hch p.1 z).2.2.2 p hp rfl
    exact ⟨keep p.1 p.2 ne nf nch e n, free p.1 p.2 nch e n, ne, nf, d⟩
/-- .. where the frame's own object is kept too -/
theorem Inv.un {t' : Nat} (I : Inv X pins σ H s) (u : Un X.fs [] H H' s.heap h') (hok : HOk X.prog X.w H' h') : Inv X pins σ H' { s with heap := h', toks := t' } := by
  obtain ⟨m, ⟨o, es, ep, ho, r⟩, _⟩ := id I.loc
  obtain ⟨sl, hL⟩ := u.any ho I.free (by simp)
  exact I.step (g' := s.gens) (d' := s.drawn) (ch := []) (fun _ z => nomatch z) (fun b o _ hb _ e n => u.keep b o e n hb (by simp)) (fun b o _ hb _ e n => u.slot b o e n hb (by simp)) (fun b o _ e n => u.free b o e n (by simp)) (fun b o _ e => u.there b o e (by simp)) u.tups u.frzs u.tbls (fun m' hm => by
    obtain ⟨o', es', ep', ho', r'⟩ := hm
    rw [ho] at ho'; cases ho'
    exact ⟨_, es', ep', hL, r'⟩) hok I.bare
/-- behind a call (or a comprehension's block): the slots of this frame may have changed too, the records at ch may have turned -/
theorem Inv.call {g' : Array GenState} {t' : Nat} {d' : Drawn} {ch : List Addr} (I : Inv X pins σ H s) (u : Un (frs X.stack) ch H H' s.heap h') (hok : HOk X.prog X.w H' h') (hg : AllBare g')
    (hch : ∀ b ∈ ch, (b ∈ X.ex ∨ X.s₀.heap.objs.size ≤ b) ∧ b ≠ X.env.locals ∧ (∀ x c, X.env.cells.lookup x = some c → c ≠ b) ∧ ∀ p ∈ X.pn ++ pins, p.1 ≠ b) :
    Inv X pins σ H' { s with heap := h', gens := g', drawn := d', toks := t' } := by
  obtain ⟨m, ⟨o, es, ep, ho, r⟩, _⟩ := id I.loc
  obtain ⟨sl, hL⟩ := u.any ho I.free fun z => (hch _ z).2.1 rfl
  exact I.step (ch := ch) hch (fun b o hL hb hc e n => u.keep b o e n (fun z => (List.mem_cons.mp (I.stkSub b z)).elim hL hb) hc) (fun b o _ _ hc e n => u.any e n hc) (fun b o hc e n => u.free b o e n hc) (fun b o hc e => u.there b o e hc) u.tups u.frzs u.tbls (fun m' hm => by
    obtain ⟨o', es', ep', ho', r'⟩ := hm
    rw [ho] at ho'; cases ho'
    exact ⟨_, es', ep', hL, r'⟩) hok hg
/-- an untracked record of ours (an iterator) has turned -/
theorem Inv.turned {t' : Nat} {it : Addr} (I : Inv X pins σ H s) (k : ∀ b o, b ≠ it → s.heap.get? b = some o → h'.get? b = some o) (hn : H it = none) (hL : it ≠ X.env.locals)
    (h1 : it ∈ X.ex ∨ X.s₀.heap.objs.size ≤ it) (h2 : ∀ x c, X.env.cells.lookup x = some c → c ≠ it) (h3 : ∀ p ∈ X.pn ++ pins, p.1 ≠ it) : Inv X pins σ H { s with heap := h', toks := t' } := by
  have nit : ∀ b u, H b = some u → b ≠ it := fun b u e z => by rw [z, hn] at e; cases e
  refine I.step (g' := s.gens) (d' := s.drawn) (ch := [it]) (fun b hb => ?_) (fun b o _ _ hc e _ => k b o (fun z => hc (by simp [z])) e) (fun b o _ _ hc e _ => ⟨o.slots, k b o (fun z => hc (by simp [z])) e⟩) (fun _ _ _ _ n => n)
    (fun b o hc e => ⟨o, k b o (fun z => hc (by simp [z])) e⟩) (fun _ _ e => e) (fun _ _ _ e => e) (fun b ps e => ⟨#[], by rw [e]; simp⟩) (fun m hm => ?_) (fun b u e => ?_) I.bare
  · have e : b = it := by simpa using hb
    subst e
    exact ⟨h1, hL, h2, h3⟩
  · obtain ⟨o, es, ep, ho, r⟩ := hm
    exact ⟨o, es, ep, k _ o (Ne.symm hL) ho, r⟩
  · refine (I.hok b u e).stay (fun c v hc q => k c v ?_ q) (fun _ q => q) fun _ _ q => q
    rcases hc with z | z
    · rw [z]; exact nit b u e
    · exact nit c _ z
theorem Inv.tok (I : Inv X pins σ H s) (t : Nat) : Inv X pins σ H { s with toks := t } := I.un (h' := s.heap) (t' := t) Un.refl I.hok
/-- all objects kept -/
theorem Inv.kept {t' : Nat} (I : Inv X pins σ H s) (k : ∀ b u, s.heap.get? b = some u → h'.get? b = some u) : Inv X pins σ H { s with heap := h', toks := t' } := I.un (Un.kept k) (I.hok.kept k)
/-- a new object laid and tracked -/
theorem Inv.laid {a : Addr} {o : HO} {t' : Nat} (I : Inv X pins σ H s) (k : ∀ b u, s.heap.get? b = some u → h'.get? b = some u) (hp : s.heap.objs.size ≤ a) (new : ObjOk X.prog X.w (upd H a o) h' a o) :
    Inv X pins σ (upd H a o) { s with heap := h', toks := t' } := I.un (Un.laid k hp (I.hok.fresh hp)) (I.hok.laid k hp new)
/-- an object written -/
theorem Inv.write {x e : Addr} {o : HO} {t' : Nat} (I : Inv X pins σ H s) (mu : Mut (H x)) (he : e = x ∨ H e = some (.own x)) (k : ∀ b u, b ≠ e → s.heap.get? b = some u → h'.get? b = some u) (heo : ∃ u, h'.get? e = some u)
    (new : ObjOk X.prog X.w (upd H x o) h' x o) : Inv X pins σ (upd H x o) { s with heap := h', toks := t' } := I.un (Un.write mu he k heo) (I.hok.write mu he k heo new)
theorem Inv.pins_of {pins' : List (Addr × Obj)} (I : Inv X pins σ H s) (h : ∀ p ∈ pins', s.heap.get? p.1 = some p.2 ∧ H p.1 = none ∧ p.1 ≠ X.env.locals ∧ p.1 ∉ X.fs ∧ ∀ v, p.2.data ≠ .cell v) : Inv X pins' σ H s :=
  ⟨I.ok, I.os, I.bare, I.base, I.loc, I.cell, I.free, I.freeC, fun p hp => (List.mem_append.mp hp).elim (fun z => I.pin p (List.mem_append_left _ z)) (h p), I.hok, I.len⟩

theorem nodup_ix {N : List Str} (hN : N.Nodup) {i j : Nat} {x : Str} (a : N[i]? = some x) (b : N[j]? = some x) : i = j := by
  obtain ⟨h1, e1⟩ := List.getElem?_eq_some_iff.mp a
  obtain ⟨h2, e2⟩ := List.getElem?_eq_some_iff.mp b
  exact (List.getElem_inj hN).mp (e1.trans e2.symm)

/-- a name is stored; what changed -/
theorem store_ok2 {M : Model} {A : Around} {E : Value → Shared → Prop} {i : Nat} {x : Str} {v : V} {u : Value} {Q : Unit → Shared → Prop} (I : Inv X pins σ H s) (hN : X.N.Nodup) (hi : X.N[i]? = some x) (hx : Loc X.env.scope x) (r : RelV v u)
    (h : ∀ s', Inv X pins (σ.set i (some v)) H s' → (∃ a, Heap.SameBut a s.heap s'.heap ∧ (a = X.env.locals ∨ X.env.cells.lookup x = some a)) → Q () s') (hf : X.fn x = true ∨ X.env.scope.names.lookup x = some .local := by first | exact .inl rfl | exact .inr rfl | assumption) : wpAny M A (storeName X.env x u) Q E s := by
  obtain ⟨m, hn, hl⟩ := id I.loc
  have hcls : (X.env.scope.kind == .class || (X.env.scope.kind == .module && X.env.locals != X.env.globals)) = false := by rw [I.ok.kind]; rfl
  have hiσ : i < σ.length := by rw [I.len]; exact (List.getElem?_eq_some_iff.mp hi).1
  have cne := I.cne
  have tracked : ∀ {a : Addr} {h' : Heap}, (∃ o, s.heap.get? a = some o ∧ H a = none) → Heap.SameBut a s.heap h' → HOk X.prog X.w H h' := fun {a h'} ha hs b ob e => by
    obtain ⟨_, _, hfree⟩ := ha
    refine (I.hok b ob e).stay (fun c w' hc q => (hs.2 c ?_).trans q) (fun _ q => q) fun _ _ q => q
    rintro rfl
    rcases hc with rfl | hc
    · rw [hfree] at e; cases e
    · rw [hfree] at hc; cases hc
  rcases hx with hk | hk
  · refine wpAny_storeName_local hk hn (fun h' hn' hs => ?_) hcls
    obtain ⟨oL, _, _, hoL, _⟩ := id hn
    refine h _ ⟨I.ok, I.os, I.bare, ⟨fun b o e n hb hx => ?_, fun b o e n hb hx => ?_, I.base.free, fun b o e hx => ?_, I.base.tups, I.base.frzs, I.base.tbls⟩, ⟨_, hn', fun j y v' e1 e2 e3 => ?_⟩, fun y c e => ?_, I.free, I.freeC, fun p hp => ?_, tracked ⟨oL, hoL, I.free⟩ hs, by simpa using I.len⟩ ⟨_, hs, .inl rfl⟩
    · exact (hs.2 b (Nat.ne_of_lt (Nat.lt_of_lt_of_le (Heap.lt_size e) I.ok.above))).trans (I.base.keep b o e n hb hx)
    · obtain ⟨sl, e1⟩ := I.base.slot b o e n hb hx
      exact ⟨sl, (hs.2 b (Nat.ne_of_lt (Nat.lt_of_lt_of_le (Heap.lt_size e) I.ok.above))).trans e1⟩
    · obtain ⟨o', e1⟩ := I.base.there b o e hx
      exact ⟨o', (hs.2 b (Nat.ne_of_lt (Nat.lt_of_lt_of_le (Heap.lt_size e) I.ok.above))).trans e1⟩
    · by_cases hj : j = i
      · subst hj
        rw [hi] at e1; cases e1
        rw [List.getElem?_set_self hiσ] at e2
        cases e2
        exact ⟨u, r, .inl ⟨hk, by simp⟩⟩
      · rw [List.getElem?_set_ne (Ne.symm hj)] at e2
        obtain ⟨u', r', q⟩ := hl j y v' e1 e2 e3
        refine ⟨u', r', ?_⟩
        rcases q with ⟨k, e⟩ | ⟨k, c, e, z⟩
        · refine .inl ⟨k, ?_⟩
          have : y ≠ x := fun e => hj (nodup_ix hN e1 (e ▸ hi))
          simp [this, e]
        · exact .inr ⟨k, c, e, z.sameBut hs (cne y c e)⟩
    · obtain ⟨w', z⟩ := I.cell y c e
      exact ⟨w', z.sameBut hs (cne y c e)⟩
    · obtain ⟨e, n, ne, nf, d⟩ := I.pin p hp
      exact ⟨(hs.2 p.1 ne).trans e, n, ne, nf, d⟩
  · have hfn : X.fn x = true := by
      rcases hf with z | z
      · exact z
      · rw [z] at hk; cases hk
    obtain ⟨c, hc⟩ := I.ok.has x (.inl hk)
    obtain ⟨w', z⟩ := I.cell x c hc
    refine wpAny_storeName_cell I.ok.kind hk hc z (fun h' hc' hs => ?_)
    obtain ⟨oc, hoc, hocd⟩ := id z
    refine h { s with heap := h' } ⟨I.ok, I.os, I.bare, ⟨fun b o e n hb hx => ?_, fun b o e n hb hx => ?_, I.base.free, fun b o e hx => ?_, I.base.tups, I.base.frzs, I.base.tbls⟩, ⟨m, hn.sameBut hs (Ne.symm (cne x c hc)), fun j y v' e1 e2 e3 => ?_⟩, fun y c' e => ?_, I.free, I.freeC, fun p hp => ?_, tracked ⟨oc, hoc, I.freeC x c hc⟩ hs, by simpa using I.len⟩ ⟨c, hs, .inr hc⟩
    · exact (hs.2 b (Nat.ne_of_lt (Nat.lt_of_lt_of_le (Heap.lt_size e) (I.ok.cab x c hfn hc)))).trans (I.base.keep b o e n hb hx)
    · obtain ⟨sl, e1⟩ := I.base.slot b o e n hb hx
      exact ⟨sl, (hs.2 b (Nat.ne_of_lt (Nat.lt_of_lt_of_le (Heap.lt_size e) (I.ok.cab x c hfn hc)))).trans e1⟩
    · obtain ⟨o', e1⟩ := I.base.there b o e hx
      exact ⟨o', (hs.2 b (Nat.ne_of_lt (Nat.lt_of_lt_of_le (Heap.lt_size e) (I.ok.cab x c hfn hc)))).trans e1⟩
    · by_cases hj : j = i
      · subst hj
        rw [hi] at e1; cases e1
        rw [List.getElem?_set_self hiσ] at e2
        cases e2
        exact ⟨u, r, .inr ⟨.inl hk, c, hc, hc'⟩⟩
      · rw [List.getElem?_set_ne (Ne.symm hj)] at e2
        obtain ⟨u', r', q⟩ := hl j y v' e1 e2 e3
        refine ⟨u', r', ?_⟩
        rcases q with q | ⟨k, c', e, z'⟩
        · exact .inl q
        · refine .inr ⟨k, c', e, z'.sameBut hs ?_⟩
          rintro rfl
          exact hj (nodup_ix hN e1 (I.ok.inj _ _ _ e hc ▸ hi))
    · by_cases hcc : c' = c
      · subst hcc; exact ⟨_, hc'⟩
      · obtain ⟨w2, z2⟩ := I.cell y c' e
        exact ⟨w2, z2.sameBut hs hcc⟩
    · obtain ⟨e, n, ne, nf, d⟩ := I.pin p hp
      refine ⟨(hs.2 p.1 ?_).trans e, n, ne, nf, d⟩
      intro q
      rw [q, hoc] at e
      have q' : oc = p.2 := Option.some.inj e
      exact d w' (by rw [← q']; exact hocd)
theorem store_ok {M : Model} {A : Around} {E : Value → Shared → Prop} {i : Nat} {x : Str} {v : V} {u : Value} {Q : Unit → Shared → Prop} (I : Inv X pins σ H s) (hN : X.N.Nodup) (hi : X.N[i]? = some x) (hx : Loc X.env.scope x) (r : RelV v u)
    (h : ∀ s', Inv X pins (σ.set i (some v)) H s' → Q () s') (hf : X.fn x = true ∨ X.env.scope.names.lookup x = some .local := by first | exact .inl rfl | exact .inr rfl | assumption) : wpAny M A (storeName X.env x u) Q E s :=
  store_ok2 I hN hi hx r (fun s' I' _ => h s' I') hf
/-- behind a call or a block, the state as it is -/
theorem Inv.call' {s' : Shared} {ch : List Addr} (I : Inv X pins σ H s) (ho : s'.os = s.os) (u : Un (frs X.stack) ch H H' s.heap s'.heap) (hok : HOk X.prog X.w H' s'.heap) (hg : AllBare s'.gens)
    (hch : ∀ b ∈ ch, (b ∈ X.ex ∨ X.s₀.heap.objs.size ≤ b) ∧ b ≠ X.env.locals ∧ (∀ x c, X.env.cells.lookup x = some c → c ≠ b) ∧ ∀ p ∈ X.pn ++ pins, p.1 ≠ b) : Inv X pins σ H' s' := by
  obtain ⟨h', g', d', t', o'⟩ := s'
  have e : o' = s.os := ho
  subst e
  exact I.call (g' := g') (t' := t') (d' := d') u hok hg hch
end

/-! ### the judgements -/
/-- an exception: its class, its own dict's address (where it has one), the abstract heap behind it -/
abbrev XK := Value → Option Addr → Hp → Prop
abbrev St := List (Option V)
abbrev VK := V → Hp → Prop
/-- an expression's reading; a test's; an argument list's -/
abbrev TE := St → Hp → VK → Prop
abbrev TT := St → Hp → (Bool → Hp → Prop) → Prop
abbrev TA := St → Hp → (List V → Hp → Prop) → Prop
/-- what is wanted behind a statement -/
structure Ends where
  nx : St → Hp → Prop
  rt : VK
  bk : St → Hp → Prop := fun _ _ => False
  ct : St → Hp → Prop := fun _ _ => False
abbrev TS := Ends → St → Hp → Prop

def EP (X : Cx) (pins : List (Addr × Obj)) (σ : St) (Q : VK) (u : Value) (s' : Shared) : Prop := ∃ v H', Inv X pins σ H' s' ∧ RelV v u ∧ Q v H'
def TP (X : Cx) (pins : List (Addr × Obj)) (σ : St) (Q : Bool → Hp → Prop) (b : Bool) (s' : Shared) : Prop := ∃ H', Inv X pins σ H' s' ∧ Q b H'
def AP (X : Cx) (pins : List (Addr × Obj)) (σ : St) (Q : List V → Hp → Prop) (us : List Value) (s' : Shared) : Prop := ∃ vs H', Inv X pins σ H' s' ∧ Vals vs us ∧ Q vs H'
def SP (X : Cx) (pins : List (Addr × Obj)) (D : Ends) (f : Flow) (s' : Shared) : Prop :=
  match f with
  | .next => ∃ σ' H', Inv X pins σ' H' s' ∧ D.nx σ' H'
  | .brk => ∃ σ' H', Inv X pins σ' H' s' ∧ D.bk σ' H'
  | .cont => ∃ σ' H', Inv X pins σ' H' s' ∧ D.ct σ' H'
  | .ret u => ∃ v σ' H', Inv X pins σ' H' s' ∧ RelV v u ∧ D.rt v H'

def PE (X : Cx) (e : Expr) (t : TE) : Prop :=
  ∀ (pins : List (Addr × Obj)) (s : Shared) (σ : St) (H : Hp) (Q : VK), Inv X pins σ H s → t σ H Q → wpAny (model X.prog X.w) X.A (eval e X.env) (EP X pins σ Q) X.xe s
def PT (X : Cx) (e : Expr) (t : TT) : Prop :=
  ∀ (pins : List (Addr × Obj)) (s : Shared) (σ : St) (H : Hp) (Q : Bool → Hp → Prop), Inv X pins σ H s → t σ H Q → wpAny (model X.prog X.w) X.A (isTrue e X.env (eval e X.env)) (TP X pins σ Q) X.xe s
/-- a test whatever its 'whole' is (and, or) -/
def PW (X : Cx) (e : Expr) (t : TT) : Prop :=
  ∀ (whole : Sem Value) (pins : List (Addr × Obj)) (s : Shared) (σ : St) (H : Hp) (Q : Bool → Hp → Prop), Inv X pins σ H s → t σ H Q → wpAny (model X.prog X.w) X.A (isTrue e X.env whole) (TP X pins σ Q) X.xe s
theorem PW.pt {X : Cx} {e : Expr} {t : TT} (h : PW X e t) : PT X e t := h _
/-- an argument list (no star), from the left -/
def PA (X : Cx) (es : List Expr) (t : TA) : Prop :=
  ∀ (pos : Pos) (pins : List (Addr × Obj)) (s : Shared) (σ : St) (H : Hp) (Q : List V → Hp → Prop), Inv X pins σ H s → t σ H Q → wpAny (model X.prog X.w) X.A (spliced (backTo pos (starEach es X.env))) (AP X pins σ Q) X.xe s
def PS (X : Cx) (st : Stmt) (t : TS) : Prop :=
  ∀ (pins : List (Addr × Obj)) (s : Shared) (σ : St) (H : Hp) (D : Ends), Inv X pins σ H s → t D σ H → wpAny (model X.prog X.w) X.A (exec st X.env) (SP X pins D) X.xe s
def PSs (X : Cx) (st : List Stmt) (t : TS) : Prop :=
  ∀ (pins : List (Addr × Obj)) (s : Shared) (σ : St) (H : Hp) (D : Ends), Inv X pins σ H s → t D σ H → wpAny (model X.prog X.w) X.A (execs st X.env) (SP X pins D) X.xe s
/-- weaken the end -/
theorem thn {α : Type} {t : Sem α} {Q Q' : α → Shared → Prop} {M : Model} {A : Around} {E : Value → Shared → Prop} {s : Shared} (h : wpAny M A t Q E s) (hQ : ∀ a s, Q a s → Q' a s) : wpAny M A t Q' E s := wpAny_mono h hQ fun _ _ x => x
end L2

namespace L2
open PySem PySem.Spec PyProof.Rows
section
variable {X : Cx}

/-! ### names and constants -/
def tVar (i : Nat) : TE := fun σ H Q => ∃ v, σ[i]? = some (some v) ∧ Q v H
def tC (v : V) : TE := fun _ H Q => Q v H
theorem pe_var {i : Nat} {x : Str} {pos : Pos} (hN : X.N[i]? = some x) (hv : Vis X.env.scope x) (hd : (x == ("__debug__" : Str)) = false := by decide) (hcd : (x == ("__classdict__" : Str)) = false := by decide) : PE X (.Name x pos) (tVar i) := by
  intro pins s σ H Q I h
  obtain ⟨v, e, h⟩ := h
  obtain ⟨m, hn, hl⟩ := I.loc
  obtain ⟨u, r, l⟩ := hl i x v hN e hv
  have fin : EP X pins σ Q u s := ⟨v, H, I, r, h⟩
  rcases l with ⟨hk, hm⟩ | ⟨hk, c, hc, hcell⟩
  · exact wpAny_Name (wpAny_loadName_local I.ok.kind hk hn hm fin) hd
  · rcases hk with hk | hk
    · exact wpAny_Name (wpAny_loadName_cell I.ok.kind hk hc hcell fin) hd
    · exact wpAny_Name (wpAny_loadName_free I.ok.kind hk hc hcell fin hcd) hd
theorem pe_int {i j pos} : PE X (.Constant (.int i) j pos) (tC (.int i)) := fun _ _ _ H _ I h => wpAny_Constant_int ⟨.int i, H, I.tok _, ⟨_, rfl⟩, h⟩
theorem pe_bl {b j pos} : PE X (.Constant (.bool b) j pos) (tC (.bl b)) := fun _ _ _ H _ I h => Constant_bool ⟨.bl b, H, I, rfl, h⟩
theorem pe_non {j pos} : PE X (.Constant .none j pos) (tC .non) := fun _ _ _ H _ I h => Constant_none ⟨.non, H, I, rfl, h⟩
theorem pe_str {x j pos} : PE X (.Constant (.str x) j pos) (tC (.str x)) := fun _ _ _ H _ I h => Calls.Constant_str ⟨.str x, H, I.tok _, ⟨_, rfl⟩, h⟩

/-- a global name of the def -/
def Gl (X : Cx) (x : Str) : Prop := X.env.kindOf x = some .globalImplicit
theorem ld_glob {E : Value → Shared → Prop} {pins : List (Addr × Obj)} {s : Shared} {σ : St} {H : Hp} {x : Str} {u : Value} {pos : Pos} {Q : Value → Shared → Prop} (I : Inv X pins σ H s) (hg : Gl X x) (hm : X.mg x = some u) (h : Q u s)
    (hd : (x == ("__debug__" : Str)) = false := by decide) : wpAny (model X.prog X.w) X.A (eval (.Name x pos) X.env) Q E s :=
  Calls.Name_function_global I.ok.kind hg (Calls.loadGlobal_global (by rw [I.ok.glob]; exact I.mod.glob.keeps I.bk) hm h) hd
theorem ld_blt {E : Value → Shared → Prop} {pins : List (Addr × Obj)} {s : Shared} {σ : St} {H : Hp} {x : Str} {u : Value} {pos : Pos} {Q : Value → Shared → Prop} (I : Inv X pins σ H s) (hg : Gl X x) (hm : X.mg x = none) (hv : bootBuiltins x = some u) (h : Q u s)
    (hn : x ≠ "__name__" := by decide) (hd : (x == ("__debug__" : Str)) = false := by decide) : wpAny (model X.prog X.w) X.A (eval (.Name x pos) X.env) Q E s := by
  obtain ⟨mb, h1, h2⟩ := I.mod.blt
  exact Calls.Name_function_global I.ok.kind hg (Calls.loadGlobal_builtin (by rw [I.ok.glob]; exact I.mod.glob.keeps I.bk) hm (by rw [I.ok.blt]; exact h1.keeps I.bk) ((h2 x hn).trans hv) h) hd
/-- a module's constant, a class, a function, as a value -/
theorem pe_glob {x : Str} {v : V} {u : Value} {pos : Pos} (hg : Gl X x) (hm : X.mg x = some u) (r : RelV v u) (hd : (x == ("__debug__" : Str)) = false := by decide) : PE X (.Name x pos) (tC v) :=
  fun _ _ _ H _ I h => ld_glob I hg hm ⟨v, H, I, r, h⟩ hd
theorem pe_bltn {x : Str} {v : V} {u : Value} {pos : Pos} (hg : Gl X x) (hm : X.mg x = none) (hv : bootBuiltins x = some u) (r : RelV v u) (hn : x ≠ "__name__" := by decide) (hd : (x == ("__debug__" : Str)) = false := by decide) : PE X (.Name x pos) (tC v) :=
  fun _ _ _ H _ I h => ld_blt I hg hm hv ⟨v, H, I, r, h⟩ hn hd

/-! ### arithmetic -/
variable {a b : Expr} {ta tb : TE} {pos : Pos}
/-! ### comparisons -/
/-- a comparison as a value, as a test -/
def tB (t : TE) : TT := fun σ H Q => t σ H fun x H1 => ∃ c, x = .bl c ∧ Q c H1
/-- an expression whose value is a bool, as a test -/
theorem pt_val {e : Expr} {t : TE} (h : PE X e t) (he : ∀ whole, isTrue e X.env whole = (do let v ← whole; standAt e.pos; holding [v] (truthy v)) := by intro _; rfl) : PT X e (tB t) := by
  intro pins s σ H Q I hw
  refine isTrue_plain (thn (h pins s σ H _ I hw) fun v s1 ⟨x, H1, I1, r1, q1⟩ => ?_) (he _)
  obtain ⟨d, rfl, q⟩ := q1
  cases r1
  exact wpAny_truthy_bool ⟨H1, I1, q⟩

/-! ### and, or, not -/
variable {tA tB' : TT} {rest : List Expr}
def tAnd (t u : TT) : TT := fun σ H Q => t σ H fun c H1 => if c = true then u σ H1 Q else Q false H1
def tOr (t u : TT) : TT := fun σ H Q => t σ H fun c H1 => if c = true then Q true H1 else u σ H1 Q
def tNot (t : TT) : TT := fun σ H Q => t σ H fun c H1 => Q (!c) H1
theorem pw_and1 (ha : PT X a tA) : PW X (.BoolOp .And [a] pos) tA := by
  intro wh pins s σ H Q I h
  refine isTrue_and (thn (ha pins s σ H Q I h) fun c s1 e => ?_)
  cases c with
  | true => exact isTrue_and_nil e
  | false => exact e
theorem pw_or1 (ha : PT X a tA) : PW X (.BoolOp .Or [a] pos) tA := by
  intro wh pins s σ H Q I h
  refine isTrue_or (thn (ha pins s σ H Q I h) fun c s1 e => ?_)
  cases c with
  | false => exact isTrue_or_nil e
  | true => exact e
theorem pw_and (ha : PT X a tA) (hb : PW X (.BoolOp .And (b :: rest) pos) tB') : PW X (.BoolOp .And (a :: b :: rest) pos) (tAnd tA tB') := by
  intro wh pins s σ H Q I h
  refine isTrue_and (thn (ha pins s σ H _ I h) fun c s1 ⟨H1, I1, q1⟩ => ?_)
  cases c with
  | true => exact hb wh pins s1 σ H1 Q I1 q1
  | false => exact ⟨H1, I1, q1⟩
theorem pw_or (ha : PT X a tA) (hb : PW X (.BoolOp .Or (b :: rest) pos) tB') : PW X (.BoolOp .Or (a :: b :: rest) pos) (tOr tA tB') := by
  intro wh pins s σ H Q I h
  refine isTrue_or (thn (ha pins s σ H _ I h) fun c s1 ⟨H1, I1, q1⟩ => ?_)
  cases c with
  | true => exact ⟨H1, I1, q1⟩
  | false => exact hb wh pins s1 σ H1 Q I1 q1
theorem pt_not (ha : PT X a tA) : PT X (.UnaryOp .Not a pos) (tNot tA) := by
  intro pins s σ H Q I h
  exact isTrue_not (ha pins s σ H (fun c H1 => Q (!c) H1) I h)
/-- .. as values (bools) -/
def tAndV (ta tb : TE) : TE := fun σ H Q => ta σ H fun x H1 => ∃ c, x = .bl c ∧ if c = true then tb σ H1 Q else Q (.bl false) H1
def tOrV (ta tb : TE) : TE := fun σ H Q => ta σ H fun x H1 => ∃ c, x = .bl c ∧ if c = true then Q (.bl true) H1 else tb σ H1 Q
def tNotV (ta : TE) : TE := fun σ H Q => ta σ H fun x H1 => ∃ c, x = .bl c ∧ Q (.bl (!c)) H1
theorem pe_one {op} {t : TE} (h : PE X a t) : PE X (.BoolOp op [a] pos) t := fun pins s σ H Q I hw => BoolOp_one (h pins s σ H Q I hw)
theorem pe_and (ha : PE X a ta) (hb : PE X (.BoolOp .And (b :: rest) pos) tb) : PE X (.BoolOp .And (a :: b :: rest) pos) (tAndV ta tb) := by
  intro pins s σ H Q I h
  refine BoolOp_and (thn (ha pins s σ H _ I h) fun v s1 ⟨x, H1, I1, r1, q1⟩ => ?_)
  obtain ⟨c, rfl, q1⟩ := q1
  cases r1
  refine wpAny_truthy_bool ?_
  cases c with
  | true => exact hb pins s1 σ H1 Q I1 q1
  | false => exact ⟨.bl false, H1, I1, rfl, q1⟩
theorem pe_or (ha : PE X a ta) (hb : PE X (.BoolOp .Or (b :: rest) pos) tb) : PE X (.BoolOp .Or (a :: b :: rest) pos) (tOrV ta tb) := by
  intro pins s σ H Q I h
  refine BoolOp_or (thn (ha pins s σ H _ I h) fun v s1 ⟨x, H1, I1, r1, q1⟩ => ?_)
  obtain ⟨c, rfl, q1⟩ := q1
  cases r1
  refine wpAny_truthy_bool ?_
  cases c with
  | false => exact hb pins s1 σ H1 Q I1 q1
  | true => exact ⟨.bl true, H1, I1, rfl, q1⟩
theorem pe_not (ha : PE X a ta) : PE X (.UnaryOp .Not a pos) (tNotV ta) := by
  intro pins s σ H Q I h
  refine UnaryOp_ (thn (ha pins s σ H _ I h) fun v s1 ⟨x, H1, I1, r1, q1⟩ => ?_)
  obtain ⟨c, rfl, q1⟩ := q1
  cases r1
  exact not_of (wpAny_truthy_bool ⟨.bl (!c), H1, I1, rfl, q1⟩)
end
end L2

namespace L2
open PySem PySem.Spec PyProof.Rows

/-! ### a list, a tuple that is read: tracked, frozen, or an object of the module -/
def SqL (K : PySem.W.Frag) (H : Hp) (a : Addr) (xs : List V) : Prop :=
  Rd H a (.lst xs) ∨
    ∃ (o : Obj) (its : Array Value) (n : Nat), K.lookup a = some o ∧ o.cls = .type "list" ∧ o.dict = none ∧ o.data = .seq its n ∧ its.size ≤ sizeLine ∧ Vals xs its.toList
def SqT (K : PySem.W.Frag) (H : Hp) (a : Addr) (xs : List V) : Prop :=
  Rd H a (.tup xs) ∨
    ∃ (o : Obj) (its : Array Value) (n : Nat), K.lookup a = some o ∧ o.cls = .type "tuple" ∧ o.data = .seq its n ∧ its.size ≤ sizeLine ∧ Vals xs its.toList
def absV : Value → Option V
  | .none => some .non
  | .bool b => some (.bl b)
  | .int i _ => some (.int i)
  | .str x _ => some (.str x)
  | .bytes b _ => some (.byt b)
  | .float b _ => some (.flt b)
  | .ref a => some (.ref a)
  | .type n => some (.ty n)
  | _ => none
theorem RelV.abs {x : V} {u : Value} (r : RelV x u) : absV u = some x := by
  cases x with
  | non => cases r; rfl
  | bl _ => cases r; rfl
  | int _ => obtain ⟨t, rfl⟩ := r; rfl
  | str _ => obtain ⟨t, rfl⟩ := r; rfl
  | byt _ => obtain ⟨t, rfl⟩ := r; rfl
  | flt _ => obtain ⟨t, rfl⟩ := r; rfl
  | ref _ => cases r; rfl
  | ty _ => cases r; rfl
theorem RelV.inj {x y : V} {u : Value} (r : RelV x u) (q : RelV y u) : x = y := Option.some.inj (r.abs.symm.trans q.abs)
theorem Vals.inj : ∀ {xs ys : List V} {us : List Value}, Vals xs us → Vals ys us → xs = ys
  | _, _, _, .nil, .nil => rfl
  | _, _, _, .cons r t, .cons r' t' => by rw [r.inj r', Vals.inj t t']
section
variable {X : Cx} {pins : List (Addr × Obj)} {σ : St} {H : Hp} {s : Shared} {a : Addr} {xs ys : List V}
theorem SqL.of {K : PySem.W.Frag} (h : H a = some (.lst xs)) : SqL K H a xs := .inl (.inl h)
theorem SqT.of {K : PySem.W.Frag} (h : H a = some (.tup xs)) : SqT K H a xs := .inl (.inl h)
theorem Inv.list (I : Inv X pins σ H s) (h : SqL X.K H a xs) : ∃ its : List Value, Vals xs its ∧ PlainL s.heap a its.toArray ∧ xs.length ≤ sizeLine := by
  rcases h with h | ⟨o, its, n, hk, hc, hd, hs, hz, r⟩
  · obtain ⟨z, its, n, r, e⟩ := h.ok I.hok
    exact ⟨its, r, ⟨_, n, e, rfl, rfl, rfl⟩, z⟩
  · refine ⟨its.toList, r, ⟨o, n, I.kIn a o hk, hc, hd, by simpa using hs⟩, ?_⟩
    have e := r.length
    simp only [Array.length_toList] at e
    omega
theorem Inv.tuple (I : Inv X pins σ H s) (h : SqT X.K H a xs) : ∃ its : List Value, Vals xs its ∧ IsTup s.heap a its.toArray ∧ xs.length ≤ sizeLine := by
  rcases h with h | ⟨o, its, n, hk, hc, hs, hz, r⟩
  · obtain ⟨z, its, r, p⟩ := h.ok I.hok
    exact ⟨its, r, p, z⟩
  · refine ⟨its.toList, r, ⟨o, I.kIn a o hk, hc, n, by simpa using hs⟩, ?_⟩
    have e := r.length
    simp only [Array.length_toList] at e
    omega
theorem Inv.list_inj (I : Inv X pins σ H s) (h : SqL X.K H a xs) (h' : SqL X.K H a ys) : xs = ys := by
  obtain ⟨its, r, ⟨o, n, e, _, _, d⟩, _⟩ := I.list h
  obtain ⟨its', r', ⟨o', n', e', _, _, d'⟩, _⟩ := I.list h'
  rw [e] at e'; cases e'
  rw [d] at d'
  injection d' with d1 _
  have : its = its' := by simpa using congrArg Array.toList d1
  subst this
  exact r.inj r'
theorem Inv.tuple_inj (I : Inv X pins σ H s) (h : SqT X.K H a xs) (h' : SqT X.K H a ys) : xs = ys := by
  obtain ⟨its, r, ⟨o, e, _, n, d⟩, _⟩ := I.tuple h
  obtain ⟨its', r', ⟨o', e', _, n', d'⟩, _⟩ := I.tuple h'
  rw [e] at e'; cases e'
  rw [d] at d'
  injection d' with d1 _
  have : its = its' := by simpa using congrArg Array.toList d1
  subst this
  exact r.inj r'
end

/-! ### another wish about exceptions -/
abbrev Cx.wish (X : Cx) (E : Value → Shared → Prop) : Cx := { X with xe := E }
/-- no exception leaves -/
abbrev Cx.nox (X : Cx) : Cx := X.wish fun _ _ => False
theorem Cx.Ok.wish {X : Cx} (ok : X.Ok) (E : Value → Shared → Prop) : (X.wish E).Ok :=
  ⟨ok.mod, ok.kind, ok.glob, ok.blt, ok.above, ok.inj, ok.has, ok.cab, ok.hd, ok.frames, ok.stk, ok.exf, ok.bs, ok.bsz, ok.noex, ok.exfs, ok.funs, ok.frf⟩
theorem Cx.Ok.unwish {X : Cx} {E : Value → Shared → Prop} (ok : (X.wish E).Ok) : X.Ok :=
  ⟨ok.mod, ok.kind, ok.glob, ok.blt, ok.above, ok.inj, ok.has, ok.cab, ok.hd, ok.frames, ok.stk, ok.exf, ok.bs, ok.bsz, ok.noex, ok.exfs, ok.funs, ok.frf⟩
section
variable {X : Cx} {pins : List (Addr × Obj)} {σ : St} {H : Hp} {s : Shared} {E : Value → Shared → Prop}
theorem Inv.wish (I : Inv X pins σ H s) (E : Value → Shared → Prop) : Inv (X.wish E) pins σ H s := ⟨I.ok.wish E, I.os, I.bare, I.base, I.loc, I.cell, I.free, I.freeC, I.pin, I.hok, I.len⟩
theorem Inv.unwish (I : Inv (X.wish E) pins σ H s) : Inv X pins σ H s := ⟨I.ok.unwish, I.os, I.bare, I.base, I.loc, I.cell, I.free, I.freeC, I.pin, I.hok, I.len⟩
theorem SP.unwish {D : Ends} {f : Flow} {s' : Shared} (h : SP (X.wish E) pins D f s') : SP X pins D f s' := by
  cases f with
  | next => obtain ⟨σ', H', I, q⟩ := h; exact ⟨σ', H', I.unwish, q⟩
  | brk => obtain ⟨σ', H', I, q⟩ := h; exact ⟨σ', H', I.unwish, q⟩
  | cont => obtain ⟨σ', H', I, q⟩ := h; exact ⟨σ', H', I.unwish, q⟩
  | ret u => obtain ⟨v, σ', H', I, r, q⟩ := h; exact ⟨v, σ', H', I.unwish, r, q⟩
theorem PE.nox {e : Expr} {t : TE} (h : PE X.nox e t) : PE X e t := fun pins s σ H Q I hw =>
  wpAny_mono (h pins s σ H Q (I.wish _) hw) (fun _ _ ⟨v, H', I', r, q⟩ => ⟨v, H', I'.unwish, r, q⟩) fun _ _ z => False.elim z
theorem PT.nox {e : Expr} {t : TT} (h : PT X.nox e t) : PT X e t := fun pins s σ H Q I hw =>
  wpAny_mono (h pins s σ H Q (I.wish _) hw) (fun _ _ ⟨H', I', q⟩ => ⟨H', I'.unwish, q⟩) fun _ _ z => False.elim z
theorem PSs.nox {st : List Stmt} {t : TS} (h : PSs X.nox st t) : PSs X st t := fun pins s σ H D I hw =>
  wpAny_mono (h pins s σ H D (I.wish _) hw) (fun _ _ q => q.unwish) fun _ _ z => False.elim z
end

/-! ### blocks and small statements -/
section
variable {X : Cx} {st : Stmt} {rest : List Stmt} {t u : TS} {e : Expr} {te : TE} {pos : Pos}
def tNext : TS := fun D σ H => D.nx σ H
def tSeq (t u : TS) : TS := fun D σ H => t { D with nx := u D } σ H
theorem pss_nil : PSs X [] tNext := fun _ _ σ H _ I h => wpAny_execs_nil ⟨σ, H, I, h⟩
theorem pss_cons (h1 : PS X st t) (h2 : PSs X rest u) : PSs X (st :: rest) (tSeq t u) := by
  intro pins s σ H D I h
  refine wpAny_execs_cons (thn (h1 pins s σ H { D with nx := u D } I h) fun f s1 q => ?_)
  cases f with
  | next =>
    obtain ⟨σ', H', I', q⟩ := q
    exact h2 pins s1 σ' H' D I' q
  | ret v => exact q
  | brk => exact q
  | cont => exact q
theorem pss_one (h1 : PS X st t) : PSs X [st] t := by
  intro pins s σ H D I h
  refine wpAny_execs_cons (thn (h1 pins s σ H D I h) fun f s1 q => ?_)
  cases f with
  | next => exact wpAny_execs_nil q
  | ret v => exact q
  | brk => exact q
  | cont => exact q
def tRet (te : TE) : TS := fun D σ H => te σ H D.rt
theorem ps_ret (he : PE X e te) : PS X (.Return (some e) pos) (tRet te) := by
  intro pins s σ H D I h
  exact wpAny_Return_some (thn (he pins s σ H _ I h) fun v s1 ⟨x, H1, I1, r1, q1⟩ => ⟨x, σ, H1, I1, r1, q1⟩)
def tIfS (c : TT) (t u : TS) : TS := fun D σ H => c σ H fun b H1 => if b = true then t D σ H1 else u D σ H1
theorem ps_if {c : Expr} {a b : List Stmt} {tc : TT} (hc : PT X c tc) (ha : PSs X a t) (hb : PSs X b u) : PS X (.If c a b pos) (tIfS tc t u) := by
  intro pins s σ H D I h
  refine wpAny_If (thn (hc pins s σ H _ I h) fun d s1 ⟨H1, I1, q1⟩ => ?_)
  cases d with
  | true => exact ha pins s1 σ H1 D I1 q1
  | false => exact hb pins s1 σ H1 D I1 q1
end

/-! ### targets -/
abbrev TG := V → St → Hp → (St → Hp → Prop) → Prop
def PG (X : Cx) (target : Expr) (t : TG) : Prop :=
  ∀ (pins : List (Addr × Obj)) (s : Shared) (σ : St) (H : Hp) (v : V) (u : Value) (Q : St → Hp → Prop), Inv X pins σ H s → RelV v u → t v σ H Q →
    wpAny (model X.prog X.w) X.A (assign target X.env u) (fun _ s' => ∃ σ' H', Inv X pins σ' H' s' ∧ Q σ' H') X.xe s
/-- o[i] = v, by values -/
abbrev TSet := V → V → V → Hp → (Hp → Prop) → Prop
def PSet (X : Cx) (t : TSet) : Prop :=
  ∀ (pins : List (Addr × Obj)) (s : Shared) (σ : St) (H : Hp) (o i v : V) (ov iv u : Value) (Q : Hp → Prop), Inv X pins σ H s → RelV o ov → RelV i iv → RelV v u → t o i v H Q →
    wpAny (model X.prog X.w) X.A (setItem ov iv u) (fun _ s' => ∃ H', Inv X pins σ H' s' ∧ Q H') X.xe s
section
variable {X : Cx} {pos : Pos}
def gName (i : Nat) : TG := fun v σ H Q => Q (σ.set i (some v)) H
theorem pg_name {i : Nat} {x : Str} (hN : X.N.Nodup) (hi : X.N[i]? = some x) (hx : Loc X.env.scope x) (hf : X.fn x = true ∨ X.env.scope.names.lookup x = some .local := by first | exact .inl rfl | exact .inr rfl | assumption) : PG X (.Name x pos) (gName i) := by
  intro pins s σ H v u Q I r h
  exact wpAny_assign_Name (store_ok I hN hi hx r (fun s' I' => ⟨_, H, I', h⟩) hf)
/-- o[i] = .. -/
def gSub (to ti : TE) (t : TSet) : TG := fun v σ H Q => to σ H fun o H1 => ti σ H1 fun i H2 => t o i v H2 fun H3 => Q σ H3
theorem pg_sub {o i : Expr} {to ti : TE} {t : TSet} (ho : PE X o to) (hi : PE X i ti) (hs : PSet X t)
    (ha : ∀ v, assign (.Subscript o i pos) X.env v = (do
      let ov ← holding [v] (eval o X.env)
      let iv ← holding [v, ov] (eval i X.env)
      standAt pos
      holding [v, ov, iv] (setItem ov iv v)
      release [v, ov, iv] []) := by intro _; rfl) : PG X (.Subscript o i pos) (gSub to ti t) := by
  intro pins s σ H v u Q I r h
  rw [ha]
  refine wpAny_bind (wpAny_holding (thn (ho pins s σ H _ I h) fun ov s1 ⟨x, H1, I1, r1, q1⟩ => ?_))
  refine wpAny_bind (wpAny_holding (thn (hi pins s1 σ H1 _ I1 q1) fun iv s2 ⟨y, H2, I2, r2, q2⟩ => ?_))
  refine wpAny_bind (wpAny_standAt (wpAny_bind (wpAny_holding (thn (hs pins s2 σ H2 x y v ov iv u _ I2 r1 r2 r q2) fun _ s3 ⟨H3, I3, q3⟩ => ?_))))
  exact wpAny_release ⟨σ, H3, I3, q3⟩
/-- target = value -/
def tAsg (te : TE) (g : TG) : TS := fun D σ H => te σ H fun x H1 => g x σ H1 D.nx
theorem ps_asg {tg e : Expr} {te : TE} {g : TG} (he : PE X e te) (hg : PG X tg g) (hs : swapsWithSole [tg] e pos.line X.env = pure false := by rfl) (hw : swappedStores [tg] e X.env = pure none := by rfl)
    (h1 : (assignEach [tg] X.env).map (·.2) = [assign tg X.env] := by rfl) : PS X (.Assign [tg] e pos) (tAsg te g) := by
  intro pins s σ H D I h
  refine wpAny_Assign_stores (thn (he pins s σ H _ I h) fun v s1 ⟨x, H1, I1, r1, q1⟩ => ?_) hs hw
  rw [h1]
  exact thn (hg pins s1 σ H1 x v _ I1 r1 q1) fun _ s2 q => q
/-- name = value -/
theorem ps_set {i : Nat} {x : Str} {e : Expr} {te : TE} {pos' : Pos} (hN : X.N.Nodup) (hi : X.N[i]? = some x) (hx : Loc X.env.scope x) (he : PE X e te) (hs : swapsWith e (some (.Name x pos')) pos.line X.env = pure false := by rfl) (hf : X.fn x = true ∨ X.env.scope.names.lookup x = some .local := by first | exact .inl rfl | exact .inr rfl | assumption) :
    PS X (.Assign [.Name x pos'] e pos) (tAsg te (gName i)) := by
  intro pins s σ H D I h
  refine wpAny_Assign_Name (thn (he pins s σ H _ I h) fun v s1 ⟨y, H1, I1, r1, q1⟩ => ?_) hs
  exact store_ok I1 hN hi hx r1 (fun s2 I2 => ⟨_, H1, I2, q1⟩) hf
end

/-! ### while -/
section
variable {X : Cx} {pos : Pos}
end

/-! ### what a loop or a comprehension walks -/
/-- at turn i: it yields x (the heap may grow), or it stops -/
structure It where
  go : Nat → Hp → Prop
  yld : Nat → Hp → V → Hp → Prop
  stop : Nat → Hp → Prop
/-- the iterator's own objects may turn: they are not the frame's, not pinned, younger than the entry (or a comprehension's own) -/
def FpOk (X : Cx) (pins : List (Addr × Obj)) (H : Hp) (b : Addr) : Prop :=
  H b = none ∧ b ≠ X.env.locals ∧ b ∉ X.fs ∧ (b ∈ X.ex ∨ X.s₀.heap.objs.size ≤ b) ∧ (∀ x c, X.env.cells.lookup x = some c → c ≠ b) ∧ ∀ p ∈ X.pn ++ pins, p.1 ≠ b
theorem Inv.fpOk {X : Cx} {pins : List (Addr × Obj)} {σ : St} {H H' : Hp} {s : Shared} {b : Addr} (I : Inv X pins σ H s) (hb : s.heap.objs.size ≤ b) (hn : H' b = none) : FpOk X pins H' b := by
  refine ⟨hn, Nat.ne_of_gt (Nat.lt_of_lt_of_le I.lt hb), I.nofs hb, .inr (Nat.le_trans I.sz hb), fun x c e z => ?_, fun p hp z => ?_⟩
  · obtain ⟨v, q⟩ := I.cell x c e
    exact absurd (Nat.lt_of_lt_of_le q.lt (by rw [z]; exact hb)) (Nat.lt_irrefl _)
  · exact absurd (Nat.lt_of_lt_of_le (Heap.lt_size (I.pin p hp).1) (by rw [z]; exact hb)) (Nat.lt_irrefl _)
structure Turn (P : Program) (w : World) (K : PySem.W.Frag) (tg : Expr) (J : It) (fp : List Addr) (it : Addr) (tn : Nat → Heap → Prop) : Prop where
  mem : it ∈ fp
  obj : ∀ i h, tn i h → ∀ b ∈ fp, ∃ o, h.get? b = some o ∧ ∀ v, o.data ≠ .cell v
  keep : ∀ i h h', tn i h → (∀ b ∈ fp, ∀ o, h.get? b = some o → h'.get? b = some o) → tn i h'
  item : ∀ (X : Cx), X.prog = P → X.w = w → X.K = K → X.calm = true → ∀ (i : Nat) (pins : List (Addr × Obj)) (s : Shared) (σ : St) (H : Hp) (E : Value → Shared → Prop), Inv X pins σ H s → (∀ b ∈ fp, FpOk X pins H b) → tn i s.heap → J.go i H →
    wpAny (model P w) X.A (pyNext (.ref it)) (fun r s1 => ∃ u, r = some u ∧
      wpAny (model P w) X.A (letOwnedTupleGo tg (.ref it) u) (fun _ s2 => ∃ x H', Inv X pins σ H' s2 ∧ RelV x u ∧ J.yld i H x H' ∧ tn (i + 1) s2.heap ∧ ∀ b ∈ fp, H' b = none) E s1) E s
  done : ∀ (X : Cx), X.prog = P → X.w = w → X.K = K → X.calm = true → ∀ (i : Nat) (pins : List (Addr × Obj)) (s : Shared) (σ : St) (H : Hp) (E : Value → Shared → Prop), Inv X pins σ H s → (∀ b ∈ fp, FpOk X pins H b) → tn i s.heap → J.stop i H →
    wpAny (model P w) X.A (pyNext (.ref it)) (fun r s1 => r = none ∧ Inv X pins σ H s1) E s
  self : ∀ (A : Around) (i : Nat) (s : Shared) (Q : Value → Shared → Prop) (E : Value → Shared → Prop), tn i s.heap → Q (.ref it) s → wpAny (model P w) A (pyIter (.ref it)) Q E s
abbrev TI := St → Hp → (It → Hp → Prop) → Prop
/-- an iterator has come -/
def PIE (X : Cx) (pins : List (Addr × Obj)) (σ : St) (tg : Expr) (R : It → Hp → Prop) (itv : Value) (s2 : Shared) : Prop :=
  ∃ (it : Addr) (fp : List Addr) (tn : Nat → Heap → Prop) (J : It) (H' : Hp), itv = .ref it ∧ Inv X pins σ H' s2 ∧ Turn X.prog X.w X.K tg J fp it tn ∧ tn 0 s2.heap ∧ (∀ b ∈ fp, FpOk X pins H' b) ∧ R J H'
def PI (X : Cx) (tg iter : Expr) (wi : TI) : Prop :=
  ∀ (pins : List (Addr × Obj)) (s : Shared) (σ : St) (H : Hp) (R : It → Hp → Prop), Inv X pins σ H s → wi σ H R →
    wpAny (model X.prog X.w) X.A (eval iter X.env) (fun v s1 => wpAny (model X.prog X.w) X.A (pyIter v) (PIE X pins σ tg R) X.xe s1) X.xe s

/-- the step ahead of the store is nothing for an iterator that keeps no tuple -/
theorem go_of {M : Model} {A : Around} {E : Value → Shared → Prop} {s : Shared} {tg : Expr} {it : Addr} {u : Value} {o : Obj} {n : String} {vs : Array Value} {Q : Unit → Shared → Prop} (ho : s.heap.get? it = some o) (hc : o.cls = .type n) (hd : o.data = .fields vs)
    (hn : ["enumerate", "zip", "dict_itemiterator", "dict_reverseitemiterator", "odict_iterator", "itertools.zip_longest", "itertools.pairwise"].contains n = false) (hQ : Q () s) : wpAny M A (letOwnedTupleGo tg (.ref it) u) Q E s := by
  unfold letOwnedTupleGo
  cases tg <;> first
    | exact wpAny_pure hQ
    | (cases u <;> first
        | exact wpAny_pure hQ
        | (refine wpAny_bind (wpAny_load ho ?_)
           rw [hc, hd]
           show wpAny M A (if (["enumerate", "zip", "dict_itemiterator", "dict_reverseitemiterator", "odict_iterator", "itertools.zip_longest", "itertools.pairwise"].contains n && vs[0]? == some (rawInt _)) = true then _ else _) Q E s
           rw [if_neg (by intro h; rw [hn, Bool.false_and] at h; cases h)]
           exact wpAny_pure hQ))

/-- the list at a, as it stands at each turn (a loop may append to it) -/
def Itl (K : PySem.W.Frag) (a : Addr) : It :=
  ⟨fun i H => ∃ xs x, SqL K H a xs ∧ xs[i]? = some x, fun i H x H' => H' = H ∧ ∀ xs, SqL K H a xs → xs[i]? = some x, fun i H => ∃ xs, SqL K H a xs ∧ xs.length ≤ i⟩
def Itt (K : PySem.W.Frag) (a : Addr) : It :=
  ⟨fun i H => ∃ xs x, SqT K H a xs ∧ xs[i]? = some x, fun i H x H' => H' = H ∧ ∀ xs, SqT K H a xs → xs[i]? = some x, fun i H => ∃ xs, SqT K H a xs ∧ xs.length ≤ i⟩
/-- lo, lo + 1, .. (n of them) -/
def Itr (lo : Int) (n : Nat) : It := ⟨fun i _ => i < n, fun i H x H' => H' = H ∧ x = .int (lo + i), fun i _ => n ≤ i⟩
theorem turn_list {P : Program} {w : World} {K : PySem.W.Frag} {tg : Expr} (a it : Addr) : Turn P w K tg (Itl K a) [it] it (fun i h => h.IsListIter it a i) where
  mem := by simp
  obj := fun i h st b hb => by
    have e : b = it := by simpa using hb
    subst e
    obtain ⟨o, e, c, d⟩ := st
    exact ⟨o, e, fun v z => by rw [d] at z; cases z⟩
  keep := fun i h h' st k => st.at fun o e => k it (by simp) o e
  item := by
    intro X hP hw hK hc i pins s σ H E I hf st hg
    subst hP hw hK
    obtain ⟨xs, x, hq, hx⟩ := hg
    obtain ⟨its, rv, p, hz⟩ := I.list hq
    obtain ⟨u, hu, ru⟩ := rv.get hx
    obtain ⟨f0, f1, f2, f3, f4, f5⟩ := hf it (by simp)
    refine wpAny_pyNext_list_item st p.isList (x := u) (by simpa using hu) fun h' st' sb => ?_
    have I1 : Inv X pins σ H { s with heap := h' } := I.turned (t' := s.toks) (fun b o hb e => (sb.2 b hb).trans e) f0 f1 f3 f4 f5
    obtain ⟨o, e, c, d⟩ := id st'
    exact ⟨u, rfl, go_of (s := { s with heap := h' }) e c d (by decide) ⟨x, H, I1, ru, ⟨rfl, fun ys hy => by rw [I.list_inj hy hq]; exact hx⟩, st', fun b hb => (hf b hb).1⟩⟩
  done := by
    intro X hP hw hK hc i pins s σ H E I hf st hg
    subst hP hw hK
    obtain ⟨xs, hq, hx⟩ := hg
    obtain ⟨its, rv, p, hz⟩ := I.list hq
    obtain ⟨f0, f1, f2, f3, f4, f5⟩ := hf it (by simp)
    have hl := rv.length
    exact wpAny_pyNext_list_end (I.ok.hd hc) st p.isList (by simp; omega) fun h' eb => ⟨rfl, I.turned (t' := s.toks) (fun b o hb e => eb b o hb e) f0 f1 f3 f4 f5⟩
  self := fun _ _ _ _ _ st h => wpAny_pyIter_listiter st h
theorem turn_tuple {P : Program} {w : World} {K : PySem.W.Frag} {tg : Expr} (a it : Addr) : Turn P w K tg (Itt K a) [it] it (fun i h => h.IsTupleIter it a i) where
  mem := by simp
  obj := fun i h st b hb => by
    have e : b = it := by simpa using hb
    subst e
    obtain ⟨o, e, c, d⟩ := st
    exact ⟨o, e, fun v z => by rw [d] at z; cases z⟩
  keep := fun i h h' st k => st.at fun o e => k it (by simp) o e
  item := by
    intro X hP hw hK hc i pins s σ H E I hf st hg
    subst hP hw hK
    obtain ⟨xs, x, hq, hx⟩ := hg
    obtain ⟨its, rv, p, hz⟩ := I.tuple hq
    obtain ⟨u, hu, ru⟩ := rv.get hx
    obtain ⟨f0, f1, f2, f3, f4, f5⟩ := hf it (by simp)
    refine wpAny_pyNext_tuple_item st (show s.heap.IsTuple a its.toArray from p) (x := u) (by simpa using hu) fun h' st' sb => ?_
    have I1 : Inv X pins σ H { s with heap := h' } := I.turned (t' := s.toks) (fun b o hb e => (sb.2 b hb).trans e) f0 f1 f3 f4 f5
    obtain ⟨o, e, c, d⟩ := id st'
    exact ⟨u, rfl, go_of (s := { s with heap := h' }) e c d (by decide) ⟨x, H, I1, ru, ⟨rfl, fun ys hy => by rw [I.tuple_inj hy hq]; exact hx⟩, st', fun b hb => (hf b hb).1⟩⟩
  done := by
    intro X hP hw hK hc i pins s σ H E I hf st hg
    subst hP hw hK
    obtain ⟨xs, hq, hx⟩ := hg
    obtain ⟨its, rv, p, hz⟩ := I.tuple hq
    obtain ⟨f0, f1, f2, f3, f4, f5⟩ := hf it (by simp)
    have hl := rv.length
    exact wpAny_pyNext_tuple_end (I.ok.hd hc) st (show s.heap.IsTuple a its.toArray from p) (by simp; omega) fun h' eb => ⟨rfl, I.turned (t' := s.toks) (fun b o hb e => eb b o hb e) f0 f1 f3 f4 f5⟩
  self := fun _ _ _ _ _ st h => wpAny_pyIter_tupleiter st h
theorem turn_range {P : Program} {w : World} {K : PySem.W.Frag} {tg : Expr} (it : Addr) (lo : Int) (n : Nat) : Turn P w K tg (Itr lo n) [it] it (fun i h => IsRangeIter h it (lo + (i : Nat) * 1) ((n : Int) - (i : Nat)) 1) where
  mem := by simp
  obj := fun i h st b hb => by
    have e : b = it := by simpa using hb
    subst e
    exact ⟨_, st, fun v z => by
      have z' : Data.fields _ = Data.cell v := z
      cases z'⟩
  keep := fun i h h' st k => k it (by simp) _ st
  item := by
    intro X hP hw hK hc i pins s σ H E I hf st hg
    subst hP hw hK
    obtain ⟨f0, f1, f2, f3, f4, f5⟩ := hf it (by simp)
    have W := Walks.range (prog := X.prog) (w := X.w) (I.ok.hd hc) it lo 1 n
    refine W.item i s _ _ hg st fun v h' tk hv st' kk => ?_
    obtain ⟨t, rfl⟩ := hv
    have I1 : Inv X pins σ H { s with heap := h', toks := tk } := I.turned (fun b o hb e => kk b o (by simpa using hb) e) f0 f1 f3 f4 f5
    refine ⟨_, rfl, go_of (s := { s with heap := h', toks := tk }) (n := "range_iterator") st' rfl rfl (by decide) ⟨.int (lo + i), H, I1, ⟨t, ?_⟩, ⟨rfl, rfl⟩, st', fun b hb => (hf b hb).1⟩⟩
    rw [Int.mul_one]
  done := by
    intro X hP hw hK hc i pins s σ H E I hf st hg
    subst hP hw hK
    obtain ⟨f0, f1, f2, f3, f4, f5⟩ := hf it (by simp)
    exact wpAny_pyNext_range_end (I.ok.hd hc) st (by have : n ≤ i := hg; omega) fun h' eb => ⟨rfl, I.turned (t' := s.toks) (fun b o hb e => eb b o hb e) f0 f1 f3 f4 f5⟩
  self := fun _ _ _ _ _ st h => wpAny_pyIter_rangeiter st h
end L2

namespace L2
open PySem PySem.Spec PyProof.Rows
section
variable {X : Cx} {tg : Expr}
def iList (K : PySem.W.Frag) (tl : TE) : TI := fun σ H R => tl σ H fun x H1 => ∃ a, x = .ref a ∧ (∃ xs, SqL K H1 a xs) ∧ R (Itl K a) H1
def iTup (K : PySem.W.Frag) (tl : TE) : TI := fun σ H R => tl σ H fun x H1 => ∃ a, x = .ref a ∧ (∃ xs, SqT K H1 a xs) ∧ R (Itt K a) H1
theorem pi_list {l : Expr} {tl : TE} (hl : PE X l tl) : PI X tg l (iList X.K tl) := by
  intro pins s σ H R I h
  refine thn (hl pins s σ H _ I h) fun v s1 ⟨x, H1, I1, r1, q1⟩ => ?_
  obtain ⟨a, e, ⟨xs, hq⟩, q⟩ := q1
  subst e
  cases r1
  obtain ⟨its, rv, p, hz⟩ := I1.list hq
  refine wpAny_pyIter_list p.isList ?_
  refine ⟨s1.heap.objs.size, [s1.heap.objs.size], _, _, H1, rfl, I1.kept (t' := s1.toks) fun b o e => Heap.get?_push_of_some _ e, turn_list a _, ⟨_, Heap.get?_push_size _ rfl, rfl, rfl⟩, fun b hb => ?_, q⟩
  have e : b = s1.heap.objs.size := by simpa using hb
  subst e
  exact I1.fpOk (Nat.le_refl _) (I1.hok.fresh (Nat.le_refl _))
theorem pi_tup {l : Expr} {tl : TE} (hl : PE X l tl) : PI X tg l (iTup X.K tl) := by
  intro pins s σ H R I h
  refine thn (hl pins s σ H _ I h) fun v s1 ⟨x, H1, I1, r1, q1⟩ => ?_
  obtain ⟨a, e, ⟨xs, hq⟩, q⟩ := q1
  subst e
  cases r1
  obtain ⟨its, rv, p, hz⟩ := I1.tuple hq
  refine wpAny_pyIter_tuple (show s1.heap.IsTuple a its.toArray from p) ?_
  refine ⟨s1.heap.objs.size, [s1.heap.objs.size], _, _, H1, rfl, I1.kept (t' := s1.toks) fun b o e => Heap.get?_push_of_some _ e, turn_tuple a _, ⟨_, Heap.get?_push_size _ rfl, rfl, rfl⟩, fun b hb => ?_, q⟩
  have e : b = s1.heap.objs.size := by simpa using hb
  subst e
  exact I1.fpOk (Nat.le_refl _) (I1.hok.fresh (Nat.le_refl _))
/-- a range object just made, walked -/
theorem range_it {pins : List (Addr × Obj)} {σ : St} {H : Hp} {s : Shared} {R : It → Hp → Prop} {E : Value → Shared → Prop} {lo hi : Int} {t u v : Tok} {tk : Nat} (I : Inv X pins σ H s) (h1 : -(2 ^ 62) ≤ lo) (h2 : lo < 2 ^ 62) (h3 : -(2 ^ 62) ≤ hi) (h4 : hi < 2 ^ 62)
    (q : R (Itr lo (hi - lo).toNat) H) : wpAny (model X.prog X.w) X.A (pyIter (.ref s.heap.objs.size)) (PIE X pins σ tg R) E { s with heap := s.heap.push { cls := .type "range", data := .fields #[.int lo t, .int hi u, .int 1 v] }, toks := tk } := by
  refine wpAny_pyIter_range (IsRange.new ..) (small_one h1 h2 h3 h4) ?_
  have I1 : Inv X pins σ H { s with heap := s.heap.push { cls := .type "range", data := .fields #[.int lo t, .int hi u, .int 1 v] }, toks := tk } := I.kept fun b o e => Heap.get?_push_of_some _ e
  refine ⟨(s.heap.push { cls := .type "range", data := .fields #[.int lo t, .int hi u, .int 1 v] }).objs.size, [(s.heap.push { cls := .type "range", data := .fields #[.int lo t, .int hi u, .int 1 v] }).objs.size], _, _, H, rfl,
    I1.kept (t' := tk) fun b o e => Heap.get?_push_of_some _ e, turn_range _ lo (hi - lo).toNat, ?_, fun b hb => ?_, q⟩
  · have e1 : lo + ((0 : Nat) : Int) * 1 = lo := by simp
    have e2 : (((hi - lo).toNat : Nat) : Int) - ((0 : Nat) : Int) = Builtin.Range.rangeSize lo hi 1 := by rw [rangeSize_one]; split <;> omega
    show IsRangeIter _ _ (lo + ((0 : Nat) : Int) * 1) ((((hi - lo).toNat : Nat) : Int) - ((0 : Nat) : Int)) 1
    rw [e1, e2]
    exact Heap.get?_push_size _ rfl
  · have e : b = (s.heap.push { cls := .type "range", data := .fields #[.int lo t, .int hi u, .int 1 v] }).objs.size := by simpa using hb
    subst e
    exact I1.fpOk (Nat.le_refl _) (I1.hok.fresh (Nat.le_refl _))
def iRng1 (ta : TA) : TI := fun σ H R => ta σ H fun vs H1 => ∃ j : Int, vs = [.int j] ∧ -(2 ^ 62) ≤ j ∧ j < 2 ^ 62 ∧ R (Itr 0 j.toNat) H1
def iRng2 (ta : TA) : TI := fun σ H R => ta σ H fun vs H1 => ∃ i j : Int, vs = [.int i, .int j] ∧ (-(2 ^ 62) ≤ i ∧ i < 2 ^ 62 ∧ -(2 ^ 62) ≤ j ∧ j < 2 ^ 62) ∧ R (Itr i (j - i).toNat) H1
theorem pi_range1 {a : Expr} {ta : TA} {p pos : Pos} (hg : Gl X "range") (hm : X.mg "range" = none) (ha : PA X [a] ta) (hs : starEach [a] X.env = [(false, eval a X.env)] := by rfl) : PI X tg (.Call (.Name "range" p) [a] [] pos) (iRng1 ta) := by
  intro pins s σ H R I h
  refine Call_ (ld_blt I hg hm boot_range (PyProof.Rows.callWith_type1 (thn (ha pos pins s σ H _ I h) fun us s1 ⟨vs, H1, I1, r1, q1⟩ => ?_) hs rfl))
  obtain ⟨j, e, q1, q2, q⟩ := q1
  subst e
  cases r1 with
  | cons r rr =>
    cases rr
    obtain ⟨t, rfl⟩ := r
    exact call_range_1 (range_it I1 (by omega) (by omega) q1 q2 (by simpa using q))
theorem pi_range2 {a b : Expr} {ta : TA} {p pos : Pos} (hg : Gl X "range") (hm : X.mg "range" = none) (ha : PA X [a, b] ta) (hs : starEach [a, b] X.env = [(false, eval a X.env), (false, eval b X.env)] := by rfl) (hs2 : starEach [b] X.env = [(false, eval b X.env)] := by rfl) :
    PI X tg (.Call (.Name "range" p) [a, b] [] pos) (iRng2 ta) := by
  intro pins s σ H R I h
  refine Call_ (ld_blt I hg hm boot_range (PyProof.Rows.callWith_type1 (thn (ha pos pins s σ H _ I h) fun us s1 ⟨vs, H1, I1, r1, q1⟩ => ?_) (by rw [hs, hs2]) (by rw [hs2]; rfl)))
  obtain ⟨i, j, e, ⟨q1, q2, q3, q4⟩, q⟩ := q1
  subst e
  cases r1 with
  | cons r rr =>
    cases rr with
    | cons r' rr =>
      cases rr
      obtain ⟨t, rfl⟩ := r
      obtain ⟨t', rfl⟩ := r'
      exact call_range_2 (range_it I1 q1 q2 q3 q4 q)

/-! ### for -/
/-- W: the invariant by the turn and a measure; N: what the body is to reach -/
def tFor (wi : TI) (g : TG) (tb : TS) : TS := fun D σ H => wi σ H fun J H1 => ∃ W : Nat → Nat → St → Hp → Prop, (∃ m, W 0 m σ H1) ∧ ∀ i m σ H, W i m σ H →
  (J.stop i H ∧ D.nx σ H) ∨ (J.go i H ∧ ∃ N : St → Hp → Prop, (∀ σ' H', N σ' H' → ∃ m', m' < m ∧ W (i + 1) m' σ' H') ∧ ∀ x H', J.yld i H x H' → g x σ H' fun σ2 H2 => tb { D with nx := N, ct := N, bk := D.nx } σ2 H2)
/-- the records at fp as they stand -/
def pinsAt (fp : List Addr) (h : Heap) : List (Addr × Obj) := fp.filterMap fun b => (h.get? b).map fun o => (b, o)
theorem mem_pinsAt {fp : List Addr} {h : Heap} {b : Addr} {o : Obj} (hb : b ∈ fp) (e : h.get? b = some o) : (b, o) ∈ pinsAt fp h := List.mem_filterMap.mpr ⟨b, hb, by rw [e]; rfl⟩
theorem of_pinsAt {fp : List Addr} {h : Heap} {p : Addr × Obj} (hp : p ∈ pinsAt fp h) : p.1 ∈ fp ∧ h.get? p.1 = some p.2 := by
  obtain ⟨b, hb, e⟩ := List.mem_filterMap.mp hp
  cases q : h.get? b with
  | none => rw [q] at e; cases e
  | some o =>
    rw [q] at e
    have e' : (b, o) = p := Option.some.inj e
    subst e'
    exact ⟨hb, q⟩
theorem Inv.pinned {pins : List (Addr × Obj)} {σ : St} {H : Hp} {s : Shared} {fp : List Addr} (I : Inv X pins σ H s) (hf : ∀ b ∈ fp, FpOk X pins H b) (ho : ∀ b ∈ fp, ∃ o, s.heap.get? b = some o ∧ ∀ v, o.data ≠ .cell v) : Inv X (pins ++ pinsAt fp s.heap) σ H s :=
  I.pins_of fun p hp => (List.mem_append.mp hp).elim (fun z => I.pin p (List.mem_append_right _ z)) fun z => by
    obtain ⟨hb, e⟩ := of_pinsAt z
    obtain ⟨f0, f1, f2, _⟩ := hf p.1 hb
    obtain ⟨o, e', d⟩ := ho p.1 hb
    rw [e] at e'; cases e'
    exact ⟨e, f0, f1, f2, d⟩
theorem Inv.unpinned {pins pl : List (Addr × Obj)} {σ : St} {H : Hp} {s : Shared} (I : Inv X (pins ++ pl) σ H s) : Inv X pins σ H s := I.pins_of fun p hp => I.pin p (List.mem_append_right _ (List.mem_append_left _ hp))
theorem ps_for {iter : Expr} {body : List Stmt} {wi : TI} {g : TG} {tb : TS} {pos : Pos} (hp : PassesOwn (model X.prog X.w) X.A X.env X.xe) (hc : X.calm = true) (hi : PI X tg iter wi) (hg : PG X tg g) (hb : PSs X body tb)
    (hs : ∀ x, foldedSetIterable iter X.env x = pure x := by intro _; rfl) : PS X (.For tg iter body [] pos) (tFor wi g tb) := by
  intro pins s σ H D I h
  refine wpAny_For (thn (hi pins s σ H _ I h) fun v s1 h1 => thn h1 fun itv s2 h2 => ?_) hs
  obtain ⟨it, fp, tn, J, H2, e, I2, T, st2, f2, W, ⟨m0, w0⟩, turn⟩ := h2
  subst e
  -- what stays true of the iterator's objects through the loop
  have stat : ∀ {H' : Hp}, (∀ b ∈ fp, H' b = none) → ∀ b ∈ fp, FpOk X pins H' b := fun hn b hb => ⟨hn b hb, (f2 b hb).2⟩
  refine codeAny_forLoop_any (fun n s' => ∃ i σ' H', Inv X pins σ' H' s' ∧ tn i s'.heap ∧ (∀ b ∈ fp, H' b = none) ∧ W i n σ' H') ?_ m0 ⟨0, σ, H2, I2, st2, fun b hb => (f2 b hb).1, w0⟩
  rintro n s3 ⟨i, σ3, H3, I3, st3, fr3, w3⟩
  rcases turn i n σ3 H3 w3 with ⟨stop, qn⟩ | ⟨go, N, hN, step⟩
  · refine wpAny_passesOwn hp (thn (T.done X rfl rfl rfl hc i pins s3 σ3 H3 X.xe I3 (stat fr3) st3 stop) fun r s4 ⟨hr, I4⟩ => ?_)
    subst hr
    exact wpAny_execs_nil ⟨σ3, H3, I4, qn⟩
  · refine wpAny_passesOwn hp (thn (T.item X rfl rfl rfl hc i pins s3 σ3 H3 X.xe I3 (stat fr3) st3 go) fun r s4 ⟨u, hr, h4⟩ => ?_)
    subst hr
    refine wpAny_passesOwn hp (thn h4 fun _ s5 ⟨x, H5, I5, r5, y5, st5, fr5⟩ => ?_)
    have I5' := I5.pinned (stat fr5) (T.obj _ _ st5)
    refine wpAny_passesOwn hp (thn (hg _ s5 σ3 H5 x u _ I5' r5 (step x H5 y5)) fun _ s6 ⟨σ6, H6, I6, q6⟩ => ?_)
    refine wpAny_passesOwn hp (thn (hb _ s6 σ6 H6 _ I6 q6) fun f s7 q7 => ?_)
    have again : ∀ {σ7 : St} {H7 : Hp}, Inv X (pins ++ pinsAt fp s5.heap) σ7 H7 s7 → N σ7 H7 → ∃ m, m < n ∧ ∃ i σ' H', Inv X pins σ' H' s7 ∧ tn i s7.heap ∧ (∀ b ∈ fp, H' b = none) ∧ W i m σ' H' := fun {σ7 H7} I7 n7 => by
      obtain ⟨m', hm, w7⟩ := hN σ7 H7 n7
      refine ⟨m', hm, i + 1, σ7, H7, I7.unpinned, T.keep _ _ _ st5 fun b hb o e => (I7.pin (b, o) (List.mem_append_right _ (List.mem_append_right _ (mem_pinsAt hb e)))).1, fun b hb => ?_, w7⟩
      obtain ⟨o, e, d⟩ := T.obj _ _ st5 b hb
      exact (I7.pin (b, o) (List.mem_append_right _ (List.mem_append_right _ (mem_pinsAt hb e)))).2.1
    cases f with
    | next => obtain ⟨σ7, H7, I7, n7⟩ := q7; exact again I7 n7
    | cont => obtain ⟨σ7, H7, I7, n7⟩ := q7; exact again I7 n7
    | brk => obtain ⟨σ7, H7, I7, q7⟩ := q7; exact ⟨σ7, H7, I7.unpinned, q7⟩
    | ret v => obtain ⟨x7, σ7, H7, I7, r7, q7⟩ := q7; exact ⟨x7, σ7, H7, I7.unpinned, r7, q7⟩
end

/-! ### the forms one uses -/
end L2

namespace L2
open PySem PySem.Spec PyProof.Rows

abbrev R2 := V → V → Hp → VK → Prop
/-- a two-place operation on values: f is binaryOp op, inplaceOp op or compareOp op -/
def OpR (X : Cx) (f : Value → Value → Sem Value) (r : R2) : Prop :=
  ∀ (pins : List (Addr × Obj)) (s : Shared) (σ : St) (H : Hp) (x y : V) (v u : Value) (Q : VK), Inv X pins σ H s → RelV x v → RelV y u → r x y H Q →
    wpAny (model X.prog X.w) X.A (f v u) (EP X pins σ Q) X.xe s
/-- a one-place operation -/
def UnR (X : Cx) (f : Value → Sem Value) (r : V → Hp → VK → Prop) : Prop :=
  ∀ (pins : List (Addr × Obj)) (s : Shared) (σ : St) (H : Hp) (x : V) (v : Value) (Q : VK), Inv X pins σ H s → RelV x v → r x H Q →
    wpAny (model X.prog X.w) X.A (f v) (EP X pins σ Q) X.xe s
/-- a call of a value that is known (a builtin, a type) with values -/
def CallR (X : Cx) (f : Value) (r : List V → Hp → VK → Prop) : Prop :=
  ∀ (pins : List (Addr × Obj)) (s : Shared) (σ : St) (H : Hp) (xs : List V) (us : List Value) (Q : VK), Inv X pins σ H s → Vals xs us → r xs H Q →
    wpAny (model X.prog X.w) X.A (call f us) (EP X pins σ Q) X.xe s
def tOp (r : R2) (ta tb : TE) : TE := fun σ H Q => ta σ H fun x H1 => tb σ H1 fun y H2 => r x y H2 Q
def tUn (r : V → Hp → VK → Prop) (ta : TE) : TE := fun σ H Q => ta σ H fun x H1 => r x H1 Q
/-- ints in, under C, and a value out -/
def rI (C : Int → Int → Prop) (g : Int → Int → V) : R2 := fun x y H Q => ∃ i j, x = .int i ∧ y = .int j ∧ C i j ∧ Q (g i j) H
def rI0 (g : Int → Int → V) : R2 := fun x y H Q => ∃ i j, x = .int i ∧ y = .int j ∧ Q (g i j) H
def rU (g : Int → V) : V → Hp → VK → Prop := fun x H Q => ∃ i, x = .int i ∧ Q (g i) H

section
variable {X : Cx} {a b c : Expr} {ta tb tc : TE} {pos : Pos}

theorem binT (ha : PE X a ta) (hb : PE X b tb) {pins : List (Addr × Obj)} {s : Shared} {σ : St} {H : Hp} {R : V → V → Hp → Prop} (I : Inv X pins σ H s)
    (h : ta σ H fun x H1 => tb σ H1 fun y H2 => R x y H2) {Q : Value → Shared → Prop} {f : Value → Value → Sem Value}
    (hf : ∀ v u s2 x y H2, Inv X pins σ H2 s2 → RelV x v → RelV y u → R x y H2 → wpAny (model X.prog X.w) X.A (f v u) Q X.xe s2) :
    wpAny (model X.prog X.w) X.A (eval a X.env) (fun v s₁ => wpAny (model X.prog X.w) X.A (eval b X.env) (fun u s₂ => wpAny (model X.prog X.w) X.A (f v u) Q X.xe s₂) X.xe s₁) X.xe s := by
  refine thn (ha pins s σ H _ I h) fun v s1 ⟨x, H1, I1, r1, q1⟩ => ?_
  refine thn (hb pins s1 σ H1 _ I1 q1) fun u s2 ⟨y, H2, I2, r2, q2⟩ => ?_
  exact hf v u s2 x y H2 I2 r1 r2 q2

theorem pe_op {op : Operator} {r : R2} (ho : OpR X (binaryOp op) r) (ha : PE X a ta) (hb : PE X b tb) : PE X (.BinOp a op b pos) (tOp r ta tb) := by
  intro pins s σ H Q I h
  exact wpAny_BinOp (binT ha hb I h fun v u s2 x y H2 I2 rx ry q => ho pins s2 σ H2 x y v u Q I2 rx ry q)
theorem pe_un {op : UnaryOp} {r : V → Hp → VK → Prop} (ho : UnR X (unaryOp op) r) (ha : PE X a ta) : PE X (.UnaryOp op a pos) (tUn r ta) := by
  intro pins s σ H Q I h
  exact UnaryOp_ (thn (ha pins s σ H _ I h) fun v s1 ⟨x, H1, I1, r1, q1⟩ => ho pins s1 σ H1 x v Q I1 r1 q1)
/-! ### ints -/
theorem opI {f : Value → Value → Sem Value} {C : Int → Int → Prop} {g : Int → Int → Int}
    (rule : ∀ (i j : Int) (t u : Tok) (s : Shared) (Q : Value → Shared → Prop) (E : Value → Shared → Prop), C i j → Q (.int (g i j) s.toks) { s with toks := s.toks + 1 } → wpAny (model X.prog X.w) X.A (f (.int i t) (.int j u)) Q E s) :
    OpR X f (rI C fun i j => .int (g i j)) := by
  intro pins s σ H x y v u Q I rx ry h
  obtain ⟨i, j, rfl, rfl, hc, q⟩ := h
  obtain ⟨t, rfl⟩ := rx
  obtain ⟨t', rfl⟩ := ry
  exact rule i j t t' s _ _ hc ⟨.int (g i j), H, I.tok _, ⟨_, rfl⟩, q⟩
theorem opI0 {f : Value → Value → Sem Value} {g : Int → Int → Int}
    (rule : ∀ (i j : Int) (t u : Tok) (s : Shared) (Q : Value → Shared → Prop) (E : Value → Shared → Prop), Q (.int (g i j) s.toks) { s with toks := s.toks + 1 } → wpAny (model X.prog X.w) X.A (f (.int i t) (.int j u)) Q E s) :
    OpR X f (rI0 fun i j => .int (g i j)) := by
  intro pins s σ H x y v u Q I rx ry h
  obtain ⟨i, j, rfl, rfl, q⟩ := h
  obtain ⟨t, rfl⟩ := rx
  obtain ⟨t', rfl⟩ := ry
  exact rule i j t t' s _ _ ⟨.int (g i j), H, I.tok _, ⟨_, rfl⟩, q⟩
theorem opB0 {f : Value → Value → Sem Value} {g : Int → Int → Bool}
    (rule : ∀ (i j : Int) (t u : Tok) (s : Shared) (Q : Value → Shared → Prop) (E : Value → Shared → Prop), Q (.bool (g i j)) s → wpAny (model X.prog X.w) X.A (f (.int i t) (.int j u)) Q E s) :
    OpR X f (rI0 fun i j => .bl (g i j)) := by
  intro pins s σ H x y v u Q I rx ry h
  obtain ⟨i, j, rfl, rfl, q⟩ := h
  obtain ⟨t, rfl⟩ := rx
  obtain ⟨t', rfl⟩ := ry
  exact rule i j t t' s _ _ ⟨.bl (g i j), H, I, rfl, q⟩

def CDiv (i j : Int) : Prop := 0 < j ∧ j < 1073741824
def CPow (i j : Int) : Prop := 0 ≤ j ∧ j ≤ 1000000 ∧ i.natAbs < 2 ^ 64
def CMul (i j : Int) : Prop := (-(2 ^ 64) < i ∧ i < 2 ^ 64) ∨ (-(2 ^ 64) < j ∧ j < 2 ^ 64)
theorem CMul.ok {i j : Int} (h : CMul i j) : IntMulOk i j := by
  rcases h with ⟨h1, h2⟩ | ⟨h1, h2⟩
  · exact .of_left (intBits_le_64 h1 h2)
  · exact .of_right (intBits_le_64 h1 h2)
theorem op_add : OpR X (binaryOp .Add) (rI0 fun i j => .int (i + j)) := opI0 fun _ _ _ _ _ _ _ q => add_int q
theorem op_sub : OpR X (binaryOp .Sub) (rI0 fun i j => .int (i - j)) := opI0 fun _ _ _ _ _ _ _ q => sub_int q
theorem op_mul : OpR X (binaryOp .Mult) (rI CMul fun i j => .int (i * j)) := opI fun _ _ _ _ _ _ _ hc q => mul_int q hc.ok
/-- // by a positive divisor -/
theorem op_fdiv : OpR X (binaryOp .FloorDiv) (rI CDiv fun i j => .int (i / j)) := opI fun i j _ _ _ _ _ hc q => by
  have h1 : (0 : Int) < j := hc.1
  have h2 : j < 1073741824 := hc.2
  exact floordiv_int (by omega) (by rw [Int.fdiv_eq_ediv_of_nonneg i (by omega)]; exact q) (.inl (PyProof.noPylong_small (by omega)))
/-- % by a positive divisor of any size -/
theorem op_mod : OpR X (binaryOp .Mod) (rI (fun _ j => 0 < j) fun i j => .int (i % j)) := opI fun i j _ _ _ _ _ hc q => by
  have h1 : (0 : Int) < j := hc
  exact mod_int' (by omega) (by rw [Int.fmod_eq_emod_of_nonneg i (by omega)]; exact q)
theorem op_pow : OpR X (binaryOp .Pow) (rI CPow fun i j => .int (i ^ j.toNat)) := opI fun _ _ _ _ _ _ _ hc q => pow_int_small hc.1 hc.2.1 hc.2.2 q
theorem unI {f : Value → Sem Value} {g : Int → Int}
    (rule : ∀ (i : Int) (t : Tok) (s : Shared) (Q : Value → Shared → Prop) (E : Value → Shared → Prop), Q (.int (g i) s.toks) { s with toks := s.toks + 1 } → wpAny (model X.prog X.w) X.A (f (.int i t)) Q E s) :
    UnR X f (rU fun i => .int (g i)) := by
  intro pins s σ H x v Q I rx h
  obtain ⟨i, rfl, q⟩ := h
  obtain ⟨t, rfl⟩ := rx
  exact rule i t s _ _ ⟨.int (g i), H, I.tok _, ⟨_, rfl⟩, q⟩
theorem un_neg : UnR X (unaryOp .USub) (rU fun i => .int (-i)) := unI fun _ _ _ _ _ q => neg_int q
/-! ### bools among ints: n += (a < b) -/
end

/-! ### comparisons -/
/-- the scalars that == tells apart as data does -/
def scal : V → V → Bool
  | .non, .non => true | .non, .int _ => true | .int _, .non => true | .non, .bl _ => true | .bl _, .non => true | .non, .str _ => true | .str _, .non => true
  | .int _, .int _ => true | .bl _, .bl _ => true | .str _, .str _ => true | .byt _, .byt _ => true
  | .int _, .str _ => true | .str _, .int _ => true | .bl _, .str _ => true | .str _, .bl _ => true
  | _, _ => false
def rEq : R2 := fun x y H Q => scal x y = true ∧ Q (.bl (decide (x = y))) H
def rNe : R2 := fun x y H Q => scal x y = true ∧ Q (.bl (!decide (x = y))) H

theorem dec_int {i j : Int} : decide (V.int i = V.int j) = (i == j) := by
  rw [Bool.eq_iff_iff]
  simp
theorem dec_bl {i j : Bool} : decide (V.bl i = V.bl j) = (i == j) := by
  rw [Bool.eq_iff_iff]
  simp
theorem dec_str {i j : Str} : decide (V.str i = V.str j) = (i == j) := by
  rw [Bool.eq_iff_iff]
  simp
theorem dec_byt {i j : Array UInt8} : decide (V.byt i = V.byt j) = (i.toList == j.toList) := by
  rw [Bool.eq_iff_iff]
  cases i
  cases j
  simp

section
variable {X : Cx} {a b c : Expr} {ta tb tc : TE} {pos : Pos}
theorem fin_bl {pins : List (Addr × Obj)} {σ : St} {H : Hp} {s : Shared} {Q : VK} {k k' : Bool} (I : Inv X pins σ H s) (q : Q (.bl k) H) (e : k = k') : EP X pins σ Q (.bool k') s := by
  subst e
  exact ⟨.bl k, H, I, rfl, q⟩
theorem op_eq : OpR X (compareOp .Eq) rEq := by
  intro pins s σ H x y v u Q I rx ry h
  obtain ⟨hs, q⟩ := h
  cases x with
  | non =>
    cases rx
    cases y with
    | non => cases ry; exact PySem.EqNone.eq_none_none (fin_bl I q (by simp))
    | bl j => cases ry; exact PySem.EqNone.eq_none_bool (fin_bl I q (by simp))
    | int j => obtain ⟨t', rfl⟩ := ry; exact PySem.EqNone.eq_none_int (fin_bl I q (by simp))
    | str j => obtain ⟨t', rfl⟩ := ry; exact PySem.EqNone.eq_none_str (fin_bl I q (by simp))
    | _ => exact absurd (show false = true from hs) Bool.false_ne_true
  | bl i =>
    cases rx
    cases y with
    | non => cases ry; exact PySem.EqNone.eq_bool_none (fin_bl I q (by simp))
    | bl j => cases ry; exact eq_bool (fin_bl I q dec_bl)
    | str j => obtain ⟨t', rfl⟩ := ry; exact PySem.EqMixed.eq_bool_str (fin_bl I q (by simp))
    | _ => exact absurd (show false = true from hs) Bool.false_ne_true
  | int i =>
    obtain ⟨t, rfl⟩ := rx
    cases y with
    | non => cases ry; exact PySem.EqNone.eq_int_none (fin_bl I q (by simp))
    | int j => obtain ⟨t', rfl⟩ := ry; exact eq_int (fin_bl I q dec_int)
    | str j => obtain ⟨t', rfl⟩ := ry; exact PySem.EqMixed.eq_int_str (fin_bl I q (by simp))
    | _ => exact absurd (show false = true from hs) Bool.false_ne_true
  | str i =>
    obtain ⟨t, rfl⟩ := rx
    cases y with
    | non => cases ry; exact PySem.EqNone.eq_str_none (fin_bl I q (by simp))
    | bl j => cases ry; exact PySem.EqMixed.eq_str_bool (fin_bl I q (by simp))
    | int j => obtain ⟨t', rfl⟩ := ry; exact PySem.EqMixed.eq_str_int (fin_bl I q (by simp))
    | str j => obtain ⟨t', rfl⟩ := ry; exact eq_str (fin_bl I q dec_str)
    | _ => exact absurd (show false = true from hs) Bool.false_ne_true
  | byt i =>
    obtain ⟨t, rfl⟩ := rx
    cases y with
    | byt j => obtain ⟨t', rfl⟩ := ry; exact PySem.W.eq_bytes (fin_bl I q dec_byt)
    | _ => exact absurd (show false = true from hs) Bool.false_ne_true
  | _ => cases y <;> exact absurd (show false = true from hs) Bool.false_ne_true
theorem op_ne : OpR X (compareOp .NotEq) rNe := by
  intro pins s σ H x y v u Q I rx ry h
  obtain ⟨hs, q⟩ := h
  cases x with
  | non =>
    cases rx
    cases y with
    | non => cases ry; exact PySem.EqNone.ne_none_none (fin_bl I q (by simp))
    | bl j => cases ry; exact PySem.EqNone.ne_none_bool (fin_bl I q (by simp))
    | int j => obtain ⟨t', rfl⟩ := ry; exact PySem.EqNone.ne_none_int (fin_bl I q (by simp))
    | str j => obtain ⟨t', rfl⟩ := ry; exact PySem.EqNone.ne_none_str (fin_bl I q (by simp))
    | _ => exact absurd (show false = true from hs) Bool.false_ne_true
  | bl i =>
    cases rx
    cases y with
    | non => cases ry; exact PySem.EqNone.ne_bool_none (fin_bl I q (by simp))
    | bl j => cases ry; exact ne_bool (fin_bl I q (congrArg not dec_bl))
    | str j => obtain ⟨t', rfl⟩ := ry; exact PySem.EqMixed.ne_bool_str (fin_bl I q (by simp))
    | _ => exact absurd (show false = true from hs) Bool.false_ne_true
  | int i =>
    obtain ⟨t, rfl⟩ := rx
    cases y with
    | non => cases ry; exact PySem.EqNone.ne_int_none (fin_bl I q (by simp))
    | int j => obtain ⟨t', rfl⟩ := ry; exact ne_int (fin_bl I q (congrArg not dec_int))
    | str j => obtain ⟨t', rfl⟩ := ry; exact PySem.EqMixed.ne_int_str (fin_bl I q (by simp))
    | _ => exact absurd (show false = true from hs) Bool.false_ne_true
  | str i =>
    obtain ⟨t, rfl⟩ := rx
    cases y with
    | non => cases ry; exact PySem.EqNone.ne_str_none (fin_bl I q (by simp))
    | bl j => cases ry; exact PySem.EqMixed.ne_str_bool (fin_bl I q (by simp))
    | int j => obtain ⟨t', rfl⟩ := ry; exact PySem.EqMixed.ne_str_int (fin_bl I q (by simp))
    | str j => obtain ⟨t', rfl⟩ := ry; exact ne_str (fin_bl I q (congrArg not dec_str))
    | _ => exact absurd (show false = true from hs) Bool.false_ne_true
  | byt i =>
    obtain ⟨t, rfl⟩ := rx
    cases y with
    | byt j => obtain ⟨t', rfl⟩ := ry; exact PySem.W.ne_bytes (fin_bl I q (congrArg not dec_byt))
    | _ => exact absurd (show false = true from hs) Bool.false_ne_true
  | _ => cases y <;> exact absurd (show false = true from hs) Bool.false_ne_true

theorem op_lt : OpR X (compareOp .Lt) (rI0 fun i j => .bl (decide (i < j))) := opB0 fun _ _ _ _ _ _ _ q => lt_int q
theorem op_gt : OpR X (compareOp .Gt) (rI0 fun i j => .bl (decide (j < i))) := opB0 fun _ _ _ _ _ _ _ q => gt_int q
theorem op_ge : OpR X (compareOp .GtE) (rI0 fun i j => .bl (decide (j ≤ i))) := opB0 fun _ _ _ _ _ _ _ q => ge_int q
theorem op_lt_str : OpR X (compareOp .Lt) (fun x y H Q => ∃ i j, x = .str i ∧ y = .str j ∧ Q (.bl (decide (i.cps.toList < j.cps.toList))) H) := by
  intro pins s σ H x y v u Q I rx ry h
  obtain ⟨i, j, rfl, rfl, q⟩ := h
  obtain ⟨t, rfl⟩ := rx
  obtain ⟨t', rfl⟩ := ry
  exact lt_str (fin_bl I q rfl)
/-- the one string within the other -/
theorem op_in_str : OpR X (compareOp .In) (fun x y H Q => ∃ i j, x = .str i ∧ y = .str j ∧ Q (.bl (!(Builtin.Str.occurrences j i 0 j.length 1).isEmpty)) H) := by
  intro pins s σ H x y v u Q I rx ry h
  obtain ⟨i, j, rfl, rfl, q⟩ := h
  obtain ⟨t, rfl⟩ := rx
  obtain ⟨t', rfl⟩ := ry
  exact in_str (fin_bl I q rfl)

/-- two rules for one operation: by cases -/
theorem OpR.or {f : Value → Value → Sem Value} {r r' : R2} (h : OpR X f r) (h' : OpR X f r') : OpR X f (fun x y H Q => r x y H Q ∨ r' x y H Q) := by
  intro pins s σ H x y v u Q I rx ry q
  rcases q with q | q
  · exact h pins s σ H x y v u Q I rx ry q
  · exact h' pins s σ H x y v u Q I rx ry q

theorem nomark (b : Expr) {op : CmpOp} (h : op ≠ .In := by decide) (h2 : op ≠ .NotIn := by decide) : behindInMarks op b = false := by
  have e1 : (op == CmpOp.In) = false := by cases op <;> first | rfl | exact absurd rfl h
  have e2 : (op == CmpOp.NotIn) = false := by cases op <;> first | rfl | exact absurd rfl h2
  cases b <;> simp [behindInMarks, e1, e2]
/-- a comparison as a value; hm: nomark b, or (for in, not in) by with_unfolding_all rfl -/
theorem pe_cmpR {op : CmpOp} {r : R2} (ho : OpR X (compareOp op) r) (ha : PE X a ta) (hb : PE X b tb) (hm : behindInMarks op b = false) : PE X (.Compare a [op] [b] pos) (tOp r ta tb) := by
  intro pins s σ H Q I h
  exact wpAny_Compare1 (binT ha hb I h fun v u s2 x y H2 I2 rx ry q => ho pins s2 σ H2 x y v u Q I2 rx ry q) hm
/-- a reading of a value as a test -/
def tTest (t : TE) : TT := fun σ H Q => t σ H fun x H' => ∃ k, x = .bl k ∧ Q k H'
theorem pt_cmpR {op : CmpOp} {r : R2} (ho : OpR X (compareOp op) r) (ha : PE X a ta) (hb : PE X b tb) (hm : behindInMarks op b = false) : PT X (.Compare a [op] [b] pos) (tTest (tOp r ta tb)) := by
  intro pins s σ H Q I h
  refine wpAny_isTrue_Compare1 (thn (ha pins s σ H _ I h) fun v s1 ⟨x, H1, I1, r1, q1⟩ => thn (hb pins s1 σ H1 _ I1 q1) fun u s2 ⟨y, H2, I2, r2, q2⟩ =>
    thn (ho pins s2 σ H2 x y v u _ I2 r1 r2 q2) fun c s3 ⟨z, H3, I3, r3, k, e, q3⟩ => ?_) hm
  subst e
  cases r3
  exact wpAny_truthy_bool ⟨H3, I3, q3⟩
/-! ### truth -/
theorem line63 : (sizeLine : Nat) < 2 ^ 63 := by rw [sizeLine_eq]; decide
/-! ### strs and bytes -/
theorem op_add_str : OpR X (binaryOp .Add) (fun x y H Q => ∃ i j, x = .str i ∧ y = .str j ∧ i.length + j.length ≤ sizeLine ∧ Q (.str (i ++ j)) H) := by
  intro pins s σ H x y v u Q I rx ry h
  obtain ⟨i, j, rfl, rfl, hz, q⟩ := h
  obtain ⟨t, rfl⟩ := rx
  obtain ⟨t', rfl⟩ := ry
  exact add_str (fun t' tk => ⟨.str (i ++ j), H, I.tok _, ⟨_, rfl⟩, q⟩) hz
/-! ### scalar builtins, by CallR -/
theorem vals1 {x : V} {us : List Value} (r : Vals [x] us) : ∃ u, us = [u] ∧ RelV x u := by
  cases r with
  | cons r1 r2 => cases r2; exact ⟨_, rfl, r1⟩
theorem vals2 {x y : V} {us : List Value} (r : Vals [x, y] us) : ∃ u w', us = [u, w'] ∧ RelV x u ∧ RelV y w' := by
  cases r with
  | cons r1 r2 =>
    cases r2 with
    | cons r3 r4 => cases r4; exact ⟨_, _, rfl, r1, r3⟩
theorem call_min2 (hc : X.calm = true) : CallR X (.builtin "min") (fun xs H Q => ∃ i j, xs = [.int i, .int j] ∧ Q (.int (if j < i then j else i)) H) := by
  intro pins s σ H xs us Q I r h
  obtain ⟨i, j, rfl, q⟩ := h
  obtain ⟨u, w', rfl, ⟨t, rfl⟩, ⟨t', rfl⟩⟩ := vals2 r
  refine min_two_ints (I.ok.hd hc) fun h' tk k => ⟨_, H, I.kept k, ?_, q⟩
  by_cases hj : j < i
  · rw [if_pos hj, if_pos hj]; exact ⟨_, rfl⟩
  · rw [if_neg hj, if_neg hj]; exact ⟨_, rfl⟩
theorem call_str_int : CallR X (.type "str") (fun xs H Q => ∃ i, xs = [.int i] ∧ i.natAbs.log2 < 1920 ∧ Q (.str (toString i)) H) := by
  intro pins s σ H xs us Q I r h
  obtain ⟨i, rfl, hz, q⟩ := h
  obtain ⟨u, rfl, t, rfl⟩ := vals1 r
  exact PySem.P.str_of_int hz ⟨.str _, H, I.tok _, ⟨_, rfl⟩, q⟩
end
end L2

namespace L2
open PySem PySem.Spec PyProof.Rows

/-! ### an instance, its attributes a map -/
structure ObjM (h : Heap) (x dx C : Addr) (mA : Str → Option Value) : Prop where
  obj : h.get? x = some (PySem.W.instObj C dx)
  ns : h.Ns1 dx mA
  ne : dx ≠ x

theorem lookIn_ns {h : Heap} {dx : Addr} {mA : Str → Option Value} (n : h.Ns1 dx mA) : ∃ od, h.get? dx = some od ∧ ∀ name, PySem.W.lookIn name od = some (mA name) := by
  obtain ⟨o, es, ep, ho, hd, hk, _, hm⟩ := n
  refine ⟨o, ho, fun name => ?_⟩
  have e := hm name
  unfold nsFind findBy at e
  rw [← Array.find?_toList] at e
  unfold PySem.W.lookIn
  rw [hd]
  dsimp only
  split
  · rename_i y q
    rw [q] at e
    exact congrArg some e
  · rename_i q
    rw [q] at e
    have a : es.toList.any (·.refKey) = false := by
      rw [List.any_eq_false]
      intro y hy
      obtain ⟨z, t, hkey⟩ := hk y (Array.mem_toList_iff.mp hy)
      simp [DictEntry.refKey, hkey]
    have a' : ¬ es.toList.any (·.refKey) = true := by rw [a]; exact Bool.false_ne_true
    rw [if_neg a']
    exact congrArg some e

theorem ObjM.look {h : Heap} {x dx C : Addr} {mA : Str → Option Value} (I : ObjM h x dx C mA) : ∃ od, PySem.W.InstAt h x (PySem.W.instObj C dx) C (some od) ∧ ∀ name, PySem.W.lookIn name od = some (mA name) :=
  let ⟨od, ho, hl⟩ := lookIn_ns I.ns
  ⟨od, ⟨I.obj, rfl, rfl, ho⟩, hl⟩

section
variable {prog : Program} {w : World} {A : Around} {E : Value → Shared → Prop} {s : Shared} {K : PySem.W.Frag} {x dx C f : Addr} {mA : Str → Option Value} {name : Str} {v : Value}

end

/-! ### the attributes as a list of pairs -/
section
variable {P : Program} {w : World} {H H' : Hp} {h h' : Heap} {a C dx : Addr} {fs fs' : List (Str × V)}
theorem ins_get (hok : HOk P w H h) (e : H a = some (.ins C dx fs)) : ∃ mA, ObjM h a dx C mA ∧ (∀ f, RelO (fs.lookup f) (mA f)) ∧ PySem.Within mA (fs.map (·.1)) ∧ fs.length ≤ 1000 ∧ H dx = some (.own a) := by
  obtain ⟨d, z, ne, ob, mA, n, r, q⟩ := (show ObjOk P w H h a (.ins C dx fs) from hok a _ e)
  exact ⟨mA, ⟨ob, n, ne⟩, r, q, z, d⟩
end

/-! ### what of the text a class must have -/
structure Cls (K : PySem.W.Frag) (C : Addr) : Prop where
  pg : PySem.W.plainGet K C Str.empty = true
  hd : PySem.W.hasDictIn K C = true
  po : PySem.W.plainOver K C = true
  sa : PySem.W.findIn K (.ref C) "__setattr__" = some (some (.builtin "object.__setattr__"))
theorem Cls.get {K : PySem.W.Frag} {C : Addr} (c : Cls K C) (f : Str) : PySem.W.plainGet K C f = true := c.pg
/-- a constant of the class -/
structure Con (K : PySem.W.Frag) (C : Addr) (f : Str) (v : V) (u : Value) : Prop where
  at_ : PySem.W.findIn K (.ref C) f = some (some u)
  rel : RelV v u
  get : PySem.W.specialIn K u "__get__" = some none
  cp : PySem.W.copiedNames.contains f = false
/-- a method: a plain def of the class or of one above it -/
structure Meth (K : PySem.W.Frag) (C : Addr) (m : Str) (f : Addr) : Prop where
  at_ : PySem.W.findIn K (.ref C) m = some (some (.ref f))
  fn : PySem.W.isFn K (.ref f) = true
  kp : PySem.W.keepIn K (.ref f) = true

section
variable {X : Cx} {pins : List (Addr × Obj)} {σ : St} {H : Hp} {s : Shared} {a C dx : Addr} {fs : List (Str × V)} {f : Str} {v : V} {A : Around} {E : Value → Shared → Prop}

end

/-! ### readings and rules -/
section
variable {X : Cx} {o e value : Expr} {f : Str} {pos pos' tpos : Pos} {ta tv : TE}
end

/-! ### isinstance -/
section
variable {X : Cx} {pins : List (Addr × Obj)} {σ : St} {H : Hp} {s : Shared} {A : Around} {E : Value → Shared → Prop} {Q : Value → Shared → Prop} {c : Value} {b : Bool}
/-- the type of a value, as the fragment's deciders take it; for an instance its class -/
inductive TyOf (K : PySem.W.Frag) (H : Hp) : V → Value → Prop where
  | non : TyOf K H .non (.type "NoneType")
  | bl (x : Bool) : TyOf K H (.bl x) (.type "bool")
  | int (i : Int) : TyOf K H (.int i) (.type "int")
  | str (x : Str) : TyOf K H (.str x) (.type "str")
  | flt (x : UInt64) : TyOf K H (.flt x) (.type "float")
  | lst {a : Addr} {xs : List V} (e : H a = some (.lst xs)) : TyOf K H (.ref a) (.type "list")
  | frz {a : Addr} {o : Obj} {xs : List V} (e : H a = some (.frz o (.lst xs))) : TyOf K H (.ref a) (.type "list")
  | tup {a : Addr} {xs : List V} (e : H a = some (.tup xs)) : TyOf K H (.ref a) (.type "tuple")
  | dK {a : Addr} {kvs : List (Key × V)} (e : H a = some (.dK kvs)) : TyOf K H (.ref a) (.type "dict")
  | dT {a : Addr} {kvs : List (List Key × V)} (e : H a = some (.dT kvs)) : TyOf K H (.ref a) (.type "dict")
  | ins {a C dx : Addr} {fs : List (Str × V)} (e : H a = some (.ins C dx fs)) (cl : Cls K C) (ha : PySem.W.findIn K (.ref C) "__class__" = some (some (.builtin "object.__class__")))
      (hn : PySem.W.specialIn K (.builtin "object.__class__") "__get__" = some (some (.builtin "getset_descriptor.__get__"))) (htk : PySem.W.takesIn K (.builtin "object.__class__") = some true)
      (hm : PySem.W.mroIn K C (.type "object") = some true) : TyOf K H (.ref a) (.ref C)
/-- isinstance(x, c) for one class c, a built-in or an own one: kitOne's answer -/
theorem isinst_ok {x : V} {u t : Value} (I : Inv X pins σ H s) (rx : RelV x u) (ty : TyOf X.K H x t) (e : PySem.W.kitOne X.K t c = some b) (h : ∀ tk, Q (.bool b) { s with toks := tk }) :
    wpAny (model X.prog X.w) A (call (.builtin "isinstance") [u, c]) Q E s := by
  cases ty with
  | non => cases (show u = Value.none from rx); exact PySem.W.kia_one PySem.W.kitx_none I.kIn True.intro e (fun z => nomatch z) h
  | bl y => cases (show u = Value.bool y from rx); exact PySem.W.kia_one PySem.W.kitx_bool I.kIn True.intro e (fun z => nomatch z) h
  | int i => obtain ⟨t, q⟩ := (show ∃ t, u = Value.int i t from rx); cases q; exact PySem.W.kia_one PySem.W.kitx_int I.kIn True.intro e (fun z => nomatch z) h
  | str y => obtain ⟨t, q⟩ := (show ∃ t, u = Value.str y t from rx); cases q; exact PySem.W.kia_one PySem.W.kitx_str I.kIn True.intro e (fun z => nomatch z) h
  | flt y => obtain ⟨t, q⟩ := (show ∃ t, u = Value.float y t from rx); cases q; exact PySem.W.kia_one PySem.W.kitx_float I.kIn True.intro e (fun z => nomatch z) h
  | @lst a xs ea =>
    cases (show u = Value.ref a from rx)
    obtain ⟨_, _, n, _, h1⟩ := (show ObjOk X.prog X.w H s.heap a (.lst xs) from I.hok a _ ea)
    exact PySem.W.kia_one PySem.W.kitx_list I.kIn ⟨_, h1, rfl⟩ e (fun z => nomatch z) h
  | @frz a ob xs ea =>
    cases (show u = Value.ref a from rx)
    obtain ⟨_, _, _, n, _, h1⟩ := (show ObjOk X.prog X.w H s.heap a (.frz ob (.lst xs)) from I.hok a _ ea)
    exact PySem.W.kia_one PySem.W.kitx_list I.kIn ⟨_, h1, rfl⟩ e (fun z => nomatch z) h
  | @tup a xs ea =>
    cases (show u = Value.ref a from rx)
    obtain ⟨_, _, _, p⟩ := (show ObjOk X.prog X.w H s.heap a (.tup xs) from I.hok a _ ea)
    obtain ⟨o, h1, h2, _⟩ := p
    exact PySem.W.kia_one PySem.W.kitx_tuple I.kIn ⟨o, h1, h2⟩ e (fun z => nomatch z) h
  | @dK a kvs ea =>
    cases (show u = Value.ref a from rx)
    obtain ⟨_, _, vs, _, p⟩ := (show ObjOk X.prog X.w H s.heap a (.dK kvs) from I.hok a _ ea)
    obtain ⟨o, es, ep, h1, h2, _⟩ := p
    exact PySem.W.kia_one PySem.W.kitx_dict I.kIn ⟨o, h1, h2.1⟩ e (fun z => nomatch z) h
  | @dT a kvs ea =>
    cases (show u = Value.ref a from rx)
    obtain ⟨_, _, xs, _, o, es, ep, h1, h2, _⟩ := (show ObjOk X.prog X.w H s.heap a (.dT kvs) from I.hok a _ ea)
    exact PySem.W.kia_one PySem.W.kitx_dict I.kIn ⟨o, h1, h2.1⟩ e (fun z => nomatch z) h
  | @ins a C dx fs ea cl ha hn htk hm =>
    cases (show u = Value.ref a from rx)
    obtain ⟨mA, O, _⟩ := ins_get I.hok ea
    obtain ⟨od, J, _⟩ := O.look
    exact PySem.W.kia_one (PySem.W.kitx_own (cl.get _) cl.hd ha hn htk hm) I.kIn J e (fun z => nomatch z) h
end
end L2

namespace L2
open PySem PySem.Spec PyProof.Rows

/-! ### room -/
structure Room (cm : Bool) (k : Nat) (A : Around) : Prop where
  hd : cm = true → A.handled = none
  dp : A.depth + 3 * k + 5 < recursionLimit
  un : A.units + 16 * k + 200 < cLine
theorem Room.mono {cm : Bool} {j k : Nat} {A : Around} (r : Room cm k A) (h : j ≤ k) : Room cm j A := ⟨r.hd, by have := r.dp; omega, by have := r.un; omega⟩
theorem Room.deeper {cm : Bool} {k : Nat} {A : Around} (r : Room cm (k + 1) A) (env : Env) : Room cm k (A.deeper env) :=
  ⟨r.hd, by have := r.dp; show A.depth + 1 + 3 * k + 5 < _; omega, by have := r.un; show A.units + 3 + 16 * k + 200 < _; omega⟩
theorem Room.in1 {cm : Bool} {k : Nat} {A : Around} (r : Room cm (k + 1) A) : Room cm k A.in1 :=
  ⟨r.hd, by have := r.dp; show A.depth + 3 * k + 5 < _; omega, by have := r.un; show A.units + 1 + 16 * k + 200 < _; omega⟩
theorem Room.depth {cm : Bool} {k : Nat} {A : Around} (r : Room cm k A) : A.depth < recursionLimit := by have := r.dp; omega
theorem Room.units {cm : Bool} {k : Nat} {A : Around} (r : Room cm k A) : A.units + 64 < cLine := by have := r.un; omega
/-! ### argument lists and displays -/
def tNil : TA := fun _ H Q => Q [] H
def tCons (ta : TE) (tr : TA) : TA := fun σ H Q => ta σ H fun x H1 => tr σ H1 fun xs H2 => Q (x :: xs) H2
section
variable {X : Cx} {e : Expr} {es : List Expr} {te : TE} {t : TA} {pos : Pos}
theorem pa_nil : PA X [] tNil := fun _ _ _ _ H Q I h => Calls.spliced_nil ⟨[], H, I, .nil, h⟩
theorem pa_cons (ha : PE X e te) (hr : PA X es t) (hs : starEach (e :: es) X.env = (false, eval e X.env) :: starEach es X.env := by rfl) : PA X (e :: es) (tCons te t) := by
  intro pos pins s σ H Q I h
  rw [hs]
  show wpAny _ _ (spliced ((false, eval e X.env) :: backTo pos (starEach es X.env))) _ _ s
  refine Calls.spliced_cons (thn (ha pins s σ H _ I h) fun u s1 ⟨x, H1, I1, r1, q1⟩ => ?_)
  exact thn (hr pos pins s1 σ H1 _ I1 q1) fun us s2 ⟨xs, H2, I2, r2, q2⟩ => ⟨x :: xs, H2, I2, .cons r1 r2, q2⟩

/-- a tuple, a list of written items -/
def tTup (t : TA) : TE := fun σ H Q => t σ H fun xs H1 => xs.length ≤ sizeLine ∧ ∀ p, H1 p = none → Q (.ref p) (upd H1 p (.tup xs))
def tLst (t : TA) : TE := fun σ H Q => t σ H fun xs H1 => xs.length ≤ sizeLine ∧ ∀ p, H1 p = none → Q (.ref p) (upd H1 p (.lst xs))
theorem pe_tup {x1} (h : PA X es t) : PE X (.Tuple es x1 pos) (tTup t) := by
  intro pins s σ H Q I hq
  refine wpAny_Tuple_spliced (thn (h pos pins s σ H _ I hq) fun us s1 ⟨xs, H1, I1, r, z, q⟩ => ⟨by rw [← r.length]; exact z, ?_⟩)
  have hf : H1 s1.heap.objs.size = none := I1.hok.fresh (Nat.le_refl _)
  refine ⟨.ref s1.heap.objs.size, upd H1 s1.heap.objs.size (.tup xs), I1.laid (t' := s1.toks) (fun b u e => Heap.get?_push_of_some _ e) (Nat.le_refl _) ?_, rfl, q _ hf⟩
  exact ⟨z, us, r, ⟨_, Heap.get?_push_size _ rfl, rfl, _, rfl⟩⟩
theorem pe_lst (h : PA X es t) : PE X (.List es pos) (tLst t) := by
  intro pins s σ H Q I hq
  refine wpAny_List_spliced (thn (h pos pins s σ H _ I hq) fun us s1 ⟨xs, H1, I1, r, z, q⟩ => ⟨by rw [← r.length]; exact z, ?_⟩)
  have hf : H1 s1.heap.objs.size = none := I1.hok.fresh (Nat.le_refl _)
  refine ⟨.ref s1.heap.objs.size, upd H1 s1.heap.objs.size (.lst xs), I1.laid (t' := s1.toks) (fun b u e => Heap.get?_push_of_some _ e) (Nat.le_refl _) ?_, rfl, q _ hf⟩
  exact ⟨z, us, 0, r, Heap.get?_push_size _ rfl⟩
end

/-! ### what a def promises -/
/-- a def's promise: the bound arguments in the parameters' order, the heap, the wanted end, the wanted exception -/
abbrev Sp := List V → Hp → VK → XK → Prop
/-- how an exception lies behind a call (file 08 gives it): the callers' frames, abstract heap and state ahead of the call, the wish, the exception, the state -/
abbrev CXT := List Env → Hp → Shared → XK → Value → Shared → Prop

/-- the state at a call -/
structure Env0 (P : Program) (w : World) (K : PySem.W.Frag) (mg : Str → Option Value) (base : Heap) (A : Around) (outer : List Env) (s : Shared) (H : Hp) : Prop where
  frames : A.frames = some outer
  mod : Mod K mg base
  bs : ∀ b o, base.get? b = some o → s.heap.get? b = some o ∧ H b = none
  bsz : base.objs.size ≤ s.heap.objs.size
  funs : s.heap.FunFrames base outer
  frf : ∀ b ∈ frs outer, H b = none
  hok : HOk P w H s.heap
  bare : AllBare s.gens
/-- a call's end -/
def CE (outer : List Env) (P : Program) (w : World) (H : Hp) (s : Shared) (Q : VK) (u : Value) (s' : Shared) : Prop :=
  ∃ v H', s'.os = s.os ∧ AllBare s'.gens ∧ Un (frs outer) [] H H' s.heap s'.heap ∧ HOk P w H' s'.heap ∧ RelV v u ∧ Q v H'
def CR (CX : CXT) (outer : List Env) (P : Program) (w : World) (H : Hp) (s : Shared) (Q : VK) (E : XK) (r : Result) (s' : Shared) : Prop :=
  match r with
  | .ok (.ret u) => CE outer P w H s Q u s'
  | .ok _ => False
  | .error e => CX outer H s E e s'
structure FnOk (P : Program) (w : World) (K : PySem.W.Frag) (mg : Str → Option Value) (base : Heap) (CX : CXT) (cm : Bool) (k : Nat) (f : Addr) (fd : FuncData) (ps : List Str) (sp : Sp) : Prop where
  len : ∀ vs H Q E, sp vs H Q E → vs.length = ps.length
  run : ∀ (A : Around) (outer : List Env) (s : Shared) (H : Hp) (args : Args) (us : List Value) (vs : List V) (Q : VK) (E : XK), Room cm k A → Env0 P w K mg base A outer s H → BindsTo s fd args (ps.zip us) → Vals vs us → sp vs H Q E →
    codeAny (model P w) A (.call (.ref f) args) (CR CX outer P w H s Q E) s
theorem FnOk.mono {cm : Bool} {P : Program} {w : World} {K : PySem.W.Frag} {mg : Str → Option Value} {base : Heap} {CX : CXT} {j k : Nat} {f : Addr} {fd : FuncData} {ps : List Str} {sp : Sp} (F : FnOk P w K mg base CX cm j f fd ps sp) (h : j ≤ k) :
    FnOk P w K mg base CX cm k f fd ps sp := ⟨F.len, fun A outer s H args us vs Q E hr => F.run A outer s H args us vs Q E (hr.mono h)⟩
/-- a weaker promise -/
theorem FnOk.imp {cm : Bool} {P : Program} {w : World} {K : PySem.W.Frag} {mg : Str → Option Value} {base : Heap} {CX : CXT} {k : Nat} {f : Addr} {fd : FuncData} {ps : List Str} {sp sp' : Sp} (F : FnOk P w K mg base CX cm k f fd ps sp)
    (h : ∀ vs H Q E, sp' vs H Q E → sp vs H Q E) : FnOk P w K mg base CX cm k f fd ps sp' :=
  ⟨fun vs H Q E q => F.len vs H Q E (h _ _ _ _ q), fun A outer s H args us vs Q E hr he hb hv hs => F.run A outer s H args us vs Q E hr he hb hv (h _ _ _ _ hs)⟩

theorem Env0.in1 {P : Program} {w : World} {K : PySem.W.Frag} {mg : Str → Option Value} {base : Heap} {A : Around} {outer : List Env} {s : Shared} {H : Hp} (e : Env0 P w K mg base A outer s H) :
    Env0 P w K mg base A.in1 outer s H := ⟨e.frames, e.mod, e.bs, e.bsz, e.funs, e.frf, e.hok, e.bare⟩

section
variable {X : Cx} {pins : List (Addr × Obj)} {σ : St} {H : Hp} {s s' : Shared}
/-- from a body: what a callee wants -/
theorem Inv.env0 (I : Inv X pins σ H s) : Env0 X.prog X.w X.K X.mg X.base X.A X.stack s H :=
  ⟨I.ok.frames, I.ok.mod, I.bs, Nat.le_trans I.ok.bsz I.sz, I.stack, I.stkFree, I.hok, I.bare⟩
/-- behind a call -/
theorem Inv.after {Q : VK} {u : Value} (I : Inv X pins σ H s) (h : CE X.stack X.prog X.w H s Q u s') : EP X pins σ Q u s' := by
  obtain ⟨v, H', os, bare, un, hok, r, q⟩ := h
  obtain ⟨hh, g, d, t, os'⟩ := s'
  obtain rfl : os' = s.os := os
  exact ⟨v, H', I.call (h' := hh) (g' := g) (d' := d) (t' := t) (ch := []) un hok bare (fun b z => absurd z (by simp)), r, q⟩
end

/-! ### calls -/
/-- f(..): the written arguments, then the defaults dvs; E: what is wanted of an exception -/
def tCall (sp : Sp) (dvs : List V) (E : XK) (t : TA) : TE := fun σ H Q => t σ H fun vs H1 => sp (vs ++ dvs) H1 Q E
/-- how the parameters are bound: us the positional arguments, kw the keywords' values by name, ds the defaults that fill up -/
def Binds (K : PySem.W.Frag) (fd : FuncData) (ps : List Str) (ds : List Value) : Prop :=
  ∀ (s : Shared) (us : List Value), K.In s.heap → (us ++ ds).length = ps.length → BindsTo s fd ⟨us, []⟩ (ps.zip (us ++ ds))
/-- every parameter is given -/
theorem Binds.all {K : PySem.W.Frag} {fd : FuncData} {ps : List Str} (h : ∀ us : List Value, us.length = ps.length → bindArgs fd ⟨us, []⟩ = pure (ps.zip us)) : Binds K fd ps [] := fun s us _ hl => by
  rw [List.append_nil] at hl ⊢
  exact .of_eq (h us hl)

/-- an exception of a callee reaches what this body wants of exceptions -/
def Passes (CX : CXT) (X : Cx) (E : XK) : Prop := ∀ (pins : List (Addr × Obj)) (σ : St) (H : Hp) (s : Shared) (e : Value) (s' : Shared), Inv X pins σ H s → CX X.stack H s E e s' → X.xe e s'

section
variable {X : Cx} {CX : CXT} {cm : Bool} {k : Nat} {f C : Addr} {fd : FuncData} {ps : List Str} {sp : Sp} {dvs : List V} {ds : List Value} {E : XK} {x m : Str} {p pos apos : Pos} {e o : Expr} {es : List Expr} {ta : TE} {t : TA}

/-- the callee runs -/
theorem run_fn {pins : List (Addr × Obj)} {σ : St} {H : Hp} {s : Shared} {Q : VK} {us : List Value} {vs : List V} (F : FnOk X.prog X.w X.K X.mg X.base CX cm k f fd ps sp) (hr : Room cm k X.A) (hb : Binds X.K fd ps ds) (hd : Vals dvs ds) (hx : Passes CX X E)
    (I : Inv X pins σ H s) (r : Vals vs us) (h : sp (vs ++ dvs) H Q E) : wpAny (model X.prog X.w) X.A (call (.ref f) us) (EP X pins σ Q) X.xe s := by
  have r2 : Vals (vs ++ dvs) (us ++ ds) := r.append hd
  have hl : (us ++ ds).length = ps.length := by rw [← r2.length]; exact F.len _ _ _ _ h
  refine wpAny_call (codeAny_mono (F.run X.A X.stack s H ⟨us, []⟩ (us ++ ds) (vs ++ dvs) Q E hr I.env0 (hb s us I.kIn hl) r2 h) fun r s' hq => ?_)
  cases r with
  | error e => exact hx pins σ H s e s' I hq
  | ok fl =>
    cases fl with
    | ret u => exact I.after hq
    | next => exact False.elim hq
    | brk => exact False.elim hq
    | cont => exact False.elim hq

theorem pe_call (F : FnOk X.prog X.w X.K X.mg X.base CX cm k f fd ps sp) (hr : Room cm k X.A) (hg : Gl X x) (hm : X.mg x = some (.ref f)) (hk : PySem.W.keepIn X.K (.ref f) = true) (hb : Binds X.K fd ps ds) (hd : Vals dvs ds) (hx : Passes CX X E)
    (ha : PA X (e :: es) t) (hdb : (x == ("__debug__" : Str)) = false := by decide) (he : starEach (e :: es) X.env = (false, eval e X.env) :: starEach es X.env := by rfl) (hpl : (backTo pos (starEach es X.env)).any (·.1) = false := by rfl) :
    PE X (.Call (.Name x p) (e :: es) [] pos) (tCall sp dvs E t) := by
  intro pins s σ H Q I h
  refine wpAny_Call_Name_kw (ld_glob I hg hm ?_ hdb)
  refine PySem.W.callWith_K (h₀ := X.base) I.ok.mod.kin hk (thn (ha pos pins s σ H _ I h) fun us s1 ⟨vs, H1, I1, r, q⟩ => ⟨I1.kIn, ?_⟩) he hpl
  exact run_fn F hr hb hd hx I1 r q
/-- what a class must have to be made -/
structure Mk (K : PySem.W.Frag) (C f : Addr) : Prop where
  makes : PySem.W.makesIn K C = true
  init : PySem.W.findIn K (.ref C) "__init__" = some (some (.ref f))
  fn : PySem.W.isFn K (.ref f) = true
  kp : PySem.W.keepIn K (.ref C) = true

end

/-! ### keywords -/
section
variable {X : Cx} {CX : CXT} {cm : Bool} {k : Nat} {f C : Addr} {fd : FuncData} {ps ks : List Str} {sp : Sp} {E : XK} {x m : Str} {p pos apos kpos : Pos} {e o : Expr} {es : List Expr} {kws : List Keyword} {te ta : TE} {t tk : TA} {nm : Option Str}
/-- how a call with keywords binds: g puts the positional values us and the keywords' values ws (names ks) in the parameters' order, defaults among them -/
structure KBinds (K : PySem.W.Frag) (fd : FuncData) (ps ks : List Str) (g : List Value → List Value → List Value) (gV : List V → List V → List V) : Prop where
  to : ∀ (s : Shared) (us ws : List Value), K.In s.heap → (g us ws).length = ps.length → BindsTo s fd ⟨us, ks.zip ws⟩ (ps.zip (g us ws))
  rel : ∀ {vs : List V} {us : List Value} {zs : List V} {ws : List Value}, Vals vs us → Vals zs ws → Vals (gV vs zs) (g us ws)
variable {g : List Value → List Value → List Value} {gV : List V → List V → List V}
end

/-! ### a def's body keeps its promise -/
/-- names: the parameters first -/
structure FnScope (N P : List Str) (sc : Scope) : Prop where
  kind : sc.kind = .function
  co : sc.isCoroutine = false
  gen : sc.isGenerator = false
  nd : N.Nodup
  pre : N.take P.length = P
  par : ∀ x ∈ P, sc.names.lookup x = some .local ∨ sc.names.lookup x = some .cell
  nofree : ∀ y ∈ sc.names, y.2 ≠ .free

theorem bindL_out {kindOf : Str → Option NameKind} {x : Str} : ∀ {binds : List (Str × Value)} {m : Str → Option Value}, (∀ v, (x, v) ∉ binds) → bindL kindOf binds m x = m x
  | [], _, _ => rfl
  | (n, v) :: r, m, h => by
    unfold bindL
    rw [bindL_out fun w hw => h w (List.mem_cons_of_mem _ hw)]
    split
    · have : x ≠ n := by rintro rfl; exact h v List.mem_cons_self
      simp [this]
    · rfl
theorem bindC_out {kindOf : Str → Option NameKind} {x : Str} : ∀ {binds : List (Str × Value)} {m : Str → Option Value}, (∀ v, (x, v) ∉ binds) → bindC kindOf binds m x = m x
  | [], _, _ => rfl
  | (n, v) :: r, m, h => by
    unfold bindC
    rw [bindC_out fun w hw => h w (List.mem_cons_of_mem _ hw)]
    split
    · rfl
    · have : x ≠ n := by rintro rfl; exact h v List.mem_cons_self
      simp [this]
theorem bindL_get {kindOf : Str → Option NameKind} {x : Str} {v : Value} : ∀ {P : List Str} {vs : List Value} {i : Nat} {m : Str → Option Value}, P.Nodup → P[i]? = some x → vs[i]? = some v → kindOf x = some .local →
    bindL kindOf (P.zip vs) m x = some v
  | [], _, _, _, _, h, _, _ => by simp at h
  | _ :: _, [], _, _, _, _, h, _ => by simp at h
  | p :: P, w :: vs, 0, m, nd, h1, h2, hk => by
    simp at h1 h2; subst h1; subst h2
    show bindL kindOf ((p, w) :: P.zip vs) m p = _
    unfold bindL
    rw [bindL_out fun v hv => (List.nodup_cons.mp nd).1 (List.of_mem_zip hv).1, if_pos hk]
    simp
  | p :: P, w :: vs, i + 1, m, nd, h1, h2, hk => by
    show bindL kindOf ((p, w) :: P.zip vs) m x = _
    unfold bindL
    exact bindL_get (i := i) (List.nodup_cons.mp nd).2 (by simpa using h1) (by simpa using h2) hk
theorem bindC_get {kindOf : Str → Option NameKind} {x : Str} {v : Value} : ∀ {P : List Str} {vs : List Value} {i : Nat} {m : Str → Option Value}, P.Nodup → P[i]? = some x → vs[i]? = some v → kindOf x ≠ some .local →
    bindC kindOf (P.zip vs) m x = some v
  | [], _, _, _, _, h, _, _ => by simp at h
  | _ :: _, [], _, _, _, _, h, _ => by simp at h
  | p :: P, w :: vs, 0, m, nd, h1, h2, hk => by
    simp at h1 h2; subst h1; subst h2
    show bindC kindOf ((p, w) :: P.zip vs) m p = _
    unfold bindC
    rw [bindC_out fun v hv => (List.nodup_cons.mp nd).1 (List.of_mem_zip hv).1, if_neg hk]
    simp
  | p :: P, w :: vs, i + 1, m, nd, h1, h2, hk => by
    show bindC kindOf ((p, w) :: P.zip vs) m x = _
    unfold bindC
    exact bindC_get (i := i) (List.nodup_cons.mp nd).2 (by simpa using h1) (by simpa using h2) hk

/-- the names' values at the entry -/
def start (N : List Str) (vs : List V) : St := vs.map some ++ List.replicate (N.length - vs.length) none

/-- the context of a def's body, at its entry; an exception leaves the frame, then lies as CX says -/
def cxOf (CX : CXT) (cm : Bool) (P : Program) (w : World) (K : PySem.W.Frag) (mg : Str → Option Value) (base : Heap) (N : List Str) (qual : Str) (scope : Scope) (f : Addr) (cd : Value) (A : Around) (outer : List Env) (s : Shared) (H : Hp) (E : XK) : Cx where
  prog := P
  w := w
  K := K
  mg := mg
  base := base
  A := A.deeper (envOfC qual scope s.heap.objs.size f cd)
  N := N
  s₀ := s
  H₀ := H
  env := envOfC qual scope s.heap.objs.size f cd
  outer := outer
  stack := envOfC qual scope s.heap.objs.size f cd :: outer
  ex := []
  calm := cm
  fn := fun _ => true
  pn := []
  xe := fun e s' => wpAny (model P w) (A.deeper (envOfC qual scope s.heap.objs.size f cd)) (leaving (envOfC qual scope s.heap.objs.size f cd) e) (fun _ s'' => CX outer H s E e s'') (fun e' s'' => CX outer H s E e' s'') s'

theorem cell_has {sc : Scope} {n : Nat} {x : Str} (h : sc.names.lookup x = some .cell) : ∃ c, (cellsFrom n sc.names []).lookup x = some c := by
  have q := PySem.W.cellsFrom_some sc.names n [] (.inl h)
  exact Option.isSome_iff_exists.mp q

theorem inv_start {cm : Bool} {CX : CXT} {P : Program} {w : World} {K : PySem.W.Frag} {mg : Str → Option Value} {base : Heap} {N ps : List Str} {qual : Str} {scope : Scope} {f : Addr} {cd : Value} {A : Around} {outer : List Env} {s s1 : Shared} {H : Hp} {E : XK} {us : List Value} {vs : List V}
    (S : FnScope N ps scope) (hd : cm = true → A.handled = none) (e0 : Env0 P w K mg base A outer s H) (hl : vs.length = ps.length) (r : Vals vs us)
    (x : InCallC s s.heap.objs.size (bindL (envOfC qual scope s.heap.objs.size f cd).kindOf (ps.zip us) fun _ => none) (cellsFrom (s.heap.objs.size + 1) scope.names []) (bindC (envOfC qual scope s.heap.objs.size f cd).kindOf (ps.zip us) fun _ => none) s1) :
    Inv (cxOf CX cm P w K mg base N qual scope f cd A outer s H E) [] (start N vs) H s1 := by
  have hpl : ps.length ≤ N.length := by have := congrArg List.length S.pre; rw [List.length_take] at this; omega
  obtain ⟨h1, tk, rfl, hk⟩ := x.done
  have noA : ∀ b : Addr, b ∉ (cxOf CX cm P w K mg base N qual scope f cd A outer s H E).ex := fun b z => absurd (show b ∈ ([] : List Addr) from z) (by simp)
  refine ⟨⟨e0.mod, S.kind, rfl, rfl, Nat.le_refl _, fun y z c h1 h2 => ?_, fun y hy => ?_, fun y c _ h => ?_, hd, Around.frames_deeper e0.frames, .inr ⟨rfl, rfl⟩, fun b z => absurd z (noA b), e0.bs, e0.bsz, fun b _ _ => noA b, fun b z => absurd z (noA b), e0.funs, e0.frf⟩,
    rfl, e0.bare, Un.kept hk, ⟨_, x.toInCall.ns, fun i y v h1 h2 h3 => ?_⟩, fun y c h => ⟨_, x.cell y c h⟩, e0.hok.fresh (Nat.le_refl _), fun y c h => ?_, fun p hp => absurd (show p ∈ ([] : List (Addr × Obj)) from hp) (by simp), e0.hok.kept hk, ?_⟩
  · exact name_of_addr x.apart (PySem.mem_of_lookup h1) (PySem.mem_of_lookup h2)
  · have hy : scope.names.lookup y = some .cell ∨ scope.names.lookup y = some .free := hy
    rcases hy with hy | hy
    · exact cell_has hy
    · exact absurd rfl (S.nofree _ (PySem.mem_of_lookup hy))
  · exact Nat.le_of_lt (x.above y c (PySem.mem_of_lookup h))
  · have hi : i < vs.length := by
      unfold start at h2
      by_cases hi : i < vs.length
      · exact hi
      · rw [List.getElem?_append_right (by simpa using hi)] at h2
        rw [List.getElem?_replicate] at h2
        split at h2 <;> cases h2
    have ha : vs[i]? = some v := by
      unfold start at h2
      rw [List.getElem?_append_left (by simpa using hi), List.getElem?_map] at h2
      cases e : vs[i]? with
      | none => rw [e] at h2; cases h2
      | some a => rw [e] at h2; cases h2; rfl
    obtain ⟨u, hu, rv⟩ := r.get ha
    have hp : ps[i]? = some y := by
      rw [← S.pre, List.getElem?_take_of_lt (by omega)]; exact h1
    have ndP : ps.Nodup := by rw [← S.pre]; exact S.nd.sublist (List.take_sublist _ _)
    refine ⟨u, rv, ?_⟩
    rcases S.par y (List.mem_of_getElem? hp) with k | k
    · exact .inl ⟨k, bindL_get ndP hp hu k⟩
    · obtain ⟨c, e⟩ := cell_has (n := s.heap.objs.size + 1) k
      refine .inr ⟨.inl k, c, e, ?_⟩
      have q := x.cell y c e
      rw [bindC_get ndP hp hu (by show scope.names.lookup y ≠ _; rw [k]; decide)] at q
      exact q
  · exact e0.hok.fresh (Nat.le_of_lt (x.above y c (PySem.mem_of_lookup h)))
  · unfold start
    show _ = N.length
    rw [List.length_append, List.length_map, List.length_replicate]
    omega

/-- THE RULE: a def (or a method) of the text, by its body. The body's reading t is chosen for each entry; it is run at the parameters' values -/
theorem fn_of {cm : Bool} {CX : CXT} {P : Program} {w : World} {K : PySem.W.Frag} {mg : Str → Option Value} {base : Heap} {k : Nat} {f : Addr} {name qual : Str} {params : Arguments} {body : List Stmt} {scope : Scope} {dV kV doc pm cdv ct oc : Value} {an od : Option Addr}
    {osl : Array (Option Value)} {N ps : List Str} {sp : Sp} (lk : K.lookup f = some ⟨oc, od, .func (PySem.W.fnOf name qual params body scope dV kV doc pm an cdv ct), osl⟩) (hcd : PySem.W.codeIn K cdv qual = true) (S : FnScope N ps scope)
    (len : ∀ vs H Q E, sp vs H Q E → vs.length = ps.length)
    (hbody : ∀ (A : Around) (outer : List Env) (s : Shared) (H : Hp) (vs : List V) (Q : VK) (E : XK), Room cm k (A.deeper (envOfC qual scope s.heap.objs.size f cdv)) → sp vs H Q E →
      ∃ t, PSs (cxOf CX cm P w K mg base N qual scope f cdv A outer s H E) body t ∧ t { nx := fun _ H' => Q .non H', rt := Q } (start N vs) H) :
    FnOk P w K mg base CX cm (k + 1) f (PySem.W.fnOf name qual params body scope dV kV doc pm an cdv ct) ps sp := by
  refine ⟨len, fun A outer s H args us vs Q E hr e0 hb r hsp => ?_⟩
  have hl := len _ _ _ _ hsp
  have KX : K.In s.heap := e0.mod.kin.keeps fun b o e => (e0.bs b o e).1
  have lim : s.heap.NoLimit := e0.mod.nolimit.keeps fun b o e => (e0.bs b o e).1
  have hkind : ∀ y ∈ ps.zip us, scope.names.lookup y.1 = some .local ∨ (scope.names.lookup y.1 = some .cell ∧ ((cellsFrom (s.heap.objs.size + 1) scope.names []).lookup y.1).isSome = true) := fun ⟨n, v⟩ hy => by
    rcases S.par n (List.of_mem_zip hy).1 with q | q
    · exact .inl q
    · exact .inr ⟨q, PySem.W.cellsFrom_some _ _ _ (.inl q)⟩
  refine codeAny_call_function hr.depth (KX _ _ lk) rfl S.co S.gen rfl (PySem.W.codeRec_of KX hcd) (hb _ _ _ _ ?_)
  refine wpAny_newFunctionEnv_cells S.kind hkind fun env he s1 x => ?_
  subst he
  refine ⟨lim.keeps x.toInCall.keep, codeAny_func ?_⟩
  obtain ⟨t, ht, hq⟩ := hbody A outer s H vs Q E (hr.deeper _) hsp
  have I : Inv (cxOf CX cm P w K mg base N qual scope f cdv A outer s H E) [] (start N vs) H s1 := inv_start S hr.hd e0 hl r x
  refine wpAny_mono (ht [] s1 (start N vs) H _ I hq) (fun fl s' hs => ?_) fun e s' hs => hs
  have fin : ∀ {σ' : St} {H' : Hp} {v : V} {u : Value}, Inv (cxOf CX cm P w K mg base N qual scope f cdv A outer s H E) [] σ' H' s' → RelV v u → Q v H' → CE outer P w H s Q u s' :=
    fun {σ' H' v u} J rv q => ⟨v, H', J.os, J.bare, J.base, J.hok, rv, q⟩
  cases fl with
  | ret u =>
    obtain ⟨v, σ', H', J, rv, q⟩ := hs
    exact fin J rv q
  | next =>
    obtain ⟨σ', H', J, q⟩ := hs
    exact fin (v := V.non) (u := Value.none) J rfl q
  | brk =>
    obtain ⟨_, _, _, q⟩ := hs
    exact False.elim q
  | cont =>
    obtain ⟨_, _, _, q⟩ := hs
    exact False.elim q
end L2

namespace L2
open PySem PySem.Spec PyProof.Rows
section
variable {X : Cx} {x : Str} {p pos : Pos} {e : Expr} {es : List Expr} {t : TA} {id T : String} {r : List V → Hp → VK → Prop}

def tCB (r : List V → Hp → VK → Prop) (t : TA) : TE := fun σ H Q => t σ H fun vs H1 => r vs H1 Q
/-- f(e, ..), f a built-in function -/
theorem pe_callB (hc : CallR X (.builtin id) r) (hg : Gl X x) (hm : X.mg x = none) (hv : bootBuiltins x = some (.builtin id)) (ha : PA X (e :: es) t) (hn : x ≠ "__name__" := by decide) (hdb : (x == ("__debug__" : Str)) = false := by decide)
    (he : starEach (e :: es) X.env = (false, eval e X.env) :: starEach es X.env := by rfl) (hpl : (backTo pos (starEach es X.env)).any (·.1) = false := by rfl) : PE X (.Call (.Name x p) (e :: es) [] pos) (tCB r t) := by
  intro pins s σ H Q I h
  refine wpAny_Call_Name_kw (ld_blt I hg hm hv ?_ hn hdb)
  exact PyProof.Rows.callWith_builtin1 (thn (ha pos pins s σ H _ I h) fun us s1 ⟨vs, H1, I1, r1, q1⟩ => hc pins s1 σ H1 vs us Q I1 r1 q1) he hpl
/-- T(e, ..), T a built-in type -/
theorem pe_callTy (hc : CallR X (.type T) r) (hg : Gl X x) (hm : X.mg x = none) (hv : bootBuiltins x = some (.type T)) (ha : PA X (e :: es) t) (hn : x ≠ "__name__" := by decide) (hdb : (x == ("__debug__" : Str)) = false := by decide)
    (he : starEach (e :: es) X.env = (false, eval e X.env) :: starEach es X.env := by rfl) (hpl : (backTo pos (starEach es X.env)).any (·.1) = false := by rfl) : PE X (.Call (.Name x p) (e :: es) [] pos) (tCB r t) := by
  intro pins s σ H Q I h
  refine wpAny_Call_Name_kw (ld_blt I hg hm hv ?_ hn hdb)
  exact PyProof.Rows.callWith_type1 (thn (ha pos pins s σ H _ I h) fun us s1 ⟨vs, H1, I1, r1, q1⟩ => hc pins s1 σ H1 vs us Q I1 r1 q1) he hpl
end
end L2

namespace HT
open PySem PyProof.Rows

section
open PySem.SeqAt
open PySem.AutoSeq1 (wpAny_loadPart')
open PySem.MeetsSeq PySem.MeetsSeq2 PySem.MeetsSeq3

end

section
variable {prog : Program} {w : World} {A : Around} {E : Value → Shared → Prop} {s : Shared}

/-- t + u, t not empty -/
theorem cat_tup {t b : Addr} {vs ws : List Value} {Q : Value → Shared → Prop} (ht : IsTup s.heap t vs.toArray) (hb : IsTup s.heap b ws.toArray) (hv : vs ≠ [])
    (h1 : ws = [] → Q (.ref t) s) (h2 : ws ≠ [] → Q (.ref s.heap.objs.size) { s with heap := s.heap.push { cls := .type "tuple", data := .seq (vs ++ ws).toArray } })
    (hsz : vs.length + ws.length ≤ sizeLine) : wpAny (model prog w) A (binaryOp .Add (.ref t) (.ref b)) Q E s := by
  obtain ⟨⟨cls, dd, data, sl⟩, ho, hc, n, hd⟩ := id ht
  obtain ⟨⟨cls2, dd2, data2, sl2⟩, ho2, hc2, n2, hd2⟩ := id hb
  simp only at hc hd hc2 hd2
  subst hc hd hc2 hd2
  have e : vs.toArray ++ ws.toArray = (vs ++ ws).toArray := by simp
  by_cases hw : ws = []
  · exact concat_meets ⟨_, ho, rfl⟩ ⟨_, ho2, rfl⟩ noFill_tuple_add seq_tuple_add PySem.F.slot_tuple_add PySem.F.entry_tuple_add (PySem.F.args_tuple_add_2 _ _)
      (tuple_addW1 t b vs.toArray ws.toArray n n2 dd dd2 sl sl2 (by simpa using hv) (by simp [hw])) ⟨ho, ho2, h1 hw⟩
  · refine concat_meets ⟨_, ho, rfl⟩ ⟨_, ho2, rfl⟩ noFill_tuple_add seq_tuple_add PySem.F.slot_tuple_add PySem.F.entry_tuple_add (PySem.F.args_tuple_add_2 _ _)
      (tuple_addW2 t b vs.toArray ws.toArray n n2 dd dd2 sl sl2 (by simpa using hv) (by simpa using hw) (by rw [List.size_toArray, List.size_toArray]; exact hsz)) ⟨ho, ho2, ?_⟩
    rw [e]
    exact h2 hw

/-! ### t[a:b], not the whole -/
/-- a slice's bound as a place among n (d where it is left out) -/
def sIx (n d : Nat) : Option Int → Nat
  | none => d
  | some v => if v < 0 then (v + (n : Int)).toNat else min v.toNat n
theorem sIx_none (n d : Nat) : sIx n d none = d := rfl
theorem sIx_nat (n d k : Nat) : sIx n d (some (k : Int)) = min k n := by
  show (if (k : Int) < 0 then ((k : Int) + (n : Int)).toNat else min (k : Int).toNat n) = min k n
  rw [if_neg (by omega), Int.toNat_natCast]
theorem sIx_le (n d : Nat) (hd : d ≤ n) (o : Option Int) : sIx n d o ≤ n := by
  cases o with
  | none => exact hd
  | some v =>
    show (if v < 0 then (v + (n : Int)).toNat else min v.toNat n) ≤ n
    by_cases hv : v < 0
    · rw [if_pos hv]; omega
    · rw [if_neg hv]; exact Nat.min_le_right _ _
theorem clip_eq (v : Int) (n d : Nat) : (if v < 0 then max (v + (n : Int)) 0 else min v (n : Int)) = ((sIx n d (some v) : Nat) : Int) := by
  show (if v < 0 then max (v + (n : Int)) 0 else min v (n : Int)) = (((if v < 0 then (v + (n : Int)).toNat else min v.toNat n) : Nat) : Int)
  by_cases hv : v < 0
  · simp only [if_pos hv]; omega
  · simp only [if_neg hv]; omega
theorem adjust_gen (lo hi : Option Int) (n : Nat) : Builtin.Slice.sliceAdjust lo hi 1 (n : Int) = (((sIx n 0 lo : Nat) : Int), ((sIx n n hi : Nat) : Int)) := by
  have h1 : ¬ ((1 : Int) < 0) := by omega
  unfold Builtin.Slice.sliceAdjust
  simp only [h1, if_false]
  refine Prod.ext ?_ ?_
  · cases lo with
    | none => rfl
    | some v => exact clip_eq v n 0
  · cases hi with
    | none => rfl
    | some v => exact clip_eq v n n
theorem places_gen (i j : Nat) : Builtin.Slice.slicePlaces (i : Int) (j : Int) 1 = j - i := by
  unfold Builtin.Slice.slicePlaces
  have h1 : (1 : Int) > 0 := by omega
  simp only [h1, if_true, Int.ediv_one]
  split <;> omega
theorem slicePart_ {v : Value} {o : Option Int} {Q : Option Int → Shared → Prop} (p : IsPart v o) (h : Q o s) : wpAny (model prog w) A (Builtin.Slice.slicePartIndex v) Q E s := by
  cases p with
  | none => exact slicePart_none h
  | int i t => exact slicePart_int h
theorem sliceApplied_gen {sl : Addr} {vl vu : Value} {lo hi : Option Int} {n : Nat} {Q : Int × Int × Nat → Shared → Prop} (hs : s.heap.IsSliceOf sl vl vu .none) (pl : IsPart vl lo) (pu : IsPart vu hi)
    (h : Q (((sIx n 0 lo : Nat) : Int), 1, sIx n n hi - sIx n 0 lo) s) : wpAny (model prog w) A (Builtin.Slice.sliceApplied (.ref sl) (pure (n : Int))) Q E s := by
  obtain ⟨os, hos, hcs, hds⟩ := id hs
  unfold Builtin.Slice.sliceApplied Builtin.Slice.sliceFields
  refine wpAny_bind (wpAny_bind (wpAny_field hos hds (x := vl) rfl (wpAny_bind (wpAny_field hos hds (x := vu) rfl (wpAny_bind (wpAny_field hos hds (x := .none) rfl (wpAny_pure ?_)))))))
  refine wpAny_bind (slicePart_none ?_)
  show wpAny _ _ (if ((1 : Int) == 0) = true then _ else _) _ _ s
  rw [if_neg (by decide)]
  refine wpAny_bind (slicePart_ pl (wpAny_bind (slicePart_ pu (wpAny_bind (wpAny_pure ?_)))))
  show wpAny _ _ (match Builtin.Slice.sliceAdjust lo hi 1 (n : Int) with | (lo, hi) => pure (lo, (1 : Int), Builtin.Slice.slicePlaces lo hi 1)) _ _ s
  rw [adjust_gen lo hi n]
  show wpAny _ _ (pure (((sIx n 0 lo : Nat) : Int), (1 : Int), Builtin.Slice.slicePlaces ((sIx n 0 lo : Nat) : Int) ((sIx n n hi : Nat) : Int) 1)) _ _ s
  rw [places_gen]
  exact wpAny_pure h
theorem pick_gen (xs : Array Value) (i k : Nat) : ((List.range k).filterMap fun (m : Nat) => xs[((i : Int) + (m : Int) * 1).toNat]?).toArray = ((xs.toList.drop i).take k).toArray := by
  have e : (fun (m : Nat) => xs[((i : Int) + (m : Int) * 1).toNat]?) = fun m => xs[i + m]? := by
    funext m
    have : ((i : Int) + (m : Int) * 1).toNat = i + m := by omega
    rw [this]
  rw [e]
  have := pick_run xs i k
  rw [List.filterMap_map] at this
  have e2 : ((fun x => xs[x]?) ∘ fun x => i + x) = fun m => xs[i + m]? := rfl
  rw [e2] at this
  rw [this]

theorem getItem_tuple_cut {t sl : Addr} {items : Array Value} {vl vu : Value} {lo hi : Option Int} {Q : Value → Shared → Prop} (ht : IsTup s.heap t items) (hs : s.heap.IsSliceOf sl vl vu .none) (pl : IsPart vl lo) (pu : IsPart vu hi)
    (hw : ¬ (sIx items.size 0 lo = 0 ∧ sIx items.size items.size hi = items.size))
    (h : Q (.ref s.heap.objs.size) { s with heap := s.heap.push { cls := .type "tuple", data := .seq ((items.toList.drop (sIx items.size 0 lo)).take (sIx items.size items.size hi - sIx items.size 0 lo)).toArray } })
    (hsz : items.size ≤ sizeLine) : wpAny (model prog w) A (getItem (.ref t) (.ref sl)) Q E s := by
  have htake : sizeOk (.seq ((items.toList.drop (sIx items.size 0 lo)).take (sIx items.size items.size hi - sIx items.size 0 lo)).toArray) := by
    show ((items.toList.drop (sIx items.size 0 lo)).take (sIx items.size items.size hi - sIx items.size 0 lo)).toArray.size ≤ sizeLine
    rw [List.size_toArray, List.length_take, List.length_drop, Array.length_toList]
    omega
  have hj : sIx items.size items.size hi ≤ items.size := sIx_le _ _ (Nat.le_refl _) hi
  obtain ⟨os, hos, hcs, hds⟩ := id hs
  have hTs : s.TypeIs (.ref sl) "slice" := ⟨os, hos, hcs⟩
  unfold getItem
  try with_reducible refine wpAny_holding ?_
  first | refine wpAny_bind (wpAny_pure ?_) | skip
  refine wpAny_bind (wpAny_sequenceKey ht.typeIs (by decide) ?_)
  refine wpAny_bind (wpAny_callSpecial?_slot (name := Str.ofString "__getitem__") ht.typeIs PyProof.Rows.slot_tuple_getitem
    (wpAny_call_entry PyProof.Rows.slot_tuple_getitem ht.typeIs entry_tuple_getitem ?_ (args_tuple_getitem _ _)))
  show wpAny _ _ (Builtin.Tuple.tupleItemsOf (.ref t) >>= _) _ _ s
  refine wpAny_bind (tupleItemsOf_ ht ?_)
  refine wpAny_bind (wpAny_typeOf hTs ?_)
  rw [if_pos (by decide)]
  refine wpAny_bind (sliceApplied_gen hs pl pu ?_)
  have hno : ¬ ((((sIx items.size 0 lo : Nat) : Int) == 0 && (1 : Int) == 1 && (sIx items.size items.size hi - sIx items.size 0 lo) == items.size) = true) := by
    intro q
    rw [Bool.and_eq_true, Bool.and_eq_true] at q
    have q1 : ((sIx items.size 0 lo : Nat) : Int) = 0 := eq_of_beq q.1.1
    have q2 : sIx items.size items.size hi - sIx items.size 0 lo = items.size := eq_of_beq q.2
    exact hw ⟨by omega, by omega⟩
  show wpAny _ _ (if (((sIx items.size 0 lo : Nat) : Int) == 0 && (1 : Int) == 1 && (sIx items.size items.size hi - sIx items.size 0 lo) == items.size) = true then _ else _) _ _ s
  rw [if_neg hno, pick_gen]
  first
    | exact wpAny_bind (m := Builtin.Tuple.tupleExact _) (wpAny_newObj_type (wpAny_pure ⟨_, rfl, wpAny_pure h⟩) htake)
    | exact wpAny_bind (m := Builtin.Tuple.tupleExact _) (wpAny_newObj_type (wpAny_bind (wpAny_pure (wpAny_pure ⟨_, rfl, wpAny_pure h⟩))) htake)
    | exact wpAny_bind (wpAny_bind (m := Builtin.Tuple.tupleExact _) (wpAny_newObj_type (wpAny_pure (wpAny_pure ⟨_, rfl, wpAny_pure h⟩)) htake))
    | exact wpAny_bind (wpAny_bind (m := Builtin.Tuple.tupleExact _) (wpAny_newObj_type (wpAny_pure ⟨_, rfl, wpAny_pure h⟩) htake))
end
end HT

namespace L2
open PySem PySem.Spec PyProof.Rows

/-! ### the parts of a slice -/
abbrev TO := St → Hp → (Option Int → Hp → Prop) → Prop
/-- a slice's part (left out, or an int) -/
def PO (X : Cx) (e : Option Expr) (t : TO) : Prop :=
  ∀ (pins : List (Addr × Obj)) (s : Shared) (σ : St) (H : Hp) (Q : Option Int → Hp → Prop), Inv X pins σ H s → t σ H Q →
    wpAny (model X.prog X.w) X.A (evalPart e X.env) (fun u s' => ∃ o H', Inv X pins σ H' s' ∧ IsPart u o ∧ Q o H') X.xe s
def tNoPart : TO := fun _ H Q => Q none H
def tPart (t : TE) : TO := fun σ H Q => t σ H fun x H1 => ∃ i, x = .int i ∧ Q (some i) H1

section
variable {X : Cx} {e : Expr} {te : TE} {lo hi : Option Expr} {tl th : TO} {pos p2 : Pos}

theorem po_none : PO X none tNoPart := by
  intro pins s σ H Q I h
  rw [evalPart_none]
  exact wpAny_pure ⟨none, H, I, .none, h⟩
theorem po_some (h : PE X e te) : PO X (some e) (tPart te) := by
  intro pins s σ H Q I hw
  rw [evalPart_some]
  refine thn (h pins s σ H _ I hw) fun u s1 ⟨x, H1, I1, r1, q1⟩ => ?_
  obtain ⟨i, rfl, q⟩ := q1
  obtain ⟨t, rfl⟩ := r1
  exact ⟨some i, H1, I1, .int i t, q⟩

/-- what a slice of a value is, by values: the slice object stands at sl -/
def SlR (X : Cx) (r : V → Option Int → Option Int → Hp → VK → Prop) : Prop :=
  ∀ (pins : List (Addr × Obj)) (s : Shared) (σ : St) (H : Hp) (x : V) (v vl vu : Value) (lo hi : Option Int) (sl : Addr) (Q : VK), Inv X pins σ H s → RelV x v → s.heap.IsSliceOf sl vl vu .none → IsPart vl lo → IsPart vu hi → r x lo hi H Q →
    ∃ T id, typeLookup (.type T) "__getitem__" = pure (some (.builtin id)) ∧ s.TypeIs v T ∧ wpAny (model X.prog X.w) X.A (getItem v (.ref sl)) (EP X pins σ Q) X.xe s
theorem SlR.or {r r' : V → Option Int → Option Int → Hp → VK → Prop} (h : SlR X r) (h' : SlR X r') : SlR X (fun x lo hi H Q => r x lo hi H Q ∨ r' x lo hi H Q) := by
  intro pins s σ H x v vl vu lo hi sl Q I rx hs pl pu q
  rcases q with q | q
  · exact h pins s σ H x v vl vu lo hi sl Q I rx hs pl pu q
  · exact h' pins s σ H x v vl vu lo hi sl Q I rx hs pl pu q
def tSl (r : V → Option Int → Option Int → Hp → VK → Prop) (te : TE) (tl th : TO) : TE := fun σ H Q => te σ H fun x H1 => tl σ H1 fun l H2 => th σ H2 fun u H3 => r x l u H3 Q
/-- a[lo:hi], any a -/
theorem pe_slice {r : V → Option Int → Option Int → Hp → VK → Prop} (hr : SlR X r) (he : PE X e te) (hl : PO X lo tl) (hu : PO X hi th) : PE X (.Subscript e (.Slice lo hi none p2) pos) (tSl r te tl th) := by
  intro pins s σ H Q I h
  refine Subscript_ (thn (he pins s σ H _ I h) fun v s1 ⟨x, H1, I1, r1, q1⟩ => ?_)
  refine wpAny_Slice (thn (hl pins s1 σ H1 _ I1 q1) fun vl s2 ⟨l, H2, I2, pl, q2⟩ => thn (hu pins s2 σ H2 _ I2 q2) fun vu s3 ⟨u, H3, I3, pu, q3⟩ => ?_)
  rw [evalPart_none]
  refine wpAny_pure ?_
  have I4 : Inv X pins σ H3 { s3 with heap := s3.heap.push { cls := .type "slice", data := .fields #[vl, vu, .none] } } := I3.kept (t' := s3.toks) fun b ob q => Heap.get?_push_of_some _ q
  obtain ⟨T, id, hT, ht, hg⟩ := hr pins { s3 with heap := s3.heap.push { cls := .type "slice", data := .fields #[vl, vu, .none] } } σ H3 x v vl vu l u s3.heap.objs.size Q I4 r1 (Heap.IsSliceOf.new ..) pl pu q3
  show wpAny (model X.prog X.w) X.A (subscriptTail e (.Slice lo hi none p2) v (.ref s3.heap.objs.size)) (EP X pins σ Q) X.xe { s3 with heap := s3.heap.push { cls := .type "slice", data := .fields #[vl, vu, .none] } }
  exact tail_any (ops := [.ref s3.heap.objs.size, v]) ht hT hg (by with_unfolding_all rfl)

/-- the items of xs[lo:hi] -/
def cutV (xs : List V) (lo hi : Option Int) : List V := (xs.drop (HT.sIx xs.length 0 lo)).take (HT.sIx xs.length xs.length hi - HT.sIx xs.length 0 lo)
theorem cutV_length (xs : List V) (lo hi : Option Int) : (cutV xs lo hi).length ≤ xs.length := by
  unfold cutV
  rw [List.length_take, List.length_drop]
  omega
/-- t[lo:hi], not the whole of it (the whole would be t itself) -/
def rSlT (K : PySem.W.Frag) : V → Option Int → Option Int → Hp → VK → Prop := fun x lo hi H Q => ∃ a xs, x = .ref a ∧ SqT K H a xs ∧
  ¬ (HT.sIx xs.length 0 lo = 0 ∧ HT.sIx xs.length xs.length hi = xs.length) ∧ ∀ p, H p = none → Q (.ref p) (upd H p (.tup (cutV xs lo hi)))
theorem sl_tup : SlR X (rSlT X.K) := by
  intro pins s σ H x v vl vu lo hi sl Q I rx hs pl pu h
  obtain ⟨a, xs, rfl, hx, hw, q⟩ := h
  cases rx
  obtain ⟨its, r, ht, hz⟩ := I.tuple hx
  have hlen : its.toArray.size = xs.length := by rw [List.size_toArray]; exact r.length.symm
  refine ⟨"tuple", _, PyProof.Rows.slot_tuple_getitem.lookup, ht.typeIs, ?_⟩
  refine HT.getItem_tuple_cut ht hs pl pu (by rw [hlen]; exact hw) ?_ (by rw [hlen]; exact hz)
  rw [hlen]
  refine ⟨.ref s.heap.objs.size, _, I.laid (t' := s.toks) (o := .tup (cutV xs lo hi)) (fun b ob q => Heap.get?_push_of_some _ q) (Nat.le_refl _) ?_, rfl, q _ (I.hok.fresh (Nat.le_refl _))⟩
  exact ⟨Nat.le_trans (cutV_length xs lo hi) hz, _, (r.drop (HT.sIx xs.length 0 lo)).take (HT.sIx xs.length xs.length hi - HT.sIx xs.length 0 lo), IsTup.new _ _⟩

/-! ### t < u, t + u -/
/-- t + u, t not empty: u empty gives t itself -/
def rCatT (K : PySem.W.Frag) : R2 := fun x y H Q => ∃ a b xs ys, x = .ref a ∧ y = .ref b ∧ SqT K H a xs ∧ SqT K H b ys ∧ xs ≠ [] ∧ xs.length + ys.length ≤ sizeLine ∧
  (ys = [] → Q (.ref a) H) ∧ (ys ≠ [] → ∀ p, H p = none → Q (.ref p) (upd H p (.tup (xs ++ ys))))
theorem Vals.nil_iff {xs : List V} {us : List Value} (r : Vals xs us) : us = [] ↔ xs = [] := by
  cases r with
  | nil => simp
  | cons _ _ => simp
theorem op_catT : OpR X (binaryOp .Add) (rCatT X.K) := by
  intro pins s σ H x y v u Q I rx ry h
  obtain ⟨a, b, xs, ys, rfl, rfl, ha, hb, hx, hz, q1, q2⟩ := h
  cases rx
  cases ry
  obtain ⟨its, r1, p1, _⟩ := I.tuple ha
  obtain ⟨its2, r2, p2, _⟩ := I.tuple hb
  refine HT.cat_tup p1 p2 (fun z => hx (r1.nil_iff.mp z)) (fun z => ⟨.ref a, H, I, rfl, q1 (r2.nil_iff.mp z)⟩) (fun z => ?_) (by rw [← r1.length, ← r2.length]; exact hz)
  refine ⟨.ref s.heap.objs.size, _, I.laid (t' := s.toks) (o := .tup (xs ++ ys)) (fun b ob q => Heap.get?_push_of_some _ q) (Nat.le_refl _) ?_, rfl, q2 (fun w => z (r2.nil_iff.mpr w)) _ (I.hok.fresh (Nat.le_refl _))⟩
  exact ⟨by rw [List.length_append]; exact hz, _, r1.append r2, IsTup.new _ _⟩
end
end L2

namespace L2
open PySem PySem.Spec PyProof.Rows

/-! ### places -/
/-- the place that an index of any sign means -/
def ixN (n : Nat) (i : Int) : Option Nat := if 0 ≤ i then (if i < n then some i.toNat else none) else if -(n : Int) ≤ i then some (i + n).toNat else none
def atI {α : Type} (xs : List α) (i : Int) : Option α := (ixN xs.length i).bind fun j => xs[j]?
theorem ixN_seq {n : Nat} {i : Int} {j : Nat} (h : ixN n i = some j) : seqIndex? i n = some j ∧ j < n ∧ -(n : Int) ≤ i ∧ i < n := by
  unfold ixN at h
  by_cases h0 : 0 ≤ i
  · rw [if_pos h0] at h
    by_cases h1 : i < n
    · rw [if_pos h1] at h
      have e : i.toNat = j := Option.some.inj h
      exact ⟨by rw [seqIndex_of h0 h1, e], by omega, by omega, h1⟩
    · rw [if_neg h1] at h; cases h
  · rw [if_neg h0] at h
    by_cases h1 : -(n : Int) ≤ i
    · rw [if_pos h1] at h
      have e : (i + n).toNat = j := Option.some.inj h
      exact ⟨by rw [seqIndex_neg (by omega) h1, e], by omega, h1, by omega⟩
    · rw [if_neg h1] at h; cases h
theorem atI_get {α : Type} {xs : List α} {i : Int} {v : α} (h : atI xs i = some v) : ∃ j, seqIndex? i xs.length = some j ∧ xs[j]? = some v ∧ j < xs.length ∧ -(xs.length : Int) ≤ i ∧ i < xs.length := by
  unfold atI at h
  cases e : ixN xs.length i with
  | none => rw [e] at h; cases h
  | some j =>
    rw [e] at h
    obtain ⟨h1, h2, h3, h4⟩ := ixN_seq e
    exact ⟨j, h1, h, h2, h3, h4⟩
theorem atI_nat {α : Type} {xs : List α} {j : Nat} {v : α} (h : xs[j]? = some v) : atI xs (j : Int) = some v := by
  have hj : j < xs.length := (List.getElem?_eq_some_iff.mp h).1
  have e : ixN xs.length (j : Int) = some j := by
    unfold ixN
    rw [if_pos (by omega), if_pos (by omega)]; simp
  unfold atI; rw [e]; exact h
/-! ### what may be subscripted -/
/-- what stands as an index of a plain subscript -/
def PlainIx (b : Expr) : Prop := ∀ o i, subscripted b false o i = operate [o, i] (getItem o i)
/-- a subscript by values -/
def IxR (X : Cx) (r : R2) : Prop :=
  ∀ (value slice : Expr) (pins : List (Addr × Obj)) (s : Shared) (σ : St) (H : Hp) (x y : V) (v u : Value) (Q : VK), Inv X pins σ H s → RelV x v → RelV y u → r x y H Q →
    subscripted slice false v u = operate [v, u] (getItem v u) → wpAny (model X.prog X.w) X.A (subscriptTail value slice v u) (EP X pins σ Q) X.xe s
/-- a call of a builtin's method by values: the receiver, the arguments -/
def MtR (X : Cx) (id : String) (r : V → List V → Hp → VK → Prop) : Prop :=
  ∀ (pins : List (Addr × Obj)) (s : Shared) (σ : St) (H : Hp) (x : V) (xs : List V) (v : Value) (us : List Value) (Q : VK), Inv X pins σ H s → RelV x v → Vals xs us → r x xs H Q →
    wpAny (model X.prog X.w) X.A (call (.builtin id) (v :: us)) (EP X pins σ Q) X.xe s
section
variable {X : Cx} {a b : Expr} {ta tb : TE} {pos : Pos}
theorem IxR.or {r r' : R2} (h : IxR X r) (h' : IxR X r') : IxR X (fun x y H Q => r x y H Q ∨ r' x y H Q) := by
  intro value slice pins s σ H x y v u Q I rx ry q hs
  rcases q with q | q
  · exact h value slice pins s σ H x y v u Q I rx ry q hs
  · exact h' value slice pins s σ H x y v u Q I rx ry q hs
theorem MtR.or {id : String} {r r' : V → List V → Hp → VK → Prop} (h : MtR X id r) (h' : MtR X id r') : MtR X id (fun x xs H Q => r x xs H Q ∨ r' x xs H Q) := by
  intro pins s σ H x xs v us Q I rx rs q
  rcases q with q | q
  · exact h pins s σ H x xs v us Q I rx rs q
  · exact h' pins s σ H x xs v us Q I rx rs q
/-- a[b] -/
theorem pe_ix {r : R2} (hr : IxR X r) (ha : PE X a ta) (hb : PE X b tb) (hs : PlainIx b) : PE X (.Subscript a b pos) (tOp r ta tb) := by
  intro pins s σ H Q I h
  exact Subscript_ (binT ha hb I h fun v u s2 x y H2 I2 rx ry q => hr a b pins s2 σ H2 x y v u Q I2 rx ry q (hs _ _))

def rIxL (K : PySem.W.Frag) : R2 := fun x y H Q => ∃ p xs i v, x = .ref p ∧ y = .int i ∧ SqL K H p xs ∧ atI xs i = some v ∧ Q v H
def rIxT (K : PySem.W.Frag) : R2 := fun x y H Q => ∃ p xs i v, x = .ref p ∧ y = .int i ∧ SqT K H p xs ∧ atI xs i = some v ∧ Q v H
def rIxS : R2 := fun x y H Q => ∃ z i c, x = .str z ∧ y = .int i ∧ z.length ≤ sizeLine ∧ atI z.cps.toList i = some c ∧ Q (.str ⟨#[c]⟩) H
theorem ix_list : IxR X (rIxL X.K) := by
  intro value slice pins s σ H x y v u Q I rx ry h hs
  obtain ⟨p, xs, i, z, rfl, rfl, hq, he, q⟩ := h
  cases rx
  obtain ⟨t, rfl⟩ := ry
  obtain ⟨its, r, pl, hz⟩ := I.list hq
  obtain ⟨j, h1, h2, h3, h4, h5⟩ := atI_get he
  obtain ⟨w, ew, rw'⟩ := r.get h2
  have hl := r.length
  have hn := line63
  have fin : EP X pins σ Q w s := ⟨z, H, I, rw', q⟩
  by_cases h0 : 0 ≤ i
  · have hj : i.toNat = j := by
      rw [seqIndex_of h0 h5] at h1
      exact Option.some.inj h1
    exact item_listR pl.isList h0 (by omega) (by rw [hj]; simpa using ew) fin hs
  · have hj : (i + (its.toArray.size : Int)).toNat = j := by
      rw [seqIndex_neg (by omega) h4] at h1
      rw [List.size_toArray, ← hl]
      exact Option.some.inj h1
    exact subscriptTail_builtinR (x := w) pl.isList.typeIs slot_list_getitem.lookup
      (wpAny_getItem_list_neg (Q := fun r s' => r = w ∧ EP X pins σ Q r s') pl.isList (by omega) (by rw [List.size_toArray] <;> omega) (by omega) (by rw [hj]; simpa using ew) ⟨rfl, fin⟩) hs
theorem ix_tup : IxR X (rIxT X.K) := by
  intro value slice pins s σ H x y v u Q I rx ry h hs
  obtain ⟨p, xs, i, z, rfl, rfl, hq, he, q⟩ := h
  cases rx
  obtain ⟨t, rfl⟩ := ry
  obtain ⟨its, r, pl, hz⟩ := I.tuple hq
  obtain ⟨j, h1, h2, h3, h4, h5⟩ := atI_get he
  obtain ⟨w, ew, rw'⟩ := r.get h2
  have hl := r.length
  have hn := line63
  have fin : EP X pins σ Q w s := ⟨z, H, I, rw', q⟩
  exact subscriptTail_builtinR (x := w) pl.typeIs slot_tuple_getitem.lookup
    (getItem_tuple (j := j) (Q := fun r s' => r = w ∧ EP X pins σ Q r s') pl (by omega) (by omega) (by rw [List.size_toArray, ← hl]; exact h1) (by simpa using ew) ⟨rfl, fin⟩) hs
theorem ix_str : IxR X rIxS := by
  intro value slice pins s σ H x y v u Q I rx ry h hs
  obtain ⟨z, i, c, rfl, rfl, hz, he, q⟩ := h
  obtain ⟨t, rfl⟩ := rx
  obtain ⟨t', rfl⟩ := ry
  obtain ⟨j, h1, h2, h3, h4, h5⟩ := atI_get he
  have hl : z.cps.toList.length = z.length := by simp [Str.length]
  rw [hl] at h1 h4 h5
  have hn := line63
  exact tail_any (typeIs_str s z t) slot_str_getitem.lookup (getItem_str (c := c) (by
    have e1 : decide (i < -(2 ^ 63 : Int)) = false := decide_eq_false (by omega)
    have e2 : decide (i ≥ 2 ^ 63) = false := decide_eq_false (by omega)
    rw [e1, e2, Bool.or_false]) (by rw [h1]; simpa using h2) ⟨.str ⟨#[c]⟩, H, I.tok _, ⟨_, rfl⟩, q⟩) hs
/-! ### xs[i] = v, any sign -/
/-- the list's object behind a store -/
theorem mapSeq_set (its : List Value) (n j : Nat) (u : Value) : Obj.mapSeq (·.setIfInBounds j u) { cls := .type "list", data := .seq its.toArray n } = { cls := .type "list", data := .seq (its.set j u).toArray n } := by
  simp [Obj.mapSeq]
theorem Inv.lst {pins : List (Addr × Obj)} {σ : St} {H : Hp} {s : Shared} {p : Addr} {xs : List V} (I : Inv X pins σ H s) (h : H p = some (.lst xs)) :
    ∃ (its : List Value) (n : Nat), Vals xs its ∧ s.heap.get? p = some { cls := .type "list", data := .seq its.toArray n } ∧ xs.length ≤ sizeLine := by
  obtain ⟨z, its, n, r, e⟩ := I.hok p _ h
  exact ⟨its, n, r, e, z⟩
/-- the list at p is written by an update of its object -/
theorem Inv.lstUpd {pins : List (Addr × Obj)} {σ : St} {H : Hp} {s : Shared} {p : Addr} {xs ys : List V} {its its' : List Value} {n n' : Nat} {f : Obj → Obj} (I : Inv X pins σ H s) (h : H p = some (.lst xs))
    (ho : s.heap.get? p = some { cls := .type "list", data := .seq its.toArray n }) (hf : f { cls := .type "list", data := .seq its.toArray n } = { cls := .type "list", data := .seq its'.toArray n' }) (r : Vals ys its') (hz : ys.length ≤ sizeLine) (t : Nat) :
    Inv X pins σ (upd H p (.lst ys)) { s with heap := s.heap.update p f, toks := t } := by
  have e : (s.heap.update p f).get? p = some { cls := .type "list", data := .seq its'.toArray n' } := by
    rw [Heap.get?_update_self f ho (by rw [hf] <;> rfl), hf]
  refine I.write (x := p) (e := p) (by rw [h]; trivial) (.inl rfl) (fun b u hb q => (Heap.get?_update_other _ _ (Ne.symm hb)).trans q) ⟨_, e⟩ ?_
  exact ⟨hz, its', n', r, e⟩
def rSetL : V → V → V → Hp → (Hp → Prop) → Prop := fun o i v H Q => ∃ p xs k j, o = .ref p ∧ i = .int k ∧ H p = some (.lst xs) ∧ ixN xs.length k = some j ∧ Q (upd H p (.lst (xs.set j v)))
theorem set_list : PSet X rSetL := by
  intro pins s σ H o i v ov iv u Q I ro ri rv h
  obtain ⟨p, xs, k, j, rfl, rfl, hp, hj, q⟩ := h
  cases ro
  obtain ⟨t, rfl⟩ := ri
  obtain ⟨its, n, r, ho, hz⟩ := I.lst hp
  obtain ⟨h1, h2, h3, h4⟩ := ixN_seq hj
  have hl := r.length
  have hn := line63
  have I' : Inv X pins σ (upd H p (.lst (xs.set j v))) { s with heap := s.heap.update p (Obj.mapSeq (·.setIfInBounds j u)) } :=
    I.lstUpd hp ho (mapSeq_set its n j u) (r.set rv j) (by rw [List.length_set]; exact hz) s.toks
  by_cases h0 : 0 ≤ k
  · have hk : k.toNat = j := by
      rw [seqIndex_of h0 h4] at h1
      exact Option.some.inj h1
    exact PySem.W.ki_setAt ho h0 (by omega) (by rw [List.size_toArray, ← hl]; exact h4) (by rw [hk]; exact ⟨_, I', q⟩)
  · have hk : (k + (its.toArray.size : Int)).toNat = j := by
      rw [seqIndex_neg (by omega) h3] at h1
      rw [List.size_toArray, ← hl]
      exact Option.some.inj h1
    exact PySem.W.ki_setBack ho (by omega) (by rw [List.size_toArray, ← hl]; exact h3) (by omega) (by rw [hk]; exact ⟨_, I', q⟩)

/-! ### slices -/
theorem slice_bounds (lo hi : Option Int) (n : Nat) : (sliceBounds lo hi none n).1 = ((HT.sIx n 0 lo : Nat) : Int) ∧ (sliceBounds lo hi none n).2.1 = ((HT.sIx n n hi : Nat) : Int) ∧ (sliceBounds lo hi none n).2.2 = 1 := by
  refine ⟨?_, ?_, rfl⟩
  · cases lo with
    | none => simp [sliceBounds, HT.sIx]
    | some i =>
      simp only [sliceBounds, HT.sIx, Option.getD_none, show (1 : Int) > 0 by decide, if_true]
      by_cases h : i < 0
      · simp only [h, if_true] <;> omega
      · simp only [h, if_false] <;> omega
  · cases hi with
    | none => simp [sliceBounds, HT.sIx]
    | some i =>
      simp only [sliceBounds, HT.sIx, Option.getD_none, show (1 : Int) > 0 by decide, if_true]
      by_cases h : i < 0
      · simp only [h, if_true] <;> omega
      · simp only [h, if_false] <;> omega
theorem slicePick_cut (its : List Value) (lo hi : Option Int) : slicePick its.toArray lo hi none = ((its.drop (HT.sIx its.length 0 lo)).take (HT.sIx its.length its.length hi - HT.sIx its.length 0 lo)).toArray := by
  obtain ⟨h1, h2, h3⟩ := slice_bounds lo hi its.toArray.size
  unfold slicePick
  rw [h1, h2, h3]
  simp only [sliceRange_one, pick_run, List.size_toArray] <;> rfl
/-- xs[lo:hi] of a list: a new list -/
def rSlL (K : PySem.W.Frag) : V → Option Int → Option Int → Hp → VK → Prop := fun x lo hi H Q => ∃ a xs, x = .ref a ∧ SqL K H a xs ∧ ∀ p, H p = none → Q (.ref p) (upd H p (.lst (cutV xs lo hi)))
theorem sl_list : SlR X (rSlL X.K) := by
  intro pins s σ H x v vl vu lo hi sl Q I rx hs pl pu h
  obtain ⟨a, xs, rfl, hx, q⟩ := h
  cases rx
  obtain ⟨its, r, ht, hz⟩ := I.list hx
  have hlen := r.length
  refine ⟨"list", _, slot_list_getitem.lookup, ht.isList.typeIs, ?_⟩
  refine wpAny_getItem_list_slice ht.isList hs pl pu .none (by simp) ?_ (by rw [List.size_toArray] <;> omega)
  rw [slicePick_cut, ← hlen]
  refine ⟨.ref s.heap.objs.size, _, I.laid (t' := s.toks) (o := .lst (cutV xs lo hi)) (fun b ob q => Heap.get?_push_of_some _ q) (Nat.le_refl _) ?_, rfl, q _ (I.hok.fresh (Nat.le_refl _))⟩
  exact ⟨Nat.le_trans (cutV_length xs lo hi) hz, _, 0, (r.drop (HT.sIx xs.length 0 lo)).take (HT.sIx xs.length xs.length hi - HT.sIx xs.length 0 lo), Heap.get?_push_size _ rfl⟩

/-! ### in, not in: flat items -/
def flatV : V → Bool
  | .non => true
  | .bl _ => true
  | .int _ => true
  | .str _ => true
  | _ => false
/-- == of flat values -/
def eqV : V → V → Bool
  | .non, .non => true
  | .bl a, .bl b => a == b
  | .bl a, .int b => (if a then 1 else 0) == b
  | .int a, .bl b => a == (if b then 1 else 0)
  | .int a, .int b => a == b
  | .str a, .str b => a == b
  | _, _ => false
theorem eqAt_V {A : Around} {s : Shared} {y x : V} {u v : Value} (ry : RelV y u) (rx : RelV x v) (fy : flatV y = true) (fx : flatV x = true) : SeqAt.EqAt A s u v (eqV y x) := by
  cases y with
  | non =>
    cases ry
    cases x with
    | non => cases rx; exact SeqAt.EqAt.same _
    | bl b => cases rx; exact SeqAt.EqAt.none_bool b
    | int b => obtain ⟨t, rfl⟩ := rx; exact SeqAt.EqAt.none_int b t
    | str b => obtain ⟨t, rfl⟩ := rx; exact SeqAt.EqAt.none_str b t
    | _ => exact absurd (show false = true from fx) Bool.false_ne_true
  | bl a =>
    cases ry
    cases x with
    | non => cases rx; exact SeqAt.EqAt.bool_none a
    | bl b => cases rx; exact SeqAt.EqAt.bool_bool a b
    | int b => obtain ⟨t, rfl⟩ := rx; exact SeqAt.EqAt.bool_int a b t
    | str b => obtain ⟨t, rfl⟩ := rx; exact SeqAt.EqAt.bool_str a b t
    | _ => exact absurd (show false = true from fx) Bool.false_ne_true
  | int a =>
    obtain ⟨t', rfl⟩ := ry
    cases x with
    | non => cases rx; exact SeqAt.EqAt.int_none a t'
    | bl b => cases rx; exact SeqAt.EqAt.int_bool a t' b
    | int b => obtain ⟨t, rfl⟩ := rx; exact SeqAt.EqAt.int_int a t' b t
    | str b => obtain ⟨t, rfl⟩ := rx; exact SeqAt.EqAt.int_str a t' b t
    | _ => exact absurd (show false = true from fx) Bool.false_ne_true
  | str a =>
    obtain ⟨t', rfl⟩ := ry
    cases x with
    | non => cases rx; exact SeqAt.EqAt.str_none a t'
    | bl b => cases rx; exact SeqAt.EqAt.str_bool a t' b
    | int b => obtain ⟨t, rfl⟩ := rx; exact SeqAt.EqAt.str_int a t' b t
    | str b => obtain ⟨t, rfl⟩ := rx; exact SeqAt.EqAt.str_str a t' b t
    | _ => exact absurd (show false = true from fx) Bool.false_ne_true
  | _ => exact absurd (show false = true from fy) Bool.false_ne_true
/-- the items' answers, read off the values (a value's own answer does not lean on its token) -/
def eqU (x : V) (u : Value) : Bool := match u with
  | .none => eqV .non x
  | .bool b => eqV (.bl b) x
  | .int i _ => eqV (.int i) x
  | .str z _ => eqV (.str z) x
  | _ => false
theorem eqU_of {x y : V} {u : Value} (r : RelV y u) (f : flatV y = true) : eqU x u = eqV y x := by
  cases y with
  | non => cases r; rfl
  | bl b => cases r; rfl
  | int i => obtain ⟨t, rfl⟩ := r; rfl
  | str z => obtain ⟨t, rfl⟩ := r; rfl
  | _ => exact absurd (show false = true from f) Bool.false_ne_true
theorem any_eqU {x : V} : ∀ {xs : List V} {us : List Value}, Vals xs us → xs.all flatV = true → us.any (eqU x) = xs.any fun y => eqV y x
  | _, _, .nil, _ => rfl
  | y :: xs, u :: us, .cons r t, f => by
    rw [List.all_cons, Bool.and_eq_true] at f
    rw [List.any_cons, List.any_cons, eqU_of r f.1, any_eqU t f.2]
theorem mem_eqAt {A : Around} {s : Shared} {x : V} {v : Value} (rx : RelV x v) (fx : flatV x = true) : ∀ {xs : List V} {us : List Value}, Vals xs us → xs.all flatV = true → ∀ u ∈ us, SeqAt.EqAt A s u v (eqU x u)
  | _, _, .nil, _ => fun u hu => by cases hu
  | y :: xs, u :: us, .cons r t, f => fun u' hu => by
    rw [List.all_cons, Bool.and_eq_true] at f
    rcases List.mem_cons.mp hu with rfl | hu
    · rw [eqU_of r f.1]; exact eqAt_V r rx f.1 fx
    · exact mem_eqAt rx fx t f.2 u' hu
def inV (x : V) (xs : List V) : Bool := xs.any fun y => eqV y x
/-- x in a list or tuple of flat items -/
def rIn (K : PySem.W.Frag) (neg : Bool) : R2 := fun x y H Q => ∃ p xs, y = .ref p ∧ (SqL K H p xs ∨ SqT K H p xs) ∧ flatV x = true ∧ xs.all flatV = true ∧ Q (.bl (if neg then !inV x xs else inV x xs)) H
theorem op_in_seq : OpR X (compareOp .In) (rIn X.K false) := by
  intro pins s σ H x y v u Q I rx ry h
  obtain ⟨p, xs, rfl, hq, fx, fs, q⟩ := h
  cases ry
  rcases hq with hq | hq
  · obtain ⟨its, r, pl, hz⟩ := I.list hq
    refine SeqAt.in_listAt (eqU x) pl.isList (fun w hw => mem_eqAt rx fx r fs w (by simpa using hw)) ⟨.bl _, H, I, rfl, ?_⟩
    rw [show its.toArray.any (eqU x) = its.any (eqU x) by simp, any_eqU r fs]
    exact q
  · obtain ⟨its, r, pl, hz⟩ := I.tuple hq
    refine SeqAt.in_tupleAt (eqU x) pl (fun w hw => mem_eqAt rx fx r fs w (by simpa using hw)) ⟨.bl _, H, I, rfl, ?_⟩
    rw [show its.toArray.any (eqU x) = its.any (eqU x) by simp, any_eqU r fs]
    exact q
theorem op_notIn_seq : OpR X (compareOp .NotIn) (rIn X.K true) := by
  intro pins s σ H x y v u Q I rx ry h
  obtain ⟨p, xs, rfl, hq, fx, fs, q⟩ := h
  cases ry
  rcases hq with hq | hq
  · obtain ⟨its, r, pl, hz⟩ := I.list hq
    refine SeqAt.notIn_listAt (eqU x) pl.isList (fun w hw => mem_eqAt rx fx r fs w (by simpa using hw)) ⟨.bl _, H, I, rfl, ?_⟩
    rw [show its.toArray.any (eqU x) = its.any (eqU x) by simp, any_eqU r fs]
    exact q
  · obtain ⟨its, r, pl, hz⟩ := I.tuple hq
    refine SeqAt.notIn_tupleAt (eqU x) pl (fun w hw => mem_eqAt rx fx r fs w (by simpa using hw)) ⟨.bl _, H, I, rfl, ?_⟩
    rw [show its.toArray.any (eqU x) = its.any (eqU x) by simp, any_eqU r fs]
    exact q
/-! ### len, list(x), tuple(x) of any list or tuple that is read -/
theorem call_len_seq : CallR X (.builtin "len") (fun xs H Q => ∃ p ys, xs = [.ref p] ∧ (SqL X.K H p ys ∨ SqT X.K H p ys) ∧ Q (.int ys.length) H) := by
  intro pins s σ H xs us Q I r h
  obtain ⟨p, ys, rfl, hq, q⟩ := h
  obtain ⟨u, rfl, rx⟩ := vals1 r
  cases rx
  have hn := line63
  rcases hq with hq | hq
  · obtain ⟨its, r', pl, hz⟩ := I.list hq
    have hlen := r'.length
    exact Calls.call_len_list pl.isList (by simp only [List.size_toArray] <;> omega) ⟨.int ys.length, H, I.tok _, ⟨s.toks + 1, by rw [List.size_toArray, hlen]⟩, q⟩
  · obtain ⟨its, r', pl, hz⟩ := I.tuple hq
    have hlen := r'.length
    exact len_tuple pl (by simp only [List.size_toArray] <;> omega) ⟨.int ys.length, H, I.tok _, ⟨s.toks + 1, by rw [List.size_toArray, hlen]⟩, q⟩
theorem call_len_str : CallR X (.builtin "len") (fun xs H Q => ∃ z, xs = [.str z] ∧ z.length ≤ sizeLine ∧ Q (.int z.length) H) := by
  intro pins s σ H xs us Q I r h
  obtain ⟨z, rfl, hz, q⟩ := h
  obtain ⟨u, rfl, t, rfl⟩ := vals1 r
  have hn := line63
  exact len_str (by omega) ⟨.int z.length, H, I.tok _, ⟨_, rfl⟩, q⟩
theorem CallR.or {f : Value} {r r' : List V → Hp → VK → Prop} (h : CallR X f r) (h' : CallR X f r') : CallR X f (fun xs H Q => r xs H Q ∨ r' xs H Q) := by
  intro pins s σ H xs us Q I rs q
  rcases q with q | q
  · exact h pins s σ H xs us Q I rs q
  · exact h' pins s σ H xs us Q I rs q
theorem call_tuple_of : CallR X (.type "tuple") (fun xs H Q => ∃ p ys, xs = [.ref p] ∧ ((SqL X.K H p ys ∧ ∀ l, H l = none → Q (.ref l) (upd H l (.tup ys))) ∨ (SqT X.K H p ys ∧ Q (.ref p) H))) := by
  intro pins s σ H xs us Q I r h
  obtain ⟨p, ys, rfl, h⟩ := h
  obtain ⟨u, rfl, rx⟩ := vals1 r
  cases rx
  rcases h with ⟨hq, q⟩ | ⟨hq, q⟩
  · obtain ⟨its, r', pl, hz⟩ := I.list hq
    have hlen := r'.length
    refine call_tuple_list pl.isList (fun h' kp => ?_) (by simp only [List.size_toArray] <;> omega)
    have I1 : Inv X pins σ H { s with heap := h' } := I.kept (t' := s.toks) kp
    have I2 : Inv X pins σ (upd H h'.objs.size (.tup ys)) { s with heap := h'.push { cls := .type "tuple", data := .seq its.toArray } } :=
      I1.laid (t' := s.toks) (fun b o e => Heap.get?_push_of_some _ e) (Nat.le_refl _) (show ObjOk X.prog X.w _ _ _ (.tup ys) from ⟨hz, its, r', IsTup.new _ _⟩)
    exact ⟨.ref h'.objs.size, _, I2, rfl, q _ (I1.hok.fresh (Nat.le_refl _))⟩
  · obtain ⟨its, r', pl, hz⟩ := I.tuple hq
    exact call_tuple_same pl ⟨.ref p, H, I, rfl, q⟩

/-! ### the call of a builtin's method: o.m(..) -/
/-- the value is of that builtin type -/
def tyV (K : PySem.W.Frag) (T : String) (x : V) (H : Hp) : Prop := match x with
  | .str _ => T = "str"
  | .int _ => T = "int"
  | .ref p => (T = "list" ∧ ∃ xs, SqL K H p xs) ∨ (T = "tuple" ∧ ∃ o, K.lookup p = some o ∧ o.cls = .type "tuple" ∧ o.dict = none) ∨
      (T = "dict" ∧ ((∃ kvs, H p = some (.dK kvs)) ∨ ∃ kvs, H p = some (.dT kvs))) ∨ (T = "set" ∧ ∃ S n, H p = some (.set S n))
  | _ => False
theorem tyV_is {pins : List (Addr × Obj)} {σ : St} {H : Hp} {s : Shared} {T : String} {x : V} {v : Value} (I : Inv X pins σ H s) (r : RelV x v) (ty : tyV X.K T x H) :
    s.TypeIs v T ∧ ∀ a, v = .ref a → ∃ ob, s.heap.get? a = some ob ∧ ob.dict = none := by
  cases x with
  | str z =>
    obtain ⟨t, rfl⟩ := r
    cases (show T = "str" from ty)
    exact ⟨typeIs_str s z t, fun _ e => nomatch e⟩
  | int i =>
    obtain ⟨t, rfl⟩ := r
    cases (show T = "int" from ty)
    exact ⟨typeIs_int s i t, fun _ e => nomatch e⟩
  | ref p =>
    cases r
    rcases ty with ⟨rfl, xs, hq⟩ | ⟨rfl, o, hk, hc, hd⟩ | ⟨rfl, hk⟩ | ⟨rfl, S, n, hk⟩
    · obtain ⟨its, _, pl, _⟩ := I.list hq
      refine ⟨pl.isList.typeIs, fun a e => ?_⟩
      cases e
      obtain ⟨o, n, e, c, hd, _⟩ := pl
      exact ⟨o, e, hd⟩
    · refine ⟨⟨o, I.kIn p o hk, hc⟩, fun a e => ?_⟩
      cases e
      exact ⟨o, I.kIn _ o hk, hd⟩
    · have z : ∃ o, s.heap.get? p = some o ∧ o.ExactDict := by
        rcases hk with ⟨kvs, hk⟩ | ⟨kvs, hk⟩
        · obtain ⟨_, _, _, _, o, _, _, e, ex, _⟩ := I.hok p _ hk
          exact ⟨o, e, ex⟩
        · obtain ⟨_, _, _, _, o, _, _, e, ex, _⟩ := I.hok p _ hk
          exact ⟨o, e, ex⟩
      obtain ⟨o, e, ex⟩ := z
      refine ⟨⟨o, e, ex.1⟩, fun a e2 => ?_⟩
      cases e2
      exact ⟨o, e, ex.2.1⟩
    · obtain ⟨o, _, _, _, e, ex, _⟩ := I.hok p _ hk
      refine ⟨⟨o, e, ex.1⟩, fun a e2 => ?_⟩
      cases e2
      exact ⟨o, e, ex.2.1⟩
  | _ => exact False.elim ty
def tBM0 (K : PySem.W.Frag) (T : String) (r : V → List V → Hp → VK → Prop) (to : TE) : TE := fun σ H Q => to σ H fun x H1 => tyV K T x H1 ∧ r x [] H1 Q
def tBM (K : PySem.W.Frag) (T : String) (r : V → List V → Hp → VK → Prop) (to : TE) (t : TA) : TE := fun σ H Q => to σ H fun x H1 => tyV K T x H1 ∧ t σ H1 fun xs H2 => r x xs H2 Q
variable {o e : Expr} {es : List Expr} {to : TE} {t : TA} {name : Str} {apos cpos : Pos} {T id : String} {r : V → List V → Hp → VK → Prop}
theorem pe_bm0 (pa : PlainAttrs T) (slot : Slot T name id) (hty : typeOf (.builtin id) = pure (.type "method_descriptor")) (hm : MtR X id r) (ho : PE X o to)
    (hbase : attributeBase o name X.env (eval o X.env) = eval o X.env := by rfl) (hline : (apos.endLine == cpos.line) = true := by rfl) : PE X (.Call (.Attribute o name apos) [] [] cpos) (tBM0 X.K T r to) := by
  intro pins s σ H Q I h
  refine wpAny_Call_method0_late hbase hline (thn (ho pins s σ H _ I h) fun v s1 ⟨x, H1, I1, r1, ty, q1⟩ => ?_)
  obtain ⟨h1, h2⟩ := tyV_is I1 r1 ty
  exact ⟨T, id, pa, slot, hty, h1, h2, Calls.callWith_builtin rfl (PySem.evalArgs_none (hm pins s1 σ H1 x [] v [] Q I1 r1 .nil q1))⟩
theorem pe_bm (pa : PlainAttrs T) (slot : Slot T name id) (hty : typeOf (.builtin id) = pure (.type "method_descriptor")) (hm : MtR X id r) (ho : PE X o to) (ha : PA X (e :: es) t)
    (hbase : attributeBase o name X.env (eval o X.env) = eval o X.env := by rfl)
    (hfew : ((backTo cpos (starEach (e :: es) X.env)).all (fun x => !x.1) && (backToKw cpos (keywordEach [] X.env)).all (fun x => x.1.isSome)
      && decide ((e :: es).length + ([] : List Keyword).length + (if ([] : List Keyword).isEmpty then 0 else 1) < 30)) = true := by rfl)
    (hline : (apos.endLine == cpos.line) = true := by rfl) (hs : starEach (e :: es) X.env = (false, eval e X.env) :: starEach es X.env := by rfl) (hplain : (backTo cpos (starEach es X.env)).any (·.1) = false := by rfl) :
    PE X (.Call (.Attribute o name apos) (e :: es) [] cpos) (tBM X.K T r to t) := by
  intro pins s σ H Q I h
  refine wpAny_Call_method_late hbase hfew hline rfl (thn (ho pins s σ H _ I h) fun v s1 ⟨x, H1, I1, r1, ty, q1⟩ => ?_)
  obtain ⟨h1, h2⟩ := tyV_is I1 r1 ty
  refine ⟨T, id, pa, slot, hty, h1, h2, ?_⟩
  have hA := ha cpos pins s1 σ H1 _ I1 q1
  rw [hs] at hA ⊢
  refine Calls.callWith_builtin (by show (false || (backTo cpos (starEach es X.env)).any (·.1)) = false; rw [hplain] <;> rfl) (Calls.evalArgs_plain ?_)
  exact thn hA fun us s2 ⟨vs, H2, I2, r2, q2⟩ => hm pins s2 σ H2 x vs v us Q I2 r1 r2 q2
/- xs.append(e), list.index on a module's tuple .. are MtR facts of 06m -/
end
end L2

namespace L2
open PySem PySem.Spec PyProof.Rows

def MtM (X : Cx) (id : String) (r : V → List V → Hp → VK → Prop) : Prop :=
  ∀ (pins : List (Addr × Obj)) (s : Shared) (σ : St) (H : Hp) (x : V) (xs : List V) (v : Value) (us : List Value) (Q : VK), Inv X pins σ H s → RelV x v → Vals xs us → r x xs H Q →
    wpAny (model X.prog X.w) X.A (call (.builtin id) (v :: us)) (EP X pins σ Q) X.xe s

/-! ### lists of values -/
theorem Vals.one : ∀ {x : V} {us : List Value}, Vals [x] us → ∃ u, us = [u] ∧ RelV x u
  | _, _, .cons r .nil => ⟨_, rfl, r⟩
theorem Vals.two : ∀ {x y : V} {us : List Value}, Vals [x, y] us → ∃ u v, us = [u, v] ∧ RelV x u ∧ RelV y v
  | _, _, _, .cons r (.cons q .nil) => ⟨_, _, rfl, r, q⟩
theorem Vals.zero : ∀ {us : List Value}, Vals [] us → us = []
  | _, .nil => rfl
theorem Vals.reverse {xs : List V} {us : List Value} (h : Vals xs us) : Vals xs.reverse us.reverse := by
  induction h with
  | nil => exact .nil
  | cons r t ih => rw [List.reverse_cons, List.reverse_cons]; exact Vals.append ih (.cons r .nil)
section
variable {X : Cx} {pins : List (Addr × Obj)} {σ : St} {H : Hp} {s : Shared} {l b : Addr} {xs ys zs : List V}

/-! ### the two steps: a tracked list is rewritten, a new list is laid -/
theorem Inv.lset {its its' : List Value} {n : Nat} {f : Array Value → Array Value} {t' : Nat} (I : Inv X pins σ H s) (hH : H l = some (.lst xs))
    (e : s.heap.get? l = some { cls := .type "list", data := .seq its.toArray n }) (hf : f its.toArray = its'.toArray) (hv : Vals ys its') (hz : ys.length ≤ sizeLine) :
    Inv X pins σ (upd H l (.lst ys)) { s with heap := s.heap.update l (Obj.mapSeq f), toks := t' } := by
  have q := PySem.IsL.update e f
  rw [hf] at q
  refine I.write (x := l) (e := l) (by rw [hH]; exact trivial) (.inl rfl) (fun b' u hb hu => (Heap.get?_update_other s.heap (Obj.mapSeq f) (Ne.symm hb)).trans hu) ⟨_, q⟩ ?_
  exact ⟨hz, its', _, hv, q⟩
theorem Inv.lnew {its : List Value} {t' : Nat} (I : Inv X pins σ H s) (hv : Vals ys its) (hz : ys.length ≤ sizeLine) :
    Inv X pins σ (upd H s.heap.objs.size (.lst ys)) { s with heap := s.heap.push { cls := .type "list", data := .seq its.toArray }, toks := t' } :=
  I.laid (fun _ _ q => Heap.get?_push_of_some _ q) (Nat.le_refl _) ⟨hz, its, 0, hv, Heap.get?_push_size _ rfl⟩
theorem Inv.fresh (I : Inv X pins σ H s) : H s.heap.objs.size = none := I.hok.fresh (Nat.le_refl _)
theorem Inv.lstM (I : Inv X pins σ H s) (hH : H l = some (.lst xs)) : xs.length ≤ sizeLine ∧ ∃ (its : List Value) (n : Nat), Vals xs its ∧ xs.length = its.length ∧ s.heap.get? l = some { cls := .type "list", data := .seq its.toArray n } := by
  obtain ⟨z, its, n, r, e⟩ := I.hok l _ hH
  exact ⟨z, its, n, r, r.length, e⟩

end

section
variable {X : Cx}

/-! ### methods -/
def rAppend : V → List V → Hp → VK → Prop := fun x vs H Q => ∃ l xs y, x = .ref l ∧ vs = [y] ∧ H l = some (.lst xs) ∧ xs.length < sizeLine ∧ Q .non (upd H l (.lst (xs ++ [y])))
theorem mt_append : MtM X "list.append" rAppend := by
  intro pins s σ H x vs v us Q I rx rv h
  obtain ⟨l, xs, y, rfl, rfl, hH, hz, q⟩ := h
  cases rx
  obtain ⟨u, rfl, ru⟩ := rv.one
  obtain ⟨z, its, n, r, hl, e⟩ := I.lstM hH
  refine call_meets F.slot_list_append ⟨_, e, rfl⟩ F.entry_list_append (F.args_list_append_2 _ _) (PySem.list_append l its.toArray n u (by rw [List.size_toArray]; omega)) ⟨e, ?_⟩
  refine ⟨.non, _, I.lset (its' := its ++ [u]) hH e (by simp) (r.append (.cons ru .nil)) ?_, rfl, q⟩
  rw [List.length_append, List.length_singleton]
  omega

/-! ### list + list, list += list, list * int -/
def rCat : R2 := fun x y H Q => ∃ l b xs zs, x = .ref l ∧ y = .ref b ∧ H l = some (.lst xs) ∧ H b = some (.lst zs) ∧ xs.length + zs.length ≤ sizeLine ∧ ∀ p, H p = none → Q (.ref p) (upd H p (.lst (xs ++ zs)))
theorem op_cat : OpR X (binaryOp .Add) rCat := by
  intro pins s σ H x y v u Q I rx ry h
  obtain ⟨l, b, xs, zs, rfl, rfl, hH, hB, hz, q⟩ := h
  cases rx
  cases ry
  obtain ⟨z, its, n, r, hl, e⟩ := I.lstM hH
  obtain ⟨z2, its2, n2, r2, hl2, e2⟩ := I.lstM hB
  refine PySem.P.add_list e e2 ?_ (by rw [List.size_toArray, List.size_toArray]; omega)
  have ea : its.toArray ++ its2.toArray = (its ++ its2).toArray := by simp
  rw [ea]
  exact ⟨.ref _, _, I.lnew (t' := s.toks) (r.append r2) (by rw [List.length_append]; omega), rfl, q _ I.fresh⟩
/-! ### del xs[i] -/
end

/-! ### xs[a:b] = ys -/
section
variable {prog : Program} {w : World} {A : Around} {E : Value → Shared → Prop} {s : Shared}
end

section
variable {X : Cx}
end
end L2

namespace Att
open PySem PySem.W PySem.Calls PyProof.Rows

/-! ### the script -/
theorem ints_of_wellAll {P : Params} {h : Heap} : ∀ (ns : List Int) (vs : List Value), WellAll P h vs (ns.map WData.int) → IntsAre vs ns := by
  intro ns
  induction ns with
  | nil =>
    intro vs w
    rw [List.map_nil] at w
    cases w
    exact .nil
  | cons n ns ih =>
    intro vs w
    rw [List.map_cons] at w
    cases w with
    | cons a b =>
      cases a
      exact .cons _ _ (ih _ b)

theorem script_of {l : OpenLaw} {n : Nat} (hn : l.most = some n) {P : Params} {h : Heap} {args : List WData} {vals : List Value}
    (hpre : l.row.toRowW.claim.pre args = true) (hwl : WellAll P h vals args) :
    ∃ a vs ns, vals = [Value.ref a] ∧ args = [WData.list (ns.map WData.int)] ∧ h.get? a = some { cls := .type "list", data := .seq vs.toArray } ∧ IntsAre vs ns ∧ ns.length ≤ n := by
  have hsh : WShape.hasAll [] args [.list .int] = true := (pre_splitW hpre).1
  have hc : l.pre.holds [] { args := args } = true := (pre_splitW hpre).2
  obtain ⟨d, r, rfl, h1, h2⟩ := hasAllW_cons hsh
  obtain rfl := hasAllW_nil h2
  obtain ⟨xs, rfl, h3⟩ := hasW_list h1
  obtain ⟨ns, rfl⟩ := items_int h3
  have hlen : ns.length ≤ n := by
    unfold OpenLaw.pre at hc
    have h4 : (WTm.not (.lt (.lit (.int (n : Int))) (.len (.arg 0)))).holds [] { args := [.list (ns.map .int)] } = true := by
      have h4 := (holds_andW hc).1
      rw [hn] at h4
      exact h4
    have h5 := condW_of h4 (w_not (w_lt w_lit (w_len_list (w_arg rfl))))
    rw [List.length_map] at h5
    refine Nat.le_of_not_lt fun q => ?_
    have q' : (n : Int) < ((ns.length : Nat) : Int) := by omega
    first
      | (rw [decide_eq_true q'] at h5; exact absurd h5 (by decide))
      | (simp at h5; omega)
  cases hwl with
  | cons w1 w2 =>
    cases w2
    cases w1 with
    | list ho hall => exact ⟨_, _, ns, rfl, rfl, ho, ints_of_wellAll ns _ hall, hlen⟩

theorem post_true (l : OpenLaw) (args : List WData) : l.row.toRowW.claim.post args (.bool true) args = true :=
  postW_of (r := l.row.toRowW) (X := (true == true))
    (show WShape.has [] (.bool true) .bool = true by first | rfl | decide | simp [WShape.has, WShape.arms, WShape.armsAll])
    (show (WTm.eq .res (.lit (.bool true))).value [] { args := args, res := some (.bool true), after := args } = some (.bool (true == true)) from w_eq_bool (w_res rfl) w_lit) rfl

/-! ### the attachment: holds_open's last premise (the goal 'hc' behind k_head) from a wpAny of the law's body -/
/-- the same from a codeAny of the CALL (for a layer whose function contracts speak of calls) -/
theorem attach_call {l : OpenLaw} {n : Nat} {q : Program} {loose : List Str} {XP : (Str → Option Value) → Heap → Prop} {YP : World → Heap → Prop} {d : DefRec}
    (hn : l.most = some n) (hdf : d.params.defaults = [])
    (call : ∀ (w : World) (s₀ s₁ : Shared) (mg mb : Str → Option Value) (fa : Addr) (o : Obj) (pm cd doc : Value) (a : Addr) (vs : List Value) (ns : List Int),
      Ground q loose [] XP w s₀ mg mb s₁.heap → YP w s₁.heap →
      s₁.heap.get? fa = some o → o.data = .func (docDef d.name d.params d.body d.scope pm cd doc) → s₁.heap.CodeRec cd d.name → mg d.name = some (.ref fa) →
      s₁.heap.get? a = some { cls := .type "list", data := .seq vs.toArray } → IntsAre vs ns → ns.length ≤ n → s₁.gens = #[] →
      codeAny (model l.prog w) callerA (.call (.ref fa) ⟨[.ref a], []⟩) (fun r s' => r = .ok (.ret (.bool true)) ∧ OldK s₁.heap s'.heap ∧ s'.os = s₁.os ∧ AllBare s'.gens) s₁) :
    WalkO q loose XP YP l.row.toRowW d [] (fun f vs => PySem.call f vs) := by
  intro w s₀ s₁ mg mb G Y fa o pm cd doc dV kV ho hd hcd hD hmg hg args vals as hpre hlay hrd hwl hlo
  obtain rfl : dV = .none := Dflts.none hD hdf
  obtain rfl : kV = .none := Dflts.noKw hD
  obtain ⟨a, vs, ns, rfl, rfl, hobj, hints, hlen⟩ := script_of hn hpre hwl
  refine enter_call (codeAny_mono (call w s₀ s₁ mg mb fa o pm cd doc a vs ns G Y ho (fd_plain hd) hcd hmg hobj hints hlen hg) fun r s' hq => ?_)
  obtain ⟨rfl, h2, h3, h4⟩ := hq
  exact ⟨.inl ⟨.bool true, .bool true, [], rfl, fun _ => rfl, .bool true, post_true l _, fun _ => ⟨List.Pairwise.nil, fun _ hm => (nomatch hm)⟩⟩, h2, h3, h4⟩

/-! ### rules over ANY heap (no ledger) from facts about the written part K: the library's own take a ledger (News) for what they write -/
section
variable {prog : Program} {w : World} {A : Around} {E : Value → Shared → Prop} {s : Shared} {K : Frag}

/-! the whole heap as the ledger: makes every rule that writes through a ledger a rule over any heap -/
def ledger (h : Heap) (L d : Addr) : List (Addr × Obj) := (List.range h.objs.size).filterMap fun a => if a = L ∨ a = d then none else (h.get? a).map fun o => (a, o)
end
end Att

namespace L2
open PySem PySem.Spec PyProof.Rows

theorem vals_ints : ∀ {vs : List Value} {ns : List Int}, IntsAre vs ns → Vals (ns.map V.int) vs
  | _, _, .nil => .nil
  | _, _, .cons n t h => .cons ⟨t, rfl⟩ (vals_ints h)

/-- nothing is tracked but the script, known to the object (or it is an object of the module) -/
def Only (H : Hp) : Prop := ∀ b, H b = none ∨ ∃ o xs, H b = some (.frz o (.lst xs))

/-- THE HEAD: the law's promise, at the heap behind the top. F, the promise of the law's def, may use that base is part of the heap (so K.In base, base.Ns mainGlobals mg stand in Mod) -/
theorem law_call {cm : Bool} {P : Program} {w : World} {K : PySem.W.Frag} {mg mb : Str → Option Value} {CX : CXT} {k : Nat} {fa a : Addr} {fd : FuncData} {x : Str} {sp : Sp} {s₁ : Shared} {vs : List Value} {ns : List Int}
    (KX : K.In s₁.heap) (hns : s₁.heap.Ns mainGlobals mg) (hb : s₁.heap.Ns builtinsNs mb) (hbb : ∀ x : Str, x ≠ "__name__" → mb x = bootBuiltins x) (hlim : s₁.heap.NoLimit) (hg : s₁.gens = #[])
    (ha : s₁.heap.get? a = some { cls := .type "list", data := .seq vs.toArray }) (hi : IntsAre vs ns) (hl : ns.length ≤ sizeLine) (hr : Room cm k callerA)
    (F : ∀ base : Heap, K.In base → base.Ns mainGlobals mg → FnOk P w K mg base CX cm k fa fd [x] sp) (hbind : ∀ (s : Shared) (u : Value), BindsTo s fd ⟨[u], []⟩ [(x, u)])
    (hsp : ∀ H : Hp, Only H → SqL K H a (ns.map V.int) → sp [.ref a] H (fun v _ => v = .bl true) fun _ _ _ => False)
    (hCX : ∀ H e s', CX [] H s₁ (fun _ _ _ => False) e s' → False) :
    codeAny (model P w) callerA (.call (.ref fa) ⟨[.ref a], []⟩) (fun r s' => r = .ok (.ret (.bool true)) ∧ OldK s₁.heap s'.heap ∧ s'.os = s₁.os ∧ AllBare s'.gens) s₁ := by
  have rv := vals_ints hi
  have lenV := hi.length
  -- from an abstract heap in which nothing but the script may be tracked
  have core : ∀ H : Hp, Only H → SqL K H a (ns.map V.int) → HOk P w H s₁.heap → (∀ b, H b ≠ none → b = a) → (H a ≠ none → K.lookup a = none) →
      codeAny (model P w) callerA (.call (.ref fa) ⟨[.ref a], []⟩) (fun r s' => r = .ok (.ret (.bool true)) ∧ OldK s₁.heap s'.heap ∧ s'.os = s₁.os ∧ AllBare s'.gens) s₁ := by
    intro H hO hS hok hA hK
    have base_of : ∀ {b : Addr} {o : Obj}, s₁.heap.get? b = some o → H b = none → (hidT s₁.heap H).get? b = some o := fun e n => hidT_get e n
    have noA : ∀ {b : Addr} {o : Obj} {es : Array DictEntry} {ep : Nat}, s₁.heap.get? b = some o → o.data = .dict es ep → H b = none := fun {b o es ep} e d => by
      cases q : H b with
      | none => rfl
      | some u =>
        have e' : b = a := hA b (by rw [q]; simp)
        subst e'
        rw [ha] at e; cases e
        have d' : Data.seq vs.toArray _ = Data.dict es ep := d
        cases d'
    have nsK : ∀ {b : Addr} {m : Str → Option Value}, s₁.heap.Ns b m → (hidT s₁.heap H).Ns b m := fun {b m} ⟨o, es, ep, e, d, r⟩ => ⟨o, es, ep, base_of e (noA e d), d, r⟩
    have hKb : K.In (hidT s₁.heap H) := fun b o e => base_of (KX b o e) (by
      cases q : H b with
      | none => rfl
      | some u =>
        have e' : b = a := hA b (by rw [q]; simp)
        subst e'
        rw [hK (by rw [q]; simp)] at e; cases e)
    have hM : Mod K mg (hidT s₁.heap H) := ⟨hKb, nsK hns, ⟨mb, nsK hb, hbb⟩, let ⟨mc, h1, h2⟩ := hlim; ⟨mc, nsK h1, h2⟩⟩
    have e0 : Env0 P w K mg (hidT s₁.heap H) callerA [] s₁ H := ⟨rfl, hM, fun b o e => of_hidT e, Nat.le_of_eq (hidT_size _ _), trivial, fun b hb => absurd (show b ∈ ([] : List Addr) from hb) (by simp), hok, .of_eq hg⟩
    refine codeAny_mono ((F _ hKb (nsK hns)).run callerA [] s₁ H ⟨[.ref a], []⟩ [.ref a] [.ref a] _ _ hr e0 (hbind s₁ (.ref a)) (.cons rfl .nil) (hsp H hO hS)) fun r s' h => ?_
    cases r with
    | error e => exact (hCX H e s' h).elim
    | ok fl =>
      cases fl with
      | next => exact False.elim h
      | brk => exact False.elim h
      | cont => exact False.elim h
      | ret u =>
        obtain ⟨v, H', os, bare, un, hok', r', q⟩ := h
        have q' : v = .bl true := q
        subst q'
        obtain rfl : u = Value.bool true := r'
        refine ⟨rfl, OldK.of_keep fun b o e => ?_, os, bare⟩
        cases q : H b with
        | none => exact un.keep b o e q (by intro z; exact absurd (show b ∈ ([] : List Addr) from z) (by simp)) (by simp)
        | some u =>
          rcases hO b with z | ⟨ob, xs, z⟩
          · rw [q] at z; cases z
          · have z2 := un.frzs b ob _ z
            obtain ⟨e1, _⟩ := hok b _ z
            obtain ⟨e2, _⟩ := hok' b _ z2
            rw [e] at e1; cases e1
            exact e2
  cases hk : K.lookup a with
  | some o =>
    -- the script is one of the module's own objects
    have e := KX a o hk
    rw [ha] at e
    cases e
    refine core (fun _ => none) (fun _ => .inl rfl) (.inr ⟨_, vs.toArray, _, hk, rfl, rfl, rfl, by rw [List.size_toArray, lenV]; exact hl, by simpa using rv⟩) (fun b u z => by have z' : (none : Option HO) = some u := z; cases z') (fun b z => absurd rfl z) fun z => absurd rfl z
  | none =>
    refine core (fun b => if b = a then some (.frz { cls := .type "list", data := .seq vs.toArray } (.lst (ns.map V.int))) else none) (fun b => ?_) (.inl (.inr ⟨{ cls := .type "list", data := .seq vs.toArray }, if_pos rfl⟩)) (fun b u z => ?_) (fun b z => ?_) fun _ => hk
    · by_cases hb : b = a
      · exact .inr ⟨_, _, if_pos hb⟩
      · exact .inl (if_neg hb)
    · by_cases hb : b = a
      · have z' := (if_pos hb).symm.trans z
        cases z'
        subst hb
        exact ⟨ha, by rw [List.length_map]; exact hl, vs, _, rv, ha⟩
      · have z' := (if_neg hb).symm.trans z
        cases z'
    · by_cases hb : b = a
      · exact hb
      · exact absurd (if_neg hb) z
end L2

namespace L2
open PySem PySem.Spec PyProof.Rows

abbrev KOf {K : PySem.W.Frag} {h : Heap} (_ : K.In h) : PySem.W.Frag := K

/-- the goal that k_head leaves (case hc), from the law's promise. F gives the function object fd (K's own) once, then the promise over every base -/
theorem walk_of {cm : Bool} {l : PySem.W.OpenLaw} {n k : Nat} {q : Program} {loose : List Str} {XP : (Str → Option Value) → Heap → Prop} {YP : World → Heap → Prop} {d : DefRec} {K : Params → PySem.W.Frag} {CX : World → CXT} {sp : World → Sp} {x : Str}
    (hn : l.most = some n) (hn2 : n ≤ sizeLine) (hdf : d.params.defaults = []) (hr : Room cm k callerA)
    (hY : ∀ (w : World) (h : Heap), YP w h → (K w.params).In h)
    (F : ∀ (w : World) (mg : Str → Option Value) (fa : Addr) (h : Heap), (K w.params).In h → h.Ns mainGlobals mg → mg d.name = some (.ref fa) →
      ∃ fd : FuncData, (∀ (s : Shared) (u : Value), BindsTo s fd ⟨[u], []⟩ [(x, u)]) ∧
        ∀ base : Heap, (K w.params).In base → base.Ns mainGlobals mg → FnOk l.prog w (K w.params) mg base (CX w) cm k fa fd [x] (sp w))
    (hsp : ∀ (w : World) (H : Hp) (a : Addr) (ns : List Int), ns.length ≤ n → Only H → SqL (K w.params) H a (ns.map V.int) → sp w [.ref a] H (fun v _ => v = .bl true) fun _ _ _ => False)
    (hCX : ∀ (w : World) (H : Hp) (s : Shared) (e : Value) (s' : Shared), CX w [] H s (fun _ _ _ => False) e s' → False) :
    PySem.W.WalkO q loose XP YP l.row.toRowW d [] (fun f vs => PySem.call f vs) := by
  refine Att.attach_call hn hdf fun w s₀ s₁ mg mb fa o pm cd doc a vs ns G Y ho hd hcd hmg hobj hints hlen hg => ?_
  have KX := hY w _ Y
  obtain ⟨fd, hb, hF⟩ := F w mg fa _ KX G.T.g hmg
  exact law_call KX G.T.g G.T.b G.T.builtins G.T.nolimit hg hobj hints (Nat.le_trans hlen hn2) hr hF hb (fun H hO hS => hsp w H a ns hlen hO hS) fun H e s' => hCX w H s₁ e s'
end L2

/- THE LAST THEOREM (shape; LID, My.* are yours):
   My.Adr: a structure of the addresses that your layer names (classes, functions); My.Txt K t: a structure (Prop) of the equations over K;
   My.txt_mk : {K} {implicit addresses ..} (e1 : nsIn K mainGlobals "law" = some (some (.ref f))) (e2 : K.lookup f = some ⟨oc, od, .func (fnOf "law" "law" params body scope dV kV doc pm an cdv ct), sl⟩) (e3 : codeIn K cdv "law" = true) .. : ∃ t, My.Txt K t

set_option maxRecDepth 100000 in
set_option maxHeartbeats 0 in
theorem PySem.Challenge.cw_LID_holds : PySem.Challenge.rw_LID.Holds := by
  w_on; o_law; k_head; (case hw => w_witness2)
  k_fill
  refine L2.walk_of (l := PySem.Challenge.rw_LID) (n := 63) (k := 40) (x := "script") (CX := fun w => ..) (sp := fun _ => My.sp_law) rfl (by decide) rfl ⟨rfl, by decide, by decide⟩ (fun w h Y => PySem.W.kIn_of Y) ?F ?S ?C
  case F =>
    intro w mg fa h KX G hmg
    have T : ∃ t, My.Txt (L2.KOf KX) t := by
      dsimp only [L2.KOf]                          -- K must stand as «<heap const> w.params» for k_is
      refine' My.txt_mk ?e1 ?e2 ?e3 ..
      (case e1 => PySem.W.k_is)                    -- in the order: a name -> its address -> its object -> its parts
      (case e2 => PySem.W.k_is)
      ..
    obtain ⟨t, T⟩ := T
    have e0 := hmg.symm.trans (PySem.W.mg_of KX G T.law)
    cases e0                                       -- fa is the law's own address
    exact ⟨_, fun s u => .of_eq rfl, fun base kb nb => My.law_fn T kb nb⟩     -- if «.of_eq rfl» comes too early: refine' ⟨_, ?b, fun base kb nb => My.law_fn T kb nb⟩; exact fun s u => .of_eq rfl
  case S => exact fun w H a ns hl hO hS => ..
  case C => exact ..
(the tactic k_is has no namespace: write k_is) -/

/-! SHORT WORDS over the layer: a def of the text, its body, what a loop and a test want. -/
namespace L2
open PySem PySem.Spec PyProof.Rows

/-! ### the text by places -/
def defArgs (s : Stmt) : Arguments := match s with
  | .FunctionDef _ a _ _ _ _ _ _ _ _ => a
  | _ => { posonlyargs := [], args := [], vararg := none, kwonlyargs := [], kw_defaults := [], kwarg := none, defaults := [] }
def defBody (s : Stmt) : List Stmt := match s with
  | .FunctionDef _ _ b _ _ _ _ _ _ _ => b
  | _ => []
def defScope (s : Stmt) : Scope := match s with
  | .FunctionDef _ _ _ _ _ _ sc _ _ _ => sc
  | _ => { kind := .function, names := [], isGenerator := false, isCoroutine := false }

/-! ### no exception leaves a def -/
abbrev CX0 : CXT := fun _ _ _ _ _ _ => False
abbrev E0 : XK := fun _ _ _ => False
theorem pass0 {X : Cx} : Passes CX0 X E0 := fun _ _ _ _ _ _ _ h => h.elim

/-! ### a def (or method) of the text as it stands behind the top -/
structure Fun (K : PySem.W.Frag) (x qual : Str) (st : Stmt) (f : Addr) (fd : FuncData) : Prop where
  ex : ∃ (oc : Value) (od : Option Addr) (kV doc pm : Value) (an : Option Addr) (cdv ct : Value) (osl : Array (Option Value)),
    fd = PySem.W.fnOf x qual (defArgs st) (defBody st) (defScope st) .none kV doc pm an cdv ct ∧ K.lookup f = some ⟨oc, od, .func fd, osl⟩ ∧ PySem.W.codeIn K cdv qual = true
  kp : PySem.W.keepIn K (.ref f) = true
section
variable {P : Program} {w : World} {K : PySem.W.Frag} {mg : Str → Option Value} {base : Heap}
/-- THE RULE for a def: its body as a term of rules, and the reading of that term -/
theorem Fun.ok {cm : Bool} {x qual : Str} {st : Stmt} {f : Addr} {fd : FuncData} {N ps : List Str} {k : Nat} {sp : Sp} (F : Fun K x qual st f fd) (S : FnScope N ps (defScope st)) (len : ∀ vs H Q E, sp vs H Q E → vs.length = ps.length)
    (hbody : ∀ (cdv : Value) (A : Around) (outer : List Env) (s : Shared) (H : Hp) (vs : List V) (Q : VK) (E : XK), Room cm k (A.deeper (envOfC qual (defScope st) s.heap.objs.size f cdv)) → sp vs H Q E →
      ∃ t, PSs (cxOf CX0 cm P w K mg base N qual (defScope st) f cdv A outer s H E).nox (defBody st) t ∧ t { nx := fun _ H' => Q .non H', rt := Q } (start N vs) H) : FnOk P w K mg base CX0 cm (k + 1) f fd ps sp := by
  obtain ⟨oc, od, kV, doc, pm, an, cdv, ct, osl, rfl, lk, hcd⟩ := F.ex
  refine fn_of lk hcd S len fun A outer s H vs Q E hr hsp => ?_
  obtain ⟨t, h, q⟩ := hbody cdv A outer s H vs Q E hr hsp
  exact ⟨t, h.nox, q⟩
/-- how its arguments bind (no defaults): h is «fun _ _ _ _ _ _ us hl => match us, hl with | [_, _], _ => rfl», one _ a parameter -/
theorem Fun.binds {x qual : Str} {st : Stmt} {f : Addr} {fd : FuncData} {ps : List Str} (F : Fun K x qual st f fd)
    (h : ∀ (kV doc pm : Value) (an : Option Addr) (cdv ct : Value) (us : List Value), us.length = ps.length → bindArgs (PySem.W.fnOf x qual (defArgs st) (defBody st) (defScope st) .none kV doc pm an cdv ct) ⟨us, []⟩ = pure (ps.zip us)) : Binds K fd ps [] := by
  obtain ⟨oc, od, kV, doc, pm, an, cdv, ct, osl, rfl, lk, hcd⟩ := F.ex
  exact .all (h kV doc pm an cdv ct)
theorem fun_mk {x qual : Str} {st : Stmt} {f : Addr} {oc : Value} {od an : Option Addr} {osl : Array (Option Value)} {kV doc pm cdv ct : Value} (l : K.lookup f = some ⟨oc, od, .func (PySem.W.fnOf x qual (defArgs st) (defBody st) (defScope st) .none kV doc pm an cdv ct), osl⟩)
    (c : PySem.W.codeIn K cdv qual = true) (k : PySem.W.keepIn K (.ref f) = true) : Fun K x qual st f (PySem.W.fnOf x qual (defArgs st) (defBody st) (defScope st) .none kV doc pm an cdv ct) := ⟨⟨oc, od, kV, doc, pm, an, cdv, ct, osl, rfl, l, c⟩, k⟩
end
theorem hu_of {cm : Bool} {A : Around} {k : Nat} (hr : Room cm k A) : A.units + 1 < cLine := Nat.lt_of_le_of_lt (Nat.add_le_add_left (by decide : 1 ≤ 64) _) hr.units
/-! ### expressions in short: the name that stands in the i-th slot -/
section
variable {X : Cx}
theorem pv (i : Nat) {x : Str} {pos : Pos} (hN : X.N[i]? = some x := by rfl) (hv : Vis X.env.scope x := by first | exact Or.inl rfl | exact Or.inr (Or.inl rfl) | exact Or.inr (Or.inr rfl)) (hd : (x == ("__debug__" : Str)) = false := by decide)
    (hcd : (x == ("__classdict__" : Str)) = false := by decide) : PE X (.Name x pos) (tVar i) := pe_var hN hv hd hcd
end

/-! ### tests -/
theorem iteF {A B : Prop} (h : B) : if false = true then A else B := by
  rw [if_neg Bool.false_ne_true]
  exact h
theorem iteT {A B : Prop} (h : A) : if true = true then A else B := by
  rw [if_pos rfl]
  exact h
theorem ite2 {c A B : Prop} [Decidable c] (h1 : c → A) (h2 : ¬ c → B) : if c then A else B := by
  by_cases h : c
  · rw [if_pos h]
    exact h1 h
  · rw [if_neg h]
    exact h2 h
theorem iteNS {c A B : Prop} [Decidable c] (hc : c) (h : B) : if (!decide c) = true then A else B := by
  rw [decide_eq_true hc]
  exact iteF h

/-! ### heaps -/
/-- all that was tracked is as it was -/
def Same (H H' : Hp) : Prop := ∀ b o, H b = some o → H' b = some o
theorem Same.refl (H : Hp) : Same H H := fun _ _ h => h
theorem Same.trans {H H1 H2 : Hp} (a : Same H H1) (b : Same H1 H2) : Same H H2 := fun c o h => b c o (a c o h)
theorem Same.free {H H' : Hp} (e : Same H H') {l : Addr} (h : H' l = Option.none) : H l = Option.none := by
  cases q : H l with
  | none => rfl
  | some o =>
    rw [e l o q] at h
    cases h
theorem Same.seq {K : PySem.W.Frag} {H H' : Hp} {a : Addr} {xs : List V} (e : Same H H') (h : SqL K H a xs) : SqL K H' a xs := by
  rcases h with (h | ⟨o, h⟩) | h
  · exact .inl (.inl (e _ _ h))
  · exact .inl (.inr ⟨o, e _ _ h⟩)
  · exact .inr h

end L2

namespace L2
open PySem PySem.Spec PyProof.Rows

/-- what a comprehension's scope draws from around: the free names' cells -/
def clOf (env : Env) : List (Str × NameKind) → List (Str × Addr) → List (Str × Addr)
  | [], acc => acc
  | (n, k) :: r, acc => if k == .free then clOf env r ((n, (env.cells.lookup n).getD 0) :: acc) else clOf env r acc
theorem clOf_old {env : Env} {x : Str} {c : Addr} : ∀ {ns : List (Str × NameKind)} {acc : List (Str × Addr)}, (∃ c, acc.lookup x = some c) → ∃ c, (clOf env ns acc).lookup x = some c
  | [], _, h => h
  | (n, k) :: r, acc, h => by
    unfold clOf
    split
    · refine clOf_old (c := c) ?_
      obtain ⟨c', e⟩ := h
      rw [List.lookup_cons]
      cases q : x == n
      · exact ⟨c', e⟩
      · exact ⟨_, rfl⟩
    · exact clOf_old (c := c) h
theorem clOf_has {env : Env} {x : Str} : ∀ {ns : List (Str × NameKind)} {acc : List (Str × Addr)}, (x, NameKind.free) ∈ ns → ∃ c, (clOf env ns acc).lookup x = some c
  | (n, k) :: r, acc, h => by
    unfold clOf
    rcases List.mem_cons.mp h with e | h
    · cases e
      rw [if_pos (by rfl)]
      exact clOf_old (c := 0) ⟨_, by rw [List.lookup_cons, beq_self_eq_true]⟩
    · split
      · exact clOf_has h
      · exact clOf_has h
theorem clOf_of {env : Env} {x : Str} {c : Addr} : ∀ {ns : List (Str × NameKind)} {acc : List (Str × Addr)}, (∀ y ∈ ns, y.2 = .free → ∃ d, env.cells.lookup y.1 = some d) → (∀ y d, acc.lookup y = some d → env.cells.lookup y = some d) →
    (clOf env ns acc).lookup x = some c → env.cells.lookup x = some c
  | [], _, _, ha, h => ha _ _ h
  | (n, k) :: r, acc, hn, ha, h => by
    unfold clOf at h
    have hr : ∀ y ∈ r, y.2 = .free → ∃ d, env.cells.lookup y.1 = some d := fun y hy => hn y (List.mem_cons_of_mem _ hy)
    split at h
    · rename_i hk
      have hk' : k = .free := by simpa using hk
      obtain ⟨d, hd⟩ := hn (n, k) List.mem_cons_self hk'
      refine clOf_of hr (fun y d' hy => ?_) h
      rw [List.lookup_cons] at hy
      cases q : y == n
      · rw [q] at hy
        exact ha y d' hy
      · rw [q] at hy
        have e : y = n := by simpa using q
        subst e
        have hd' : env.cells.lookup y = some d := hd
        rw [hd'] at hy
        rw [hd']
        exact hy
    · exact clOf_of hr ha h
theorem mem_of_lookup_str {x : Str} {k : NameKind} : ∀ {ns : List (Str × NameKind)}, ns.lookup x = some k → (x, k) ∈ ns
  | (n, j) :: r, h => by
    rw [List.lookup_cons] at h
    cases q : x == n
    · rw [q] at h
      exact List.mem_cons_of_mem _ (mem_of_lookup_str h)
    · rw [q] at h
      have e : x = n := by simpa using q
      subst e
      cases h
      exact List.mem_cons_self

/-- the context of a comprehension's block; no exception leaves it -/
def cxComp (X : Cx) (N : List Str) (scope : Scope) (C : Addr) (s : Shared) (H : Hp) (fp : List Addr) : Cx where
  prog := X.prog
  w := X.w
  K := X.K
  mg := X.mg
  base := X.base
  A := X.A
  N := N
  s₀ := s
  H₀ := H
  env := compEnvC scope (clOf X.env scope.names []) C X.env
  outer := X.stack
  stack := X.stack
  ex := fp
  fn := fun _ => false
  calm := X.calm
  pn := []
  xe := fun _ _ => False

/-- the names that are drawn from around, by their places -/
def capOk (sc scope : Scope) (N0 : List Str) : List (Option Nat) → List Str → Bool
  | [], _ => true
  | none :: r, _ :: n => capOk sc scope N0 r n
  | some j :: r, x :: n => decide (N0[j]? = some x) && decide (scope.names.lookup x = some .free) && decide (sc.names.lookup x = some .cell) && capOk sc scope N0 r n
  | _ :: _, [] => false
theorem capOk_get {sc scope : Scope} {N0 : List Str} : ∀ {cap : List (Option Nat)} {N : List Str} {i j : Nat}, capOk sc scope N0 cap N = true → cap[i]? = some (some j) →
    ∃ x, N[i]? = some x ∧ N0[j]? = some x ∧ scope.names.lookup x = some .free ∧ sc.names.lookup x = some .cell
  | [], _, _, _, _, e => by simp at e
  | o :: _, [], _, _, h, _ => by cases o <;> simp [capOk] at h
  | o :: r, y :: n, 0, j, h, e => by
    simp at e
    subst e
    unfold capOk at h
    simp only [Bool.and_eq_true, decide_eq_true_eq] at h
    exact ⟨y, rfl, h.1.1.1, h.1.1.2, h.1.2⟩
  | o :: r, y :: n, i + 1, j, h, e => by
    have h' : capOk sc scope N0 r n = true := by
      cases o with
      | none => exact h
      | some k =>
        unfold capOk at h
        simp only [Bool.and_eq_true] at h
        exact h.2
    obtain ⟨x, a, b⟩ := capOk_get (i := i) (j := j) h' (by simpa using e)
    exact ⟨x, by simpa using a, b⟩
/-- what must be true of the written scope; sc: the scope around -/
structure CompScope (sc scope : Scope) (N0 N : List Str) (cap : List (Option Nat)) : Prop where
  kind : scope.kind = .function
  cell : ∀ y ∈ scope.names, y.2 ≠ .cell
  names : ∀ y ∈ scope.names, y.2 = .local → scope.names.lookup y.1 = some .local
  free : ∀ y ∈ scope.names, y.2 = .free → sc.names.lookup y.1 = some .cell
  nd : N.Nodup
  len : cap.length = N.length
  cap : capOk sc scope N0 cap N = true

/-- the block's names ahead of the first turn -/
def capt (cap : List (Option Nat)) (σ : St) : St := cap.map fun o => match o with
  | none => none
  | some j => (σ[j]?).join

theorem relabel_free {scope : Scope} {env : Env} (hk : env.scope.kind = .function) (hf : ∀ y ∈ scope.names, y.2 = .free → env.kindOf y.1 = some .cell) {x : Str} (h : scope.names.lookup x = some .free) :
    (relabel scope env).names.lookup x = some .cell := by
  have all : ∀ (ns : List (Str × NameKind)), (∀ y ∈ ns, y.2 = .free → env.kindOf y.1 = some .cell) → ns.lookup x = some .free →
      (ns.map fun (n, k) => if (k == .free && env.scope.kind == .function && env.kindOf n == some .cell) then (n, NameKind.cell) else (n, k)).lookup x = some .cell := by
    intro ns
    induction ns with
    | nil => intro _ h; simp at h
    | cons y r ih =>
      obtain ⟨n, k⟩ := y
      intro hf h
      rw [List.map_cons]
      rw [List.lookup_cons] at h
      cases q : x == n
      · rw [q] at h
        have := ih (fun y hy => hf y (List.mem_cons_of_mem _ hy)) h
        show List.lookup x ((if (k == .free && env.scope.kind == .function && env.kindOf n == some .cell) = true then (n, NameKind.cell) else (n, k)) :: _) = _
        split <;> (rw [List.lookup_cons, q]; exact this)
      · rw [q] at h
        cases h
        have e := hf (n, .free) List.mem_cons_self rfl
        show List.lookup x ((if (NameKind.free == .free && env.scope.kind == .function && env.kindOf n == some .cell) = true then (n, NameKind.cell) else (n, NameKind.free)) :: _) = _
        rw [if_pos (by rw [hk, e]; rfl), List.lookup_cons, q]
  exact all scope.names hf h
theorem relabel_back {scope : Scope} {env : Env} {x : Str} (hc : ∀ y ∈ scope.names, y.2 ≠ .cell) (h : (relabel scope env).names.lookup x = some .cell ∨ (relabel scope env).names.lookup x = some .free) : (x, NameKind.free) ∈ scope.names := by
  have all : ∀ (ns : List (Str × NameKind)), (∀ y ∈ ns, y.2 ≠ .cell) →
      (∀ k, (k = NameKind.cell ∨ k = NameKind.free) → (ns.map fun (n, k) => if (k == .free && env.scope.kind == .function && env.kindOf n == some .cell) then (n, NameKind.cell) else (n, k)).lookup x = some k → (x, NameKind.free) ∈ ns) := by
    intro ns
    induction ns with
    | nil => intro _ k _ h; simp at h
    | cons y r ih =>
      obtain ⟨n, j⟩ := y
      intro hc k hk h
      rw [List.map_cons] at h
      have hr : ∀ y ∈ r, y.2 ≠ NameKind.cell := fun y hy => hc y (List.mem_cons_of_mem _ hy)
      change List.lookup x ((if (j == .free && env.scope.kind == .function && env.kindOf n == some .cell) = true then (n, NameKind.cell) else (n, j)) :: _) = some k at h
      split at h
      · rename_i hj
        rw [Bool.and_eq_true, Bool.and_eq_true] at hj
        have hj' : j = .free := by simpa using hj.1.1
        subst hj'
        rw [List.lookup_cons] at h
        cases q : x == n
        · rw [q] at h
          exact List.mem_cons_of_mem _ (ih hr k hk h)
        · have e : x = n := by simpa using q
          subst e
          exact List.mem_cons_self
      · rw [List.lookup_cons] at h
        cases q : x == n
        · rw [q] at h
          exact List.mem_cons_of_mem _ (ih hr k hk h)
        · rw [q] at h
          cases h
          have e : x = n := by simpa using q
          subst e
          rcases hk with z | z
          · exact absurd z (hc (x, j) List.mem_cons_self)
          · rw [z]; exact List.mem_cons_self
  rcases h with h | h
  · exact all scope.names hc _ (.inl rfl) h
  · exact all scope.names hc _ (.inr rfl) h

section
variable {X : Cx} {pins : List (Addr × Obj)} {σ : St} {H : Hp} {s : Shared} {h₁ : Heap} {scope : Scope} {N : List Str} {cap : List (Option Nat)} {fp : List Addr} {t' : Nat}

theorem comp_start (S : CompScope X.env.scope scope X.N N cap) (I : Inv X pins σ H s) (hf : ∀ b ∈ fp, FpOk X pins H b) (hlt : ∀ b ∈ fp, b < s.heap.objs.size)
    (hns : h₁.Ns s.heap.objs.size (fun x => ([] : List (Str × Value)).reverse.lookup x)) (keep : ∀ b o, s.heap.get? b = some o → h₁.get? b = some o) :
    Inv (cxComp X N scope s.heap.objs.size s H fp) [] (capt cap σ) H { s with heap := h₁, toks := t' } := by
  have hkf : ∀ y ∈ scope.names, y.2 = .free → X.env.kindOf y.1 = some .cell := S.free
  have hcell : ∀ y ∈ scope.names, y.2 = .free → ∃ d, X.env.cells.lookup y.1 = some d := fun y hy e => I.ok.has _ (.inl (hkf y hy e))
  have hcl : ∀ x c, (clOf X.env scope.names []).lookup x = some c → X.env.cells.lookup x = some c := fun x c h => clOf_of hcell (fun y d h => by simp at h) h
  refine ⟨⟨I.ok.mod, S.kind, I.ok.glob, I.ok.blt, Nat.le_refl _, fun x y c h1 h2 => I.ok.inj x y c (hcl x c h1) (hcl y c h2), fun x h => clOf_has (relabel_back S.cell h), (fun x c h => nomatch h), I.ok.hd, I.ok.frames, .inl rfl,
    fun b hb => ⟨Nat.ne_of_lt (hlt b hb), fun x c h => (hf b hb).2.2.2.2.1 x c (hcl x c h)⟩, I.bs, Nat.le_trans I.ok.bsz I.sz, fun b o e hb => ?_, fun b hb h => ?_, I.stack, I.stkFree⟩,
    rfl, I.bare, Un.kept keep, ⟨_, hns, fun i x v e1 e2 e3 => ?_⟩, fun x c h => ?_, I.hok.fresh (Nat.le_refl _), fun x c h => I.freeC x c (hcl x c h), fun p hp => (by simp [cxComp] at hp), I.hok.kept keep, ?_⟩
  · rcases (hf b hb).2.2.2.1 with z | z
    · exact I.ok.noex b o e z
    · exact absurd (Nat.lt_of_lt_of_le (Heap.lt_size (I.ok.bs b o e).1) z) (Nat.lt_irrefl _)
  · rcases List.mem_cons.mp (I.stkSub b h) with z | z
    · exact (hf b hb).2.1 z
    · exact (hf b hb).2.2.1 z
  · have e2' : (capt cap σ)[i]? = some (some v) := e2
    unfold capt at e2'
    rw [List.getElem?_map] at e2'
    cases q : cap[i]? with
    | none => rw [q] at e2'; cases e2'
    | some o =>
      cases o with
      | none => rw [q] at e2'; cases e2'
      | some j =>
        rw [q] at e2'
        obtain ⟨y, n1, n2, n3, n4⟩ := capOk_get S.cap q
        have e1' : N[i]? = some x := e1
        rw [n1] at e1'
        cases e1'
        have ej : σ[j]? = some (some v) := by
          have e3 : (σ[j]?).join = some v := Option.some.inj e2'
          cases r : σ[j]? with
          | none => rw [r] at e3; cases e3
          | some o => rw [r] at e3; rw [show o = some v from e3]
        obtain ⟨m, hn, hl⟩ := I.loc
        obtain ⟨u, ru, l⟩ := hl j x v n2 ej (.inr (.inl n4))
        refine ⟨u, ru, .inr ⟨.inl (relabel_free I.ok.kind hkf n3), ?_⟩⟩
        rcases l with ⟨hk, _⟩ | ⟨_, c, hc, z⟩
        · have n4' : X.env.kindOf x = some .cell := n4
          rw [n4'] at hk; cases hk
        · obtain ⟨c', hc'⟩ := clOf_has (env := X.env) (acc := []) (mem_of_lookup_str n3)
          have := hcl x c' hc'
          rw [hc] at this
          cases this
          exact ⟨c, hc', z.keeps keep⟩
  · obtain ⟨v, z⟩ := I.cell x c (hcl x c h)
    exact ⟨v, z.keeps keep⟩
  · show (capt cap σ).length = N.length
    unfold capt
    rw [List.length_map]
    exact S.len

/-- behind the block: the frame is as it was -/
theorem comp_end {pins' : List (Addr × Obj)} {σ' : St} {H' : Hp} {s' : Shared} {h' : Heap} (I : Inv X pins σ H s) (hf : ∀ b ∈ fp, FpOk X pins H b) (J : Inv (cxComp X N scope s.heap.objs.size s H fp) pins' σ' H' s')
    (sb : Heap.SameBut s.heap.objs.size s'.heap h') : Inv X pins σ H' { s' with heap := h' } := by
  have I1 : Inv X pins σ H' s' := I.call' J.os J.base J.hok J.bare fun b hb => ⟨(hf b hb).2.2.2.1, (hf b hb).2.1, (hf b hb).2.2.2.2.1, (hf b hb).2.2.2.2.2⟩
  have hfree : H' s.heap.objs.size = none := J.free
  refine I1.turned (t' := s'.toks) (it := s.heap.objs.size) (fun b o hb e => (sb.2 b hb).trans e) hfree (Nat.ne_of_gt I.lt) (.inr I.sz) (fun x c h z => ?_) fun p hp z => ?_
  · obtain ⟨v, q⟩ := I.cell x c h
    have := q.lt
    rw [z] at this
    exact Nat.lt_irrefl _ this
  · have := Heap.lt_size (I.pin p hp).1
    rw [z] at this
    exact Nat.lt_irrefl _ this
end

/-- the tests of a clause: none, or one -/
def PIfs (X : Cx) (ifs : List Expr) (t : TT) : Prop :=
  ∀ (pins : List (Addr × Obj)) (s : Shared) (σ : St) (H : Hp) (Q : Bool → Hp → Prop), Inv X pins σ H s → t σ H Q →
    wpAny (model X.prog X.w) X.A (forIn ifs true fun c r => if r = true then do let ok ← isTrue c X.env (eval c X.env); pure (ForInStep.yield ok) else pure (ForInStep.yield r)) (TP X pins σ Q) X.xe s
def tYes : TT := fun _ H Q => Q true H
theorem pf_none {X : Cx} : PIfs X [] tYes := fun pins s σ H Q I h => wpAny_tests_nil ⟨H, I, h⟩
theorem pf_one {X : Cx} {c : Expr} {t : TT} (h : PT X c t) : PIfs X [c] t := fun pins s σ H Q I hq => wpAny_tests_one (h pins s σ H Q I hq)

section
variable {prog : Program} {w : World} {A : Around} {R : Result → Shared → Prop} {s : Shared}
theorem compLoop_gen {elt target iter : Expr} {ifs : List Expr} {scope : Scope} {pos : Pos} {it acc : Value} {env : Env} (I : Nat → Shared → Prop)
    (turn : ∀ n s, I n s → wpAny (model prog w) A (pyNext it) (fun r s₁ => match r with
      | none => R (.ok .next) s₁
      | some v => wpAny (model prog w) A (letOwnedTupleGo target it v) (fun _ s₀ => wpAny (model prog w) A (assign target env v) (fun _ s₂ =>
          wpAny (model prog w) A (forIn ifs true fun c r => if r = true then do let ok ← isTrue c env (eval c env); pure (ForInStep.yield ok) else pure (ForInStep.yield r)) (fun ok s₃ =>
            if ok = true then wpAny (model prog w) A (eval elt env) (fun x s₄ =>
              wpAny (model prog w) A (call (.builtin "list.append") [acc, x]) (fun _ s₅ => ∃ m, m < n ∧ I m s₅) (fun _ _ => False) s₄) (fun _ _ => False) s₃
            else ∃ m, m < n ∧ I m s₃) (fun _ _ => False) s₂) (fun _ _ => False) s₀) (fun _ _ => False) s₁) (fun _ _ => False) s)
    (n : Nat) (h : I n s) : codeAny (model prog w) A (.compLoop (.ListComp elt [⟨target, iter, ifs, 0⟩] scope pos) 0 it acc env) R s := by
  refine codeAny_loop rfl I (fun n s hI => ?_) n h
  show wpAny _ A ((compTurn (.ListComp elt [⟨target, iter, ifs, 0⟩] scope pos) 0 it acc env).onRaise (fun x => do noteFrame x env; theTreesLotGoes x)) _ _ s
  refine wpAny_noted ?_
  rw [compTurn_list]
  refine wpAny_bind (wpAny_standAt (wpAny_bind (wpAny_mono (turn n s hI) (fun r s₁ h₁ => ?_) fun _ _ h' => h'.elim)))
  cases r with
  | none => exact wpAny_pure h₁
  | some v =>
    refine wpAny_bind (wpAny_mono h₁ (fun _ s₀ h₀ => ?_) fun _ _ h' => h'.elim)
    refine wpAny_bind (wpAny_mono h₀ (fun _ s₂ h₂ => wpAny_bind (wpAny_mono h₂ (fun ok s₃ h₃ => ?_) fun _ _ h' => h'.elim)) fun _ _ h' => h'.elim)
    cases ok with
    | false => exact wpAny_pure ⟨rfl, h₃⟩
    | true =>
      exact wpAny_bind (wpAny_bind (wpAny_mono h₃ (fun x s₄ h₄ => wpAny_bind (wpAny_mono h₄ (fun _ s₅ h₅ => wpAny_pure (wpAny_pure ⟨rfl, h₅⟩)) fun _ _ h' => h'.elim)) fun _ _ h' => h'.elim))
end

/-- the turns of a comprehension: D the new list, W the invariant by the turn, a measure, the items so far, the block's names, the heap -/
def compBody (J : It) (H1 : Hp) (cap : List (Option Nat)) (g : TG) (tt : TT) (te : TE) (σ : St) (Q : VK) : Prop := ∀ D, H1 D = none →
  ∃ W : Nat → Nat → List V → St → Hp → Prop, (∃ m, W 0 m [] (capt cap σ) (upd H1 D (.lst []))) ∧ ∀ i m ys σ' H', W i m ys σ' H' → H' D = some (.lst ys) ∧
    ((J.stop i H' ∧ Q (.ref D) H') ∨ (J.go i H' ∧ ∀ x H2, J.yld i H' x H2 → g x σ' H2 fun σ2 H3 => tt σ2 H3 fun b H4 =>
      if b = true then te σ2 H4 fun y H5 => H5 D = some (.lst ys) ∧ ys.length < sizeLine ∧ ∃ m', m' < m ∧ W (i + 1) m' (ys ++ [y]) σ2 (upd H5 D (.lst (ys ++ [y])))
      else ∃ m', m' < m ∧ W (i + 1) m' ys σ2 H4))
/-- [elt for target in iter if test] -/
def tComp (wi : TI) (cap : List (Option Nat)) (g : TG) (tt : TT) (te : TE) : TE := fun σ H Q => wi σ H fun J H1 => compBody J H1 cap g tt te σ Q

theorem pe_comp {X : Cx} {elt tgt iter : Expr} {ifs : List Expr} {scope : Scope} {pos : Pos} {N : List Str} {cap : List (Option Nat)} {wi : TI} {g : TG} {tt : TT} {te : TE}
    (S : CompScope X.env.scope scope X.N N cap) (hc : X.calm = true) (hi : PI X tgt iter wi)
    (hb : ∀ (C : Addr) (s : Shared) (H : Hp) (fp : List Addr), PG (cxComp X N scope C s H fp) tgt g ∧ PIfs (cxComp X N scope C s H fp) ifs tt ∧ PE (cxComp X N scope C s H fp) elt te)
    (hclos : closureFor scope X.env = pure (clOf X.env scope.names []) := by with_unfolding_all rfl) (hs : ∀ x, foldedSetIterable iter X.env x = pure x := by intro _; rfl) :
    PE X (.ListComp elt [⟨tgt, iter, ifs, 0⟩] scope pos) (tComp wi cap g tt te) := by
  intro pins s σ H Q I h
  rw [eval_ListComp]
  refine wpAny_comprehension_free (use := none) (cl := clOf X.env scope.names []) rfl hs hclos S.kind S.names ?_
  refine thn (hi pins s σ H _ I h) fun v s1 h1 => thn h1 fun itv s2 h2 => ?_
  obtain ⟨it, fp, tn, J, H2, e, I2, T, st2, f2, k⟩ := h2
  subst e
  refine wpAny_newObj_type (wpAny_newFunctionEnv S.cell (by intro y hy; simp at hy) (fun h₁ hns₁ hsb₁ => ?_) S.kind)
  dsimp only at hns₁ hsb₁ ⊢
  have I3 : Inv X pins σ (upd H2 s2.heap.objs.size (.lst [])) { s2 with heap := s2.heap.push { cls := .type "list", dict := none, data := .seq ([] : List Value).toArray } } := I2.lnew (t' := s2.toks) .nil (Nat.zero_le _)
  obtain ⟨W, ⟨m0, w0⟩, turn⟩ := k s2.heap.objs.size I2.fresh
  generalize hD : s2.heap.objs.size = D at *
  generalize hsD : ({ s2 with heap := s2.heap.push { cls := .type "list", dict := none, data := .seq ([] : List Value).toArray } } : Shared) = sD at *
  have hsz : sD.heap.objs.size = D + 1 := by rw [← hsD, ← hD]; exact Heap.size_push ..
  have hheap : s2.heap.push { cls := .type "list", dict := none, data := .seq ([] : List Value).toArray } = sD.heap := by rw [← hsD]
  rw [hheap] at hns₁ hsb₁ ⊢
  have up : ∀ b o, s2.heap.get? b = some o → sD.heap.get? b = some o := fun b o e => by rw [← hheap]; exact Heap.get?_push_of_some _ e
  have keep : ∀ b o, sD.heap.get? b = some o → h₁.get? b = some o := fun b o e => hsb₁.extBut b o (Nat.ne_of_lt (Heap.lt_size e)) (Heap.get?_push_of_some _ e)
  have hfD : D ∉ fp := fun hm => by
    obtain ⟨o, e, _⟩ := T.obj _ _ st2 D hm
    have := Heap.lt_size e
    rw [hD] at this
    exact Nat.lt_irrefl _ this
  have f3 : ∀ b ∈ fp, FpOk X pins (upd H2 D (.lst [])) b := fun b hb => ⟨by rw [upd_ne (fun z => hfD (by rw [← z]; exact hb))]; exact (f2 b hb).1, (f2 b hb).2⟩
  have hlt : ∀ b ∈ fp, b < sD.heap.objs.size := fun b hb => by
    obtain ⟨o, e, _⟩ := T.obj _ _ st2 b hb
    exact Heap.lt_size (up b o e)
  have I4 := comp_start (t' := s2.toks + ([] : List (Str × Value)).length) S I3 f3 hlt hns₁ keep
  obtain ⟨hg, hif, hel⟩ := hb sD.heap.objs.size sD (upd H2 D (.lst [])) fp
  have st4 : tn 0 h₁ := T.keep _ _ _ st2 fun b hb o e => keep b o (up b o e)
  have stat : ∀ {H' : Hp}, (∀ b ∈ fp, H' b = none) → ∀ b ∈ fp, FpOk (cxComp X N scope sD.heap.objs.size sD (upd H2 D (.lst [])) fp) [] H' b := fun hn b hb =>
    ⟨hn b hb, (I4.ok.exf b hb).1, I4.ok.exfs b hb, .inl hb, fun x c h z => (I4.ok.exf b hb).2 x c h z, fun p hp => (by simp [cxComp] at hp)⟩
  have loop : codeAny (model X.prog X.w) X.A (.compLoop (.ListComp elt [⟨tgt, iter, ifs, 0⟩] scope pos) 0 (.ref it) (.ref D) (compEnvC scope (clOf X.env scope.names []) sD.heap.objs.size X.env))
      (compPost (model X.prog X.w) X.A X.xe none (EP X pins σ Q) (.ref D) sD.heap.objs.size) { sD with heap := h₁, toks := s2.toks + ([] : List (Str × Value)).length } := by
    refine compLoop_gen (fun n s' => ∃ i ys σ' H', Inv (cxComp X N scope sD.heap.objs.size sD (upd H2 D (.lst [])) fp) [] σ' H' s' ∧ tn i s'.heap ∧ (∀ b ∈ fp, H' b = none) ∧ W i n ys σ' H') ?_ m0
      ⟨0, [], capt cap σ, _, I4, st4, fun b hb => (f3 b hb).1, w0⟩
    rintro n s5 ⟨i, ys, σ5, H5, I5, st5, fr5, w5⟩
    obtain ⟨hD5, way⟩ := turn i n ys σ5 H5 w5
    rcases way with ⟨stop, q⟩ | ⟨go, step⟩
    · refine thn (T.done (cxComp X N scope sD.heap.objs.size sD (upd H2 D (.lst [])) fp) rfl rfl rfl hc i [] s5 σ5 H5 (fun _ _ => False) I5 (stat fr5) st5 stop) fun r s6 ⟨hr, I6⟩ => ?_
      subst hr
      obtain ⟨m, hn, _⟩ := I6.loc
      exact ⟨m, hn, fun h' sb => ⟨.ref D, H5, comp_end I3 f3 I6 sb, rfl, q⟩⟩
    · refine thn (T.item (cxComp X N scope sD.heap.objs.size sD (upd H2 D (.lst [])) fp) rfl rfl rfl hc i [] s5 σ5 H5 (fun _ _ => False) I5 (stat fr5) st5 go) fun r s6 ⟨u, hr, h6⟩ => ?_
      subst hr
      refine thn h6 fun _ s7 ⟨x, H7, I7, r7, y7, st7, fr7⟩ => ?_
      have I7' := I7.pinned (stat fr7) (T.obj _ _ st7)
      refine thn (hg _ s7 σ5 H7 x u _ I7' r7 (step x H7 y7)) fun _ s8 ⟨σ8, H8, I8, q8⟩ => ?_
      refine thn (hif _ s8 σ8 H8 _ I8 q8) fun b s9 ⟨H9, I9, q9⟩ => ?_
      have back : ∀ {σ' : St} {H' : Hp} {s' : Shared}, Inv (cxComp X N scope sD.heap.objs.size sD (upd H2 D (.lst [])) fp) ([] ++ pinsAt fp s7.heap) σ' H' s' → tn (i + 1) s'.heap ∧ ∀ b ∈ fp, H' b = none := fun {σ' H' s'} J' =>
        ⟨T.keep _ _ _ st7 fun b hb o e => (J'.pin (b, o) (List.mem_append_right _ (List.mem_append_right _ (mem_pinsAt hb e)))).1, fun b hb => by
          obtain ⟨o, e, d⟩ := T.obj _ _ st7 b hb
          exact (J'.pin (b, o) (List.mem_append_right _ (List.mem_append_right _ (mem_pinsAt hb e)))).2.1⟩
      cases b with
      | false =>
        obtain ⟨m', hm, w9⟩ := (show ∃ m', m' < n ∧ W (i + 1) m' ys σ8 H9 from q9)
        exact ⟨m', hm, i + 1, ys, σ8, H9, I9.unpinned, (back I9).1, (back I9).2, w9⟩
      | true =>
        refine thn (hel _ s9 σ8 H9 _ I9 (show te σ8 H9 _ from q9)) fun y s10 ⟨v10, H10, I10, r10, q10⟩ => ?_
        obtain ⟨hD10, hz, m', hm, w10⟩ := q10
        refine thn (mt_append (X := cxComp X N scope sD.heap.objs.size sD (upd H2 D (.lst [])) fp) _ s10 σ8 H10 (.ref D) [v10] (.ref D) [y] (fun _ H' => H' = upd H10 D (.lst (ys ++ [v10]))) I10 rfl (.cons r10 .nil) ⟨D, ys, v10, rfl, rfl, hD10, hz, rfl⟩) fun _ s11 ⟨v11, H11, I11, _, e11⟩ => ?_
        subst e11
        exact ⟨m', hm, i + 1, ys ++ [v10], σ8, _, I11.unpinned, (back I11).1, (back I11).2, w10⟩
  subst hsD
  subst hD
  exact codeAny_compStart_list loop (T.self _ 0 _ _ _ st4 loop)
end L2

namespace L2
open PySem PySem.Spec PyProof.Rows
section
variable {X : Cx} {x : Str} {pos : Pos} {tg : Expr}
/-- a module's int, text, object -/
theorem pe_globI {i : Int} (hg : Gl X x) (hm : ∃ t, X.mg x = some (.int i t)) (hd : (x == ("__debug__" : Str)) = false := by decide) : PE X (.Name x pos) (tC (.int i)) := by
  obtain ⟨t, e⟩ := hm
  exact pe_glob hg e ⟨t, rfl⟩ hd
theorem pe_globS {y : Str} (hg : Gl X x) (hm : ∃ t, X.mg x = some (.str y t)) (hd : (x == ("__debug__" : Str)) = false := by decide) : PE X (.Name x pos) (tC (.str y)) := by
  obtain ⟨t, e⟩ := hm
  exact pe_glob hg e ⟨t, rfl⟩ hd
/-- is True, is not False .. of bools -/
theorem op_isB : OpR X (compareOp .Is) (fun x y H Q => ∃ a b, x = .bl a ∧ y = .bl b ∧ Q (.bl (a == b)) H) := by
  intro pins s σ H x y v u Q I rx ry h
  obtain ⟨a, b, rfl, rfl, q⟩ := h
  cases rx; cases ry
  exact is_bool ⟨.bl _, H, I, rfl, q⟩
theorem op_isnotB : OpR X (compareOp .IsNot) (fun x y H Q => ∃ a b, x = .bl a ∧ y = .bl b ∧ Q (.bl (a != b)) H) := by
  intro pins s σ H x y v u Q I rx ry h
  obtain ⟨a, b, rfl, rfl, q⟩ := h
  cases rx; cases ry
  exact isnot_bool ⟨.bl _, H, I, rfl, q⟩
/-- text * int -/
theorem op_mul_str : OpR X (binaryOp .Mult) (fun x y H Q => ∃ z n, x = .str z ∧ y = .int n ∧ MulOk z n ∧ Q (.str (Txt.mul z n)) H) := by
  intro pins s σ H x y v u Q I rx ry h
  obtain ⟨z, n, rfl, rfl, ok, q⟩ := h
  obtain ⟨t, rfl⟩ := rx
  obtain ⟨t', rfl⟩ := ry
  exact SB.mul ok fun t' k => ⟨.str _, H, I.tok _, ⟨_, rfl⟩, q⟩
/-- isinstance(x, T), T a built-in class -/
theorem call_isinst : CallR X (.builtin "isinstance") (fun xs H Q => ∃ x T t b, xs = [x, .ty T] ∧ TyOf X.K H x t ∧ PySem.W.kitOne X.K t (.type T) = some b ∧ Q (.bl b) H) := by
  intro pins s σ H xs us Q I r h
  obtain ⟨x, T, t, b, rfl, ty, e, q⟩ := h
  obtain ⟨u, v, rfl, ru, rv⟩ := r.two
  cases rv
  exact isinst_ok I ru ty e fun tk => ⟨.bl b, H, I.tok tk, rfl, q⟩

theorem bools_of : ∀ {bs : List Bool} {us : List Value}, Vals (bs.map V.bl) us → LSm.BoolsAre us bs
  | [], _, .nil => .nil
  | b :: bs, _, .cons r t => by cases r; exact .cons b (bools_of t)
theorem all_boolsL {prog : Program} {w : World} {A : Around} {E : Value → Shared → Prop} {s : Shared} {l : Addr} {vs : List Value} {bs : List Bool} {Q : Value → Shared → Prop} (hh : A.handled = none) (hl : s.heap.IsList l vs.toArray) (hb : LSm.BoolsAre vs bs)
    (h : ∀ h' tk, (∀ b o, s.heap.get? b = some o → h'.get? b = some o) → Q (.bool (bs.all id)) { s with heap := h', toks := tk }) : wpAny (model prog w) A (call (.builtin "all") [.ref l]) Q E s := by
  have hlt : l < s.heap.objs.size := by obtain ⟨_, e, _⟩ := hl; exact Heap.lt_size e
  refine call_all_walk (wpAny_pyIter_list hl ?_)
  refine ⟨s.heap.objs.size, [s.heap.objs.size, l], [s.heap.objs.size], vs.toArray.size, _, _, fun i => (bs[i]?).getD true, rfl, Walks.list (A := A.in1) hh _ l (Nat.ne_of_lt hlt) vs.toArray,
    ⟨⟨_, Heap.get?_push_size _ rfl, rfl, rfl⟩, hl.push _⟩, fun i v s' Q' E' hP hQ => ?_, fun h' tk hk => ?_⟩
  · obtain ⟨b, e, rfl⟩ := hb.get i v (by simpa using hP)
    simp only [e, Option.getD_some] at hQ
    exact wpAny_truthy_bool hQ
  · have e : ((List.range vs.toArray.size).all fun i => (bs[i]?).getD true) = bs.all id := by
      rw [List.size_toArray, hb.length]; exact LSm.range_all bs
    rw [e]
    exact h h' tk (LSm.kept_iter hk)
/-- all(list of bools) -/
theorem call_all (hc : X.calm = true) : CallR X (.builtin "all") (fun xs H Q => ∃ (p : Addr) (bs : List Bool), xs = [.ref p] ∧ SqL X.K H p (bs.map V.bl) ∧ Q (.bl (bs.all id)) H) := by
  intro pins s σ H xs us Q I r h
  obtain ⟨p, bs, rfl, hq, q⟩ := h
  obtain ⟨u, rfl, ru⟩ := r.one
  cases ru
  obtain ⟨its, rv, pl, hz⟩ := I.list hq
  exact all_boolsL (I.ok.hd hc) pl.isList (bools_of rv) fun h' tk hk => ⟨.bl _, H, I.kept hk, rfl, q⟩
/-- the signs of a text -/
def Its (y : Str) : It := ⟨fun i _ => i < y.cps.size, fun i H x H' => H' = H ∧ ∃ c, y.cps[i]? = some c ∧ x = .str ⟨#[c]⟩, fun i _ => i = y.cps.size⟩
theorem walks_str {prog : Program} {w : World} {A : Around} (hh : A.handled = none) (I : Addr) (y : Str) (t : Tok) : Walks prog w A I [I] [I] y.cps.size (SignAt y) (fun i h => h.IsStrIter I (strIterType y) y t i) := by
  unfold strIterType
  split
  · exact Walks.strAscii hh I y t
  · exact Walks.strWide hh I y t
theorem turn_str {P : Program} {w : World} {K : PySem.W.Frag} (y : Str) (t : Tok) (it : Addr) : Turn P w K tg (Its y) [it] it (fun i h => h.IsStrIter it (strIterType y) y t i) where
  mem := by simp
  obj := fun i h st b hb => by
    have e : b = it := by simpa using hb
    subst e
    obtain ⟨o, e, c, d⟩ := st
    exact ⟨o, e, fun v z => by rw [d] at z; cases z⟩
  keep := fun i h h' st k => by
    obtain ⟨o, e, r⟩ := st
    exact ⟨o, k it (by simp) o e, r⟩
  item := by
    intro X hP hw hK hc i pins s σ H E I hf st hg
    subst hP hw hK
    obtain ⟨f0, f1, f2, f3, f4, f5⟩ := hf it (by simp)
    have W := walks_str (prog := X.prog) (w := X.w) (I.ok.hd hc) it y t
    refine W.item i s _ _ hg st fun v h' tk hv st' kk => ?_
    obtain ⟨c, t', hc', rfl⟩ := hv
    have I1 : Inv X pins σ H { s with heap := h', toks := tk } := I.turned (fun b o hb e => kk b o (by simpa using hb) e) f0 f1 f3 f4 f5
    obtain ⟨o, e, c1, d⟩ := id st'
    refine ⟨_, rfl, go_of (s := { s with heap := h', toks := tk }) (n := strIterType y) e c1 d ?_ ⟨.str ⟨#[c]⟩, H, I1, ⟨t', rfl⟩, ⟨rfl, c, hc', rfl⟩, st', fun b hb => (hf b hb).1⟩⟩
    unfold strIterType
    split <;> decide
  done := by
    intro X hP hw hK hc i pins s σ H E I hf st hg
    subst hP hw hK
    have hg' : i = y.cps.size := hg
    subst hg'
    obtain ⟨f0, f1, f2, f3, f4, f5⟩ := hf it (by simp)
    have W := walks_str (prog := X.prog) (w := X.w) (I.ok.hd hc) it y t
    exact W.done s _ _ st fun h' tk kk => ⟨rfl, I.turned (fun b o hb e => kk b o (by simpa using hb) e) f0 f1 f3 f4 f5⟩
  self := fun A i s Q E st h => by
    obtain ⟨o, e, c, d⟩ := id st
    revert st c
    unfold strIterType
    split
    · intro st c; exact wpAny_pyIter_striter_ascii st h
    · intro st c; exact wpAny_pyIter_striter_wide st h
def iStr (tl : TE) : TI := fun σ H R => tl σ H fun x H1 => ∃ y, x = .str y ∧ R (Its y) H1
theorem pi_str {l : Expr} {tl : TE} (hl : PE X l tl) : PI X tg l (iStr tl) := by
  intro pins s σ H R I h
  refine thn (hl pins s σ H _ I h) fun v s1 ⟨x, H1, I1, r1, q1⟩ => ?_
  obtain ⟨y, e, q⟩ := q1
  subst e
  obtain ⟨t, rfl⟩ := r1
  refine wpAny_pyIter_strU ?_
  refine ⟨s1.heap.objs.size, [s1.heap.objs.size], _, _, H1, rfl, I1.kept (t' := s1.toks) fun b o e => Heap.get?_push_of_some _ e, turn_str y t _, ⟨_, Heap.get?_push_size _ rfl, rfl, rfl⟩, fun b hb => ?_, q⟩
  have e : b = s1.heap.objs.size := by simpa using hb
  subst e
  exact I1.fpOk (Nat.le_refl _) (I1.hok.fresh (Nat.le_refl _))
end
end L2
namespace L2
open PySem PySem.Spec PyProof.Rows
/-- a def with defaults -/
structure FunD (K : PySem.W.Frag) (x qual : Str) (st : Stmt) (f : Addr) (fd : FuncData) : Prop where
  ex : ∃ (oc : Value) (od : Option Addr) (dV kV doc pm : Value) (an : Option Addr) (cdv ct : Value) (osl : Array (Option Value)),
    fd = PySem.W.fnOf x qual (defArgs st) (defBody st) (defScope st) dV kV doc pm an cdv ct ∧ K.lookup f = some ⟨oc, od, .func fd, osl⟩ ∧ PySem.W.codeIn K cdv qual = true
  kp : PySem.W.keepIn K (.ref f) = true
section
variable {P : Program} {w : World} {K : PySem.W.Frag} {mg : Str → Option Value} {base : Heap}
theorem FunD.ok {cm : Bool} {x qual : Str} {st : Stmt} {f : Addr} {fd : FuncData} {N ps : List Str} {k : Nat} {sp : Sp} (F : FunD K x qual st f fd) (S : FnScope N ps (defScope st)) (len : ∀ vs H Q E, sp vs H Q E → vs.length = ps.length)
    (hbody : ∀ (cdv : Value) (A : Around) (outer : List Env) (s : Shared) (H : Hp) (vs : List V) (Q : VK) (E : XK), Room cm k (A.deeper (envOfC qual (defScope st) s.heap.objs.size f cdv)) → sp vs H Q E →
      ∃ t, PSs (cxOf CX0 cm P w K mg base N qual (defScope st) f cdv A outer s H E).nox (defBody st) t ∧ t { nx := fun _ H' => Q .non H', rt := Q } (start N vs) H) : FnOk P w K mg base CX0 cm (k + 1) f fd ps sp := by
  obtain ⟨oc, od, dV, kV, doc, pm, an, cdv, ct, osl, rfl, lk, hcd⟩ := F.ex
  exact fn_of lk hcd S len fun A outer s H vs Q E hr h => by
    obtain ⟨t, ht, q⟩ := hbody cdv A outer s H vs Q E hr h
    exact ⟨t, ht.nox, q⟩
end
end L2
namespace L2
open PySem PySem.Spec PyProof.Rows
/-- what an iterator yields, whatever else is laid meanwhile -/
def Seq (J : It) (H : Hp) (xs : List V) : Prop := ∀ H', Same H H' → (∀ (i : Nat) x, xs[i]? = some x → J.go i H' ∧ ∀ x' H2, J.yld i H' x' H2 → x' = x ∧ H2 = H') ∧ J.stop xs.length H'
theorem Seq.up {J : It} {H H' : Hp} {xs : List V} (h : Seq J H xs) (s : Same H H') : Seq J H' xs := fun H2 s2 => h H2 (s.trans s2)
theorem seq_str (y : Str) (H : Hp) : Seq (Its y) H (y.cps.toList.map fun c => .str ⟨#[c]⟩) := fun H' _ => by
  refine ⟨fun i x e => ?_, ?_⟩
  · rw [List.getElem?_map] at e
    cases q : y.cps.toList[i]? with
    | none => rw [q] at e; cases e
    | some c =>
      rw [q] at e
      have q' : y.cps[i]? = some c := by simpa using q
      refine ⟨(Array.getElem?_eq_some_iff.mp q').1, fun x' H2 hy => ?_⟩
      obtain ⟨e1, c', e2, e3⟩ := hy
      rw [q'] at e2
      cases e2
      exact ⟨e3.trans (Option.some.inj e), e1⟩
  · show _ = _
    simp
theorem seq_range (lo : Int) (n : Nat) (H : Hp) : Seq (Itr lo n) H ((List.range n).map fun (i : Nat) => V.int (lo + (i : Int))) := fun H' _ => by
  refine ⟨fun i x e => ?_, ?_⟩
  · have hi : i < n := by
      have := (List.getElem?_eq_some_iff.mp e).1
      simpa using this
    refine ⟨hi, fun x' H2 hy => ?_⟩
    obtain ⟨e1, e2⟩ := hy
    rw [List.getElem?_map, List.getElem?_range hi] at e
    exact ⟨e2.trans (Option.some.inj e), e1⟩
  · show n ≤ _
    simp
theorem seq_list {K : PySem.W.Frag} {H : Hp} {a : Addr} {xs : List V} (h : SqL K H a xs) : Seq (Itl K a) H xs := fun H' s => by
  have h' := s.seq h
  refine ⟨fun i x e => ⟨⟨xs, x, h', e⟩, fun x' H2 hy => ?_⟩, ⟨xs, h', Nat.le_refl _⟩⟩
  obtain ⟨e1, e2⟩ := hy
  have := e2 xs h'
  rw [e] at this
  exact ⟨(Option.some.inj this).symm, e1⟩
theorem Same.seqT {K : PySem.W.Frag} {H H' : Hp} {a : Addr} {xs : List V} (e : Same H H') (h : SqT K H a xs) : SqT K H' a xs := by
  rcases h with (h | ⟨o, h⟩) | h
  · exact .inl (.inl (e _ _ h))
  · exact .inl (.inr ⟨o, e _ _ h⟩)
  · exact .inr h
theorem seq_tup {K : PySem.W.Frag} {H : Hp} {a : Addr} {xs : List V} (h : SqT K H a xs) : Seq (Itt K a) H xs := fun H' s => by
  have h' := s.seqT h
  refine ⟨fun i x e => ⟨⟨xs, x, h', e⟩, fun x' H2 hy => ?_⟩, ⟨xs, h', Nat.le_refl _⟩⟩
  obtain ⟨e1, e2⟩ := hy
  have := e2 xs h'
  rw [e] at this
  exact ⟨(Option.some.inj this).symm, e1⟩
theorem same_upd {H : Hp} {p : Addr} {o : HO} (h : H p = none) : Same H (upd H p o) := fun b u e => by rw [upd_ne (ne_of_none e h)]; exact e
/-- for, over what an iterator yields -/
theorem for_seq {J : It} {xs : List V} {g : TG} {tb : TS} {D : Ends} {σ : St} {H0 H : Hp} (hJ : Seq J H0 xs) (Pv : Nat → St → Hp → Prop) (h0 : Pv 0 σ H) (hsm : ∀ i σ H, i ≤ xs.length → Pv i σ H → Same H0 H)
    (hs : ∀ (i : Nat) x σ H, xs[i]? = some x → Pv i σ H → g x σ H fun σ2 H2 => tb { D with nx := Pv (i + 1), ct := Pv (i + 1), bk := D.nx } σ2 H2) (hd : ∀ σ H, Pv xs.length σ H → D.nx σ H) :
    ∃ W : Nat → Nat → St → Hp → Prop, (∃ m, W 0 m σ H) ∧ ∀ i m σ H, W i m σ H →
      (J.stop i H ∧ D.nx σ H) ∨ (J.go i H ∧ ∃ N : St → Hp → Prop, (∀ σ' H', N σ' H' → ∃ m', m' < m ∧ W (i + 1) m' σ' H') ∧ ∀ x H', J.yld i H x H' → g x σ H' fun σ2 H2 => tb { D with nx := N, ct := N, bk := D.nx } σ2 H2) := by
  refine ⟨fun i m σ H => m = xs.length - i ∧ i ≤ xs.length ∧ Pv i σ H, ⟨xs.length, by simp, Nat.zero_le _, h0⟩, ?_⟩
  rintro i m σ H ⟨rfl, hi, p⟩
  obtain ⟨q1, q2⟩ := hJ H (hsm i σ H hi p)
  by_cases hlt : i < xs.length
  · have e : xs[i]? = some xs[i] := by simp [hlt]
    obtain ⟨go, y⟩ := q1 i _ e
    refine .inr ⟨go, Pv (i + 1), fun σ' H' p' => ⟨xs.length - (i + 1), by omega, rfl, hlt, p'⟩, fun x H' hy => ?_⟩
    obtain ⟨rfl, rfl⟩ := y x H' hy
    exact hs i _ σ _ e p
  · have e : i = xs.length := by omega
    subst e
    exact .inl ⟨q2, hd σ H p⟩
/-- a comprehension of one name whose parts lay things at most -/
theorem comp_pure {J : It} {cap : List (Option Nat)} {tt : TT} {te : TE} {σ : St} {H1 : Hp} {Q : VK} {xs : List V} (hJ : Seq J H1 xs) (p : V → Bool) (f : V → V) (hsz : xs.length ≤ 100000)
    (hp : ∀ x ∈ xs, ∀ H', Same H1 H' → ∀ R : Bool → Hp → Prop, (∀ H'', Same H' H'' → R (p x) H'') → tt ((capt cap σ).set 0 (some x)) H' R)
    (he : ∀ x ∈ xs, p x = true → ∀ H', Same H1 H' → ∀ R : VK, (∀ H'', Same H' H'' → R (f x) H'') → te ((capt cap σ).set 0 (some x)) H' R)
    (k : ∀ D H', Same H1 H' → H1 D = none → H' D = some (.lst ((xs.filter p).map f)) → Q (.ref D) H') :
    compBody J H1 cap (gName 0) tt te σ Q := by
  intro D hD
  refine ⟨fun i m ys σ' H' => m = xs.length - i ∧ i ≤ xs.length ∧ (∀ v, σ'.set 0 v = (capt cap σ).set 0 v) ∧ H' D = some (.lst ys) ∧ Same H1 H' ∧ ys = ((xs.take i).filter p).map f,
    ⟨xs.length, by simp, Nat.zero_le _, fun _ => rfl, upd_same, same_upd hD, by simp⟩, ?_⟩
  rintro i m ys σ' H' ⟨rfl, hi, hσ, hl, sm, hys⟩
  refine ⟨hl, ?_⟩
  obtain ⟨q1, q2⟩ := hJ H' sm
  by_cases hlt : i < xs.length
  · have e : xs[i]? = some xs[i] := by simp [hlt]
    obtain ⟨go, y⟩ := q1 i _ e
    refine .inr ⟨go, fun x H2 hy => ?_⟩
    obtain ⟨rfl, rfl⟩ := y x H2 hy
    have hm : xs[i] ∈ xs := List.getElem_mem hlt
    have etake : xs.take (i + 1) = xs.take i ++ [xs[i]] := by rw [List.take_add_one, e]; rfl
    show tt (σ'.set 0 (some xs[i])) _ _
    rw [hσ]
    refine hp _ hm _ sm _ fun H4 s4 => ?_
    have hss : ∀ v, ((capt cap σ).set 0 (some xs[i])).set 0 v = (capt cap σ).set 0 v := fun v => by rw [List.set_set]
    cases hb : p xs[i] with
    | false =>
      refine iteF ⟨xs.length - (i + 1), by omega, rfl, hlt, hss, s4 _ _ hl, sm.trans s4, ?_⟩
      rw [etake, List.filter_append, hys]
      simp [hb]
    | true =>
      refine iteT ?_
      refine he _ hm hb _ (sm.trans s4) _ fun H5 s5 => ?_
      have hl5 := s5 _ _ (s4 _ _ hl)
      refine ⟨hl5, ?_, xs.length - (i + 1), by omega, rfl, hlt, hss, upd_same, fun b o eb => ?_, ?_⟩
      · have h1 : ys.length ≤ xs.length := by
          rw [hys, List.length_map]
          exact Nat.le_trans (List.length_filter_le _ _) (List.length_take_le' _ _)
        have h2 : (100000 : Nat) < sizeLine := by decide
        omega
      · rw [upd_ne (ne_of_none eb hD)]
        exact s5 _ _ (s4 _ _ (sm _ _ eb))
      · rw [etake, List.filter_append, hys]
        simp [hb]
  · have e : i = xs.length := by omega
    subst e
    refine .inl ⟨q2, k D _ sm hD ?_⟩
    rw [hl, hys, List.take_length]
end L2
namespace L2
open PySem PySem.Spec PyProof.Rows
section
variable {X : Cx}
/-- one sign in a text -/
theorem op_in_chr : OpR X (compareOp .In) (fun x y H Q => ∃ c j, x = .str ⟨#[c]⟩ ∧ y = .str j ∧ Q (.bl (decide (c ∈ j.cps.toList))) H) := by
  intro pins s σ H x y v u Q I rx ry h
  obtain ⟨c, j, rfl, rfl, q⟩ := h
  refine op_in_str pins s σ H _ _ v u Q I rx ry ⟨_, j, rfl, rfl, ?_⟩
  rw [StrLaws.found_one]
  exact q
end
theorem atI_int {α : Type} {xs : List α} {i : Int} (h0 : 0 ≤ i) (h1 : i < xs.length) : atI xs i = some (xs[i.toNat]'(by omega)) := by
  have := atI_nat (xs := xs) (j := i.toNat) (v := xs[i.toNat]'(by omega)) (by simp)
  rw [show ((i.toNat : Nat) : Int) = i by omega] at this
  exact this
/-- the item of a written list of texts -/
theorem atI_strs {ts : List Str} {i : Int} (h0 : 0 ≤ i) (h1 : i < ts.length) : ∃ t, t ∈ ts ∧ atI (ts.map V.str) i = some (.str t) := by
  refine ⟨ts[i.toNat]'(by omega), List.getElem_mem _, ?_⟩
  rw [atI_int h0 (by simpa using h1)]
  simp
theorem atI_ints {ts : List Int} {i : Int} (h0 : 0 ≤ i) (h1 : i < ts.length) : ∃ t, t ∈ ts ∧ atI (ts.map V.int) i = some (.int t) := by
  refine ⟨ts[i.toNat]'(by omega), List.getElem_mem _, ?_⟩
  rw [atI_int h0 (by simpa using h1)]
  simp
end L2
namespace L2
open PySem PySem.Spec PyProof.Rows
/-- written items -/
def litOf : Expr → Option V
  | .Constant (.int i) _ _ => some (.int i)
  | .Constant (.str x) _ _ => some (.str x)
  | .Constant (.bool b) _ _ => some (.bl b)
  | .Constant .none _ _ => some .non
  | .UnaryOp .USub (.Constant (.int i) _ _) _ => some (.int (-i))
  | _ => none
def litsOf : List Expr → Option (List V)
  | [] => some []
  | e :: r => match litOf e, litsOf r with
    | some v, some vs => some (v :: vs)
    | _, _ => none
theorem pe_lit {X : Cx} {e : Expr} {v : V} (h : litOf e = some v) : PE X e (tC v) ∧ ∀ es : List Expr, starEach (e :: es) X.env = (false, eval e X.env) :: starEach es X.env := by
  unfold litOf at h
  split at h
  · cases h; exact ⟨pe_int, fun _ => rfl⟩
  · cases h; exact ⟨pe_str, fun _ => rfl⟩
  · cases h; exact ⟨pe_bl, fun _ => rfl⟩
  · cases h; exact ⟨pe_non, fun _ => rfl⟩
  · rename_i i j p q
    cases h
    refine ⟨fun pins s σ H Q I hq => pe_un un_neg pe_int pins s σ H Q I ⟨_, rfl, hq⟩, fun _ => rfl⟩
  · cases h
theorem pa_lits0 {X : Cx} : ∀ {es : List Expr} {vs : List V}, litsOf es = some vs → PA X es (fun _ H Q => Q vs H)
  | [], vs, h => by cases h; exact pa_nil
  | e :: r, vs, h => by
    unfold litsOf at h
    split at h
    · rename_i v ws h1 h2
      cases h
      have p := pe_lit (X := X) h1
      exact pa_cons p.1 (pa_lits0 h2) (p.2 r)
    · cases h
/-- the items, one by one -/
def litsAre (es : List Expr) (vs : List V) : Bool := decide (litsOf es = some vs)
theorem pa_lits {X : Cx} {es : List Expr} (vs : List V) (h : litsAre es vs = true) : PA X es (fun _ H Q => Q vs H) := pa_lits0 (of_decide_eq_true h)
end L2
namespace L2
end L2

namespace L2
open PySem PySem.Spec PyProof.Rows

/-! ### own error classes, as the written part tells them -/
/-! ### what is tracked stays -/
theorem HOk.tracked {P : Program} {w : World} {H : Hp} {h h' : Heap} (x : HOk P w H h) (k : ∀ b u o, H b = some u → h.get? b = some o → h'.get? b = some o) : HOk P w H h' := fun a o e =>
  (x a o e).stay (fun b u hb q => by
    rcases hb with hb | hb
    · subst hb; exact k _ _ _ e q
    · exact k _ _ _ hb q) (fun _ q => q) fun _ _ q => q

theorem HOk.there {P : Program} {w : World} {H : Hp} {h : Heap} {b : Addr} {v : HO} (ok : HOk P w H h) (e : H b = some v) : ∃ o', h.get? b = some o' := by
  have := ok b v e
  cases v with
  | lst xs => obtain ⟨_, _, _, _, z⟩ := this; exact ⟨_, z⟩
  | tup xs => obtain ⟨_, _, _, o, z, _⟩ := this; exact ⟨_, z⟩
  | dK kvs => obtain ⟨_, _, _, _, o, _, _, z, _⟩ := this; exact ⟨_, z⟩
  | dT kvs => obtain ⟨_, _, _, _, o, _, _, z, _⟩ := this; exact ⟨_, z⟩
  | set S n => obtain ⟨o, _, _, _, z, _⟩ := this; exact ⟨_, z⟩
  | ins C dx fs => obtain ⟨_, _, _, z, _⟩ := this; exact ⟨_, z⟩
  | own y => exact this
  | xd fs => obtain ⟨_, ⟨_, _, _, z, _⟩, _⟩ := this; exact ⟨_, z⟩
  | rng lo hi => obtain ⟨_, _, _, z⟩ := this; exact ⟨_, z⟩
  | frz ob u => obtain ⟨z, _⟩ := this; exact ⟨_, z⟩
  | tbl ps => exact ⟨_, this⟩
  | met f y => exact ⟨_, this⟩
  | ext φ => exact this.2.1

section
variable {X : Cx} {pins : List (Addr × Obj)} {σ : St} {H H' : Hp} {s : Shared} {h h2 B : Heap}
end

section
variable {cm : Bool} {P : Program} {w : World} {K : PySem.W.Frag} {mg : Str → Option Value} {base : Heap} {N : List Str} {qual : Str} {scope : Scope} {f : Addr} {cd : Value} {A : Around} {outer : List Env} {s : Shared} {H : Hp} {E : XK}
end

section
variable {X : Cx} {E : XK} {x : Str} {C : Addr} {np cpos pos : Pos} {e0 : Expr} {es : List Expr} {t : TA}
end

/-! ### try, except C: .. -/
/-- a handler's suite: an exception is being handled -/
def Cx.hnd (X : Cx) (e : Value) : Cx := { X with A := X.A.mark (some e), calm := false, xe := fun _ _ => False }
theorem Inv.hnd {X : Cx} {pins : List (Addr × Obj)} {σ : St} {H : Hp} {s : Shared} (I : Inv X pins σ H s) (e : Value) : Inv (X.hnd e) pins σ H s :=
  ⟨⟨I.ok.mod, I.ok.kind, I.ok.glob, I.ok.blt, I.ok.above, I.ok.inj, I.ok.has, I.ok.cab, (fun z => nomatch z), I.ok.frames, I.ok.stk, I.ok.exf, I.ok.bs, I.ok.bsz, I.ok.noex, I.ok.exfs, I.ok.funs, I.ok.frf⟩,
    I.os, I.bare, I.base, I.loc, I.cell, I.free, I.freeC, I.pin, I.hok, I.len⟩
end L2

namespace L2
open PySem PySem.Spec PyProof.Rows

section
variable {X : Cx} {CX : CXT} {cm : Bool} {k : Nat} {f : Addr} {fd : FuncData} {ps : List Str} {sp : Sp} {dvs : List V} {ds : List Value} {E : St → XK} {x : Str} {p pos : Pos} {e : Expr} {es : List Expr} {t : TA}
end

/-- the handler's class, of the text -/
structure Catch (K : PySem.W.Frag) (Cc : Addr) : Prop where
  ty : PySem.W.typeIn K (.ref Cc) = some (.type "type")
  mb : PySem.W.mroIn K Cc (.type "BaseException") = some true
theorem Catch.cls {K : PySem.W.Frag} {Cc : Addr} (c : Catch K Cc) : ∃ cd, PySem.W.clsIn K Cc = some cd := by
  obtain ⟨cd, a, _⟩ := Option.bind_eq_some_iff.mp c.mb
  exact ⟨cd, a⟩
section
variable {X : Cx} {pins pins' : List (Addr × Obj)} {σ : St} {H H' : Hp} {s : Shared} {Eb : Value → Shared → Prop} {h h2 B : Heap}
end

end L2

namespace L2
open PySem PySem.Spec PyProof.Rows
section
variable {X : Cx}
/-- t[lo:hi] of a text -/
theorem sl_str : SlR X (fun x lo hi H Q => ∃ z, x = .str z ∧ z.length ≤ sizeLine ∧ Q (.str (Txt.slice z lo hi)) H) := by
  intro pins s σ H x v vl vu lo hi sl Q I rx hs pl pu h
  obtain ⟨z, rfl, hz, q⟩ := h
  obtain ⟨t, rfl⟩ := rx
  refine ⟨"str", _, F.slot_str_getitem.lookup, typeIs_str _ _ _, ?_⟩
  cases pl with
  | none =>
    cases pu with
    | none => exact wpAny_getItem_str_slice (l := none) (u := none) (st := none) hs rfl (post_val_or_str ⟨Nat.le_trans (Txt.slice_le z _ _) hz, fun t' k => ⟨.str _, H, I.tok _, ⟨_, rfl⟩, q⟩⟩)
    | int j uj => exact wpAny_getItem_str_slice (l := none) (u := some (j, uj)) (st := none) hs rfl (post_val_or_str ⟨Nat.le_trans (Txt.slice_le z _ _) hz, fun t' k => ⟨.str _, H, I.tok _, ⟨_, rfl⟩, q⟩⟩)
  | int i ui =>
    cases pu with
    | none => exact wpAny_getItem_str_slice (l := some (i, ui)) (u := none) (st := none) hs rfl (post_val_or_str ⟨Nat.le_trans (Txt.slice_le z _ _) hz, fun t' k => ⟨.str _, H, I.tok _, ⟨_, rfl⟩, q⟩⟩)
    | int j uj => exact wpAny_getItem_str_slice (l := some (i, ui)) (u := some (j, uj)) (st := none) hs rfl (post_val_or_str ⟨Nat.le_trans (Txt.slice_le z _ _) hz, fun t' k => ⟨.str _, H, I.tok _, ⟨_, rfl⟩, q⟩⟩)
/-! ### f-strings of texts -/
end
end L2

namespace L2
open PySem PySem.Spec PyProof.Rows
section
variable {X : Cx}
end
end L2

namespace L2
open PySem PySem.Spec PySem.Calls PyProof.Rows Builtin Builtin.ObjectAttr Builtin.Getset_descriptor

/-! ### isinstance of an exception of an own class -/
/-- what the text tells of an own error class -/
structure ExC (K : PySem.W.Frag) (C : Addr) : Prop where
  cs : (PySem.W.clsIn K C).isSome = true
  ga : PySem.W.findIn K (.ref C) "__getattribute__" = some (some (.builtin "BaseException.__getattribute__"))
  gn : PySem.W.findIn K (.ref C) "__getattr__" = some none
  ca : PySem.W.findIn K (.ref C) "__class__" = some (some (.builtin "object.__class__"))
  sg : PySem.W.specialIn K (.builtin "object.__class__") "__get__" = some (some (.builtin "getset_descriptor.__get__"))
  tk : PySem.W.takesIn K (.builtin "object.__class__") = some true
  mo : PySem.W.mroIn K C (.type "object") = some true
  mb : PySem.W.mroIn K C (.type "BaseException") = some true

def ExcAt (e C : Addr) (h : Heap) : Prop := ∃ oe, h.get? e = some oe ∧ oe.cls = .ref C
theorem ExcAt.type {M : Model} {e C : Addr} {h : Heap} (p : ExcAt e C h) : PySem.W.Looks M h (typeOf (.ref e)) (.ref C) := by
  obtain ⟨oe, a, b⟩ := p
  exact b ▸ (PySem.W.Looks.ld a).andThen .now

section
variable {prog : Program} {w : World} {K : PySem.W.Frag} {e C : Addr}
end

section
variable {X : Cx}
end

/-! ### except C as e -/
theorem Room.mark {cm : Bool} {k : Nat} {A : Around} (r : Room cm k A) (v : Option Value) : Room false k (A.mark v) := ⟨(fun z => nomatch z), r.dp, r.un⟩
section
variable {X : Cx} {pins pins' : List (Addr × Obj)} {σ : St} {H H' : Hp} {s : Shared} {h h2 B : Heap} {ea C : Addr}
end

end L2

/-! the rules that lean on the text, by its own name (within a comprehension, a try, a handler) -/
namespace L2
open PySem PySem.Spec PyProof.Rows
section
variable {X : Cx} {K : PySem.W.Frag} (hK : X.K = K)
include hK
theorem ix_tupK : IxR X (rIxT K) := by subst hK; exact ix_tup
theorem ix_listK : IxR X (rIxL K) := by subst hK; exact ix_list
theorem sl_listK : SlR X (rSlL K) := by subst hK; exact sl_list
theorem op_notIn_seqK : OpR X (compareOp .NotIn) (rIn K true) := by subst hK; exact op_notIn_seq
theorem call_len_seqK : CallR X (.builtin "len") (fun xs H Q => ∃ p ys, xs = [.ref p] ∧ (SqL K H p ys ∨ SqT K H p ys) ∧ Q (.int ys.length) H) := by subst hK; exact call_len_seq
theorem call_tuple_ofK : CallR X (.type "tuple") (fun xs H Q => ∃ p ys, xs = [.ref p] ∧ ((SqL K H p ys ∧ ∀ l, H l = none → Q (.ref l) (upd H l (.tup ys))) ∨ (SqT K H p ys ∧ Q (.ref p) H))) := by subst hK; exact call_tuple_of
theorem call_isinstK : CallR X (.builtin "isinstance") (fun xs H Q => ∃ x T t b, xs = [x, .ty T] ∧ TyOf K H x t ∧ PySem.W.kitOne K t (.type T) = some b ∧ Q (.bl b) H) := by subst hK; exact call_isinst
theorem call_allK (hc : X.calm = true) : CallR X (.builtin "all") (fun xs H Q => ∃ (p : Addr) (bs : List Bool), xs = [.ref p] ∧ SqL K H p (bs.map V.bl) ∧ Q (.bl (bs.all id)) H) := by subst hK; exact call_all hc
theorem pi_listK {tg l : Expr} {tl : TE} (hl : PE X l tl) : PI X tg l (iList K tl) := by subst hK; exact pi_list hl
theorem pi_tupK {tg l : Expr} {tl : TE} (hl : PE X l tl) : PI X tg l (iTup K tl) := by subst hK; exact pi_tup hl
end
end L2

set_option maxHeartbeats 1000000
/-! ### split, join -/
namespace L2
open PySem PySem.Spec PySem.Calls PyProof.Rows Builtin Builtin.Str
section
variable {X : Cx}
end
end L2

namespace L2
open PySem PySem.W PyProof.Rows
/-! the sort of the model, its questions answered by keys of an order: what comes out is a rearrangement that rises -/
section
variable {O : KeyOrd} {key : Nat → O.α} {n : Nat} {cmp : Nat → Nat → (Bool → Shared → Prop) → Shared → Prop} {s : Shared}
def ka {O : KeyOrd} (key : Nat → O.α) (p : Array Nat) (i : Nat) : O.α := key (p.getD i 0)
def Up {O : KeyOrd} (key : Nat → O.α) (p : Array Nat) (k : Nat) : Prop := ∀ i j, i ≤ j → j < k → O.kle (ka key p i) (ka key p j)
def Down {O : KeyOrd} (key : Nat → O.α) (p : Array Nat) (k : Nat) : Prop := ∀ i j, i ≤ j → j < k → O.kle (ka key p j) (ka key p i)
def Rg (n : Nat) (p : Array Nat) : Prop := p.Perm (List.toArray (List.range n))
theorem Rg.size {p : Array Nat} (h : Rg n p) : p.size = n := by rw [Array.Perm.size_eq h]; simp
theorem Rg.at {p : Array Nat} (h : Rg n p) {i : Nat} (hi : i < n) : p.getD i 0 < n := by
  have hz := h.size
  have e : p.getD i 0 = p[i]'(by omega) := by simp [Array.getD, show i < p.size by omega]
  have hm : p[i]'(by omega) ∈ p.toList := by simp
  have := (Array.perm_iff_toList_perm.mp h).mem_iff.mp hm
  simp at this
  omega
theorem Rg.rev {p : Array Nat} (h : Rg n p) (i j : Nat) : Rg n (kas_rev p i j) := (mirror_perm p i j _).trans h
theorem Up.more {p : Array Nat} {k : Nat} (h : Up key p k) (hk : O.blt (ka key p k) (ka key p (k - 1)) = false) : Up key p (k + 1) := by
  intro i j hij hj
  by_cases hjk : j < k
  · exact h i j hij hjk
  · obtain rfl : j = k := by omega
    by_cases hi : i = j
    · rw [hi]; exact KeyOrd.kle_refl _
    · exact KeyOrd.kle_trans (h i (j - 1) (by omega) (by omega)) hk
theorem Down.more {p q : Array Nat} {k : Nat} (h : Down key p k) (e : ∀ i, ka key q i = ka key p i) (hk : O.kle (ka key p k) (ka key p (k - 1))) : Down key q (k + 1) := by
  intro i j hij hj
  rw [e, e]
  by_cases hjk : j < k
  · exact h i j hij hjk
  · obtain rfl : j = k := by omega
    by_cases hi : i = j
    · rw [hi]; exact KeyOrd.kle_refl _
    · exact KeyOrd.kle_trans hk (h i (j - 1) (by omega) (by omega))
def Eqs {O : KeyOrd} (key : Nat → O.α) (p : Array Nat) (m q : Nat) : Prop := q + 1 ≤ m ∧ ∀ i, m - (q + 1) ≤ i → i < m → ka key p i = ka key p (m - 1)
theorem Eqs.zero {p : Array Nat} {m : Nat} (h : 1 ≤ m) : Eqs key p m 0 := ⟨by omega, fun i h1 h2 => by rw [show i = m - 1 by omega]⟩
end
/-! rows: lists of tuples of two ints -/
abbrev RA := Addr × (Int × Int)
def refs (rs : List RA) : List V := rs.map fun x => V.ref x.1
def RowOk (H : Hp) (rs : List RA) : Prop := ∀ x ∈ rs, H x.1 = some (.tup [.int x.2.1, .int x.2.2])
def TupsH (h : Heap) (rs : List RA) : Prop := ∀ x ∈ rs, ∃ (o : Obj) (t u : Tok) (k : Nat), h.get? x.1 = some o ∧ o.cls = .type "tuple" ∧ o.data = .seq #[.int x.2.1 t, .int x.2.2 u] k
theorem Inv.pair {X : Cx} {pins : List (Addr × Obj)} {σ : St} {H : Hp} {s : Shared} (I : Inv X pins σ H s) {a : Addr} {i j : Int} (h : H a = some (.tup [.int i, .int j])) :
    ∃ (o : Obj) (t u : Tok) (k : Nat), s.heap.get? a = some o ∧ o.cls = .type "tuple" ∧ o.data = .seq #[.int i t, .int j u] k := by
  obtain ⟨its, r, ⟨o, ho, hc, k, hd⟩, _⟩ := I.tuple (SqT.of h)
  cases r with
  | cons r1 r =>
    cases r with
    | cons r2 r =>
      cases r
      obtain ⟨t, rfl⟩ := r1
      obtain ⟨u, rfl⟩ := r2
      exact ⟨o, t, u, k, ho, hc, hd⟩
theorem Inv.tups {X : Cx} {pins : List (Addr × Obj)} {σ : St} {H : Hp} {s : Shared} (I : Inv X pins σ H s) {rs : List RA} (h : RowOk H rs) : TupsH s.heap rs := fun x hx => I.pair (h x hx)
section
variable {prog : Program} {w : World} {A : Around} {E : Value → Shared → Prop} {s : Shared} {rs : List RA}
end
end L2

namespace L2
open PySem PySem.Spec PyProof.Rows PySem.SeqAt
/-! rows compared, turned about; lists that are empty or not -/
theorem hu2 {cm : Bool} {k : Nat} {A : Around} (hr : Room cm k A) : A.units + 2 < cLine := Nat.lt_of_le_of_lt (Nat.add_le_add_left (by decide : 2 ≤ 64) _) hr.units
theorem RowOk.up {H H' : Hp} {rs : List RA} (h : RowOk H rs) (s : Same H H') : RowOk H' rs := fun x hx => s _ _ (h x hx)
theorem RowOk.upd {H : Hp} {rs : List RA} {l : Addr} {xs : List V} {o : HO} (h : RowOk H rs) (hl : H l = some (.lst xs)) : RowOk (upd H l o) rs := fun x hx => by
  rw [upd_ne (fun e => by have := h x hx; rw [e, hl] at this; cases this)]
  exact h x hx
theorem RowOk.nil {H : Hp} : RowOk H [] := fun _ h => nomatch h
theorem RowOk.app {H : Hp} {rs : List RA} {a : Addr} {b e : Int} (h : RowOk H rs) (ha : H a = some (.tup [.int b, .int e])) : RowOk H (rs ++ [(a, b, e)]) := fun x hx => by
  rcases List.mem_append.mp hx with hx | hx
  · exact h x hx
  · rw [List.mem_singleton] at hx
    subst hx
    exact ha
theorem RowOk.init {H : Hp} {rs : List RA} {y : RA} (h : RowOk H (rs ++ [y])) : RowOk H rs := fun x hx => h x (List.mem_append_left _ hx)
theorem refs_app (rs : List RA) (a : Addr) (b e : Int) : refs rs ++ [.ref a] = refs (rs ++ [(a, b, e)]) := by unfold refs; rw [List.map_append]; rfl
section
variable {X : Cx}
theorem RowOk.same {H : Hp} {rs qs : List RA} (h : RowOk H rs) (h' : RowOk H qs) : ∀ x ∈ rs, ∀ y ∈ qs, x.1 = y.1 → x.2 = y.2 := by
  intro x hx y hy e
  have a := h x hx
  have b := h' y hy
  rw [e, b] at a
  injection a with a
  injection a with a
  injection a with a1 a
  injection a with a2 _
  injection a1 with a1
  injection a2 with a2
  exact Prod.ext a1.symm a2.symm
theorem Vals.rev : ∀ {xs : List V} {us : List Value}, Vals xs us → Vals xs.reverse us.reverse
  | [], [], .nil => .nil
  | x :: xs, u :: us, .cons r1 r2 => by
    rw [List.reverse_cons, List.reverse_cons]
    exact (Vals.rev r2).append (.cons r1 .nil)
end
end L2

namespace L2
open PySem PySem.Spec PyProof.Rows PySem.SeqAt
def RowAt (H : Hp) (l : Addr) (rs : List RA) : Prop := H l = some (.lst (refs rs)) ∧ RowOk H rs
theorem RowAt.up {H H' : Hp} {l : Addr} {rs : List RA} (h : RowAt H l rs) (s : Same H H') : RowAt H' l rs := ⟨s _ _ h.1, h.2.up s⟩
/-- all but what stands at F is as it was -/
def SameX (F : Addr) (H H' : Hp) : Prop := ∀ b o, b ≠ F → H b = some o → H' b = some o
theorem SameX.refl (F : Addr) (H : Hp) : SameX F H H := fun _ _ _ e => e
theorem SameX.same {F : Addr} {H H2 H' : Hp} (s : Same H H2) (x : SameX F H2 H') (hF : H F = none) : Same H H' := fun b o e => x b o (ne_of_none e hF) (s b o e)
theorem SameX.put {F t : Addr} {H H' : Hp} {o : HO} {xs : List V} (x : SameX F H H') (ht : H' t = none) : SameX F H (upd (upd H' t o) F (.lst xs)) := fun b u hb e => by
  rw [upd_ne hb]
  exact same_upd ht _ _ (x b u hb e)
theorem RowAt.put {H : Hp} {F t : Addr} {fs : List RA} {b e : Int} (h : RowAt H F fs) (ht : H t = none) : RowAt (upd (upd H t (.tup [.int b, .int e])) F (.lst (refs fs ++ [.ref t]))) F (fs ++ [(t, b, e)]) := by
  have htF : t ≠ F := fun z => by rw [z, h.1] at ht; cases ht
  have hF2 : upd H t (.tup [.int b, .int e]) F = some (.lst (refs fs)) := by rw [upd_ne (fun z => htF z.symm)]; exact h.1
  exact ⟨by rw [upd_same, refs_app _ _ b e], RowOk.app ((h.2.up (same_upd ht)).upd hF2) (by rw [upd_ne htF]; exact upd_same)⟩
section
variable {X : Cx}
end
end L2

namespace L2
open PySem PySem.Spec PySem.Calls PyProof.Rows
section
variable {X : Cx} {m : Str} {apos pos : Pos} {o e : Expr} {es : List Expr} {ta : TE} {t : TA}
/-- one class's answer to a call of m -/
structure Ans (X : Cx) (m : Str) (n : Nat) (C : Addr) (R : V → List V → Hp → VK → Prop) : Prop where
  cls : Cls X.K C
  run : ∃ (f : Addr) (fd : FuncData) (ps : List Str) (ds : List Value) (dvs : List V) (CX : CXT) (cm : Bool) (k : Nat) (sp : Sp) (E : XK), Meth X.K C m f ∧ FnOk X.prog X.w X.K X.mg X.base CX cm k f fd ps sp ∧ Room cm k X.A ∧ Binds X.K fd ps ds ∧ Vals dvs ds ∧ Passes CX X E ∧
    ∀ x vs H Q, vs.length = n → R x vs H Q → sp (x :: (vs ++ dvs)) H Q E
end
section
variable {X : Cx} {K : PySem.W.Frag} {o e value : Expr} {f : Str} {pos pos' : Pos} {ta tv : TE} (hK : X.K = K)
include hK
end
end L2
namespace L2
open PySem PySem.Spec PySem.Calls PyProof.Rows
section
variable {X : Cx} {CX : CXT} {cm : Bool} {k : Nat} {f C : Addr} {fd : FuncData} {ps : List Str} {sp : Sp} {dvs : List V} {ds : List Value} {E : XK} {x m : Str} {p pos apos : Pos} {e : Expr} {es : List Expr} {t : TA}
/-- a def of a class, read of the class itself -/
structure ClsFn (K : PySem.W.Frag) (C : Addr) (m : Str) (f : Addr) : Prop where
  ga : PySem.W.specialIn K (.ref C) "__getattribute__" = some (some (.builtin "type.__getattribute__"))
  rd : PySem.W.readsIn K C (.type "type") = true
  at_ : PySem.W.findCls K (.ref C) (.type "type") m = some (.val (.ref f))
  hi : PySem.W.handedIn (.ref f) = true
  kp : PySem.W.keepIn K (.ref f) = true
end
end L2

namespace L2
open PySem PySem.Spec PyProof.Rows
end L2
namespace L2
open PySem PySem.Spec PyProof.Rows PySem.SeqAt
section
variable {X : Cx}
end
end L2
namespace L2
open PySem PySem.Spec PyProof.Rows PySem.SeqAt
section
variable {X : Cx}
end
end L2

namespace L2
/-! two rising lists taken together, front by front -/
section
variable {α : Type} {R : α → α → Prop}
structure MI (R : α → α → Prop) (all out A B : List α) : Prop where
  perm : (out ++ (A ++ B)).Perm all
  so : out.Pairwise R
  la : ∀ x ∈ out, ∀ y ∈ A, R x y
  lb : ∀ x ∈ out, ∀ y ∈ B, R x y
  sa : A.Pairwise R
  sb : B.Pairwise R
theorem MI.lefts {all out X A B : List α} (h : MI R all out (X ++ A) B) (hx : ∀ x ∈ X, ∀ y ∈ B, R x y) : MI R all (out ++ X) A B := by
  obtain ⟨p, so, la, lb, sa, sb⟩ := h
  rw [List.pairwise_append] at sa
  refine ⟨?_, ?_, ?_, ?_, sa.2.1, sb⟩
  · simpa [List.append_assoc] using p
  · rw [List.pairwise_append]
    exact ⟨so, sa.1, fun x hx y hy => la x hx y (List.mem_append_left _ hy)⟩
  · intro x hm y hy
    rcases List.mem_append.mp hm with hm | hm
    · exact la x hm y (List.mem_append_right _ hy)
    · exact sa.2.2 x hm y hy
  · intro x hm y hy
    rcases List.mem_append.mp hm with hm | hm
    · exact lb x hm y hy
    · exact hx x hm y hy
theorem MI.flip {all out A B : List α} (h : MI R all out A B) : MI R all out B A :=
  ⟨(List.Perm.append_left _ List.perm_append_comm).trans h.perm, h.so, h.lb, h.la, h.sb, h.sa⟩
theorem MI.rights {all out X A B : List α} (h : MI R all out A (X ++ B)) (hx : ∀ x ∈ X, ∀ y ∈ A, R x y) : MI R all (out ++ X) A B := (h.flip.lefts hx).flip
/-- what is told of a merge -/
def MD (R : α → α → Prop) (all l : List α) : Prop := l.Perm all ∧ l.Pairwise R
theorem MI.doneA {all out A : List α} (h : MI R all out A []) : MD R all (out ++ A) := by
  refine ⟨by simpa using h.perm, ?_⟩
  rw [List.pairwise_append]
  exact ⟨h.so, h.sa, h.la⟩
theorem MI.last {all out A B : List α} (h : MI R all out A B) (hx : ∀ y ∈ B, ∀ x ∈ A, R y x) : MD R all (out ++ (B ++ A)) := by
  have h' : MI R all out A (B ++ []) := by rw [List.append_nil]; exact h
  have := (h'.rights hx).doneA
  rw [List.append_assoc] at this
  exact this
end
/-! runs that lie one behind the other -/
section
variable {α : Type} {R : α → α → Prop}
def RunsL (R : α → α → Prop) : List (Nat × Nat × Nat) → Nat → List α → Prop
  | [], _, l => l = []
  | (a, n, _) :: r, x, l => a = x ∧ 1 ≤ n ∧ ∃ S l', l = S ++ l' ∧ S.length = n ∧ S.Pairwise R ∧ RunsL R r (x + n) l'
theorem RunsL.append : ∀ {p q : List (Nat × Nat × Nat)} {x : Nat} {l m : List α}, RunsL R p x l → RunsL R q (x + l.length) m → RunsL R (p ++ q) x (l ++ m)
  | [], q, x, l, m, h1, h2 => by
    cases (h1 : l = [])
    exact h2
  | (a, n, w) :: p, q, x, l, m, h1, h2 => by
    obtain ⟨e, hn, S, l', rfl, hS, hp, h1⟩ := h1
    refine ⟨e, hn, S, l' ++ m, by rw [List.append_assoc], hS, hp, RunsL.append h1 ?_⟩
    rw [List.length_append, hS] at h2
    rw [Nat.add_assoc]; exact h2
theorem RunsL.split : ∀ {p q : List (Nat × Nat × Nat)} {x : Nat} {l : List α}, RunsL R (p ++ q) x l → ∃ l1 l2, l = l1 ++ l2 ∧ RunsL R p x l1 ∧ RunsL R q (x + l1.length) l2
  | [], q, x, l, h => ⟨[], l, rfl, rfl, h⟩
  | (a, n, w) :: p, q, x, l, h => by
    obtain ⟨e, hn, S, l', rfl, hS, hp, h⟩ := h
    obtain ⟨l1, l2, rfl, h1, h2⟩ := RunsL.split h
    refine ⟨S ++ l1, l2, by rw [List.append_assoc], ⟨e, hn, S, l1, rfl, hS, hp, h1⟩, ?_⟩
    rw [List.length_append, hS, ← Nat.add_assoc]; exact h2
theorem RunsL.len : ∀ {p : List (Nat × Nat × Nat)} {x : Nat} {l : List α}, RunsL R p x l → p.length ≤ l.length
  | [], _, _, _ => Nat.zero_le _
  | (a, n, w) :: p, x, l, h => by
    obtain ⟨e, hn, S, l', rfl, hS, hp, h⟩ := h
    have := RunsL.len h
    rw [List.length_append, List.length_cons]; omega
theorem RunsL.two {p q : List (Nat × Nat × Nat)} {u v : Nat × Nat × Nat} {l : List α} (h : RunsL R (p ++ u :: v :: q) 0 l) :
    ∃ l1 X Y l2, l = l1 ++ (X ++ (Y ++ l2)) ∧ u.1 = l1.length ∧ u.2.1 = X.length ∧ v.1 = l1.length + X.length ∧ v.2.1 = Y.length ∧ 1 ≤ X.length ∧ 1 ≤ Y.length ∧ X.Pairwise R ∧ Y.Pairwise R ∧
      ∀ M w, M.Pairwise R → M.length = X.length + Y.length → RunsL R (p ++ (u.1, u.2.1 + v.2.1, w) :: q) 0 (l1 ++ (M ++ l2)) := by
  obtain ⟨l1, l2, rfl, h1, h2⟩ := h.split
  obtain ⟨a, n, w⟩ := u
  obtain ⟨b, m, w2⟩ := v
  obtain ⟨e, hn, X, l', rfl, hX, hpX, e2, hm, Y, l2, rfl, hY, hpY, h3⟩ := h2
  refine ⟨l1, X, Y, l2, rfl, by rw [e]; exact Nat.zero_add _, hX.symm, by rw [e2, hX, Nat.zero_add], hY.symm, by omega, by omega, hpX, hpY, fun M w' hM hl => h1.append ⟨e, by show 1 ≤ n + m; omega, M, l2, rfl, by show M.length = n + m; omega, hM, ?_⟩⟩
  show RunsL R q (0 + l1.length + (n + m)) l2
  rw [← Nat.add_assoc]; exact h3
end
/-! a stretch written over -/
end L2

namespace L2
open PySem PyProof.Rows
section
variable {M : Model} {A : Around} {E : Value → Shared → Prop} {s : Shared}
end
section
variable {prog : Program} {w : World} {A : Around} {E : Value → Shared → Prop} {s : Shared} {O : KeyOrd} {key : Keyed → O.α} {D : Keyed → Prop} {κ : SortKind}
end
end L2

namespace L2
open PySem PyProof.Rows
def Upw (O : KeyOrd) (key : Keyed → O.α) (x y : Keyed) : Prop := O.kle (key x) (key y)
/-- but for the gallop's least all stays -/
def SameS (st st' : SortSt) : Prop := kindOf st' = kindOf st ∧ arrOf st' = arrOf st ∧ pendingOf st' = pendingOf st ∧ failedOf st' = failedOf st
theorem SameS.refl (st : SortSt) : SameS st st := ⟨rfl, rfl, rfl, rfl⟩
theorem SameS.trans {s1 s2 s3 : SortSt} (h1 : SameS s1 s2) (h2 : SameS s2 s3) : SameS s1 s3 :=
  ⟨h2.1.trans h1.1, h2.2.1.trans h1.2.1, h2.2.2.1.trans h1.2.2.1, h2.2.2.2.trans h1.2.2.2⟩
section lo
variable {prog : Program} {w : World} {A : Around} {E : Value → Shared → Prop} {s : Shared} {O : KeyOrd} {key : Keyed → O.α} {D : Keyed → Prop} {κ : SortKind} {a b : Array Keyed}
structure MPre (O : KeyOrd) (key : Keyed → O.α) (D : Keyed → Prop) (a b : Array Keyed) : Prop where
  ua : a.toList.Pairwise (Upw O key)
  ub : b.toList.Pairwise (Upw O key)
  da : ∀ x ∈ a.toList, D x
  db : ∀ x ∈ b.toList, D x
  na : 1 ≤ a.size
  nb : 1 ≤ b.size
  first : ∀ (h1 : 0 < a.size) (h2 : 0 < b.size), O.kle (key b[0]) (key a[0])
  last : ∀ (h1 : a.size - 1 < a.size) (h2 : b.size - 1 < b.size), O.kle (key b[b.size - 1]) (key a[a.size - 1])
abbrev GI (O : KeyOrd) (key : Keyed → O.α) (a b o : Array Keyed) (i j : Nat) : Prop := MI (Upw O key) (a.toList ++ b.toList) o.toList (a.toList.drop i) (b.toList.drop j)
theorem GI.size {o : Array Keyed} {i j : Nat} (h : GI O key a b o i j) (hi : i ≤ a.size) (hj : j ≤ b.size) : o.size = i + j := by
  have := h.perm.length_eq
  simp only [List.length_append, List.length_drop, Array.length_toList] at this
  omega
/-- between two turns -/
structure Go (O : KeyOrd) (key : Keyed → O.α) (a b o : Array Keyed) (i j : Nat) : Prop where
  gi : GI O key a b o i j
  hi : i + 1 < a.size
  hj : j < b.size
end lo
end L2

namespace L2
open PySem PyProof.Rows
section hi
variable {prog : Program} {w : World} {A : Around} {E : Value → Shared → Prop} {s : Shared} {O : KeyOrd} {key : Keyed → O.α} {D : Keyed → Prop} {κ : SortKind} {a b : Array Keyed}
def Dnw (O : KeyOrd) (key : Keyed → O.α) (x y : Keyed) : Prop := O.kle (key y) (key x)
abbrev HI (O : KeyOrd) (key : Keyed → O.α) (a b o : Array Keyed) (i j : Nat) : Prop := MI (Dnw O key) (a.toList ++ b.toList) o.toList (a.toList.take i).reverse (b.toList.take j).reverse
theorem HI.size {o : Array Keyed} {i j : Nat} (h : HI O key a b o i j) (hi : i ≤ a.size) (hj : j ≤ b.size) : o.size + i + j = a.size + b.size := by
  have := h.perm.length_eq
  simp only [List.length_append, List.length_reverse, List.length_take, Array.length_toList] at this
  omega
theorem MD.rev {R : Keyed → Keyed → Prop} {all l : List Keyed} (h : MD (fun x y => R y x) all l) : MD R all l.reverse := ⟨(List.reverse_perm l).trans h.1, by rw [List.pairwise_reverse]; exact h.2⟩
/-- between two turns -/
structure Ho (O : KeyOrd) (key : Keyed → O.α) (a b o : Array Keyed) (i j : Nat) : Prop where
  gi : HI O key a b o i j
  i0 : 0 < i
  hi : i ≤ a.size
  j0 : 1 < j
  hj : j ≤ b.size
abbrev HC := Option (Array Keyed) × Nat × Nat × Array Keyed × Nat × Nat × Nat
end hi
end L2

namespace L2
open PySem PyProof.Rows
section
variable {prog : Program} {w : World} {A : Around} {E : Value → Shared → Prop} {s : Shared} {O : KeyOrd} {key : Keyed → O.α} {D : Keyed → Prop} {κ : SortKind}
end
end L2

namespace L2
open PySem PyProof.Rows
section
variable {prog : Program} {w : World} {A : Around} {E : Value → Shared → Prop} {s : Shared} {O : KeyOrd} {key : Keyed → O.α} {D : Keyed → Prop} {κ : SortKind} {a₀ : Array Keyed} {pd : Array (Nat × Nat × Nat)} {lo : Nat}
def kb {O : KeyOrd} (key : Keyed → O.α) (p : Array Keyed) (i : Nat) : O.α := key (p.getD i (Value.none, Value.none))
def UpS {O : KeyOrd} (key : Keyed → O.α) (p : Array Keyed) (lo hi : Nat) : Prop := ∀ i j, lo ≤ i → i ≤ j → j < hi → O.kle (kb key p i) (kb key p j)
def DnS {O : KeyOrd} (key : Keyed → O.α) (p : Array Keyed) (lo hi : Nat) : Prop := ∀ i j, lo ≤ i → i ≤ j → j < hi → O.kle (kb key p j) (kb key p i)
structure Bs (κ : SortKind) (a₀ : Array Keyed) (pd : Array (Nat × Nat × Nat)) (lo : Nat) (st : SortSt) : Prop where
  perm : (arrOf st).Perm a₀
  kind : kindOf st = κ
  failed : failedOf st = none
  pend : pendingOf st = pd
  pre : ∀ i, i < lo → (arrOf st)[i]? = a₀[i]?
theorem Bs.size {st : SortSt} (h : Bs κ a₀ pd lo st) : (arrOf st).size = a₀.size := h.perm.size_eq
theorem Bs.rev {st : SortSt} (h : Bs κ a₀ pd lo st) {i j : Nat} (hi : lo ≤ i) (hj : j ≤ a₀.size) : Bs κ a₀ pd lo (setArr st (mirror (arrOf st) i j ((j - i) / 2))) :=
  ⟨(mirror_perm _ _ _ _).trans h.perm, h.kind, h.failed, h.pend, fun k hk => by
    show (mirror (arrOf st) i j ((j - i) / 2))[k]? = _
    rw [getElem?_mirror_all (by rw [h.size]; exact hj), if_neg (by omega)]; exact h.pre k hk⟩
theorem UpS.more {p : Array Keyed} {k : Nat} (h : UpS key p lo k) (hk : O.blt (kb key p k) (kb key p (k - 1)) = false) : UpS key p lo (k + 1) := by
  intro i j hl hij hj
  by_cases hjk : j < k
  · exact h i j hl hij hjk
  · obtain rfl : j = k := by omega
    by_cases hi : i = j
    · rw [hi]; exact KeyOrd.kle_refl _
    · exact KeyOrd.kle_trans (h i (j - 1) hl (by omega) (by omega)) hk
theorem DnS.more {p q : Array Keyed} {k : Nat} (h : DnS key p lo k) (e : ∀ i, kb key q i = kb key p i) (hk : O.kle (kb key p k) (kb key p (k - 1))) : DnS key q lo (k + 1) := by
  intro i j hl hij hj
  rw [e, e]
  by_cases hjk : j < k
  · exact h i j hl hij hjk
  · obtain rfl : j = k := by omega
    by_cases hi : i = j
    · rw [hi]; exact KeyOrd.kle_refl _
    · exact KeyOrd.kle_trans hk (h i (j - 1) hl (by omega) (by omega))
end
end L2

namespace L2
open PySem PyProof.Rows
section
variable {prog : Program} {w : World} {A : Around} {E : Value → Shared → Prop} {s : Shared} {O : KeyOrd} {key : Keyed → O.α} {D : Keyed → Prop} {κ : SortKind} {a₀ : Array Keyed} {pd : Array (Nat × Nat × Nat)} {lo : Nat}
structure RJ (O : KeyOrd) (key : Keyed → O.α) (κ : SortKind) (a₀ : Array Keyed) (tl : List Keyed) (m : Nat) (st : SortSt) : Prop where
  perm : (arrOf st).toList.Perm a₀.toList
  kind : kindOf st = κ
  failed : failedOf st = none
  runs : ∃ C, (arrOf st).toList = C ++ tl ∧ C.length = m ∧ RunsL (Upw O key) (pendingOf st).toList 0 C
theorem RJ.push {st : SortSt} {S rest : List Keyed} {lo n : Nat} (h : RJ O key κ a₀ (S ++ rest) lo st) (hS : S.length = n) (hn : 1 ≤ n) (hu : S.Pairwise (Upw O key)) : RJ O key κ a₀ rest (lo + n) (setPending st ((pendingOf st).push (lo, n, 0))) := by
  obtain ⟨hp, hk, hf', C, hC, hm, hr⟩ := h
  refine ⟨hp, hk, hf', C ++ S, by show (arrOf st).toList = _; rw [hC]; simp, by rw [List.length_append]; omega, ?_⟩
  show RunsL (Upw O key) ((pendingOf st).push (lo, n, 0)).toList 0 (C ++ S)
  rw [Array.toList_push]
  refine hr.append ⟨by show lo = 0 + C.length; omega, hn, S, [], by simp, hS, hu, rfl⟩
end
end L2

namespace L2
open PySem PySem.W PyProof.Rows
/-! sorted() of lists of any length -/
structure Sorts (prog : Program) (w : World) (A : Around) (s : Shared) (κ : SortKind) {O : KeyOrd} (key : Value → O.α) (vs : List Value) : Prop where
  kind : ∀ (E : Value → Shared → Prop) (Q : SortKind → Shared → Prop), Q κ s → wpAny (model prog w) A (keyKind' vs.toArray) Q E s
  cmp : ∀ x ∈ vs, ∀ y ∈ vs, ∀ C : Bool → Shared → Prop, C (O.blt (key x) (key y)) s → wpAny (model prog w) A (keyLt' κ x y) C (fun _ _ => False) s
section
variable {prog : Program} {w : World} {A : Around} {E : Value → Shared → Prop} {s : Shared} {vs : List Value} {O : KeyOrd} {key : Value → O.α} {κ : SortKind}
end
theorem TupsH.kept {h h' : Heap} {rs : List RA} (t : TupsH h rs) (kp : ∀ b o, h.get? b = some o → h'.get? b = some o) : TupsH h' rs := fun x hx => by
  obtain ⟨o, t1, u1, n, ho, z⟩ := t x hx
  exact ⟨o, t1, u1, n, kp _ _ ho, z⟩
section
variable {X : Cx}
end
end L2

namespace L2
open PySem PySem.Spec PyProof.Rows PySem.SeqAt
/-! lists of rows -/
abbrev LA := Addr × List RA
def arefs (ls : List LA) : List V := ls.map fun x => V.ref x.1
def RowsOk (H : Hp) (ls : List LA) : Prop := ∀ x ∈ ls, RowAt H x.1 x.2
def RowsAt (H : Hp) (l : Addr) (ls : List LA) : Prop := H l = some (.lst (arefs ls)) ∧ RowsOk H ls
theorem RowsOk.up {H H' : Hp} {ls : List LA} (h : RowsOk H ls) (s : Same H H') : RowsOk H' ls := fun x hx => (h x hx).up s
theorem RowsAt.up {H H' : Hp} {l : Addr} {ls : List LA} (h : RowsAt H l ls) (s : Same H H') : RowsAt H' l ls := ⟨s _ _ h.1, h.2.up s⟩
section
variable {X : Cx}
end
end L2

namespace L2
open PySem PySem.Spec PyProof.Rows

end L2

namespace L2
open PySem PySem.Spec PyProof.Rows

section
variable (P : Program) (w : World)
end

section
variable {P : Program} {w : World} {H H' : Hp} {h h' : Heap} {a : Addr} {o : HO}
end

section
variable {P : Program} {w : World} {H : Hp} {h h' : Heap} {x e : Addr} {o' : HO}
end

section
variable {fs fs' ex ex' : List Addr} {H H1 H2 : Hp} {h h1 h2 h' : Heap} {a x e : Addr} {o : HO}
end

end L2

namespace L2
open PySem PySem.Spec PyProof.Rows

section
variable {X : Cx} {pins : List (Addr × Obj)} {σ : List (Option V)} {H H' : Hp} {s : Shared} {h' : Heap}

end

end L2

namespace L2
open PySem PySem.Spec PyProof.Rows
section
variable {X : Cx}

variable {a b : Expr} {ta tb : TE} {pos : Pos}
variable {tA tB' : TT} {rest : List Expr}
end
end L2

namespace L2
open PySem PySem.Spec PyProof.Rows

section
variable {X : Cx} {pins : List (Addr × Obj)} {σ : St} {H : Hp} {s : Shared} {a : Addr} {xs ys : List V}
end

section
variable {X : Cx} {pins : List (Addr × Obj)} {σ : St} {H : Hp} {s : Shared} {E : Value → Shared → Prop}
end

section
variable {X : Cx} {st : Stmt} {rest : List Stmt} {t u : TS} {e : Expr} {te : TE} {pos : Pos}
end

section
variable {X : Cx} {pos : Pos}
end

section
variable {X : Cx} {pos : Pos}
end

end L2

namespace L2
open PySem PySem.Spec PyProof.Rows
section
variable {X : Cx} {tg : Expr}
end

end L2

namespace L2
open PySem PySem.Spec PyProof.Rows

section
variable {X : Cx} {a b c : Expr} {ta tb tc : TE} {pos : Pos}

end

section
variable {X : Cx} {a b c : Expr} {ta tb tc : TE} {pos : Pos}
end
end L2

namespace L2
open PySem PySem.Spec PyProof.Rows

section
variable {prog : Program} {w : World} {A : Around} {E : Value → Shared → Prop} {s : Shared} {K : PySem.W.Frag} {x dx C f : Addr} {mA : Str → Option Value} {name : Str} {v : Value}

end

section
variable {P : Program} {w : World} {H H' : Hp} {h h' : Heap} {a C dx : Addr} {fs fs' : List (Str × V)}
end

section
variable {X : Cx} {pins : List (Addr × Obj)} {σ : St} {H : Hp} {s : Shared} {a C dx : Addr} {fs : List (Str × V)} {f : Str} {v : V} {A : Around} {E : Value → Shared → Prop}

end

section
variable {X : Cx} {o e value : Expr} {f : Str} {pos pos' tpos : Pos} {ta tv : TE}
end

section
variable {X : Cx} {pins : List (Addr × Obj)} {σ : St} {H : Hp} {s : Shared} {A : Around} {E : Value → Shared → Prop} {Q : Value → Shared → Prop} {c : Value} {b : Bool}
end
end L2

namespace L2
open PySem PySem.Spec PyProof.Rows

section
variable {X : Cx} {e : Expr} {es : List Expr} {te : TE} {t : TA} {pos : Pos}
end

section
variable {X : Cx} {pins : List (Addr × Obj)} {σ : St} {H : Hp} {s s' : Shared}
end

section
variable {X : Cx} {CX : CXT} {cm : Bool} {k : Nat} {f C : Addr} {fd : FuncData} {ps : List Str} {sp : Sp} {dvs : List V} {ds : List Value} {E : XK} {x m : Str} {p pos apos : Pos} {e o : Expr} {es : List Expr} {ta : TE} {t : TA}

end

section
variable {X : Cx} {CX : CXT} {cm : Bool} {k : Nat} {f C : Addr} {fd : FuncData} {ps ks : List Str} {sp : Sp} {E : XK} {x m : Str} {p pos apos kpos : Pos} {e o : Expr} {es : List Expr} {kws : List Keyword} {te ta : TE} {t tk : TA} {nm : Option Str}
variable {g : List Value → List Value → List Value} {gV : List V → List V → List V}
end

end L2

namespace L2
open PySem PySem.Spec PyProof.Rows
section
variable {X : Cx} {x : Str} {p pos : Pos} {e : Expr} {es : List Expr} {t : TA} {id T : String} {r : List V → Hp → VK → Prop}

end
end L2

namespace L2
open PySem PySem.Spec PyProof.Rows

section
variable {κ : Type} [DecidableEq κ]
def valV (kvs : List (κ × V)) (k : κ) : Option V := (kvs.find? fun kv => decide (kv.1 = k)).map (·.2)
def putK (kvs : List (κ × V)) (k : κ) (v : V) : List (κ × V) :=
  if (kvs.any fun kv => decide (kv.1 = k)) = true then kvs.map (fun kv => if kv.1 = k then (kv.1, v) else kv) else kvs ++ [(k, v)]
def dropK (kvs : List (κ × V)) (k : κ) : List (κ × V) := kvs.filter fun kv => decide (kv.1 ≠ k)

theorem valV_pos {p : κ × V} {r : List (κ × V)} {k : κ} (e : p.1 = k) : valV (p :: r) k = some p.2 := by simp [valV, List.find?_cons, e]
theorem valV_neg {p : κ × V} {r : List (κ × V)} {k : κ} (e : ¬ p.1 = k) : valV (p :: r) k = valV r k := by simp [valV, List.find?_cons, e]
theorem valV_any (k : κ) : ∀ kvs : List (κ × V), (kvs.any fun kv => decide (kv.1 = k)) = (valV kvs k).isSome
  | [] => rfl
  | p :: r => by
    rw [List.any_cons]
    by_cases e : p.1 = k
    · simp only [valV_pos e, decide_eq_true e, Bool.true_or, Option.isSome_some]
    · rw [valV_neg e, decide_eq_false e, Bool.false_or]; exact valV_any k r
theorem RelO.isSome_eq {o : Option V} {u : Option Value} (r : RelO o u) : o.isSome = u.isSome := by
  cases o with
  | none => cases u with
    | none => rfl
    | some _ => exact (show False from r).elim
  | some _ => cases u with
    | none => exact (show False from r).elim
    | some _ => rfl
theorem RelO.getD {o : Option V} {u : Option Value} {d : V} {d' : Value} (r : RelO o u) (rd : RelV d d') : RelV (o.getD d) (u.getD d') := by
  cases o with
  | none => cases u with
    | none => exact rd
    | some _ => exact (show False from r).elim
  | some _ => cases u with
    | none => exact (show False from r).elim
    | some _ => exact r

theorem KV.val {kvs : List (κ × V)} {vs : List (κ × Value)} (r : KV kvs vs) (k : κ) : RelO (valV kvs k) (valueAt vs k) := by
  unfold KV at r
  induction r with
  | nil => exact True.intro
  | @cons p q ps qs h t ih =>
    obtain ⟨h1, h2⟩ := h
    by_cases e : p.1 = k
    · have e' : q.1 = k := h1.symm.trans e
      have b : valueAt (q :: qs) k = some q.2 := by simp [valueAt, List.find?_cons, e']
      rw [valV_pos e, b]; exact h2
    · have e' : ¬ q.1 = k := fun z => e (h1.trans z)
      have b : valueAt (q :: qs) k = valueAt qs k := by simp [valueAt, List.find?_cons, e']
      rw [valV_neg e, b]; exact ih
theorem KV.any {kvs : List (κ × V)} {vs : List (κ × Value)} (r : KV kvs vs) (k : κ) : (kvs.any fun kv => decide (kv.1 = k)) = vs.any fun kv => decide (kv.1 = k) := by
  unfold KV at r
  induction r with
  | nil => rfl
  | cons h t ih => rw [List.any_cons, List.any_cons, ih, h.1]
theorem KV.repl {kvs : List (κ × V)} {vs : List (κ × Value)} (r : KV kvs vs) (k : κ) {y : V} {u : Value} (ry : RelV y u) :
    KV (kvs.map fun kv => if kv.1 = k then (kv.1, y) else kv) (vs.map fun kv => if kv.1 = k then (kv.1, u) else kv) := by
  unfold KV at r ⊢
  induction r with
  | nil => exact .nil
  | @cons p q ps qs h t ih =>
    rw [List.map_cons, List.map_cons]
    refine .cons ?_ ih
    obtain ⟨h1, h2⟩ := h
    by_cases e : p.1 = k
    · rw [if_pos e, if_pos (h1.symm.trans e)]; exact ⟨h1, ry⟩
    · rw [if_neg e, if_neg (fun z => e (h1.trans z))]; exact ⟨h1, h2⟩
theorem KV.put {kvs : List (κ × V)} {vs : List (κ × Value)} (r : KV kvs vs) (k : κ) {y : V} {u : Value} (ry : RelV y u) : KV (putK kvs k y) (stored vs k u) := by
  unfold putK stored
  rw [r.any k]
  by_cases e : (vs.any fun kv => decide (kv.1 = k)) = true
  · rw [if_pos e, if_pos e]; exact r.repl k ry
  · rw [if_neg e, if_neg e]; exact Paired.snoc r ⟨rfl, ry⟩
theorem KV.drop {kvs : List (κ × V)} {vs : List (κ × Value)} (r : KV kvs vs) (k : κ) : KV (dropK kvs k) (without vs k) := by
  unfold KV at r ⊢
  unfold dropK without
  induction r with
  | nil => exact .nil
  | @cons p q ps qs h t ih =>
    obtain ⟨h1, h2⟩ := h
    rw [List.filter_cons, List.filter_cons]
    by_cases e : p.1 = k
    · have a : ¬ decide (p.1 ≠ k) = true := by simp [e]
      have b : ¬ decide (q.1 ≠ k) = true := by simp [h1.symm.trans e]
      rw [if_neg a, if_neg b]; exact ih
    · have e' : ¬ q.1 = k := fun z => e (h1.trans z)
      have a : decide (p.1 ≠ k) = true := by simp [e]
      have b : decide (q.1 ≠ k) = true := by simp [e']
      rw [if_pos a, if_pos b]; exact .cons ⟨h1, h2⟩ ih
theorem KV.keys {kvs : List (κ × V)} {vs : List (κ × Value)} (r : KV kvs vs) : kvs.map (·.1) = vs.map (·.1) := by
  unfold KV at r
  induction r with
  | nil => rfl
  | cons h t ih => rw [List.map_cons, List.map_cons, ih, h.1]
theorem KV.length {kvs : List (κ × V)} {vs : List (κ × Value)} (r : KV kvs vs) : kvs.length = vs.length := Paired.length r
end


abbrev KT (H : Hp) : List (List Key × V) → List (List Key × Addr × Value) → Prop := Paired fun p q => p.1 = q.1 ∧ H q.2.1 = some (.tup (p.1.map kV)) ∧ RelV p.2 q.2.2
theorem KT.val {H : Hp} {kvs : List (List Key × V)} {xs : List (List Key × Addr × Value)} (r : KT H kvs xs) (k : List Key) : RelO (valV kvs k) ((atKey xs k).map (·.2)) := by
  induction r with
  | nil => exact True.intro
  | @cons p q ps qs h t ih =>
    obtain ⟨h1, _, h2⟩ := h
    by_cases e : p.1 = k
    · have e' : q.1 = k := h1.symm.trans e
      have b : atKey (q :: qs) k = some q.2 := by simp [atKey, List.find?_cons, e']
      rw [valV_pos e, b]; exact h2
    · have e' : ¬ q.1 = k := fun z => e (h1.trans z)
      have b : atKey (q :: qs) k = atKey qs k := by simp [atKey, List.find?_cons, e']
      rw [valV_neg e, b]; exact ih
theorem KT.repl {H : Hp} {kvs : List (List Key × V)} {xs : List (List Key × Addr × Value)} (r : KT H kvs xs) (k : List Key) {y : V} {u : Value} (ry : RelV y u) :
    KT H (kvs.map fun kv => if kv.1 = k then (kv.1, y) else kv) (xs.map (putAt k u)) := by
  induction r with
  | nil => exact .nil
  | @cons p q ps qs h t ih =>
    rw [List.map_cons, List.map_cons]
    refine .cons ?_ ih
    obtain ⟨h1, h2, h3⟩ := h
    unfold putAt
    by_cases e : p.1 = k
    · rw [if_pos e, if_pos (h1.symm.trans e)]; exact ⟨h1, h2, ry⟩
    · rw [if_neg e, if_neg (fun z => e (h1.trans z))]; exact ⟨h1, h2, h3⟩
theorem KT.put {H : Hp} {kvs : List (List Key × V)} {xs : List (List Key × Addr × Value)} (r : KT H kvs xs) (k : List Key) {b : Addr} {y : V} {u : Value} (hb : H b = some (.tup (k.map kV))) (ry : RelV y u) :
    KT H (putK kvs k y) (storedH xs k b u) := by
  have e : (kvs.any fun kv => decide (kv.1 = k)) = (atKey xs k).isSome := by
    rw [valV_any, (r.val k).isSome_eq, Option.isSome_map]
  unfold putK storedH
  rw [e]
  by_cases q : (atKey xs k).isSome = true
  · rw [if_pos q, if_pos q]; exact r.repl k ry
  · rw [if_neg q, if_neg q]; exact Paired.snoc r ⟨rfl, hb, ry⟩
theorem KT.keeps {H H' : Hp} {kvs : List (List Key × V)} {xs : List (List Key × Addr × Value)} (r : KT H kvs xs) (ht : ∀ b ys, H b = some (.tup ys) → H' b = some (.tup ys)) : KT H' kvs xs :=
  Paired.mapP r fun _ _ z => ⟨z.1, ht _ _ z.2.1, z.2.2⟩

section
variable {P : Program} {w : World} {H : Hp} {h : Heap} {a : Addr}
end

def DGet (H : Hp) (a : Addr) (y : V) (r : Option V) : Prop :=
  (∃ kvs k, Rd H a (.dK kvs) ∧ y = kV k ∧ r = valV kvs k) ∨ ∃ kvs k b, Rd H a (.dT kvs) ∧ y = .ref b ∧ H b = some (.tup (k.map kV)) ∧ r = valV kvs k
def DPut (H : Hp) (a : Addr) (y v : V) (H' : Hp) : Prop :=
  (∃ kvs k, H a = some (.dK kvs) ∧ y = kV k ∧ kvs.length < sizeLine ∧ H' = upd H a (.dK (putK kvs k v))) ∨
  ∃ kvs k b, H a = some (.dT kvs) ∧ y = .ref b ∧ H b = some (.tup (k.map kV)) ∧ kvs.length < sizeLine ∧ H' = upd H a (.dT (putK kvs k v))
theorem DGet.k {H : Hp} {a : Addr} {kvs : List (Key × V)} {k : Key} (e : H a = some (.dK kvs)) : DGet H a (kV k) (valV kvs k) := .inl ⟨kvs, k, .inl e, rfl, rfl⟩
theorem DGet.t {H : Hp} {a b : Addr} {kvs : List (List Key × V)} {k : List Key} (e : H a = some (.dT kvs)) (eb : H b = some (.tup (k.map kV))) : DGet H a (.ref b) (valV kvs k) := .inr ⟨kvs, k, b, .inl e, rfl, eb, rfl⟩
theorem DPut.k {H : Hp} {a : Addr} {kvs : List (Key × V)} {k : Key} {v : V} (e : H a = some (.dK kvs)) (hl : kvs.length < sizeLine) : DPut H a (kV k) v (upd H a (.dK (putK kvs k v))) := .inl ⟨kvs, k, e, rfl, hl, rfl⟩
theorem DPut.t {H : Hp} {a b : Addr} {kvs : List (List Key × V)} {k : List Key} {v : V} (e : H a = some (.dT kvs)) (eb : H b = some (.tup (k.map kV))) (hl : kvs.length < sizeLine) :
    DPut H a (.ref b) v (upd H a (.dT (putK kvs k v))) := .inr ⟨kvs, k, b, e, rfl, eb, hl, rfl⟩


section
variable {X : Cx} {pins : List (Addr × Obj)} {σ : St} {H : Hp} {s : Shared} {a : Addr} {y v : V} {u r : Value} {o : Option V} {A : Around} {E : Value → Shared → Prop}

theorem Inv.big (I : Inv X pins σ H s) : sysModules < s.heap.objs.size := by
  have h : mainGlobals < s.heap.objs.size := (I.mod.glob.keeps I.bk).lt
  exact Nat.lt_trans (by decide) h

end

section
variable {X : Cx} {pins : List (Addr × Obj)} {σ : St} {H : Hp} {s : Shared} {a : Addr} {kvs : List (Key × V)} {k : Key} {u : Value} {A : Around} {E : Value → Shared → Prop}
end


section
variable {X : Cx} {o i e value : Expr} {pos pos' tpos : Pos} {td ty tv : TE}
end


section
variable {X : Cx} {pos : Pos}
end

structure M1 (X : Cx) (o : Expr) (m : Str) (apos : Pos) (e : Expr) (cpos : Pos) : Prop where
  base : attributeBase o m X.env (eval o X.env) = eval o X.env
  few : ((backTo cpos (starEach [e] X.env)).all (fun x => !x.1) && (backToKw cpos (keywordEach [] X.env)).all (fun x => x.1.isSome)
    && decide (([e] : List Expr).length + ([] : List Keyword).length + (if ([] : List Keyword).isEmpty then 0 else 1) < 30)) = true
  line : (apos.endLine == cpos.line) = true
  trees : backTo cpos (starEach [e] X.env) = [(false, eval e X.env)]
structure M2 (X : Cx) (o : Expr) (m : Str) (apos : Pos) (e f : Expr) (cpos : Pos) : Prop where
  base : attributeBase o m X.env (eval o X.env) = eval o X.env
  few : ((backTo cpos (starEach [e, f] X.env)).all (fun x => !x.1) && (backToKw cpos (keywordEach [] X.env)).all (fun x => x.1.isSome)
    && decide (([e, f] : List Expr).length + ([] : List Keyword).length + (if ([] : List Keyword).isEmpty then 0 else 1) < 30)) = true
  line : (apos.endLine == cpos.line) = true
  trees : backTo cpos (starEach [e, f] X.env) = [(false, eval e X.env), (false, eval f X.env)]

section
variable {X : Cx} {pins : List (Addr × Obj)} {σ : St} {H : Hp} {s : Shared} {a : Addr} {y d : V} {u r : Value} {o : Option V} {A : Around} {E : Value → Shared → Prop}
end

section
variable {X : Cx} {o e f : Expr} {apos cpos : Pos} {td ty tx : TE}
end

section
variable {X : Cx} {pins : List (Addr × Obj)} {σ : St} {H : Hp} {s : Shared} {a : Addr} {kvs : List (Key × V)} {A : Around} {E : Value → Shared → Prop}
end


section
variable {X : Cx} {pins : List (Addr × Obj)} {σ : St} {H : Hp} {s : Shared} {a : Addr} {y : V} {u : Value} {A : Around} {E : Value → Shared → Prop}
end
end L2

namespace Att
open PySem PySem.W PySem.Calls PyProof.Rows

section
variable {prog : Program} {w : World} {A : Around} {E : Value → Shared → Prop} {s : Shared} {K : Frag}

end
end Att

namespace L2
open PySem PySem.Spec PyProof.Rows

end L2

namespace L2
open PySem PySem.Spec PyProof.Rows

end L2

namespace L2
open PySem PySem.Spec PyProof.Rows

section
variable {P : Program} {w : World} {K : PySem.W.Frag} {mg : Str → Option Value} {base : Heap}
end
section
variable {X : Cx}
end

section
variable {κ : Type} [DecidableEq κ]
end
end L2

namespace L2
open PySem PySem.W PyProof.Rows
section
variable {prog : Program} {w : World} {A : Around} {E : Value → Shared → Prop} {s : Shared}
end
section
variable {X : Cx}
end
end L2

namespace L2
open PySem PySem.W PyProof.Rows
section
variable {X : Cx}
end
theorem ex1 {us : List Value} (h : us.length = 1) : ∃ a, us = [a] := by
  match us, h with
  | [a], _ => exact ⟨a, rfl⟩
theorem ex2 {us : List Value} (h : us.length = 2) : ∃ a b, us = [a, b] := by
  match us, h with
  | [a, b], _ => exact ⟨a, b, rfl⟩
theorem ex3 {us : List Value} (h : us.length = 3) : ∃ a b c, us = [a, b, c] := by
  match us, h with
  | [a, b, c], _ => exact ⟨a, b, c, rfl⟩
theorem ex4 {us : List Value} (h : us.length = 4) : ∃ a b c d, us = [a, b, c, d] := by
  match us, h with
  | [a, b, c, d], _ => exact ⟨a, b, c, d, rfl⟩
theorem ex5 {us : List Value} (h : us.length = 5) : ∃ a b c d e, us = [a, b, c, d, e] := by
  match us, h with
  | [a, b, c, d, e], _ => exact ⟨a, b, c, d, e, rfl⟩
theorem ex6 {us : List Value} (h : us.length = 6) : ∃ a b c d e f, us = [a, b, c, d, e, f] := by
  match us, h with
  | [a, b, c, d, e, f], _ => exact ⟨a, b, c, d, e, f, rfl⟩
end L2

namespace L2
open PySem PySem.Spec PyProof.Rows PySem.SeqAt
/-! lists of triples of ints -/
abbrev RT := Addr × (Int × Int × Int)
def trefs (rs : List RT) : List V := rs.map fun x => V.ref x.1
def triV (t : Int × Int × Int) : List V := [.int t.1, .int t.2.1, .int t.2.2]
def TriOk (H : Hp) (rs : List RT) : Prop := ∀ x ∈ rs, H x.1 = some (.tup (triV x.2))
def TriAt (H : Hp) (l : Addr) (rs : List RT) : Prop := H l = some (.lst (trefs rs)) ∧ TriOk H rs
theorem TriOk.up {H H' : Hp} {rs : List RT} (h : TriOk H rs) (s : Same H H') : TriOk H' rs := fun x hx => s _ _ (h x hx)
theorem TriAt.up {H H' : Hp} {l : Addr} {rs : List RT} (h : TriAt H l rs) (s : Same H H') : TriAt H' l rs := ⟨s _ _ h.1, h.2.up s⟩
theorem trefs_app (rs : List RT) (a : Addr) (t : Int × Int × Int) : trefs rs ++ [.ref a] = trefs (rs ++ [(a, t)]) := by unfold trefs; rw [List.map_append]; rfl
theorem TriAt.put {H : Hp} {F t : Addr} {fs : List RT} {x y n : Int} (h : TriAt H F fs) (ht : H t = none) : TriAt (upd (upd H t (.tup [.int x, .int y, .int n])) F (.lst (trefs fs ++ [.ref t]))) F (fs ++ [(t, x, y, n)]) := by
  have htF : t ≠ F := fun z => by rw [z, h.1] at ht; cases ht
  refine ⟨by rw [upd_same, trefs_app _ _ (x, y, n)], fun q hq => ?_⟩
  rcases List.mem_append.mp hq with hq | hq
  · have e := h.2 q hq
    rw [upd_ne (fun z => by rw [z, h.1] at e; cases e), upd_ne (ne_of_none e ht)]
    exact e
  · rw [List.mem_singleton] at hq
    subst hq
    rw [upd_ne htF]
    exact upd_same
section
variable {X : Cx}
end
end L2

namespace L2
open PySem PySem.Spec PyProof.Rows PySem.SeqAt
/-! a def that answers in two ways: with and without an exception -/
section
variable {cm : Bool} {P : Program} {w : World} {K : PySem.W.Frag} {mg : Str → Option Value} {base : Heap} {CX : CXT} {k : Nat} {f : Addr} {fd : FuncData} {ps : List Str} {sp sp' : Sp}
theorem FnOk.or (F : FnOk P w K mg base CX cm k f fd ps sp) (G : FnOk P w K mg base CX cm k f fd ps sp') : FnOk P w K mg base CX cm k f fd ps (fun vs H Q E => sp vs H Q E ∨ sp' vs H Q E) :=
  ⟨fun vs H Q E h => h.elim (F.len vs H Q E) (G.len vs H Q E), fun A outer s H args us vs Q E hr he hb hv hs => hs.elim (F.run A outer s H args us vs Q E hr he hb hv) (G.run A outer s H args us vs Q E hr he hb hv)⟩
end
section
variable {X : Cx}
end
section
variable {X : Cx} {K : PySem.W.Frag}
end
theorem cutV_to {xs : List V} {n : Nat} (h : n ≤ xs.length) : cutV xs none (some (n : Int)) = xs.take n := by
  unfold cutV
  rw [HT.sIx_none, HT.sIx_nat, Nat.min_eq_left h]
  rfl
theorem cutV_from {xs : List V} {n : Nat} (h : n ≤ xs.length) : cutV xs (some (n : Int)) none = xs.drop n := by
  unfold cutV
  rw [HT.sIx_none, HT.sIx_nat, Nat.min_eq_left h, List.take_of_length_le]
  rw [List.length_drop]
  exact Nat.le_refl _
end L2

namespace L2
open PySem PySem.Spec PyProof.Rows
/-! range(a, b, c), c above nought -/
section
variable {X : Cx} {tg : Expr}
end
section
variable {X : Cx}
end
end L2

namespace L2
open PySem PySem.Spec PyProof.Rows PySem.Calls
/-- x = [elt for target in iter if test], x a plain local name: stored ahead of the block's end -/
theorem ps_setComp {i0 : Nat} {x0 : Str} {X : Cx} {elt tgt iter : Expr} {ifs : List Expr} {scope : Scope} {pos pos' spos : Pos} {N : List Str} {cap : List (Option Nat)} {wi : TI} {g : TG} {tt : TT} {te : TE} (hN0 : X.N.Nodup) (hi0 : X.N[i0]? = some x0) (hx0 : X.env.scope.names.lookup x0 = some .local)
    (S : CompScope X.env.scope scope X.N N cap) (hc : X.calm = true) (hi : PI X tgt iter wi)
    (hb : ∀ (C : Addr) (s : Shared) (H : Hp) (fp : List Addr), PG (cxComp X N scope C s H fp) tgt g ∧ PIfs (cxComp X N scope C s H fp) ifs tt ∧ PE (cxComp X N scope C s H fp) elt te)
    (hclos : closureFor scope X.env = pure (clOf X.env scope.names []) := by with_unfolding_all rfl) (hs : ∀ x, foldedSetIterable iter X.env x = pure x := by intro _; rfl)
    (hsw : swapsWith (.ListComp elt [⟨tgt, iter, ifs, 0⟩] scope pos) (some (.Name x0 pos')) spos.line X.env = pure true := by with_unfolding_all rfl) :
    PS X (.Assign [.Name x0 pos'] (.ListComp elt [⟨tgt, iter, ifs, 0⟩] scope pos) spos) (tAsg (tComp wi cap g tt te) (gName i0)) := by
  intro pins s σ H D0 I h
  rw [exec_Assign_Name_used _ _ _ _ hsw]
  refine wpAny_bind (wpAny_standAt (wpAny_bind ?_))
  show wpAny (model X.prog X.w) X.A (comprehension (.ListComp elt [⟨tgt, iter, ifs, 0⟩] scope pos) scope X.env (firstIterPos [⟨tgt, iter, ifs, 0⟩] pos) (newList []) (firstAsync [⟨tgt, iter, ifs, 0⟩]) (firstIter [⟨tgt, iter, ifs, 0⟩] X.env) (some (assign (.Name x0 pos') X.env)) >>= fun _ => pure ()) _ _ _
  refine wpAny_bind (wpAny_mono (Q := fun _ s' => SP X pins D0 .next s') ?main (fun _ s' z => wpAny_pure (wpAny_pure z)) fun _ _ z => z)
  refine wpAny_comprehension_free (use := some (assign (.Name x0 pos') X.env)) (cl := clOf X.env scope.names []) rfl hs hclos S.kind S.names ?_
  refine thn (hi pins s σ H _ I h) fun v s1 h1 => thn h1 fun itv s2 h2 => ?_
  obtain ⟨it, fp, tn, J, H2, e, I2, T, st2, f2, k⟩ := h2
  subst e
  refine wpAny_newObj_type (wpAny_newFunctionEnv S.cell (by intro y hy; simp at hy) (fun h₁ hns₁ hsb₁ => ?_) S.kind)
  dsimp only at hns₁ hsb₁ ⊢
  have I3 : Inv X pins σ (upd H2 s2.heap.objs.size (.lst [])) { s2 with heap := s2.heap.push { cls := .type "list", dict := none, data := .seq ([] : List Value).toArray } } := I2.lnew (t' := s2.toks) .nil (Nat.zero_le _)
  obtain ⟨W, ⟨m0, w0⟩, turn⟩ := k s2.heap.objs.size I2.fresh
  generalize hD : s2.heap.objs.size = D at *
  generalize hsD : ({ s2 with heap := s2.heap.push { cls := .type "list", dict := none, data := .seq ([] : List Value).toArray } } : Shared) = sD at *
  have hsz : sD.heap.objs.size = D + 1 := by rw [← hsD, ← hD]; exact Heap.size_push ..
  have hheap : s2.heap.push { cls := .type "list", dict := none, data := .seq ([] : List Value).toArray } = sD.heap := by rw [← hsD]
  rw [hheap] at hns₁ hsb₁ ⊢
  have up : ∀ b o, s2.heap.get? b = some o → sD.heap.get? b = some o := fun b o e => by rw [← hheap]; exact Heap.get?_push_of_some _ e
  have keep : ∀ b o, sD.heap.get? b = some o → h₁.get? b = some o := fun b o e => hsb₁.extBut b o (Nat.ne_of_lt (Heap.lt_size e)) (Heap.get?_push_of_some _ e)
  have hfD : D ∉ fp := fun hm => by
    obtain ⟨o, e, _⟩ := T.obj _ _ st2 D hm
    have := Heap.lt_size e
    rw [hD] at this
    exact Nat.lt_irrefl _ this
  have f3 : ∀ b ∈ fp, FpOk X pins (upd H2 D (.lst [])) b := fun b hb => ⟨by rw [upd_ne (fun z => hfD (by rw [← z]; exact hb))]; exact (f2 b hb).1, (f2 b hb).2⟩
  have hlt : ∀ b ∈ fp, b < sD.heap.objs.size := fun b hb => by
    obtain ⟨o, e, _⟩ := T.obj _ _ st2 b hb
    exact Heap.lt_size (up b o e)
  have I4 := comp_start (t' := s2.toks + ([] : List (Str × Value)).length) S I3 f3 hlt hns₁ keep
  obtain ⟨hg, hif, hel⟩ := hb sD.heap.objs.size sD (upd H2 D (.lst [])) fp
  have st4 : tn 0 h₁ := T.keep _ _ _ st2 fun b hb o e => keep b o (up b o e)
  have stat : ∀ {H' : Hp}, (∀ b ∈ fp, H' b = none) → ∀ b ∈ fp, FpOk (cxComp X N scope sD.heap.objs.size sD (upd H2 D (.lst [])) fp) [] H' b := fun hn b hb =>
    ⟨hn b hb, (I4.ok.exf b hb).1, I4.ok.exfs b hb, .inl hb, fun x c h z => (I4.ok.exf b hb).2 x c h z, fun p hp => (by simp [cxComp] at hp)⟩
  have loop : codeAny (model X.prog X.w) X.A (.compLoop (.ListComp elt [⟨tgt, iter, ifs, 0⟩] scope pos) 0 (.ref it) (.ref D) (compEnvC scope (clOf X.env scope.names []) sD.heap.objs.size X.env))
      (compPost (model X.prog X.w) X.A X.xe (some (assign (.Name x0 pos') X.env)) (fun _ s' => SP X pins D0 .next s') (.ref D) sD.heap.objs.size) { sD with heap := h₁, toks := s2.toks + ([] : List (Str × Value)).length } := by
    refine compLoop_gen (fun n s' => ∃ i ys σ' H', Inv (cxComp X N scope sD.heap.objs.size sD (upd H2 D (.lst [])) fp) [] σ' H' s' ∧ tn i s'.heap ∧ (∀ b ∈ fp, H' b = none) ∧ W i n ys σ' H') ?_ m0
      ⟨0, [], capt cap σ, _, I4, st4, fun b hb => (f3 b hb).1, w0⟩
    rintro n s5 ⟨i, ys, σ5, H5, I5, st5, fr5, w5⟩
    obtain ⟨hD5, way⟩ := turn i n ys σ5 H5 w5
    rcases way with ⟨stop, q⟩ | ⟨go, step⟩
    · refine thn (T.done (cxComp X N scope sD.heap.objs.size sD (upd H2 D (.lst [])) fp) rfl rfl rfl hc i [] s5 σ5 H5 (fun _ _ => False) I5 (stat fr5) st5 stop) fun r s6 ⟨hr, I6⟩ => ?_
      subst hr
      obtain ⟨m, hn, _⟩ := I6.loc
      have hn' : s6.heap.Ns sD.heap.objs.size m := hn
      have J6 : Inv X pins σ H5 s6 := comp_end I3 f3 I6 (Heap.SameBut.refl _ _)
      have cellNe : ∀ x c, X.env.cells.lookup x = some c → c ≠ sD.heap.objs.size := fun x c h z => by
        obtain ⟨v, q⟩ := I3.cell x c h
        have := q.lt
        rw [z] at this
        exact Nat.lt_irrefl _ this
      refine wpAny_assign_Name (store_ok2 J6 hN0 hi0 (.inl hx0) (v := .ref D) rfl (fun s7 I7 ⟨a7, sb7, ha7⟩ => ⟨m, hn'.sameBut sb7 (fun z => ?_), fun h' sb => ?_⟩) (.inr hx0))
      · rcases ha7 with e | e
        · exact absurd (z.trans e) (Nat.ne_of_gt I3.lt)
        · exact cellNe _ _ e z.symm
      · refine ⟨_, H5, I7.turned (t' := s7.toks) (it := sD.heap.objs.size) (fun b o hb e => (sb.2 b hb).trans e) I6.free (Nat.ne_of_gt I3.lt) (.inr I3.sz) cellNe fun p hp z => ?_, q⟩
        have := Heap.lt_size (I3.pin p hp).1
        rw [z] at this
        exact Nat.lt_irrefl _ this
    · refine thn (T.item (cxComp X N scope sD.heap.objs.size sD (upd H2 D (.lst [])) fp) rfl rfl rfl hc i [] s5 σ5 H5 (fun _ _ => False) I5 (stat fr5) st5 go) fun r s6 ⟨u, hr, h6⟩ => ?_
      subst hr
      refine thn h6 fun _ s7 ⟨x, H7, I7, r7, y7, st7, fr7⟩ => ?_
      have I7' := I7.pinned (stat fr7) (T.obj _ _ st7)
      refine thn (hg _ s7 σ5 H7 x u _ I7' r7 (step x H7 y7)) fun _ s8 ⟨σ8, H8, I8, q8⟩ => ?_
      refine thn (hif _ s8 σ8 H8 _ I8 q8) fun b s9 ⟨H9, I9, q9⟩ => ?_
      have back : ∀ {σ' : St} {H' : Hp} {s' : Shared}, Inv (cxComp X N scope sD.heap.objs.size sD (upd H2 D (.lst [])) fp) ([] ++ pinsAt fp s7.heap) σ' H' s' → tn (i + 1) s'.heap ∧ ∀ b ∈ fp, H' b = none := fun {σ' H' s'} J' =>
        ⟨T.keep _ _ _ st7 fun b hb o e => (J'.pin (b, o) (List.mem_append_right _ (List.mem_append_right _ (mem_pinsAt hb e)))).1, fun b hb => by
          obtain ⟨o, e, d⟩ := T.obj _ _ st7 b hb
          exact (J'.pin (b, o) (List.mem_append_right _ (List.mem_append_right _ (mem_pinsAt hb e)))).2.1⟩
      cases b with
      | false =>
        obtain ⟨m', hm, w9⟩ := (show ∃ m', m' < n ∧ W (i + 1) m' ys σ8 H9 from q9)
        exact ⟨m', hm, i + 1, ys, σ8, H9, I9.unpinned, (back I9).1, (back I9).2, w9⟩
      | true =>
        refine thn (hel _ s9 σ8 H9 _ I9 (show te σ8 H9 _ from q9)) fun y s10 ⟨v10, H10, I10, r10, q10⟩ => ?_
        obtain ⟨hD10, hz, m', hm, w10⟩ := q10
        refine thn (mt_append (X := cxComp X N scope sD.heap.objs.size sD (upd H2 D (.lst [])) fp) _ s10 σ8 H10 (.ref D) [v10] (.ref D) [y] (fun _ H' => H' = upd H10 D (.lst (ys ++ [v10]))) I10 rfl (.cons r10 .nil) ⟨D, ys, v10, rfl, rfl, hD10, hz, rfl⟩) fun _ s11 ⟨v11, H11, I11, _, e11⟩ => ?_
        subst e11
        exact ⟨m', hm, i + 1, ys ++ [v10], σ8, _, I11.unpinned, (back I11).1, (back I11).2, w10⟩
  subst hsD
  subst hD
  exact codeAny_compStart_list loop (T.self _ 0 _ _ _ st4 loop)
end L2

namespace L2
open PySem PySem.Spec PyProof.Rows PySem.Calls PySem.SeqAt
section
variable {X : Cx}
end
end L2

namespace L2
open PySem PySem.Spec PyProof.Rows
section
variable {X : Cx} {CX : CXT} {cm : Bool} {k : Nat} {f : Addr} {fd : FuncData} {ps : List Str} {sp : Sp} {dvs : List V} {ds : List Value} {E : St → XK} {x : Str} {p pos : Pos} {e : Expr} {es : List Expr} {t : TA} {tf : TE}
theorem PE.or {e : Expr} {t1 t2 : TE} (h1 : PE X e t1) (h2 : PE X e t2) : PE X e (fun σ H Q => t1 σ H Q ∨ t2 σ H Q) := by
  intro pins s σ H Q I h
  rcases h with h | h
  · exact h1 pins s σ H Q I h
  · exact h2 pins s σ H Q I h
end
end L2

namespace L2
open PySem PySem.Spec PyProof.Rows
section
variable {X : Cx}
/-- t + u, both of the heap, either of them empty -/
theorem op_catA : OpR X (binaryOp .Add) (fun x y H Q => ∃ a b xs ys, x = .ref a ∧ y = .ref b ∧ H a = some (.tup xs) ∧ H b = some (.tup ys) ∧ xs.length + ys.length ≤ sizeLine ∧
    ∀ p H', Same H H' → H' p = some (.tup (xs ++ ys)) → Q (.ref p) H') := by
  intro pins s σ H x y v u Q I rx ry h
  obtain ⟨a, b, xs, ys, rfl, rfl, ha, hb, hz, q⟩ := h
  by_cases hx : xs = []
  · cases rx
    cases ry
    obtain ⟨its, r1, p1, _⟩ := I.tuple (SqT.of (K := X.K) ha)
    obtain ⟨its2, r2, p2, _⟩ := I.tuple (SqT.of (K := X.K) hb)
    obtain ⟨⟨cls, dd, data, sl⟩, ho, hc, n, hd⟩ := id p1
    obtain ⟨⟨cls2, dd2, data2, sl2⟩, ho2, hc2, n2, hd2⟩ := id p2
    simp only at hc hd hc2 hd2
    subst hc hd hc2 hd2
    have hv : its = [] := r1.nil_iff.mpr hx
    have q0 := q b H (Same.refl _) (by rw [hx]; exact hb)
    exact concat_meets ⟨_, ho, rfl⟩ ⟨_, ho2, rfl⟩ noFill_tuple_add seq_tuple_add PySem.F.slot_tuple_add PySem.F.entry_tuple_add (PySem.F.args_tuple_add_2 _ _)
      (tuple_addW0 a b its.toArray its2.toArray n n2 dd dd2 sl sl2 (by simp [hv])) ⟨ho, ho2, ⟨.ref b, H, I, rfl, q0⟩⟩
  · refine op_catT pins s σ H _ _ v u Q I rx ry ⟨a, b, xs, ys, rfl, rfl, SqT.of ha, SqT.of hb, hx, hz, fun e => ?_, fun _ p hp => q p _ (same_upd hp) upd_same⟩
    exact q a H (Same.refl _) (by rw [e, List.append_nil]; exact ha)
end
end L2

namespace L2
open PySem PySem.Spec PyProof.Rows
/-! a place where ways meet: what is known behind a statement, said once -/
def tCut (t u : TS) : TS := fun D σ H => ∃ P : St → Hp → Prop, t { D with nx := P } σ H ∧ ∀ σ' H', P σ' H' → u D σ' H'
section
variable {X : Cx} {st : Stmt} {rest : List Stmt} {t u : TS}
theorem pss_cut (h1 : PS X st t) (h2 : PSs X rest u) : PSs X (st :: rest) (tCut t u) := by
  intro pins s σ H D I h
  obtain ⟨P, ha, hb⟩ := h
  refine wpAny_execs_cons (thn (h1 pins s σ H { D with nx := P } I ha) fun f s1 q => ?_)
  cases f with
  | next =>
    obtain ⟨σ', H', I', q⟩ := q
    exact h2 pins s1 σ' H' D I' (hb σ' H' q)
  | ret v => exact q
  | brk => exact q
  | cont => exact q
end
end L2

namespace L2
open PySem PySem.Spec PyProof.Rows PySem.SeqAt
theorem vals_strs : ∀ {ts : List Str} {us : List Value}, Vals (ts.map V.str) us → StrsAre us ts
  | [], _, .nil => .nil
  | _ :: _, _, .cons r1 r2 => by
    obtain ⟨t, rfl⟩ := r1
    exact .cons _ t (vals_strs r2)
theorem strs_vals : ∀ {ts : List Str} {us : List Value}, StrsAre us ts → Vals (ts.map V.str) us
  | _, _, .nil => .nil
  | _, _, .cons y t h => .cons ⟨t, rfl⟩ (strs_vals h)
section
variable {X : Cx}
/-- sorted(list of texts), fewer than 64 -/
theorem call_sortedT : CallR X (.builtin "sorted") (fun xs H Q => ∃ (p : Addr) (ts : List Str), xs = [.ref p] ∧ H p = some (.lst (ts.map V.str)) ∧ ts.length < 64 ∧
    ∀ (D : Addr) (ms : List Str), H D = none → ms.Perm ts → sortedS ms = true → Q (.ref D) (upd H D (.lst (ms.map V.str)))) := by
  intro pins s σ H xs us Q I r h
  obtain ⟨p, ts, rfl, hp, h64, q⟩ := h
  obtain ⟨u, rfl, ru⟩ := vals1 r
  cases ru
  obtain ⟨its, rv, pl, hz⟩ := I.list (SqL.of (K := X.K) hp)
  have hi := vals_strs rv
  have hl := rv.length
  rw [List.length_map] at hl
  refine sorted_strs (vs := its) pl.isList hi (by omega) fun out ms a1 a2 a3 => ?_
  obtain ⟨c, hc⟩ := sortedAll_at s.heap its out
  have hn : H (s.heap.objs.size + 1) = none := I.hok.fresh (Nat.le_succ _)
  refine ⟨.ref (s.heap.objs.size + 1), _, I.laid (t' := s.toks) (o := .lst (ms.map V.str)) (fun b o => sortedAll_old) (Nat.le_succ _) ?_, rfl, q _ ms hn a2 a3⟩
  exact ⟨by rw [List.length_map, a2.length_eq, sizeLine_eq]; omega, out.toList, c, strs_vals a1, by rw [Array.toArray_toList]; exact hc⟩
/-- x == a text, x a tuple or flat -/
theorem op_eqW (hu : X.A.units + 1 < cLine) : OpR X (compareOp .Eq) (fun x y H Q => ∃ t, y = .str t ∧ ((rEq x y H Q) ∨ ∃ a xs, x = .ref a ∧ H a = some (.tup xs) ∧ Q (.bl false) H)) := by
  intro pins s σ H x y v u Q I rx ry h
  obtain ⟨t, rfl, h | ⟨a, xs, rfl, ha, q⟩⟩ := h
  · exact op_eq pins s σ H _ _ v u Q I rx ry h
  · cases rx
    obtain ⟨tk, rfl⟩ := ry
    obtain ⟨its, r1, p1, _⟩ := I.tuple (SqT.of (K := X.K) ha)
    exact RcAt.tuple_str t tk p1 (by omega) X.prog X.w X.xe _ ⟨.bl false, H, I, rfl, q⟩
/-- x in a list of texts, x a tuple or flat -/
theorem op_inW (hu : X.A.units + 1 < cLine) : OpR X (compareOp .In) (fun x y H Q => (rIn X.K false x y H Q) ∨ ∃ (a : Addr) (xs : List V) (l : Addr) (ts : List Str), x = .ref a ∧ H a = some (.tup xs) ∧ y = .ref l ∧ H l = some (.lst (ts.map V.str)) ∧ Q (.bl false) H) := by
  intro pins s σ H x y v u Q I rx ry h
  rcases h with h | ⟨a, xs, l, ts, rfl, ha, rfl, hl, q⟩
  · exact op_in_seq pins s σ H _ _ v u Q I rx ry h
  · cases rx
    cases ry
    obtain ⟨its, r1, p1, _⟩ := I.tuple (SqT.of (K := X.K) ha)
    obtain ⟨its2, r2, p2, _⟩ := I.list (SqL.of (K := X.K) hl)
    have hs := vals_strs r2
    refine in_listAt (fun _ => false) p2.isList (fun y hy => ?_) ?_
    · obtain ⟨x, t, rfl⟩ := hs.all y (by simpa using hy)
      exact EqAt.str_tuple x t p1 (by show X.A.units + 1 < cLine; omega)
    · rw [show its2.toArray.any (fun _ => false) = false from by simp]
      exact ⟨.bl false, H, I, rfl, q⟩
/-- xs.index(t): t is among them -/
theorem mt_indexS : MtR X "list.index" (fun x xs H Q => ∃ (l : Addr) (ts : List Str) (t : Str), x = .ref l ∧ xs = [.str t] ∧ SqL X.K H l (ts.map V.str) ∧ t ∈ ts ∧ ∀ j : Int, 0 ≤ j → j ≤ ts.length → Q (.int j) H) := by
  intro pins s σ H x xs v us Q I rx r h
  obtain ⟨l, ts, t, rfl, rfl, hl, hm, q⟩ := h
  cases rx
  obtain ⟨u, rfl, ru⟩ := r.one
  obtain ⟨tk, rfl⟩ := ru
  obtain ⟨its, rv, pl, hz⟩ := I.list hl
  have hs := vals_strs rv
  obtain ⟨⟨c0, d0, t0, s0⟩, ho, hc, n, hd⟩ := pl.isList
  simp only at hc hd
  subst hc hd
  have hlen : its.length = ts.length := by rw [← rv.length, List.length_map]
  obtain ⟨j, hj, e1, e2⟩ : ∃ j, ∃ (hj : j < its.toArray.size), (match its.toArray[j] with | .str y _ => y == t | _ => false) = true ∧ ∀ m (hm : m < its.toArray.size), m < j → (match its.toArray[m] with | .str y _ => y == t | _ => false) = false := by
    clear ho pl hz rv q hl
    induction hs with
    | nil => exact nomatch hm
    | @cons y ty vs ys hs ih =>
      by_cases hy : y = t
      · exact ⟨0, by simp, by simp [hy], fun m _ h => absurd h (Nat.not_lt_zero _)⟩
      · obtain ⟨j, hj, e1, e2⟩ := ih ((List.mem_cons.mp hm).resolve_left fun z => hy z.symm) (by simpa using hlen)
        refine ⟨j + 1, by simpa using hj, by simpa using e1, fun m hm' hlt => ?_⟩
        cases m with
        | zero => simp [hy]
        | succ m => have := e2 m (by simpa using hm') (by omega); simpa using this
  have hj' : j < ts.length := by rw [List.size_toArray, hlen] at hj; exact hj
  have hsm : (j : Int) < 2 ^ 63 - 1 := by
    have h2 : ts.length ≤ sizeLine := by rw [List.length_map] at hz; exact hz
    have h3 : (sizeLine : Nat) < 2 ^ 62 := by decide
    omega
  refine call_meets PySem.F.slot_list_index ⟨_, ho, rfl⟩ PySem.F.entry_list_index (PySem.F.args_list_index_2 _ _) (PySem.SeqAt.list_indexAt l _ n d0 s0 (.str t tk) (fun y => match y with | .str y _ => y == t | _ => false) j hj hsm e1 e2) ⟨ho, fun y hy => ?_, ?_⟩
  · obtain ⟨x, tx, rfl⟩ := hs.all y (by simpa using hy)
    exact PySem.SeqAt.EqAt.str_str x tx t tk
  · exact ⟨.int j, H, I.tok _, ⟨_, rfl⟩, q j (by omega) (by omega)⟩
/-- != of two lists of bools -/
theorem op_neBools (hu : X.A.units + 2 < cLine) : OpR X (compareOp .NotEq) (fun x y H Q => ∃ (a b : Addr) (ns : List Bool), x = .ref a ∧ y = .ref b ∧ H a = some (.lst (ns.map V.bl)) ∧ H b = some (.lst (ns.map V.bl)) ∧ Q (.bl false) H) := by
  intro pins s σ H x y v u Q I rx ry h
  obtain ⟨a, b, ns, rfl, rfl, ha, hb, q⟩ := h
  cases rx
  cases ry
  obtain ⟨its, rv, pl, hz⟩ := I.list (SqL.of (K := X.K) ha)
  obtain ⟨its2, rv2, pl2, hz2⟩ := I.list (SqL.of (K := X.K) hb)
  have hbl : ∀ {bs : List Bool} {us : List Value}, Vals (bs.map V.bl) us → us = bs.map Value.bool := by
    intro bs
    induction bs with
    | nil => intro us r; cases r; rfl
    | cons b bs ih =>
      intro us r
      cases r with
      | cons r1 r2 => cases r1; rw [List.map_cons, ih r2]
  have e1 := hbl rv
  have e2 := hbl rv2
  subst e1 e2
  refine RcNeAt.lists (e := fun _ => true) pl.isList pl2.isList rfl (by omega) (fun j h1 h2 => ?_) X.prog X.w X.xe _ ?_
  · have h3 : j < ns.length := by simpa using h1
    simp only [List.getElem_toArray, List.getElem_map]
    have := EqAt.bool_bool (A := X.A.in1) (s := s) ns[j] ns[j]
    rw [beq_self_eq_true] at this
    exact this
  · rw [show (!((List.range (ns.map Value.bool).toArray.size).all fun _ => true)) = false from by simp]
    exact ⟨.bl false, H, I, rfl, q⟩
/-- text.upper() -/
theorem mt_upper : MtR X "str.upper" (fun x xs H Q => ∃ z, x = .str z ∧ xs = [] ∧ (Txt.upper z).length ≤ sizeLine ∧ Q (.str (Txt.upper z)) H) := by
  intro pins s σ H x xs v us Q I rx r h
  obtain ⟨z, rfl, rfl, hz, q⟩ := h
  obtain ⟨t, rfl⟩ := rx
  cases r
  refine PySem.SC.upper ?_ ⟨.str _, H, I.tok _, ⟨_, rfl⟩, q⟩
  unfold Builtin.Str.tooLong
  exact decide_eq_false (by omega)
end
end L2

namespace HT
open PySem PySem.Spec PyProof.Rows
section
variable {prog : Program} {w : World} {A : Around} {E : Value → Shared → Prop} {s : Shared}
theorem getItem_tuple_whole {t sl : Addr} {items : Array Value} {vl vu : Value} {lo hi : Option Int} {Q : Value → Shared → Prop} (ht : IsTup s.heap t items) (hs : s.heap.IsSliceOf sl vl vu .none) (pl : IsPart vl lo) (pu : IsPart vu hi)
    (hw : sIx items.size 0 lo = 0 ∧ sIx items.size items.size hi = items.size) (h : Q (.ref t) s) : wpAny (model prog w) A (getItem (.ref t) (.ref sl)) Q E s := by
  obtain ⟨os, hos, hcs, hds⟩ := id hs
  have hTs : s.TypeIs (.ref sl) "slice" := ⟨os, hos, hcs⟩
  unfold getItem
  try with_reducible refine wpAny_holding ?_
  first | refine wpAny_bind (wpAny_pure ?_) | skip
  refine wpAny_bind (wpAny_sequenceKey ht.typeIs (by decide) ?_)
  refine wpAny_bind (wpAny_callSpecial?_slot (name := Str.ofString "__getitem__") ht.typeIs PyProof.Rows.slot_tuple_getitem
    (wpAny_call_entry PyProof.Rows.slot_tuple_getitem ht.typeIs entry_tuple_getitem ?_ (args_tuple_getitem _ _)))
  show wpAny _ _ (Builtin.Tuple.tupleItemsOf (.ref t) >>= _) _ _ s
  refine wpAny_bind (tupleItemsOf_ ht ?_)
  refine wpAny_bind (wpAny_typeOf hTs ?_)
  rw [if_pos (by decide)]
  refine wpAny_bind (sliceApplied_gen hs pl pu ?_)
  have hyes : (((sIx items.size 0 lo : Nat) : Int) == 0 && (1 : Int) == 1 && (sIx items.size items.size hi - sIx items.size 0 lo) == items.size) = true := by
    rw [hw.1, hw.2, Nat.sub_zero]
    simp
  show wpAny _ _ (if (((sIx items.size 0 lo : Nat) : Int) == 0 && (1 : Int) == 1 && (sIx items.size items.size hi - sIx items.size 0 lo) == items.size) = true then _ else _) _ _ s
  rw [if_pos hyes]
  unfold Builtin.Tuple.tupleIsExact
  refine wpAny_bind (wpAny_bind (wpAny_typeOf ht.typeIs (wpAny_pure ?_)))
  rw [if_pos (by decide)]
  first
    | exact wpAny_bind (wpAny_pure (wpAny_pure ⟨_, rfl, wpAny_pure h⟩))
    | exact wpAny_bind (wpAny_rule (wpAny_pure ⟨_, rfl, wpAny_pure h⟩))
    | exact wpAny_pure ⟨_, rfl, wpAny_pure h⟩
end
end HT
namespace L2
open PySem PySem.Spec PyProof.Rows PySem.SeqAt
theorem cutV_all {xs : List V} {lo hi : Option Int} (hw : HT.sIx xs.length 0 lo = 0 ∧ HT.sIx xs.length xs.length hi = xs.length) : cutV xs lo hi = xs := by
  unfold cutV
  rw [hw.1, hw.2, List.drop_zero, Nat.sub_zero, List.take_length]
section
variable {X : Cx}
/-- t[lo:hi] of a tuple of the heap, the whole of it or not -/
theorem sl_tupA : SlR X (fun x lo hi H Q => ∃ (a : Addr) (xs : List V), x = .ref a ∧ H a = some (.tup xs) ∧ ∀ p H', Same H H' → H' p = some (.tup (cutV xs lo hi)) → Q (.ref p) H') := by
  intro pins s σ H x v vl vu lo hi sl Q I rx hs pl pu h
  obtain ⟨a, xs, rfl, ha, q⟩ := h
  by_cases hw : HT.sIx xs.length 0 lo = 0 ∧ HT.sIx xs.length xs.length hi = xs.length
  · cases rx
    obtain ⟨its, r, ht, hz⟩ := I.tuple (SqT.of (K := X.K) ha)
    have hlen : its.toArray.size = xs.length := by rw [List.size_toArray]; exact r.length.symm
    refine ⟨"tuple", _, PyProof.Rows.slot_tuple_getitem.lookup, ht.typeIs, ?_⟩
    refine HT.getItem_tuple_whole ht hs pl pu (by rw [hlen]; exact hw) ⟨.ref a, H, I, rfl, q a H (Same.refl _) ?_⟩
    rw [cutV_all hw]
    exact ha
  · exact sl_tup pins s σ H _ v vl vu lo hi sl Q I rx hs pl pu ⟨a, xs, rfl, SqT.of ha, hw, fun p hp => q p _ (same_upd hp) upd_same⟩
end
/-- a comprehension of whose filter nothing is known -/
theorem comp_some {J : It} {cap : List (Option Nat)} {tt : TT} {te : TE} {σ : St} {H1 : Hp} {Q : VK} {xs : List V} (hJ : Seq J H1 xs) (G : V → Prop) (hsz : xs.length ≤ 100000)
    (hp : ∀ x ∈ xs, ∀ H', Same H1 H' → ∀ R : Bool → Hp → Prop, (∀ b H'', Same H' H'' → R b H'') → tt ((capt cap σ).set 0 (some x)) H' R)
    (he : ∀ x ∈ xs, ∀ H', Same H1 H' → ∀ R : VK, (∀ v H'', Same H' H'' → G v → R v H'') → te ((capt cap σ).set 0 (some x)) H' R)
    (k : ∀ D H' ys, Same H1 H' → H1 D = none → H' D = some (.lst ys) → (∀ v ∈ ys, G v) → ys.length ≤ xs.length → Q (.ref D) H') :
    compBody J H1 cap (gName 0) tt te σ Q := by
  intro D hD
  refine ⟨fun i m ys σ' H' => m = xs.length - i ∧ i ≤ xs.length ∧ (∀ v, σ'.set 0 v = (capt cap σ).set 0 v) ∧ H' D = some (.lst ys) ∧ Same H1 H' ∧ (∀ v ∈ ys, G v) ∧ ys.length ≤ i,
    ⟨xs.length, by simp, Nat.zero_le _, fun _ => rfl, upd_same, same_upd hD, (fun _ z => nomatch z), Nat.le_refl _⟩, ?_⟩
  rintro i m ys σ' H' ⟨rfl, hi, hσ, hl, sm, hG, hle⟩
  refine ⟨hl, ?_⟩
  obtain ⟨q1, q2⟩ := hJ H' sm
  by_cases hlt : i < xs.length
  · have e : xs[i]? = some xs[i] := by simp [hlt]
    obtain ⟨go, y⟩ := q1 i _ e
    refine .inr ⟨go, fun x H2 hy => ?_⟩
    obtain ⟨rfl, rfl⟩ := y x H2 hy
    have hm : xs[i] ∈ xs := List.getElem_mem hlt
    have hss : ∀ v, ((capt cap σ).set 0 (some xs[i])).set 0 v = (capt cap σ).set 0 v := fun v => by rw [List.set_set]
    show tt (σ'.set 0 (some xs[i])) _ _
    rw [hσ]
    refine hp _ hm _ sm _ fun b H3 s3 => ?_
    cases b with
    | true =>
      refine iteT ?_
      refine he _ hm _ (sm.trans s3) _ fun v H4 s4 hv => ?_
      have hl4 := s4 _ _ (s3 _ _ hl)
      refine ⟨hl4, Nat.lt_of_le_of_lt (by omega : ys.length ≤ 100000) (by decide), xs.length - (i + 1), by omega, rfl, hlt, hss, upd_same, fun c o ec => ?_, fun z hz => ?_, by rw [List.length_append]; show _ + 1 ≤ _; omega⟩
      · rw [upd_ne (ne_of_none ec hD)]
        exact s4 _ _ (s3 _ _ (sm _ _ ec))
      · rcases List.mem_append.mp hz with hz | hz
        · exact hG z hz
        · rw [List.mem_singleton] at hz
          subst hz
          exact hv
    | false =>
      refine iteF ?_
      exact ⟨xs.length - (i + 1), by omega, rfl, hlt, hss, s3 _ _ hl, sm.trans s3, hG, by omega⟩
  · have e : i = xs.length := by omega
    subst e
    refine .inl ⟨q2, k D _ ys sm hD hl hG hle⟩
end L2

namespace HT
open PySem PySem.Spec PyProof.Rows
section
variable {prog : Program} {w : World} {A : Around} {E : Value → Shared → Prop} {s : Shared}
theorem adjust_rev (n : Nat) : Builtin.Slice.sliceAdjust none none (-1) (n : Int) = ((n : Int) - 1, -1) := by
  unfold Builtin.Slice.sliceAdjust
  simp
theorem places_rev (n : Nat) : Builtin.Slice.slicePlaces ((n : Int) - 1) (-1) (-1) = n := by
  unfold Builtin.Slice.slicePlaces
  simp
  split <;> omega
theorem sliceApplied_rev {sl : Addr} {n : Nat} {t : Tok} {Q : Int × Int × Nat → Shared → Prop} (hs : s.heap.IsSliceOf sl .none .none (.int (-1) t))
    (h : Q ((n : Int) - 1, -1, n) s) : wpAny (model prog w) A (Builtin.Slice.sliceApplied (.ref sl) (pure (n : Int))) Q E s := by
  obtain ⟨os, hos, hcs, hds⟩ := id hs
  unfold Builtin.Slice.sliceApplied Builtin.Slice.sliceFields
  refine wpAny_bind (wpAny_bind (wpAny_field hos hds (x := .none) rfl (wpAny_bind (wpAny_field hos hds (x := .none) rfl (wpAny_bind (wpAny_field hos hds (x := .int (-1) t) rfl (wpAny_pure ?_)))))))
  refine wpAny_bind (slicePart_int ?_)
  show wpAny _ _ (if ((-1 : Int) == 0) = true then _ else _) _ _ s
  rw [if_neg (by decide)]
  refine wpAny_bind (slicePart_none (wpAny_bind (slicePart_none (wpAny_bind (wpAny_pure ?_)))))
  show wpAny _ _ (match Builtin.Slice.sliceAdjust none none (-1) (n : Int) with | (lo, hi) => pure (lo, (-1 : Int), Builtin.Slice.slicePlaces lo hi (-1))) _ _ s
  rw [adjust_rev n]
  show wpAny _ _ (pure ((n : Int) - 1, (-1 : Int), Builtin.Slice.slicePlaces ((n : Int) - 1) (-1) (-1))) _ _ s
  rw [places_rev]
  exact wpAny_pure h
theorem fm_congr {α β : Type} {f g : α → Option β} : ∀ {l : List α}, (∀ x ∈ l, f x = g x) → l.filterMap f = l.filterMap g
  | [], _ => rfl
  | x :: l, h => by rw [List.filterMap_cons, List.filterMap_cons, h x (List.mem_cons_self ..), fm_congr fun y hy => h y (List.mem_cons_of_mem _ hy)]
theorem pick_rev (xs : Array Value) : ((List.range xs.size).filterMap fun (m : Nat) => xs[((xs.size : Int) - 1 + (m : Int) * -1).toNat]?).toArray = xs.toList.reverse.toArray := by
  congr 1
  obtain ⟨l⟩ := xs
  simp only [List.size_toArray, List.getElem?_toArray]
  have e : ∀ m ∈ List.range l.length, (l[((l.length : Int) - 1 + (m : Int) * -1).toNat]?) = l.reverse[m]? := fun m hm => by
    have := List.mem_range.mp hm
    rw [List.getElem?_reverse this, show ((l.length : Int) - 1 + (m : Int) * -1).toNat = l.length - 1 - m by omega]
  rw [fm_congr e]
  have e2 : ∀ (r : List Value) (k : Nat), k ≤ r.length → (List.range k).filterMap (fun m => r[m]?) = r.take k := by
    intro r k
    induction k with
    | zero => intro _; simp
    | succ k ih =>
      intro hk
      rw [List.range_succ, List.filterMap_append, ih (by omega), List.take_add_one]
      simp [List.getElem?_eq_getElem (show k < r.length by omega)]
  rw [e2 l.reverse l.length (by rw [List.length_reverse]; exact Nat.le_refl _), List.take_of_length_le (by rw [List.length_reverse]; exact Nat.le_refl _)]
theorem getItem_tuple_rev {t sl : Addr} {items : Array Value} {tk : Tok} {Q : Value → Shared → Prop} (ht : IsTup s.heap t items) (hs : s.heap.IsSliceOf sl .none .none (.int (-1) tk))
    (h : Q (.ref s.heap.objs.size) { s with heap := s.heap.push { cls := .type "tuple", data := .seq items.toList.reverse.toArray } }) (hsz : items.size ≤ sizeLine) : wpAny (model prog w) A (getItem (.ref t) (.ref sl)) Q E s := by
  have htake : sizeOk (.seq items.toList.reverse.toArray) := by
    show items.toList.reverse.toArray.size ≤ sizeLine
    rw [List.size_toArray, List.length_reverse, Array.length_toList]
    exact hsz
  obtain ⟨os, hos, hcs, hds⟩ := id hs
  have hTs : s.TypeIs (.ref sl) "slice" := ⟨os, hos, hcs⟩
  unfold getItem
  try with_reducible refine wpAny_holding ?_
  first | refine wpAny_bind (wpAny_pure ?_) | skip
  refine wpAny_bind (wpAny_sequenceKey ht.typeIs (by decide) ?_)
  refine wpAny_bind (wpAny_callSpecial?_slot (name := Str.ofString "__getitem__") ht.typeIs PyProof.Rows.slot_tuple_getitem
    (wpAny_call_entry PyProof.Rows.slot_tuple_getitem ht.typeIs entry_tuple_getitem ?_ (args_tuple_getitem _ _)))
  show wpAny _ _ (Builtin.Tuple.tupleItemsOf (.ref t) >>= _) _ _ s
  refine wpAny_bind (tupleItemsOf_ ht ?_)
  refine wpAny_bind (wpAny_typeOf hTs ?_)
  rw [if_pos (by decide)]
  refine wpAny_bind (sliceApplied_rev (n := items.size) hs ?_)
  have hno : ¬ ((((items.size : Int) - 1) == 0 && (-1 : Int) == 1 && items.size == items.size) = true) := by simp
  show wpAny _ _ (if (((items.size : Int) - 1) == 0 && (-1 : Int) == 1 && items.size == items.size) = true then _ else _) _ _ s
  rw [if_neg hno, pick_rev]
  first
    | exact wpAny_bind (m := Builtin.Tuple.tupleExact _) (wpAny_newObj_type (wpAny_pure ⟨_, rfl, wpAny_pure h⟩) htake)
    | exact wpAny_bind (m := Builtin.Tuple.tupleExact _) (wpAny_newObj_type (wpAny_bind (wpAny_pure (wpAny_pure ⟨_, rfl, wpAny_pure h⟩))) htake)
    | exact wpAny_bind (wpAny_bind (m := Builtin.Tuple.tupleExact _) (wpAny_newObj_type (wpAny_pure (wpAny_pure ⟨_, rfl, wpAny_pure h⟩)) htake))
    | exact wpAny_bind (wpAny_bind (m := Builtin.Tuple.tupleExact _) (wpAny_newObj_type (wpAny_pure ⟨_, rfl, wpAny_pure h⟩) htake))
end
end HT
namespace L2
open PySem PySem.Spec PyProof.Rows PySem.SeqAt
section
variable {X : Cx}
/-- t[::-1] of a tuple -/
def tRevT (te : TE) : TE := fun σ H Q => te σ H fun x H1 => ∃ (a : Addr) (xs : List V), x = .ref a ∧ H1 a = some (.tup xs) ∧ ∀ p, H1 p = none → Q (.ref p) (upd H1 p (.tup xs.reverse))
theorem pe_revT {e : Expr} {te : TE} {j : Nat} {pos p2 p3 p4 : Pos} (he : PE X e te) : PE X (.Subscript e (.Slice none none (some (.UnaryOp .USub (.Constant (.int 1) j p3) p4)) p2) pos) (tRevT te) := by
  intro pins s σ H Q I h
  refine Subscript_ (thn (he pins s σ H _ I h) fun v s1 ⟨x, H1, I1, r1, q1⟩ => ?_)
  obtain ⟨a, xs, rfl, hx, q⟩ := q1
  cases r1
  refine wpAny_Slice ?_
  rw [evalPart_none]
  refine wpAny_pure (wpAny_pure ?_)
  rw [evalPart_some]
  have hst : PE X (.UnaryOp .USub (.Constant (.int 1) j p3) p4) (tUn (rU fun i => .int (-i)) (tC (.int 1))) := pe_un un_neg pe_int
  refine thn (hst pins s1 σ H1 (fun y H2 => y = .int (-1) ∧ H2 = H1) I1 ⟨1, rfl, rfl, rfl⟩) fun vs s3 ⟨y, H3, I3, r3, e1, e2⟩ => ?_
  subst e1 e2
  obtain ⟨t, rfl⟩ := r3
  have I4 : Inv X pins σ H3 { s3 with heap := s3.heap.push { cls := .type "slice", data := .fields #[.none, .none, .int (-1) t] } } := I3.kept (t' := s3.toks) fun b ob q => Heap.get?_push_of_some _ q
  obtain ⟨its, r, ht, hz⟩ := I4.tuple (SqT.of (K := X.K) hx)
  have hlen := r.length
  have hg : wpAny (model X.prog X.w) X.A (getItem (.ref a) (.ref s3.heap.objs.size)) (EP X pins σ Q) X.xe { s3 with heap := s3.heap.push { cls := .type "slice", data := .fields #[.none, .none, .int (-1) t] } } := by
    refine HT.getItem_tuple_rev ht (Heap.IsSliceOf.new ..) ?_ (by rw [List.size_toArray]; omega)
    refine ⟨.ref _, _, I4.laid (t' := s3.toks) (o := .tup xs.reverse) (fun b ob q => Heap.get?_push_of_some _ q) (Nat.le_refl _) ?_, rfl, q _ (I4.hok.fresh (Nat.le_refl _))⟩
    exact ⟨by rw [List.length_reverse]; exact hz, _, Vals.rev r, IsTup.new _ _⟩
  show wpAny (model X.prog X.w) X.A (subscriptTail e (.Slice none none (some (.UnaryOp .USub (.Constant (.int 1) j p3) p4)) p2) (.ref a) (.ref s3.heap.objs.size)) (EP X pins σ Q) X.xe { s3 with heap := s3.heap.push { cls := .type "slice", data := .fields #[.none, .none, .int (-1) t] } }
  exact tail_any (ops := [.ref a, .ref s3.heap.objs.size]) ht.typeIs PyProof.Rows.slot_tuple_getitem.lookup hg (by with_unfolding_all rfl)
end
end L2

/-! days and months: plain mathematics -/
namespace DM
def leap (y : Int) : Bool := decide (y % 400 = 0) || (decide (y % 4 = 0) && !decide (y % 100 = 0))
def year (y : Int) : Int := (y - 2000) * 365 + (y - 2000 + 3) / 4 - (y - 2000 + 99) / 100 + (y - 2000 + 399) / 400
def len (y m : Int) : Int := if m = 2 then (if leap y then 29 else 28) else if m = 1 ∨ m = 3 ∨ m = 5 ∨ m = 7 ∨ m = 8 ∨ m = 10 ∨ m = 12 then 31 else 30
def ahead (m : Int) : Int := if m ≤ 1 then 0 else if m = 2 then 31 else if m = 3 then 59 else if m = 4 then 90 else if m = 5 then 120 else if m = 6 then 151 else if m = 7 then 181 else if m = 8 then 212 else if m = 9 then 243 else if m = 10 then 273 else if m = 11 then 304 else 334
/-- the first day of the month of a number -/
def mb (n : Int) : Int := year (2000 + n / 12) + ahead (n % 12 + 1) + (if n % 12 + 1 > 2 ∧ leap (2000 + n / 12) = true then 1 else 0)

theorem leap_iff (y : Int) : leap y = true ↔ (y % 400 = 0 ∨ (y % 4 = 0 ∧ ¬ y % 100 = 0)) := by
  simp [leap]
theorem year_succ (y : Int) : year (y + 1) = year y + 365 + (if leap y = true then 1 else 0) := by
  unfold year
  by_cases h : leap y = true
  · rw [if_pos h]
    rw [leap_iff] at h
    omega
  · rw [if_neg h]
    rw [leap_iff] at h
    omega
theorem mb_tab : ∀ k : Nat, k < 11 → ∀ b : Bool, ahead ((k : Int) + 1 + 1) + (if (k : Int) + 1 + 1 > 2 ∧ b = true then 1 else 0) = ahead ((k : Int) + 1) + (if (k : Int) + 1 > 2 ∧ b = true then 1 else 0) +
    (if (k : Int) + 1 = 2 then (if b then 29 else 28) else if (k : Int) + 1 = 1 ∨ (k : Int) + 1 = 3 ∨ (k : Int) + 1 = 5 ∨ (k : Int) + 1 = 7 ∨ (k : Int) + 1 = 8 ∨ (k : Int) + 1 = 10 ∨ (k : Int) + 1 = 12 then 31 else 30) := by decide +kernel
theorem mb_end : ∀ b : Bool, ahead (0 + 1) + (if (0 : Int) + 1 > 2 ∧ b = true then 1 else 0) + 365 + (if b = true then 1 else 0) = ahead (11 + 1) + (if (11 : Int) + 1 > 2 ∧ b = true then 1 else 0) + 31 := by decide +kernel
theorem mb_succ (n : Int) : mb (n + 1) = mb n + len (2000 + n / 12) (n % 12 + 1) := by
  obtain ⟨k, hk⟩ := Int.eq_ofNat_of_zero_le (show 0 ≤ n % 12 by omega)
  unfold mb len
  by_cases h : n % 12 = 11
  · rw [show (n + 1) / 12 = n / 12 + 1 by omega, show (n + 1) % 12 = 0 by omega, h, show (2000 : Int) + (n / 12 + 1) = 2000 + n / 12 + 1 by omega, year_succ]
    have := mb_end (leap (2000 + n / 12))
    rw [if_neg (show ¬ ((0 : Int) + 1 > 2 ∧ leap (2000 + n / 12) = true) from fun z => absurd z.1 (by decide))] at this
    rw [if_neg (show ¬ ((0 : Int) + 1 > 2 ∧ leap (2000 + n / 12 + 1) = true) from fun z => absurd z.1 (by decide)), if_neg (show ¬ (11 : Int) + 1 = 2 by decide), if_pos (show (11 : Int) + 1 = 1 ∨ (11 : Int) + 1 = 3 ∨ (11 : Int) + 1 = 5 ∨ (11 : Int) + 1 = 7 ∨ (11 : Int) + 1 = 8 ∨ (11 : Int) + 1 = 10 ∨ (11 : Int) + 1 = 12 by decide)]
    omega
  · have := mb_tab k (by omega) (leap (2000 + n / 12))
    rw [show (n + 1) / 12 = n / 12 by omega, show (n + 1) % 12 = (k : Int) + 1 by omega, hk]
    rw [Int.add_assoc, this, ← Int.add_assoc, ← Int.add_assoc]
theorem len_pos (y m : Int) : 28 ≤ len y m ∧ len y m ≤ 31 := by
  unfold len
  split
  · split <;> omega
  · split <;> omega
theorem mb_0 : mb 0 = 0 := by decide
theorem mb_4800 : mb 4800 = 146097 := by decide
/-- the guess is near -/
def near (n : Nat) : Bool := decide (mb n * 4800 ≤ (n + 1) * 146097) && decide (((n : Int) - 1) * 146097 ≤ mb n * 4800)
def nearAll : Nat → Bool
  | 0 => true
  | n + 1 => near n && nearAll n
theorem nearAll_of : ∀ {k n : Nat}, nearAll k = true → n < k → near n = true
  | k + 1, n, h, hn => by
    unfold nearAll at h
    rw [Bool.and_eq_true] at h
    by_cases e : n = k
    · rw [e]; exact h.1
    · exact nearAll_of h.2 (by omega)
set_option maxRecDepth 100000 in
theorem near_ok : nearAll 4801 = true := by decide +kernel
theorem near_at {n : Int} (h0 : 0 ≤ n) (h1 : n ≤ 4800) : mb n * 4800 ≤ (n + 1) * 146097 ∧ (n - 1) * 146097 ≤ mb n * 4800 := by
  have h := nearAll_of (n := n.toNat) near_ok (by omega)
  unfold near at h
  rw [Bool.and_eq_true, decide_eq_true_eq, decide_eq_true_eq, show ((n.toNat : Nat) : Int) = n by omega] at h
  exact h
/-- the number of a day's month -/
def mo (d : Int) : Int := if mb (d * 4800 / 146097) > d then d * 4800 / 146097 - 1 else if mb (d * 4800 / 146097 + 1) ≤ d then d * 4800 / 146097 + 1 else d * 4800 / 146097
theorem mo_ok {d : Int} (h0 : 0 ≤ d) (h1 : d < 146097) : mb (mo d) ≤ d ∧ d < mb (mo d + 1) ∧ 0 ≤ mo d ∧ mo d < 4800 := by
  unfold mo
  have g0 : 0 ≤ d * 4800 / 146097 := by omega
  have g1 : d * 4800 / 146097 < 4800 := by omega
  have hd : (d * 4800 / 146097) * 146097 ≤ d * 4800 ∧ d * 4800 < (d * 4800 / 146097 + 1) * 146097 := by omega
  generalize d * 4800 / 146097 = g at *
  have e0 := mb_0
  have e1 := mb_4800
  split
  · rename_i h
    have hg : 1 ≤ g := by
      rcases Int.lt_or_le g 1 with z | z
      · have : g = 0 := by omega
        subst this
        omega
      · exact z
    have n1 := (near_at (n := g - 1) (by omega) (by omega)).1
    rw [show g - 1 + 1 = g by omega] at *
    exact ⟨by omega, by omega, by omega, by omega⟩
  · split
    · rename_i h2
      have hg : g + 1 < 4800 := by
        rcases Int.lt_or_le (g + 1) 4800 with z | z
        · exact z
        · have : g = 4799 := by omega
          subst this
          have h2' : mb 4800 ≤ d := h2
          omega
      have n2 := (near_at (n := g + 2) (by omega) (by omega)).2
      rw [show g + 1 + 1 = g + 2 by omega]
      exact ⟨by omega, by omega, by omega, by omega⟩
    · exact ⟨by omega, by omega, g0, g1⟩
end DM

/-! the text of a date -/
namespace DT
open PySem L2
def dg (n : Nat) : Nat := 48 + n % 10
def tt (n : Nat) : Str := ⟨#[dg (n / 10), dg n]⟩
def tx (y m d : Nat) : Str := ⟨#[50, dg (y / 100), dg (y / 10), dg y, 45, dg (m / 10), dg m, 45, dg (d / 10), dg d]⟩
/-- the text of a day -/
def dtx (d : Int) : Str := tx (DM.mo d / 12).toNat (DM.mo d % 12 + 1).toNat (d - DM.mb (DM.mo d) + 1).toNat
theorem parts {d : Int} (h0 : 0 ≤ d) (h1 : d < 146097) : ∃ y m e : Nat, y < 400 ∧ m < 32 ∧ e < 32 ∧ 2000 + DM.mo d / 12 = 2000 + (y : Int) ∧ DM.mo d % 12 + 1 = (m : Int) ∧ d - DM.mb (DM.mo d) + 1 = (e : Int) ∧ dtx d = tx y m e ∧
    1 ≤ m ∧ m ≤ 12 ∧ 1 ≤ e ∧ (e : Int) ≤ DM.len (2000 + (y : Int)) m ∧ (2000 + (y : Int) - 2000) * 12 + (m : Int) - 1 = DM.mo d ∧ DM.mb (DM.mo d) + (e : Int) - 1 = d := by
  obtain ⟨o1, o2, o3, o4⟩ := DM.mo_ok h0 h1
  have ms := DM.mb_succ (DM.mo d)
  have lp := DM.len_pos (2000 + DM.mo d / 12) (DM.mo d % 12 + 1)
  refine ⟨(DM.mo d / 12).toNat, (DM.mo d % 12 + 1).toNat, (d - DM.mb (DM.mo d) + 1).toNat, by omega, by omega, by omega, by omega, by omega, by omega, rfl, by omega, by omega, by omega, ?_, by omega, by omega⟩
  rw [show ((DM.mo d / 12).toNat : Int) = DM.mo d / 12 by omega, show ((DM.mo d % 12 + 1).toNat : Int) = DM.mo d % 12 + 1 by omega]
  omega
def pd (n : Nat) : Str := if n < 10 then ("0" : Str) else ("" : Str)
theorem app (a b c : Str) : a ++ b ++ c = a ++ (b ++ c) := by
  obtain ⟨a⟩ := a
  obtain ⟨b⟩ := b
  obtain ⟨c⟩ := c
  show Str.mk (a ++ b ++ c) = Str.mk (a ++ (b ++ c))
  rw [Array.append_assoc]
theorem len_app (a b : Str) : (a ++ b).length = a.length + b.length := Array.size_append
end DT

/-! which texts are a day's -/
namespace DK
open PySem PySem.NumText L2
def FG : List Nat := ("0123456789" : Str).cps.toList
def figs (l : List Nat) : Bool := l.all fun c => decide (c ∈ FG)
section
variable (a b c d s e f r g k : Nat)
end
/-! ### split -/
def J : List (List Nat) → List Nat
  | [] => []
  | [p] => p
  | p :: q :: r => p ++ 45 :: J (q :: r)
def lookL : List Nat → Bool
  | [a, b, c, d, s, e, f, r, g, h] => decide (s = 45) && (decide (r = 45) && figs [a, b, c, d, e, f, g, h])
  | _ => false
/-- does it look like a day's? -/
def look (t : Str) : Bool := lookL t.cps.toList
end DK

/-! clocks: changes by rising moments, and how many aren't behind one -/
namespace DC
def below (ns : List Int) (x : Int) : Nat := ns.countP (fun a => decide (a < x))
def off (own : Int) (cs : List (Int × Int)) (k : Nat) : Int := if k = 0 then own else (cs.getD (k - 1) (0, 0)).2
end DC

/-! the text of a moment -/
namespace DQ
open PySem PySem.NumText L2 DK
open PySem.Builtin.Str (strSliceIndices)
theorem clampHi (l : Option Int) (b len : Nat) : strSliceIndices l (some (b : Int)) 1 len = strSliceIndices l (some ((min b len : Nat) : Int)) 1 len := by
  have e : max (0 : Int) (min (b : Int) len) = max 0 (min ((min b len : Nat) : Int) len) := by omega
  have n1 : ¬ ((b : Int) < 0) := by omega
  have n2 : ¬ (((min b len : Nat) : Int) < 0) := by omega
  simp only [strSliceIndices, if_neg n1, if_neg n2, show (1 : Int) > 0 by decide, if_true, e]
theorem clampLo (u : Option Int) (a len : Nat) : strSliceIndices (some (a : Int)) u 1 len = strSliceIndices (some ((min a len : Nat) : Int)) u 1 len := by
  have e : max (0 : Int) (min (a : Int) len) = max 0 (min ((min a len : Nat) : Int) len) := by omega
  have n1 : ¬ ((a : Int) < 0) := by omega
  have n2 : ¬ (((min a len : Nat) : Int) < 0) := by omega
  simp only [strSliceIndices, if_neg n1, if_neg n2, show (1 : Int) > 0 by decide, if_true, e]
theorem sl_mid (l : List Nat) {a b : Nat} (hab : a ≤ b) : Txt.slice ⟨l.toArray⟩ (some (a : Int)) (some (b : Int)) = ⟨((l.drop a).take (b - a)).toArray⟩ := by
  have h1 : Txt.slice ⟨l.toArray⟩ (some (a : Int)) (some (b : Int)) = StrLaws.sliceText ⟨l.toArray⟩ (some ((min a l.length : Nat) : Int)) (some ((min b l.length : Nat) : Int)) := by
    unfold Txt.slice StrLaws.sliceText
    rw [clampHi, clampLo]
    rfl
  rw [h1, StrLaws.sliceText_nat _ (by omega) (by show min b l.length ≤ l.toArray.size; rw [List.size_toArray]; omega)]
  congr 2
  show (l.drop (min a l.length)).take (min b l.length - min a l.length) = _
  by_cases h : a ≤ l.length
  · rw [Nat.min_eq_left h]
    by_cases h2 : b ≤ l.length
    · rw [Nat.min_eq_left h2]
    · rw [Nat.min_eq_right (by omega), List.take_of_length_le (by rw [List.length_drop]; omega), List.take_of_length_le (by rw [List.length_drop]; omega)]
  · rw [List.drop_eq_nil_of_le (show l.length ≤ min a l.length by omega), List.drop_eq_nil_of_le (show l.length ≤ a by omega), List.take_nil, List.take_nil]
theorem sl_to (l : List Nat) (b : Nat) : Txt.slice ⟨l.toArray⟩ none (some (b : Int)) = ⟨(l.take b).toArray⟩ := by
  have h1 : Txt.slice ⟨l.toArray⟩ none (some (b : Int)) = Txt.slice ⟨l.toArray⟩ (some ((0 : Nat) : Int)) (some (b : Int)) := by
    unfold Txt.slice
    rw [StrLaws.sliceIdx_none_lo]
    rfl
  rw [h1, sl_mid l (Nat.zero_le b)]
  rfl
theorem sl_from (l : List Nat) (a : Nat) : Txt.slice ⟨l.toArray⟩ (some (a : Int)) none = ⟨(l.drop a).toArray⟩ := by
  by_cases h : a ≤ l.length
  · have h1 : Txt.slice ⟨l.toArray⟩ (some (a : Int)) none = Txt.slice ⟨l.toArray⟩ (some (a : Int)) (some (l.length : Int)) := by
      unfold Txt.slice
      rw [StrLaws.sliceIdx_none_hi]
      rfl
    rw [h1, sl_mid l h, List.take_of_length_le (by rw [List.length_drop]; omega)]
  · have h1 : Txt.slice ⟨l.toArray⟩ (some (a : Int)) none = Txt.slice ⟨l.toArray⟩ (some (a : Int)) (some (a : Int)) := by
      unfold Txt.slice
      rw [StrLaws.sliceIdx_none_hi, clampHi _ a, Nat.min_eq_right (show (⟨l.toArray⟩ : Str).length ≤ a by show l.toArray.size ≤ a; rw [List.size_toArray]; omega)]
    rw [h1, sl_mid l (Nat.le_refl a), Nat.sub_self, List.take_zero, List.drop_eq_nil_of_le (by omega)]
theorem sl_m1 (l : List Nat) (h : 1 ≤ l.length) : Txt.slice ⟨l.toArray⟩ none (some (-1)) = ⟨(l.take (l.length - 1)).toArray⟩ := by
  have h1 : Txt.slice ⟨l.toArray⟩ none (some (-1)) = Txt.slice ⟨l.toArray⟩ none (some ((l.length - 1 : Nat) : Int)) := by
    unfold Txt.slice
    rw [StrLaws.sliceIdx_neg_hi none (len := (⟨l.toArray⟩ : Str).length) (j := -1) (by decide) (by show -((l.toArray.size : Nat) : Int) ≤ -1; rw [List.size_toArray]; omega)]
    rw [show (-1 : Int) + ((⟨l.toArray⟩ : Str).length : Int) = ((l.length - 1 : Nat) : Int) by show (-1 : Int) + (l.toArray.size : Int) = _; rw [List.size_toArray]; omega]
  rw [h1, sl_to]
/-! ### reading -/
def both : Option Int → Option Int → Option Int
  | some d, some c => some (d * 1440 + c)
  | _, _ => none
/-! ### writing -/
open DT (dg tt)
end DQ

/-! letters: tuples of mixed values -/
namespace DW
open PySem PySem.Spec L2
inductive W where
  | n
  | b (x : Bool)
  | i (z : Int)
  | s (t : Str)
  | ts (l : List Str)
  | ti (z : Int)
section
variable (nm : Str → Bool)
def numW : W → Bool
  | .i _ => true
  | _ => false
def fromW : W → Int → Bool
  | .i z, k => decide (k ≤ z)
  | _, _ => false
def callW : W → Bool
  | .s t => nm t
  | _ => false
def eqS : W → Str → Bool
  | .s t, u => decide (t = u)
  | _, _ => false
def riseS : List Str → Bool
  | x :: y :: r => decide (x.cps.toList < y.cps.toList) && riseS (y :: r)
  | _ => true
def handsW : W → Str → Nat → Bool
  | .ts l, a, k => decide (k ≤ l.length) && decide (l.length ≤ 20) && l.all nm && riseS l && !decide (a ∈ l)
  | _, _, _ => false
def spanW : W → W → Bool
  | .i x, .i y => decide (x < y)
  | _, _ => false
def nmOf : W → Str
  | .s t => t
  | _ => ""
def at_ (ws : List W) (j : Nat) : W := ws.getD j .n
def bidW (ws : List W) : Bool := decide (ws.length = 7) && (fromW (at_ ws 3) 1 && (numW (at_ ws 4) && (numW (at_ ws 5) && (spanW (at_ ws 4) (at_ ws 5) && handsW nm (at_ ws 6) (nmOf (at_ ws 1)) 1))))
def offW (ws : List W) : Bool := decide (ws.length = 4) && fromW (at_ ws 3) 2
def closeW (ws : List W) : Bool := decide (ws.length = 5) && (fromW (at_ ws 3) 1 && handsW nm (at_ ws 4) (nmOf (at_ ws 1)) 0)
def ansW (ws : List W) : Bool := decide (ws.length = 7) && (fromW (at_ ws 3) 1 && (callW nm (at_ ws 4) && (!eqS (at_ ws 4) (nmOf (at_ ws 1)) && (fromW (at_ ws 5) 0 && (eqS (at_ ws 6) "yes" || eqS (at_ ws 6) "no")))))
def kindW (ws : List W) : Bool := if eqS (at_ ws 0) "bid" then bidW nm ws else if eqS (at_ ws 0) "off" then offW ws else if eqS (at_ ws 0) "close" then closeW nm ws else (eqS (at_ ws 0) "answer" && ansW nm ws)
def isL (ws : List W) : Bool := decide (4 ≤ ws.length) && (callW nm (at_ ws 1) && (fromW (at_ ws 2) 0 && kindW nm ws))
end
section
variable {nm : Str → Bool} {ws : List W}
theorem isL_len (h : ¬ 4 ≤ ws.length) : isL nm ws = false := by unfold isL; rw [decide_eq_false h, Bool.false_and]
theorem isL_call (h : callW nm (at_ ws 1) = false) : isL nm ws = false := by unfold isL; rw [h, Bool.false_and, Bool.and_false]
theorem isL_two (h : fromW (at_ ws 2) 0 = false) : isL nm ws = false := by unfold isL; rw [h, Bool.false_and, Bool.and_false, Bool.and_false]
theorem isL_go (h1 : 4 ≤ ws.length) (h2 : callW nm (at_ ws 1) = true) (h3 : fromW (at_ ws 2) 0 = true) : isL nm ws = kindW nm ws := by unfold isL; rw [decide_eq_true h1, h2, h3]; rfl
theorem from_le {w : W} {j k : Int} (h : j ≤ k) (z : fromW w j = false) : fromW w k = false := by
  cases w <;> simp only [fromW, decide_eq_false_iff_not] at z ⊢
  omega
theorem isL_three (h : fromW (at_ ws 3) 1 = false) : isL nm ws = false := by
  have h2 := from_le (j := 1) (k := 2) (by decide) h
  unfold isL kindW bidW offW closeW ansW
  rw [h, h2]
  simp
theorem kind_bid (h : eqS (at_ ws 0) "bid" = true) : kindW nm ws = bidW nm ws := by unfold kindW; rw [if_pos h]
theorem eqS_ne {w : W} {t u : Str} (h : eqS w t = true) (n : t ≠ u) : eqS w u = false := by
  cases w <;> simp only [eqS, Bool.false_eq_true, decide_eq_true_eq] at h ⊢
  subst h
  exact decide_eq_false n
theorem kind_off (h : eqS (at_ ws 0) "off" = true) : kindW nm ws = offW ws := by unfold kindW; rw [if_neg (by rw [eqS_ne h (by decide)]; decide), if_pos h]
theorem kind_close (h : eqS (at_ ws 0) "close" = true) : kindW nm ws = closeW nm ws := by unfold kindW; rw [if_neg (by rw [eqS_ne h (by decide)]; decide), if_neg (by rw [eqS_ne h (by decide)]; decide), if_pos h]
theorem kind_ans (h : eqS (at_ ws 0) "answer" = true) : kindW nm ws = ansW nm ws := by unfold kindW; rw [if_neg (by rw [eqS_ne h (by decide)]; decide), if_neg (by rw [eqS_ne h (by decide)]; decide), if_neg (by rw [eqS_ne h (by decide)]; decide), h, Bool.true_and]
theorem kind_none (h1 : eqS (at_ ws 0) "bid" = false ∨ ws.length ≠ 7) (h2 : eqS (at_ ws 0) "off" = false) (h3 : eqS (at_ ws 0) "close" = false ∨ ws.length ≠ 5) (h4 : eqS (at_ ws 0) "answer" = false ∨ ws.length ≠ 7) : kindW nm ws = false := by
  unfold kindW
  rw [h2]
  by_cases z1 : eqS (at_ ws 0) "bid" = true
  · rw [if_pos z1]
    unfold bidW
    rw [decide_eq_false (h1.resolve_left (by rw [z1]; decide)), Bool.false_and]
  · rw [if_neg z1, if_neg (by decide)]
    by_cases z3 : eqS (at_ ws 0) "close" = true
    · rw [if_pos z3]
      unfold closeW
      rw [decide_eq_false (h3.resolve_left (by rw [z3]; decide)), Bool.false_and]
    · rw [if_neg z3]
      rcases h4 with h4 | h4
      · rw [h4, Bool.false_and]
      · unfold ansW
        rw [decide_eq_false h4, Bool.false_and, Bool.and_false]
theorem num_i {w : W} (h : numW w = true) : ∃ z, w = .i z := by cases w <;> simp only [numW, Bool.false_eq_true] at h; exact ⟨_, rfl⟩
theorem call_s {w : W} (h : callW nm w = true) : ∃ t, w = .s t ∧ nm t = true := by cases w <;> simp only [callW, Bool.false_eq_true] at h; exact ⟨_, rfl, h⟩
theorem from_of {w : W} {k : Int} (h : numW w = false) : fromW w k = false := by cases w <;> simp only [numW, Bool.true_eq_false] at h <;> rfl
end
/-! texts in order -/
theorem lt_tot : ∀ {a b : List Nat}, ltCps b a = false → a ≠ b → ltCps a b = true
  | [], [], _, h => absurd rfl h
  | [], _ :: _, _, _ => rfl
  | _ :: _, [], h, _ => by cases h
  | x :: a, y :: b, h, hn => by
    simp only [ltCps, Bool.or_eq_false_iff, decide_eq_false_iff_not, Bool.and_eq_false_iff, beq_eq_false_iff_ne] at h
    simp only [ltCps, Bool.or_eq_true, decide_eq_true_eq, Bool.and_eq_true, beq_iff_eq]
    by_cases e : x = y
    · subst e
      refine .inr ⟨rfl, lt_tot (h.2.resolve_left (fun z => z rfl)) (fun z => hn (by rw [z]))⟩
    · exact .inl (by have := h.1; omega)
theorem str_ne {a b : Str} (h : a ≠ b) : a.cps.toList ≠ b.cps.toList := fun z => h (by
  obtain ⟨⟨a⟩⟩ := a
  obtain ⟨⟨b⟩⟩ := b
  simp at z
  rw [z])
theorem rise_of : ∀ {l : List Str}, PyProof.Rows.sortedS l = true → l.Nodup → riseS l = true
  | [], _, _ => rfl
  | [_], _, _ => rfl
  | x :: y :: r, h, hn => by
    simp only [PyProof.Rows.sortedS, PyProof.Rows.risingS, Bool.and_eq_true, Bool.not_eq_true'] at h
    have hn2 := (List.nodup_cons.mp hn)
    have hxy : x ≠ y := fun e => hn2.1 (by rw [e]; exact List.mem_cons_self ..)
    have ih := rise_of (l := y :: r) (by simp only [PyProof.Rows.sortedS]; exact h.2) hn2.2
    have h1 := lt_tot h.1 (str_ne hxy)
    rw [PyProof.Rows.ltCps_eq] at h1
    show (decide (x.cps.toList < y.cps.toList) && riseS (y :: r)) = true
    rw [h1, ih]
    rfl
theorem rise_take : ∀ {l : List Str} (n : Nat), riseS l = true → riseS (l.take n) = true
  | [], n, _ => by simp [riseS]
  | [x], n, _ => by cases n <;> simp [riseS]
  | x :: y :: r, 0, _ => by simp [riseS]
  | x :: y :: r, 1, _ => by simp [riseS]
  | x :: y :: r, n + 2, h => by
    simp only [riseS, Bool.and_eq_true] at h
    have ih := rise_take (l := y :: r) (n + 1) h.2
    simp only [List.take_succ_cons, riseS, Bool.and_eq_true] at ih ⊢
    exact ⟨h.1, ih⟩
theorem rise_drop : ∀ {l : List Str} (n : Nat), riseS l = true → riseS (l.drop n) = true
  | l, 0, h => by rw [List.drop_zero]; exact h
  | [], n + 1, _ => by simp [riseS]
  | [x], n + 1, _ => by simp [riseS]
  | x :: y :: r, n + 1, h => by
    simp only [riseS, Bool.and_eq_true] at h
    rw [List.drop_succ_cons]
    exact rise_drop (l := y :: r) n h.2
/-- the list that a comprehension over range(1, len) makes -/
theorem rise_all : ∀ (l : List Str), ((List.range (l.length - 1)).all fun j => decide ((l.getD j "").cps.toList < (l.getD (j + 1) "").cps.toList)) = riseS l
  | [] => rfl
  | [x] => rfl
  | x :: y :: r => by
    have ih := rise_all (y :: r)
    show ((List.range (r.length + 1)).all fun j => decide (((x :: y :: r).getD j "").cps.toList < ((x :: y :: r).getD (j + 1) "").cps.toList)) = _
    rw [List.range_succ_eq_map, List.all_cons, List.all_map]
    show (decide (x.cps.toList < y.cps.toList) && _) = (decide (x.cps.toList < y.cps.toList) && riseS (y :: r))
    rw [← ih]
    rfl
end DW

namespace DW
open PySem PySem.Spec L2
def WV (H : Hp) : W → V → Prop
  | .n, v => v = .non
  | .b x, v => v = .bl x
  | .i z, v => v = .int z
  | .s t, v => v = .str t ∧ t.length ≤ 10000
  | .ts l, v => ∃ r, v = .ref r ∧ H r = some (.tup (l.map V.str)) ∧ l.length ≤ 1000 ∧ ∀ t ∈ l, t.length ≤ 10000
  | .ti z, v => ∃ r, v = .ref r ∧ H r = some (.tup [.int z])
theorem WV.up {H H' : Hp} {w : W} {v : V} (h : WV H w v) (s : Same H H') : WV H' w v := by
  cases w with
  | n => exact h
  | b x => exact h
  | i z => exact h
  | s t => exact h
  | ts l => obtain ⟨r, e, h1, h2⟩ := h; exact ⟨r, e, s _ _ h1, h2⟩
  | ti z => obtain ⟨r, e, h1⟩ := h; exact ⟨r, e, s _ _ h1⟩
abbrev PW_ := V × W
def ws (ps : List PW_) : List W := ps.map (·.2)
def vs (ps : List PW_) : List V := ps.map (·.1)
theorem ws_len (ps : List PW_) : (ws ps).length = ps.length := List.length_map ..
theorem vs_len (ps : List PW_) : (vs ps).length = ps.length := List.length_map ..
structure LetAt (H : Hp) (p : Addr) (ps : List PW_) : Prop where
  at_ : H p = some (.tup (vs ps))
  ok : ∀ q ∈ ps, WV H q.2 q.1
  few : ps.length ≤ 1000
theorem LetAt.up {H H' : Hp} {p : Addr} {ps : List PW_} (h : LetAt H p ps) (s : Same H H') : LetAt H' p ps := ⟨s _ _ h.at_, fun q hq => (h.ok q hq).up s, h.few⟩
theorem at_get {ps : List PW_} {j : Nat} (hj : j < ps.length) : ∃ q ∈ ps, ps[j]? = some q ∧ L2.atI (vs ps) (j : Int) = some q.1 ∧ DW.at_ (ws ps) j = q.2 := by
  refine ⟨ps[j], List.getElem_mem hj, List.getElem?_eq_getElem hj, ?_, ?_⟩
  · refine atI_nat ?_
    unfold vs
    rw [List.getElem?_map, List.getElem?_eq_getElem hj]
    rfl
  · unfold DW.at_ ws
    rw [List.getD_eq_getElem?_getD, List.getElem?_map, List.getElem?_eq_getElem hj]
    rfl
theorem LetAt.get {H : Hp} {p : Addr} {ps : List PW_} (h : LetAt H p ps) {j : Nat} (hj : j < ps.length) : ∃ v, L2.atI (vs ps) (j : Int) = some v ∧ WV H (DW.at_ (ws ps) j) v := by
  obtain ⟨q, hq, _, e1, e2⟩ := at_get hj
  exact ⟨q.1, e1, by rw [e2]; exact h.ok q hq⟩
theorem flat_strs (l : List Str) : (l.map V.str).all flatV = true := by rw [List.all_map]; exact List.all_eq_true.mpr fun _ _ => rfl
theorem inV_strs (a : Str) (l : List Str) : inV (.str a) (l.map V.str) = decide (a ∈ l) := by
  unfold inV
  rw [List.any_map, Bool.eq_iff_iff, List.any_eq_true, decide_eq_true_eq]
  constructor
  · rintro ⟨x, hx, e⟩
    have e' : eqV (.str x) (.str a) = true := e
    simp only [eqV, beq_iff_eq] at e'
    rw [← e']
    exact hx
  · intro h
    exact ⟨a, h, by show eqV (.str a) (.str a) = true; simp [eqV]⟩
theorem hands_eq {nm : Str → Bool} {l : List Str} {a : Str} {m : Nat} : handsW nm (.ts l) a m = (decide (m ≤ l.length) && decide (l.length ≤ 20) && l.all nm && riseS l && !decide (a ∈ l)) := rfl
theorem hands_few {nm : Str → Bool} {l : List Str} {a : Str} {m : Nat} (h : l.length < m) : false = handsW nm (.ts l) a m := by rw [hands_eq, decide_eq_false (by omega), Bool.false_and, Bool.false_and, Bool.false_and, Bool.false_and]
theorem hands_many {nm : Str → Bool} {l : List Str} {a : Str} {m : Nat} (h : 20 < l.length) : false = handsW nm (.ts l) a m := by rw [hands_eq, decide_eq_false (p := l.length ≤ 20) (by omega), Bool.and_false, Bool.false_and, Bool.false_and, Bool.false_and]
theorem hands_nm {nm : Str → Bool} {l : List Str} {a : Str} {m : Nat} (h : l.all nm = false) : false = handsW nm (.ts l) a m := by rw [hands_eq, h, Bool.and_false, Bool.false_and, Bool.false_and]
theorem hands_rise {nm : Str → Bool} {l : List Str} {a : Str} {m : Nat} (h : riseS l = false) : false = handsW nm (.ts l) a m := by rw [hands_eq, h, Bool.and_false, Bool.false_and]
theorem hands_go {nm : Str → Bool} {l : List Str} {a : Str} {m : Nat} (h1 : m ≤ l.length) (h2 : l.length ≤ 20) (h3 : l.all nm = true) (h4 : riseS l = true) : handsW nm (.ts l) a m = (!decide (a ∈ l)) := by rw [hands_eq, decide_eq_true h1, decide_eq_true h2, h3, h4, Bool.and_self, Bool.and_self, Bool.and_self, Bool.true_and]
end DW

namespace DW
open PySem PySem.Spec L2
theorem cut_map {α : Type} (f : α → V) (l : List α) (lo hi : Option Int) : ∃ l' : List α, cutV (l.map f) lo hi = l'.map f ∧ (∀ x ∈ l', x ∈ l) ∧ l'.length ≤ l.length := by
  refine ⟨(l.drop (HT.sIx l.length 0 lo)).take (HT.sIx l.length l.length hi - HT.sIx l.length 0 lo), ?_, fun x hx => List.mem_of_mem_drop (List.mem_of_mem_take hx), ?_⟩
  · unfold cutV
    rw [List.length_map, ← List.map_drop, ← List.map_take]
  · rw [List.length_take, List.length_drop]
    omega
theorem strs_of {ys : List V} {os : List Str} (h : ∀ v ∈ ys, ∃ t ∈ os, v = V.str t) : ∃ l : List Str, ys = l.map V.str ∧ ∀ t ∈ l, t ∈ os := by
  induction ys with
  | nil => exact ⟨[], rfl, fun _ z => nomatch z⟩
  | cons y ys ih =>
    obtain ⟨t, ht, rfl⟩ := h y (List.mem_cons_self ..)
    obtain ⟨l, e, hl⟩ := ih fun v hv => h v (List.mem_cons_of_mem _ hv)
    refine ⟨t :: l, by rw [List.map_cons, e], fun u hu => ?_⟩
    rcases List.mem_cons.mp hu with rfl | hu
    · exact ht
    · exact hl u hu
def neF (a : Str) : V → Bool
  | .str t => !decide (t = a)
  | _ => false
theorem fil_strs (ns : List Str) (a : Str) : (((ns.map V.str).filter (neF a)).map fun v => v) = (ns.filter fun t => !decide (t = a)).map V.str := by
  rw [List.map_id', List.filter_map]
  rfl
def Og (AL : List Nat) : W → Prop
  | .i z => -(10 ^ 18) ≤ z ∧ z ≤ 10 ^ 18
  | .s t => (∀ c ∈ t.cps.toList, c ∈ AL) ∧ t.length ≤ 8
  | .ts l => l.length ≤ 22 ∧ ∀ t ∈ l, t.length ≤ 8
  | _ => False
structure LetO (AL : List Nat) (H : Hp) (p : Addr) (ps : List PW_) : Prop where
  is : LetAt H p ps
  og : ∀ q ∈ ps, Og AL q.2
  lo : 4 ≤ ps.length
  hi : ps.length ≤ 7
  one : ∃ a, DW.at_ (ws ps) 1 = .s a
  bid : eqS (DW.at_ (ws ps) 0) "bid" = true → ps.length = 7 ∧ ∃ z, DW.at_ (ws ps) 4 = .i z
theorem LetO.up {AL : List Nat} {H H' : Hp} {p : Addr} {ps : List PW_} (h : LetO AL H p ps) (s : Same H H') : LetO AL H' p ps := ⟨h.is.up s, h.og, h.lo, h.hi, h.one, h.bid⟩
theorem LetO.getO {AL : List Nat} {H : Hp} {p : Addr} {ps : List PW_} (h : LetO AL H p ps) {j : Nat} (hj : j < ps.length) : ∃ v, L2.atI (vs ps) (j : Int) = some v ∧ WV H (DW.at_ (ws ps) j) v ∧ Og AL (DW.at_ (ws ps) j) := by
  obtain ⟨q, hq, _, e1, e2⟩ := at_get hj
  exact ⟨q.1, e1, by rw [e2]; exact h.is.ok q hq, by rw [e2]; exact h.og q hq⟩
theorem og_log {z : Int} (h1 : -(10 ^ 18) ≤ z) (h2 : z ≤ 10 ^ 18) : z.natAbs.log2 < 1920 := by
  by_cases e : z.natAbs = 0
  · rw [e]; decide
  · have h : z.natAbs < 2 ^ 64 := by have : (10 : Int) ^ 18 < 2 ^ 63 := by decide
                                     omega
    have := (Nat.log2_lt e).mpr h
    omega
theorem vs_app (a b : List PW_) : vs a ++ vs b = vs (a ++ b) := (List.map_append ..).symm
theorem cut_vs (ps : List PW_) (lo hi : Option Int) : ∃ qs, cutV (vs ps) lo hi = vs qs ∧ (∀ q ∈ qs, q ∈ ps) ∧ qs.length ≤ ps.length := cut_map (fun q : PW_ => q.1) ps lo hi
theorem LetAt.mk' {H : Hp} {p : Addr} {a b : List PW_} (e : H p = some (.tup (vs a ++ vs b))) (ha : ∀ q ∈ a, WV H q.2 q.1) (hb : ∀ q ∈ b, WV H q.2 q.1) (h : a.length + b.length ≤ 1000) : LetAt H p (a ++ b) :=
  ⟨by rw [e, vs_app], fun q hq => (List.mem_append.mp hq).elim (ha q) (hb q), by rw [List.length_append]; exact h⟩
theorem WV.set {H : Hp} {w : W} {v : V} {S : Addr} {xs ys : List V} (h : WV H w v) (hS : H S = some (.lst xs)) : WV (upd H S (.lst ys)) w v := by
  cases w with
  | n => exact h
  | b x => exact h
  | i z => exact h
  | s t => exact h
  | ts l =>
    obtain ⟨r, e, h1, h2⟩ := h
    exact ⟨r, e, by rw [upd_ne (fun z => by rw [z, hS] at h1; cases h1)]; exact h1, h2⟩
  | ti z =>
    obtain ⟨r, e, h1⟩ := h
    exact ⟨r, e, by rw [upd_ne (fun z => by rw [z, hS] at h1; cases h1)]; exact h1⟩
theorem neg1 {α : Type} {xs : List α} (h : 0 < xs.length) : atI xs (-1) = xs[xs.length - 1]? := by
  unfold atI ixN
  rw [if_neg (by decide), if_pos (by omega)]
  show xs[((-1 : Int) + (xs.length : Int)).toNat]? = _
  rw [show ((-1 : Int) + (xs.length : Int)).toNat = xs.length - 1 by omega]
theorem some_not {ns : List Str} (h2 : 2 ≤ ns.length) (hn : ns.Nodup) (a : Str) : 0 < (ns.filter fun t => !decide (t = a)).length := by
  match ns, h2, hn with
  | x :: y :: r, _, hn =>
    have hxy : x ≠ y := fun e => (List.nodup_cons.mp hn).1 (by rw [e]; exact List.mem_cons_self ..)
    apply List.length_pos_of_mem (a := if x = a then y else x)
    rw [List.mem_filter]
    by_cases e : x = a
    · rw [if_pos e]
      exact ⟨by simp, by simp; exact fun z => hxy (e.trans z.symm)⟩
    · rw [if_neg e]
      exact ⟨by simp, by simp [e]⟩
end DW

namespace DW
open PySem PySem.Spec L2
theorem sum_one {α : Type} (g : α → Nat) : ∀ (l : List α), (∀ x ∈ l, g x ≤ 1) → (l.map g).sum ≤ l.length
  | [], _ => Nat.le_refl _
  | x :: l, h => by
    have h1 := h x (List.mem_cons_self ..)
    have h2 := sum_one g l fun y hy => h y (List.mem_cons_of_mem _ hy)
    rw [List.map_cons, List.sum_cons, List.length_cons]
    omega
theorem up_len {l : List Nat} (h : ∀ c ∈ l, (Unicode.upperOf c).length ≤ 1) : (Txt.upper ⟨l.toArray⟩).length ≤ l.length := by
  show ((l.toArray.mapIdx fun _ c => (Unicode.upperOf c).toArray).flatten).size ≤ l.length
  rw [Array.size_flatten]
  have e : (Array.map Array.size (l.toArray.mapIdx fun _ c => (Unicode.upperOf c).toArray)).sum = ((l.zipIdx).map fun x => (Unicode.upperOf x.1).length).sum := by
    rw [← Array.sum_toList, Array.toList_map, List.mapIdx_toArray, List.mapIdx_eq_zipIdx_map, List.map_map]
    congr 1
  rw [e]
  have := sum_one (fun x : Nat × Nat => (Unicode.upperOf x.1).length) l.zipIdx (fun x hx => h x.1 (List.fst_mem_of_mem_zipIdx hx))
  rw [List.length_zipIdx] at this
  exact this
def TS (H : Hp) (r : Addr) : Prop := ∃ l : List Str, H r = some (.tup (l.map V.str)) ∧ l.length ≤ 100 ∧ ∀ t ∈ l, t.length ≤ 10000
theorem TS.up {H H' : Hp} {r : Addr} (h : TS H r) (s : Same H H') : TS H' r := by
  obtain ⟨l, e, h1, h2⟩ := h
  exact ⟨l, s _ _ e, h1, h2⟩
theorem TS.wv {H : Hp} {r : Addr} (h : TS H r) : ∃ w, WV H w (.ref r) := by
  obtain ⟨l, e, h1, h2⟩ := h
  exact ⟨.ts l, r, rfl, e, by omega, h2⟩
theorem TS.cut {H : Hp} {q : Addr} {l : List Str} {lo hi : Option Int} (e : H q = some (.tup (cutV (l.map V.str) lo hi))) (h1 : l.length ≤ 40) (h2 : ∀ t ∈ l, t.length ≤ 10000) : ∃ l' : List Str, H q = some (.tup (l'.map V.str)) ∧ l'.length ≤ 40 ∧ ∀ t ∈ l', t.length ≤ 10000 := by
  obtain ⟨l', e', a1, a2⟩ := cut_map V.str l lo hi
  exact ⟨l', by rw [e, e'], by omega, fun t ht => h2 t (a1 t ht)⟩
theorem TS.cat {H : Hp} {q : Addr} {l m : List Str} (e : H q = some (.tup (l.map V.str ++ m.map V.str))) (h1 : l.length ≤ 40) (h2 : ∀ t ∈ l, t.length ≤ 10000) (h3 : m.length ≤ 40) (h4 : ∀ t ∈ m, t.length ≤ 10000) : TS H q :=
  ⟨l ++ m, by rw [e, List.map_append], by rw [List.length_append]; omega, fun t ht => (List.mem_append.mp ht).elim (h2 t) (h4 t)⟩
theorem atI_any {α : Type} {xs : List α} {i : Int} (h0 : 0 ≤ i) (h1 : i < xs.length) : ∃ x ∈ xs, atI xs i = some x := by
  obtain ⟨n, rfl⟩ : ∃ n : Nat, i = (n : Int) := ⟨i.toNat, by omega⟩
  have hn : n < xs.length := by omega
  exact ⟨xs[n], List.getElem_mem _, atI_nat (List.getElem?_eq_getElem hn)⟩
/-- a list of mixed values -/
def Mx (H : Hp) (S : Addr) : Prop := ∃ xs, H S = some (.lst xs) ∧ xs.length = 12 ∧ ∀ x ∈ xs, ∃ w, WV H w x
theorem Mx.up {H H' : Hp} {S : Addr} (h : Mx H S) (s : Same H H') : Mx H' S := by
  obtain ⟨xs, e, h1, h2⟩ := h
  exact ⟨xs, s _ _ e, h1, fun x hx => (h2 x hx).imp fun w hw => hw.up s⟩
theorem Mx.put {H : Hp} {S : Addr} {xs : List V} {v : V} (e : H S = some (.lst xs)) (h1 : xs.length = 12) (h2 : ∀ x ∈ xs, ∃ w, WV H w x) (hv : ∃ w, WV H w v) : Mx (upd H S (.lst (xs.set 11 v))) S :=
  ⟨xs.set 11 v, upd_same, by rw [List.length_set]; exact h1, fun x hx => by
    rcases List.mem_or_eq_of_mem_set hx with hx | rfl
    · exact (h2 x hx).imp fun w hw => hw.set e
    · exact hv.imp fun w hw => hw.set e⟩
end DW

namespace DW
open PySem PySem.Spec L2
theorem bid_is {nm : Str → Bool} {a : Str} {f : Int} {l : List Str} (h : nm a = true) : isL nm [.s "bid", .s a, .i 3, .i 1, .i f, .i (f + 1), .ts l] = handsW nm (.ts l) a 1 := by
  have h1 : isL nm [.s "bid", .s a, .i 3, .i 1, .i f, .i (f + 1), .ts l] = (nm a && (decide (f < f + 1) && handsW nm (.ts l) a 1)) := rfl
  rw [h1, h, decide_eq_true (by omega)]
  rfl
theorem close_is {nm : Str → Bool} {a : Str} {l : List Str} (h : nm a = true) : isL nm [.s "close", .s a, .i 3, .i 1, .ts l] = handsW nm (.ts l) a 0 := by
  have h1 : isL nm [.s "close", .s a, .i 3, .i 1, .ts l] = (nm a && handsW nm (.ts l) a 0) := rfl
  rw [h1, h]
  rfl
theorem hands_all {nm : Str → Bool} {l : List Str} {a : Str} {m : Nat} (h1 : m ≤ l.length) (h3 : ∀ t ∈ l, nm t = true) (h4 : riseS l = true) (h5 : ¬ a ∈ l) : handsW nm (.ts l) a m = decide (l.length ≤ 20) := by
  rw [hands_eq, decide_eq_true h1, List.all_eq_true.mpr h3, h4, decide_eq_false h5]
  simp
theorem LetAt.mk3 {H : Hp} {p : Addr} {a b : List PW_} {v : V} {w : W} (e : H p = some (.tup ((vs a ++ [v]) ++ vs b))) (ha : ∀ q ∈ a, WV H q.2 q.1) (hv : WV H w v) (hb : ∀ q ∈ b, WV H q.2 q.1) (h : a.length + b.length ≤ 900) : LetAt H p (a ++ [(v, w)] ++ b) := by
  refine LetAt.mk' (by rw [e, ← vs_app a [(v, w)]]; rfl) (fun q hq => ?_) hb (by rw [List.length_append]; show _ + 1 + _ ≤ _; omega)
  rcases List.mem_append.mp hq with hq | hq
  · exact ha q hq
  · rw [List.mem_singleton] at hq
    subst hq
    exact hv
theorem LetO.last {AL : List Nat} {H : Hp} {p : Addr} {ps : List PW_} (h : LetO AL H p ps) : ∃ v w, L2.atI (vs ps) (-1) = some v ∧ WV H w v ∧ Og AL w := by
  have h4 := h.lo
  obtain ⟨q, hq, e, _⟩ := at_get (ps := ps) (j := ps.length - 1) (by omega)
  refine ⟨q.1, q.2, ?_, h.is.ok q hq, h.og q hq⟩
  rw [neg1 (by rw [vs_len]; omega), vs_len]
  unfold vs
  rw [List.getElem?_map, e]
  rfl
end DW

set_option smartUnfolding false
namespace K61
open PySem L2
def top (i : Nat) : Stmt := PySem.Challenge.pw_hourhouse_k61_names_and_letters.main.body.getD i (.Pass ⟨0, 0, 0, 0⟩)
abbrev s_is_made_of : Stmt := top 4
abbrev s_is_span : Stmt := top 7
abbrev s_is_number : Stmt := top 10
abbrev s_is_rising : Stmt := top 13
abbrev s_law_cell_at : Stmt := top 21
abbrev s_law_mixed : Stmt := top 22
abbrev s_law_name_by : Stmt := top 23
abbrev s_law_key : Stmt := top 26
abbrev s_law_is_name : Stmt := top 31
abbrev s_law_whole : Stmt := top 32
abbrev s_is_name : Stmt := top 5
abbrev s_is_from : Stmt := top 11
abbrev s_law_names_by : Stmt := top 24
abbrev s_law_some : Stmt := top 25
abbrev s_law_answer_of : Stmt := top 29
abbrev s_law_are_hands : Stmt := top 33
abbrev s_law_strange : Stmt := top 35
abbrev s_is_called : Stmt := top 12
abbrev s_is_off : Stmt := top 16
abbrev s_law_bid_of : Stmt := top 27
abbrev s_law_close_of : Stmt := top 28
abbrev s_law_due : Stmt := top 34
abbrev s_law_altered : Stmt := top 36
abbrev s_are_hands : Stmt := top 14
abbrev s_is_answer : Stmt := top 18
abbrev s_law_letter_by : Stmt := top 30
abbrev s_is_bid : Stmt := top 15
abbrev s_is_close : Stmt := top 17
abbrev s_is_letter : Stmt := top 19
abbrev s_law : Stmt := top 37
set_option genInjectivity false
set_option genSizeOf false
structure Adr where
  f_is_made_of : Addr
  d_is_made_of : FuncData
  f_is_span : Addr
  d_is_span : FuncData
  f_is_number : Addr
  d_is_number : FuncData
  f_is_rising : Addr
  d_is_rising : FuncData
  f_law_cell_at : Addr
  d_law_cell_at : FuncData
  f_law_mixed : Addr
  d_law_mixed : FuncData
  f_law_name_by : Addr
  d_law_name_by : FuncData
  f_law_key : Addr
  d_law_key : FuncData
  f_law_is_name : Addr
  d_law_is_name : FuncData
  f_law_whole : Addr
  d_law_whole : FuncData
  f_is_name : Addr
  d_is_name : FuncData
  f_is_from : Addr
  d_is_from : FuncData
  f_law_names_by : Addr
  d_law_names_by : FuncData
  f_law_some : Addr
  d_law_some : FuncData
  f_law_answer_of : Addr
  d_law_answer_of : FuncData
  f_law_are_hands : Addr
  d_law_are_hands : FuncData
  f_law_strange : Addr
  d_law_strange : FuncData
  f_is_called : Addr
  d_is_called : FuncData
  f_is_off : Addr
  d_is_off : FuncData
  f_law_bid_of : Addr
  d_law_bid_of : FuncData
  f_law_close_of : Addr
  d_law_close_of : FuncData
  f_law_due : Addr
  d_law_due : FuncData
  f_law_altered : Addr
  d_law_altered : FuncData
  f_are_hands : Addr
  d_are_hands : FuncData
  f_is_answer : Addr
  d_is_answer : FuncData
  f_law_letter_by : Addr
  d_law_letter_by : FuncData
  f_is_bid : Addr
  d_is_bid : FuncData
  f_is_close : Addr
  d_is_close : FuncData
  f_is_letter : Addr
  d_is_letter : FuncData
  f_law : Addr
  d_law : FuncData
structure Txt (K : PySem.W.Frag) (mg : Str → Option Value) (a : Adr) : Prop where
  F_is_made_of : Fun K "is_made_of" "is_made_of" s_is_made_of a.f_is_made_of a.d_is_made_of
  m_is_made_of : mg "is_made_of" = some (.ref a.f_is_made_of)
  b_is_made_of : Binds K a.d_is_made_of ["text", "signs"] []
  F_is_span : Fun K "is_span" "is_span" s_is_span a.f_is_span a.d_is_span
  m_is_span : mg "is_span" = some (.ref a.f_is_span)
  b_is_span : Binds K a.d_is_span ["begin", "end"] []
  F_is_number : Fun K "is_number" "is_number" s_is_number a.f_is_number a.d_is_number
  m_is_number : mg "is_number" = some (.ref a.f_is_number)
  b_is_number : Binds K a.d_is_number ["value"] []
  F_is_rising : Fun K "is_rising" "is_rising" s_is_rising a.f_is_rising a.d_is_rising
  m_is_rising : mg "is_rising" = some (.ref a.f_is_rising)
  b_is_rising : Binds K a.d_is_rising ["hands"] []
  F_law_cell_at : Fun K "_law_cell_at" "_law_cell_at" s_law_cell_at a.f_law_cell_at a.d_law_cell_at
  m_law_cell_at : mg "_law_cell_at" = some (.ref a.f_law_cell_at)
  b_law_cell_at : Binds K a.d_law_cell_at ["_law_script", "_law_k"] []
  F_law_mixed : Fun K "_law_mixed" "_law_mixed" s_law_mixed a.f_law_mixed a.d_law_mixed
  m_law_mixed : mg "_law_mixed" = some (.ref a.f_law_mixed)
  b_law_mixed : Binds K a.d_law_mixed ["_law_cell", "_law_k", "_law_many"] []
  F_law_name_by : Fun K "_law_name_by" "_law_name_by" s_law_name_by a.f_law_name_by a.d_law_name_by
  m_law_name_by : mg "_law_name_by" = some (.ref a.f_law_name_by)
  b_law_name_by : Binds K a.d_law_name_by ["_law_k", "_law_cell"] []
  F_law_key : Fun K "_law_key" "_law_key" s_law_key a.f_law_key a.d_law_key
  m_law_key : mg "_law_key" = some (.ref a.f_law_key)
  b_law_key : Binds K a.d_law_key ["_law_seed", "_law_names", "_law_asker", "_law_number", "_law_turn"] []
  F_law_is_name : Fun K "_law_is_name" "_law_is_name" s_law_is_name a.f_law_is_name a.d_law_is_name
  m_law_is_name : mg "_law_is_name" = some (.ref a.f_law_is_name)
  b_law_is_name : Binds K a.d_law_is_name ["_law_text"] []
  F_law_whole : Fun K "_law_whole" "_law_whole" s_law_whole a.f_law_whole a.d_law_whole
  m_law_whole : mg "_law_whole" = some (.ref a.f_law_whole)
  b_law_whole : Binds K a.d_law_whole ["_law_found"] []
  F_is_name : Fun K "is_name" "is_name" s_is_name a.f_is_name a.d_is_name
  m_is_name : mg "is_name" = some (.ref a.f_is_name)
  b_is_name : Binds K a.d_is_name ["text"] []
  F_is_from : Fun K "is_from" "is_from" s_is_from a.f_is_from a.d_is_from
  m_is_from : mg "is_from" = some (.ref a.f_is_from)
  b_is_from : Binds K a.d_is_from ["value", "least"] []
  F_law_names_by : Fun K "_law_names_by" "_law_names_by" s_law_names_by a.f_law_names_by a.d_law_names_by
  m_law_names_by : mg "_law_names_by" = some (.ref a.f_law_names_by)
  b_law_names_by : Binds K a.d_law_names_by ["_law_cell"] []
  F_law_some : Fun K "_law_some" "_law_some" s_law_some a.f_law_some a.d_law_some
  m_law_some : mg "_law_some" = some (.ref a.f_law_some)
  b_law_some : Binds K a.d_law_some ["_law_names", "_law_asker", "_law_seed", "_law_k", "_law_least"] []
  F_law_answer_of : Fun K "_law_answer_of" "_law_answer_of" s_law_answer_of a.f_law_answer_of a.d_law_answer_of
  m_law_answer_of : mg "_law_answer_of" = some (.ref a.f_law_answer_of)
  b_law_answer_of : Binds K a.d_law_answer_of ["_law_seed", "_law_names", "_law_asker", "_law_number", "_law_turn", "_law_cell"] []
  F_law_are_hands : Fun K "_law_are_hands" "_law_are_hands" s_law_are_hands a.f_law_are_hands a.d_law_are_hands
  m_law_are_hands : mg "_law_are_hands" = some (.ref a.f_law_are_hands)
  b_law_are_hands : Binds K a.d_law_are_hands ["_law_hands", "_law_asker", "_law_least"] []
  F_law_strange : Fun K "_law_strange" "_law_strange" s_law_strange a.f_law_strange a.d_law_strange
  m_law_strange : mg "_law_strange" = some (.ref a.f_law_strange)
  b_law_strange : Binds K a.d_law_strange ["_law_part", "_law_letter", "_law_names", "_law_cell"] []
  F_is_called : Fun K "is_called" "is_called" s_is_called a.f_is_called a.d_is_called
  m_is_called : mg "is_called" = some (.ref a.f_is_called)
  b_is_called : Binds K a.d_is_called ["value"] []
  F_is_off : Fun K "is_off" "is_off" s_is_off a.f_is_off a.d_is_off
  m_is_off : mg "is_off" = some (.ref a.f_is_off)
  b_is_off : Binds K a.d_is_off ["letter"] []
  F_law_bid_of : Fun K "_law_bid_of" "_law_bid_of" s_law_bid_of a.f_law_bid_of a.d_law_bid_of
  m_law_bid_of : mg "_law_bid_of" = some (.ref a.f_law_bid_of)
  b_law_bid_of : Binds K a.d_law_bid_of ["_law_seed", "_law_names", "_law_asker", "_law_number", "_law_turn"] []
  F_law_close_of : Fun K "_law_close_of" "_law_close_of" s_law_close_of a.f_law_close_of a.d_law_close_of
  m_law_close_of : mg "_law_close_of" = some (.ref a.f_law_close_of)
  b_law_close_of : Binds K a.d_law_close_of ["_law_seed", "_law_names", "_law_asker", "_law_number", "_law_turn"] []
  F_law_due : Fun K "_law_due" "_law_due" s_law_due a.f_law_due a.d_law_due
  m_law_due : mg "_law_due" = some (.ref a.f_law_due)
  b_law_due : Binds K a.d_law_due ["_law_letter"] []
  F_law_altered : Fun K "_law_altered" "_law_altered" s_law_altered a.f_law_altered a.d_law_altered
  m_law_altered : mg "_law_altered" = some (.ref a.f_law_altered)
  b_law_altered : Binds K a.d_law_altered ["_law_letter", "_law_names", "_law_cell"] []
  F_are_hands : Fun K "are_hands" "are_hands" s_are_hands a.f_are_hands a.d_are_hands
  m_are_hands : mg "are_hands" = some (.ref a.f_are_hands)
  b_are_hands : Binds K a.d_are_hands ["value", "asker", "least"] []
  F_is_answer : Fun K "is_answer" "is_answer" s_is_answer a.f_is_answer a.d_is_answer
  m_is_answer : mg "is_answer" = some (.ref a.f_is_answer)
  b_is_answer : Binds K a.d_is_answer ["letter"] []
  F_law_letter_by : Fun K "_law_letter_by" "_law_letter_by" s_law_letter_by a.f_law_letter_by a.d_law_letter_by
  m_law_letter_by : mg "_law_letter_by" = some (.ref a.f_law_letter_by)
  b_law_letter_by : Binds K a.d_law_letter_by ["_law_cell", "_law_seed", "_law_names"] []
  F_is_bid : Fun K "is_bid" "is_bid" s_is_bid a.f_is_bid a.d_is_bid
  m_is_bid : mg "is_bid" = some (.ref a.f_is_bid)
  b_is_bid : Binds K a.d_is_bid ["letter"] []
  F_is_close : Fun K "is_close" "is_close" s_is_close a.f_is_close a.d_is_close
  m_is_close : mg "is_close" = some (.ref a.f_is_close)
  b_is_close : Binds K a.d_is_close ["letter"] []
  F_is_letter : Fun K "is_letter" "is_letter" s_is_letter a.f_is_letter a.d_is_letter
  m_is_letter : mg "is_letter" = some (.ref a.f_is_letter)
  b_is_letter : Binds K a.d_is_letter ["letter"] []
  F_law : Fun K "law" "law" s_law a.f_law a.d_law
  m_law : mg "law" = some (.ref a.f_law)
  b_law : Binds K a.d_law ["_law_script"] []
  g_FIGURES : ∃ t, mg "FIGURES" = some (.str "0123456789" t)
  g_LETTERS : ∃ t, mg "LETTERS" = some (.str "abcdefghijklmnopqrstuvwxyz" t)
  g_MOST_HANDS : ∃ t, mg "MOST_HANDS" = some (.int 20 t)
  g_NAME_SIGNS : ∃ t, mg "NAME_SIGNS" = some (.int 8 t)
  n_all : mg "all" = none
  n_bool : mg "bool" = none
  n_int : mg "int" = none
  n_isinstance : mg "isinstance" = none
  n_len : mg "len" = none
  n_min : mg "min" = none
  n_range : mg "range" = none
  n_sorted : mg "sorted" = none
  n_str : mg "str" = none
  n_tuple : mg "tuple" = none

def LT : List Nat := (Str.ofString "abcdefghijklmnopqrstuvwxyz").cps.toList
def FG : List Nat := (Str.ofString "0123456789").cps.toList
def AL : List Nat := (Str.ofString "abcdefghijklmnopqrstuvwxyz0123456789").cps.toList
theorem AL_eq : AL = LT ++ FG := by decide +kernel
theorem LF_off : ∀ c ∈ LT, ¬ c ∈ FG := by decide +kernel
def nameB (l : List Nat) : Bool := if l.length < 1 ∨ 8 < l.length then false else decide (l.headD 0 ∈ LT) && l.all fun c => decide (c ∈ AL)
theorem nameB_short {l : List Nat} (h : l.length < 1) : nameB l = false := by unfold nameB; rw [if_pos (.inl h)]
theorem nameB_long {l : List Nat} (h : 8 < l.length) : nameB l = false := by unfold nameB; rw [if_pos (.inr h)]
theorem nameB_mid {l : List Nat} {c : Nat} (h1 : ¬ l.length < 1) (h2 : ¬ 8 < l.length) (e : l[0]? = some c) : nameB l = (decide (c ∈ LT) && l.all fun c => decide (c ∈ AL)) := by
  unfold nameB
  rw [if_neg (by intro h; rcases h with h | h <;> omega)]
  cases l with
  | nil => simp at e
  | cons x r => simp at e; subst e; rfl
theorem len_app (x y : Str) : (x ++ y).length = x.length + y.length := Array.size_append
theorem sz1000 : (10000 : Nat) < sizeLine := by decide
/-- the promises -/
def sp_is_made_of : Sp := fun vs H Q _ => ∃ t g : Str, vs = [.str t, .str g] ∧ t.length ≤ 10000 ∧ ∀ H', Same H H' → Q (.bl (t.cps.toList.all fun c => decide (c ∈ g.cps.toList))) H'
def sp_is_name : Sp := fun vs H Q _ => ∃ t : Str, vs = [.str t] ∧ t.length ≤ 10000 ∧ ∀ H', Same H H' → Q (.bl (nameB t.cps.toList)) H'
theorem atI_pick {ts : List Int} {i : Int} (lo hi : Int) (h0 : 0 ≤ i) (h1 : i < ts.length) (hb : ∀ t ∈ ts, lo ≤ t ∧ t ≤ hi) : ∃ t, lo ≤ t ∧ t ≤ hi ∧ atI (ts.map V.int) i = some (.int t) := by
  obtain ⟨t, ht, e⟩ := atI_ints (ts := ts) h0 h1
  exact ⟨t, (hb t ht).1, (hb t ht).2, e⟩
def sp_law_cell_at (K : PySem.W.Frag) : Sp := fun vs H Q _ => ∃ (p : Addr) (ns : List Int) (k : Int), vs = [.ref p, .int k] ∧ SqL K H p (ns.map V.int) ∧ 0 ≤ k ∧ ∀ v : Int, Q (.int v) H
def sp_law_mixed : Sp := fun vs H Q _ => ∃ c k m : Int, vs = [.int c, .int k, .int m] ∧ 0 ≤ k ∧ k ≤ 100000 ∧ 0 < m ∧ ∀ v : Int, 0 ≤ v → v < m → Q (.int v) H
def sp_law (K : PySem.W.Frag) : Sp := fun vs H Q _ => ∃ (a : Addr) (ns : List Int), vs = [.ref a] ∧ SqL K H a (ns.map V.int) ∧ ns.length ≤ 63 ∧ ∀ H', Q (.bl true) H'
theorem vint {i j : Int} : decide (V.int i = V.int j) = decide (i = j) := decide_eq_decide.mpr (by rw [V.int.injEq])
theorem nameB_of {l : List Nat} {c : Nat} (h1 : ¬ 8 < l.length) (e : l[0]? = some c) (h3 : ¬ c ∈ FG) : nameB l = l.all fun c => decide (c ∈ AL) := by
  have hl : 0 < l.length := by
    obtain ⟨z, _⟩ := List.getElem?_eq_some_iff.mp e
    exact z
  rw [nameB_mid (by omega) h1 e]
  by_cases hc : c ∈ LT
  · rw [decide_eq_true hc, Bool.true_and]
  · have hm : c ∈ l := List.mem_of_getElem? e
    have ha : ¬ c ∈ AL := by rw [AL_eq]; simp [hc, h3]
    rw [decide_eq_false hc, Bool.false_and]
    symm
    rw [List.all_eq_false]
    exact ⟨c, hm, by simp [ha]⟩
theorem nameB_fig {l : List Nat} {c : Nat} (e : l[0]? = some c) (h3 : c ∈ FG) : nameB l = false := by
  have hl : 0 < l.length := by
    obtain ⟨z, _⟩ := List.getElem?_eq_some_iff.mp e
    exact z
  by_cases h1 : 8 < l.length
  · exact nameB_long h1
  · rw [nameB_mid (by omega) h1 e, decide_eq_false (fun z => LF_off _ z h3), Bool.false_and]
def GL : List Nat := ((Str.ofString "abcdefghijklmnopqrstuvwxyz" : Str) ++ (Str.ofString "0123456789" : Str)).cps.toList
theorem GL_eq : GL = AL := by decide +kernel
theorem len_to (t : Str) (b : Nat) : (Txt.slice t none (some (b : Int))).length ≤ t.length := by
  obtain ⟨⟨l⟩⟩ := t
  rw [DQ.sl_to]
  show (l.take b).toArray.size ≤ l.toArray.size
  rw [List.size_toArray, List.size_toArray, List.length_take]
  omega
theorem len_from (t : Str) (a : Nat) : (Txt.slice t (some (a : Int)) none).length ≤ t.length := by
  obtain ⟨⟨l⟩⟩ := t
  rw [DQ.sl_from]
  show (l.drop a).toArray.size ≤ l.toArray.size
  rw [List.size_toArray, List.size_toArray, List.length_drop]
  omega

open DW
abbrev NM : Str → Bool := fun t => nameB t.cps.toList
def sp_is_span : Sp := fun vs H Q _ => ∃ b e : Int, vs = [.int b, .int e] ∧ Q (.bl (decide (b < e))) H
def sp_is_number : Sp := fun vs H Q _ => ∃ (v : V) (w : W), vs = [v] ∧ WV H w v ∧ Q (.bl (numW w)) H
def sp_is_from : Sp := fun vs H Q _ => ∃ (v : V) (w : W) (k : Int), vs = [v, .int k] ∧ WV H w v ∧ Q (.bl (fromW w k)) H
def sp_is_called : Sp := fun vs H Q _ => ∃ (v : V) (w : W), vs = [v] ∧ WV H w v ∧ ∀ H', Same H H' → Q (.bl (callW NM w)) H'
def sp_is_rising : Sp := fun vs H Q _ => ∃ (r : Addr) (l : List Str), vs = [.ref r] ∧ H r = some (.tup (l.map V.str)) ∧ l.length ≤ 1000 ∧ ∀ H', Same H H' → Q (.bl (riseS l)) H'
def sp_are_hands : Sp := fun vs H Q _ => ∃ (v : V) (w : W) (a : Str) (k : Nat), vs = [v, .str a, .int (k : Int)] ∧ WV H w v ∧ ∀ H', Same H H' → Q (.bl (handsW NM w a k)) H'
def LetP (f : List W → Bool) : Sp := fun vs H Q _ => ∃ (p : Addr) (ps : List PW_) (a : Str), vs = [.ref p] ∧ LetAt H p ps ∧ 4 ≤ ps.length ∧ at_ (ws ps) 1 = .s a ∧ ∀ H', Same H H' → Q (.bl (f (ws ps))) H'
def sp_is_letter : Sp := fun vs H Q _ => ∃ (p : Addr) (ps : List PW_), vs = [.ref p] ∧ LetAt H p ps ∧ ∀ H', Same H H' → Q (.bl (isL NM (ws ps))) H'
theorem getD_at {l : List Str} {j : Nat} (h : j < l.length) : atI (l.map V.str) (j : Int) = some (.str (l.getD j "")) := by
  refine atI_nat ?_
  rw [List.getElem?_map, List.getD_eq_getElem?_getD, List.getElem?_eq_getElem h]
  rfl
def ltF (l : List Str) : V → V
  | .int i => .bl (decide ((l.getD (i - 1).toNat "").cps.toList < (l.getD i.toNat "").cps.toList))
  | _ => .non
theorem ltF_all (l : List Str) (n : Nat) : (((List.range n).map fun (i : Nat) => V.int (1 + (i : Int))).map (ltF l)) = ((List.range n).map fun j => decide ((l.getD j "").cps.toList < (l.getD (j + 1) "").cps.toList)).map V.bl := by
  rw [List.map_map, List.map_map]
  refine List.map_congr_left fun i _ => ?_
  show V.bl (decide ((l.getD ((1 + (i : Int)) - 1).toNat "").cps.toList < (l.getD (1 + (i : Int)).toNat "").cps.toList)) = V.bl _
  rw [show ((1 + (i : Int)) - 1).toNat = i by omega, show (1 + (i : Int)).toNat = i + 1 by omega]
def nmF : V → V
  | .str t => .bl (nameB t.cps.toList)
  | _ => .bl false

theorem nmOf_s {w : W} {a : Str} (h : w = .s a) : nmOf w = a := by subst h; rfl

theorem eqW_go {H : Hp} {w : W} {v : V} {t : Str} {Q : VK} (hw : WV H w v) (q : Q (.bl (eqS w t)) H) : ∃ u, V.str t = .str u ∧ ((rEq v (.str t) H Q) ∨ ∃ a xs, v = .ref a ∧ H a = some (.tup xs) ∧ Q (.bl false) H) := by
  refine ⟨t, rfl, ?_⟩
  cases w with
  | n => cases hw; exact .inl ⟨rfl, by rw [show decide (V.non = V.str t) = false from decide_eq_false (fun e => nomatch e)]; exact q⟩
  | b x => cases hw; exact .inl ⟨rfl, by rw [show decide (V.bl x = V.str t) = false from decide_eq_false (fun e => nomatch e)]; exact q⟩
  | i z => cases hw; exact .inl ⟨rfl, by rw [show decide (V.int z = V.str t) = false from decide_eq_false (fun e => nomatch e)]; exact q⟩
  | s u => obtain ⟨rfl, _⟩ := hw; exact .inl ⟨rfl, by rw [show decide (V.str u = V.str t) = decide (u = t) from decide_eq_decide.mpr (by rw [V.str.injEq])]; exact q⟩
  | ts l => obtain ⟨r, rfl, h, _⟩ := hw; exact .inr ⟨r, _, rfl, h, q⟩
  | ti z => obtain ⟨r, rfl, h⟩ := hw; exact .inr ⟨r, _, rfl, h, q⟩

def naF (a : Str) : V → V
  | .str t => .bl (nameB t.cps.toList && !decide (t = a))
  | _ => .bl false
theorem na_all (l : List Str) (a : Str) : l.all (id ∘ fun t => nameB t.cps.toList && !decide (t = a)) = (l.all NM && !decide (a ∈ l)) := by
  induction l with
  | nil => rfl
  | cons t r ih =>
    rw [List.all_cons, ih, List.all_cons]
    show ((nameB t.cps.toList && !decide (t = a)) && (r.all NM && !decide (a ∈ r))) = ((nameB t.cps.toList && r.all NM) && !decide (a ∈ t :: r))
    have e : decide (a ∈ t :: r) = (decide (t = a) || decide (a ∈ r)) := by
      rw [Bool.eq_iff_iff, Bool.or_eq_true, decide_eq_true_eq, decide_eq_true_eq, decide_eq_true_eq, List.mem_cons]
      exact ⟨fun h => h.elim (fun h => .inl h.symm) .inr, fun h => h.elim (fun h => .inl h.symm) .inr⟩
    rw [e]
    cases nameB t.cps.toList <;> cases decide (t = a) <;> cases r.all NM <;> cases decide (a ∈ r) <;> rfl
theorem hands_cm {l : List Str} {a : Str} {m : Nat} (h1 : m ≤ l.length) (h2 : l.length ≤ 20) (h3 : (l.all NM && !decide (a ∈ l)) = true) : handsW NM (.ts l) a m = riseS l := by
  rw [Bool.and_eq_true] at h3
  rw [hands_eq, decide_eq_true h1, decide_eq_true h2, h3.1, h3.2, Bool.and_self, Bool.and_self, Bool.true_and, Bool.and_true]
theorem hands_cf {l : List Str} {a : Str} {m : Nat} (h3 : (l.all NM && !decide (a ∈ l)) = false) : false = handsW NM (.ts l) a m := by
  rw [hands_eq]
  cases z1 : l.all NM with
  | false => rw [Bool.and_false, Bool.false_and, Bool.false_and]
  | true => rw [z1, Bool.true_and] at h3; rw [h3, Bool.and_false]
theorem nm_long {t : Str} (h : 8 < t.length) : nameB t.cps.toList = false := nameB_long (by rw [show t.cps.toList.length = t.length from Array.length_toList]; exact h)

theorem inYN {K : PySem.W.Frag} {H H' : Hp} {w : W} {v : V} {l : Addr} {Q : VK} (hw : WV H w v) (s : Same H H') (hl : H' l = some (.lst [.str "yes", .str "no"])) (q : Q (.bl (eqS w "yes" || eqS w "no")) H') :
    (rIn K false v (.ref l) H' Q) ∨ ∃ (a : Addr) (xs : List V) (m : Addr) (ts : List Str), v = .ref a ∧ H' a = some (.tup xs) ∧ V.ref l = .ref m ∧ H' m = some (.lst (ts.map V.str)) ∧ Q (.bl false) H' := by
  cases w with
  | n => cases hw; exact .inl ⟨l, _, rfl, .inl (SqL.of hl), rfl, rfl, q⟩
  | b x => cases hw; exact .inl ⟨l, _, rfl, .inl (SqL.of hl), rfl, rfl, q⟩
  | i z => cases hw; exact .inl ⟨l, _, rfl, .inl (SqL.of hl), rfl, rfl, q⟩
  | s u =>
    obtain ⟨rfl, _⟩ := hw
    refine .inl ⟨l, _, rfl, .inl (SqL.of hl), rfl, rfl, ?_⟩
    have e := inV_strs u ["yes", "no"]
    have e2 : decide (u ∈ (["yes", "no"] : List Str)) = (eqS (.s u) "yes" || eqS (.s u) "no") := by
      rw [Bool.eq_iff_iff, decide_eq_true_eq, Bool.or_eq_true, List.mem_cons, List.mem_singleton]
      exact ⟨fun h => h.imp decide_eq_true decide_eq_true, fun h => h.imp of_decide_eq_true of_decide_eq_true⟩
    show Q (.bl (inV (.str u) [.str "yes", .str "no"])) H'
    rw [show inV (.str u) [.str "yes", .str "no"] = decide (u ∈ (["yes", "no"] : List Str)) from e, e2]
    exact q
  | ts r => obtain ⟨a, rfl, h, _⟩ := hw; exact .inr ⟨a, _, l, ["yes", "no"], rfl, s _ _ h, rfl, hl, q⟩
  | ti z => obtain ⟨a, rfl, h⟩ := hw; exact .inr ⟨a, _, l, ["yes", "no"], rfl, s _ _ h, rfl, hl, q⟩

def t3 (i : Int) : Str := if i = 0 then "t" else if i = 1 then "ab" else "x9a"
def nmO (i : Int) (n : Nat) : Str := (t3 i ++ (⟨#[98 + n]⟩ : Str)) ++ (⟨#[97]⟩ : Str)
def nmE (i : Int) (n : Nat) : Str := ((Txt.mul "a" i ++ (⟨#[98 + n]⟩ : Str)) ++ (⟨#[97]⟩ : Str)) ++ Txt.mul "a" (6 - i)
def nmT (c : Int) (n : Nat) : Str := if c % 2 = 1 then nmO (c / 2 % 3) n else nmE (c / 2 % 7) n
def sumS (t : Str) : Nat := t.cps.toList.foldl (· + ·) 0
theorem nmO_ok : ∀ (i : Fin 3) (n : Fin 24), (nameB (nmO (i.val : Int) n.val).cps.toList && !decide (nmO (i.val : Int) n.val = "nobody") && decide (sumS (nmO (i.val : Int) n.val) = sumS (nmO (i.val : Int) 0) + n.val)) = true := by decide +kernel
theorem nmE_ok : ∀ (i : Fin 7) (n : Fin 24), (nameB (nmE (i.val : Int) n.val).cps.toList && !decide (nmE (i.val : Int) n.val = "nobody") && decide (sumS (nmE (i.val : Int) n.val) = sumS (nmE (i.val : Int) 0) + n.val)) = true := by decide +kernel
theorem nmT_all (c : Int) : ∀ n : Nat, n < 24 → nameB (nmT c n).cps.toList = true ∧ nmT c n ≠ "nobody" ∧ sumS (nmT c n) = sumS (nmT c 0) + n := by
  intro n hn
  unfold nmT
  by_cases h : c % 2 = 1
  · rw [if_pos h, if_pos h]
    have a0 : 0 ≤ c / 2 % 3 := Int.emod_nonneg _ (by decide)
    have a1 : c / 2 % 3 < 3 := Int.emod_lt_of_pos _ (by decide)
    have z := nmO_ok ⟨(c / 2 % 3).toNat, by omega⟩ ⟨n, hn⟩
    simp only [Int.toNat_of_nonneg a0, Bool.and_eq_true, Bool.not_eq_true', decide_eq_true_eq, decide_eq_false_iff_not] at z
    exact ⟨z.1.1, z.1.2, z.2⟩
  · rw [if_neg h, if_neg h]
    have a0 : 0 ≤ c / 2 % 7 := Int.emod_nonneg _ (by decide)
    have a1 : c / 2 % 7 < 7 := Int.emod_lt_of_pos _ (by decide)
    have z := nmE_ok ⟨(c / 2 % 7).toNat, by omega⟩ ⟨n, hn⟩
    simp only [Int.toNat_of_nonneg a0, Bool.and_eq_true, Bool.not_eq_true', decide_eq_true_eq, decide_eq_false_iff_not] at z
    exact ⟨z.1.1, z.1.2, z.2⟩
theorem nmT_inj {c : Int} {n m : Nat} (hn : n < 24) (hm : m < 24) (e : nmT c n = nmT c m) : n = m := by
  have h1 := (nmT_all c n hn).2.2
  have h2 := (nmT_all c m hm).2.2
  rw [e] at h1
  omega
theorem nm_al {t : Str} (h : nameB t.cps.toList = true) : (∀ c ∈ t.cps.toList, c ∈ AL) ∧ t.length ≤ 8 := by
  have el : t.cps.toList.length = t.length := Array.length_toList
  unfold nameB at h
  by_cases z : t.cps.toList.length < 1 ∨ 8 < t.cps.toList.length
  · rw [if_pos z] at h; cases h
  · rw [if_neg z, Bool.and_eq_true, List.all_eq_true] at h
    exact ⟨fun c hc => of_decide_eq_true (h.2 c hc), by omega⟩
structure Nms (ns : List Str) : Prop where
  lo : 2 ≤ ns.length
  hi : ns.length ≤ 22
  nd : ns.Nodup
  nm : ∀ t ∈ ns, NM t = true
def nmG (c : Int) : V → V
  | .int k => .str (nmT c k.toNat)
  | _ => .non
theorem nmG_vals (c : Int) (n : Nat) : (((List.range n).map fun (i : Nat) => V.int (0 + (i : Int))).map (nmG c)) = ((List.range n).map (nmT c)).map V.str := by
  rw [List.map_map, List.map_map]
  refine List.map_congr_left fun i _ => ?_
  show V.str (nmT c (0 + (i : Int)).toNat) = V.str (nmT c i)
  rw [show (0 + (i : Int)).toNat = i by omega]
theorem nms_gen {c : Int} {n : Nat} {ms : List Str} (h2 : 2 ≤ n) (hn : n ≤ 22) (hp : ms.Perm ((List.range n).map (nmT c))) : Nms ms := by
  have hl : ms.length = n := by rw [hp.length_eq, List.length_map, List.length_range]
  refine ⟨by omega, by omega, hp.nodup_iff.mpr ?_, fun t ht => ?_⟩
  · rw [List.nodup_iff_pairwise_ne, List.pairwise_map]
    exact List.Pairwise.imp_of_mem (fun {a b} ha hb hab e => hab (nmT_inj (by have := List.mem_range.mp ha; omega) (by have := List.mem_range.mp hb; omega) e)) (List.nodup_iff_pairwise_ne.mp List.nodup_range)
  · obtain ⟨i, hi, rfl⟩ := List.mem_map.mp (hp.mem_iff.mp ht)
    exact (nmT_all c i (by have := List.mem_range.mp hi; omega)).1
def sp_law_name_by : Sp := fun vs H Q _ => ∃ (n : Nat) (c : Int), vs = [.int (n : Int), .int c] ∧ n < 24 ∧ ∀ H', Same H H' → Q (.str (nmT c n)) H'
def sp_law_names_by : Sp := fun vs H Q _ => ∃ c : Int, vs = [.int c] ∧ ∀ (D : Addr) (ns : List Str) H', Same H H' → H' D = some (.lst (ns.map V.str)) → Nms ns → Q (.ref D) H'
def sp_law_some : Sp := fun vs H Q _ => ∃ (L : Addr) (ns : List Str) (a : Str) (s k m : Int), vs = [.ref L, .str a, .int s, .int k, .int m] ∧ H L = some (.lst (ns.map V.str)) ∧ Nms ns ∧ 0 ≤ k ∧ k ≤ 1000 ∧ ∀ (r : Addr) (l : List Str) H', Same H H' → H' r = some (.tup (l.map V.str)) → l.length ≤ 22 → (∀ t ∈ l, NM t = true) → Q (.ref r) H'
def sp_law_key : Sp := fun vs H Q _ => ∃ (L : Addr) (ns : List Str) (a : Str) (s n t : Int), vs = [.int s, .ref L, .str a, .int n, .int t] ∧ H L = some (.lst (ns.map V.str)) ∧ Nms ns ∧ a ∈ ns ∧ ∀ v : Int, Q (.int v) H
def DrawP (more : List V → Prop) : Sp := fun vs H Q _ => ∃ (L : Addr) (ns : List Str) (a : Str) (s n t : Int) (r : List V), vs = [.int s, .ref L, .str a, .int n, .int t] ++ r ∧ more r ∧ H L = some (.lst (ns.map V.str)) ∧ Nms ns ∧ a ∈ ns ∧ 0 ≤ n ∧ n ≤ 10 ^ 9 ∧ 1 ≤ t ∧ t ≤ 10 ^ 10 ∧ ∀ (p : Addr) (ps : List PW_) H', Same H H' → LetO AL H' p ps → Q (.ref p) H'
def sp_law_letter_by : Sp := fun vs H Q _ => ∃ (L : Addr) (ns : List Str) (c s : Int), vs = [.int c, .int s, .ref L] ∧ H L = some (.lst (ns.map V.str)) ∧ Nms ns ∧ ∀ (p : Addr) (ps : List PW_) H', Same H H' → LetO AL H' p ps → Q (.ref p) H'
def sp_law_strange : Sp := fun vs H Q _ => ∃ (v : V) (w : W) (p L : Addr) (ps : List PW_) (ns : List Str) (c : Int), vs = [v, .ref p, .ref L, .int c] ∧ WV H w v ∧ Og AL w ∧ LetO AL H p ps ∧ H L = some (.lst (ns.map V.str)) ∧ Nms ns ∧ ∀ (v' : V) (w' : W) H', Same H H' → WV H' w' v' → Q v' H'
def sp_law_altered : Sp := fun vs H Q _ => ∃ (p L : Addr) (ps : List PW_) (ns : List Str) (c : Int), vs = [.ref p, .ref L, .int c] ∧ LetO AL H p ps ∧ H L = some (.lst (ns.map V.str)) ∧ Nms ns ∧ ∀ (q : Addr) (qs : List PW_) H', Same H H' → LetAt H' q qs → Q (.ref q) H'
theorem wv_nm {H : Hp} {t : Str} (h : NM t = true) : WV H (.s t) (.str t) := ⟨rfl, by have := (nm_al h).2; omega⟩
theorem og_nm {t : Str} (h : NM t = true) : Og AL (.s t) := nm_al h
theorem wv_ts {H : Hp} {r : Addr} {l : List Str} (e : H r = some (.tup (l.map V.str))) (hl : l.length ≤ 22) (hn : ∀ t ∈ l, NM t = true) : WV H (.ts l) (.ref r) := ⟨r, rfl, e, by omega, fun t ht => by have := (nm_al (hn t ht)).2; omega⟩
theorem og_ts {l : List Str} (hl : l.length ≤ 22) (hn : ∀ t ∈ l, NM t = true) : Og AL (.ts l) := ⟨hl, fun t ht => (nm_al (hn t ht)).2⟩
theorem s24 : ∀ n : Fin 24, (Str.ofString "bcdefghijklmnopqrstuvwxy").cps.toList[n.val]? = some (98 + n.val) := by decide +kernel
theorem t3_at {i : Int} (h0 : 0 ≤ i) (h1 : i < 3) : atI [V.str "t", V.str "ab", V.str "x9a"] i = some (.str (t3 i)) := by
  have h : i = 0 ∨ i = 1 ∨ i = 2 := by omega
  rcases h with h | h | h <;> subst h <;> rfl
theorem t3_len (i : Int) : (t3 i).length ≤ 3 := by
  unfold t3
  split
  · decide +kernel
  · split <;> decide +kernel
theorem mul7 {i : Int} (h0 : 0 ≤ i) (h1 : i ≤ 6) : MulOk "a" i ∧ (Txt.mul "a" i).length ≤ 6 := by
  have h : i = 0 ∨ i = 1 ∨ i = 2 ∨ i = 3 ∨ i = 4 ∨ i = 5 ∨ i = 6 := by omega
  rcases h with h | h | h | h | h | h | h <;> subst h <;> (unfold MulOk; decide +kernel)
theorem sz2 {x y : Str} (m n : Nat) (h1 : x.length ≤ m) (h2 : y.length ≤ n) (h : m + n ≤ 20000 := by decide) : x.length + y.length ≤ sizeLine := Nat.le_trans (by omega : x.length + y.length ≤ 20000) (by decide)
theorem ap2 {x y : Str} (m n : Nat) (h1 : x.length ≤ m) (h2 : y.length ≤ n) : (x ++ y).length ≤ m + n := by rw [len_app]; omega
theorem one1 (c : Nat) : (⟨#[c]⟩ : Str).length ≤ 1 := Nat.le_refl _

theorem letO_of {H : Hp} {p : Addr} {k0 a : Str} {n t : Int} {r : List PW_} (e : H p = some (.tup (vs ([(.str k0, .s k0), (.str a, .s a), (.int n, .i n), (.int t, .i t)] ++ r)))) (hk : (∀ c ∈ k0.cps.toList, c ∈ AL) ∧ k0.length ≤ 8) (ha : NM a = true)
    (n0 : 0 ≤ n) (n1 : n ≤ 10 ^ 9) (t0 : 1 ≤ t) (t1 : t ≤ 10 ^ 10) (hr : ∀ q ∈ r, WV H q.2 q.1 ∧ Og AL q.2) (hl : r.length ≤ 3) (hb : k0 = "bid" → r.length = 3 ∧ ∃ z, at_ (ws r) 0 = .i z) :
    LetO AL H p ([(.str k0, .s k0), (.str a, .s a), (.int n, .i n), (.int t, .i t)] ++ r) := by
  have hal := nm_al ha
  have hlen : ([(.str k0, .s k0), (.str a, .s a), (.int n, .i n), (.int t, .i t)] ++ r : List PW_).length = 4 + r.length := by rw [List.length_append]; rfl
  have big : (10 : Int) ^ 10 ≤ 10 ^ 18 := by decide
  have big2 : (10 : Int) ^ 9 ≤ 10 ^ 18 := by decide
  have neg : -((10 : Int) ^ 18) ≤ 0 := by decide
  have four : ∀ q ∈ ([(.str k0, .s k0), (.str a, .s a), (.int n, .i n), (.int t, .i t)] : List PW_), WV H q.2 q.1 ∧ Og AL q.2 := fun q hq => by
    simp only [List.mem_cons, List.not_mem_nil, or_false] at hq
    rcases hq with rfl | rfl | rfl | rfl
    · exact ⟨⟨rfl, by have := hk.2; omega⟩, hk⟩
    · exact ⟨⟨rfl, by have := hal.2; omega⟩, hal⟩
    · exact ⟨rfl, by omega, by omega⟩
    · exact ⟨rfl, by omega, by omega⟩
  refine ⟨⟨e, fun q hq => (List.mem_append.mp hq).elim (fun h => (four q h).1) (fun h => (hr q h).1), by omega⟩, fun q hq => (List.mem_append.mp hq).elim (fun h => (four q h).2) (fun h => (hr q h).2), by omega, by omega, ⟨a, rfl⟩, fun h => ?_⟩
  have h' : decide (k0 = "bid") = true := h
  obtain ⟨h3, z, hz⟩ := hb (of_decide_eq_true h')
  exact ⟨by omega, z, hz⟩
theorem kw_bid : (∀ c ∈ (Str.ofString "bid").cps.toList, c ∈ AL) ∧ (Str.ofString "bid").length ≤ 8 := by decide +kernel
theorem kw_off : (∀ c ∈ (Str.ofString "off").cps.toList, c ∈ AL) ∧ (Str.ofString "off").length ≤ 8 := by decide +kernel
theorem kw_close : (∀ c ∈ (Str.ofString "close").cps.toList, c ∈ AL) ∧ (Str.ofString "close").length ≤ 8 := by decide +kernel
theorem kw_answer : (∀ c ∈ (Str.ofString "answer").cps.toList, c ∈ AL) ∧ (Str.ofString "answer").length ≤ 8 := by decide +kernel
theorem kw_yn : ∀ t ∈ (["yes", "no", "yes"] : List Str), (∀ c ∈ t.cps.toList, c ∈ AL) ∧ t.length ≤ 8 := by decide +kernel

theorem up_al : ∀ c ∈ AL, (PySem.Unicode.upperOf c).length ≤ 1 := by decide +kernel
theorem up_ok {t : Str} (h : ∀ c ∈ t.cps.toList, c ∈ AL) (h8 : t.length ≤ 8) : (Txt.upper t).length ≤ 8 := by
  obtain ⟨⟨l⟩⟩ := t
  have e : l.length ≤ 8 := h8
  exact Nat.le_trans (up_len (l := l) (fun c hc => up_al c (h c hc))) e
theorem neg_len (t : Str) : (Txt.slice t none (some (-1))).length ≤ t.length := by
  obtain ⟨⟨l⟩⟩ := t
  by_cases h : 1 ≤ l.length
  · rw [DQ.sl_m1 l h]
    show (l.take (l.length - 1)).toArray.size ≤ l.toArray.size
    rw [List.size_toArray, List.size_toArray, List.length_take]
    omega
  · have e : l = [] := List.eq_nil_of_length_eq_zero (by omega)
    subst e
    decide +kernel

theorem sign_at {i : Int} (h0 : 0 ≤ i) (h1 : i < 29) : ∃ c, atI (Str.ofString " !-./0123456789:@AZ[_abcxyz{~").cps.toList i = some c := by
  obtain ⟨c, _, e⟩ := atI_any (xs := (Str.ofString " !-./0123456789:@AZ[_abcxyz{~").cps.toList) (i := i) h0 (by rw [show (Str.ofString " !-./0123456789:@AZ[_abcxyz{~").cps.toList.length = 29 from by decide +kernel]; exact h1)
  exact ⟨c, e⟩
theorem nobody_nm : NM "nobody" = true := by decide +kernel
theorem far_ok {far : Int} {ms : List Str} (hp : ms.Perm ((List.range 22).map (nmT far))) (hs : PyProof.Rows.sortedS ms = true) : ms.length = 22 ∧ riseS ms = true ∧ (∀ t ∈ ms, NM t = true) ∧ ¬ (Str.ofString "nobody") ∈ ms := by
  have hN := nms_gen (c := far) (n := 22) (by decide) (by decide) hp
  refine ⟨by rw [hp.length_eq, List.length_map, List.length_range], rise_of hs hN.nd, hN.nm, fun z => ?_⟩
  obtain ⟨i, hi, e⟩ := List.mem_map.mp (hp.mem_iff.mp z)
  exact (nmT_all far i (by have := List.mem_range.mp hi; omega)).2.1 e

theorem name_pos' {t : Str} (h : NM t = true) : 1 ≤ t.length := by
  have el : t.cps.toList.length = t.length := Array.length_toList
  rcases Nat.lt_or_ge t.cps.toList.length 1 with z | z
  · have h' : nameB t.cps.toList = true := h
    rw [nameB_short z] at h'; cases h'
  · omega
theorem to8 {t : Str} (h : t.length ≤ 8) (n : Nat) : (Txt.slice t none (some (n : Int))).length ≤ 8 := Nat.le_trans (len_to t n) h

end K61

namespace K61
open PySem L2 DW
section
variable {P : Program} {w : World} {K : PySem.W.Frag} {mg : Str → Option Value} {base : Heap} {a : Adr}
theorem sc_is_made_of : FnScope ["text", "signs"] ["text", "signs"] (defScope s_is_made_of) := ⟨rfl, rfl, rfl, by decide +kernel, rfl, by decide +kernel, by decide +kernel⟩

theorem ok_is_made_of (T : Txt K mg a) : FnOk P w K mg base CX0 true 1 a.f_is_made_of a.d_is_made_of ["text", "signs"] (sp_is_made_of) := by
  refine T.F_is_made_of.ok sc_is_made_of (fun vs H Q E h => ?_) (fun cdv A outer s H vs Q E hr h => ?_)
  · obtain ⟨t, g, rfl, _⟩ := h; rfl
  · obtain ⟨t, g, rfl, hl, k⟩ := h
    refine ⟨_, (pss_one (ps_ret (pe_callB (call_allK (K := K) rfl rfl) rfl T.n_all (by decide +kernel) (pa_cons (pe_comp (N := ["sign", "signs"]) (cap := [none, some 1]) (by show CompScope (defScope s_is_made_of) _ ["text", "signs"] _ _; exact ⟨rfl, by decide +kernel, by decide +kernel, by decide +kernel, by decide +kernel, rfl, by decide +kernel⟩) rfl (pi_str (pv 0)) (fun C s H fp => ⟨(pg_name (i := 0) (by show (["sign", "signs"] : List Str).Nodup; decide +kernel) rfl (Or.inl rfl) (.inr rfl)), pf_none, (pe_cmpR op_in_chr (pv 0) (pv 1) (by with_unfolding_all rfl))⟩)) pa_nil)))), ?_⟩
    refine ⟨_, rfl, t, rfl, ?_⟩
    refine comp_pure (seq_str t H) (fun _ => true) (fun v => V.bl (match v with | .str y => decide (y.cps.toList.headD 0 ∈ g.cps.toList) | _ => false)) ?_ ?_ ?_ ?_
    · rw [List.length_map, Array.length_toList]
      exact Nat.le_trans hl (by decide)
    · exact fun x _ H' _ R hR => hR H' (Same.refl _)
    · intro x hx _ H' _ R hR
      obtain ⟨c, _, rfl⟩ := List.mem_map.mp hx
      exact ⟨_, rfl, _, rfl, c, g, rfl, rfl, hR H' (Same.refl _)⟩
    · intro D H' sm _ hD
      refine ⟨D, t.cps.toList.map fun c => decide (c ∈ g.cps.toList), rfl, SqL.of ?_, ?_⟩
      · rw [hD, List.filter_eq_self.mpr (fun _ _ => rfl), List.map_map, List.map_map]
        rfl
      · have := k H' sm
        rw [List.all_map]
        exact this
end
end K61

namespace K61
open PySem L2 DW
section
variable {P : Program} {w : World} {K : PySem.W.Frag} {mg : Str → Option Value} {base : Heap} {a : Adr}
theorem sc_is_span : FnScope ["begin", "end"] ["begin", "end"] (defScope s_is_span) := ⟨rfl, rfl, rfl, by decide +kernel, rfl, by decide +kernel, by decide +kernel⟩

theorem ok_is_span (T : Txt K mg a) : FnOk P w K mg base CX0 true 1 a.f_is_span a.d_is_span ["begin", "end"] (sp_is_span) := by
  refine T.F_is_span.ok sc_is_span (fun vs H Q E h => ?_) (fun cdv A outer s H vs Q E hr h => ?_)
  · obtain ⟨b, e, rfl, _⟩ := h; rfl
  · obtain ⟨b, e, rfl, k⟩ := h
    refine ⟨_, (pss_one (ps_ret (pe_cmpR op_gt (pv 1) (pv 0) (nomark _)))), ?_⟩
    exact ⟨_, rfl, _, rfl, _, _, rfl, rfl, k⟩
end
end K61

namespace K61
open PySem L2 DW
section
variable {P : Program} {w : World} {K : PySem.W.Frag} {mg : Str → Option Value} {base : Heap} {a : Adr}
theorem sc_is_number : FnScope ["value"] ["value"] (defScope s_is_number) := ⟨rfl, rfl, rfl, by decide +kernel, rfl, by decide +kernel, by decide +kernel⟩

theorem ok_is_number (T : Txt K mg a) : FnOk P w K mg base CX0 true 1 a.f_is_number a.d_is_number ["value"] (sp_is_number) := by
  refine T.F_is_number.ok sc_is_number (fun vs H Q E h => ?_) (fun cdv A outer s H vs Q E hr h => ?_)
  · obtain ⟨v, w, rfl, _⟩ := h; rfl
  · obtain ⟨v, w, rfl, hw, k⟩ := h
    refine ⟨_, (pss_one (ps_ret (pe_and (pe_callB (call_isinstK (K := K) rfl) rfl T.n_isinstance (by decide +kernel) (pa_cons (pv 0) (pa_cons (pe_bltn (v := .ty "int") rfl T.n_int (by decide +kernel) rfl) pa_nil))) (pe_one (pe_not (pe_callB (call_isinstK (K := K) rfl) rfl T.n_isinstance (by decide +kernel) (pa_cons (pv 0) (pa_cons (pe_bltn (v := .ty "bool") rfl T.n_bool (by decide +kernel) rfl) pa_nil)))))))), ?_⟩
    cases w with
    | n => cases hw; exact ⟨_, rfl, _, _, _, _, rfl, TyOf.non, rfl, _, rfl, iteF k⟩
    | b x => cases hw; exact ⟨_, rfl, _, _, _, _, rfl, TyOf.bl _, rfl, _, rfl, iteT ⟨_, rfl, _, _, _, _, rfl, TyOf.bl _, rfl, _, rfl, k⟩⟩
    | i z => cases hw; exact ⟨_, rfl, _, _, _, _, rfl, TyOf.int _, rfl, _, rfl, iteT ⟨_, rfl, _, _, _, _, rfl, TyOf.int _, rfl, _, rfl, k⟩⟩
    | s t => obtain ⟨rfl, ht⟩ := hw; exact ⟨_, rfl, _, _, _, _, rfl, TyOf.str _, rfl, _, rfl, iteF k⟩
    | ts l => obtain ⟨r, rfl, hr0, hl0, hl1⟩ := hw; exact ⟨_, rfl, _, _, _, _, rfl, TyOf.tup hr0, rfl, _, rfl, iteF k⟩
    | ti z => obtain ⟨r, rfl, hr0⟩ := hw; exact ⟨_, rfl, _, _, _, _, rfl, TyOf.tup hr0, rfl, _, rfl, iteF k⟩
end
end K61

namespace K61
open PySem L2 DW
section
variable {P : Program} {w : World} {K : PySem.W.Frag} {mg : Str → Option Value} {base : Heap} {a : Adr}
theorem sc_is_rising : FnScope ["hands"] ["hands"] (defScope s_is_rising) := ⟨rfl, rfl, rfl, by decide +kernel, rfl, by decide +kernel, by decide +kernel⟩

theorem ok_is_rising (T : Txt K mg a) : FnOk P w K mg base CX0 true 1 a.f_is_rising a.d_is_rising ["hands"] (sp_is_rising) := by
  refine T.F_is_rising.ok sc_is_rising (fun vs H Q E h => ?_) (fun cdv A outer s H vs Q E hr h => ?_)
  · obtain ⟨r, l, rfl, _⟩ := h; rfl
  · obtain ⟨r, l, rfl, hr0, hl, k⟩ := h
    refine ⟨_, (pss_one (ps_ret (pe_callB (call_allK (K := K) rfl rfl) rfl T.n_all (by decide +kernel) (pa_cons (pe_comp (N := ["place", "hands"]) (cap := [none, some 0]) (by show CompScope (defScope s_is_rising) _ ["hands"] _ _; exact ⟨rfl, by decide +kernel, by decide +kernel, by decide +kernel, by decide +kernel, rfl, by decide +kernel⟩) rfl (pi_range2 rfl T.n_range (pa_cons pe_int (pa_cons (pe_callB (call_len_seqK (K := K) rfl) rfl T.n_len (by decide +kernel) (pa_cons (pv 0) pa_nil)) pa_nil))) (fun C s H fp => ⟨(pg_name (i := 0) (by show (["place", "hands"] : List Str).Nodup; decide +kernel) rfl (Or.inl rfl) (.inr rfl)), pf_none, (pe_cmpR op_lt_str (pe_ix (ix_tupK (K := K) rfl) (pv 1) (pe_op op_sub (pv 0) pe_int) (fun _ _ => rfl)) (pe_ix (ix_tupK (K := K) rfl) (pv 1) (pv 0) (fun _ _ => rfl)) (nomark _))⟩)) pa_nil)))), ?_⟩
    refine ⟨_, rfl, r, _, rfl, .inr (SqT.of hr0), _, _, rfl, ⟨by decide, by decide, by omega, by rw [List.length_map]; omega⟩, ?_⟩
    rw [List.length_map]
    have en : ((l.length : Int) - 1).toNat = l.length - 1 := by omega
    rw [en]
    refine comp_pure (seq_range 1 (l.length - 1) H) (fun _ => true) (ltF l) ?_ (fun x _ H' _ R hR => hR H' (Same.refl _)) ?_ (fun D H1 s1 hD0 hD => ?_)
    · rw [List.length_map, List.length_range]
      omega
    · intro x hx _ H' sm R hR
      obtain ⟨j, hj, rfl⟩ := List.mem_map.mp hx
      have hj2 := List.mem_range.mp hj
      have A1 : atI (l.map V.str) (1 + (j : Int) - 1) = some (.str (l.getD ((1 + (j : Int)) - 1).toNat "")) := by rw [show ((1 + (j : Int)) - 1).toNat = j by omega, show (1 + (j : Int) - 1) = ((j : Nat) : Int) by omega]; exact getD_at (by omega)
      have A2 : atI (l.map V.str) (1 + (j : Int)) = some (.str (l.getD (1 + (j : Int)).toNat "")) := by rw [show (1 + (j : Int)).toNat = j + 1 by omega, show (1 + (j : Int)) = ((j + 1 : Nat) : Int) by omega]; exact getD_at (by omega)
      exact ⟨_, rfl, _, rfl, _, _, rfl, rfl, r, _, _, _, rfl, rfl, SqT.of (sm _ _ hr0), A1, _, rfl, _, rfl, r, _, _, _, rfl, rfl, SqT.of (sm _ _ hr0), A2, _, _, rfl, rfl, hR H' (Same.refl _)⟩
    rw [List.filter_eq_self.mpr (fun _ _ => rfl), ltF_all] at hD
    refine ⟨D, _, rfl, SqL.of hD, ?_⟩
    rw [List.all_map]
    have ea := rise_all l
    have eb : ((List.range (l.length - 1)).all (id ∘ fun j => decide ((l.getD j "").cps.toList < (l.getD (j + 1) "").cps.toList))) = riseS l := ea
    rw [eb]
    exact k H1 s1
end
end K61

namespace K61
open PySem L2 DW
section
variable {P : Program} {w : World} {K : PySem.W.Frag} {mg : Str → Option Value} {base : Heap} {a : Adr}
theorem sc_law_cell_at : FnScope ["_law_script", "_law_k"] ["_law_script", "_law_k"] (defScope s_law_cell_at) := ⟨rfl, rfl, rfl, by decide +kernel, rfl, by decide +kernel, by decide +kernel⟩

theorem ok_law_cell_at (T : Txt K mg a) : FnOk P w K mg base CX0 true 1 a.f_law_cell_at a.d_law_cell_at ["_law_script", "_law_k"] (sp_law_cell_at K) := by
  refine T.F_law_cell_at.ok sc_law_cell_at (fun vs H Q E h => ?_) (fun cdv A outer s H vs Q E hr h => ?_)
  · obtain ⟨p, ns, i, rfl, _⟩ := h; rfl
  · obtain ⟨p, ns, i, rfl, hS, h0, k⟩ := h
    refine ⟨_, (pss_cons (ps_if (pt_cmpR op_lt (pv 1) (pe_callB (call_len_seqK (K := K) rfl) rfl T.n_len (by decide +kernel) (pa_cons (pv 0) pa_nil)) (nomark _)) (pss_one (ps_ret (pe_ix (ix_listK (K := K) rfl) (pv 0) (pv 1) (fun _ _ => rfl)))) pss_nil)
      (pss_one (ps_ret pe_int))), ?_⟩
    refine ⟨_, rfl, _, rfl, p, _, rfl, .inl hS, _, _, rfl, rfl, _, rfl, ?_⟩
    refine ite2 (fun e1 => ?_) (fun e1 => k 0)
    have e1' := of_decide_eq_true e1
    rw [List.length_map] at e1'
    obtain ⟨t, _, et⟩ := atI_ints h0 e1'
    exact ⟨_, rfl, _, rfl, p, _, _, _, rfl, rfl, hS, et, k t⟩
end
end K61

namespace K61
open PySem L2 DW
section
variable {P : Program} {w : World} {K : PySem.W.Frag} {mg : Str → Option Value} {base : Heap} {a : Adr}
theorem sc_law_mixed : FnScope ["_law_cell", "_law_k", "_law_many", "_law_made"] ["_law_cell", "_law_k", "_law_many"] (defScope s_law_mixed) := ⟨rfl, rfl, rfl, by decide +kernel, rfl, by decide +kernel, by decide +kernel⟩

theorem ok_law_mixed (T : Txt K mg a) : FnOk P w K mg base CX0 true 1 a.f_law_mixed a.d_law_mixed ["_law_cell", "_law_k", "_law_many"] (sp_law_mixed) := by
  refine T.F_law_mixed.ok sc_law_mixed (fun vs H Q E h => ?_) (fun cdv A outer s H vs Q E hr h => ?_)
  · obtain ⟨c, k, m, rfl, _⟩ := h; rfl
  · obtain ⟨c, q, m, rfl, q0, q1, hm, k⟩ := h
    refine ⟨_, (pss_cons (ps_set (i := 3) sc_law_mixed.nd rfl (Or.inl rfl) (pe_op op_mod (pe_op op_add (pe_op op_add (pe_op op_add (pe_op op_mul (pv 0) pe_int) (pe_op op_mul (pe_op op_mul pe_int (pv 1)) (pv 1))) (pe_op op_mul pe_int (pv 1))) pe_int) pe_int))
      (pss_one (ps_ret (pe_op op_mod (pe_op op_mod (pe_op op_mul (pv 3) (pe_op op_add (pe_op op_add (pv 3) (pe_op op_mul pe_int (pv 1))) pe_int)) pe_int) (pv 2))))), ?_⟩
    refine ⟨_, rfl, _, _, rfl, rfl, .inr ⟨by decide, by decide⟩, _, rfl, _, _, rfl, rfl, .inl ⟨by decide, by decide⟩, _, rfl, _, _, rfl, rfl, .inr ⟨by omega, by omega⟩, _, _, rfl, rfl, _, rfl, _, _, rfl, rfl, .inl ⟨by decide, by decide⟩, _, _, rfl, rfl, _, _, rfl, rfl, _, _, rfl, rfl, (by show (0 : Int) < 2147483647; decide), ?_⟩
    generalize (c * 48271 + 7919 * q * q + 31 * q + 5) = big
    have b0 : 0 ≤ big % 2147483647 := Int.emod_nonneg _ (by decide)
    have b1 : big % 2147483647 < 2147483647 := Int.emod_lt_of_pos _ (by decide)
    refine ⟨_, rfl, _, rfl, _, rfl, _, _, rfl, rfl, .inl ⟨by decide, by decide⟩, _, _, rfl, rfl, _, _, rfl, rfl, _, _, rfl, rfl, .inl ⟨by omega, by omega⟩, _, _, rfl, rfl, (by show (0 : Int) < 1000000007; decide), _, rfl, _, _, rfl, rfl, hm, ?_⟩
    exact k _ (Int.emod_nonneg _ (by omega)) (Int.emod_lt_of_pos _ hm)
end
end K61

namespace K61
open PySem L2 DW
section
variable {P : Program} {w : World} {K : PySem.W.Frag} {mg : Str → Option Value} {base : Heap} {a : Adr}
theorem sc_law_name_by : FnScope ["_law_k", "_law_cell", "_law_one", "_law_other", "_law_place"] ["_law_k", "_law_cell"] (defScope s_law_name_by) := ⟨rfl, rfl, rfl, by decide +kernel, rfl, by decide +kernel, by decide +kernel⟩

theorem ok_law_name_by (T : Txt K mg a) : FnOk P w K mg base CX0 true 1 a.f_law_name_by a.d_law_name_by ["_law_k", "_law_cell"] (sp_law_name_by) := by
  refine T.F_law_name_by.ok sc_law_name_by (fun vs H Q E h => ?_) (fun cdv A outer s H vs Q E hr h => ?_)
  · obtain ⟨n, c, rfl, _⟩ := h; rfl
  · obtain ⟨n, c, rfl, hn, k⟩ := h
    refine ⟨_, (pss_cons (ps_set (i := 2) sc_law_name_by.nd rfl (Or.inl rfl) (pe_ix ix_str pe_str (pe_op op_mod (pv 0) pe_int) (fun _ _ => rfl)))
      (pss_cons (ps_set (i := 3) sc_law_name_by.nd rfl (Or.inl rfl) (pe_ix ix_str pe_str (pe_op op_mod (pe_op op_fdiv (pv 0) pe_int) pe_int) (fun _ _ => rfl)))
      (pss_cons (ps_if (pt_cmpR op_eq (pe_op op_mod (pv 1) pe_int) pe_int (nomark _)) (pss_one (ps_ret (pe_op op_add_str (pe_op op_add_str (pe_ix (ix_listK (K := K) rfl) (pe_lst (pa_lits [.str "t", .str "ab", .str "x9a"] (by decide +kernel))) (pe_op op_mod (pe_op op_fdiv (pv 1) pe_int) pe_int) (fun _ _ => rfl)) (pv 2)) (pv 3)))) pss_nil)
      (pss_cons (ps_set (i := 4) sc_law_name_by.nd rfl (Or.inl rfl) (pe_op op_mod (pe_op op_fdiv (pv 1) pe_int) pe_int))
      (pss_one (ps_ret (pe_op op_add_str (pe_op op_add_str (pe_op op_add_str (pe_op op_mul_str pe_str (pv 4)) (pv 2)) (pv 3)) (pe_op op_mul_str pe_str (pe_op op_sub pe_int (pv 4)))))))))), ?_⟩
    have e0 : atI (Str.ofString "bcdefghijklmnopqrstuvwxy").cps.toList ((n : Int) % 24) = some (98 + n) := by
      rw [show ((n : Int) % 24) = ((n : Nat) : Int) by omega]
      exact atI_nat (s24 ⟨n, hn⟩)
    refine ⟨_, rfl, _, _, rfl, rfl, (by show (0 : Int) < 24; decide), _, _, _, rfl, rfl, by decide +kernel, e0, ?_⟩
    have e1 : atI (Str.ofString "a0z").cps.toList ((n : Int) / 24 % 3) = some 97 := by
      rw [show ((n : Int) / 24 % 3) = 0 by omega]
      decide +kernel
    refine ⟨_, rfl, _, _, rfl, rfl, ⟨by decide, by decide⟩, _, _, rfl, rfl, (by show (0 : Int) < 3; decide), _, _, _, rfl, rfl, by decide +kernel, e1, ?_⟩
    refine ⟨_, rfl, _, _, rfl, rfl, (by show (0 : Int) < 2; decide), rfl, _, rfl, ?_⟩
    rw [vint]
    by_cases hc : c % 2 = 1
    · rw [decide_eq_true hc]
      refine iteT ?_
      have a0 : 0 ≤ c / 2 % 3 := Int.emod_nonneg _ (by decide)
      have a1 : c / 2 % 3 < 3 := Int.emod_lt_of_pos _ (by decide)
      refine ⟨(by show 3 ≤ sizeLine; decide), fun l hl => ⟨_, rfl, _, _, rfl, rfl, ⟨by decide, by decide⟩, _, _, rfl, rfl, (by show (0 : Int) < 3; decide), l, _, _, _, rfl, rfl, SqL.of upd_same, t3_at a0 a1, _, rfl, _, _, rfl, rfl, sz2 3 1 (t3_len _) (one1 _), _, rfl, _, _, rfl, rfl, sz2 4 1 (ap2 3 1 (t3_len _) (one1 _)) (one1 _), ?_⟩⟩
      have q := k _ (same_upd (o := .lst [.str "t", .str "ab", .str "x9a"]) hl)
      unfold nmT at q
      rw [if_pos hc] at q
      exact q
    · rw [decide_eq_false hc]
      refine iteF ?_
      have a0 : 0 ≤ c / 2 % 7 := Int.emod_nonneg _ (by decide)
      have a1 : c / 2 % 7 < 7 := Int.emod_lt_of_pos _ (by decide)
      have m1 := mul7 (i := c / 2 % 7) a0 (by omega)
      have m2 := mul7 (i := 6 - c / 2 % 7) (by omega) (by omega)
      refine ⟨_, rfl, _, _, rfl, rfl, ⟨by decide, by decide⟩, _, _, rfl, rfl, (by show (0 : Int) < 7; decide), ?_⟩
      refine ⟨_, rfl, _, _, rfl, rfl, m1.1, _, rfl, _, _, rfl, rfl, sz2 6 1 m1.2 (one1 _), _, rfl, _, _, rfl, rfl, sz2 7 1 (ap2 6 1 m1.2 (one1 _)) (one1 _), _, rfl, _, _, rfl, rfl, _, _, rfl, rfl, m2.1, _, _, rfl, rfl, sz2 8 6 (ap2 7 1 (ap2 6 1 m1.2 (one1 _)) (one1 _)) m2.2, ?_⟩
      have q := k H (Same.refl _)
      unfold nmT at q
      rw [if_neg hc] at q
      exact q
end
end K61

namespace K61
open PySem L2 DW
section
variable {P : Program} {w : World} {K : PySem.W.Frag} {mg : Str → Option Value} {base : Heap} {a : Adr}
theorem sc_law_key : FnScope ["_law_seed", "_law_names", "_law_asker", "_law_number", "_law_turn", "_law_key_here"] ["_law_seed", "_law_names", "_law_asker", "_law_number", "_law_turn"] (defScope s_law_key) := ⟨rfl, rfl, rfl, by decide +kernel, rfl, by decide +kernel, by decide +kernel⟩

theorem ok_law_key (T : Txt K mg a) : FnOk P w K mg base CX0 true 1 a.f_law_key a.d_law_key ["_law_seed", "_law_names", "_law_asker", "_law_number", "_law_turn"] (sp_law_key) := by
  refine T.F_law_key.ok sc_law_key (fun vs H Q E h => ?_) (fun cdv A outer s H vs Q E hr h => ?_)
  · obtain ⟨L, ns, a, s, n, t, rfl, _⟩ := h; rfl
  · obtain ⟨L, ns, a0, sd, n, t, rfl, hL, hN, ha, k⟩ := h
    refine ⟨_, (pss_cons (ps_set (i := 5) sc_law_key.nd rfl (Or.inl rfl) (pe_op op_add (pv 0) (pe_op op_mul pe_int (pe_bm PySem.F.plainAttrs_list PySem.F.slot_list_index PySem.F.type_list_index mt_indexS (pv 1) (pa_cons (pv 2) pa_nil)))))
      (pss_one (ps_ret (pe_op op_add (pe_op op_add (pv 5) (pe_op op_mul pe_int (pe_op op_mod (pv 3) pe_int))) (pe_op op_mul pe_int (pe_op op_mod (pv 4) pe_int)))))), ?_⟩
    refine ⟨_, rfl, _, rfl, .inl ⟨rfl, _, SqL.of hL⟩, _, rfl, L, ns, a0, rfl, rfl, SqL.of hL, ha, fun j _ _ => ⟨_, _, rfl, rfl, .inl ⟨by decide, by decide⟩, _, _, rfl, rfl, ?_⟩⟩
    exact ⟨_, rfl, _, rfl, _, _, rfl, rfl, (by show (0 : Int) < 100003; decide), _, _, rfl, rfl, .inl ⟨by decide, by decide⟩, _, _, rfl, rfl, _, rfl, _, _, rfl, rfl, (by show (0 : Int) < 100019; decide), _, _, rfl, rfl, .inl ⟨by decide, by decide⟩, _, _, rfl, rfl, k _⟩
end
end K61

namespace K61
open PySem L2 DW
section
variable {P : Program} {w : World} {K : PySem.W.Frag} {mg : Str → Option Value} {base : Heap} {a : Adr}
theorem sc_law_is_name : FnScope ["_law_text", "_law_figures"] ["_law_text"] (defScope s_law_is_name) := ⟨rfl, rfl, rfl, by decide +kernel, rfl, by decide +kernel, by decide +kernel⟩

theorem ok_law_is_name (T : Txt K mg a) : FnOk P w K mg base CX0 true 1 a.f_law_is_name a.d_law_is_name ["_law_text"] (sp_is_called) := by
  refine T.F_law_is_name.ok sc_law_is_name (fun vs H Q E h => ?_) (fun cdv A outer s H vs Q E hr h => ?_)
  · obtain ⟨v, w, rfl, _⟩ := h; rfl
  · obtain ⟨v, w, rfl, hw, k⟩ := h
    refine ⟨_, (pss_cons (ps_set (i := 1) sc_law_is_name.nd rfl (Or.inr rfl) pe_str)
      (pss_cons (ps_if (PW.pt (pw_or (pt_not (pt_val (pe_callB (call_isinstK (K := K) rfl) rfl T.n_isinstance (by decide +kernel) (pa_cons (pv 0) (pa_cons (pe_bltn (v := .ty "str") rfl T.n_str (by decide +kernel) rfl) pa_nil))))) (pw_or (pt_cmpR op_eq (pv 0) pe_str (nomark _)) (pw_or (pt_cmpR op_gt (pe_callB call_len_str rfl T.n_len (by decide +kernel) (pa_cons (pv 0) pa_nil)) pe_int (nomark _)) (pw_or1 (pt_cmpR op_in_chr (pe_ix ix_str (pv 0) pe_int (fun _ _ => rfl)) (pv 1) (by with_unfolding_all rfl))))))) (pss_one (ps_ret pe_bl)) pss_nil)
      (pss_one (ps_ret (pe_callB (call_allK (K := K) rfl rfl) rfl T.n_all (by decide +kernel) (pa_cons (pe_comp (N := ["_law_sign", "_law_figures"]) (cap := [none, some 1]) (by show CompScope (defScope s_law_is_name) _ ["_law_text", "_law_figures"] _ _; exact ⟨rfl, by decide +kernel, by decide +kernel, by decide +kernel, by decide +kernel, rfl, by decide +kernel⟩) rfl (pi_str (pv 0)) (fun C s H fp => ⟨(pg_name (i := 0) (by show (["_law_sign", "_law_figures"] : List Str).Nodup; decide +kernel) rfl (Or.inl rfl) (.inr rfl)), pf_none, (pe_cmpR op_in_chr (pv 0) (pe_op op_add_str pe_str (pv 1)) (by with_unfolding_all rfl))⟩)) pa_nil)))))), ?_⟩
    cases w with
    | n => cases hw; exact ⟨_, rfl, _, _, _, _, rfl, TyOf.non, rfl, _, rfl, ite2 (fun _ => iteT (k H (Same.refl _))) (fun z => absurd rfl z)⟩
    | b x => cases hw; exact ⟨_, rfl, _, _, _, _, rfl, TyOf.bl _, rfl, _, rfl, ite2 (fun _ => iteT (k H (Same.refl _))) (fun z => absurd rfl z)⟩
    | i z => cases hw; exact ⟨_, rfl, _, _, _, _, rfl, TyOf.int _, rfl, _, rfl, ite2 (fun _ => iteT (k H (Same.refl _))) (fun z => absurd rfl z)⟩
    | ts l => obtain ⟨r, rfl, hr0, _⟩ := hw; exact ⟨_, rfl, _, _, _, _, rfl, TyOf.tup hr0, rfl, _, rfl, ite2 (fun _ => iteT (k H (Same.refl _))) (fun z => absurd rfl z)⟩
    | ti z => obtain ⟨r, rfl, hr0⟩ := hw; exact ⟨_, rfl, _, _, _, _, rfl, TyOf.tup hr0, rfl, _, rfl, ite2 (fun _ => iteT (k H (Same.refl _))) (fun z => absurd rfl z)⟩
    | s t =>
      obtain ⟨rfl, ht⟩ := hw
      refine ⟨_, rfl, _, _, _, _, rfl, TyOf.str _, rfl, _, rfl, ite2 (fun z => absurd z (by decide)) (fun _ => ?_)⟩
      have hz : t.length ≤ sizeLine := Nat.le_of_lt (Nat.lt_of_le_of_lt ht sz1000)
      have el : t.cps.toList.length = t.length := Array.length_toList
      have fin : ∀ b, b = nameB t.cps.toList → ∀ H', Same H H' → Q (.bl b) H' := fun b e => by rw [e]; exact k
      refine ⟨_, rfl, rfl, _, rfl, ?_⟩
      refine ite2 (fun h1 => iteT ?_) (fun h1 => ?_)
      · have e1 : t = "" := V.str.inj (of_decide_eq_true h1)
        exact fin _ (by rw [e1]; decide +kernel) H (Same.refl _)
      have h1' : ¬ t.cps.toList = [] := fun z => h1 (decide_eq_true (by
        have e : t = "" := by
          obtain ⟨⟨l⟩⟩ := t
          simp at z
          subst z
          decide +kernel
        rw [e]))
      refine ⟨_, rfl, t, rfl, hz, _, _, rfl, rfl, _, rfl, ?_⟩
      refine ite2 (fun h2 => iteT ?_) (fun h2 => ?_)
      · have h2' : (8 : Int) < t.length := of_decide_eq_true h2
        exact fin _ (nm_long (by omega)).symm H (Same.refl _)
      have h2' : ¬ ((8 : Int) < t.length) := fun z => h2 (decide_eq_true z)
      have hpos : 0 < t.cps.toList.length := List.length_pos_iff.mpr h1'
      obtain ⟨c0, e0⟩ : ∃ c, t.cps.toList[0]? = some c := ⟨t.cps.toList[0]'hpos, by simp [hpos]⟩
      refine ⟨_, rfl, t, 0, c0, rfl, rfl, hz, atI_nat e0, _, rfl, c0, _, rfl, rfl, _, rfl, ?_⟩
      refine ite2 (fun h3 => ?_) (fun h3 => ?_)
      · exact fin _ (nameB_fig e0 (of_decide_eq_true h3)).symm H (Same.refl _)
      have en := nameB_of (l := t.cps.toList) (by rw [el]; omega) e0 (fun z => h3 (decide_eq_true z))
      refine ⟨_, rfl, t, rfl, ?_⟩
      refine comp_pure (seq_str t H) (fun _ => true) (fun v => V.bl (match v with | .str y => decide (y.cps.toList.headD 0 ∈ GL) | _ => false)) ?_ ?_ ?_ ?_
      · rw [List.length_map, Array.length_toList]
        exact Nat.le_trans ht (by decide)
      · exact fun x _ H' _ R hR => hR H' (Same.refl _)
      · intro x hx _ H' _ R hR
        obtain ⟨c, _, rfl⟩ := List.mem_map.mp hx
        exact ⟨_, rfl, _, rfl, _, _, rfl, rfl, by decide +kernel, c, _, rfl, rfl, hR H' (Same.refl _)⟩
      intro D H1 s1 _ hD
      refine ⟨D, t.cps.toList.map fun c => decide (c ∈ GL), rfl, SqL.of ?_, ?_⟩
      · rw [hD, List.filter_eq_self.mpr (fun _ _ => rfl), List.map_map, List.map_map]
        rfl
      exact fin _ (by rw [List.all_map, en, GL_eq]; rfl) H1 s1
end
end K61

namespace K61
open PySem L2 DW
section
variable {P : Program} {w : World} {K : PySem.W.Frag} {mg : Str → Option Value} {base : Heap} {a : Adr}
theorem sc_law_whole : FnScope ["_law_found"] ["_law_found"] (defScope s_law_whole) := ⟨rfl, rfl, rfl, by decide +kernel, rfl, by decide +kernel, by decide +kernel⟩

theorem ok_law_whole (T : Txt K mg a) : FnOk P w K mg base CX0 true 1 a.f_law_whole a.d_law_whole ["_law_found"] (sp_is_number) := by
  refine T.F_law_whole.ok sc_law_whole (fun vs H Q E h => ?_) (fun cdv A outer s H vs Q E hr h => ?_)
  · obtain ⟨v, w, rfl, _⟩ := h; rfl
  · obtain ⟨v, w, rfl, hw, k⟩ := h
    refine ⟨_, (pss_one (ps_ret (pe_and (pe_callB (call_isinstK (K := K) rfl) rfl T.n_isinstance (by decide +kernel) (pa_cons (pv 0) (pa_cons (pe_bltn (v := .ty "int") rfl T.n_int (by decide +kernel) rfl) pa_nil))) (pe_one (pe_not (pe_callB (call_isinstK (K := K) rfl) rfl T.n_isinstance (by decide +kernel) (pa_cons (pv 0) (pa_cons (pe_bltn (v := .ty "bool") rfl T.n_bool (by decide +kernel) rfl) pa_nil)))))))), ?_⟩
    cases w with
    | n => cases hw; exact ⟨_, rfl, _, _, _, _, rfl, TyOf.non, rfl, _, rfl, iteF k⟩
    | b x => cases hw; exact ⟨_, rfl, _, _, _, _, rfl, TyOf.bl _, rfl, _, rfl, iteT ⟨_, rfl, _, _, _, _, rfl, TyOf.bl _, rfl, _, rfl, k⟩⟩
    | i z => cases hw; exact ⟨_, rfl, _, _, _, _, rfl, TyOf.int _, rfl, _, rfl, iteT ⟨_, rfl, _, _, _, _, rfl, TyOf.int _, rfl, _, rfl, k⟩⟩
    | s t => obtain ⟨rfl, ht⟩ := hw; exact ⟨_, rfl, _, _, _, _, rfl, TyOf.str _, rfl, _, rfl, iteF k⟩
    | ts l => obtain ⟨r, rfl, hr0, hl0, hl1⟩ := hw; exact ⟨_, rfl, _, _, _, _, rfl, TyOf.tup hr0, rfl, _, rfl, iteF k⟩
    | ti z => obtain ⟨r, rfl, hr0⟩ := hw; exact ⟨_, rfl, _, _, _, _, rfl, TyOf.tup hr0, rfl, _, rfl, iteF k⟩
end
end K61

namespace K61
open PySem L2 DW
section
variable {P : Program} {w : World} {K : PySem.W.Frag} {mg : Str → Option Value} {base : Heap} {a : Adr}
theorem sc_is_name : FnScope ["text"] ["text"] (defScope s_is_name) := ⟨rfl, rfl, rfl, by decide +kernel, rfl, by decide +kernel, by decide +kernel⟩

theorem ok_is_name (T : Txt K mg a) : FnOk P w K mg base CX0 true 2 a.f_is_name a.d_is_name ["text"] (sp_is_name) := by
  refine T.F_is_name.ok sc_is_name (fun vs H Q E h => ?_) (fun cdv A outer s H vs Q E hr h => ?_)
  · obtain ⟨t, rfl, _⟩ := h; rfl
  · obtain ⟨t, rfl, hl, k⟩ := h
    refine ⟨_, (pss_cons (ps_if (PW.pt (pw_or (pt_cmpR op_lt (pe_callB call_len_str rfl T.n_len (by decide +kernel) (pa_cons (pv 0) pa_nil)) pe_int (nomark _)) (pw_or1 (pt_cmpR op_gt (pe_callB call_len_str rfl T.n_len (by decide +kernel) (pa_cons (pv 0) pa_nil)) (pe_globI rfl T.g_NAME_SIGNS) (nomark _))))) (pss_one (ps_ret pe_bl)) pss_nil)
      (pss_one (ps_ret (pe_and (pe_cmpR op_in_chr (pe_ix ix_str (pv 0) pe_int (fun _ _ => rfl)) (pe_globS rfl T.g_LETTERS) (by with_unfolding_all rfl)) (pe_one (pe_call ((ok_is_made_of T).mono (by decide)) hr rfl T.m_is_made_of T.F_is_made_of.kp T.b_is_made_of .nil pass0 (pa_cons (pv 0) (pa_cons (pe_op op_add_str (pe_globS rfl T.g_LETTERS) (pe_globS rfl T.g_FIGURES)) pa_nil)))))))), ?_⟩
    have hz : t.length ≤ sizeLine := Nat.le_of_lt (Nat.lt_of_le_of_lt hl sz1000)
    have el : t.cps.toList.length = t.length := Array.length_toList
    refine ⟨_, rfl, t, rfl, hz, _, _, rfl, rfl, _, rfl, ?_⟩
    refine ite2 (fun h1 => ?_) (fun h1 => ?_)
    · refine iteT ?_
      have q := k H (Same.refl _)
      rw [nameB_short (by rw [el]; have := of_decide_eq_true h1; omega)] at q
      exact q
    · have h1' : ¬ ((t.length : Int) < 1) := fun z => h1 (decide_eq_true z)
      refine ⟨_, rfl, t, rfl, hz, _, _, rfl, rfl, _, rfl, ?_⟩
      refine ite2 (fun h2 => ?_) (fun h2 => ?_)
      · have q := k H (Same.refl _)
        rw [nameB_long (by rw [el]; have := of_decide_eq_true h2; omega)] at q
        exact q
      · have h2' : ¬ ((8 : Int) < t.length) := fun z => h2 (decide_eq_true z)
        obtain ⟨c0, e0⟩ : ∃ c, t.cps.toList[0]? = some c := ⟨t.cps.toList[0]'(by rw [el]; omega), by simp⟩
        refine ⟨_, rfl, t, 0, c0, rfl, rfl, hz, atI_nat e0, c0, _, rfl, rfl, _, rfl, ?_⟩
        have en := nameB_mid (l := t.cps.toList) (by rw [el]; omega) (by rw [el]; omega) e0
        refine ite2 (fun h3 => ?_) (fun h3 => ?_)
        · refine ⟨_, rfl, _, _, rfl, rfl, by decide +kernel, t, _, rfl, hl, fun H' sm => ?_⟩
          have q := k H' sm
          rw [en, show decide (c0 ∈ LT) = true from h3, Bool.true_and] at q
          exact q
        · have q := k H (Same.refl _)
          rw [en, show decide (c0 ∈ LT) = false from decide_eq_false (fun z => h3 (decide_eq_true z)), Bool.false_and] at q
          exact q
end
end K61

namespace K61
open PySem L2 DW
section
variable {P : Program} {w : World} {K : PySem.W.Frag} {mg : Str → Option Value} {base : Heap} {a : Adr}
theorem sc_is_from : FnScope ["value", "least"] ["value", "least"] (defScope s_is_from) := ⟨rfl, rfl, rfl, by decide +kernel, rfl, by decide +kernel, by decide +kernel⟩

theorem ok_is_from (T : Txt K mg a) : FnOk P w K mg base CX0 true 2 a.f_is_from a.d_is_from ["value", "least"] (sp_is_from) := by
  refine T.F_is_from.ok sc_is_from (fun vs H Q E h => ?_) (fun cdv A outer s H vs Q E hr h => ?_)
  · obtain ⟨v, w, j, rfl, _⟩ := h; rfl
  · obtain ⟨v, w, j, rfl, hw, k⟩ := h
    refine ⟨_, (pss_one (ps_ret (pe_and (pe_call ((ok_is_number T).mono (by decide)) hr rfl T.m_is_number T.F_is_number.kp T.b_is_number .nil pass0 (pa_cons (pv 0) pa_nil)) (pe_one (pe_cmpR op_ge (pv 0) (pv 1) (nomark _)))))), ?_⟩
    refine ⟨_, rfl, v, w, rfl, hw, _, rfl, ?_⟩
    cases w with
    | i z => cases hw; exact iteT ⟨_, rfl, _, rfl, _, _, rfl, rfl, k⟩
    | n => exact iteF k
    | b x => exact iteF k
    | s t => exact iteF k
    | ts l => exact iteF k
    | ti z => exact iteF k
end
end K61

namespace K61
open PySem L2 DW
section
variable {P : Program} {w : World} {K : PySem.W.Frag} {mg : Str → Option Value} {base : Heap} {a : Adr}
theorem sc_law_names_by : FnScope ["_law_cell", "_law_many"] ["_law_cell"] (defScope s_law_names_by) := ⟨rfl, rfl, rfl, by decide +kernel, rfl, by decide +kernel, by decide +kernel⟩

theorem ok_law_names_by (T : Txt K mg a) : FnOk P w K mg base CX0 true 2 a.f_law_names_by a.d_law_names_by ["_law_cell"] (sp_law_names_by) := by
  refine T.F_law_names_by.ok sc_law_names_by (fun vs H Q E h => ?_) (fun cdv A outer s H vs Q E hr h => ?_)
  · obtain ⟨c, rfl, _⟩ := h; rfl
  · obtain ⟨c, rfl, k⟩ := h
    refine ⟨_, (pss_cons (ps_set (i := 1) sc_law_names_by.nd rfl (Or.inl rfl) (pe_op op_add pe_int (pe_op op_mod (pv 0) pe_int)))
      (pss_cut (ps_if (pt_cmpR op_eq (pe_op op_mod (pe_op op_fdiv (pv 0) pe_int) pe_int) pe_int (nomark _)) (pss_one (ps_set (i := 1) sc_law_names_by.nd rfl (Or.inl rfl) (pe_op op_add pe_int (pe_op op_mod (pe_op op_fdiv (pv 0) pe_int) pe_int)))) pss_nil)
      (pss_one (ps_ret (pe_callB call_sortedT rfl T.n_sorted (by decide +kernel) (pa_cons (pe_comp (N := ["_law_k", "_law_cell"]) (cap := [none, some 0]) (by show CompScope (defScope s_law_names_by) _ ["_law_cell", "_law_many"] _ _; exact ⟨rfl, by decide +kernel, by decide +kernel, by decide +kernel, by decide +kernel, rfl, by decide +kernel⟩) rfl (pi_range1 rfl T.n_range (pa_cons (pv 1) pa_nil)) (fun C s H fp => ⟨(pg_name (i := 0) (by show (["_law_k", "_law_cell"] : List Str).Nodup; decide +kernel) rfl (Or.inl rfl) (.inr rfl)), pf_none, (pe_call ((ok_law_name_by T).mono (by decide)) hr rfl T.m_law_name_by T.F_law_name_by.kp T.b_law_name_by .nil pass0 (pa_cons (pv 0) (pa_cons (pe_op op_fdiv (pv 1) pe_int) pa_nil)))⟩)) pa_nil)))))), ?_⟩
    have b0 : 0 ≤ c % 6 := Int.emod_nonneg _ (by decide)
    have b1 : c % 6 < 6 := Int.emod_lt_of_pos _ (by decide)
    refine ⟨_, rfl, _, _, rfl, rfl, (by show (0 : Int) < 6; decide), _, _, rfl, rfl, ?_⟩
    refine ⟨fun σ H' => H' = H ∧ ∃ n : Int, 2 ≤ n ∧ n ≤ 22 ∧ σ = [some (.int c), some (.int n)], ?_, ?_⟩
    · refine ⟨_, rfl, _, _, rfl, rfl, ⟨by decide, by decide⟩, _, _, rfl, rfl, (by show (0 : Int) < 6; decide), rfl, _, rfl, ?_⟩
      refine ite2 (fun _ => ?_) (fun _ => ⟨rfl, _, by omega, by omega, rfl⟩)
      have d0 : 0 ≤ c / 36 % 2 := Int.emod_nonneg _ (by decide)
      have d1 : c / 36 % 2 < 2 := Int.emod_lt_of_pos _ (by decide)
      exact ⟨_, rfl, _, _, rfl, rfl, ⟨by decide, by decide⟩, _, _, rfl, rfl, (by show (0 : Int) < 2; decide), _, _, rfl, rfl, rfl, _, by omega, by omega, rfl⟩
    rintro _ H1 ⟨e1, n, n0, n1, rfl⟩
    obtain rfl := e1.symm
    refine ⟨_, rfl, n, rfl, by omega, by omega, ?_⟩
    refine comp_pure (seq_range 0 n.toNat H) (fun _ => true) (nmG (c / 6)) ?_ (fun x _ H' _ R hR => hR H' (Same.refl _)) ?_ (fun D H2 s2 hD0 hD => ?_)
    · rw [List.length_map, List.length_range]
      omega
    · intro x hx _ H' sm R hR
      obtain ⟨j, hj, rfl⟩ := List.mem_map.mp hx
      have hj2 := List.mem_range.mp hj
      refine ⟨_, rfl, _, rfl, _, _, rfl, rfl, ⟨by decide, by decide⟩, j, _, (by rw [show (0 + (j : Int)) = (j : Int) by omega]; rfl), by omega, fun H3 s3 => ?_⟩
      have q := hR H3 s3
      rw [show nmG ((c / 6)) (V.int (0 + (j : Int))) = .str (nmT ((c / 6)) j) from by show V.str (nmT ((c / 6)) (0 + (j : Int)).toNat) = _; rw [show (0 + (j : Int)).toNat = j by omega]] at q
      exact q
    rw [List.filter_eq_self.mpr (fun _ _ => rfl), nmG_vals] at hD
    refine ⟨D, _, rfl, hD, by rw [List.length_map, List.length_range]; omega, fun D2 ms hD2 hpm _ => ?_⟩
    exact k D2 ms _ (s2.trans (same_upd hD2)) upd_same (nms_gen (n := n.toNat) (by omega) (by omega) hpm)
end
end K61

namespace K61
open PySem L2 DW
section
variable {P : Program} {w : World} {K : PySem.W.Frag} {mg : Str → Option Value} {base : Heap} {a : Adr}
theorem sc_law_some : FnScope ["_law_names", "_law_asker", "_law_seed", "_law_k", "_law_least", "_law_others", "_law_found"] ["_law_names", "_law_asker", "_law_seed", "_law_k", "_law_least"] (defScope s_law_some) := ⟨rfl, rfl, rfl, by decide +kernel, rfl, by decide +kernel, by decide +kernel⟩

theorem ok_law_some (T : Txt K mg a) : FnOk P w K mg base CX0 true 2 a.f_law_some a.d_law_some ["_law_names", "_law_asker", "_law_seed", "_law_k", "_law_least"] (sp_law_some) := by
  refine T.F_law_some.ok sc_law_some (fun vs H Q E h => ?_) (fun cdv A outer s H vs Q E hr h => ?_)
  · obtain ⟨L, ns, a, s, k, m, rfl, _⟩ := h; rfl
  · obtain ⟨L, ns, a0, sd, kk, m, rfl, hL, hN, k0, k1, k⟩ := h
    refine ⟨_, (pss_cons (ps_set (i := 5) sc_law_some.nd rfl (Or.inr rfl) (pe_comp (N := ["_law_name", "_law_asker"]) (cap := [none, some 1]) (by show CompScope (defScope s_law_some) _ ["_law_names", "_law_asker", "_law_seed", "_law_k", "_law_least", "_law_others", "_law_found"] _ _; exact ⟨rfl, by decide +kernel, by decide +kernel, by decide +kernel, by decide +kernel, rfl, by decide +kernel⟩) rfl (pi_listK (K := K) rfl (pv 0)) (fun C s H fp => ⟨(pg_name (i := 0) (by show (["_law_name", "_law_asker"] : List Str).Nodup; decide +kernel) rfl (Or.inl rfl) (.inr rfl)), (pf_one (pt_cmpR op_ne (pv 0) (pv 1) (nomark _))), (pv 0)⟩)))
      (pss_cons (ps_setComp (i0 := 6) sc_law_some.nd rfl rfl (N := ["_law_at", "_law_others", "_law_seed", "_law_k"]) (cap := [none, some 5, some 2, some 3]) (by show CompScope (defScope s_law_some) _ ["_law_names", "_law_asker", "_law_seed", "_law_k", "_law_least", "_law_others", "_law_found"] _ _; exact ⟨rfl, by decide +kernel, by decide +kernel, by decide +kernel, by decide +kernel, rfl, by decide +kernel⟩) rfl (pi_range1 rfl T.n_range (pa_cons (pe_callB (call_len_seqK (K := K) rfl) rfl T.n_len (by decide +kernel) (pa_cons (pv 5) pa_nil)) pa_nil)) (fun C s H fp => ⟨(pg_name (i := 0) (by show (["_law_at", "_law_others", "_law_seed", "_law_k"] : List Str).Nodup; decide +kernel) rfl (Or.inl rfl) (.inr rfl)), (pf_one (pt_cmpR op_gt (pe_call ((ok_law_mixed T).mono (by decide)) hr rfl T.m_law_mixed T.F_law_mixed.kp T.b_law_mixed .nil pass0 (pa_cons (pv 2) (pa_cons (pe_op op_add (pe_op op_add (pv 3) pe_int) (pe_op op_mul pe_int (pv 0))) (pa_cons pe_int pa_nil)))) pe_int (nomark _))), (pe_ix (ix_listK (K := K) rfl) (pv 1) (pv 0) (fun _ _ => rfl))⟩))
      (pss_cut (ps_if (pt_cmpR op_lt (pe_callB (call_len_seqK (K := K) rfl) rfl T.n_len (by decide +kernel) (pa_cons (pv 6) pa_nil)) (pv 4) (nomark _)) (pss_one (ps_set (i := 6) sc_law_some.nd rfl (Or.inl rfl) (pv 5))) pss_nil)
      (pss_one (ps_ret (pe_callTy (call_tuple_ofK (K := K) rfl) rfl T.n_tuple (by decide +kernel) (pa_cons (pe_slice (sl_listK (K := K) rfl) (pv 6) po_none (po_some pe_int)) pa_nil))))))), ?_⟩
    refine ⟨_, rfl, L, rfl, ⟨_, SqL.of hL⟩, ?_⟩
    refine comp_pure (seq_list (K := K) (SqL.of hL)) (neF a0) (fun v => v) (by rw [List.length_map]; have := hN.hi; omega) ?_ (fun x _ _ H' _ R hR => ⟨_, rfl, hR H' (Same.refl _)⟩) (fun D H1 s1 hD0 hD => ?_)
    · intro x hx H' sm R hR
      obtain ⟨t, ht, rfl⟩ := List.mem_map.mp hx
      refine ⟨_, rfl, _, rfl, rfl, _, rfl, ?_⟩
      have q := hR H' (Same.refl _)
      rw [show neF a0 (V.str t) = (!decide (t = a0)) from rfl] at q
      rw [show (!decide (V.str t = V.str a0)) = (!decide (t = a0)) from congrArg _ (decide_eq_decide.mpr (by rw [V.str.injEq]))]
      exact q
    rw [fil_strs] at hD
    obtain ⟨os, hos⟩ : ∃ os : List Str, os = ns.filter fun t => !decide (t = a0) := ⟨_, rfl⟩
    rw [← hos] at hD
    have hon : ∀ t ∈ os, NM t = true := fun t ht => hN.nm t (by rw [hos] at ht; exact (List.mem_filter.mp ht).1)
    have hol : os.length ≤ 22 := Nat.le_trans (by rw [hos]; exact List.length_filter_le _ _) hN.hi
    refine ⟨_, rfl, D, _, rfl, .inl (SqL.of hD), (os.length : Int), by rw [List.length_map], by omega, by omega, ?_⟩
    refine comp_some (seq_range 0 _ H1) (fun v => ∃ t ∈ os, v = V.str t) (by rw [List.length_map, List.length_range]; omega) ?_ ?_ (fun D2 H2 ys s2 hD20 hD2 hG hyl => ?_)
    · intro x hx H' sm R hR
      obtain ⟨j, hj, rfl⟩ := List.mem_map.mp hx
      have hj2 := List.mem_range.mp hj
      exact ⟨_, rfl, _, rfl, _, _, rfl, rfl, _, rfl, _, _, rfl, rfl, .inl ⟨by decide, by decide⟩, _, _, rfl, rfl, _, _, _, rfl, by omega, by omega, by decide, fun v _ _ => ⟨_, _, rfl, rfl, _, rfl, hR _ _ (Same.refl _)⟩⟩
    · intro x hx H' sm R hR
      obtain ⟨j, hj, rfl⟩ := List.mem_map.mp hx
      have hj2 := List.mem_range.mp hj
      obtain ⟨t, ht, et⟩ := atI_strs (ts := os) (i := 0 + (j : Int)) (by omega) (by omega)
      exact ⟨_, rfl, _, rfl, D, _, _, _, rfl, rfl, SqL.of (sm _ _ hD), et, hR _ _ (Same.refl _) ⟨t, ht, rfl⟩⟩
    obtain ⟨fs, rfl, hfs⟩ := strs_of hG
    rw [List.length_map, List.length_map, List.length_range] at hyl
    refine ⟨fun σ H' => H' = H2 ∧ ∃ (F : Addr) (gs : List Str), H2 F = some (.lst (gs.map V.str)) ∧ gs.length ≤ 22 ∧ (∀ t ∈ gs, NM t = true) ∧ σ = [some (.ref L), some (.str a0), some (.int sd), some (.int kk), some (.int m), some (.ref D), some (.ref F)], ?_, ?_⟩
    · refine ⟨_, rfl, D2, _, rfl, .inl (SqL.of hD2), _, rfl, _, _, rfl, rfl, _, rfl, ?_⟩
      refine ite2 (fun _ => ⟨_, rfl, rfl, D, os, s2 _ _ hD, hol, hon, rfl⟩) (fun _ => ⟨rfl, D2, fs, hD2, by omega, fun t ht => hon t (hfs t ht), rfl⟩)
    rintro _ H3 ⟨e3, F, gs, hF, hgl, hgn, rfl⟩
    obtain rfl := e3.symm
    refine ⟨_, rfl, _, rfl, F, _, rfl, SqL.of hF, fun l hl => ?_⟩
    obtain ⟨l', el, hl1, hl2⟩ := cut_map V.str gs none (some 20)
    rw [el]
    refine ⟨l, _, rfl, .inl ⟨SqL.of upd_same, fun r hr0 => ?_⟩⟩
    exact k r l' _ (((s1.trans s2).trans (same_upd hl)).trans (same_upd hr0)) upd_same (by omega) (fun t ht => hgn t (hl1 t ht))
end
end K61

namespace K61
open PySem L2 DW
section
variable {P : Program} {w : World} {K : PySem.W.Frag} {mg : Str → Option Value} {base : Heap} {a : Adr}
theorem sc_law_answer_of : FnScope ["_law_seed", "_law_names", "_law_asker", "_law_number", "_law_turn", "_law_cell", "_law_others", "_law_hand", "_law_again", "_law_key_here"] ["_law_seed", "_law_names", "_law_asker", "_law_number", "_law_turn", "_law_cell"] (defScope s_law_answer_of) := ⟨rfl, rfl, rfl, by decide +kernel, rfl, by decide +kernel, by decide +kernel⟩

theorem ok_law_answer_of (T : Txt K mg a) : FnOk P w K mg base CX0 true 2 a.f_law_answer_of a.d_law_answer_of ["_law_seed", "_law_names", "_law_asker", "_law_number", "_law_turn", "_law_cell"] (DrawP (fun r => ∃ c : Int, r = [.int c])) := by
  refine T.F_law_answer_of.ok sc_law_answer_of (fun vs H Q E h => ?_) (fun cdv A outer s H vs Q E hr h => ?_)
  · obtain ⟨L, ns, a0, sd, n, t, r, rfl, ⟨c, rfl⟩, _⟩ := h; rfl
  · obtain ⟨L, ns, a0, sd, n, t, r, rfl, ⟨c, rfl⟩, hL, hN, ha, n0, n1, t0, t1, k⟩ := h
    refine ⟨_, (pss_cons (ps_setComp (i0 := 6) sc_law_answer_of.nd rfl rfl (N := ["_law_name", "_law_asker"]) (cap := [none, some 2]) (by show CompScope (defScope s_law_answer_of) _ ["_law_seed", "_law_names", "_law_asker", "_law_number", "_law_turn", "_law_cell", "_law_others", "_law_hand", "_law_again", "_law_key_here"] _ _; exact ⟨rfl, by decide +kernel, by decide +kernel, by decide +kernel, by decide +kernel, rfl, by decide +kernel⟩) rfl (pi_listK (K := K) rfl (pv 1)) (fun C s H fp => ⟨(pg_name (i := 0) (by show (["_law_name", "_law_asker"] : List Str).Nodup; decide +kernel) rfl (Or.inl rfl) (.inr rfl)), (pf_one (pt_cmpR op_ne (pv 0) (pv 1) (nomark _))), (pv 0)⟩))
      (pss_cons (ps_set (i := 7) sc_law_answer_of.nd rfl (Or.inl rfl) (pe_ix (ix_listK (K := K) rfl) (pv 6) (pe_call ((ok_law_mixed T).mono (by decide)) hr rfl T.m_law_mixed T.F_law_mixed.kp T.b_law_mixed .nil pass0 (pa_cons (pv 5) (pa_cons pe_int (pa_cons (pe_callB (call_len_seqK (K := K) rfl) rfl T.n_len (by decide +kernel) (pa_cons (pv 6) pa_nil)) pa_nil)))) (fun _ _ => rfl)))
      (pss_cons (ps_set (i := 8) sc_law_answer_of.nd rfl (Or.inl rfl) (pe_call ((ok_law_mixed T).mono (by decide)) hr rfl T.m_law_mixed T.F_law_mixed.kp T.b_law_mixed .nil pass0 (pa_cons (pv 5) (pa_cons pe_int (pa_cons pe_int pa_nil)))))
      (pss_cut (ps_if (pt_cmpR op_eq (pe_call ((ok_law_mixed T).mono (by decide)) hr rfl T.m_law_mixed T.F_law_mixed.kp T.b_law_mixed .nil pass0 (pa_cons (pv 5) (pa_cons pe_int (pa_cons pe_int pa_nil)))) pe_int (nomark _)) (pss_one (ps_set (i := 8) sc_law_answer_of.nd rfl (Or.inl rfl) (pe_op op_add (pe_op op_pow pe_int pe_int) (pv 8)))) pss_nil)
      (pss_cons (ps_set (i := 9) sc_law_answer_of.nd rfl (Or.inl rfl) (pe_op op_add (pe_op op_add (pe_call ((ok_law_key T).mono (by decide)) hr rfl T.m_law_key T.F_law_key.kp T.b_law_key .nil pass0 (pa_cons (pv 0) (pa_cons (pv 1) (pa_cons (pv 2) (pa_cons (pv 3) (pa_cons (pv 4) pa_nil)))))) (pe_op op_mul pe_int (pe_bm PySem.F.plainAttrs_list PySem.F.slot_list_index PySem.F.type_list_index mt_indexS (pv 1) (pa_cons (pv 7) pa_nil)))) (pe_op op_mul (pv 8) pe_int)))
      (pss_one (ps_ret (pe_tup (pa_cons pe_str (pa_cons (pv 2) (pa_cons (pv 3) (pa_cons (pv 4) (pa_cons (pv 7) (pa_cons (pv 8) (pa_cons (pe_ix (ix_listK (K := K) rfl) (pe_lst (pa_lits [.str "yes", .str "no", .str "yes"] (by decide +kernel))) (pe_call ((ok_law_mixed T).mono (by decide)) hr rfl T.m_law_mixed T.F_law_mixed.kp T.b_law_mixed .nil pass0 (pa_cons (pv 9) (pa_cons pe_int (pa_cons pe_int pa_nil)))) (fun _ _ => rfl)) pa_nil))))))))))))))), ?_⟩
    have hna := hN.nm a0 ha
    refine ⟨_, rfl, L, rfl, ⟨_, SqL.of hL⟩, ?_⟩
    refine comp_pure (seq_list (K := K) (SqL.of hL)) (neF a0) (fun v => v) (by rw [List.length_map]; have := hN.hi; omega) ?_ (fun x _ _ H' _ R hR => ⟨_, rfl, hR H' (Same.refl _)⟩) (fun D H1 s1 hD0 hD => ?_)
    · intro x hx H' sm R hR
      obtain ⟨t, ht, rfl⟩ := List.mem_map.mp hx
      refine ⟨_, rfl, _, rfl, rfl, _, rfl, ?_⟩
      have q := hR H' (Same.refl _)
      rw [show neF a0 (V.str t) = (!decide (t = a0)) from rfl] at q
      rw [show (!decide (V.str t = V.str a0)) = (!decide (t = a0)) from congrArg _ (decide_eq_decide.mpr (by rw [V.str.injEq]))]
      exact q
    rw [fil_strs] at hD
    obtain ⟨os, hos⟩ : ∃ os : List Str, os = ns.filter fun t => !decide (t = a0) := ⟨_, rfl⟩
    have hpos := some_not hN.lo hN.nd a0
    rw [← hos] at hD hpos
    have hon : ∀ t ∈ os, t ∈ ns := fun t ht => by rw [hos] at ht; exact (List.mem_filter.mp ht).1
    replace hL := s1 _ _ hL
    refine ⟨_, rfl, _, rfl, _, rfl, D, _, rfl, .inl (SqL.of hD), _, _, _, rfl, by decide, by decide, (by rw [List.length_map]; omega), fun v v0 v1 => ?_⟩
    rw [List.length_map] at v1
    obtain ⟨hd, hhd, et⟩ := atI_strs (ts := os) v0 v1
    have hnd := hN.nm hd (hon hd hhd)
    refine ⟨D, _, _, _, rfl, rfl, SqL.of hD, et, ?_⟩
    refine ⟨_, rfl, _, _, _, rfl, by decide, by decide, by decide, fun g g0 g1 => ?_⟩
    refine ⟨fun σ H' => H' = H1 ∧ ∃ g : Int, 0 ≤ g ∧ g ≤ 10 ^ 10 ∧ σ = [some (.int sd), some (.ref L), some (.str a0), some (.int n), some (.int t), some (.int c), some (.ref D), some (.str hd), some (.int g), none], ?_, ?_⟩
    · refine ⟨_, rfl, _, _, _, rfl, by decide, by decide, by decide, fun u _ _ => ⟨rfl, _, rfl, ite2 (fun _ => ?_) (fun _ => ⟨rfl, g, g0, by omega, rfl⟩)⟩⟩
      refine ⟨_, _, rfl, rfl, ⟨by decide, by decide, by decide⟩, _, rfl, _, _, rfl, rfl, rfl, _, ?_, ?_, rfl⟩
      · have : (10 : Int) ^ (9 : Int).toNat = 1000000000 := by decide
        rw [this]
        omega
      · have : (10 : Int) ^ (9 : Int).toNat = 1000000000 := by decide
        rw [this]
        omega
    rintro _ H2 ⟨e2, g, g0, g1, rfl⟩
    obtain rfl := e2.symm
    refine ⟨_, rfl, _, rfl, _, rfl, _, rfl, _, rfl, L, ns, a0, sd, n, t, rfl, hL, hN, ha, fun key => ⟨_, rfl, .inl ⟨rfl, _, SqL.of hL⟩, _, rfl, L, ns, hd, rfl, rfl, SqL.of hL, hon hd hhd, fun j _ _ => ⟨_, _, rfl, rfl, .inl ⟨by decide, by decide⟩, _, _, rfl, rfl, _, rfl, _, _, rfl, rfl, .inr ⟨by decide, by decide⟩, _, _, rfl, rfl, ?_⟩⟩⟩
    refine ⟨_, rfl, _, rfl, _, rfl, _, rfl, _, rfl, (by show 3 ≤ sizeLine; decide), fun l hl => ⟨_, rfl, _, _, _, rfl, by decide, by decide, by decide, fun y y0 y1 => ?_⟩⟩
    obtain ⟨yn, hyn, ey⟩ := atI_strs (ts := ["yes", "no", "yes"]) y0 y1
    refine ⟨l, _, _, _, rfl, rfl, SqL.of upd_same, ey, (by show 7 ≤ sizeLine; decide), fun p hp => ?_⟩
    have big : (10 : Int) ^ 10 ≤ 10 ^ 18 := by decide
    have hyo := kw_yn yn hyn
    refine k p _ _ ((s1.trans (same_upd hl)).trans (same_upd hp)) (letO_of (k0 := "answer") (r := [(.str hd, .s hd), (.int g, .i g), (.str yn, .s yn)]) upd_same kw_answer hna n0 n1 t0 t1 (fun q hq => ?_) (by show 3 ≤ 3; decide) (fun z => absurd z (by decide)))
    simp only [List.mem_cons, List.not_mem_nil, or_false] at hq
    rcases hq with rfl | rfl | rfl
    · exact ⟨wv_nm hnd, og_nm hnd⟩
    · exact ⟨rfl, by omega, by omega⟩
    · exact ⟨⟨rfl, by have := hyo.2; omega⟩, hyo⟩
end
end K61

namespace K61
open PySem L2 DW
section
variable {P : Program} {w : World} {K : PySem.W.Frag} {mg : Str → Option Value} {base : Heap} {a : Adr}
theorem sc_law_are_hands : FnScope ["_law_hands", "_law_asker", "_law_least"] ["_law_hands", "_law_asker", "_law_least"] (defScope s_law_are_hands) := ⟨rfl, rfl, rfl, by decide +kernel, rfl, by decide +kernel, by decide +kernel⟩

theorem ok_law_are_hands (T : Txt K mg a) : FnOk P w K mg base CX0 true 2 a.f_law_are_hands a.d_law_are_hands ["_law_hands", "_law_asker", "_law_least"] (sp_are_hands) := by
  refine T.F_law_are_hands.ok sc_law_are_hands (fun vs H Q E h => ?_) (fun cdv A outer s H vs Q E hr h => ?_)
  · obtain ⟨v, w, a0, m, rfl, _⟩ := h; rfl
  · obtain ⟨v, w, a0, m, rfl, hw, k⟩ := h
    refine ⟨_, (pss_cons (ps_if (PW.pt (pw_or (pt_not (pt_val (pe_callB (call_isinstK (K := K) rfl) rfl T.n_isinstance (by decide +kernel) (pa_cons (pv 0) (pa_cons (pe_bltn (v := .ty "tuple") rfl T.n_tuple (by decide +kernel) rfl) pa_nil))))) (pw_or (pt_cmpR op_lt (pe_callB (call_len_seqK (K := K) rfl) rfl T.n_len (by decide +kernel) (pa_cons (pv 0) pa_nil)) (pv 2) (nomark _)) (pw_or1 (pt_cmpR op_gt (pe_callB (call_len_seqK (K := K) rfl) rfl T.n_len (by decide +kernel) (pa_cons (pv 0) pa_nil)) pe_int (nomark _)))))) (pss_one (ps_ret pe_bl)) pss_nil)
      (pss_cons (ps_if (pt_not (pt_val (pe_callB (call_allK (K := K) rfl rfl) rfl T.n_all (by decide +kernel) (pa_cons (pe_comp (N := ["_law_hand", "_law_asker"]) (cap := [none, some 1]) (by show CompScope (defScope s_law_are_hands) _ ["_law_hands", "_law_asker", "_law_least"] _ _; exact ⟨rfl, by decide +kernel, by decide +kernel, by decide +kernel, by decide +kernel, rfl, by decide +kernel⟩) rfl (pi_tupK (K := K) rfl (pv 0)) (fun C s H fp => ⟨(pg_name (i := 0) (by show (["_law_hand", "_law_asker"] : List Str).Nodup; decide +kernel) rfl (Or.inl rfl) (.inr rfl)), pf_none, (pe_and (pe_call ((ok_law_is_name T).mono (by decide)) hr rfl T.m_law_is_name T.F_law_is_name.kp T.b_law_is_name .nil pass0 (pa_cons (pv 0) pa_nil)) (pe_one (pe_cmpR op_ne (pv 0) (pv 1) (nomark _))))⟩)) pa_nil)))) (pss_one (ps_ret pe_bl)) pss_nil)
      (pss_one (ps_ret (pe_callB (call_allK (K := K) rfl rfl) rfl T.n_all (by decide +kernel) (pa_cons (pe_comp (N := ["_law_k", "_law_hands"]) (cap := [none, some 0]) (by show CompScope (defScope s_law_are_hands) _ ["_law_hands", "_law_asker", "_law_least"] _ _; exact ⟨rfl, by decide +kernel, by decide +kernel, by decide +kernel, by decide +kernel, rfl, by decide +kernel⟩) rfl (pi_range2 rfl T.n_range (pa_cons pe_int (pa_cons (pe_callB (call_len_seqK (K := K) rfl) rfl T.n_len (by decide +kernel) (pa_cons (pv 0) pa_nil)) pa_nil))) (fun C s H fp => ⟨(pg_name (i := 0) (by show (["_law_k", "_law_hands"] : List Str).Nodup; decide +kernel) rfl (Or.inl rfl) (.inr rfl)), pf_none, (pe_cmpR op_lt_str (pe_ix (ix_tupK (K := K) rfl) (pv 1) (pe_op op_sub (pv 0) pe_int) (fun _ _ => rfl)) (pe_ix (ix_tupK (K := K) rfl) (pv 1) (pv 0) (fun _ _ => rfl)) (nomark _))⟩)) pa_nil)))))), ?_⟩
    cases w with
    | n => cases hw; exact ⟨_, rfl, _, _, _, _, rfl, TyOf.non, rfl, _, rfl, ite2 (fun _ => iteT (k H (Same.refl _))) (fun z => absurd rfl z)⟩
    | b x => cases hw; exact ⟨_, rfl, _, _, _, _, rfl, TyOf.bl _, rfl, _, rfl, ite2 (fun _ => iteT (k H (Same.refl _))) (fun z => absurd rfl z)⟩
    | i z => cases hw; exact ⟨_, rfl, _, _, _, _, rfl, TyOf.int _, rfl, _, rfl, ite2 (fun _ => iteT (k H (Same.refl _))) (fun z => absurd rfl z)⟩
    | s t => obtain ⟨rfl, ht⟩ := hw; exact ⟨_, rfl, _, _, _, _, rfl, TyOf.str _, rfl, _, rfl, ite2 (fun _ => iteT (k H (Same.refl _))) (fun z => absurd rfl z)⟩
    | ti z =>
      obtain ⟨r, rfl, hr0⟩ := hw
      refine ⟨_, rfl, _, _, _, _, rfl, TyOf.tup hr0, rfl, _, rfl, ite2 (fun z => absurd z (by decide)) (fun _ => ?_)⟩
      refine ⟨_, rfl, r, _, rfl, .inr (SqT.of hr0), _, rfl, _, _, rfl, rfl, _, rfl, ite2 (fun _ => iteT (k H (Same.refl _))) (fun _ => ?_)⟩
      refine ⟨_, rfl, r, _, rfl, .inr (SqT.of hr0), _, _, rfl, rfl, _, rfl, ite2 (fun _ => (k H (Same.refl _))) (fun _ => ?_)⟩
      refine ⟨_, rfl, r, rfl, ⟨_, SqT.of hr0⟩, ?_⟩
      refine comp_pure (seq_tup (SqT.of hr0)) (fun _ => true) (naF a0) (by show 1 ≤ 100000; decide) (fun x _ H' _ R hR => hR H' (Same.refl _)) ?_ (fun D H1 s1 hD0 hD => ?_)
      · intro x hx _ H' sm R hR
        rw [List.mem_singleton] at hx
        subst hx
        exact ⟨_, rfl, _, .i z, rfl, rfl, fun H2 s2 => ⟨_, rfl, iteF (hR H2 s2)⟩⟩
      refine ⟨D, [false], rfl, SqL.of hD, _, rfl, ite2 (fun _ => k H1 s1) (fun z => absurd rfl z)⟩
    | ts l =>
      obtain ⟨r, rfl, hr0, hl0, hl1⟩ := hw
      refine ⟨_, rfl, _, _, _, _, rfl, TyOf.tup hr0, rfl, _, rfl, ite2 (fun z => absurd z (by decide)) (fun _ => ?_)⟩
      refine ⟨_, rfl, r, _, rfl, .inr (SqT.of hr0), _, rfl, _, _, rfl, rfl, _, rfl, ?_⟩
      rw [List.length_map]
      have fin : ∀ b, b = handsW NM (.ts l) a0 m → ∀ H', Same H H' → Q (.bl b) H' := fun b e => by rw [e]; exact k
      refine ite2 (fun z => iteT ?_) (fun z => ?_)
      · have z' : (l.length : Int) < (m : Int) := of_decide_eq_true z
        exact fin _ (hands_few (by omega)) H (Same.refl _)
      have z1 : ¬ (l.length : Int) < (m : Int) := fun w => z (decide_eq_true w)
      refine ⟨_, rfl, r, _, rfl, .inr (SqT.of hr0), _, _, rfl, rfl, _, rfl, ?_⟩
      rw [List.length_map]
      refine ite2 (fun z => ?_) (fun z => ?_)
      · have z' : (20 : Int) < (l.length : Int) := of_decide_eq_true z
        exact fin _ (hands_many (by omega)) H (Same.refl _)
      have z2 : ¬ (20 : Int) < (l.length : Int) := fun w => z (decide_eq_true w)
      refine ⟨_, rfl, r, rfl, ⟨_, SqT.of hr0⟩, ?_⟩
      refine comp_pure (seq_tup (SqT.of hr0)) (fun _ => true) (naF a0) (by rw [List.length_map]; omega) (fun x _ H' _ R hR => hR H' (Same.refl _)) ?_ (fun D H1 s1 hD0 hD => ?_)
      · intro x hx _ H' sm R hR
        obtain ⟨t, ht, rfl⟩ := List.mem_map.mp hx
        refine ⟨_, rfl, _, .s t, rfl, ⟨rfl, hl1 t ht⟩, fun H2 s2 => ⟨_, rfl, ?_⟩⟩
        have hR2 := hR H2 s2
        show if callW NM (.s t) = true then _ else _
        rw [show callW NM (.s t) = nameB t.cps.toList from rfl]
        rw [show naF a0 (V.str t) = .bl (nameB t.cps.toList && !decide (t = a0)) from rfl] at hR2
        cases hc : nameB t.cps.toList with
        | false => rw [hc] at hR2; exact iteF hR2
        | true =>
          rw [hc, Bool.true_and] at hR2
          refine iteT ⟨_, rfl, _, rfl, rfl, ?_⟩
          rw [show decide (V.str t = V.str a0) = decide (t = a0) from decide_eq_decide.mpr (by rw [V.str.injEq])]
          exact hR2
      have hD' : H1 D = some (.lst ((l.map fun t => nameB t.cps.toList && !decide (t = a0)).map V.bl)) := by rw [hD, List.filter_eq_self.mpr (fun _ _ => rfl), List.map_map, List.map_map]; rfl
      refine ⟨D, _, rfl, SqL.of hD', ?_⟩
      rw [List.all_map, na_all]
      have hr1 := s1 _ _ hr0
      cases hn : (l.all NM && !decide (a0 ∈ l)) with
      | false => exact ⟨_, rfl, ite2 (fun _ => fin _ (hands_cf hn) H1 s1) (fun z => absurd rfl z)⟩
      | true =>
      refine ⟨_, rfl, iteF ?_⟩
      refine ⟨_, rfl, r, _, rfl, .inr (SqT.of hr1), _, _, rfl, ⟨by decide, by decide, by omega, by rw [List.length_map]; omega⟩, ?_⟩
      rw [List.length_map]
      have en : ((l.length : Int) - 1).toNat = l.length - 1 := by omega
      rw [en]
      refine comp_pure (seq_range 1 (l.length - 1) H1) (fun _ => true) (ltF l) ?_ (fun x _ H' _ R hR => hR H' (Same.refl _)) ?_ (fun D2 H2 s2 hD20 hD2 => ?_)
      · rw [List.length_map, List.length_range]
        omega
      · intro x hx _ H' sm R hR
        obtain ⟨j, hj, rfl⟩ := List.mem_map.mp hx
        have hj2 := List.mem_range.mp hj
        have A1 : atI (l.map V.str) (1 + (j : Int) - 1) = some (.str (l.getD ((1 + (j : Int)) - 1).toNat "")) := by rw [show ((1 + (j : Int)) - 1).toNat = j by omega, show (1 + (j : Int) - 1) = ((j : Nat) : Int) by omega]; exact getD_at (by omega)
        have A2 : atI (l.map V.str) (1 + (j : Int)) = some (.str (l.getD (1 + (j : Int)).toNat "")) := by rw [show (1 + (j : Int)).toNat = j + 1 by omega, show (1 + (j : Int)) = ((j + 1 : Nat) : Int) by omega]; exact getD_at (by omega)
        exact ⟨_, rfl, _, rfl, _, _, rfl, rfl, r, _, _, _, rfl, rfl, SqT.of (sm _ _ hr1), A1, _, rfl, _, rfl, r, _, _, _, rfl, rfl, SqT.of (sm _ _ hr1), A2, _, _, rfl, rfl, hR H' (Same.refl _)⟩
      rw [List.filter_eq_self.mpr (fun _ _ => rfl), ltF_all] at hD2
      refine ⟨D2, _, rfl, SqL.of hD2, ?_⟩
      rw [List.all_map]
      have eb : ((List.range (l.length - 1)).all (id ∘ fun j => decide ((l.getD j "").cps.toList < (l.getD (j + 1) "").cps.toList))) = riseS l := rise_all l
      rw [eb]
      exact fin _ (hands_cm (by omega) (by omega) hn).symm H2 (s1.trans s2)
end
end K61

namespace K61
open PySem L2 DW
section
variable {P : Program} {w : World} {K : PySem.W.Frag} {mg : Str → Option Value} {base : Heap} {a : Adr}
theorem sc_law_strange : FnScope ["_law_part", "_law_letter", "_law_names", "_law_cell", "_law_way", "_law_some_here", "_law_others", "_law_made"] ["_law_part", "_law_letter", "_law_names", "_law_cell"] (defScope s_law_strange) := ⟨rfl, rfl, rfl, by decide +kernel, rfl, by decide +kernel, by decide +kernel⟩

theorem ok_law_strange (T : Txt K mg a) : FnOk P w K mg base CX0 true 2 a.f_law_strange a.d_law_strange ["_law_part", "_law_letter", "_law_names", "_law_cell"] (sp_law_strange) := by
  refine T.F_law_strange.ok sc_law_strange (fun vs H Q E h => ?_) (fun cdv A outer s H vs Q E hr h => ?_)
  · obtain ⟨v, w, p, L, ps, ns, c, rfl, _⟩ := h; rfl
  · obtain ⟨v, w, p, L, ps, ns, c, rfl, hw, ho, hp, hL, hN, k⟩ := h
    refine ⟨_, (pss_cut (ps_set (i := 4) sc_law_strange.nd rfl (Or.inl rfl) (pe_callB (call_min2 rfl) rfl T.n_min (by decide +kernel) (pa_cons pe_int (pa_cons (pe_call ((ok_law_mixed T).mono (by decide)) hr rfl T.m_law_mixed T.F_law_mixed.kp T.b_law_mixed .nil pass0 (pa_cons (pv 3) (pa_cons pe_int (pa_cons pe_int pa_nil)))) pa_nil))))
      (pss_cut (ps_set (i := 5) sc_law_strange.nd rfl (Or.inl rfl) (pe_lst (pa_cons pe_non (pa_cons pe_bl (pa_cons pe_str (pa_cons (pe_un un_neg pe_int) (pa_cons pe_int (pa_cons pe_int (pa_cons (pe_op op_pow pe_int pe_int) (pa_cons (pe_ix (ix_tupK (K := K) rfl) (pv 1) pe_int (fun _ _ => rfl)) (pa_cons (pe_ix (ix_listK (K := K) rfl) (pv 2) pe_int (fun _ _ => rfl)) (pa_cons (pe_op op_add_str (pe_ix (ix_listK (K := K) rfl) (pv 2) pe_int (fun _ _ => rfl)) pe_str) (pa_cons (pe_tup pa_nil) (pa_cons (pv 0) pa_nil))))))))))))))
      (pss_cut (ps_if (PW.pt (pw_and (pt_cmpR op_eq (pv 4) pe_int (nomark _)) (pw_and1 (pt_val (pe_callB (call_isinstK (K := K) rfl) rfl T.n_isinstance (by decide +kernel) (pa_cons (pv 0) (pa_cons (pe_bltn (v := .ty "tuple") rfl T.n_tuple (by decide +kernel) rfl) pa_nil))))))) (pss_cons (ps_set (i := 6) sc_law_strange.nd rfl (Or.inl rfl) (pe_callTy (call_tuple_ofK (K := K) rfl) rfl T.n_tuple (by decide +kernel) (pa_cons (pe_comp (N := ["_law_name", "_law_letter"]) (cap := [none, some 1]) (by show CompScope (defScope s_law_strange) _ ["_law_part", "_law_letter", "_law_names", "_law_cell", "_law_way", "_law_some_here", "_law_others", "_law_made"] _ _; exact ⟨rfl, by decide +kernel, by decide +kernel, by decide +kernel, by decide +kernel, rfl, by decide +kernel⟩) rfl (pi_listK (K := K) rfl (pv 2)) (fun C s H fp => ⟨(pg_name (i := 0) (by show (["_law_name", "_law_letter"] : List Str).Nodup; decide +kernel) rfl (Or.inl rfl) (.inr rfl)), (pf_one (pt_cmpR op_ne (pv 0) (pe_ix (ix_tupK (K := K) rfl) (pv 1) pe_int (fun _ _ => rfl)) (nomark _))), (pv 0)⟩)) pa_nil)))
      (pss_cons (ps_set (i := 7) sc_law_strange.nd rfl (Or.inl rfl) (pe_lst (pa_cons (pe_revT (pv 0)) (pa_cons (pe_op op_catA (pv 0) (pe_slice sl_tupA (pv 0) po_none (po_some pe_int))) (pa_cons (pe_op op_catA (pv 0) (pe_tup (pa_cons (pe_ix (ix_tupK (K := K) rfl) (pv 1) pe_int (fun _ _ => rfl)) pa_nil))) (pa_cons (pe_slice sl_tupA (pv 0) (po_some pe_int) po_none) (pa_cons (pv 6) (pa_cons (pe_slice sl_tupA (pv 6) po_none (po_some pe_int)) pa_nil))))))))
      (pss_one (ps_asg (pe_ix (ix_listK (K := K) rfl) (pv 7) (pe_call ((ok_law_mixed T).mono (by decide)) hr rfl T.m_law_mixed T.F_law_mixed.kp T.b_law_mixed .nil pass0 (pa_cons (pv 3) (pa_cons pe_int (pa_cons pe_int pa_nil)))) (fun _ _ => rfl)) (pg_sub (pv 5) pe_int set_list))))) pss_nil)
      (pss_cut (ps_if (PW.pt (pw_and (pt_cmpR op_eq (pv 4) pe_int (nomark _)) (pw_and1 (pt_val (pe_callB (call_isinstK (K := K) rfl) rfl T.n_isinstance (by decide +kernel) (pa_cons (pv 0) (pa_cons (pe_bltn (v := .ty "str") rfl T.n_str (by decide +kernel) rfl) pa_nil))))))) (pss_one (ps_asg (pe_ix (ix_listK (K := K) rfl) (pe_lst (pa_cons (pe_bm0 PySem.F.plainAttrs_str PySem.F.slot_str_upper PySem.F.type_str_upper mt_upper (pv 0)) (pa_cons (pe_op op_add_str (pv 0) pe_str) (pa_cons (pe_slice sl_str (pv 0) po_none (po_some (pe_un un_neg pe_int))) (pa_cons (pe_op op_add_str pe_str (pv 0)) (pa_cons (pe_op op_add_str pe_str (pv 0)) pa_nil)))))) (pe_call ((ok_law_mixed T).mono (by decide)) hr rfl T.m_law_mixed T.F_law_mixed.kp T.b_law_mixed .nil pass0 (pa_cons (pv 3) (pa_cons pe_int (pa_cons pe_int pa_nil)))) (fun _ _ => rfl)) (pg_sub (pv 5) pe_int set_list))) pss_nil)
      (pss_cut (ps_if (PW.pt (pw_and (pt_cmpR op_eq (pv 4) pe_int (nomark _)) (pw_and1 (pt_val (pe_call ((ok_law_whole T).mono (by decide)) hr rfl T.m_law_whole T.F_law_whole.kp T.b_law_whole .nil pass0 (pa_cons (pv 0) pa_nil)))))) (pss_one (ps_asg (pe_ix (ix_listK (K := K) rfl) (pe_lst (pa_cons (pe_op op_sub (pe_un un_neg pe_int) (pv 0)) (pa_cons (pe_op op_add (pv 0) pe_int) (pa_cons pe_int (pa_cons (pe_callTy call_str_int rfl T.n_str (by decide +kernel) (pa_cons (pv 0) pa_nil)) (pa_cons (pe_tup (pa_cons (pv 0) pa_nil)) pa_nil)))))) (pe_call ((ok_law_mixed T).mono (by decide)) hr rfl T.m_law_mixed T.F_law_mixed.kp T.b_law_mixed .nil pass0 (pa_cons (pv 3) (pa_cons pe_int (pa_cons pe_int pa_nil)))) (fun _ _ => rfl)) (pg_sub (pv 5) pe_int set_list))) pss_nil)
      (pss_one (ps_ret (pe_ix (ix_listK (K := K) rfl) (pv 5) (pv 4) (fun _ _ => rfl))))))))), ?_⟩
    obtain ⟨a1, ha1⟩ := hp.one
    obtain ⟨v1, A1, w1, o1⟩ := hp.getO (j := 1) (by have := hp.lo; omega)
    rw [ha1] at w1 o1
    obtain ⟨rfl, _⟩ := w1
    have al1 : a1.length ≤ 8 := o1.2
    have hlo := hN.lo
    obtain ⟨b0, hb0, B0⟩ := atI_strs (ts := ns) (i := 0) (by decide) (by omega)
    have bl0 : b0.length ≤ 8 := (nm_al (hN.nm b0 hb0)).2
    refine ⟨fun σ H' => H' = H ∧ ∃ wy : Int, 0 ≤ wy ∧ wy < 12 ∧ σ = [some v, some (.ref p), some (.ref L), some (.int c), some (.int wy), none, none, none], ?_, ?_⟩
    · exact ⟨_, rfl, _, _, _, rfl, by decide, by decide, by decide, fun m m0 m1 => ⟨_, _, rfl, rfl, _, by split <;> omega, by split <;> omega, rfl⟩⟩
    rintro _ H9 ⟨e9, wy, wy0, wy1, rfl⟩
    obtain rfl := e9.symm
    have hp1 := hp.is.at_
    refine ⟨fun σ H' => ∃ S, H S = none ∧ Same H H' ∧ Mx H' S ∧ σ = [some v, some (.ref p), some (.ref L), some (.int c), some (.int wy), some (.ref S), none, none], ?_, ?_⟩
    · refine ⟨_, rfl, _, _, rfl, rfl, ⟨by decide, by decide, by decide⟩, _, rfl, p, _, _, _, rfl, rfl, SqT.of hp1, A1, _, rfl, L, _, _, _, rfl, rfl, SqL.of hL, B0, _, rfl, L, _, _, _, rfl, rfl, SqL.of hL, B0, _, _, rfl, rfl, sz2 8 1 bl0 (by decide +kernel), (by show 0 ≤ sizeLine; decide), fun e0 he0 => ?_⟩
      have u0 := same_upd (o := .tup []) he0
      have hw0 := hw.up u0
      have he1 : (upd H e0 (.tup [])) e0 = some (.tup []) := upd_same
      generalize upd H e0 (.tup []) = G at *
      refine ⟨_, rfl, (by show 12 ≤ sizeLine; decide), fun S hS => ?_⟩
      refine ⟨S, u0.free hS, u0.trans (same_upd hS), ⟨_, upd_same, rfl, fun x hx => ?_⟩, rfl⟩
      simp only [List.mem_cons, List.not_mem_nil, or_false] at hx
      rcases hx with rfl | rfl | rfl | rfl | rfl | rfl | rfl | rfl | rfl | rfl | rfl | rfl
      · exact ⟨.n, rfl⟩
      · exact ⟨.b true, rfl⟩
      · exact ⟨.s "", rfl, by decide +kernel⟩
      · exact ⟨.i (-1), rfl⟩
      · exact ⟨.i 0, rfl⟩
      · exact ⟨.i 1, rfl⟩
      · exact ⟨.i _, rfl⟩
      · exact ⟨.s a1, rfl, by omega⟩
      · exact ⟨.s b0, rfl, by omega⟩
      · exact ⟨.s _, rfl, Nat.le_trans (ap2 8 1 bl0 (by decide +kernel)) (by decide)⟩
      · exact ⟨.ts [], e0, rfl, same_upd hS _ _ he1, by decide, fun _ z => nomatch z⟩
      · exact ⟨w, hw0.up (same_upd hS)⟩
    rintro _ H1 ⟨S, hS0, s1, mx, rfl⟩
    refine ⟨fun σ H' => Same H H' ∧ Mx H' S ∧ ∃ y1 y2, σ = [some v, some (.ref p), some (.ref L), some (.int c), some (.int wy), some (.ref S), y1, y2], ?_, ?_⟩
    · refine ⟨_, rfl, rfl, _, rfl, ite2 (fun _ => ?_) (fun _ => iteF ⟨s1, mx, _, _, rfl⟩)⟩
      cases w with
      | n => exact ho.elim
      | b x => exact ho.elim
      | ti z => exact ho.elim
      | i z => cases hw; exact ⟨_, rfl, _, _, _, _, rfl, TyOf.int _, rfl, _, rfl, iteF ⟨s1, mx, _, _, rfl⟩⟩
      | s t => obtain ⟨rfl, _⟩ := hw; exact ⟨_, rfl, _, _, _, _, rfl, TyOf.str _, rfl, _, rfl, iteF ⟨s1, mx, _, _, rfl⟩⟩
      | ts l =>
      obtain ⟨r, rfl, hr0, _⟩ := hw
      have hr := s1 _ _ hr0
      have hll : l.length ≤ 22 := ho.1
      have hlt : ∀ t ∈ l, t.length ≤ 10000 := fun t ht => by have := ho.2 t ht; omega
      refine ⟨_, rfl, _, _, _, _, rfl, TyOf.tup hr, rfl, _, rfl, iteT ?_⟩
      have hL1 := s1 _ _ hL
      refine ⟨_, rfl, L, rfl, ⟨_, SqL.of hL1⟩, ?_⟩
      refine comp_pure (seq_list (K := K) (SqL.of hL1)) (neF a1) (fun v => v) (by rw [List.length_map]; have := hN.hi; omega) ?_ (fun x _ _ H' _ R hR => ⟨_, rfl, hR H' (Same.refl _)⟩) (fun D H2 s2 hD0 hD => ?_)
      · intro x hx H' sm R hR
        obtain ⟨t, ht, rfl⟩ := List.mem_map.mp hx
        refine ⟨_, rfl, _, rfl, p, _, _, _, rfl, rfl, SqT.of (sm _ _ (s1 _ _ hp1)), A1, rfl, _, rfl, ?_⟩
        have q := hR H' (Same.refl _)
        rw [show neF a1 (V.str t) = (!decide (t = a1)) from rfl] at q
        rw [show (!decide (V.str t = V.str a1)) = (!decide (t = a1)) from congrArg _ (decide_eq_decide.mpr (by rw [V.str.injEq]))]
        exact q
      rw [fil_strs] at hD
      obtain ⟨os, hos⟩ : ∃ os : List Str, os = ns.filter fun t => !decide (t = a1) := ⟨_, rfl⟩
      rw [← hos] at hD
      have hon : ∀ t ∈ os, t.length ≤ 10000 := fun t ht => by rw [hos] at ht; have := (nm_al (hN.nm t (List.mem_filter.mp ht).1)).2; omega
      have hol : os.length ≤ 22 := Nat.le_trans (by rw [hos]; exact List.length_filter_le _ _) hN.hi
      refine ⟨D, _, rfl, .inl ⟨SqL.of hD, fun O hO => ?_⟩⟩
      have s3 := s2.trans (same_upd (o := .tup (os.map V.str)) hO)
      have hOt : (upd H2 O (.tup (os.map V.str))) O = some (.tup (os.map V.str)) := upd_same
      generalize upd H2 O (.tup (os.map V.str)) = H3 at *
      have hr3 := s3 _ _ hr
      have S3 := s1.trans s3
      refine ⟨_, rfl, r, _, rfl, hr3, fun q1 hq1 => ?_⟩
      have u1 := same_upd (o := .tup (l.map V.str).reverse) hq1
      have T1 : TS (upd H3 q1 (.tup (l.map V.str).reverse)) q1 := ⟨l.reverse, by rw [upd_same, List.map_reverse], by rw [List.length_reverse]; omega, fun t ht => hlt t (List.mem_reverse.mp ht)⟩
      generalize upd H3 q1 (.tup (l.map V.str).reverse) = H4 at *
      refine ⟨_, rfl, _, rfl, _, rfl, r, _, rfl, u1 _ _ hr3, fun q2 H5 u2 hq2 => ?_⟩
      obtain ⟨l2, hq2', l2a, l2b⟩ := TS.cut hq2 (by omega) hlt
      have hr5 := u2 _ _ (u1 _ _ hr3)
      refine ⟨r, q2, _, _, rfl, rfl, hr5, hq2', (by rw [List.length_map, List.length_map]; exact Nat.le_trans (by omega : l.length + l2.length ≤ 1000) (by decide)), fun q3 H6 u3 hq3 => ?_⟩
      have T3 : TS H6 q3 := TS.cat hq3 (by omega) hlt l2a l2b
      have hr6 := u3 _ _ hr5
      have P6 := u3 _ _ (u2 _ _ (u1 _ _ (S3 _ _ hp1)))
      refine ⟨_, rfl, _, rfl, p, _, _, _, rfl, rfl, SqT.of P6, A1, (by show 1 ≤ sizeLine; decide), fun q4 hq4 => ?_⟩
      have u4 := same_upd (o := .tup [.str a1]) hq4
      have hq4' : (upd H6 q4 (.tup [.str a1])) q4 = some (.tup (([a1] : List Str).map V.str)) := upd_same
      generalize upd H6 q4 (.tup [.str a1]) = H7 at *
      refine ⟨r, q4, _, _, rfl, rfl, u4 _ _ hr6, hq4', (by rw [List.length_map]; exact Nat.le_trans (by show l.length + 1 ≤ 1000; omega) (by decide)), fun q5 H8 u5 hq5 => ?_⟩
      have T5 : TS H8 q5 := TS.cat hq5 (by omega) hlt (by show 1 ≤ 40; decide) (fun t ht => by rw [List.mem_singleton] at ht; subst ht; omega)
      have hr8 := u5 _ _ (u4 _ _ hr6)
      refine ⟨_, rfl, _, rfl, r, _, rfl, hr8, fun q6 H9 u6 hq6 => ?_⟩
      obtain ⟨l6, hq6', l6a, l6b⟩ := TS.cut hq6 (by omega) hlt
      have T6 : TS H9 q6 := ⟨l6, hq6', by omega, l6b⟩
      have O9 := u6 _ _ (u5 _ _ (u4 _ _ (u3 _ _ (u2 _ _ (u1 _ _ hOt)))))
      have TO : TS H9 O := ⟨os, O9, by omega, hon⟩
      refine ⟨_, rfl, _, rfl, _, rfl, O, _, rfl, O9, fun q7 HA u7 hq7 => ?_⟩
      obtain ⟨l7, hq7', l7a, l7b⟩ := TS.cut hq7 (by omega) hon
      have T7 : TS HA q7 := ⟨l7, hq7', by omega, l7b⟩
      refine ⟨(by show 6 ≤ sizeLine; decide), fun Md hMd => ?_⟩
      have u8 := same_upd (o := .lst [.ref q1, .ref q3, .ref q5, .ref q6, .ref O, .ref q7]) hMd
      have U := ((((((u1.trans u2).trans u3).trans u4).trans u5).trans u6).trans u7).trans u8
      have W1 := ((((((T1.up u2).up u3).up u4).up u5).up u6).up u7).up u8
      have W3 := ((((T3.up u4).up u5).up u6).up u7).up u8
      have W5 := ((T5.up u6).up u7).up u8
      have W6 := (T6.up u7).up u8
      have WO := (TO.up u7).up u8
      have W7 := T7.up u8
      have hMd' : (upd HA Md (.lst [.ref q1, .ref q3, .ref q5, .ref q6, .ref O, .ref q7])) Md = some (.lst [.ref q1, .ref q3, .ref q5, .ref q6, .ref O, .ref q7]) := upd_same
      generalize upd HA Md (.lst [.ref q1, .ref q3, .ref q5, .ref q6, .ref O, .ref q7]) = HB at *
      refine ⟨_, rfl, _, rfl, _, _, _, rfl, by decide, by decide, by decide, fun j j0 j1 => ?_⟩
      obtain ⟨x, hx, ex⟩ := atI_any (xs := [V.ref q1, .ref q3, .ref q5, .ref q6, .ref O, .ref q7]) j0 j1
      have hxw : ∃ w, WV HB w x := by
        simp only [List.mem_cons, List.not_mem_nil, or_false] at hx
        rcases hx with rfl | rfl | rfl | rfl | rfl | rfl
        · exact W1.wv
        · exact W3.wv
        · exact W5.wv
        · exact W6.wv
        · exact WO.wv
        · exact W7.wv
      have SB := S3.trans U
      obtain ⟨xs, hSx, x12, xw⟩ := mx.up (s3.trans U)
      refine ⟨Md, _, _, _, rfl, rfl, SqL.of hMd', ex, _, rfl, S, _, 11, 11, rfl, rfl, hSx, (by rw [x12]; rfl), ?_⟩
      exact ⟨fun b u e => by rw [upd_ne (ne_of_none e hS0)]; exact SB _ _ e, Mx.put hSx x12 xw hxw, _, _, rfl⟩
    clear mx s1
    rintro _ H1 ⟨s1, mx, y1, y2, rfl⟩
    refine ⟨fun σ H' => Same H H' ∧ Mx H' S ∧ ∃ y1 y2, σ = [some v, some (.ref p), some (.ref L), some (.int c), some (.int wy), some (.ref S), y1, y2], ?_, ?_⟩
    · refine ⟨_, rfl, rfl, _, rfl, ite2 (fun _ => ?_) (fun _ => iteF ⟨s1, mx, _, _, rfl⟩)⟩
      cases w with
      | n => exact ho.elim
      | b x => exact ho.elim
      | ti z => exact ho.elim
      | i z => cases hw; exact ⟨_, rfl, _, _, _, _, rfl, TyOf.int _, rfl, _, rfl, iteF ⟨s1, mx, _, _, rfl⟩⟩
      | ts l => obtain ⟨r, rfl, hr0, _⟩ := hw; exact ⟨_, rfl, _, _, _, _, rfl, TyOf.tup (s1 _ _ hr0), rfl, _, rfl, iteF ⟨s1, mx, _, _, rfl⟩⟩
      | s t =>
      obtain ⟨rfl, _⟩ := hw
      have t8 : t.length ≤ 8 := ho.2
      have hz : t.length ≤ sizeLine := Nat.le_trans t8 (by decide)
      have up8 := up_ok ho.1 ho.2
      have ng := neg_len t
      refine ⟨_, rfl, _, _, _, _, rfl, TyOf.str _, rfl, _, rfl, iteT ?_⟩
      refine ⟨_, rfl, rfl, t, rfl, rfl, Nat.le_trans up8 (by decide), _, rfl, _, _, rfl, rfl, sz2 8 1 t8 (by decide +kernel), _, rfl, _, rfl, _, rfl, t, rfl, hz, _, rfl, _, _, rfl, rfl, sz2 1 8 (by decide +kernel) t8, _, rfl, _, _, rfl, rfl, sz2 1 8 (by decide +kernel) t8, (by show 5 ≤ sizeLine; decide), fun Md hMd => ?_⟩
      have u8 := same_upd (o := .lst [.str (Txt.upper t), .str (t ++ "x"), .str (Txt.slice t none (some (-1))), .str (" " ++ t), .str ("2" ++ t)]) hMd
      refine ⟨_, rfl, _, _, _, rfl, by decide, by decide, by decide, fun j j0 j1 => ?_⟩
      obtain ⟨x, hx, ex⟩ := atI_strs (ts := [Txt.upper t, t ++ "x", Txt.slice t none (some (-1)), " " ++ t, "2" ++ t]) j0 j1
      have hxl : x.length ≤ 10000 := by
        simp only [List.mem_cons, List.not_mem_nil, or_false] at hx
        rcases hx with rfl | rfl | rfl | rfl | rfl
        · omega
        · exact Nat.le_trans (ap2 8 1 t8 (by decide +kernel)) (by decide)
        · omega
        · exact Nat.le_trans (ap2 1 8 (by decide +kernel) t8) (by decide)
        · exact Nat.le_trans (ap2 1 8 (by decide +kernel) t8) (by decide)
      obtain ⟨xs, hSx, x12, xw⟩ := mx.up u8
      refine ⟨Md, _, _, _, rfl, rfl, SqL.of upd_same, ex, _, rfl, S, _, 11, 11, rfl, rfl, hSx, (by rw [x12]; rfl), ?_⟩
      exact ⟨fun b u e => by rw [upd_ne (ne_of_none e hS0)]; exact (s1.trans u8) _ _ e, Mx.put hSx x12 xw ⟨.s x, rfl, hxl⟩, _, _, rfl⟩
    clear mx s1
    rintro _ H1 ⟨s1, mx, y1, y2, rfl⟩
    refine ⟨fun σ H' => Same H H' ∧ Mx H' S ∧ ∃ y1 y2, σ = [some v, some (.ref p), some (.ref L), some (.int c), some (.int wy), some (.ref S), y1, y2], ?_, ?_⟩
    · refine ⟨_, rfl, rfl, _, rfl, ite2 (fun _ => ?_) (fun _ => iteF ⟨s1, mx, _, _, rfl⟩)⟩
      refine ⟨_, rfl, v, w, rfl, hw.up s1, _, rfl, ?_⟩
      cases w with
      | n => exact ho.elim
      | b x => exact ho.elim
      | ti z => exact ho.elim
      | s t => exact iteF ⟨s1, mx, _, _, rfl⟩
      | ts l => exact iteF ⟨s1, mx, _, _, rfl⟩
      | i z =>
      cases hw
      have zl := og_log ho.1 ho.2
      refine iteT ?_
      refine ⟨_, rfl, _, rfl, _, _, rfl, rfl, _, rfl, _, _, rfl, rfl, _, rfl, z, rfl, zl, _, rfl, (by show 1 ≤ sizeLine; decide), fun q hq => ?_⟩
      have u7 := same_upd (o := .tup [.int z]) hq
      have hq' : (upd H1 q (.tup [.int z])) q = some (.tup [.int z]) := upd_same
      generalize upd H1 q (.tup [.int z]) = H2 at *
      refine ⟨(by show 5 ≤ sizeLine; decide), fun Md hMd => ?_⟩
      have u8 := same_upd (o := .lst [.int (-1 - z), .int (z + 1), .int 0, .str (Str.ofString (toString z)), .ref q]) hMd
      refine ⟨_, rfl, _, _, _, rfl, by decide, by decide, by decide, fun j j0 j1 => ?_⟩
      obtain ⟨x, hx, ex⟩ := atI_any (xs := [V.int (-1 - z), .int (z + 1), .int 0, .str (Str.ofString (toString z)), .ref q]) j0 j1
      have hxw : ∃ w, WV (upd H2 Md (.lst [.int (-1 - z), .int (z + 1), .int 0, .str (Str.ofString (toString z)), .ref q])) w x := by
        simp only [List.mem_cons, List.not_mem_nil, or_false] at hx
        rcases hx with rfl | rfl | rfl | rfl | rfl
        · exact ⟨.i _, rfl⟩
        · exact ⟨.i _, rfl⟩
        · exact ⟨.i _, rfl⟩
        · exact ⟨.s _, rfl, Nat.le_trans (PyProof.Rows.int_text_len_1921 zl) (by decide)⟩
        · exact ⟨.ti z, q, rfl, u8 _ _ hq'⟩
      obtain ⟨xs, hSx, x12, xw⟩ := mx.up (u7.trans u8)
      refine ⟨Md, _, _, _, rfl, rfl, SqL.of upd_same, ex, _, rfl, S, _, 11, 11, rfl, rfl, hSx, (by rw [x12]; rfl), ?_⟩
      exact ⟨fun b u e => by rw [upd_ne (ne_of_none e hS0)]; exact ((s1.trans u7).trans u8) _ _ e, Mx.put hSx x12 xw hxw, _, _, rfl⟩
    clear mx s1
    rintro _ H1 ⟨s1, ⟨xs, hSx, x12, xw⟩, y1, y2, rfl⟩
    obtain ⟨x, hx, ex⟩ := atI_any (xs := xs) (i := wy) wy0 (by omega)
    obtain ⟨w', hw'⟩ := xw x hx
    exact ⟨_, rfl, _, rfl, S, _, _, _, rfl, rfl, SqL.of hSx, ex, k x w' H1 s1 hw'⟩
end
end K61

namespace K61
open PySem L2 DW
section
variable {P : Program} {w : World} {K : PySem.W.Frag} {mg : Str → Option Value} {base : Heap} {a : Adr}
theorem sc_is_called : FnScope ["value"] ["value"] (defScope s_is_called) := ⟨rfl, rfl, rfl, by decide +kernel, rfl, by decide +kernel, by decide +kernel⟩

theorem ok_is_called (T : Txt K mg a) : FnOk P w K mg base CX0 true 3 a.f_is_called a.d_is_called ["value"] (sp_is_called) := by
  refine T.F_is_called.ok sc_is_called (fun vs H Q E h => ?_) (fun cdv A outer s H vs Q E hr h => ?_)
  · obtain ⟨v, w, rfl, _⟩ := h; rfl
  · obtain ⟨v, w, rfl, hw, k⟩ := h
    refine ⟨_, (pss_one (ps_ret (pe_and (pe_callB (call_isinstK (K := K) rfl) rfl T.n_isinstance (by decide +kernel) (pa_cons (pv 0) (pa_cons (pe_bltn (v := .ty "str") rfl T.n_str (by decide +kernel) rfl) pa_nil))) (pe_one (pe_call ((ok_is_name T).mono (by decide)) hr rfl T.m_is_name T.F_is_name.kp T.b_is_name .nil pass0 (pa_cons (pv 0) pa_nil)))))), ?_⟩
    cases w with
    | n => cases hw; exact ⟨_, rfl, _, _, _, _, rfl, TyOf.non, rfl, _, rfl, iteF (k H (Same.refl _))⟩
    | b x => cases hw; exact ⟨_, rfl, _, _, _, _, rfl, TyOf.bl _, rfl, _, rfl, iteF (k H (Same.refl _))⟩
    | i z => cases hw; exact ⟨_, rfl, _, _, _, _, rfl, TyOf.int _, rfl, _, rfl, iteF (k H (Same.refl _))⟩
    | s t => obtain ⟨rfl, ht⟩ := hw; exact ⟨_, rfl, _, _, _, _, rfl, TyOf.str _, rfl, _, rfl, iteT ⟨_, rfl, t, rfl, ht, k⟩⟩
    | ts l => obtain ⟨r, rfl, hr0, hl0, hl1⟩ := hw; exact ⟨_, rfl, _, _, _, _, rfl, TyOf.tup hr0, rfl, _, rfl, iteF (k H (Same.refl _))⟩
    | ti z => obtain ⟨r, rfl, hr0⟩ := hw; exact ⟨_, rfl, _, _, _, _, rfl, TyOf.tup hr0, rfl, _, rfl, iteF (k H (Same.refl _))⟩
end
end K61

namespace K61
open PySem L2 DW
section
variable {P : Program} {w : World} {K : PySem.W.Frag} {mg : Str → Option Value} {base : Heap} {a : Adr}
theorem sc_is_off : FnScope ["letter"] ["letter"] (defScope s_is_off) := ⟨rfl, rfl, rfl, by decide +kernel, rfl, by decide +kernel, by decide +kernel⟩

theorem ok_is_off (T : Txt K mg a) : FnOk P w K mg base CX0 true 3 a.f_is_off a.d_is_off ["letter"] (LetP offW) := by
  refine T.F_is_off.ok sc_is_off (fun vs H Q E h => ?_) (fun cdv A outer s H vs Q E hr h => ?_)
  · obtain ⟨p, ps, a0, rfl, _⟩ := h; rfl
  · obtain ⟨p, ps, a0, rfl, hp, h4, h1, k⟩ := h
    refine ⟨_, (pss_one (ps_ret (pe_and (pe_cmpR op_eq (pe_callB (call_len_seqK (K := K) rfl) rfl T.n_len (by decide +kernel) (pa_cons (pv 0) pa_nil)) pe_int (nomark _)) (pe_one (pe_call ((ok_is_from T).mono (by decide)) hr rfl T.m_is_from T.F_is_from.kp T.b_is_from .nil pass0 (pa_cons (pe_ix (ix_tupK (K := K) rfl) (pv 0) pe_int (fun _ _ => rfl)) (pa_cons pe_int pa_nil))))))), ?_⟩
    have fin : ∀ b, b = offW (ws ps) → ∀ H', Same H H' → Q (.bl b) H' := fun b e => by rw [e]; exact k
    have wl := ws_len ps
    obtain ⟨v3, A3, w3⟩ := hp.get (j := 3) (by omega)
    refine ⟨_, rfl, p, _, rfl, .inr (SqT.of hp.at_), rfl, _, rfl, ?_⟩
    rw [vint, vs_len]
    by_cases h : ps.length = 4
    case neg => rw [decide_eq_false (by omega)]; exact iteF (fin _ (by unfold offW; rw [decide_eq_false (by omega), Bool.false_and]) H (Same.refl _))
    rw [decide_eq_true (by omega)]
    exact iteT ⟨_, rfl, p, _, _, _, rfl, rfl, SqT.of hp.at_, A3, v3, _, 2, rfl, w3, fin _ (by unfold offW; rw [decide_eq_true (by omega), Bool.true_and]) H (Same.refl _)⟩
end
end K61

namespace K61
open PySem L2 DW
section
variable {P : Program} {w : World} {K : PySem.W.Frag} {mg : Str → Option Value} {base : Heap} {a : Adr}
theorem sc_law_bid_of : FnScope ["_law_seed", "_law_names", "_law_asker", "_law_number", "_law_turn", "_law_key_here", "_law_begin", "_law_end"] ["_law_seed", "_law_names", "_law_asker", "_law_number", "_law_turn"] (defScope s_law_bid_of) := ⟨rfl, rfl, rfl, by decide +kernel, rfl, by decide +kernel, by decide +kernel⟩

theorem ok_law_bid_of (T : Txt K mg a) : FnOk P w K mg base CX0 true 3 a.f_law_bid_of a.d_law_bid_of ["_law_seed", "_law_names", "_law_asker", "_law_number", "_law_turn"] (DrawP (fun r => r = [])) := by
  refine T.F_law_bid_of.ok sc_law_bid_of (fun vs H Q E h => ?_) (fun cdv A outer s H vs Q E hr h => ?_)
  · obtain ⟨L, ns, a0, sd, n, t, r, rfl, rfl, _⟩ := h; rfl
  · obtain ⟨L, ns, a0, sd, n, t, r, rfl, rfl, hL, hN, ha, n0, n1, t0, t1, k⟩ := h
    refine ⟨_, (pss_cons (ps_set (i := 5) sc_law_bid_of.nd rfl (Or.inl rfl) (pe_call ((ok_law_key T).mono (by decide)) hr rfl T.m_law_key T.F_law_key.kp T.b_law_key .nil pass0 (pa_cons (pv 0) (pa_cons (pv 1) (pa_cons (pv 2) (pa_cons (pv 3) (pa_cons (pv 4) pa_nil)))))))
      (pss_cut (ps_if (PW.pt (pw_and (pt_cmpR op_gt (pv 4) pe_int (nomark _)) (pw_and1 (pt_cmpR op_eq (pe_call ((ok_law_mixed T).mono (by decide)) hr rfl T.m_law_mixed T.F_law_mixed.kp T.b_law_mixed .nil pass0 (pa_cons (pv 5) (pa_cons pe_int (pa_cons pe_int pa_nil)))) pe_int (nomark _))))) (pss_one (ps_ret (pe_tup (pa_cons pe_str (pa_cons (pv 2) (pa_cons (pv 3) (pa_cons (pv 4) pa_nil))))))) pss_nil)
      (pss_cons (ps_set (i := 6) sc_law_bid_of.nd rfl (Or.inl rfl) (pe_op op_sub (pe_call ((ok_law_mixed T).mono (by decide)) hr rfl T.m_law_mixed T.F_law_mixed.kp T.b_law_mixed .nil pass0 (pa_cons (pv 5) (pa_cons pe_int (pa_cons pe_int pa_nil)))) pe_int))
      (pss_cut (ps_if (pt_cmpR op_eq (pe_call ((ok_law_mixed T).mono (by decide)) hr rfl T.m_law_mixed T.F_law_mixed.kp T.b_law_mixed .nil pass0 (pa_cons (pv 5) (pa_cons pe_int (pa_cons pe_int pa_nil)))) pe_int (nomark _)) (pss_one (ps_set (i := 6) sc_law_bid_of.nd rfl (Or.inl rfl) (pe_op op_mul (pv 6) (pe_op op_pow pe_int pe_int)))) pss_nil)
      (pss_cons (ps_set (i := 7) sc_law_bid_of.nd rfl (Or.inl rfl) (pe_op op_add (pe_op op_add (pv 6) pe_int) (pe_call ((ok_law_mixed T).mono (by decide)) hr rfl T.m_law_mixed T.F_law_mixed.kp T.b_law_mixed .nil pass0 (pa_cons (pv 5) (pa_cons pe_int (pa_cons (pe_ix (ix_listK (K := K) rfl) (pe_lst (pa_lits [.int 1, .int 30, .int 3000] (by decide +kernel))) (pe_call ((ok_law_mixed T).mono (by decide)) hr rfl T.m_law_mixed T.F_law_mixed.kp T.b_law_mixed .nil pass0 (pa_cons (pv 5) (pa_cons pe_int (pa_cons pe_int pa_nil)))) (fun _ _ => rfl)) pa_nil))))))
      (pss_one (ps_ret (pe_tup (pa_cons pe_str (pa_cons (pv 2) (pa_cons (pv 3) (pa_cons (pv 4) (pa_cons (pv 6) (pa_cons (pv 7) (pa_cons (pe_call ((ok_law_some T).mono (by decide)) hr rfl T.m_law_some T.F_law_some.kp T.b_law_some .nil pass0 (pa_cons (pv 1) (pa_cons (pv 2) (pa_cons (pv 5) (pa_cons pe_int (pa_cons pe_int pa_nil)))))) pa_nil))))))))))))))), ?_⟩
    have hna := hN.nm a0 ha
    refine ⟨_, rfl, _, rfl, _, rfl, _, rfl, _, rfl, L, ns, a0, sd, n, t, rfl, hL, hN, ha, fun key => ?_⟩
    refine ⟨fun σ H' => H' = H ∧ σ = [some (.int sd), some (.ref L), some (.str a0), some (.int n), some (.int t), some (.int key), none, none], ?_, ?_⟩
    · refine ⟨_, rfl, _, _, rfl, rfl, _, rfl, ite2 (fun _ => ?_) (fun _ => iteF ⟨rfl, rfl⟩)⟩
      refine ⟨_, rfl, _, _, _, rfl, by decide, by decide, by decide, fun v _ _ => ⟨rfl, _, rfl, ite2 (fun _ => ?_) (fun _ => ⟨rfl, rfl⟩)⟩⟩
      exact ⟨_, rfl, _, rfl, _, rfl, (by show 4 ≤ sizeLine; decide), fun p hp => k p _ _ (same_upd hp) (letO_of (k0 := "off") (r := []) upd_same kw_off hna n0 n1 t0 t1 (fun _ z => nomatch z) (by decide) (fun z => absurd z (by decide)))⟩
    rintro _ H1 ⟨e1, rfl⟩
    obtain rfl := e1.symm
    refine ⟨_, rfl, _, _, _, rfl, by decide, by decide, by decide, fun v v0 v1 => ⟨_, _, rfl, rfl, ?_⟩⟩
    refine ⟨fun σ H' => H' = H ∧ ∃ b : Int, -(10 ^ 16) ≤ b ∧ b ≤ 10 ^ 16 ∧ σ = [some (.int sd), some (.ref L), some (.str a0), some (.int n), some (.int t), some (.int key), some (.int b), none], ?_, ?_⟩
    · refine ⟨_, rfl, _, _, _, rfl, by decide, by decide, by decide, fun u _ _ => ⟨rfl, _, rfl, ite2 (fun _ => ?_) (fun _ => ⟨rfl, _, by omega, by omega, rfl⟩)⟩⟩
      refine ⟨_, rfl, _, _, rfl, rfl, ⟨by decide, by decide, by decide⟩, _, _, rfl, rfl, .inl ⟨by omega, by omega⟩, rfl, _, ?_, ?_, rfl⟩
      · have : (10 : Int) ^ (12 : Int).toNat = 1000000000000 := by decide
        rw [this]
        omega
      · have : (10 : Int) ^ (12 : Int).toNat = 1000000000000 := by decide
        rw [this]
        omega
    rintro _ H1 ⟨e1, b, b0, b1, rfl⟩
    obtain rfl := e1.symm
    clear v0 v1
    refine ⟨_, rfl, _, _, rfl, rfl, _, rfl, (by show 3 ≤ sizeLine; decide), fun l hl => ⟨_, rfl, _, _, _, rfl, by decide, by decide, by decide, fun v v0 v1 => ?_⟩⟩
    obtain ⟨wd, w0, w1, we⟩ := atI_pick (ts := [1, 30, 3000]) (i := v) 1 3000 v0 v1 (by decide)
    refine ⟨l, _, _, _, rfl, rfl, SqL.of upd_same, we, _, _, _, rfl, by decide, by decide, by omega, fun e e0 e1 => ⟨_, _, rfl, rfl, ?_⟩⟩
    have s1 := same_upd (o := .lst [.int 1, .int 30, .int 3000]) hl
    replace hL := s1 _ _ hL
    generalize upd H l (.lst [.int 1, .int 30, .int 3000]) = H1 at *
    refine ⟨_, rfl, _, rfl, _, rfl, _, rfl, _, rfl, _, rfl, _, rfl, _, rfl, L, ns, a0, _, _, _, rfl, hL, hN, by decide, by decide, fun r l H2 s2 hr hl hn => ⟨(by show 7 ≤ sizeLine; decide), fun p hp => ?_⟩⟩
    have s3 := same_upd (o := .tup [.str "bid", .str a0, .int n, .int t, .int b, .int (b + 1 + e), .ref r]) hp
    have big : (10 : Int) ^ 16 + 4000 ≤ 10 ^ 18 := by decide
    refine k p _ _ ((s1.trans s2).trans s3) (letO_of (k0 := "bid") (r := [(.int b, .i b), (.int (b + 1 + e), .i (b + 1 + e)), (.ref r, .ts l)]) upd_same kw_bid hna n0 n1 t0 t1 (fun q hq => ?_) (by show 3 ≤ 3; decide) (fun _ => ⟨rfl, b, rfl⟩))
    simp only [List.mem_cons, List.not_mem_nil, or_false] at hq
    rcases hq with rfl | rfl | rfl
    · exact ⟨rfl, by omega, by omega⟩
    · exact ⟨rfl, by omega, by omega⟩
    · exact ⟨wv_ts (s3 _ _ hr) hl hn, og_ts hl hn⟩
end
end K61

namespace K61
open PySem L2 DW
section
variable {P : Program} {w : World} {K : PySem.W.Frag} {mg : Str → Option Value} {base : Heap} {a : Adr}
theorem sc_law_close_of : FnScope ["_law_seed", "_law_names", "_law_asker", "_law_number", "_law_turn", "_law_key_here", "_law_hands"] ["_law_seed", "_law_names", "_law_asker", "_law_number", "_law_turn"] (defScope s_law_close_of) := ⟨rfl, rfl, rfl, by decide +kernel, rfl, by decide +kernel, by decide +kernel⟩

theorem ok_law_close_of (T : Txt K mg a) : FnOk P w K mg base CX0 true 3 a.f_law_close_of a.d_law_close_of ["_law_seed", "_law_names", "_law_asker", "_law_number", "_law_turn"] (DrawP (fun r => r = [])) := by
  refine T.F_law_close_of.ok sc_law_close_of (fun vs H Q E h => ?_) (fun cdv A outer s H vs Q E hr h => ?_)
  · obtain ⟨L, ns, a0, sd, n, t, r, rfl, rfl, _⟩ := h; rfl
  · obtain ⟨L, ns, a0, sd, n, t, r, rfl, rfl, hL, hN, ha, n0, n1, t0, t1, k⟩ := h
    refine ⟨_, (pss_cons (ps_set (i := 5) sc_law_close_of.nd rfl (Or.inl rfl) (pe_call ((ok_law_key T).mono (by decide)) hr rfl T.m_law_key T.F_law_key.kp T.b_law_key .nil pass0 (pa_cons (pv 0) (pa_cons (pv 1) (pa_cons (pv 2) (pa_cons (pv 3) (pa_cons (pv 4) pa_nil)))))))
      (pss_cons (ps_set (i := 6) sc_law_close_of.nd rfl (Or.inl rfl) (pe_call ((ok_law_some T).mono (by decide)) hr rfl T.m_law_some T.F_law_some.kp T.b_law_some .nil pass0 (pa_cons (pv 1) (pa_cons (pv 2) (pa_cons (pv 5) (pa_cons pe_int (pa_cons pe_int pa_nil)))))))
      (pss_cut (ps_if (pt_cmpR op_eq (pe_call ((ok_law_mixed T).mono (by decide)) hr rfl T.m_law_mixed T.F_law_mixed.kp T.b_law_mixed .nil pass0 (pa_cons (pv 5) (pa_cons pe_int (pa_cons pe_int pa_nil)))) pe_int (nomark _)) (pss_one (ps_set (i := 6) sc_law_close_of.nd rfl (Or.inl rfl) (pe_tup pa_nil))) pss_nil)
      (pss_one (ps_ret (pe_tup (pa_cons pe_str (pa_cons (pv 2) (pa_cons (pv 3) (pa_cons (pv 4) (pa_cons (pv 6) pa_nil))))))))))), ?_⟩
    have hna := hN.nm a0 ha
    refine ⟨_, rfl, _, rfl, _, rfl, _, rfl, _, rfl, L, ns, a0, sd, n, t, rfl, hL, hN, ha, fun key => ?_⟩
    refine ⟨_, rfl, _, rfl, _, rfl, L, ns, a0, _, _, _, rfl, hL, hN, by decide, by decide, fun r l H1 s1 hr hl hn => ?_⟩
    refine ⟨fun σ H' => Same H H' ∧ ∃ (r : Addr) (l : List Str), H' r = some (.tup (l.map V.str)) ∧ l.length ≤ 22 ∧ (∀ t ∈ l, NM t = true) ∧ σ = [some (.int sd), some (.ref L), some (.str a0), some (.int n), some (.int t), some (.int key), some (.ref r)], ?_, ?_⟩
    · refine ⟨_, rfl, _, _, _, rfl, by decide, by decide, by decide, fun u _ _ => ⟨rfl, _, rfl, ite2 (fun _ => ?_) (fun _ => ⟨s1, r, l, hr, hl, hn, rfl⟩)⟩⟩
      exact ⟨(by show 0 ≤ sizeLine; decide), fun q hq => ⟨s1.trans (same_upd hq), q, [], upd_same, by decide, (fun _ z => nomatch z), rfl⟩⟩
    rintro _ H2 ⟨s2, r, l, hr, hl, hn, rfl⟩
    refine ⟨_, rfl, _, rfl, _, rfl, _, rfl, (by show 5 ≤ sizeLine; decide), fun p hp => ?_⟩
    have s3 := same_upd (o := .tup [.str "close", .str a0, .int n, .int t, .ref r]) hp
    refine k p _ _ (s2.trans s3) (letO_of (k0 := "close") (r := [(.ref r, .ts l)]) upd_same kw_close hna n0 n1 t0 t1 (fun q hq => ?_) (by show 1 ≤ 3; decide) (fun z => absurd z (by decide)))
    rw [List.mem_singleton] at hq
    subst hq
    exact ⟨wv_ts (s3 _ _ hr) hl hn, og_ts hl hn⟩
end
end K61

namespace K61
open PySem L2 DW
section
variable {P : Program} {w : World} {K : PySem.W.Frag} {mg : Str → Option Value} {base : Heap} {a : Adr}
theorem sc_law_due : FnScope ["_law_letter", "_law_spans", "_law_good"] ["_law_letter"] (defScope s_law_due) := ⟨rfl, rfl, rfl, by decide +kernel, rfl, by decide +kernel, by decide +kernel⟩

theorem ok_law_due (T : Txt K mg a) : FnOk P w K mg base CX0 true 3 a.f_law_due a.d_law_due ["_law_letter"] (sp_is_letter) := by
  refine T.F_law_due.ok sc_law_due (fun vs H Q E h => ?_) (fun cdv A outer s H vs Q E hr h => ?_)
  · obtain ⟨p, ps, rfl, _⟩ := h; rfl
  · obtain ⟨p, ps, rfl, hp, k⟩ := h
    refine ⟨_, (pss_cons (ps_if (PW.pt (pw_or (pt_cmpR op_lt (pe_callB (call_len_seqK (K := K) rfl) rfl T.n_len (by decide +kernel) (pa_cons (pv 0) pa_nil)) pe_int (nomark _)) (pw_or1 (pt_not (pt_val (pe_call ((ok_law_is_name T).mono (by decide)) hr rfl T.m_law_is_name T.F_law_is_name.kp T.b_law_is_name .nil pass0 (pa_cons (pe_ix (ix_tupK (K := K) rfl) (pv 0) pe_int (fun _ _ => rfl)) pa_nil))))))) (pss_one (ps_ret pe_bl)) pss_nil)
      (pss_cons (ps_if (PW.pt (pw_or (pt_not (pt_val (pe_call ((ok_law_whole T).mono (by decide)) hr rfl T.m_law_whole T.F_law_whole.kp T.b_law_whole .nil pass0 (pa_cons (pe_ix (ix_tupK (K := K) rfl) (pv 0) pe_int (fun _ _ => rfl)) pa_nil)))) (pw_or (pt_cmpR op_lt (pe_ix (ix_tupK (K := K) rfl) (pv 0) pe_int (fun _ _ => rfl)) pe_int (nomark _)) (pw_or (pt_not (pt_val (pe_call ((ok_law_whole T).mono (by decide)) hr rfl T.m_law_whole T.F_law_whole.kp T.b_law_whole .nil pass0 (pa_cons (pe_ix (ix_tupK (K := K) rfl) (pv 0) pe_int (fun _ _ => rfl)) pa_nil)))) (pw_or1 (pt_cmpR op_lt (pe_ix (ix_tupK (K := K) rfl) (pv 0) pe_int (fun _ _ => rfl)) pe_int (nomark _))))))) (pss_one (ps_ret pe_bl)) pss_nil)
      (pss_cons (ps_if (PW.pt (pw_and (pt_cmpR (op_eqW (hu_of hr)) (pe_ix (ix_tupK (K := K) rfl) (pv 0) pe_int (fun _ _ => rfl)) pe_str (nomark _)) (pw_and1 (pt_cmpR op_eq (pe_callB (call_len_seqK (K := K) rfl) rfl T.n_len (by decide +kernel) (pa_cons (pv 0) pa_nil)) pe_int (nomark _))))) (pss_cut (ps_set (i := 1) sc_law_due.nd rfl (Or.inl rfl) (pe_and (pe_call ((ok_law_whole T).mono (by decide)) hr rfl T.m_law_whole T.F_law_whole.kp T.b_law_whole .nil pass0 (pa_cons (pe_ix (ix_tupK (K := K) rfl) (pv 0) pe_int (fun _ _ => rfl)) pa_nil)) (pe_and (pe_call ((ok_law_whole T).mono (by decide)) hr rfl T.m_law_whole T.F_law_whole.kp T.b_law_whole .nil pass0 (pa_cons (pe_ix (ix_tupK (K := K) rfl) (pv 0) pe_int (fun _ _ => rfl)) pa_nil)) (pe_one (pe_cmpR op_lt (pe_ix (ix_tupK (K := K) rfl) (pv 0) pe_int (fun _ _ => rfl)) (pe_ix (ix_tupK (K := K) rfl) (pv 0) pe_int (fun _ _ => rfl)) (nomark _))))))
      (pss_one (ps_ret (pe_and (pv 1) (pe_one (pe_call ((ok_law_are_hands T).mono (by decide)) hr rfl T.m_law_are_hands T.F_law_are_hands.kp T.b_law_are_hands .nil pass0 (pa_cons (pe_ix (ix_tupK (K := K) rfl) (pv 0) pe_int (fun _ _ => rfl)) (pa_cons (pe_ix (ix_tupK (K := K) rfl) (pv 0) pe_int (fun _ _ => rfl)) (pa_cons pe_int pa_nil))))))))) pss_nil)
      (pss_cons (ps_if (pt_cmpR (op_eqW (hu_of hr)) (pe_ix (ix_tupK (K := K) rfl) (pv 0) pe_int (fun _ _ => rfl)) pe_str (nomark _)) (pss_one (ps_ret (pe_and (pe_cmpR op_eq (pe_callB (call_len_seqK (K := K) rfl) rfl T.n_len (by decide +kernel) (pa_cons (pv 0) pa_nil)) pe_int (nomark _)) (pe_one (pe_cmpR op_gt (pe_ix (ix_tupK (K := K) rfl) (pv 0) pe_int (fun _ _ => rfl)) pe_int (nomark _)))))) pss_nil)
      (pss_cons (ps_if (PW.pt (pw_and (pt_cmpR (op_eqW (hu_of hr)) (pe_ix (ix_tupK (K := K) rfl) (pv 0) pe_int (fun _ _ => rfl)) pe_str (nomark _)) (pw_and1 (pt_cmpR op_eq (pe_callB (call_len_seqK (K := K) rfl) rfl T.n_len (by decide +kernel) (pa_cons (pv 0) pa_nil)) pe_int (nomark _))))) (pss_one (ps_ret (pe_call ((ok_law_are_hands T).mono (by decide)) hr rfl T.m_law_are_hands T.F_law_are_hands.kp T.b_law_are_hands .nil pass0 (pa_cons (pe_ix (ix_tupK (K := K) rfl) (pv 0) pe_int (fun _ _ => rfl)) (pa_cons (pe_ix (ix_tupK (K := K) rfl) (pv 0) pe_int (fun _ _ => rfl)) (pa_cons pe_int pa_nil)))))) pss_nil)
      (pss_cons (ps_if (PW.pt (pw_and (pt_cmpR (op_eqW (hu_of hr)) (pe_ix (ix_tupK (K := K) rfl) (pv 0) pe_int (fun _ _ => rfl)) pe_str (nomark _)) (pw_and1 (pt_cmpR op_eq (pe_callB (call_len_seqK (K := K) rfl) rfl T.n_len (by decide +kernel) (pa_cons (pv 0) pa_nil)) pe_int (nomark _))))) (pss_cut (ps_set (i := 2) sc_law_due.nd rfl (Or.inl rfl) (pe_and (pe_call ((ok_law_is_name T).mono (by decide)) hr rfl T.m_law_is_name T.F_law_is_name.kp T.b_law_is_name .nil pass0 (pa_cons (pe_ix (ix_tupK (K := K) rfl) (pv 0) pe_int (fun _ _ => rfl)) pa_nil)) (pe_and (pe_cmpR op_ne (pe_ix (ix_tupK (K := K) rfl) (pv 0) pe_int (fun _ _ => rfl)) (pe_ix (ix_tupK (K := K) rfl) (pv 0) pe_int (fun _ _ => rfl)) (nomark _)) (pe_and (pe_call ((ok_law_whole T).mono (by decide)) hr rfl T.m_law_whole T.F_law_whole.kp T.b_law_whole .nil pass0 (pa_cons (pe_ix (ix_tupK (K := K) rfl) (pv 0) pe_int (fun _ _ => rfl)) pa_nil)) (pe_one (pe_cmpR op_ge (pe_ix (ix_tupK (K := K) rfl) (pv 0) pe_int (fun _ _ => rfl)) pe_int (nomark _)))))))
      (pss_one (ps_ret (pe_and (pv 2) (pe_one (pe_cmpR (op_inW (hu_of hr)) (pe_ix (ix_tupK (K := K) rfl) (pv 0) pe_int (fun _ _ => rfl)) (pe_lst (pa_lits [.str "yes", .str "no"] (by decide +kernel))) (by with_unfolding_all rfl))))))) pss_nil)
      (pss_one (ps_ret pe_bl)))))))), ?_⟩
    have fin : ∀ b, b = isL NM (ws ps) → ∀ H', Same H H' → Q (.bl b) H' := fun b e => by rw [e]; exact k
    have wl := ws_len ps
    refine ⟨_, rfl, p, _, rfl, .inr (SqT.of hp.at_), _, _, rfl, rfl, _, rfl, ?_⟩
    rw [vs_len]
    refine ite2 (fun z => iteT ?_) (fun z => ?_)
    · have z' : (ps.length : Int) < 4 := of_decide_eq_true z
      exact fin _ (isL_len (by omega)).symm H (Same.refl _)
    have z' : ¬ (ps.length : Int) < 4 := fun w => z (decide_eq_true w)
    obtain ⟨v0, A0, w0⟩ := hp.get (j := 0) (by omega)
    obtain ⟨v1, A1, w1⟩ := hp.get (j := 1) (by omega)
    obtain ⟨v2, A2, w2⟩ := hp.get (j := 2) (by omega)
    obtain ⟨v3, A3, w3⟩ := hp.get (j := 3) (by omega)
    refine ⟨_, rfl, p, _, _, _, rfl, rfl, SqT.of hp.at_, A1, v1, _, rfl, w1, fun H1 s1 => ⟨_, rfl, ?_⟩⟩
    replace hp := hp.up s1
    replace w2 := w2.up s1
    replace w0 := w0.up s1
    replace w3 := w3.up s1
    replace w1 := w1.up s1
    cases hc : callW NM (at_ (ws ps) 1) with
    | false => exact ite2 (fun _ => fin _ (isL_call hc).symm H1 s1) (fun z => absurd rfl z)
    | true =>
    refine iteF ?_
    obtain ⟨a0, h1, hna⟩ := call_s hc
    rw [h1] at w1
    obtain ⟨rfl, _⟩ := w1
    refine ⟨_, rfl, p, _, _, _, rfl, rfl, SqT.of hp.at_, A2, v2, _, rfl, w2, _, rfl, ?_⟩
    cases n2 : numW (at_ (ws ps) 2) with
    | false => exact ite2 (fun _ => iteT (fin _ (isL_two (from_of n2)).symm H1 s1)) (fun z => absurd rfl z)
    | true =>
    refine iteF ?_
    obtain ⟨z2, e2⟩ := num_i n2
    rw [e2] at w2
    cases w2
    refine ⟨_, rfl, p, _, _, _, rfl, rfl, SqT.of hp.at_, A2, _, _, rfl, rfl, _, rfl, ?_⟩
    refine ite2 (fun z => iteT ?_) (fun z => ?_)
    · have zz : z2 < 0 := of_decide_eq_true z
      exact fin _ (isL_two (by rw [e2]; exact decide_eq_false (by omega))).symm H1 s1
    have zz2 : ¬ z2 < 0 := fun w => z (decide_eq_true w)
    have h2 : fromW (at_ (ws ps) 2) 0 = true := by rw [e2]; exact decide_eq_true (by omega)
    refine ⟨_, rfl, p, _, _, _, rfl, rfl, SqT.of hp.at_, A3, v3, _, rfl, w3, _, rfl, ?_⟩
    cases n3 : numW (at_ (ws ps) 3) with
    | false => exact ite2 (fun _ => iteT (fin _ (isL_three (from_of n3)).symm H1 s1)) (fun z => absurd rfl z)
    | true =>
    refine iteF ?_
    obtain ⟨z3, e3⟩ := num_i n3
    rw [e3] at w3
    cases w3
    refine ⟨_, rfl, p, _, _, _, rfl, rfl, SqT.of hp.at_, A3, _, _, rfl, rfl, _, rfl, ?_⟩
    refine ite2 (fun z => ?_) (fun z => ?_)
    · have zz : z3 < 1 := of_decide_eq_true z
      exact fin _ (isL_three (by rw [e3]; exact decide_eq_false (by omega))).symm H1 s1
    have zz3 : ¬ z3 < 1 := fun w => z (decide_eq_true w)
    have h3 : fromW (at_ (ws ps) 3) 1 = true := by rw [e3]; exact decide_eq_true (by omega)
    have e1 := isL_go (nm := NM) (ws := ws ps) (by omega) hc h2
    have go : ∀ b, b = kindW NM (ws ps) → ∀ H', Same H1 H' → Q (.bl b) H' := fun b e H' s' => fin b (by rw [e1, e]) H' (s1.trans s')
    have R0 := Same.refl H1
    have nmo := nmOf_s h1
    refine ⟨_, rfl, p, _, _, _, rfl, rfl, SqT.of hp.at_, A0, eqW_go w0 ⟨_, rfl, ?_⟩⟩
    cases zb : eqS (at_ (ws ps) 0) "bid" with
    | true =>
      refine iteT ⟨_, rfl, p, _, rfl, .inr (SqT.of hp.at_), rfl, _, rfl, ?_⟩
      rw [vint, vs_len]
      by_cases hl : ps.length = 7
      · rw [decide_eq_true (by omega)]
        refine iteT ?_
        obtain ⟨v4, A4, w4⟩ := hp.get (j := 4) (by omega)
        obtain ⟨v5, A5, w5⟩ := hp.get (j := 5) (by omega)
        obtain ⟨v6, A6, w6⟩ := hp.get (j := 6) (by omega)
        have eb : kindW NM (ws ps) = (numW (at_ (ws ps) 4) && (numW (at_ (ws ps) 5) && (spanW (at_ (ws ps) 4) (at_ (ws ps) 5) && handsW NM (at_ (ws ps) 6) a0 1))) := by rw [kind_bid zb]; unfold bidW; rw [decide_eq_true (by omega), h3, nmo, Bool.true_and, Bool.true_and]
        refine ⟨fun σ H' => H' = H1 ∧ σ = [some (.ref p), some (.bl (numW (at_ (ws ps) 4) && (numW (at_ (ws ps) 5) && spanW (at_ (ws ps) 4) (at_ (ws ps) 5)))), none], ?_, ?_⟩
        · refine ⟨_, rfl, p, _, _, _, rfl, rfl, SqT.of hp.at_, A4, v4, _, rfl, w4, _, rfl, ?_⟩
          cases n4 : numW (at_ (ws ps) 4) with
          | false => exact iteF ⟨rfl, rfl⟩
          | true =>
          refine iteT ⟨_, rfl, p, _, _, _, rfl, rfl, SqT.of hp.at_, A5, v5, _, rfl, w5, _, rfl, ?_⟩
          cases n5 : numW (at_ (ws ps) 5) with
          | false => exact iteF ⟨rfl, rfl⟩
          | true =>
          obtain ⟨b, e4⟩ := num_i n4
          obtain ⟨e, e5⟩ := num_i n5
          rw [e4] at w4
          rw [e5] at w5
          cases w4
          cases w5
          rw [e4, e5]
          exact iteT ⟨_, rfl, p, _, _, _, rfl, rfl, SqT.of hp.at_, A4, _, rfl, p, _, _, _, rfl, rfl, SqT.of hp.at_, A5, _, _, rfl, rfl, rfl, rfl⟩
        rintro _ H2 ⟨e9, rfl⟩
        obtain rfl := e9.symm
        refine ⟨_, rfl, _, rfl, ?_⟩
        cases hs : (numW (at_ (ws ps) 4) && (numW (at_ (ws ps) 5) && spanW (at_ (ws ps) 4) (at_ (ws ps) 5))) with
        | false => exact iteF (go _ (by rw [eb, ← Bool.and_assoc, ← Bool.and_assoc, Bool.and_assoc (numW (at_ (ws ps) 4)), hs, Bool.false_and]) H1 R0)
        | true => exact iteT ⟨_, rfl, p, _, _, _, rfl, rfl, SqT.of hp.at_, A6, _, rfl, p, _, _, _, rfl, rfl, SqT.of hp.at_, A1, v6, _, a0, 1, rfl, w6, go _ (by rw [eb, ← Bool.and_assoc, ← Bool.and_assoc, Bool.and_assoc (numW (at_ (ws ps) 4)), hs, Bool.true_and])⟩
      · rw [decide_eq_false (by omega)]
        refine iteF ?_
        have nb : eqS (at_ (ws ps) 0) "bid" = false ∨ (ws ps).length ≠ 7 := .inr (by omega)
        refine ⟨_, rfl, p, _, _, _, rfl, rfl, SqT.of hp.at_, A0, eqW_go w0 ⟨_, rfl, ?_⟩⟩
        cases zo : eqS (at_ (ws ps) 0) "off" with
        | true =>
          refine iteT ⟨_, rfl, p, _, rfl, .inr (SqT.of hp.at_), rfl, _, rfl, ?_⟩
          rw [vint, vs_len]
          have eo : kindW NM (ws ps) = (decide ((ws ps).length = 4) && decide (2 ≤ z3)) := by rw [kind_off zo]; unfold offW; rw [e3]; rfl
          by_cases hl : ps.length = 4
          · rw [decide_eq_true (by omega)]
            exact iteT ⟨_, rfl, p, _, _, _, rfl, rfl, SqT.of hp.at_, A3, _, _, rfl, rfl, go _ (by rw [eo, decide_eq_true (p := (ws ps).length = 4) (by omega), Bool.true_and]; exact decide_eq_decide.mpr (by omega)) H1 R0⟩
          · rw [decide_eq_false (by omega)]
            exact iteF (go _ (by rw [eo, decide_eq_false (by omega), Bool.false_and]) H1 R0)
        | false =>
        refine iteF ?_
        refine ⟨_, rfl, p, _, _, _, rfl, rfl, SqT.of hp.at_, A0, eqW_go w0 ⟨_, rfl, ?_⟩⟩
        cases zc : eqS (at_ (ws ps) 0) "close" with
        | true =>
          refine iteT ⟨_, rfl, p, _, rfl, .inr (SqT.of hp.at_), rfl, _, rfl, ?_⟩
          rw [vint, vs_len]
          by_cases hl : ps.length = 5
          · rw [decide_eq_true (by omega)]
            obtain ⟨v4, A4, w4⟩ := hp.get (j := 4) (by omega)
            exact iteT ⟨_, rfl, p, _, _, _, rfl, rfl, SqT.of hp.at_, A4, _, rfl, p, _, _, _, rfl, rfl, SqT.of hp.at_, A1, v4, _, a0, 0, rfl, w4, go _ (by rw [kind_close zc]; unfold closeW; rw [decide_eq_true (by omega), h3, nmo, Bool.true_and, Bool.true_and])⟩
          · rw [decide_eq_false (by omega)]
            refine iteF ?_
            have nc : eqS (at_ (ws ps) 0) "close" = false ∨ (ws ps).length ≠ 5 := .inr (by omega)
            refine ⟨_, rfl, p, _, _, _, rfl, rfl, SqT.of hp.at_, A0, eqW_go w0 ⟨_, rfl, ?_⟩⟩
            cases za : eqS (at_ (ws ps) 0) "answer" with
            | false => exact iteF (iteF (go _ (kind_none nb zo nc (.inl za)).symm H1 R0))
            | true =>
            refine iteT ⟨_, rfl, p, _, rfl, .inr (SqT.of hp.at_), rfl, _, rfl, ?_⟩
            rw [vint, vs_len]
            by_cases hl : ps.length = 7
            case neg => rw [decide_eq_false (by omega)]; exact iteF (go _ (kind_none nb zo nc (.inr (by omega))).symm H1 R0)
            rw [decide_eq_true (by omega)]
            refine iteT ?_
            obtain ⟨v4, A4, w4⟩ := hp.get (j := 4) (by omega)
            obtain ⟨v5, A5, w5⟩ := hp.get (j := 5) (by omega)
            obtain ⟨v6, A6, w6⟩ := hp.get (j := 6) (by omega)
            have ea : kindW NM (ws ps) = (callW NM (at_ (ws ps) 4) && (!eqS (at_ (ws ps) 4) a0 && (fromW (at_ (ws ps) 5) 0 && (eqS (at_ (ws ps) 6) "yes" || eqS (at_ (ws ps) 6) "no")))) := by rw [kind_ans za]; unfold ansW; rw [decide_eq_true (by omega), h3, nmo, Bool.true_and, Bool.true_and]
            refine ⟨fun σ H' => Same H1 H' ∧ ∃ g, σ = [some (.ref p), none, some (.bl g)] ∧ kindW NM (ws ps) = (g && (eqS (at_ (ws ps) 6) "yes" || eqS (at_ (ws ps) 6) "no")), ?_, ?_⟩
            · refine ⟨_, rfl, p, _, _, _, rfl, rfl, SqT.of hp.at_, A4, v4, _, rfl, w4, fun H2 s2 => ⟨_, rfl, ?_⟩⟩
              replace hp := hp.up s2
              replace w5 := w5.up s2
              cases hc4 : callW NM (at_ (ws ps) 4) with
              | false => exact iteF ⟨s2, _, rfl, by rw [ea, hc4, Bool.false_and, Bool.false_and]⟩
              | true =>
              obtain ⟨t, et, _⟩ := call_s hc4
              rw [et] at w4
              obtain ⟨rfl, _⟩ := w4
              refine iteT ⟨_, rfl, p, _, _, _, rfl, rfl, SqT.of hp.at_, A4, _, rfl, p, _, _, _, rfl, rfl, SqT.of hp.at_, A1, rfl, _, rfl, ?_⟩
              rw [show decide (V.str t = V.str a0) = decide (t = a0) from decide_eq_decide.mpr (by rw [V.str.injEq])]
              have ea2 : kindW NM (ws ps) = (!decide (t = a0) && (fromW (at_ (ws ps) 5) 0 && (eqS (at_ (ws ps) 6) "yes" || eqS (at_ (ws ps) 6) "no"))) := by rw [ea, hc4, et, Bool.true_and]; rfl
              by_cases hta : t = a0
              · rw [decide_eq_true hta]
                exact iteF ⟨s2, _, rfl, by rw [ea2, decide_eq_true hta]; rfl⟩
              rw [decide_eq_false hta]
              refine iteT ⟨_, rfl, p, _, _, _, rfl, rfl, SqT.of hp.at_, A5, v5, _, rfl, w5, _, rfl, ?_⟩
              cases n5 : numW (at_ (ws ps) 5) with
              | false => exact iteF ⟨s2, _, rfl, by rw [ea2, decide_eq_false hta, from_of n5]; rfl⟩
              | true =>
              obtain ⟨z5, e5⟩ := num_i n5
              rw [e5] at w5
              cases w5
              exact iteT ⟨_, rfl, p, _, _, _, rfl, rfl, SqT.of hp.at_, A5, _, _, rfl, rfl, s2, _, rfl, by rw [ea2, decide_eq_false hta, e5]; rfl⟩
            rintro _ H2 ⟨s2, g, rfl, eg⟩
            replace hp := hp.up s2
            replace w6 := w6.up s2
            refine ⟨_, rfl, _, rfl, ?_⟩
            cases g with
            | false => exact iteF (go _ (by rw [eg, Bool.false_and]) H2 s2)
            | true =>
            refine iteT ⟨_, rfl, p, _, _, _, rfl, rfl, SqT.of hp.at_, A6, (by show 2 ≤ sizeLine; decide), fun l hl9 => ?_⟩
            have u9 := same_upd (o := .lst [.str "yes", .str "no"]) hl9
            exact inYN w6 (u9) upd_same (go _ (by rw [eg, Bool.true_and]) _ (s2.trans u9))
        | false =>
          refine iteF (iteF ?_)
          have nc : eqS (at_ (ws ps) 0) "close" = false ∨ (ws ps).length ≠ 5 := .inl zc
          refine ⟨_, rfl, p, _, _, _, rfl, rfl, SqT.of hp.at_, A0, eqW_go w0 ⟨_, rfl, ?_⟩⟩
          cases za : eqS (at_ (ws ps) 0) "answer" with
          | false => exact iteF (iteF (go _ (kind_none nb zo nc (.inl za)).symm H1 R0))
          | true =>
          refine iteT ⟨_, rfl, p, _, rfl, .inr (SqT.of hp.at_), rfl, _, rfl, ?_⟩
          rw [vint, vs_len]
          by_cases hl : ps.length = 7
          case neg => rw [decide_eq_false (by omega)]; exact iteF (go _ (kind_none nb zo nc (.inr (by omega))).symm H1 R0)
          rw [decide_eq_true (by omega)]
          refine iteT ?_
          obtain ⟨v4, A4, w4⟩ := hp.get (j := 4) (by omega)
          obtain ⟨v5, A5, w5⟩ := hp.get (j := 5) (by omega)
          obtain ⟨v6, A6, w6⟩ := hp.get (j := 6) (by omega)
          have ea : kindW NM (ws ps) = (callW NM (at_ (ws ps) 4) && (!eqS (at_ (ws ps) 4) a0 && (fromW (at_ (ws ps) 5) 0 && (eqS (at_ (ws ps) 6) "yes" || eqS (at_ (ws ps) 6) "no")))) := by rw [kind_ans za]; unfold ansW; rw [decide_eq_true (by omega), h3, nmo, Bool.true_and, Bool.true_and]
          refine ⟨fun σ H' => Same H1 H' ∧ ∃ g, σ = [some (.ref p), none, some (.bl g)] ∧ kindW NM (ws ps) = (g && (eqS (at_ (ws ps) 6) "yes" || eqS (at_ (ws ps) 6) "no")), ?_, ?_⟩
          · refine ⟨_, rfl, p, _, _, _, rfl, rfl, SqT.of hp.at_, A4, v4, _, rfl, w4, fun H2 s2 => ⟨_, rfl, ?_⟩⟩
            replace hp := hp.up s2
            replace w5 := w5.up s2
            cases hc4 : callW NM (at_ (ws ps) 4) with
            | false => exact iteF ⟨s2, _, rfl, by rw [ea, hc4, Bool.false_and, Bool.false_and]⟩
            | true =>
            obtain ⟨t, et, _⟩ := call_s hc4
            rw [et] at w4
            obtain ⟨rfl, _⟩ := w4
            refine iteT ⟨_, rfl, p, _, _, _, rfl, rfl, SqT.of hp.at_, A4, _, rfl, p, _, _, _, rfl, rfl, SqT.of hp.at_, A1, rfl, _, rfl, ?_⟩
            rw [show decide (V.str t = V.str a0) = decide (t = a0) from decide_eq_decide.mpr (by rw [V.str.injEq])]
            have ea2 : kindW NM (ws ps) = (!decide (t = a0) && (fromW (at_ (ws ps) 5) 0 && (eqS (at_ (ws ps) 6) "yes" || eqS (at_ (ws ps) 6) "no"))) := by rw [ea, hc4, et, Bool.true_and]; rfl
            by_cases hta : t = a0
            · rw [decide_eq_true hta]
              exact iteF ⟨s2, _, rfl, by rw [ea2, decide_eq_true hta]; rfl⟩
            rw [decide_eq_false hta]
            refine iteT ⟨_, rfl, p, _, _, _, rfl, rfl, SqT.of hp.at_, A5, v5, _, rfl, w5, _, rfl, ?_⟩
            cases n5 : numW (at_ (ws ps) 5) with
            | false => exact iteF ⟨s2, _, rfl, by rw [ea2, decide_eq_false hta, from_of n5]; rfl⟩
            | true =>
            obtain ⟨z5, e5⟩ := num_i n5
            rw [e5] at w5
            cases w5
            exact iteT ⟨_, rfl, p, _, _, _, rfl, rfl, SqT.of hp.at_, A5, _, _, rfl, rfl, s2, _, rfl, by rw [ea2, decide_eq_false hta, e5]; rfl⟩
          rintro _ H2 ⟨s2, g, rfl, eg⟩
          replace hp := hp.up s2
          replace w6 := w6.up s2
          refine ⟨_, rfl, _, rfl, ?_⟩
          cases g with
          | false => exact iteF (go _ (by rw [eg, Bool.false_and]) H2 s2)
          | true =>
          refine iteT ⟨_, rfl, p, _, _, _, rfl, rfl, SqT.of hp.at_, A6, (by show 2 ≤ sizeLine; decide), fun l hl9 => ?_⟩
          have u9 := same_upd (o := .lst [.str "yes", .str "no"]) hl9
          exact inYN w6 (u9) upd_same (go _ (by rw [eg, Bool.true_and]) _ (s2.trans u9))
    | false =>
      refine iteF (iteF ?_)
      have nb : eqS (at_ (ws ps) 0) "bid" = false ∨ (ws ps).length ≠ 7 := .inl zb
      refine ⟨_, rfl, p, _, _, _, rfl, rfl, SqT.of hp.at_, A0, eqW_go w0 ⟨_, rfl, ?_⟩⟩
      cases zo : eqS (at_ (ws ps) 0) "off" with
      | true =>
        refine iteT ⟨_, rfl, p, _, rfl, .inr (SqT.of hp.at_), rfl, _, rfl, ?_⟩
        rw [vint, vs_len]
        have eo : kindW NM (ws ps) = (decide ((ws ps).length = 4) && decide (2 ≤ z3)) := by rw [kind_off zo]; unfold offW; rw [e3]; rfl
        by_cases hl : ps.length = 4
        · rw [decide_eq_true (by omega)]
          exact iteT ⟨_, rfl, p, _, _, _, rfl, rfl, SqT.of hp.at_, A3, _, _, rfl, rfl, go _ (by rw [eo, decide_eq_true (p := (ws ps).length = 4) (by omega), Bool.true_and]; exact decide_eq_decide.mpr (by omega)) H1 R0⟩
        · rw [decide_eq_false (by omega)]
          exact iteF (go _ (by rw [eo, decide_eq_false (by omega), Bool.false_and]) H1 R0)
      | false =>
      refine iteF ?_
      refine ⟨_, rfl, p, _, _, _, rfl, rfl, SqT.of hp.at_, A0, eqW_go w0 ⟨_, rfl, ?_⟩⟩
      cases zc : eqS (at_ (ws ps) 0) "close" with
      | true =>
        refine iteT ⟨_, rfl, p, _, rfl, .inr (SqT.of hp.at_), rfl, _, rfl, ?_⟩
        rw [vint, vs_len]
        by_cases hl : ps.length = 5
        · rw [decide_eq_true (by omega)]
          obtain ⟨v4, A4, w4⟩ := hp.get (j := 4) (by omega)
          exact iteT ⟨_, rfl, p, _, _, _, rfl, rfl, SqT.of hp.at_, A4, _, rfl, p, _, _, _, rfl, rfl, SqT.of hp.at_, A1, v4, _, a0, 0, rfl, w4, go _ (by rw [kind_close zc]; unfold closeW; rw [decide_eq_true (by omega), h3, nmo, Bool.true_and, Bool.true_and])⟩
        · rw [decide_eq_false (by omega)]
          refine iteF ?_
          have nc : eqS (at_ (ws ps) 0) "close" = false ∨ (ws ps).length ≠ 5 := .inr (by omega)
          refine ⟨_, rfl, p, _, _, _, rfl, rfl, SqT.of hp.at_, A0, eqW_go w0 ⟨_, rfl, ?_⟩⟩
          cases za : eqS (at_ (ws ps) 0) "answer" with
          | false => exact iteF (iteF (go _ (kind_none nb zo nc (.inl za)).symm H1 R0))
          | true =>
          refine iteT ⟨_, rfl, p, _, rfl, .inr (SqT.of hp.at_), rfl, _, rfl, ?_⟩
          rw [vint, vs_len]
          by_cases hl : ps.length = 7
          case neg => rw [decide_eq_false (by omega)]; exact iteF (go _ (kind_none nb zo nc (.inr (by omega))).symm H1 R0)
          rw [decide_eq_true (by omega)]
          refine iteT ?_
          obtain ⟨v4, A4, w4⟩ := hp.get (j := 4) (by omega)
          obtain ⟨v5, A5, w5⟩ := hp.get (j := 5) (by omega)
          obtain ⟨v6, A6, w6⟩ := hp.get (j := 6) (by omega)
          have ea : kindW NM (ws ps) = (callW NM (at_ (ws ps) 4) && (!eqS (at_ (ws ps) 4) a0 && (fromW (at_ (ws ps) 5) 0 && (eqS (at_ (ws ps) 6) "yes" || eqS (at_ (ws ps) 6) "no")))) := by rw [kind_ans za]; unfold ansW; rw [decide_eq_true (by omega), h3, nmo, Bool.true_and, Bool.true_and]
          refine ⟨fun σ H' => Same H1 H' ∧ ∃ g, σ = [some (.ref p), none, some (.bl g)] ∧ kindW NM (ws ps) = (g && (eqS (at_ (ws ps) 6) "yes" || eqS (at_ (ws ps) 6) "no")), ?_, ?_⟩
          · refine ⟨_, rfl, p, _, _, _, rfl, rfl, SqT.of hp.at_, A4, v4, _, rfl, w4, fun H2 s2 => ⟨_, rfl, ?_⟩⟩
            replace hp := hp.up s2
            replace w5 := w5.up s2
            cases hc4 : callW NM (at_ (ws ps) 4) with
            | false => exact iteF ⟨s2, _, rfl, by rw [ea, hc4, Bool.false_and, Bool.false_and]⟩
            | true =>
            obtain ⟨t, et, _⟩ := call_s hc4
            rw [et] at w4
            obtain ⟨rfl, _⟩ := w4
            refine iteT ⟨_, rfl, p, _, _, _, rfl, rfl, SqT.of hp.at_, A4, _, rfl, p, _, _, _, rfl, rfl, SqT.of hp.at_, A1, rfl, _, rfl, ?_⟩
            rw [show decide (V.str t = V.str a0) = decide (t = a0) from decide_eq_decide.mpr (by rw [V.str.injEq])]
            have ea2 : kindW NM (ws ps) = (!decide (t = a0) && (fromW (at_ (ws ps) 5) 0 && (eqS (at_ (ws ps) 6) "yes" || eqS (at_ (ws ps) 6) "no"))) := by rw [ea, hc4, et, Bool.true_and]; rfl
            by_cases hta : t = a0
            · rw [decide_eq_true hta]
              exact iteF ⟨s2, _, rfl, by rw [ea2, decide_eq_true hta]; rfl⟩
            rw [decide_eq_false hta]
            refine iteT ⟨_, rfl, p, _, _, _, rfl, rfl, SqT.of hp.at_, A5, v5, _, rfl, w5, _, rfl, ?_⟩
            cases n5 : numW (at_ (ws ps) 5) with
            | false => exact iteF ⟨s2, _, rfl, by rw [ea2, decide_eq_false hta, from_of n5]; rfl⟩
            | true =>
            obtain ⟨z5, e5⟩ := num_i n5
            rw [e5] at w5
            cases w5
            exact iteT ⟨_, rfl, p, _, _, _, rfl, rfl, SqT.of hp.at_, A5, _, _, rfl, rfl, s2, _, rfl, by rw [ea2, decide_eq_false hta, e5]; rfl⟩
          rintro _ H2 ⟨s2, g, rfl, eg⟩
          replace hp := hp.up s2
          replace w6 := w6.up s2
          refine ⟨_, rfl, _, rfl, ?_⟩
          cases g with
          | false => exact iteF (go _ (by rw [eg, Bool.false_and]) H2 s2)
          | true =>
          refine iteT ⟨_, rfl, p, _, _, _, rfl, rfl, SqT.of hp.at_, A6, (by show 2 ≤ sizeLine; decide), fun l hl9 => ?_⟩
          have u9 := same_upd (o := .lst [.str "yes", .str "no"]) hl9
          exact inYN w6 (u9) upd_same (go _ (by rw [eg, Bool.true_and]) _ (s2.trans u9))
      | false =>
        refine iteF (iteF ?_)
        have nc : eqS (at_ (ws ps) 0) "close" = false ∨ (ws ps).length ≠ 5 := .inl zc
        refine ⟨_, rfl, p, _, _, _, rfl, rfl, SqT.of hp.at_, A0, eqW_go w0 ⟨_, rfl, ?_⟩⟩
        cases za : eqS (at_ (ws ps) 0) "answer" with
        | false => exact iteF (iteF (go _ (kind_none nb zo nc (.inl za)).symm H1 R0))
        | true =>
        refine iteT ⟨_, rfl, p, _, rfl, .inr (SqT.of hp.at_), rfl, _, rfl, ?_⟩
        rw [vint, vs_len]
        by_cases hl : ps.length = 7
        case neg => rw [decide_eq_false (by omega)]; exact iteF (go _ (kind_none nb zo nc (.inr (by omega))).symm H1 R0)
        rw [decide_eq_true (by omega)]
        refine iteT ?_
        obtain ⟨v4, A4, w4⟩ := hp.get (j := 4) (by omega)
        obtain ⟨v5, A5, w5⟩ := hp.get (j := 5) (by omega)
        obtain ⟨v6, A6, w6⟩ := hp.get (j := 6) (by omega)
        have ea : kindW NM (ws ps) = (callW NM (at_ (ws ps) 4) && (!eqS (at_ (ws ps) 4) a0 && (fromW (at_ (ws ps) 5) 0 && (eqS (at_ (ws ps) 6) "yes" || eqS (at_ (ws ps) 6) "no")))) := by rw [kind_ans za]; unfold ansW; rw [decide_eq_true (by omega), h3, nmo, Bool.true_and, Bool.true_and]
        refine ⟨fun σ H' => Same H1 H' ∧ ∃ g, σ = [some (.ref p), none, some (.bl g)] ∧ kindW NM (ws ps) = (g && (eqS (at_ (ws ps) 6) "yes" || eqS (at_ (ws ps) 6) "no")), ?_, ?_⟩
        · refine ⟨_, rfl, p, _, _, _, rfl, rfl, SqT.of hp.at_, A4, v4, _, rfl, w4, fun H2 s2 => ⟨_, rfl, ?_⟩⟩
          replace hp := hp.up s2
          replace w5 := w5.up s2
          cases hc4 : callW NM (at_ (ws ps) 4) with
          | false => exact iteF ⟨s2, _, rfl, by rw [ea, hc4, Bool.false_and, Bool.false_and]⟩
          | true =>
          obtain ⟨t, et, _⟩ := call_s hc4
          rw [et] at w4
          obtain ⟨rfl, _⟩ := w4
          refine iteT ⟨_, rfl, p, _, _, _, rfl, rfl, SqT.of hp.at_, A4, _, rfl, p, _, _, _, rfl, rfl, SqT.of hp.at_, A1, rfl, _, rfl, ?_⟩
          rw [show decide (V.str t = V.str a0) = decide (t = a0) from decide_eq_decide.mpr (by rw [V.str.injEq])]
          have ea2 : kindW NM (ws ps) = (!decide (t = a0) && (fromW (at_ (ws ps) 5) 0 && (eqS (at_ (ws ps) 6) "yes" || eqS (at_ (ws ps) 6) "no"))) := by rw [ea, hc4, et, Bool.true_and]; rfl
          by_cases hta : t = a0
          · rw [decide_eq_true hta]
            exact iteF ⟨s2, _, rfl, by rw [ea2, decide_eq_true hta]; rfl⟩
          rw [decide_eq_false hta]
          refine iteT ⟨_, rfl, p, _, _, _, rfl, rfl, SqT.of hp.at_, A5, v5, _, rfl, w5, _, rfl, ?_⟩
          cases n5 : numW (at_ (ws ps) 5) with
          | false => exact iteF ⟨s2, _, rfl, by rw [ea2, decide_eq_false hta, from_of n5]; rfl⟩
          | true =>
          obtain ⟨z5, e5⟩ := num_i n5
          rw [e5] at w5
          cases w5
          exact iteT ⟨_, rfl, p, _, _, _, rfl, rfl, SqT.of hp.at_, A5, _, _, rfl, rfl, s2, _, rfl, by rw [ea2, decide_eq_false hta, e5]; rfl⟩
        rintro _ H2 ⟨s2, g, rfl, eg⟩
        replace hp := hp.up s2
        replace w6 := w6.up s2
        refine ⟨_, rfl, _, rfl, ?_⟩
        cases g with
        | false => exact iteF (go _ (by rw [eg, Bool.false_and]) H2 s2)
        | true =>
        refine iteT ⟨_, rfl, p, _, _, _, rfl, rfl, SqT.of hp.at_, A6, (by show 2 ≤ sizeLine; decide), fun l hl9 => ?_⟩
        have u9 := same_upd (o := .lst [.str "yes", .str "no"]) hl9
        exact inYN w6 (u9) upd_same (go _ (by rw [eg, Bool.true_and]) _ (s2.trans u9))
end
end K61

namespace K61
open PySem L2 DW
section
variable {P : Program} {w : World} {K : PySem.W.Frag} {mg : Str → Option Value} {base : Heap} {a : Adr}
theorem sc_law_altered : FnScope ["_law_letter", "_law_names", "_law_cell", "_law_at", "_law_way", "_law_hands", "_law_made"] ["_law_letter", "_law_names", "_law_cell"] (defScope s_law_altered) := ⟨rfl, rfl, rfl, by decide +kernel, rfl, by decide +kernel, by decide +kernel⟩

theorem ok_law_altered (T : Txt K mg a) : FnOk P w K mg base CX0 true 3 a.f_law_altered a.d_law_altered ["_law_letter", "_law_names", "_law_cell"] (sp_law_altered) := by
  refine T.F_law_altered.ok sc_law_altered (fun vs H Q E h => ?_) (fun cdv A outer s H vs Q E hr h => ?_)
  · obtain ⟨p, L, ps, ns, c, rfl, _⟩ := h; rfl
  · obtain ⟨p, L, ps, ns, c, rfl, hp, hL, hN, k⟩ := h
    refine ⟨_, (pss_cons (ps_set (i := 3) sc_law_altered.nd rfl (Or.inl rfl) (pe_call ((ok_law_mixed T).mono (by decide)) hr rfl T.m_law_mixed T.F_law_mixed.kp T.b_law_mixed .nil pass0 (pa_cons (pv 2) (pa_cons pe_int (pa_cons (pe_callB (call_len_seqK (K := K) rfl) rfl T.n_len (by decide +kernel) (pa_cons (pv 0) pa_nil)) pa_nil)))))
      (pss_cons (ps_set (i := 4) sc_law_altered.nd rfl (Or.inl rfl) (pe_call ((ok_law_mixed T).mono (by decide)) hr rfl T.m_law_mixed T.F_law_mixed.kp T.b_law_mixed .nil pass0 (pa_cons (pv 2) (pa_cons pe_int (pa_cons pe_int pa_nil)))))
      (pss_cons (ps_if (pt_cmpR op_eq (pv 4) pe_int (nomark _)) (pss_one (ps_ret (pe_op op_catA (pe_slice sl_tupA (pv 0) po_none (po_some (pv 3))) (pe_slice sl_tupA (pv 0) (po_some (pe_op op_add (pv 3) pe_int)) po_none)))) pss_nil)
      (pss_cons (ps_if (pt_cmpR op_eq (pv 4) pe_int (nomark _)) (pss_one (ps_ret (pe_op op_catA (pe_op op_catA (pe_slice sl_tupA (pv 0) po_none (po_some (pv 3))) (pe_tup (pa_cons (pe_ix (ix_tupK (K := K) rfl) (pv 0) (pv 3) (fun _ _ => rfl)) pa_nil))) (pe_slice sl_tupA (pv 0) (po_some (pv 3)) po_none)))) pss_nil)
      (pss_cut (ps_if (PW.pt (pw_and (pt_cmpR op_lt (pv 4) pe_int (nomark _)) (pw_and1 (pt_cmpR (op_eqW (hu_of hr)) (pe_ix (ix_tupK (K := K) rfl) (pv 0) pe_int (fun _ _ => rfl)) pe_str (nomark _))))) (pss_one (ps_ret (pe_op op_catA (pe_op op_catA (pe_slice sl_tupA (pv 0) po_none (po_some pe_int)) (pe_tup (pa_cons (pe_op op_add (pe_ix (ix_tupK (K := K) rfl) (pv 0) pe_int (fun _ _ => rfl)) (pe_ix (ix_listK (K := K) rfl) (pe_lst (pa_lits [.int 0, .int (-1), .int 1] (by decide +kernel))) (pe_op op_sub (pv 4) pe_int) (fun _ _ => rfl))) pa_nil))) (pe_slice sl_tupA (pv 0) (po_some pe_int) po_none)))) pss_nil)
      (pss_cut (ps_if (PW.pt (pw_and (pt_cmpR op_lt (pv 4) pe_int (nomark _)) (pw_and1 (pt_val (pe_callB (call_isinstK (K := K) rfl) rfl T.n_isinstance (by decide +kernel) (pa_cons (pe_ix (ix_tupK (K := K) rfl) (pv 0) (pe_un un_neg pe_int) (fun _ _ => rfl)) (pa_cons (pe_bltn (v := .ty "tuple") rfl T.n_tuple (by decide +kernel) rfl) pa_nil))))))) (pss_cons (ps_set (i := 5) sc_law_altered.nd rfl (Or.inl rfl) (pe_ix (ix_tupK (K := K) rfl) (pv 0) (pe_un un_neg pe_int) (fun _ _ => rfl)))
      (pss_cons (ps_set (i := 6) sc_law_altered.nd rfl (Or.inl rfl) (pe_lst (pa_cons (pe_revT (pv 5)) (pa_cons (pe_op op_catA (pv 5) (pe_slice sl_tupA (pv 5) (po_some (pe_un un_neg pe_int)) po_none)) (pa_cons (pe_op op_catA (pe_slice sl_tupA (pv 5) (po_some pe_int) po_none) (pe_slice sl_tupA (pv 5) po_none (po_some pe_int))) pa_nil)))))
      (pss_one (ps_ret (pe_op op_catA (pe_slice sl_tupA (pv 0) po_none (po_some (pe_un un_neg pe_int))) (pe_tup (pa_cons (pe_ix (ix_listK (K := K) rfl) (pv 6) (pe_call ((ok_law_mixed T).mono (by decide)) hr rfl T.m_law_mixed T.F_law_mixed.kp T.b_law_mixed .nil pass0 (pa_cons (pv 2) (pa_cons pe_int (pa_cons pe_int pa_nil)))) (fun _ _ => rfl)) pa_nil))))))) pss_nil)
      (pss_one (ps_ret (pe_op op_catA (pe_op op_catA (pe_slice sl_tupA (pv 0) po_none (po_some (pv 3))) (pe_tup (pa_cons (pe_call ((ok_law_strange T).mono (by decide)) hr rfl T.m_law_strange T.F_law_strange.kp T.b_law_strange .nil pass0 (pa_cons (pe_ix (ix_tupK (K := K) rfl) (pv 0) (pv 3) (fun _ _ => rfl)) (pa_cons (pv 0) (pa_cons (pv 1) (pa_cons (pv 2) pa_nil))))) pa_nil))) (pe_slice sl_tupA (pv 0) (po_some (pe_op op_add (pv 3) pe_int)) po_none)))))))))), ?_⟩
    have hp1 := hp.is.at_
    have hlo := hp.lo
    have hhi := hp.hi
    refine ⟨_, rfl, _, rfl, p, _, rfl, .inr (SqT.of hp1), _, _, _, rfl, by decide, by decide, (by rw [vs_len]; omega), fun at0 a0 a1 => ?_⟩
    rw [vs_len] at a1
    obtain ⟨n, rfl⟩ : ∃ n : Nat, at0 = (n : Int) := ⟨at0.toNat, by omega⟩
    obtain ⟨b1, e1, m1, n1⟩ := cut_vs ps none (some (n : Int))
    obtain ⟨b2, e2, m2, n2⟩ := cut_vs ps (some ((n : Int) + 1)) none
    obtain ⟨vn, An, wn, on⟩ := hp.getO (j := n) (by omega)
    refine ⟨_, rfl, _, _, _, rfl, by decide, by decide, by decide, fun wy y0 y1 => ?_⟩
    refine ⟨_, rfl, rfl, _, rfl, ite2 (fun _ => ?_) (fun z0 => ?_)⟩
    · refine ⟨_, rfl, _, rfl, _, rfl, p, _, rfl, hp1, fun q1 H1 s1 hq1 => ?_⟩
      rw [e1] at hq1
      refine ⟨_, rfl, _, rfl, _, _, rfl, rfl, _, rfl, p, _, rfl, s1 _ _ hp1, fun q2 H2 s2 hq2 => ?_⟩
      rw [e2] at hq2
      exact ⟨q1, q2, _, _, rfl, rfl, s2 _ _ hq1, hq2, (by rw [vs_len, vs_len]; exact Nat.le_trans (by omega : _ ≤ 1000) (by decide)), fun q3 H3 s3 hq3 => k q3 _ H3 ((s1.trans s2).trans s3) (LetAt.mk' hq3 (fun q hq => (hp.is.ok q (m1 q hq)).up ((s1.trans s2).trans s3)) (fun q hq => (hp.is.ok q (m2 q hq)).up ((s1.trans s2).trans s3)) (by omega))⟩
    refine ⟨_, rfl, rfl, _, rfl, ite2 (fun _ => ?_) (fun z1 => ?_)⟩
    · refine ⟨_, rfl, _, rfl, _, rfl, p, _, rfl, hp1, fun q1 H1 s1 hq1 => ?_⟩
      rw [e1] at hq1
      refine ⟨_, rfl, _, rfl, p, _, _, _, rfl, rfl, SqT.of (s1 _ _ hp1), An, (by show 1 ≤ sizeLine; decide), fun t1 ht1 => ?_⟩
      have u1 := same_upd (o := .tup [vn]) ht1
      refine ⟨q1, t1, _, _, rfl, rfl, u1 _ _ hq1, upd_same, (by rw [vs_len]; exact Nat.le_trans (by show _ + 1 ≤ 1000; omega) (by decide)), fun q2 H2 s2 hq2 => ?_⟩
      have S2 := (s1.trans u1).trans s2
      refine ⟨_, rfl, _, rfl, _, rfl, p, _, rfl, S2 _ _ hp1, fun q3 H3 s3 hq3 => ?_⟩
      obtain ⟨b3, e3, m3, n3⟩ := cut_vs ps (some (n : Int)) none
      rw [e3] at hq3
      exact ⟨q2, q3, _, _, rfl, rfl, s3 _ _ hq2, hq3, (by rw [List.length_append, vs_len, vs_len]; exact Nat.le_trans (by show _ + 1 + _ ≤ 1000; omega) (by decide)), fun q4 H4 s4 hq4 => k q4 _ H4 ((S2.trans s3).trans s4) (LetAt.mk3 hq4 (fun q hq => (hp.is.ok q (m1 q hq)).up ((S2.trans s3).trans s4)) (wn.up ((S2.trans s3).trans s4)) (fun q hq => (hp.is.ok q (m3 q hq)).up ((S2.trans s3).trans s4)) (by omega))⟩
    have z0' : ¬ wy = 0 := fun e => z0 (by rw [e]; decide)
    have z1' : ¬ wy = 1 := fun e => z1 (by rw [e]; decide)
    refine ⟨fun σ H' => H' = H ∧ σ = [some (.ref p), some (.ref L), some (.int c), some (.int (n : Int)), some (.int wy), none, none], ?_, ?_⟩
    · refine ⟨_, rfl, _, _, rfl, rfl, _, rfl, ite2 (fun z5 => ?_) (fun _ => iteF ⟨rfl, rfl⟩)⟩
      have z5' : wy < 5 := of_decide_eq_true z5
      obtain ⟨v0, A0, w0, _⟩ := hp.getO (j := 0) (by omega)
      refine ⟨_, rfl, p, _, _, _, rfl, rfl, SqT.of hp1, A0, eqW_go w0 ⟨_, rfl, ?_⟩⟩
      cases zb : eqS (at_ (ws ps) 0) "bid" with
      | false => exact iteF ⟨rfl, rfl⟩
      | true =>
      obtain ⟨h7, z4, e4⟩ := hp.bid zb
      obtain ⟨v4, A4, w4, _⟩ := hp.getO (j := 4) (by omega)
      rw [e4] at w4
      cases w4
      refine iteT ⟨_, rfl, _, rfl, p, _, rfl, hp1, fun q1 H1 s1 hq1 => ?_⟩
      obtain ⟨b5, e5, m5, n5⟩ := cut_vs ps none (some 5)
      rw [e5] at hq1
      refine ⟨_, rfl, p, _, _, _, rfl, rfl, SqT.of (s1 _ _ hp1), A4, (by show 3 ≤ sizeLine; decide), fun l hl => ?_⟩
      have u0 := same_upd (o := .lst [.int 0, .int (-1), .int 1]) hl
      obtain ⟨x, _, ex⟩ := atI_ints (ts := [0, -1, 1]) (i := wy - 2) (by omega) (by show wy - 2 < 3; omega)
      refine ⟨_, rfl, _, _, rfl, rfl, l, _, _, _, rfl, rfl, SqL.of upd_same, ex, _, _, rfl, rfl, (by show 1 ≤ sizeLine; decide), fun t1 ht1 => ?_⟩
      have u1 := same_upd (o := .tup [.int (z4 + x)]) ht1
      refine ⟨q1, t1, _, _, rfl, rfl, u1 _ _ (u0 _ _ hq1), upd_same, (by rw [vs_len]; exact Nat.le_trans (by show _ + 1 ≤ 1000; omega) (by decide)), fun q2 H2 s2 hq2 => ?_⟩
      have S2 := ((s1.trans u0).trans u1).trans s2
      refine ⟨_, rfl, _, rfl, p, _, rfl, S2 _ _ hp1, fun q3 H3 s3 hq3 => ?_⟩
      obtain ⟨b6, e6, m6, n6⟩ := cut_vs ps (some 6) none
      rw [e6] at hq3
      exact ⟨q2, q3, _, _, rfl, rfl, s3 _ _ hq2, hq3, (by rw [List.length_append, vs_len, vs_len]; exact Nat.le_trans (by show _ + 1 + _ ≤ 1000; omega) (by decide)), fun q4 H4 s4 hq4 => k q4 _ H4 ((S2.trans s3).trans s4) (LetAt.mk3 (w := .i (z4 + x)) hq4 (fun q hq => (hp.is.ok q (m5 q hq)).up ((S2.trans s3).trans s4)) rfl (fun q hq => (hp.is.ok q (m6 q hq)).up ((S2.trans s3).trans s4)) (by omega))⟩
    rintro _ H9 ⟨e9, rfl⟩
    obtain rfl := e9.symm
    obtain ⟨vl, wl, Al, hwl, hol⟩ := hp.last
    have GL : ∀ {H' : Hp}, Same H H' → True := fun _ => trivial
    refine ⟨fun σ H' => H' = H ∧ σ = [some (.ref p), some (.ref L), some (.int c), some (.int (n : Int)), some (.int wy), none, none], ?_, ?_⟩
    · refine ⟨_, rfl, _, _, rfl, rfl, _, rfl, ite2 (fun _ => ?_) (fun _ => iteF ⟨rfl, rfl⟩)⟩
      cases wl with
      | n => exact hol.elim
      | b x => exact hol.elim
      | ti z => exact hol.elim
      | i z => cases hwl; exact ⟨_, rfl, _, rfl, p, _, _, _, rfl, rfl, SqT.of hp1, Al, _, _, _, _, rfl, TyOf.int _, rfl, _, rfl, iteF ⟨rfl, rfl⟩⟩
      | s t => obtain ⟨rfl, _⟩ := hwl; exact ⟨_, rfl, _, rfl, p, _, _, _, rfl, rfl, SqT.of hp1, Al, _, _, _, _, rfl, TyOf.str _, rfl, _, rfl, iteF ⟨rfl, rfl⟩⟩
      | ts l =>
      obtain ⟨r, rfl, hr, _⟩ := hwl
      have hll : l.length ≤ 22 := hol.1
      have hlt : ∀ t ∈ l, t.length ≤ 10000 := fun t ht => by have := hol.2 t ht; omega
      refine ⟨_, rfl, _, rfl, p, _, _, _, rfl, rfl, SqT.of hp1, Al, _, _, _, _, rfl, TyOf.tup hr, rfl, _, rfl, iteT ?_⟩
      refine ⟨_, rfl, _, rfl, p, _, _, _, rfl, rfl, SqT.of hp1, Al, ?_⟩
      refine ⟨_, rfl, r, _, rfl, hr, fun q1 hq1 => ?_⟩
      have u1 := same_upd (o := .tup (l.map V.str).reverse) hq1
      have T1 : TS (upd H q1 (.tup (l.map V.str).reverse)) q1 := ⟨l.reverse, by rw [upd_same, List.map_reverse], by rw [List.length_reverse]; omega, fun t ht => hlt t (List.mem_reverse.mp ht)⟩
      generalize upd H q1 (.tup (l.map V.str).reverse) = H4 at *
      have hr4 := u1 _ _ hr
      refine ⟨_, rfl, _, rfl, _, rfl, _, rfl, r, _, rfl, hr4, fun q2 H5 u2 hq2 => ?_⟩
      obtain ⟨l2, hq2', l2a, l2b⟩ := TS.cut hq2 (by omega) hlt
      have hr5 := u2 _ _ hr4
      refine ⟨r, q2, _, _, rfl, rfl, hr5, hq2', (by rw [List.length_map, List.length_map]; exact Nat.le_trans (by omega : l.length + l2.length ≤ 1000) (by decide)), fun q3 H6 u3 hq3 => ?_⟩
      have T3 : TS H6 q3 := TS.cat hq3 (by omega) hlt l2a l2b
      have hr6 := u3 _ _ hr5
      refine ⟨_, rfl, _, rfl, r, _, rfl, hr6, fun q4 H7 u4 hq4 => ?_⟩
      obtain ⟨l4, hq4', l4a, l4b⟩ := TS.cut hq4 (by omega) hlt
      have hr7 := u4 _ _ hr6
      refine ⟨_, rfl, _, rfl, r, _, rfl, hr7, fun q5 H8 u5 hq5 => ?_⟩
      obtain ⟨l5, hq5', l5a, l5b⟩ := TS.cut hq5 (by omega) hlt
      refine ⟨q4, q5, _, _, rfl, rfl, u5 _ _ hq4', hq5', (by rw [List.length_map, List.length_map]; exact Nat.le_trans (by omega : l4.length + l5.length ≤ 1000) (by decide)), fun q6 H9 u6 hq6 => ?_⟩
      have T6 : TS H9 q6 := TS.cat hq6 l4a l4b l5a l5b
      refine ⟨(by show 3 ≤ sizeLine; decide), fun Md hMd => ?_⟩
      have u7 := same_upd (o := .lst [.ref q1, .ref q3, .ref q6]) hMd
      have U := (((((u1.trans u2).trans u3).trans u4).trans u5).trans u6).trans u7
      have W1 := (((((T1.up u2).up u3).up u4).up u5).up u6).up u7
      have W3 := (((T3.up u4).up u5).up u6).up u7
      have W6 := T6.up u7
      have hMd' : (upd H9 Md (.lst [.ref q1, .ref q3, .ref q6])) Md = some (.lst [.ref q1, .ref q3, .ref q6]) := upd_same
      generalize upd H9 Md (.lst [.ref q1, .ref q3, .ref q6]) = HB at *
      refine ⟨_, rfl, _, rfl, _, rfl, p, _, rfl, U _ _ hp1, fun qa HC ua hqa => ?_⟩
      obtain ⟨b7, e7, m7, n7⟩ := cut_vs ps none (some (-1))
      rw [e7] at hqa
      refine ⟨_, rfl, _, rfl, _, _, _, rfl, by decide, by decide, by decide, fun j j0 j1 => ?_⟩
      obtain ⟨x, hx, ex⟩ := atI_any (xs := [V.ref q1, .ref q3, .ref q6]) j0 j1
      obtain ⟨wx, hxw⟩ : ∃ w, WV HB w x := by
        simp only [List.mem_cons, List.not_mem_nil, or_false] at hx
        rcases hx with rfl | rfl | rfl
        · exact W1.wv
        · exact W3.wv
        · exact W6.wv
      refine ⟨Md, _, _, _, rfl, rfl, SqL.of (ua _ _ hMd'), ex, (by show 1 ≤ sizeLine; decide), fun t1 ht1 => ?_⟩
      have ub := same_upd (o := .tup [x]) ht1
      refine ⟨qa, t1, _, _, rfl, rfl, ub _ _ hqa, upd_same, (by rw [vs_len]; exact Nat.le_trans (by show _ + 1 ≤ 1000; omega) (by decide)), fun qb HD uc hqb => ?_⟩
      have SD := ((U.trans ua).trans ub).trans uc
      refine k qb (b7 ++ [(x, wx)]) HD SD (LetAt.mk' (b := [(x, wx)]) hqb (fun q hq => (hp.is.ok q (m7 q hq)).up (SD)) (fun q hq => ?_) (by show _ + 1 ≤ 1000; omega))
      rw [List.mem_singleton] at hq
      subst hq
      exact hxw.up ((ua.trans ub).trans uc)
    rintro _ H9 ⟨e9, rfl⟩
    obtain rfl := e9.symm
    refine ⟨_, rfl, _, rfl, _, rfl, p, _, rfl, hp1, fun q1 H1 s1 hq1 => ?_⟩
    rw [e1] at hq1
    refine ⟨_, rfl, _, rfl, p, _, _, _, rfl, rfl, SqT.of (s1 _ _ hp1), An, _, rfl, _, rfl, _, rfl, vn, _, p, L, ps, ns, c, rfl, wn.up s1, on, hp.up s1, s1 _ _ hL, hN, fun v' w' H2 s2 hv' => ⟨(by show 1 ≤ sizeLine; decide), fun t1 ht1 => ?_⟩⟩
    have u1 := same_upd (o := .tup [v']) ht1
    refine ⟨q1, t1, _, _, rfl, rfl, u1 _ _ (s2 _ _ hq1), upd_same, (by rw [vs_len]; exact Nat.le_trans (by show _ + 1 ≤ 1000; omega) (by decide)), fun q2 H3 s3 hq2 => ?_⟩
    have S3 := ((s1.trans s2).trans u1).trans s3
    refine ⟨_, rfl, _, rfl, _, _, rfl, rfl, _, rfl, p, _, rfl, S3 _ _ hp1, fun q3 H4 s4 hq3 => ?_⟩
    rw [e2] at hq3
    exact ⟨q2, q3, _, _, rfl, rfl, s4 _ _ hq2, hq3, (by rw [List.length_append, vs_len, vs_len]; exact Nat.le_trans (by show _ + 1 + _ ≤ 1000; omega) (by decide)), fun q4 H5 s5 hq4 => k q4 _ H5 ((S3.trans s4).trans s5) (LetAt.mk3 hq4 (fun q hq => (hp.is.ok q (m1 q hq)).up ((S3.trans s4).trans s5)) (hv'.up (((u1.trans s3).trans s4).trans s5)) (fun q hq => (hp.is.ok q (m2 q hq)).up ((S3.trans s4).trans s5)) (by omega))⟩
end
end K61

namespace K61
open PySem L2 DW
section
variable {P : Program} {w : World} {K : PySem.W.Frag} {mg : Str → Option Value} {base : Heap} {a : Adr}
theorem sc_are_hands : FnScope ["value", "asker", "least"] ["value", "asker", "least"] (defScope s_are_hands) := ⟨rfl, rfl, rfl, by decide +kernel, rfl, by decide +kernel, by decide +kernel⟩

theorem ok_are_hands (T : Txt K mg a) : FnOk P w K mg base CX0 true 4 a.f_are_hands a.d_are_hands ["value", "asker", "least"] (sp_are_hands) := by
  refine T.F_are_hands.ok sc_are_hands (fun vs H Q E h => ?_) (fun cdv A outer s H vs Q E hr h => ?_)
  · obtain ⟨v, w, a0, m, rfl, _⟩ := h; rfl
  · obtain ⟨v, w, a0, m, rfl, hw, k⟩ := h
    refine ⟨_, (pss_cons (ps_if (PW.pt (pw_or (pt_not (pt_val (pe_callB (call_isinstK (K := K) rfl) rfl T.n_isinstance (by decide +kernel) (pa_cons (pv 0) (pa_cons (pe_bltn (v := .ty "tuple") rfl T.n_tuple (by decide +kernel) rfl) pa_nil))))) (pw_or (pt_cmpR op_lt (pe_callB (call_len_seqK (K := K) rfl) rfl T.n_len (by decide +kernel) (pa_cons (pv 0) pa_nil)) (pv 2) (nomark _)) (pw_or1 (pt_cmpR op_gt (pe_callB (call_len_seqK (K := K) rfl) rfl T.n_len (by decide +kernel) (pa_cons (pv 0) pa_nil)) (pe_globI rfl T.g_MOST_HANDS) (nomark _)))))) (pss_one (ps_ret pe_bl)) pss_nil)
      (pss_cons (ps_if (pt_not (pt_val (pe_callB (call_allK (K := K) rfl rfl) rfl T.n_all (by decide +kernel) (pa_cons (pe_comp (N := ["hand"]) (cap := [none]) (by show CompScope (defScope s_are_hands) _ ["value", "asker", "least"] _ _; exact ⟨rfl, by decide +kernel, by decide +kernel, by decide +kernel, by decide +kernel, rfl, by decide +kernel⟩) rfl (pi_tupK (K := K) rfl (pv 0)) (fun C s H fp => ⟨(pg_name (i := 0) (by show (["hand"] : List Str).Nodup; decide +kernel) rfl (Or.inl rfl) (.inr rfl)), pf_none, (pe_call ((ok_is_called T).mono (by decide)) hr rfl T.m_is_called T.F_is_called.kp T.b_is_called .nil pass0 (pa_cons (pv 0) pa_nil))⟩)) pa_nil)))) (pss_one (ps_ret pe_bl)) pss_nil)
      (pss_one (ps_ret (pe_and (pe_call ((ok_is_rising T).mono (by decide)) hr rfl T.m_is_rising T.F_is_rising.kp T.b_is_rising .nil pass0 (pa_cons (pv 0) pa_nil)) (pe_one (pe_cmpR (op_notIn_seqK (K := K) rfl) (pv 1) (pv 0) (by with_unfolding_all rfl)))))))), ?_⟩
    cases w with
    | n => cases hw; exact ⟨_, rfl, _, _, _, _, rfl, TyOf.non, rfl, _, rfl, ite2 (fun _ => iteT (k H (Same.refl _))) (fun z => absurd rfl z)⟩
    | b x => cases hw; exact ⟨_, rfl, _, _, _, _, rfl, TyOf.bl _, rfl, _, rfl, ite2 (fun _ => iteT (k H (Same.refl _))) (fun z => absurd rfl z)⟩
    | i z => cases hw; exact ⟨_, rfl, _, _, _, _, rfl, TyOf.int _, rfl, _, rfl, ite2 (fun _ => iteT (k H (Same.refl _))) (fun z => absurd rfl z)⟩
    | s t => obtain ⟨rfl, ht⟩ := hw; exact ⟨_, rfl, _, _, _, _, rfl, TyOf.str _, rfl, _, rfl, ite2 (fun _ => iteT (k H (Same.refl _))) (fun z => absurd rfl z)⟩
    | ti z =>
      obtain ⟨r, rfl, hr0⟩ := hw
      refine ⟨_, rfl, _, _, _, _, rfl, TyOf.tup hr0, rfl, _, rfl, ite2 (fun z => absurd z (by decide)) (fun _ => ?_)⟩
      refine ⟨_, rfl, r, _, rfl, .inr (SqT.of hr0), _, rfl, _, _, rfl, rfl, _, rfl, ite2 (fun _ => iteT (k H (Same.refl _))) (fun _ => ?_)⟩
      refine ⟨_, rfl, r, _, rfl, .inr (SqT.of hr0), _, _, rfl, rfl, _, rfl, ite2 (fun _ => (k H (Same.refl _))) (fun _ => ?_)⟩
      refine ⟨_, rfl, r, rfl, ⟨_, SqT.of hr0⟩, ?_⟩
      refine comp_pure (seq_tup (SqT.of hr0)) (fun _ => true) nmF (by show 1 ≤ 100000; decide) (fun x _ H' _ R hR => hR H' (Same.refl _)) ?_ (fun D H1 s1 hD0 hD => ?_)
      · intro x hx _ H' sm R hR
        rw [List.mem_singleton] at hx
        subst hx
        exact ⟨_, rfl, _, .i z, rfl, rfl, fun H2 s2 => hR H2 s2⟩
      refine ⟨D, [false], rfl, SqL.of hD, _, rfl, ite2 (fun _ => k H1 s1) (fun z => absurd rfl z)⟩
    | ts l =>
      obtain ⟨r, rfl, hr0, hl0, hl1⟩ := hw
      refine ⟨_, rfl, _, _, _, _, rfl, TyOf.tup hr0, rfl, _, rfl, ite2 (fun z => absurd z (by decide)) (fun _ => ?_)⟩
      refine ⟨_, rfl, r, _, rfl, .inr (SqT.of hr0), _, rfl, _, _, rfl, rfl, _, rfl, ?_⟩
      rw [List.length_map]
      have fin : ∀ b, b = handsW NM (.ts l) a0 m → ∀ H', Same H H' → Q (.bl b) H' := fun b e => by rw [e]; exact k
      refine ite2 (fun z => iteT ?_) (fun z => ?_)
      · have z' : (l.length : Int) < (m : Int) := of_decide_eq_true z
        exact fin _ (hands_few (by omega)) H (Same.refl _)
      have z1 : ¬ (l.length : Int) < (m : Int) := fun w => z (decide_eq_true w)
      refine ⟨_, rfl, r, _, rfl, .inr (SqT.of hr0), _, _, rfl, rfl, _, rfl, ?_⟩
      rw [List.length_map]
      refine ite2 (fun z => ?_) (fun z => ?_)
      · have z' : (20 : Int) < (l.length : Int) := of_decide_eq_true z
        exact fin _ (hands_many (by omega)) H (Same.refl _)
      have z2 : ¬ (20 : Int) < (l.length : Int) := fun w => z (decide_eq_true w)
      refine ⟨_, rfl, r, rfl, ⟨_, SqT.of hr0⟩, ?_⟩
      refine comp_pure (seq_tup (SqT.of hr0)) (fun _ => true) nmF (by rw [List.length_map]; omega) (fun x _ H' _ R hR => hR H' (Same.refl _)) ?_ (fun D H1 s1 hD0 hD => ?_)
      · intro x hx _ H' sm R hR
        obtain ⟨t, ht, rfl⟩ := List.mem_map.mp hx
        exact ⟨_, rfl, _, .s t, rfl, ⟨rfl, hl1 t ht⟩, fun H2 s2 => hR H2 s2⟩
      have hD' : H1 D = some (.lst ((l.map NM).map V.bl)) := by rw [hD, List.filter_eq_self.mpr (fun _ _ => rfl), List.map_map, List.map_map]; rfl
      refine ⟨D, _, rfl, SqL.of hD', ?_⟩
      rw [List.all_map]
      by_cases hn : l.all NM = true
      case neg => exact ⟨_, rfl, ite2 (fun _ => fin _ (hands_nm (Bool.eq_false_iff.mpr hn)) H1 s1) (fun z => absurd (by rw [show l.all (id ∘ NM) = false from Bool.eq_false_iff.mpr hn]; rfl) z)⟩
      rw [show l.all (id ∘ NM) = true from hn]
      refine ⟨_, rfl, iteF ?_⟩
      refine ⟨_, rfl, r, l, rfl, s1 _ _ hr0, hl0, fun H2 s2 => ⟨_, rfl, ?_⟩⟩
      cases hr1 : riseS l with
      | false => exact iteF (fin false (hands_rise hr1) H2 (s1.trans s2))
      | true =>
      refine iteT ?_
      refine ⟨_, rfl, _, rfl, r, _, rfl, .inr (SqT.of (s2 _ _ (s1 _ _ hr0))), rfl, flat_strs l, ?_⟩
      rw [inV_strs]
      exact fin _ (hands_go (by omega) (by omega) hn hr1).symm H2 (s1.trans s2)
end
end K61

namespace K61
open PySem L2 DW
section
variable {P : Program} {w : World} {K : PySem.W.Frag} {mg : Str → Option Value} {base : Heap} {a : Adr}
theorem sc_is_answer : FnScope ["letter"] ["letter"] (defScope s_is_answer) := ⟨rfl, rfl, rfl, by decide +kernel, rfl, by decide +kernel, by decide +kernel⟩

theorem ok_is_answer (T : Txt K mg a) : FnOk P w K mg base CX0 true 4 a.f_is_answer a.d_is_answer ["letter"] (LetP (ansW NM)) := by
  refine T.F_is_answer.ok sc_is_answer (fun vs H Q E h => ?_) (fun cdv A outer s H vs Q E hr h => ?_)
  · obtain ⟨p, ps, a0, rfl, _⟩ := h; rfl
  · obtain ⟨p, ps, a0, rfl, hp, h4, h1, k⟩ := h
    refine ⟨_, (pss_cons (ps_if (PW.pt (pw_or (pt_cmpR op_ne (pe_callB (call_len_seqK (K := K) rfl) rfl T.n_len (by decide +kernel) (pa_cons (pv 0) pa_nil)) pe_int (nomark _)) (pw_or1 (pt_not (pt_val (pe_call ((ok_is_from T).mono (by decide)) hr rfl T.m_is_from T.F_is_from.kp T.b_is_from .nil pass0 (pa_cons (pe_ix (ix_tupK (K := K) rfl) (pv 0) pe_int (fun _ _ => rfl)) (pa_cons pe_int pa_nil)))))))) (pss_one (ps_ret pe_bl)) pss_nil)
      (pss_cons (ps_if (PW.pt (pw_or (pt_not (pt_val (pe_call ((ok_is_called T).mono (by decide)) hr rfl T.m_is_called T.F_is_called.kp T.b_is_called .nil pass0 (pa_cons (pe_ix (ix_tupK (K := K) rfl) (pv 0) pe_int (fun _ _ => rfl)) pa_nil)))) (pw_or (pt_cmpR op_eq (pe_ix (ix_tupK (K := K) rfl) (pv 0) pe_int (fun _ _ => rfl)) (pe_ix (ix_tupK (K := K) rfl) (pv 0) pe_int (fun _ _ => rfl)) (nomark _)) (pw_or1 (pt_not (pt_val (pe_call ((ok_is_from T).mono (by decide)) hr rfl T.m_is_from T.F_is_from.kp T.b_is_from .nil pass0 (pa_cons (pe_ix (ix_tupK (K := K) rfl) (pv 0) pe_int (fun _ _ => rfl)) (pa_cons pe_int pa_nil))))))))) (pss_one (ps_ret pe_bl)) pss_nil)
      (pss_one (ps_ret (pe_or (pe_cmpR (op_eqW (hu_of hr)) (pe_ix (ix_tupK (K := K) rfl) (pv 0) pe_int (fun _ _ => rfl)) pe_str (nomark _)) (pe_one (pe_cmpR (op_eqW (hu_of hr)) (pe_ix (ix_tupK (K := K) rfl) (pv 0) pe_int (fun _ _ => rfl)) pe_str (nomark _)))))))), ?_⟩
    have fin : ∀ b, b = ansW NM (ws ps) → ∀ H', Same H H' → Q (.bl b) H' := fun b e => by rw [e]; exact k
    have wl := ws_len ps
    obtain ⟨v1, A1, w1⟩ := hp.get (j := 1) (by omega)
    obtain ⟨v3, A3, w3⟩ := hp.get (j := 3) (by omega)
    rw [h1] at w1
    obtain ⟨rfl, _⟩ := w1
    refine ⟨_, rfl, p, _, rfl, .inr (SqT.of hp.at_), rfl, _, rfl, ?_⟩
    rw [vint, vs_len]
    by_cases hl : ps.length = 7
    case neg => exact ite2 (fun _ => iteT (fin _ (by unfold ansW; rw [decide_eq_false (by omega), Bool.false_and]) H (Same.refl _))) (fun z => absurd (by rw [decide_eq_false (by omega)]; rfl) z)
    rw [decide_eq_true (by omega)]
    refine iteF ?_
    obtain ⟨v4, A4, w4⟩ := hp.get (j := 4) (by omega)
    obtain ⟨v5, A5, w5⟩ := hp.get (j := 5) (by omega)
    obtain ⟨v6, A6, w6⟩ := hp.get (j := 6) (by omega)
    have e1 : ansW NM (ws ps) = (fromW (at_ (ws ps) 3) 1 && (callW NM (at_ (ws ps) 4) && (!eqS (at_ (ws ps) 4) a0 && (fromW (at_ (ws ps) 5) 0 && (eqS (at_ (ws ps) 6) "yes" || eqS (at_ (ws ps) 6) "no"))))) := by unfold ansW; rw [decide_eq_true (by omega), Bool.true_and, nmOf_s h1]
    refine ⟨_, rfl, p, _, _, _, rfl, rfl, SqT.of hp.at_, A3, v3, _, 1, rfl, w3, _, rfl, ?_⟩
    cases hf : fromW (at_ (ws ps) 3) 1 with
    | false => exact ite2 (fun _ => fin _ (by rw [e1, hf, Bool.false_and]) H (Same.refl _)) (fun z => absurd rfl z)
    | true =>
    refine iteF ?_
    refine ⟨_, rfl, p, _, _, _, rfl, rfl, SqT.of hp.at_, A4, v4, _, rfl, w4, fun H1 s1 => ⟨_, rfl, ?_⟩⟩
    replace hp := hp.up s1
    replace w6 := w6.up s1
    replace w5 := w5.up s1
    cases hc : callW NM (at_ (ws ps) 4) with
    | false => exact ite2 (fun _ => iteT (fin _ (by rw [e1, hf, hc, Bool.false_and, Bool.and_false]) H1 s1)) (fun z => absurd rfl z)
    | true =>
    refine iteF ?_
    obtain ⟨t, et, _⟩ := call_s hc
    rw [et] at w4
    obtain ⟨rfl, _⟩ := w4
    have e2 : ansW NM (ws ps) = (!decide (t = a0) && (fromW (at_ (ws ps) 5) 0 && (eqS (at_ (ws ps) 6) "yes" || eqS (at_ (ws ps) 6) "no"))) := by rw [e1, hf, hc, et]; rfl
    refine ⟨_, rfl, p, _, _, _, rfl, rfl, SqT.of hp.at_, A4, _, rfl, p, _, _, _, rfl, rfl, SqT.of hp.at_, A1, rfl, _, rfl, ?_⟩
    rw [show decide (V.str t = V.str a0) = decide (t = a0) from decide_eq_decide.mpr (by rw [V.str.injEq])]
    by_cases ha : t = a0
    case pos => rw [decide_eq_true ha]; exact iteT (iteT (fin _ (by rw [e2, decide_eq_true ha]; rfl) H1 s1))
    rw [decide_eq_false ha]
    refine iteF ?_
    refine ⟨_, rfl, p, _, _, _, rfl, rfl, SqT.of hp.at_, A5, v5, _, 0, rfl, w5, _, rfl, ?_⟩
    cases h5 : fromW (at_ (ws ps) 5) 0 with
    | false => exact ite2 (fun _ => fin _ (by rw [e2, h5, decide_eq_false ha]; rfl) H1 s1) (fun z => absurd rfl z)
    | true =>
    refine iteF ?_
    have e3 : ansW NM (ws ps) = (eqS (at_ (ws ps) 6) "yes" || eqS (at_ (ws ps) 6) "no") := by rw [e2, h5, decide_eq_false ha]; rfl
    refine ⟨_, rfl, p, _, _, _, rfl, rfl, SqT.of hp.at_, A6, eqW_go w6 ⟨_, rfl, ?_⟩⟩
    cases h6 : eqS (at_ (ws ps) 6) "yes" with
    | true => exact iteT (fin _ (by rw [e3, h6, Bool.true_or]) H1 s1)
    | false => exact iteF ⟨_, rfl, p, _, _, _, rfl, rfl, SqT.of hp.at_, A6, eqW_go w6 (fin _ (by rw [e3, h6, Bool.false_or]) H1 s1)⟩
end
end K61

namespace K61
open PySem L2 DW
section
variable {P : Program} {w : World} {K : PySem.W.Frag} {mg : Str → Option Value} {base : Heap} {a : Adr}
theorem sc_law_letter_by : FnScope ["_law_cell", "_law_seed", "_law_names", "_law_asker", "_law_number", "_law_turn", "_law_way"] ["_law_cell", "_law_seed", "_law_names"] (defScope s_law_letter_by) := ⟨rfl, rfl, rfl, by decide +kernel, rfl, by decide +kernel, by decide +kernel⟩

theorem ok_law_letter_by (T : Txt K mg a) : FnOk P w K mg base CX0 true 4 a.f_law_letter_by a.d_law_letter_by ["_law_cell", "_law_seed", "_law_names"] (sp_law_letter_by) := by
  refine T.F_law_letter_by.ok sc_law_letter_by (fun vs H Q E h => ?_) (fun cdv A outer s H vs Q E hr h => ?_)
  · obtain ⟨L, ns, c, s, rfl, _⟩ := h; rfl
  · obtain ⟨L, ns, c, sd, rfl, hL, hN, k⟩ := h
    refine ⟨_, (pss_cons (ps_set (i := 3) sc_law_letter_by.nd rfl (Or.inl rfl) (pe_ix (ix_listK (K := K) rfl) (pv 2) (pe_call ((ok_law_mixed T).mono (by decide)) hr rfl T.m_law_mixed T.F_law_mixed.kp T.b_law_mixed .nil pass0 (pa_cons (pv 0) (pa_cons pe_int (pa_cons (pe_callB (call_min2 rfl) rfl T.n_min (by decide +kernel) (pa_cons pe_int (pa_cons (pe_callB (call_len_seqK (K := K) rfl) rfl T.n_len (by decide +kernel) (pa_cons (pv 2) pa_nil)) pa_nil))) pa_nil)))) (fun _ _ => rfl)))
      (pss_cons (ps_set (i := 4) sc_law_letter_by.nd rfl (Or.inl rfl) (pe_ix (ix_listK (K := K) rfl) (pe_lst (pa_cons pe_int (pa_cons pe_int (pa_cons pe_int (pa_cons pe_int (pa_cons (pe_op op_pow pe_int pe_int) pa_nil)))))) (pe_call ((ok_law_mixed T).mono (by decide)) hr rfl T.m_law_mixed T.F_law_mixed.kp T.b_law_mixed .nil pass0 (pa_cons (pv 0) (pa_cons pe_int (pa_cons pe_int pa_nil)))) (fun _ _ => rfl)))
      (pss_cons (ps_set (i := 5) sc_law_letter_by.nd rfl (Or.inl rfl) (pe_op op_add pe_int (pe_call ((ok_law_mixed T).mono (by decide)) hr rfl T.m_law_mixed T.F_law_mixed.kp T.b_law_mixed .nil pass0 (pa_cons (pv 0) (pa_cons pe_int (pa_cons (pe_ix (ix_listK (K := K) rfl) (pe_lst (pa_lits [.int 1, .int 2, .int 3] (by decide +kernel))) (pe_call ((ok_law_mixed T).mono (by decide)) hr rfl T.m_law_mixed T.F_law_mixed.kp T.b_law_mixed .nil pass0 (pa_cons (pv 0) (pa_cons pe_int (pa_cons pe_int pa_nil)))) (fun _ _ => rfl)) pa_nil))))))
      (pss_cut (ps_if (pt_cmpR op_eq (pe_call ((ok_law_mixed T).mono (by decide)) hr rfl T.m_law_mixed T.F_law_mixed.kp T.b_law_mixed .nil pass0 (pa_cons (pv 0) (pa_cons pe_int (pa_cons pe_int pa_nil)))) pe_int (nomark _)) (pss_one (ps_set (i := 5) sc_law_letter_by.nd rfl (Or.inl rfl) (pe_op op_add (pe_op op_pow pe_int pe_int) (pv 5)))) pss_nil)
      (pss_cons (ps_set (i := 6) sc_law_letter_by.nd rfl (Or.inl rfl) (pe_call ((ok_law_mixed T).mono (by decide)) hr rfl T.m_law_mixed T.F_law_mixed.kp T.b_law_mixed .nil pass0 (pa_cons (pv 0) (pa_cons pe_int (pa_cons pe_int pa_nil)))))
      (pss_cons (ps_if (pt_cmpR op_lt (pv 6) pe_int (nomark _)) (pss_one (ps_ret (pe_call ((ok_law_bid_of T).mono (by decide)) hr rfl T.m_law_bid_of T.F_law_bid_of.kp T.b_law_bid_of .nil pass0 (pa_cons (pv 1) (pa_cons (pv 2) (pa_cons (pv 3) (pa_cons (pv 4) (pa_cons (pv 5) pa_nil)))))))) pss_nil)
      (pss_cons (ps_if (pt_cmpR op_eq (pv 6) pe_int (nomark _)) (pss_one (ps_ret (pe_call ((ok_law_close_of T).mono (by decide)) hr rfl T.m_law_close_of T.F_law_close_of.kp T.b_law_close_of .nil pass0 (pa_cons (pv 1) (pa_cons (pv 2) (pa_cons (pv 3) (pa_cons (pv 4) (pa_cons (pv 5) pa_nil)))))))) pss_nil)
      (pss_one (ps_ret (pe_call ((ok_law_answer_of T).mono (by decide)) hr rfl T.m_law_answer_of T.F_law_answer_of.kp T.b_law_answer_of .nil pass0 (pa_cons (pv 1) (pa_cons (pv 2) (pa_cons (pv 3) (pa_cons (pv 4) (pa_cons (pv 5) (pa_cons (pv 0) pa_nil)))))))))))))))), ?_⟩
    have hlo := hN.lo
    refine ⟨_, rfl, _, rfl, _, rfl, L, _, rfl, .inl (SqL.of hL), _, _, rfl, _, _, _, rfl, by decide, by decide, (by rw [List.length_map]; split <;> omega), fun v v0 v1 => ?_⟩
    rw [List.length_map] at v1
    obtain ⟨a0, ha, ea⟩ := atI_strs (ts := ns) (i := v) v0 (by split at v1 <;> omega)
    refine ⟨L, _, _, _, rfl, rfl, SqL.of hL, ea, ?_⟩
    refine ⟨_, _, rfl, rfl, ⟨by decide, by decide, by decide⟩, (by show 5 ≤ sizeLine; decide), fun l hl => ⟨_, rfl, _, _, _, rfl, by decide, by decide, by decide, fun v2 x0 x1 => ?_⟩⟩
    obtain ⟨n, n0, n1, en⟩ := atI_pick (ts := [0, 0, 1, 2, 10 ^ (9 : Int).toNat]) (i := v2) 0 (10 ^ 9) x0 x1 (by decide)
    refine ⟨l, _, _, _, rfl, rfl, SqL.of upd_same, en, ?_⟩
    have s1 := same_upd (o := .lst [.int 0, .int 0, .int 1, .int 2, .int (10 ^ (9 : Int).toNat)]) hl
    replace hL := s1 _ _ hL
    generalize upd H l (.lst [.int 0, .int 0, .int 1, .int 2, .int (10 ^ (9 : Int).toNat)]) = H1 at *
    refine ⟨_, rfl, (by show 3 ≤ sizeLine; decide), fun l2 hl2 => ⟨_, rfl, _, _, _, rfl, by decide, by decide, by decide, fun v3 y0 y1 => ?_⟩⟩
    obtain ⟨wd, w0, w1, we⟩ := atI_pick (ts := [1, 2, 3]) (i := v3) 1 3 y0 y1 (by decide)
    refine ⟨l2, _, _, _, rfl, rfl, SqL.of upd_same, we, _, _, _, rfl, by decide, by decide, by omega, fun v4 z0 z1 => ⟨_, _, rfl, rfl, ?_⟩⟩
    have s2 := s1.trans (same_upd (o := .lst [.int 1, .int 2, .int 3]) hl2)
    replace hL := same_upd (o := .lst [.int 1, .int 2, .int 3]) hl2 _ _ hL
    generalize upd H1 l2 (.lst [.int 1, .int 2, .int 3]) = H2 at *
    refine ⟨fun σ H' => H' = H2 ∧ ∃ t : Int, 1 ≤ t ∧ t ≤ 10 ^ 10 ∧ σ = [some (.int c), some (.int sd), some (.ref L), some (.str a0), some (.int n), some (.int t), none], ?_, ?_⟩
    · refine ⟨_, rfl, _, _, _, rfl, by decide, by decide, by decide, fun u _ _ => ⟨rfl, _, rfl, ite2 (fun _ => ?_) (fun _ => ⟨rfl, _, by omega, by omega, rfl⟩)⟩⟩
      refine ⟨_, _, rfl, rfl, ⟨by decide, by decide, by decide⟩, _, rfl, _, _, rfl, rfl, rfl, _, ?_, ?_, rfl⟩
      · have : (10 : Int) ^ (9 : Int).toNat = 1000000000 := by decide
        rw [this]
        omega
      · have : (10 : Int) ^ (9 : Int).toNat = 1000000000 := by decide
        rw [this]
        omega
    rintro _ H3 ⟨e3, t, t0, t1, rfl⟩
    obtain rfl := e3.symm
    refine ⟨_, rfl, _, _, _, rfl, by decide, by decide, by decide, fun wy _ _ => ?_⟩
    have go : ∀ (p : Addr) (ps : List PW_) H', Same H2 H' → LetO AL H' p ps → Q (.ref p) H' := fun p ps H' s' h => k p ps H' (s2.trans s') h
    refine ⟨_, rfl, _, _, rfl, rfl, _, rfl, ite2 (fun _ => ⟨_, rfl, _, rfl, _, rfl, _, rfl, _, rfl, L, ns, a0, sd, n, t, [], rfl, rfl, hL, hN, ha, n0, n1, t0, t1, go⟩) (fun _ => ?_)⟩
    refine ⟨_, rfl, rfl, _, rfl, ite2 (fun _ => ⟨_, rfl, _, rfl, _, rfl, _, rfl, _, rfl, L, ns, a0, sd, n, t, [], rfl, rfl, hL, hN, ha, n0, n1, t0, t1, go⟩) (fun _ => ?_)⟩
    exact ⟨_, rfl, _, rfl, _, rfl, _, rfl, _, rfl, _, rfl, L, ns, a0, sd, n, t, [.int c], rfl, ⟨c, rfl⟩, hL, hN, ha, n0, n1, t0, t1, go⟩
end
end K61

namespace K61
open PySem L2 DW
section
variable {P : Program} {w : World} {K : PySem.W.Frag} {mg : Str → Option Value} {base : Heap} {a : Adr}
theorem sc_is_bid : FnScope ["letter"] ["letter"] (defScope s_is_bid) := ⟨rfl, rfl, rfl, by decide +kernel, rfl, by decide +kernel, by decide +kernel⟩

theorem ok_is_bid (T : Txt K mg a) : FnOk P w K mg base CX0 true 5 a.f_is_bid a.d_is_bid ["letter"] (LetP (bidW NM)) := by
  refine T.F_is_bid.ok sc_is_bid (fun vs H Q E h => ?_) (fun cdv A outer s H vs Q E hr h => ?_)
  · obtain ⟨p, ps, a0, rfl, _⟩ := h; rfl
  · obtain ⟨p, ps, a0, rfl, hp, h4, h1, k⟩ := h
    refine ⟨_, (pss_cons (ps_if (PW.pt (pw_or (pt_cmpR op_ne (pe_callB (call_len_seqK (K := K) rfl) rfl T.n_len (by decide +kernel) (pa_cons (pv 0) pa_nil)) pe_int (nomark _)) (pw_or1 (pt_not (pt_val (pe_call ((ok_is_from T).mono (by decide)) hr rfl T.m_is_from T.F_is_from.kp T.b_is_from .nil pass0 (pa_cons (pe_ix (ix_tupK (K := K) rfl) (pv 0) pe_int (fun _ _ => rfl)) (pa_cons pe_int pa_nil)))))))) (pss_one (ps_ret pe_bl)) pss_nil)
      (pss_cons (ps_if (PW.pt (pw_or (pt_not (pt_val (pe_call ((ok_is_number T).mono (by decide)) hr rfl T.m_is_number T.F_is_number.kp T.b_is_number .nil pass0 (pa_cons (pe_ix (ix_tupK (K := K) rfl) (pv 0) pe_int (fun _ _ => rfl)) pa_nil)))) (pw_or1 (pt_not (pt_val (pe_call ((ok_is_number T).mono (by decide)) hr rfl T.m_is_number T.F_is_number.kp T.b_is_number .nil pass0 (pa_cons (pe_ix (ix_tupK (K := K) rfl) (pv 0) pe_int (fun _ _ => rfl)) pa_nil))))))) (pss_one (ps_ret pe_bl)) pss_nil)
      (pss_one (ps_ret (pe_and (pe_call ((ok_is_span T).mono (by decide)) hr rfl T.m_is_span T.F_is_span.kp T.b_is_span .nil pass0 (pa_cons (pe_ix (ix_tupK (K := K) rfl) (pv 0) pe_int (fun _ _ => rfl)) (pa_cons (pe_ix (ix_tupK (K := K) rfl) (pv 0) pe_int (fun _ _ => rfl)) pa_nil))) (pe_one (pe_call ((ok_are_hands T).mono (by decide)) hr rfl T.m_are_hands T.F_are_hands.kp T.b_are_hands .nil pass0 (pa_cons (pe_ix (ix_tupK (K := K) rfl) (pv 0) pe_int (fun _ _ => rfl)) (pa_cons (pe_ix (ix_tupK (K := K) rfl) (pv 0) pe_int (fun _ _ => rfl)) (pa_cons pe_int pa_nil)))))))))), ?_⟩
    have fin : ∀ b, b = bidW NM (ws ps) → ∀ H', Same H H' → Q (.bl b) H' := fun b e => by rw [e]; exact k
    have wl := ws_len ps
    obtain ⟨v1, A1, w1⟩ := hp.get (j := 1) (by omega)
    obtain ⟨v3, A3, w3⟩ := hp.get (j := 3) (by omega)
    rw [h1] at w1
    obtain ⟨rfl, _⟩ := w1
    refine ⟨_, rfl, p, _, rfl, .inr (SqT.of hp.at_), rfl, _, rfl, ?_⟩
    rw [vint, vs_len]
    by_cases hl : ps.length = 7
    case neg => exact ite2 (fun _ => iteT (fin _ (by unfold bidW; rw [decide_eq_false (by omega), Bool.false_and]) H (Same.refl _))) (fun z => absurd (by rw [decide_eq_false (by omega)]; rfl) z)
    rw [decide_eq_true (by omega)]
    refine iteF ?_
    obtain ⟨v4, A4, w4⟩ := hp.get (j := 4) (by omega)
    obtain ⟨v5, A5, w5⟩ := hp.get (j := 5) (by omega)
    obtain ⟨v6, A6, w6⟩ := hp.get (j := 6) (by omega)
    have e1 : bidW NM (ws ps) = (fromW (at_ (ws ps) 3) 1 && (numW (at_ (ws ps) 4) && (numW (at_ (ws ps) 5) && (spanW (at_ (ws ps) 4) (at_ (ws ps) 5) && handsW NM (at_ (ws ps) 6) a0 1)))) := by unfold bidW; rw [decide_eq_true (by omega), Bool.true_and, nmOf_s h1]
    refine ⟨_, rfl, p, _, _, _, rfl, rfl, SqT.of hp.at_, A3, v3, _, 1, rfl, w3, _, rfl, ?_⟩
    cases hf : fromW (at_ (ws ps) 3) 1 with
    | false => exact ite2 (fun _ => fin _ (by rw [e1, hf, Bool.false_and]) H (Same.refl _)) (fun z => absurd rfl z)
    | true =>
    refine iteF ?_
    refine ⟨_, rfl, p, _, _, _, rfl, rfl, SqT.of hp.at_, A4, v4, _, rfl, w4, _, rfl, ?_⟩
    cases h4n : numW (at_ (ws ps) 4) with
    | false => exact ite2 (fun _ => iteT (fin _ (by rw [e1, hf, h4n, Bool.false_and, Bool.and_false]) H (Same.refl _))) (fun z => absurd rfl z)
    | true =>
    refine iteF ?_
    refine ⟨_, rfl, p, _, _, _, rfl, rfl, SqT.of hp.at_, A5, v5, _, rfl, w5, _, rfl, ?_⟩
    cases h5n : numW (at_ (ws ps) 5) with
    | false => exact ite2 (fun _ => fin _ (by rw [e1, hf, h4n, h5n, Bool.false_and, Bool.and_false, Bool.and_false]) H (Same.refl _)) (fun z => absurd rfl z)
    | true =>
    refine iteF ?_
    obtain ⟨b, eb⟩ := num_i h4n
    obtain ⟨e, ee⟩ := num_i h5n
    rw [eb] at w4
    rw [ee] at w5
    cases w4
    cases w5
    have e2 : bidW NM (ws ps) = (decide (b < e) && handsW NM (at_ (ws ps) 6) a0 1) := by rw [e1, hf, h4n, h5n, eb, ee]; rfl
    refine ⟨_, rfl, p, _, _, _, rfl, rfl, SqT.of hp.at_, A4, _, rfl, p, _, _, _, rfl, rfl, SqT.of hp.at_, A5, b, e, rfl, _, rfl, ?_⟩
    by_cases hbe : b < e
    · rw [decide_eq_true hbe]
      exact iteT ⟨_, rfl, p, _, _, _, rfl, rfl, SqT.of hp.at_, A6, _, rfl, p, _, _, _, rfl, rfl, SqT.of hp.at_, A1, v6, _, a0, 1, rfl, w6, fin _ (by rw [e2, decide_eq_true hbe, Bool.true_and])⟩
    · rw [decide_eq_false hbe]
      exact iteF (fin _ (by rw [e2, decide_eq_false hbe, Bool.false_and]) H (Same.refl _))
end
end K61

namespace K61
open PySem L2 DW
section
variable {P : Program} {w : World} {K : PySem.W.Frag} {mg : Str → Option Value} {base : Heap} {a : Adr}
theorem sc_is_close : FnScope ["letter"] ["letter"] (defScope s_is_close) := ⟨rfl, rfl, rfl, by decide +kernel, rfl, by decide +kernel, by decide +kernel⟩

theorem ok_is_close (T : Txt K mg a) : FnOk P w K mg base CX0 true 5 a.f_is_close a.d_is_close ["letter"] (LetP (closeW NM)) := by
  refine T.F_is_close.ok sc_is_close (fun vs H Q E h => ?_) (fun cdv A outer s H vs Q E hr h => ?_)
  · obtain ⟨p, ps, a0, rfl, _⟩ := h; rfl
  · obtain ⟨p, ps, a0, rfl, hp, h4, h1, k⟩ := h
    refine ⟨_, (pss_one (ps_ret (pe_and (pe_cmpR op_eq (pe_callB (call_len_seqK (K := K) rfl) rfl T.n_len (by decide +kernel) (pa_cons (pv 0) pa_nil)) pe_int (nomark _)) (pe_and (pe_call ((ok_is_from T).mono (by decide)) hr rfl T.m_is_from T.F_is_from.kp T.b_is_from .nil pass0 (pa_cons (pe_ix (ix_tupK (K := K) rfl) (pv 0) pe_int (fun _ _ => rfl)) (pa_cons pe_int pa_nil))) (pe_one (pe_call ((ok_are_hands T).mono (by decide)) hr rfl T.m_are_hands T.F_are_hands.kp T.b_are_hands .nil pass0 (pa_cons (pe_ix (ix_tupK (K := K) rfl) (pv 0) pe_int (fun _ _ => rfl)) (pa_cons (pe_ix (ix_tupK (K := K) rfl) (pv 0) pe_int (fun _ _ => rfl)) (pa_cons pe_int pa_nil))))))))), ?_⟩
    have fin : ∀ b, b = closeW NM (ws ps) → ∀ H', Same H H' → Q (.bl b) H' := fun b e => by rw [e]; exact k
    have wl := ws_len ps
    obtain ⟨v1, A1, w1⟩ := hp.get (j := 1) (by omega)
    obtain ⟨v3, A3, w3⟩ := hp.get (j := 3) (by omega)
    rw [h1] at w1
    obtain ⟨rfl, _⟩ := w1
    refine ⟨_, rfl, p, _, rfl, .inr (SqT.of hp.at_), rfl, _, rfl, ?_⟩
    rw [vint, vs_len]
    by_cases h : ps.length = 5
    case neg => rw [decide_eq_false (by omega)]; exact iteF (fin _ (by unfold closeW; rw [decide_eq_false (by omega), Bool.false_and]) H (Same.refl _))
    obtain ⟨v4, A4, w4⟩ := hp.get (j := 4) (by omega)
    rw [decide_eq_true (by omega)]
    refine iteT ⟨_, rfl, p, _, _, _, rfl, rfl, SqT.of hp.at_, A3, v3, _, 1, rfl, w3, _, rfl, ?_⟩
    have e1 : closeW NM (ws ps) = (fromW (at_ (ws ps) 3) 1 && handsW NM (at_ (ws ps) 4) a0 0) := by unfold closeW; rw [decide_eq_true (by omega), Bool.true_and, nmOf_s h1]
    cases hf : fromW (at_ (ws ps) 3) 1 with
    | false => exact iteF (fin _ (by rw [e1, hf, Bool.false_and]) H (Same.refl _))
    | true => exact iteT ⟨_, rfl, p, _, _, _, rfl, rfl, SqT.of hp.at_, A4, _, rfl, p, _, _, _, rfl, rfl, SqT.of hp.at_, A1, v4, _, a0, 0, rfl, w4, fin _ (by rw [e1, hf, Bool.true_and])⟩
end
end K61

namespace K61
open PySem L2 DW
section
variable {P : Program} {w : World} {K : PySem.W.Frag} {mg : Str → Option Value} {base : Heap} {a : Adr}
theorem sc_is_letter : FnScope ["letter"] ["letter"] (defScope s_is_letter) := ⟨rfl, rfl, rfl, by decide +kernel, rfl, by decide +kernel, by decide +kernel⟩

theorem ok_is_letter (T : Txt K mg a) : FnOk P w K mg base CX0 true 6 a.f_is_letter a.d_is_letter ["letter"] (sp_is_letter) := by
  refine T.F_is_letter.ok sc_is_letter (fun vs H Q E h => ?_) (fun cdv A outer s H vs Q E hr h => ?_)
  · obtain ⟨p, ps, rfl, _⟩ := h; rfl
  · obtain ⟨p, ps, rfl, hp, k⟩ := h
    refine ⟨_, (pss_cons (ps_if (PW.pt (pw_or (pt_not (pt_val (pe_callB (call_isinstK (K := K) rfl) rfl T.n_isinstance (by decide +kernel) (pa_cons (pv 0) (pa_cons (pe_bltn (v := .ty "tuple") rfl T.n_tuple (by decide +kernel) rfl) pa_nil))))) (pw_or1 (pt_cmpR op_lt (pe_callB (call_len_seqK (K := K) rfl) rfl T.n_len (by decide +kernel) (pa_cons (pv 0) pa_nil)) pe_int (nomark _))))) (pss_one (ps_ret pe_bl)) pss_nil)
      (pss_cons (ps_if (PW.pt (pw_or (pt_not (pt_val (pe_call ((ok_is_called T).mono (by decide)) hr rfl T.m_is_called T.F_is_called.kp T.b_is_called .nil pass0 (pa_cons (pe_ix (ix_tupK (K := K) rfl) (pv 0) pe_int (fun _ _ => rfl)) pa_nil)))) (pw_or1 (pt_not (pt_val (pe_call ((ok_is_from T).mono (by decide)) hr rfl T.m_is_from T.F_is_from.kp T.b_is_from .nil pass0 (pa_cons (pe_ix (ix_tupK (K := K) rfl) (pv 0) pe_int (fun _ _ => rfl)) (pa_cons pe_int pa_nil)))))))) (pss_one (ps_ret pe_bl)) pss_nil)
      (pss_cons (ps_if (pt_cmpR (op_eqW (hu_of hr)) (pe_ix (ix_tupK (K := K) rfl) (pv 0) pe_int (fun _ _ => rfl)) pe_str (nomark _)) (pss_one (ps_ret (pe_call ((ok_is_bid T).mono (by decide)) hr rfl T.m_is_bid T.F_is_bid.kp T.b_is_bid .nil pass0 (pa_cons (pv 0) pa_nil)))) pss_nil)
      (pss_cons (ps_if (pt_cmpR (op_eqW (hu_of hr)) (pe_ix (ix_tupK (K := K) rfl) (pv 0) pe_int (fun _ _ => rfl)) pe_str (nomark _)) (pss_one (ps_ret (pe_call ((ok_is_off T).mono (by decide)) hr rfl T.m_is_off T.F_is_off.kp T.b_is_off .nil pass0 (pa_cons (pv 0) pa_nil)))) pss_nil)
      (pss_cons (ps_if (pt_cmpR (op_eqW (hu_of hr)) (pe_ix (ix_tupK (K := K) rfl) (pv 0) pe_int (fun _ _ => rfl)) pe_str (nomark _)) (pss_one (ps_ret (pe_call ((ok_is_close T).mono (by decide)) hr rfl T.m_is_close T.F_is_close.kp T.b_is_close .nil pass0 (pa_cons (pv 0) pa_nil)))) pss_nil)
      (pss_one (ps_ret (pe_and (pe_cmpR (op_eqW (hu_of hr)) (pe_ix (ix_tupK (K := K) rfl) (pv 0) pe_int (fun _ _ => rfl)) pe_str (nomark _)) (pe_one (pe_call ((ok_is_answer T).mono (by decide)) hr rfl T.m_is_answer T.F_is_answer.kp T.b_is_answer .nil pass0 (pa_cons (pv 0) pa_nil))))))))))), ?_⟩
    have fin : ∀ b, b = isL NM (ws ps) → ∀ H', Same H H' → Q (.bl b) H' := fun b e => by rw [e]; exact k
    have wl := ws_len ps
    refine ⟨_, rfl, _, _, _, _, rfl, TyOf.tup hp.at_, rfl, _, rfl, ite2 (fun z => absurd z (by decide)) (fun _ => ?_)⟩
    refine ⟨_, rfl, p, _, rfl, .inr (SqT.of hp.at_), _, _, rfl, rfl, _, rfl, ?_⟩
    rw [vs_len]
    refine ite2 (fun z => ?_) (fun z => ?_)
    · have z' : (ps.length : Int) < 4 := of_decide_eq_true z
      exact fin _ (isL_len (by omega)).symm H (Same.refl _)
    have z' : ¬ (ps.length : Int) < 4 := fun w => z (decide_eq_true w)
    obtain ⟨v0, A0, w0⟩ := hp.get (j := 0) (by omega)
    obtain ⟨v1, A1, w1⟩ := hp.get (j := 1) (by omega)
    obtain ⟨v2, A2, w2⟩ := hp.get (j := 2) (by omega)
    refine ⟨_, rfl, p, _, _, _, rfl, rfl, SqT.of hp.at_, A1, v1, _, rfl, w1, fun H1 s1 => ⟨_, rfl, ?_⟩⟩
    replace hp := hp.up s1
    replace w2 := w2.up s1
    replace w0 := w0.up s1
    cases hc : callW NM (at_ (ws ps) 1) with
    | false => exact ite2 (fun _ => iteT (fin _ (isL_call hc).symm H1 s1)) (fun z => absurd rfl z)
    | true =>
    refine iteF ?_
    obtain ⟨a0, h1, _⟩ := call_s hc
    refine ⟨_, rfl, p, _, _, _, rfl, rfl, SqT.of hp.at_, A2, v2, _, 0, rfl, w2, _, rfl, ?_⟩
    cases h2 : fromW (at_ (ws ps) 2) 0 with
    | false => exact ite2 (fun _ => fin _ (isL_two h2).symm H1 s1) (fun z => absurd rfl z)
    | true =>
    refine iteF ?_
    have e1 := isL_go (nm := NM) (ws := ws ps) (by omega) hc h2
    have go : ∀ b, b = kindW NM (ws ps) → ∀ H', Same H1 H' → Q (.bl b) H' := fun b e H' s' => fin b (by rw [e1, e]) H' (s1.trans s')
    refine ⟨_, rfl, p, _, _, _, rfl, rfl, SqT.of hp.at_, A0, eqW_go w0 ⟨_, rfl, ?_⟩⟩
    refine ite2 (fun z => ⟨_, rfl, p, ps, a0, rfl, hp, by omega, h1, go _ (kind_bid z).symm⟩) (fun z1 => ?_)
    refine ⟨_, rfl, p, _, _, _, rfl, rfl, SqT.of hp.at_, A0, eqW_go w0 ⟨_, rfl, ?_⟩⟩
    refine ite2 (fun z => ⟨_, rfl, p, ps, a0, rfl, hp, by omega, h1, go _ (kind_off z).symm⟩) (fun z2 => ?_)
    refine ⟨_, rfl, p, _, _, _, rfl, rfl, SqT.of hp.at_, A0, eqW_go w0 ⟨_, rfl, ?_⟩⟩
    refine ite2 (fun z => ⟨_, rfl, p, ps, a0, rfl, hp, by omega, h1, go _ (kind_close z).symm⟩) (fun z3 => ?_)
    refine ⟨_, rfl, p, _, _, _, rfl, rfl, SqT.of hp.at_, A0, eqW_go w0 ⟨_, rfl, ?_⟩⟩
    cases z4 : eqS (at_ (ws ps) 0) "answer" with
    | true => exact iteT ⟨_, rfl, p, ps, a0, rfl, hp, by omega, h1, go _ (kind_ans z4).symm⟩
    | false => exact iteF (go _ (kind_none (.inl (Bool.eq_false_iff.mpr z1)) (Bool.eq_false_iff.mpr z2) (.inl (Bool.eq_false_iff.mpr z3)) (.inl z4)).symm H1 (Same.refl _))
end
end K61

namespace K61
open PySem L2 DW
section
variable {P : Program} {w : World} {K : PySem.W.Frag} {mg : Str → Option Value} {base : Heap} {a : Adr}
theorem sc_law : FnScope ["_law_script", "_law_names", "_law_name", "_law_at", "_law_sign", "_law_other", "_law_found", "_law_cell", "_law_letter", "_law_far", "_law_some_here", "_law_many", "_law_bid", "_law_close"] ["_law_script"] (defScope s_law) := ⟨rfl, rfl, rfl, by decide +kernel, rfl, by decide +kernel, by decide +kernel⟩

theorem ok_law (T : Txt K mg a) : FnOk P w K mg base CX0 true 7 a.f_law a.d_law ["_law_script"] (sp_law K) := by
  refine T.F_law.ok sc_law (fun vs H Q E h => ?_) (fun cdv A outer s H vs Q E hr h => ?_)
  · obtain ⟨sa, ns, rfl, _⟩ := h; rfl
  · obtain ⟨sa, ns, rfl, hS, hlen, k⟩ := h
    refine ⟨_, (pss_cons (ps_set (i := 1) sc_law.nd rfl (Or.inl rfl) (pe_call ((ok_law_names_by T).mono (by decide)) hr rfl T.m_law_names_by T.F_law_names_by.kp T.b_law_names_by .nil pass0 (pa_cons (pe_call ((ok_law_cell_at T).mono (by decide)) hr rfl T.m_law_cell_at T.F_law_cell_at.kp T.b_law_cell_at .nil pass0 (pa_cons (pv 0) (pa_cons pe_int pa_nil))) pa_nil)))
      (pss_cons (ps_for PassesOwn.never rfl (pi_listK (K := K) rfl (pe_slice (sl_listK (K := K) rfl) (pv 1) po_none (po_some pe_int))) (pg_name (i := 2) sc_law.nd rfl (Or.inl rfl)) (pss_cons (ps_set (i := 3) sc_law.nd rfl (Or.inl rfl) (pe_call ((ok_law_mixed T).mono (by decide)) hr rfl T.m_law_mixed T.F_law_mixed.kp T.b_law_mixed .nil pass0 (pa_cons (pe_call ((ok_law_cell_at T).mono (by decide)) hr rfl T.m_law_cell_at T.F_law_cell_at.kp T.b_law_cell_at .nil pass0 (pa_cons (pv 0) (pa_cons pe_int pa_nil))) (pa_cons pe_int (pa_cons (pe_callB call_len_str rfl T.n_len (by decide +kernel) (pa_cons (pv 2) pa_nil)) pa_nil)))))
      (pss_cons (ps_set (i := 4) sc_law.nd rfl (Or.inl rfl) (pe_ix ix_str pe_str (pe_call ((ok_law_mixed T).mono (by decide)) hr rfl T.m_law_mixed T.F_law_mixed.kp T.b_law_mixed .nil pass0 (pa_cons (pe_call ((ok_law_cell_at T).mono (by decide)) hr rfl T.m_law_cell_at T.F_law_cell_at.kp T.b_law_cell_at .nil pass0 (pa_cons (pv 0) (pa_cons pe_int pa_nil))) (pa_cons pe_int (pa_cons pe_int pa_nil)))) (fun _ _ => rfl)))
      (pss_cut (ps_set (i := 5) sc_law.nd rfl (Or.inl rfl) (pe_op op_add_str (pe_op op_add_str (pe_slice sl_str (pv 2) po_none (po_some (pv 3))) (pv 4)) (pe_slice sl_str (pv 2) (po_some (pe_op op_add (pv 3) (pe_call ((ok_law_mixed T).mono (by decide)) hr rfl T.m_law_mixed T.F_law_mixed.kp T.b_law_mixed .nil pass0 (pa_cons (pe_call ((ok_law_cell_at T).mono (by decide)) hr rfl T.m_law_cell_at T.F_law_cell_at.kp T.b_law_cell_at .nil pass0 (pa_cons (pv 0) (pa_cons pe_int pa_nil))) (pa_cons pe_int (pa_cons pe_int pa_nil)))))) po_none)))
      (pss_cons (ps_if (PW.pt (pw_or (pt_cmpR op_isnotB (pe_call ((ok_is_name T).mono (by decide)) hr rfl T.m_is_name T.F_is_name.kp T.b_is_name .nil pass0 (pa_cons (pv 2) pa_nil)) pe_bl (nomark _)) (pw_or1 (pt_cmpR op_isnotB (pe_call ((ok_is_name T).mono (by decide)) hr rfl T.m_is_name T.F_is_name.kp T.b_is_name .nil pass0 (pa_cons pe_str pa_nil)) pe_bl (nomark _))))) (pss_one (ps_ret pe_bl)) pss_nil)
      (pss_cons (ps_set (i := 6) sc_law.nd rfl (Or.inl rfl) (pe_call ((ok_is_name T).mono (by decide)) hr rfl T.m_is_name T.F_is_name.kp T.b_is_name .nil pass0 (pa_cons (pv 5) pa_nil)))
      (pss_one (ps_if (PW.pt (pw_or (pt_not (pt_val (pe_callB (call_isinstK (K := K) rfl) rfl T.n_isinstance (by decide +kernel) (pa_cons (pv 6) (pa_cons (pe_bltn (v := .ty "bool") rfl T.n_bool (by decide +kernel) rfl) pa_nil))))) (pw_or1 (pt_cmpR op_ne (pv 6) (pe_call ((ok_law_is_name T).mono (by decide)) hr rfl T.m_law_is_name T.F_law_is_name.kp T.b_law_is_name .nil pass0 (pa_cons (pv 5) pa_nil)) (nomark _))))) (pss_one (ps_ret pe_bl)) pss_nil))))))))
      (pss_cons (ps_for PassesOwn.never rfl (pi_listK (K := K) rfl (pe_op op_cat (pe_lst (pa_cons (pe_call ((ok_law_cell_at T).mono (by decide)) hr rfl T.m_law_cell_at T.F_law_cell_at.kp T.b_law_cell_at .nil pass0 (pa_cons (pv 0) (pa_cons pe_int pa_nil))) pa_nil)) (pe_slice (sl_listK (K := K) rfl) (pv 0) (po_some pe_int) (po_some pe_int)))) (pg_name (i := 7) sc_law.nd rfl (Or.inl rfl)) (pss_cons (ps_set (i := 8) sc_law.nd rfl (Or.inl rfl) (pe_call ((ok_law_letter_by T).mono (by decide)) hr rfl T.m_law_letter_by T.F_law_letter_by.kp T.b_law_letter_by .nil pass0 (pa_cons (pv 7) (pa_cons (pe_call ((ok_law_cell_at T).mono (by decide)) hr rfl T.m_law_cell_at T.F_law_cell_at.kp T.b_law_cell_at .nil pass0 (pa_cons (pv 0) (pa_cons pe_int pa_nil))) (pa_cons (pv 1) pa_nil)))))
      (pss_cut (ps_if (pt_cmpR op_eq (pe_op op_mod (pe_op op_fdiv (pv 7) pe_int) pe_int) pe_int (nomark _)) (pss_one (ps_set (i := 8) sc_law.nd rfl (Or.inl rfl) (pe_tup (pa_cons pe_str (pa_cons (pe_ix (ix_tupK (K := K) rfl) (pv 8) pe_int (fun _ _ => rfl)) (pa_cons (pe_ix (ix_tupK (K := K) rfl) (pv 8) pe_int (fun _ _ => rfl)) (pa_cons (pe_op op_add pe_int (pe_op op_mod (pe_op op_fdiv (pv 7) pe_int) pe_int)) pa_nil))))))) pss_nil)
      (pss_cut (ps_if (pt_cmpR op_gt (pe_op op_mod (pv 7) pe_int) pe_int (nomark _)) (pss_one (ps_set (i := 8) sc_law.nd rfl (Or.inl rfl) (pe_call ((ok_law_altered T).mono (by decide)) hr rfl T.m_law_altered T.F_law_altered.kp T.b_law_altered .nil pass0 (pa_cons (pv 8) (pa_cons (pv 1) (pa_cons (pv 7) pa_nil)))))) pss_nil)
      (pss_cons (ps_set (i := 6) sc_law.nd rfl (Or.inl rfl) (pe_call ((ok_is_letter T).mono (by decide)) hr rfl T.m_is_letter T.F_is_letter.kp T.b_is_letter .nil pass0 (pa_cons (pv 8) pa_nil)))
      (pss_one (ps_if (PW.pt (pw_or (pt_not (pt_val (pe_callB (call_isinstK (K := K) rfl) rfl T.n_isinstance (by decide +kernel) (pa_cons (pv 6) (pa_cons (pe_bltn (v := .ty "bool") rfl T.n_bool (by decide +kernel) rfl) pa_nil))))) (pw_or1 (pt_cmpR op_ne (pv 6) (pe_call ((ok_law_due T).mono (by decide)) hr rfl T.m_law_due T.F_law_due.kp T.b_law_due .nil pass0 (pa_cons (pv 8) pa_nil)) (nomark _))))) (pss_one (ps_ret pe_bl)) pss_nil)))))))
      (pss_cut (ps_set (i := 9) sc_law.nd rfl (Or.inr rfl) (pe_op op_mod (pe_call ((ok_law_cell_at T).mono (by decide)) hr rfl T.m_law_cell_at T.F_law_cell_at.kp T.b_law_cell_at .nil pass0 (pa_cons (pv 0) (pa_cons pe_int pa_nil))) (pe_op op_pow pe_int pe_int)))
      (pss_cons (ps_set (i := 10) sc_law.nd rfl (Or.inl rfl) (pe_callB call_sortedT rfl T.n_sorted (by decide +kernel) (pa_cons (pe_comp (N := ["_law_k", "_law_far"]) (cap := [none, some 9]) (by show CompScope (defScope s_law) _ ["_law_script", "_law_names", "_law_name", "_law_at", "_law_sign", "_law_other", "_law_found", "_law_cell", "_law_letter", "_law_far", "_law_some_here", "_law_many", "_law_bid", "_law_close"] _ _; exact ⟨rfl, by decide +kernel, by decide +kernel, by decide +kernel, by decide +kernel, rfl, by decide +kernel⟩) rfl (pi_range1 rfl T.n_range (pa_cons pe_int pa_nil)) (fun C s H fp => ⟨(pg_name (i := 0) (by show (["_law_k", "_law_far"] : List Str).Nodup; decide +kernel) rfl (Or.inl rfl) (.inr rfl)), pf_none, (pe_call ((ok_law_name_by T).mono (by decide)) hr rfl T.m_law_name_by T.F_law_name_by.kp T.b_law_name_by .nil pass0 (pa_cons (pv 0) (pa_cons (pv 1) pa_nil)))⟩)) pa_nil)))
      (pss_cons (ps_for PassesOwn.never rfl (pi_listK (K := K) rfl (pe_lst (pa_lits [.int 19, .int 20, .int 21, .int 22] (by decide +kernel)))) (pg_name (i := 11) sc_law.nd rfl (Or.inl rfl)) (pss_cons (ps_set (i := 12) sc_law.nd rfl (Or.inl rfl) (pe_tup (pa_cons pe_str (pa_cons pe_str (pa_cons pe_int (pa_cons pe_int (pa_cons (pv 9) (pa_cons (pe_op op_add (pv 9) pe_int) (pa_cons (pe_callTy (call_tuple_ofK (K := K) rfl) rfl T.n_tuple (by decide +kernel) (pa_cons (pe_slice (sl_listK (K := K) rfl) (pv 10) po_none (po_some (pv 11))) pa_nil)) pa_nil)))))))))
      (pss_cons (ps_set (i := 13) sc_law.nd rfl (Or.inl rfl) (pe_tup (pa_cons pe_str (pa_cons pe_str (pa_cons pe_int (pa_cons pe_int (pa_cons (pe_callTy (call_tuple_ofK (K := K) rfl) rfl T.n_tuple (by decide +kernel) (pa_cons (pe_slice (sl_listK (K := K) rfl) (pv 10) (po_some (pe_op op_sub pe_int (pv 11))) po_none) pa_nil)) pa_nil)))))))
      (pss_one (ps_if (pt_cmpR (op_neBools (hu2 hr)) (pe_lst (pa_cons (pe_call ((ok_is_letter T).mono (by decide)) hr rfl T.m_is_letter T.F_is_letter.kp T.b_is_letter .nil pass0 (pa_cons (pv 12) pa_nil)) (pa_cons (pe_call ((ok_is_letter T).mono (by decide)) hr rfl T.m_is_letter T.F_is_letter.kp T.b_is_letter .nil pass0 (pa_cons (pv 13) pa_nil)) pa_nil))) (pe_lst (pa_cons (pe_cmpR op_lt (pv 11) pe_int (nomark _)) (pa_cons (pe_cmpR op_lt (pv 11) pe_int (nomark _)) pa_nil))) (nomark _)) (pss_one (ps_ret pe_bl)) pss_nil)))))
      (pss_one (ps_ret (pe_cmpR op_isB (pe_call ((ok_is_letter T).mono (by decide)) hr rfl T.m_is_letter T.F_is_letter.kp T.b_is_letter .nil pass0 (pa_cons (pe_tup pa_nil) pa_nil)) pe_bl (nomark _)))))))))), ?_⟩
    have s0 := Same.refl H
    refine ⟨_, rfl, sa, ns, _, rfl, s0.seq hS, by decide, fun c0 => ⟨_, rfl, fun L nl H1 s1 hL hN => ?_⟩⟩
    refine ⟨_, rfl, _, rfl, L, _, rfl, SqL.of hL, fun L3 hL3 => ?_⟩
    obtain ⟨n3, e3, m3, l3⟩ := cut_map V.str nl none (some 3)
    rw [e3]
    have s2 := s1.trans (same_upd (o := .lst (n3.map V.str)) hL3)
    replace hL := same_upd (o := .lst (n3.map V.str)) hL3 _ _ hL
    have hL3' : (upd H1 L3 (.lst (n3.map V.str))) L3 = some (.lst (n3.map V.str)) := upd_same
    generalize upd H1 L3 (.lst (n3.map V.str)) = H2 at *
    refine ⟨L3, rfl, ⟨_, SqL.of hL3'⟩, ?_⟩
    refine for_seq (seq_list (K := K) (SqL.of hL3')) (fun i σ H' => Same H2 H' ∧ ∃ y2 y3 y4 y5 y6 y7 y8 y9 y10 y11 y12 y13, σ = [some (.ref sa), some (.ref L), y2, y3, y4, y5, y6, y7, y8, y9, y10, y11, y12, y13]) ⟨Same.refl _, _, _, _, _, _, _, _, _, _, _, _, _, rfl⟩ (fun _ _ _ _ h => h.1) ?_ ?_
    · rintro i x σ H3 hx ⟨s3, y2, y3, y4, y5, y6, y7, y8, y9, y10, y11, y12, y13, rfl⟩
      obtain ⟨t, ht, rfl⟩ := List.mem_map.mp (List.mem_of_getElem? hx)
      have hnm := hN.nm t (m3 t ht)
      have t8 := (nm_al hnm).2
      have t1 := name_pos' hnm
      have hz : t.length ≤ sizeLine := Nat.le_trans t8 (by decide)
      have S3 := s2.trans s3
      refine ⟨_, rfl, sa, ns, _, rfl, S3.seq hS, by decide, fun c1 => ⟨_, rfl, t, rfl, hz, _, _, _, rfl, by decide, by decide, (by omega), fun at0 a0 a1 => ?_⟩⟩
      obtain ⟨n, rfl⟩ : ∃ n : Nat, at0 = (n : Int) := ⟨at0.toNat, by omega⟩
      refine ⟨_, rfl, sa, ns, _, rfl, S3.seq hS, by decide, fun c2 => ⟨_, _, _, rfl, by decide, by decide, by decide, fun m m0 m1 => ?_⟩⟩
      obtain ⟨sg, esg⟩ := sign_at m0 m1
      refine ⟨_, _, _, rfl, rfl, by decide +kernel, esg, ?_⟩
      refine ⟨fun σ H' => H' = H3 ∧ ∃ (o : Str) (z3 z4 : Option V), o.length ≤ 100 ∧ σ = [some (.ref sa), some (.ref L), some (.str t), z3, z4, some (.str o), y6, y7, y8, y9, y10, y11, y12, y13], ?_, ?_⟩
      · refine ⟨_, rfl, _, rfl, _, rfl, t, rfl, hz, _, rfl, _, _, rfl, rfl, sz2 8 1 (to8 t8 n) (one1 _), _, rfl, _, rfl, _, rfl, sa, ns, _, rfl, S3.seq hS, by decide, fun c3 => ⟨_, _, _, rfl, by decide, by decide, by decide, fun m3 q0 q1 => ?_⟩⟩
        obtain ⟨k3, rfl⟩ : ∃ k3 : Nat, m3 = (k3 : Int) := ⟨m3.toNat, by omega⟩
        have f8 : (Txt.slice t (some ((n : Int) + (k3 : Int))) none).length ≤ 8 := Nat.le_trans (len_from t (n + k3)) t8
        exact ⟨_, _, rfl, rfl, _, rfl, t, rfl, hz, _, _, rfl, rfl, sz2 9 8 (ap2 8 1 (to8 t8 n) (one1 _)) f8, rfl, _, _, _, Nat.le_trans (ap2 9 8 (ap2 8 1 (to8 t8 n) (one1 _)) f8) (by decide), rfl⟩
      rintro _ H9 ⟨e9, o, z3, z4, ho, rfl⟩
      obtain rfl := e9.symm
      refine ⟨_, rfl, t, rfl, by omega, fun H4 s4 => ⟨_, _, rfl, rfl, _, rfl, ?_⟩⟩
      rw [show nameB t.cps.toList = true from hnm]
      refine ite2 (fun z => absurd z (by decide)) (fun _ => ?_)
      refine ⟨"", rfl, by decide +kernel, fun H5 s5 => ⟨_, _, rfl, rfl, _, rfl, ite2 (fun z => absurd z (by decide +kernel)) (fun _ => ?_)⟩⟩
      refine ⟨_, rfl, o, rfl, by omega, fun H6 s6 => ?_⟩
      refine ⟨_, rfl, _, _, _, _, rfl, TyOf.bl _, rfl, _, rfl, ite2 (fun z => absurd z (by decide)) (fun _ => ?_)⟩
      refine ⟨_, rfl, _, rfl, _, .s o, rfl, ⟨rfl, by omega⟩, fun H7 s7 => ⟨rfl, _, rfl, ?_⟩⟩
      refine iteNS rfl ?_
      exact ⟨(((s3.trans s4).trans s5).trans s6).trans s7, _, _, _, _, _, _, _, _, _, _, _, _, rfl⟩
    rintro σ H3 ⟨s3, y2, y3, y4, y5, y6, y7, y8, y9, y10, y11, y12, y13, rfl⟩
    have S3 := s2.trans s3
    replace hL := s3 _ _ hL
    refine ⟨_, rfl, sa, ns, _, rfl, S3.seq hS, by decide, fun c4 => ⟨(by show 1 ≤ sizeLine; decide), fun l1 hl1 => ?_⟩⟩
    have u1 := same_upd (o := .lst [.int c4]) hl1
    refine ⟨_, rfl, _, rfl, _, rfl, sa, _, rfl, (S3.trans u1).seq hS, fun l2 hl2 => ?_⟩
    have u2 := same_upd (o := .lst (cutV (ns.map V.int) (some 3) (some 16))) hl2
    refine ⟨l1, l2, _, _, rfl, rfl, u2 _ _ upd_same, upd_same, ?_, fun l4 hl4 => ⟨l4, rfl, ⟨_, SqL.of upd_same⟩, ?_⟩⟩
    · have h1 := cutV_length (ns.map V.int) (some 3) (some 16)
      rw [List.length_map] at h1
      show 1 + _ ≤ sizeLine
      exact Nat.le_trans (by omega : 1 + (cutV (ns.map V.int) (some 3) (some 16)).length ≤ 64) (by decide)
    have u3 := same_upd (o := .lst ([.int c4] ++ cutV (ns.map V.int) (some 3) (some 16))) hl4
    have hcell : ∀ x ∈ ([V.int c4] ++ cutV (ns.map V.int) (some 3) (some 16)), ∃ c : Int, x = .int c := fun x hx => by
      rcases List.mem_append.mp hx with h | h
      · rw [List.mem_singleton] at h; exact ⟨c4, h⟩
      · obtain ⟨n, _, e⟩ := List.mem_map.mp (List.mem_of_mem_drop (List.mem_of_mem_take h))
        exact ⟨n, e.symm⟩
    have S4 := ((S3.trans u1).trans u2).trans u3
    replace hL := ((u1.trans u2).trans u3) _ _ hL
    have hl4' : (upd (upd (upd H3 l1 (.lst [.int c4])) l2 (.lst (cutV (ns.map V.int) (some 3) (some 16)))) l4 (.lst ([.int c4] ++ cutV (ns.map V.int) (some 3) (some 16)))) l4 = some (.lst ([.int c4] ++ cutV (ns.map V.int) (some 3) (some 16))) := upd_same
    generalize upd (upd (upd H3 l1 (.lst [.int c4])) l2 (.lst (cutV (ns.map V.int) (some 3) (some 16)))) l4 (.lst ([.int c4] ++ cutV (ns.map V.int) (some 3) (some 16))) = HB at *
    refine for_seq (seq_list (K := K) (SqL.of hl4')) (fun i σ H' => Same HB H' ∧ ∃ y2 y3 y4 y5 y6 y7 y8 y9 y10 y11 y12 y13, σ = [some (.ref sa), some (.ref L), y2, y3, y4, y5, y6, y7, y8, y9, y10, y11, y12, y13]) ⟨Same.refl _, _, _, _, _, _, _, _, _, _, _, _, _, rfl⟩ (fun _ _ _ _ h => h.1) ?_ ?_
    · rintro i x σ H5 hx ⟨s5, y2, y3, y4, y5, y6, y7, y8, y9, y10, y11, y12, y13, rfl⟩
      obtain ⟨c, rfl⟩ := hcell x (List.mem_of_getElem? hx)
      have S5 := S4.trans s5
      refine ⟨_, rfl, _, rfl, sa, ns, _, rfl, S5.seq hS, by decide, fun c1 => ⟨_, rfl, L, nl, c, c1, rfl, s5 _ _ hL, hN, fun p ps H6 s6 hp => ?_⟩⟩
      have S6 := s5.trans s6
      refine ⟨fun σ H' => Same HB H' ∧ ∃ (p : Addr) (ps : List PW_), LetO AL H' p ps ∧ σ = [some (.ref sa), some (.ref L), y2, y3, y4, y5, y6, some (.int c), some (.ref p), y9, y10, y11, y12, y13], ?_, ?_⟩
      · refine ⟨_, rfl, _, _, rfl, rfl, ⟨by decide, by decide⟩, _, _, rfl, rfl, (by show (0 : Int) < 8; decide), rfl, _, rfl, ite2 (fun _ => ?_) (fun _ => ⟨S6, p, ps, hp, rfl⟩)⟩
        have hlo := hp.lo
        have hp1 := hp.is.at_
        obtain ⟨a1, ha1⟩ := hp.one
        obtain ⟨v1, A1, w1, o1⟩ := hp.getO (j := 1) (by omega)
        rw [ha1] at w1 o1
        obtain ⟨rfl, _⟩ := w1
        have o18 : a1.length ≤ 8 := o1.2
        obtain ⟨v2, A2, w2, o2⟩ := hp.getO (j := 2) (by omega)
        have d0 : 0 ≤ c / 24 % 3 := Int.emod_nonneg _ (by decide)
        have d1 : c / 24 % 3 < 3 := Int.emod_lt_of_pos _ (by decide)
        have big : (10 : Int) ≤ 10 ^ 18 := by decide
        refine ⟨_, rfl, p, _, _, _, rfl, rfl, SqT.of hp1, A1, _, rfl, p, _, _, _, rfl, rfl, SqT.of hp1, A2, _, rfl, _, _, rfl, rfl, ⟨by decide, by decide⟩, _, _, rfl, rfl, (by show (0 : Int) < 3; decide), _, _, rfl, rfl, (by show 4 ≤ sizeLine; decide), fun q hq => ?_⟩
        have uq := same_upd (o := .tup [.str "off", .str a1, v2, .int (1 + c / 24 % 3)]) hq
        refine ⟨S6.trans uq, q, [(.str "off", .s "off"), (.str a1, .s a1), (v2, at_ (ws ps) 2), (.int (1 + c / 24 % 3), .i (1 + c / 24 % 3))], ⟨⟨upd_same, fun y hy => ?_, by show 4 ≤ 1000; decide⟩, fun y hy => ?_, by show 4 ≤ 4; decide, by show 4 ≤ 7; decide, ⟨a1, rfl⟩, fun h => absurd (show decide ((Str.ofString "off") = "bid") = true from h) (by decide)⟩, rfl⟩
        · simp only [List.mem_cons, List.not_mem_nil, or_false] at hy
          rcases hy with rfl | rfl | rfl | rfl
          · exact ⟨rfl, by decide +kernel⟩
          · exact ⟨rfl, by omega⟩
          · exact w2.up uq
          · exact rfl
        · simp only [List.mem_cons, List.not_mem_nil, or_false] at hy
          rcases hy with rfl | rfl | rfl | rfl
          · exact kw_off
          · exact o1
          · exact o2
          · exact ⟨by omega, by omega⟩
      rintro _ H7 ⟨s7, p, ps, hp, rfl⟩
      refine ⟨fun σ H' => Same HB H' ∧ ∃ (p : Addr) (ps : List PW_), LetAt H' p ps ∧ σ = [some (.ref sa), some (.ref L), y2, y3, y4, y5, y6, some (.int c), some (.ref p), y9, y10, y11, y12, y13], ?_, ?_⟩
      · refine ⟨_, rfl, _, _, rfl, rfl, (by show (0 : Int) < 3; decide), _, _, rfl, rfl, _, rfl, ite2 (fun _ => ?_) (fun _ => ⟨s7, p, ps, hp.is, rfl⟩)⟩
        exact ⟨_, rfl, _, rfl, _, rfl, p, L, ps, nl, c, rfl, hp, s7 _ _ hL, hN, fun q qs H8 s8 hq => ⟨s7.trans s8, q, qs, hq, rfl⟩⟩
      rintro _ H8 ⟨s8, p, ps, hp, rfl⟩
      refine ⟨_, rfl, p, ps, rfl, hp, fun H9 s9 => ?_⟩
      refine ⟨_, rfl, _, _, _, _, rfl, TyOf.bl _, rfl, _, rfl, ite2 (fun z => absurd z (by decide)) (fun _ => ?_)⟩
      refine ⟨_, rfl, _, rfl, p, ps, rfl, hp.up s9, fun HC sC => ⟨rfl, _, rfl, ?_⟩⟩
      refine iteNS rfl ?_
      exact ⟨(s8.trans s9).trans sC, _, _, _, _, _, _, _, _, _, _, _, _, rfl⟩
    rintro σ H5 ⟨s5, y2, y3, y4, y5, y6, y7, y8, y9, y10, y11, y12, y13, rfl⟩
    have S5 := S4.trans s5
    refine ⟨fun σ H' => H' = H5 ∧ ∃ far : Int, σ = [some (.ref sa), some (.ref L), y2, y3, y4, y5, y6, y7, y8, some (.int far), y10, y11, y12, y13], ?_, ?_⟩
    · exact ⟨_, rfl, sa, ns, _, rfl, S5.seq hS, by decide, fun c1 => ⟨_, _, rfl, rfl, ⟨by decide, by decide, by decide⟩, _, _, rfl, rfl, (by show (0 : Int) < 10 ^ (60 : Int).toNat; decide), rfl, _, rfl⟩⟩
    rintro _ HZ ⟨eZ, far, rfl⟩
    obtain rfl := eZ.symm
    refine ⟨22, rfl, by decide, by decide, ?_⟩
    refine comp_pure (seq_range 0 (22 : Int).toNat H5) (fun _ => true) (nmG far) ?_ (fun x _ H' _ R hR => hR H' (Same.refl _)) ?_ (fun D H6 s6 hD0 hD => ?_)
    · rw [List.length_map, List.length_range]
      omega
    · intro x hx _ H' sm R hR
      obtain ⟨j, hj, rfl⟩ := List.mem_map.mp hx
      have hj2 := List.mem_range.mp hj
      refine ⟨_, rfl, _, rfl, j, _, (by rw [show (0 + (j : Int)) = (j : Int) by omega]; rfl), by omega, fun H3 s3 => ?_⟩
      have q := hR H3 s3
      rw [show nmG (far) (V.int (0 + (j : Int))) = .str (nmT (far) j) from by show V.str (nmT (far) (0 + (j : Int)).toNat) = _; rw [show (0 + (j : Int)).toNat = j by omega]] at q
      exact q
    rw [List.filter_eq_self.mpr (fun _ _ => rfl), nmG_vals] at hD
    refine ⟨D, _, rfl, hD, by rw [List.length_map, List.length_range]; decide, fun D2 ms hD2 hpm hso => ?_⟩
    obtain ⟨h22, hri, hna, hno⟩ := far_ok (far := far) hpm hso
    have u6 := same_upd (o := .lst (ms.map V.str)) hD2
    have hM : (upd H6 D2 (.lst (ms.map V.str))) D2 = some (.lst (ms.map V.str)) := upd_same
    generalize upd H6 D2 (.lst (ms.map V.str)) = H7 at *
    refine ⟨(by show 4 ≤ sizeLine; decide), fun L5 hL5 => ⟨L5, rfl, ⟨_, SqL.of upd_same⟩, ?_⟩⟩
    have u7 := same_upd (o := .lst [.int 19, .int 20, .int 21, .int 22]) hL5
    replace hM := u7 _ _ hM
    have hL5' : (upd H7 L5 (.lst [.int 19, .int 20, .int 21, .int 22])) L5 = some (.lst [.int 19, .int 20, .int 21, .int 22]) := upd_same
    generalize upd H7 L5 (.lst [.int 19, .int 20, .int 21, .int 22]) = H8 at *
    refine for_seq (seq_list (K := K) (SqL.of hL5')) (fun i σ H' => Same H8 H' ∧ ∃ y2 y3 y4 y5 y6 y7 y8 y11 y12 y13, σ = [some (.ref sa), some (.ref L), y2, y3, y4, y5, y6, y7, y8, some (.int far), some (.ref D2), y11, y12, y13]) ⟨Same.refl _, _, _, _, _, _, _, _, _, _, _, rfl⟩ (fun _ _ _ _ h => h.1) ?_ ?_
    · rintro i x σ H9 hx ⟨s9, y2, y3, y4, y5, y6, y7, y8, y11, y12, y13, rfl⟩
      obtain ⟨n, rfl, n0, n1⟩ : ∃ n : Nat, x = .int (n : Int) ∧ 19 ≤ n ∧ n ≤ 22 := by
        have hm := List.mem_of_getElem? hx
        simp only [List.mem_cons, List.not_mem_nil, or_false] at hm
        rcases hm with rfl | rfl | rfl | rfl
        · exact ⟨19, rfl, by decide, by decide⟩
        · exact ⟨20, rfl, by decide, by decide⟩
        · exact ⟨21, rfl, by decide, by decide⟩
        · exact ⟨22, rfl, by decide, by decide⟩
      have hM9 := s9 _ _ hM
      refine ⟨_, rfl, _, rfl, _, _, rfl, rfl, _, rfl, _, rfl, _, rfl, D2, _, rfl, SqL.of hM9, fun k1 hk1 => ?_⟩
      rw [cutV_to (by rw [List.length_map]; omega), ← List.map_take]
      have v1 := same_upd (o := .lst ((ms.take n).map V.str)) hk1
      refine ⟨k1, _, rfl, .inl ⟨SqL.of upd_same, fun r1 hr1 => ?_⟩⟩
      have v2 := same_upd (o := .tup ((ms.take n).map V.str)) hr1
      have hr1' : (upd (upd H9 k1 (.lst ((ms.take n).map V.str))) r1 (.tup ((ms.take n).map V.str))) r1 = some (.tup ((ms.take n).map V.str)) := upd_same
      have V12 := v1.trans v2
      generalize upd (upd H9 k1 (.lst ((ms.take n).map V.str))) r1 (.tup ((ms.take n).map V.str)) = HA at *
      refine ⟨(by show 7 ≤ sizeLine; decide), fun p1 hp1 => ?_⟩
      have v3 := same_upd (o := .tup [.str "bid", .str "nobody", .int 3, .int 1, .int far, .int (far + 1), .ref r1]) hp1
      have hp1' : (upd HA p1 (.tup [.str "bid", .str "nobody", .int 3, .int 1, .int far, .int (far + 1), .ref r1])) p1 = some (.tup [.str "bid", .str "nobody", .int 3, .int 1, .int far, .int (far + 1), .ref r1]) := upd_same
      generalize upd HA p1 (.tup [.str "bid", .str "nobody", .int 3, .int 1, .int far, .int (far + 1), .ref r1]) = HC at *
      have V3 := V12.trans v3
      refine ⟨_, rfl, _, rfl, _, _, rfl, rfl, _, rfl, D2, _, rfl, SqL.of (V3 _ _ hM9), fun k2 hk2 => ?_⟩
      have ec : cutV (ms.map V.str) (some ((22 : Int) - (n : Int))) none = (ms.drop (22 - n)).map V.str := by
        rw [show ((22 : Int) - (n : Int)) = ((22 - n : Nat) : Int) by omega, cutV_from (by rw [List.length_map]; omega), List.map_drop]
      rw [ec]
      have v4 := same_upd (o := .lst ((ms.drop (22 - n)).map V.str)) hk2
      refine ⟨k2, _, rfl, .inl ⟨SqL.of upd_same, fun r2 hr2 => ?_⟩⟩
      have v5 := same_upd (o := .tup ((ms.drop (22 - n)).map V.str)) hr2
      have hr2' : (upd (upd HC k2 (.lst ((ms.drop (22 - n)).map V.str))) r2 (.tup ((ms.drop (22 - n)).map V.str))) r2 = some (.tup ((ms.drop (22 - n)).map V.str)) := upd_same
      have V45 := v4.trans v5
      generalize upd (upd HC k2 (.lst ((ms.drop (22 - n)).map V.str))) r2 (.tup ((ms.drop (22 - n)).map V.str)) = HD at *
      refine ⟨(by show 5 ≤ sizeLine; decide), fun p2 hp2 => ?_⟩
      have v6 := same_upd (o := .tup [.str "close", .str "nobody", .int 3, .int 1, .ref r2]) hp2
      have hp2' : (upd HD p2 (.tup [.str "close", .str "nobody", .int 3, .int 1, .ref r2])) p2 = some (.tup [.str "close", .str "nobody", .int 3, .int 1, .ref r2]) := upd_same
      generalize upd HD p2 (.tup [.str "close", .str "nobody", .int 3, .int 1, .ref r2]) = HE at *
      have V6 := V45.trans v6
      have lt1 : (ms.take n).length = n := by rw [List.length_take]; omega
      have ld1 : (ms.drop (22 - n)).length = n := by rw [List.length_drop]; omega
      have nm1 : ∀ t ∈ ms.take n, NM t = true := fun t ht => hna t (List.mem_of_mem_take ht)
      have nm2 : ∀ t ∈ ms.drop (22 - n), NM t = true := fun t ht => hna t (List.mem_of_mem_drop ht)
      have B1 : isL NM [.s "bid", .s "nobody", .i 3, .i 1, .i far, .i (far + 1), .ts (ms.take n)] = decide ((n : Int) < 21) := by
        rw [bid_is nobody_nm, hands_all (by omega) nm1 (rise_take n hri) (fun z => hno (List.mem_of_mem_take z)), lt1]
        exact decide_eq_decide.mpr (by omega)
      have B2 : isL NM [.s "close", .s "nobody", .i 3, .i 1, .ts (ms.drop (22 - n))] = decide ((n : Int) < 21) := by
        rw [close_is nobody_nm, hands_all (by omega) nm2 (rise_drop _ hri) (fun z => hno (List.mem_of_mem_drop z)), ld1]
        exact decide_eq_decide.mpr (by omega)
      obtain ⟨P1, hP1⟩ : ∃ P1 : List PW_, P1 = [(.str "bid", .s "bid"), (.str "nobody", .s "nobody"), (.int 3, .i 3), (.int 1, .i 1), (.int far, .i far), (.int (far + 1), .i (far + 1)), (.ref r1, .ts (ms.take n))] := ⟨_, rfl⟩
      obtain ⟨P2, hP2⟩ : ∃ P2 : List PW_, P2 = [(.str "close", .s "close"), (.str "nobody", .s "nobody"), (.int 3, .i 3), (.int 1, .i 1), (.ref r2, .ts (ms.drop (22 - n)))] := ⟨_, rfl⟩
      have B1' : isL NM (ws P1) = decide ((n : Int) < 21) := by rw [hP1]; exact B1
      have B2' : isL NM (ws P2) = decide ((n : Int) < 21) := by rw [hP2]; exact B2
      have L1 : LetAt HE p1 P1 := by
        rw [hP1]
        exact ⟨V6 _ _ hp1', fun q hq => by
          simp only [List.mem_cons, List.not_mem_nil, or_false] at hq
          rcases hq with rfl | rfl | rfl | rfl | rfl | rfl | rfl
          · exact ⟨rfl, by decide +kernel⟩
          · exact ⟨rfl, by decide +kernel⟩
          · exact rfl
          · exact rfl
          · exact rfl
          · exact rfl
          · exact wv_ts (V6 _ _ (v3 _ _ hr1')) (by omega) nm1, by show 7 ≤ 1000; decide⟩
      have L2' : LetAt HE p2 P2 := by
        rw [hP2]
        exact ⟨hp2', fun q hq => by
          simp only [List.mem_cons, List.not_mem_nil, or_false] at hq
          rcases hq with rfl | rfl | rfl | rfl | rfl
          · exact ⟨rfl, by decide +kernel⟩
          · exact ⟨rfl, by decide +kernel⟩
          · exact rfl
          · exact rfl
          · exact wv_ts (v6 _ _ hr2') (by omega) nm2, by show 5 ≤ 1000; decide⟩
      refine ⟨_, rfl, p1, P1, rfl, L1, fun HF sF => ?_⟩
      rw [B1']
      refine ⟨_, rfl, p2, P2, rfl, L2'.up sF, fun HG sG => ?_⟩
      rw [B2']
      refine ⟨(by show 2 ≤ sizeLine; decide), fun k3 hk3 => ?_⟩
      refine ⟨_, rfl, _, _, rfl, rfl, _, rfl, _, _, rfl, rfl, (by show 2 ≤ sizeLine; decide), fun k4 hk4 => ?_⟩
      refine ⟨k3, k4, [decide ((n : Int) < 21), decide ((n : Int) < 21)], rfl, rfl, same_upd hk4 _ _ upd_same, upd_same, _, rfl, iteF ?_⟩
      exact ⟨((((s9.trans V3).trans V6).trans sF).trans sG).trans ((same_upd hk3).trans (same_upd hk4)), _, _, _, _, _, _, _, _, _, _, rfl⟩
    rintro σ H9 ⟨s9, y2, y3, y4, y5, y6, y7, y8, y11, y12, y13, rfl⟩
    exact ⟨(by show 0 ≤ sizeLine; decide), fun p hp => ⟨p, [], rfl, ⟨upd_same, (fun _ z => nomatch z), by decide⟩, fun H' _ => ⟨_, _, rfl, rfl, k H'⟩⟩⟩
end
end K61

namespace K61
open PySem L2 DW
theorem txt_mk {K : PySem.W.Frag} {h : Heap} {mg : Str → Option Value} (X : K.In h) (G : h.Ns mainGlobals mg)
    {f_is_made_of : Addr} {oc_is_made_of kV_is_made_of dc_is_made_of pm_is_made_of cd_is_made_of ct_is_made_of : Value} {od_is_made_of an_is_made_of : Option Addr} {sl_is_made_of : Array (Option Value)}
    {f_is_span : Addr} {oc_is_span kV_is_span dc_is_span pm_is_span cd_is_span ct_is_span : Value} {od_is_span an_is_span : Option Addr} {sl_is_span : Array (Option Value)}
    {f_is_number : Addr} {oc_is_number kV_is_number dc_is_number pm_is_number cd_is_number ct_is_number : Value} {od_is_number an_is_number : Option Addr} {sl_is_number : Array (Option Value)}
    {f_is_rising : Addr} {oc_is_rising kV_is_rising dc_is_rising pm_is_rising cd_is_rising ct_is_rising : Value} {od_is_rising an_is_rising : Option Addr} {sl_is_rising : Array (Option Value)}
    {f_law_cell_at : Addr} {oc_law_cell_at kV_law_cell_at dc_law_cell_at pm_law_cell_at cd_law_cell_at ct_law_cell_at : Value} {od_law_cell_at an_law_cell_at : Option Addr} {sl_law_cell_at : Array (Option Value)}
    {f_law_mixed : Addr} {oc_law_mixed kV_law_mixed dc_law_mixed pm_law_mixed cd_law_mixed ct_law_mixed : Value} {od_law_mixed an_law_mixed : Option Addr} {sl_law_mixed : Array (Option Value)}
    {f_law_name_by : Addr} {oc_law_name_by kV_law_name_by dc_law_name_by pm_law_name_by cd_law_name_by ct_law_name_by : Value} {od_law_name_by an_law_name_by : Option Addr} {sl_law_name_by : Array (Option Value)}
    {f_law_key : Addr} {oc_law_key kV_law_key dc_law_key pm_law_key cd_law_key ct_law_key : Value} {od_law_key an_law_key : Option Addr} {sl_law_key : Array (Option Value)}
    {f_law_is_name : Addr} {oc_law_is_name kV_law_is_name dc_law_is_name pm_law_is_name cd_law_is_name ct_law_is_name : Value} {od_law_is_name an_law_is_name : Option Addr} {sl_law_is_name : Array (Option Value)}
    {f_law_whole : Addr} {oc_law_whole kV_law_whole dc_law_whole pm_law_whole cd_law_whole ct_law_whole : Value} {od_law_whole an_law_whole : Option Addr} {sl_law_whole : Array (Option Value)}
    {f_is_name : Addr} {oc_is_name kV_is_name dc_is_name pm_is_name cd_is_name ct_is_name : Value} {od_is_name an_is_name : Option Addr} {sl_is_name : Array (Option Value)}
    {f_is_from : Addr} {oc_is_from kV_is_from dc_is_from pm_is_from cd_is_from ct_is_from : Value} {od_is_from an_is_from : Option Addr} {sl_is_from : Array (Option Value)}
    {f_law_names_by : Addr} {oc_law_names_by kV_law_names_by dc_law_names_by pm_law_names_by cd_law_names_by ct_law_names_by : Value} {od_law_names_by an_law_names_by : Option Addr} {sl_law_names_by : Array (Option Value)}
    {f_law_some : Addr} {oc_law_some kV_law_some dc_law_some pm_law_some cd_law_some ct_law_some : Value} {od_law_some an_law_some : Option Addr} {sl_law_some : Array (Option Value)}
    {f_law_answer_of : Addr} {oc_law_answer_of kV_law_answer_of dc_law_answer_of pm_law_answer_of cd_law_answer_of ct_law_answer_of : Value} {od_law_answer_of an_law_answer_of : Option Addr} {sl_law_answer_of : Array (Option Value)}
    {f_law_are_hands : Addr} {oc_law_are_hands kV_law_are_hands dc_law_are_hands pm_law_are_hands cd_law_are_hands ct_law_are_hands : Value} {od_law_are_hands an_law_are_hands : Option Addr} {sl_law_are_hands : Array (Option Value)}
    {f_law_strange : Addr} {oc_law_strange kV_law_strange dc_law_strange pm_law_strange cd_law_strange ct_law_strange : Value} {od_law_strange an_law_strange : Option Addr} {sl_law_strange : Array (Option Value)}
    {f_is_called : Addr} {oc_is_called kV_is_called dc_is_called pm_is_called cd_is_called ct_is_called : Value} {od_is_called an_is_called : Option Addr} {sl_is_called : Array (Option Value)}
    {f_is_off : Addr} {oc_is_off kV_is_off dc_is_off pm_is_off cd_is_off ct_is_off : Value} {od_is_off an_is_off : Option Addr} {sl_is_off : Array (Option Value)}
    {f_law_bid_of : Addr} {oc_law_bid_of kV_law_bid_of dc_law_bid_of pm_law_bid_of cd_law_bid_of ct_law_bid_of : Value} {od_law_bid_of an_law_bid_of : Option Addr} {sl_law_bid_of : Array (Option Value)}
    {f_law_close_of : Addr} {oc_law_close_of kV_law_close_of dc_law_close_of pm_law_close_of cd_law_close_of ct_law_close_of : Value} {od_law_close_of an_law_close_of : Option Addr} {sl_law_close_of : Array (Option Value)}
    {f_law_due : Addr} {oc_law_due kV_law_due dc_law_due pm_law_due cd_law_due ct_law_due : Value} {od_law_due an_law_due : Option Addr} {sl_law_due : Array (Option Value)}
    {f_law_altered : Addr} {oc_law_altered kV_law_altered dc_law_altered pm_law_altered cd_law_altered ct_law_altered : Value} {od_law_altered an_law_altered : Option Addr} {sl_law_altered : Array (Option Value)}
    {f_are_hands : Addr} {oc_are_hands kV_are_hands dc_are_hands pm_are_hands cd_are_hands ct_are_hands : Value} {od_are_hands an_are_hands : Option Addr} {sl_are_hands : Array (Option Value)}
    {f_is_answer : Addr} {oc_is_answer kV_is_answer dc_is_answer pm_is_answer cd_is_answer ct_is_answer : Value} {od_is_answer an_is_answer : Option Addr} {sl_is_answer : Array (Option Value)}
    {f_law_letter_by : Addr} {oc_law_letter_by kV_law_letter_by dc_law_letter_by pm_law_letter_by cd_law_letter_by ct_law_letter_by : Value} {od_law_letter_by an_law_letter_by : Option Addr} {sl_law_letter_by : Array (Option Value)}
    {f_is_bid : Addr} {oc_is_bid kV_is_bid dc_is_bid pm_is_bid cd_is_bid ct_is_bid : Value} {od_is_bid an_is_bid : Option Addr} {sl_is_bid : Array (Option Value)}
    {f_is_close : Addr} {oc_is_close kV_is_close dc_is_close pm_is_close cd_is_close ct_is_close : Value} {od_is_close an_is_close : Option Addr} {sl_is_close : Array (Option Value)}
    {f_is_letter : Addr} {oc_is_letter kV_is_letter dc_is_letter pm_is_letter cd_is_letter ct_is_letter : Value} {od_is_letter an_is_letter : Option Addr} {sl_is_letter : Array (Option Value)}
    {f_law : Addr} {oc_law kV_law dc_law pm_law cd_law ct_law : Value} {od_law an_law : Option Addr} {sl_law : Array (Option Value)}
    {t_FIGURES : Tok}
    {t_LETTERS : Tok}
    {t_MOST_HANDS : Tok}
    {t_NAME_SIGNS : Tok}
    (a_is_made_of : PySem.W.nsIn K mainGlobals "is_made_of" = some (some (.ref f_is_made_of))) (l_is_made_of : K.lookup f_is_made_of = some ⟨oc_is_made_of, od_is_made_of, .func (PySem.W.fnOf "is_made_of" "is_made_of" (defArgs s_is_made_of) (defBody s_is_made_of) (defScope s_is_made_of) .none kV_is_made_of dc_is_made_of pm_is_made_of an_is_made_of cd_is_made_of ct_is_made_of), sl_is_made_of⟩) (e_is_made_of : PySem.W.codeIn K cd_is_made_of "is_made_of" = true) (k_is_made_of : PySem.W.keepIn K (.ref f_is_made_of) = true)
    (a_is_span : PySem.W.nsIn K mainGlobals "is_span" = some (some (.ref f_is_span))) (l_is_span : K.lookup f_is_span = some ⟨oc_is_span, od_is_span, .func (PySem.W.fnOf "is_span" "is_span" (defArgs s_is_span) (defBody s_is_span) (defScope s_is_span) .none kV_is_span dc_is_span pm_is_span an_is_span cd_is_span ct_is_span), sl_is_span⟩) (e_is_span : PySem.W.codeIn K cd_is_span "is_span" = true) (k_is_span : PySem.W.keepIn K (.ref f_is_span) = true)
    (a_is_number : PySem.W.nsIn K mainGlobals "is_number" = some (some (.ref f_is_number))) (l_is_number : K.lookup f_is_number = some ⟨oc_is_number, od_is_number, .func (PySem.W.fnOf "is_number" "is_number" (defArgs s_is_number) (defBody s_is_number) (defScope s_is_number) .none kV_is_number dc_is_number pm_is_number an_is_number cd_is_number ct_is_number), sl_is_number⟩) (e_is_number : PySem.W.codeIn K cd_is_number "is_number" = true) (k_is_number : PySem.W.keepIn K (.ref f_is_number) = true)
    (a_is_rising : PySem.W.nsIn K mainGlobals "is_rising" = some (some (.ref f_is_rising))) (l_is_rising : K.lookup f_is_rising = some ⟨oc_is_rising, od_is_rising, .func (PySem.W.fnOf "is_rising" "is_rising" (defArgs s_is_rising) (defBody s_is_rising) (defScope s_is_rising) .none kV_is_rising dc_is_rising pm_is_rising an_is_rising cd_is_rising ct_is_rising), sl_is_rising⟩) (e_is_rising : PySem.W.codeIn K cd_is_rising "is_rising" = true) (k_is_rising : PySem.W.keepIn K (.ref f_is_rising) = true)
    (a_law_cell_at : PySem.W.nsIn K mainGlobals "_law_cell_at" = some (some (.ref f_law_cell_at))) (l_law_cell_at : K.lookup f_law_cell_at = some ⟨oc_law_cell_at, od_law_cell_at, .func (PySem.W.fnOf "_law_cell_at" "_law_cell_at" (defArgs s_law_cell_at) (defBody s_law_cell_at) (defScope s_law_cell_at) .none kV_law_cell_at dc_law_cell_at pm_law_cell_at an_law_cell_at cd_law_cell_at ct_law_cell_at), sl_law_cell_at⟩) (e_law_cell_at : PySem.W.codeIn K cd_law_cell_at "_law_cell_at" = true) (k_law_cell_at : PySem.W.keepIn K (.ref f_law_cell_at) = true)
    (a_law_mixed : PySem.W.nsIn K mainGlobals "_law_mixed" = some (some (.ref f_law_mixed))) (l_law_mixed : K.lookup f_law_mixed = some ⟨oc_law_mixed, od_law_mixed, .func (PySem.W.fnOf "_law_mixed" "_law_mixed" (defArgs s_law_mixed) (defBody s_law_mixed) (defScope s_law_mixed) .none kV_law_mixed dc_law_mixed pm_law_mixed an_law_mixed cd_law_mixed ct_law_mixed), sl_law_mixed⟩) (e_law_mixed : PySem.W.codeIn K cd_law_mixed "_law_mixed" = true) (k_law_mixed : PySem.W.keepIn K (.ref f_law_mixed) = true)
    (a_law_name_by : PySem.W.nsIn K mainGlobals "_law_name_by" = some (some (.ref f_law_name_by))) (l_law_name_by : K.lookup f_law_name_by = some ⟨oc_law_name_by, od_law_name_by, .func (PySem.W.fnOf "_law_name_by" "_law_name_by" (defArgs s_law_name_by) (defBody s_law_name_by) (defScope s_law_name_by) .none kV_law_name_by dc_law_name_by pm_law_name_by an_law_name_by cd_law_name_by ct_law_name_by), sl_law_name_by⟩) (e_law_name_by : PySem.W.codeIn K cd_law_name_by "_law_name_by" = true) (k_law_name_by : PySem.W.keepIn K (.ref f_law_name_by) = true)
    (a_law_key : PySem.W.nsIn K mainGlobals "_law_key" = some (some (.ref f_law_key))) (l_law_key : K.lookup f_law_key = some ⟨oc_law_key, od_law_key, .func (PySem.W.fnOf "_law_key" "_law_key" (defArgs s_law_key) (defBody s_law_key) (defScope s_law_key) .none kV_law_key dc_law_key pm_law_key an_law_key cd_law_key ct_law_key), sl_law_key⟩) (e_law_key : PySem.W.codeIn K cd_law_key "_law_key" = true) (k_law_key : PySem.W.keepIn K (.ref f_law_key) = true)
    (a_law_is_name : PySem.W.nsIn K mainGlobals "_law_is_name" = some (some (.ref f_law_is_name))) (l_law_is_name : K.lookup f_law_is_name = some ⟨oc_law_is_name, od_law_is_name, .func (PySem.W.fnOf "_law_is_name" "_law_is_name" (defArgs s_law_is_name) (defBody s_law_is_name) (defScope s_law_is_name) .none kV_law_is_name dc_law_is_name pm_law_is_name an_law_is_name cd_law_is_name ct_law_is_name), sl_law_is_name⟩) (e_law_is_name : PySem.W.codeIn K cd_law_is_name "_law_is_name" = true) (k_law_is_name : PySem.W.keepIn K (.ref f_law_is_name) = true)
    (a_law_whole : PySem.W.nsIn K mainGlobals "_law_whole" = some (some (.ref f_law_whole))) (l_law_whole : K.lookup f_law_whole = some ⟨oc_law_whole, od_law_whole, .func (PySem.W.fnOf "_law_whole" "_law_whole" (defArgs s_law_whole) (defBody s_law_whole) (defScope s_law_whole) .none kV_law_whole dc_law_whole pm_law_whole an_law_whole cd_law_whole ct_law_whole), sl_law_whole⟩) (e_law_whole : PySem.W.codeIn K cd_law_whole "_law_whole" = true) (k_law_whole : PySem.W.keepIn K (.ref f_law_whole) = true)
    (a_is_name : PySem.W.nsIn K mainGlobals "is_name" = some (some (.ref f_is_name))) (l_is_name : K.lookup f_is_name = some ⟨oc_is_name, od_is_name, .func (PySem.W.fnOf "is_name" "is_name" (defArgs s_is_name) (defBody s_is_name) (defScope s_is_name) .none kV_is_name dc_is_name pm_is_name an_is_name cd_is_name ct_is_name), sl_is_name⟩) (e_is_name : PySem.W.codeIn K cd_is_name "is_name" = true) (k_is_name : PySem.W.keepIn K (.ref f_is_name) = true)
    (a_is_from : PySem.W.nsIn K mainGlobals "is_from" = some (some (.ref f_is_from))) (l_is_from : K.lookup f_is_from = some ⟨oc_is_from, od_is_from, .func (PySem.W.fnOf "is_from" "is_from" (defArgs s_is_from) (defBody s_is_from) (defScope s_is_from) .none kV_is_from dc_is_from pm_is_from an_is_from cd_is_from ct_is_from), sl_is_from⟩) (e_is_from : PySem.W.codeIn K cd_is_from "is_from" = true) (k_is_from : PySem.W.keepIn K (.ref f_is_from) = true)
    (a_law_names_by : PySem.W.nsIn K mainGlobals "_law_names_by" = some (some (.ref f_law_names_by))) (l_law_names_by : K.lookup f_law_names_by = some ⟨oc_law_names_by, od_law_names_by, .func (PySem.W.fnOf "_law_names_by" "_law_names_by" (defArgs s_law_names_by) (defBody s_law_names_by) (defScope s_law_names_by) .none kV_law_names_by dc_law_names_by pm_law_names_by an_law_names_by cd_law_names_by ct_law_names_by), sl_law_names_by⟩) (e_law_names_by : PySem.W.codeIn K cd_law_names_by "_law_names_by" = true) (k_law_names_by : PySem.W.keepIn K (.ref f_law_names_by) = true)
    (a_law_some : PySem.W.nsIn K mainGlobals "_law_some" = some (some (.ref f_law_some))) (l_law_some : K.lookup f_law_some = some ⟨oc_law_some, od_law_some, .func (PySem.W.fnOf "_law_some" "_law_some" (defArgs s_law_some) (defBody s_law_some) (defScope s_law_some) .none kV_law_some dc_law_some pm_law_some an_law_some cd_law_some ct_law_some), sl_law_some⟩) (e_law_some : PySem.W.codeIn K cd_law_some "_law_some" = true) (k_law_some : PySem.W.keepIn K (.ref f_law_some) = true)
    (a_law_answer_of : PySem.W.nsIn K mainGlobals "_law_answer_of" = some (some (.ref f_law_answer_of))) (l_law_answer_of : K.lookup f_law_answer_of = some ⟨oc_law_answer_of, od_law_answer_of, .func (PySem.W.fnOf "_law_answer_of" "_law_answer_of" (defArgs s_law_answer_of) (defBody s_law_answer_of) (defScope s_law_answer_of) .none kV_law_answer_of dc_law_answer_of pm_law_answer_of an_law_answer_of cd_law_answer_of ct_law_answer_of), sl_law_answer_of⟩) (e_law_answer_of : PySem.W.codeIn K cd_law_answer_of "_law_answer_of" = true) (k_law_answer_of : PySem.W.keepIn K (.ref f_law_answer_of) = true)
    (a_law_are_hands : PySem.W.nsIn K mainGlobals "_law_are_hands" = some (some (.ref f_law_are_hands))) (l_law_are_hands : K.lookup f_law_are_hands = some ⟨oc_law_are_hands, od_law_are_hands, .func (PySem.W.fnOf "_law_are_hands" "_law_are_hands" (defArgs s_law_are_hands) (defBody s_law_are_hands) (defScope s_law_are_hands) .none kV_law_are_hands dc_law_are_hands pm_law_are_hands an_law_are_hands cd_law_are_hands ct_law_are_hands), sl_law_are_hands⟩) (e_law_are_hands : PySem.W.codeIn K cd_law_are_hands "_law_are_hands" = true) (k_law_are_hands : PySem.W.keepIn K (.ref f_law_are_hands) = true)
    (a_law_strange : PySem.W.nsIn K mainGlobals "_law_strange" = some (some (.ref f_law_strange))) (l_law_strange : K.lookup f_law_strange = some ⟨oc_law_strange, od_law_strange, .func (PySem.W.fnOf "_law_strange" "_law_strange" (defArgs s_law_strange) (defBody s_law_strange) (defScope s_law_strange) .none kV_law_strange dc_law_strange pm_law_strange an_law_strange cd_law_strange ct_law_strange), sl_law_strange⟩) (e_law_strange : PySem.W.codeIn K cd_law_strange "_law_strange" = true) (k_law_strange : PySem.W.keepIn K (.ref f_law_strange) = true)
    (a_is_called : PySem.W.nsIn K mainGlobals "is_called" = some (some (.ref f_is_called))) (l_is_called : K.lookup f_is_called = some ⟨oc_is_called, od_is_called, .func (PySem.W.fnOf "is_called" "is_called" (defArgs s_is_called) (defBody s_is_called) (defScope s_is_called) .none kV_is_called dc_is_called pm_is_called an_is_called cd_is_called ct_is_called), sl_is_called⟩) (e_is_called : PySem.W.codeIn K cd_is_called "is_called" = true) (k_is_called : PySem.W.keepIn K (.ref f_is_called) = true)
    (a_is_off : PySem.W.nsIn K mainGlobals "is_off" = some (some (.ref f_is_off))) (l_is_off : K.lookup f_is_off = some ⟨oc_is_off, od_is_off, .func (PySem.W.fnOf "is_off" "is_off" (defArgs s_is_off) (defBody s_is_off) (defScope s_is_off) .none kV_is_off dc_is_off pm_is_off an_is_off cd_is_off ct_is_off), sl_is_off⟩) (e_is_off : PySem.W.codeIn K cd_is_off "is_off" = true) (k_is_off : PySem.W.keepIn K (.ref f_is_off) = true)
    (a_law_bid_of : PySem.W.nsIn K mainGlobals "_law_bid_of" = some (some (.ref f_law_bid_of))) (l_law_bid_of : K.lookup f_law_bid_of = some ⟨oc_law_bid_of, od_law_bid_of, .func (PySem.W.fnOf "_law_bid_of" "_law_bid_of" (defArgs s_law_bid_of) (defBody s_law_bid_of) (defScope s_law_bid_of) .none kV_law_bid_of dc_law_bid_of pm_law_bid_of an_law_bid_of cd_law_bid_of ct_law_bid_of), sl_law_bid_of⟩) (e_law_bid_of : PySem.W.codeIn K cd_law_bid_of "_law_bid_of" = true) (k_law_bid_of : PySem.W.keepIn K (.ref f_law_bid_of) = true)
    (a_law_close_of : PySem.W.nsIn K mainGlobals "_law_close_of" = some (some (.ref f_law_close_of))) (l_law_close_of : K.lookup f_law_close_of = some ⟨oc_law_close_of, od_law_close_of, .func (PySem.W.fnOf "_law_close_of" "_law_close_of" (defArgs s_law_close_of) (defBody s_law_close_of) (defScope s_law_close_of) .none kV_law_close_of dc_law_close_of pm_law_close_of an_law_close_of cd_law_close_of ct_law_close_of), sl_law_close_of⟩) (e_law_close_of : PySem.W.codeIn K cd_law_close_of "_law_close_of" = true) (k_law_close_of : PySem.W.keepIn K (.ref f_law_close_of) = true)
    (a_law_due : PySem.W.nsIn K mainGlobals "_law_due" = some (some (.ref f_law_due))) (l_law_due : K.lookup f_law_due = some ⟨oc_law_due, od_law_due, .func (PySem.W.fnOf "_law_due" "_law_due" (defArgs s_law_due) (defBody s_law_due) (defScope s_law_due) .none kV_law_due dc_law_due pm_law_due an_law_due cd_law_due ct_law_due), sl_law_due⟩) (e_law_due : PySem.W.codeIn K cd_law_due "_law_due" = true) (k_law_due : PySem.W.keepIn K (.ref f_law_due) = true)
    (a_law_altered : PySem.W.nsIn K mainGlobals "_law_altered" = some (some (.ref f_law_altered))) (l_law_altered : K.lookup f_law_altered = some ⟨oc_law_altered, od_law_altered, .func (PySem.W.fnOf "_law_altered" "_law_altered" (defArgs s_law_altered) (defBody s_law_altered) (defScope s_law_altered) .none kV_law_altered dc_law_altered pm_law_altered an_law_altered cd_law_altered ct_law_altered), sl_law_altered⟩) (e_law_altered : PySem.W.codeIn K cd_law_altered "_law_altered" = true) (k_law_altered : PySem.W.keepIn K (.ref f_law_altered) = true)
    (a_are_hands : PySem.W.nsIn K mainGlobals "are_hands" = some (some (.ref f_are_hands))) (l_are_hands : K.lookup f_are_hands = some ⟨oc_are_hands, od_are_hands, .func (PySem.W.fnOf "are_hands" "are_hands" (defArgs s_are_hands) (defBody s_are_hands) (defScope s_are_hands) .none kV_are_hands dc_are_hands pm_are_hands an_are_hands cd_are_hands ct_are_hands), sl_are_hands⟩) (e_are_hands : PySem.W.codeIn K cd_are_hands "are_hands" = true) (k_are_hands : PySem.W.keepIn K (.ref f_are_hands) = true)
    (a_is_answer : PySem.W.nsIn K mainGlobals "is_answer" = some (some (.ref f_is_answer))) (l_is_answer : K.lookup f_is_answer = some ⟨oc_is_answer, od_is_answer, .func (PySem.W.fnOf "is_answer" "is_answer" (defArgs s_is_answer) (defBody s_is_answer) (defScope s_is_answer) .none kV_is_answer dc_is_answer pm_is_answer an_is_answer cd_is_answer ct_is_answer), sl_is_answer⟩) (e_is_answer : PySem.W.codeIn K cd_is_answer "is_answer" = true) (k_is_answer : PySem.W.keepIn K (.ref f_is_answer) = true)
    (a_law_letter_by : PySem.W.nsIn K mainGlobals "_law_letter_by" = some (some (.ref f_law_letter_by))) (l_law_letter_by : K.lookup f_law_letter_by = some ⟨oc_law_letter_by, od_law_letter_by, .func (PySem.W.fnOf "_law_letter_by" "_law_letter_by" (defArgs s_law_letter_by) (defBody s_law_letter_by) (defScope s_law_letter_by) .none kV_law_letter_by dc_law_letter_by pm_law_letter_by an_law_letter_by cd_law_letter_by ct_law_letter_by), sl_law_letter_by⟩) (e_law_letter_by : PySem.W.codeIn K cd_law_letter_by "_law_letter_by" = true) (k_law_letter_by : PySem.W.keepIn K (.ref f_law_letter_by) = true)
    (a_is_bid : PySem.W.nsIn K mainGlobals "is_bid" = some (some (.ref f_is_bid))) (l_is_bid : K.lookup f_is_bid = some ⟨oc_is_bid, od_is_bid, .func (PySem.W.fnOf "is_bid" "is_bid" (defArgs s_is_bid) (defBody s_is_bid) (defScope s_is_bid) .none kV_is_bid dc_is_bid pm_is_bid an_is_bid cd_is_bid ct_is_bid), sl_is_bid⟩) (e_is_bid : PySem.W.codeIn K cd_is_bid "is_bid" = true) (k_is_bid : PySem.W.keepIn K (.ref f_is_bid) = true)
    (a_is_close : PySem.W.nsIn K mainGlobals "is_close" = some (some (.ref f_is_close))) (l_is_close : K.lookup f_is_close = some ⟨oc_is_close, od_is_close, .func (PySem.W.fnOf "is_close" "is_close" (defArgs s_is_close) (defBody s_is_close) (defScope s_is_close) .none kV_is_close dc_is_close pm_is_close an_is_close cd_is_close ct_is_close), sl_is_close⟩) (e_is_close : PySem.W.codeIn K cd_is_close "is_close" = true) (k_is_close : PySem.W.keepIn K (.ref f_is_close) = true)
    (a_is_letter : PySem.W.nsIn K mainGlobals "is_letter" = some (some (.ref f_is_letter))) (l_is_letter : K.lookup f_is_letter = some ⟨oc_is_letter, od_is_letter, .func (PySem.W.fnOf "is_letter" "is_letter" (defArgs s_is_letter) (defBody s_is_letter) (defScope s_is_letter) .none kV_is_letter dc_is_letter pm_is_letter an_is_letter cd_is_letter ct_is_letter), sl_is_letter⟩) (e_is_letter : PySem.W.codeIn K cd_is_letter "is_letter" = true) (k_is_letter : PySem.W.keepIn K (.ref f_is_letter) = true)
    (a_law : PySem.W.nsIn K mainGlobals "law" = some (some (.ref f_law))) (l_law : K.lookup f_law = some ⟨oc_law, od_law, .func (PySem.W.fnOf "law" "law" (defArgs s_law) (defBody s_law) (defScope s_law) .none kV_law dc_law pm_law an_law cd_law ct_law), sl_law⟩) (e_law : PySem.W.codeIn K cd_law "law" = true) (k_law : PySem.W.keepIn K (.ref f_law) = true)
    (g_FIGURES : PySem.W.nsIn K mainGlobals "FIGURES" = some (some (.str "0123456789" t_FIGURES)))
    (g_LETTERS : PySem.W.nsIn K mainGlobals "LETTERS" = some (some (.str "abcdefghijklmnopqrstuvwxyz" t_LETTERS)))
    (g_MOST_HANDS : PySem.W.nsIn K mainGlobals "MOST_HANDS" = some (some (.int 20 t_MOST_HANDS)))
    (g_NAME_SIGNS : PySem.W.nsIn K mainGlobals "NAME_SIGNS" = some (some (.int 8 t_NAME_SIGNS)))
    (n_all : PySem.W.nsIn K mainGlobals "all" = some none)
    (n_bool : PySem.W.nsIn K mainGlobals "bool" = some none)
    (n_int : PySem.W.nsIn K mainGlobals "int" = some none)
    (n_isinstance : PySem.W.nsIn K mainGlobals "isinstance" = some none)
    (n_len : PySem.W.nsIn K mainGlobals "len" = some none)
    (n_min : PySem.W.nsIn K mainGlobals "min" = some none)
    (n_range : PySem.W.nsIn K mainGlobals "range" = some none)
    (n_sorted : PySem.W.nsIn K mainGlobals "sorted" = some none)
    (n_str : PySem.W.nsIn K mainGlobals "str" = some none)
    (n_tuple : PySem.W.nsIn K mainGlobals "tuple" = some none) :
    ∃ a : Adr, Txt K mg a ∧ a.f_law = f_law ∧ ∀ (s : Shared) (v : Value), BindsTo s a.d_law ⟨[v], []⟩ [("_law_script", v)] := by
  have F_is_made_of := fun_mk (st := s_is_made_of) l_is_made_of e_is_made_of k_is_made_of
  have b_is_made_of := F_is_made_of.binds (ps := ["text", "signs"]) fun _ _ _ _ _ _ us hl => by obtain ⟨_, _, rfl⟩ := L2.ex2 hl; exact rfl
  have F_is_span := fun_mk (st := s_is_span) l_is_span e_is_span k_is_span
  have b_is_span := F_is_span.binds (ps := ["begin", "end"]) fun _ _ _ _ _ _ us hl => by obtain ⟨_, _, rfl⟩ := L2.ex2 hl; exact rfl
  have F_is_number := fun_mk (st := s_is_number) l_is_number e_is_number k_is_number
  have b_is_number := F_is_number.binds (ps := ["value"]) fun _ _ _ _ _ _ us hl => by obtain ⟨_, rfl⟩ := L2.ex1 hl; exact rfl
  have F_is_rising := fun_mk (st := s_is_rising) l_is_rising e_is_rising k_is_rising
  have b_is_rising := F_is_rising.binds (ps := ["hands"]) fun _ _ _ _ _ _ us hl => by obtain ⟨_, rfl⟩ := L2.ex1 hl; exact rfl
  have F_law_cell_at := fun_mk (st := s_law_cell_at) l_law_cell_at e_law_cell_at k_law_cell_at
  have b_law_cell_at := F_law_cell_at.binds (ps := ["_law_script", "_law_k"]) fun _ _ _ _ _ _ us hl => by obtain ⟨_, _, rfl⟩ := L2.ex2 hl; exact rfl
  have F_law_mixed := fun_mk (st := s_law_mixed) l_law_mixed e_law_mixed k_law_mixed
  have b_law_mixed := F_law_mixed.binds (ps := ["_law_cell", "_law_k", "_law_many"]) fun _ _ _ _ _ _ us hl => by obtain ⟨_, _, _, rfl⟩ := L2.ex3 hl; exact rfl
  have F_law_name_by := fun_mk (st := s_law_name_by) l_law_name_by e_law_name_by k_law_name_by
  have b_law_name_by := F_law_name_by.binds (ps := ["_law_k", "_law_cell"]) fun _ _ _ _ _ _ us hl => by obtain ⟨_, _, rfl⟩ := L2.ex2 hl; exact rfl
  have F_law_key := fun_mk (st := s_law_key) l_law_key e_law_key k_law_key
  have b_law_key := F_law_key.binds (ps := ["_law_seed", "_law_names", "_law_asker", "_law_number", "_law_turn"]) fun _ _ _ _ _ _ us hl => by obtain ⟨_, _, _, _, _, rfl⟩ := L2.ex5 hl; exact rfl
  have F_law_is_name := fun_mk (st := s_law_is_name) l_law_is_name e_law_is_name k_law_is_name
  have b_law_is_name := F_law_is_name.binds (ps := ["_law_text"]) fun _ _ _ _ _ _ us hl => by obtain ⟨_, rfl⟩ := L2.ex1 hl; exact rfl
  have F_law_whole := fun_mk (st := s_law_whole) l_law_whole e_law_whole k_law_whole
  have b_law_whole := F_law_whole.binds (ps := ["_law_found"]) fun _ _ _ _ _ _ us hl => by obtain ⟨_, rfl⟩ := L2.ex1 hl; exact rfl
  have F_is_name := fun_mk (st := s_is_name) l_is_name e_is_name k_is_name
  have b_is_name := F_is_name.binds (ps := ["text"]) fun _ _ _ _ _ _ us hl => by obtain ⟨_, rfl⟩ := L2.ex1 hl; exact rfl
  have F_is_from := fun_mk (st := s_is_from) l_is_from e_is_from k_is_from
  have b_is_from := F_is_from.binds (ps := ["value", "least"]) fun _ _ _ _ _ _ us hl => by obtain ⟨_, _, rfl⟩ := L2.ex2 hl; exact rfl
  have F_law_names_by := fun_mk (st := s_law_names_by) l_law_names_by e_law_names_by k_law_names_by
  have b_law_names_by := F_law_names_by.binds (ps := ["_law_cell"]) fun _ _ _ _ _ _ us hl => by obtain ⟨_, rfl⟩ := L2.ex1 hl; exact rfl
  have F_law_some := fun_mk (st := s_law_some) l_law_some e_law_some k_law_some
  have b_law_some := F_law_some.binds (ps := ["_law_names", "_law_asker", "_law_seed", "_law_k", "_law_least"]) fun _ _ _ _ _ _ us hl => by obtain ⟨_, _, _, _, _, rfl⟩ := L2.ex5 hl; exact rfl
  have F_law_answer_of := fun_mk (st := s_law_answer_of) l_law_answer_of e_law_answer_of k_law_answer_of
  have b_law_answer_of := F_law_answer_of.binds (ps := ["_law_seed", "_law_names", "_law_asker", "_law_number", "_law_turn", "_law_cell"]) fun _ _ _ _ _ _ us hl => by obtain ⟨_, _, _, _, _, _, rfl⟩ := L2.ex6 hl; exact rfl
  have F_law_are_hands := fun_mk (st := s_law_are_hands) l_law_are_hands e_law_are_hands k_law_are_hands
  have b_law_are_hands := F_law_are_hands.binds (ps := ["_law_hands", "_law_asker", "_law_least"]) fun _ _ _ _ _ _ us hl => by obtain ⟨_, _, _, rfl⟩ := L2.ex3 hl; exact rfl
  have F_law_strange := fun_mk (st := s_law_strange) l_law_strange e_law_strange k_law_strange
  have b_law_strange := F_law_strange.binds (ps := ["_law_part", "_law_letter", "_law_names", "_law_cell"]) fun _ _ _ _ _ _ us hl => by obtain ⟨_, _, _, _, rfl⟩ := L2.ex4 hl; exact rfl
  have F_is_called := fun_mk (st := s_is_called) l_is_called e_is_called k_is_called
  have b_is_called := F_is_called.binds (ps := ["value"]) fun _ _ _ _ _ _ us hl => by obtain ⟨_, rfl⟩ := L2.ex1 hl; exact rfl
  have F_is_off := fun_mk (st := s_is_off) l_is_off e_is_off k_is_off
  have b_is_off := F_is_off.binds (ps := ["letter"]) fun _ _ _ _ _ _ us hl => by obtain ⟨_, rfl⟩ := L2.ex1 hl; exact rfl
  have F_law_bid_of := fun_mk (st := s_law_bid_of) l_law_bid_of e_law_bid_of k_law_bid_of
  have b_law_bid_of := F_law_bid_of.binds (ps := ["_law_seed", "_law_names", "_law_asker", "_law_number", "_law_turn"]) fun _ _ _ _ _ _ us hl => by obtain ⟨_, _, _, _, _, rfl⟩ := L2.ex5 hl; exact rfl
  have F_law_close_of := fun_mk (st := s_law_close_of) l_law_close_of e_law_close_of k_law_close_of
  have b_law_close_of := F_law_close_of.binds (ps := ["_law_seed", "_law_names", "_law_asker", "_law_number", "_law_turn"]) fun _ _ _ _ _ _ us hl => by obtain ⟨_, _, _, _, _, rfl⟩ := L2.ex5 hl; exact rfl
  have F_law_due := fun_mk (st := s_law_due) l_law_due e_law_due k_law_due
  have b_law_due := F_law_due.binds (ps := ["_law_letter"]) fun _ _ _ _ _ _ us hl => by obtain ⟨_, rfl⟩ := L2.ex1 hl; exact rfl
  have F_law_altered := fun_mk (st := s_law_altered) l_law_altered e_law_altered k_law_altered
  have b_law_altered := F_law_altered.binds (ps := ["_law_letter", "_law_names", "_law_cell"]) fun _ _ _ _ _ _ us hl => by obtain ⟨_, _, _, rfl⟩ := L2.ex3 hl; exact rfl
  have F_are_hands := fun_mk (st := s_are_hands) l_are_hands e_are_hands k_are_hands
  have b_are_hands := F_are_hands.binds (ps := ["value", "asker", "least"]) fun _ _ _ _ _ _ us hl => by obtain ⟨_, _, _, rfl⟩ := L2.ex3 hl; exact rfl
  have F_is_answer := fun_mk (st := s_is_answer) l_is_answer e_is_answer k_is_answer
  have b_is_answer := F_is_answer.binds (ps := ["letter"]) fun _ _ _ _ _ _ us hl => by obtain ⟨_, rfl⟩ := L2.ex1 hl; exact rfl
  have F_law_letter_by := fun_mk (st := s_law_letter_by) l_law_letter_by e_law_letter_by k_law_letter_by
  have b_law_letter_by := F_law_letter_by.binds (ps := ["_law_cell", "_law_seed", "_law_names"]) fun _ _ _ _ _ _ us hl => by obtain ⟨_, _, _, rfl⟩ := L2.ex3 hl; exact rfl
  have F_is_bid := fun_mk (st := s_is_bid) l_is_bid e_is_bid k_is_bid
  have b_is_bid := F_is_bid.binds (ps := ["letter"]) fun _ _ _ _ _ _ us hl => by obtain ⟨_, rfl⟩ := L2.ex1 hl; exact rfl
  have F_is_close := fun_mk (st := s_is_close) l_is_close e_is_close k_is_close
  have b_is_close := F_is_close.binds (ps := ["letter"]) fun _ _ _ _ _ _ us hl => by obtain ⟨_, rfl⟩ := L2.ex1 hl; exact rfl
  have F_is_letter := fun_mk (st := s_is_letter) l_is_letter e_is_letter k_is_letter
  have b_is_letter := F_is_letter.binds (ps := ["letter"]) fun _ _ _ _ _ _ us hl => by obtain ⟨_, rfl⟩ := L2.ex1 hl; exact rfl
  have F_law := fun_mk (st := s_law) l_law e_law k_law
  have b_law := F_law.binds (ps := ["_law_script"]) fun _ _ _ _ _ _ us hl => by obtain ⟨_, rfl⟩ := L2.ex1 hl; exact rfl
  exact ⟨{ f_is_made_of := f_is_made_of, d_is_made_of := _, f_is_span := f_is_span, d_is_span := _, f_is_number := f_is_number, d_is_number := _, f_is_rising := f_is_rising, d_is_rising := _, f_law_cell_at := f_law_cell_at, d_law_cell_at := _, f_law_mixed := f_law_mixed, d_law_mixed := _, f_law_name_by := f_law_name_by, d_law_name_by := _, f_law_key := f_law_key, d_law_key := _, f_law_is_name := f_law_is_name, d_law_is_name := _, f_law_whole := f_law_whole, d_law_whole := _, f_is_name := f_is_name, d_is_name := _, f_is_from := f_is_from, d_is_from := _, f_law_names_by := f_law_names_by, d_law_names_by := _, f_law_some := f_law_some, d_law_some := _, f_law_answer_of := f_law_answer_of, d_law_answer_of := _, f_law_are_hands := f_law_are_hands, d_law_are_hands := _, f_law_strange := f_law_strange, d_law_strange := _, f_is_called := f_is_called, d_is_called := _, f_is_off := f_is_off, d_is_off := _, f_law_bid_of := f_law_bid_of, d_law_bid_of := _, f_law_close_of := f_law_close_of, d_law_close_of := _, f_law_due := f_law_due, d_law_due := _, f_law_altered := f_law_altered, d_law_altered := _, f_are_hands := f_are_hands, d_are_hands := _, f_is_answer := f_is_answer, d_is_answer := _, f_law_letter_by := f_law_letter_by, d_law_letter_by := _, f_is_bid := f_is_bid, d_is_bid := _, f_is_close := f_is_close, d_is_close := _, f_is_letter := f_is_letter, d_is_letter := _, f_law := f_law, d_law := _ }, ⟨F_is_made_of, PySem.W.mg_of X G a_is_made_of, b_is_made_of, F_is_span, PySem.W.mg_of X G a_is_span, b_is_span, F_is_number, PySem.W.mg_of X G a_is_number, b_is_number, F_is_rising, PySem.W.mg_of X G a_is_rising, b_is_rising, F_law_cell_at, PySem.W.mg_of X G a_law_cell_at, b_law_cell_at, F_law_mixed, PySem.W.mg_of X G a_law_mixed, b_law_mixed, F_law_name_by, PySem.W.mg_of X G a_law_name_by, b_law_name_by, F_law_key, PySem.W.mg_of X G a_law_key, b_law_key, F_law_is_name, PySem.W.mg_of X G a_law_is_name, b_law_is_name, F_law_whole, PySem.W.mg_of X G a_law_whole, b_law_whole, F_is_name, PySem.W.mg_of X G a_is_name, b_is_name, F_is_from, PySem.W.mg_of X G a_is_from, b_is_from, F_law_names_by, PySem.W.mg_of X G a_law_names_by, b_law_names_by, F_law_some, PySem.W.mg_of X G a_law_some, b_law_some, F_law_answer_of, PySem.W.mg_of X G a_law_answer_of, b_law_answer_of, F_law_are_hands, PySem.W.mg_of X G a_law_are_hands, b_law_are_hands, F_law_strange, PySem.W.mg_of X G a_law_strange, b_law_strange, F_is_called, PySem.W.mg_of X G a_is_called, b_is_called, F_is_off, PySem.W.mg_of X G a_is_off, b_is_off, F_law_bid_of, PySem.W.mg_of X G a_law_bid_of, b_law_bid_of, F_law_close_of, PySem.W.mg_of X G a_law_close_of, b_law_close_of, F_law_due, PySem.W.mg_of X G a_law_due, b_law_due, F_law_altered, PySem.W.mg_of X G a_law_altered, b_law_altered, F_are_hands, PySem.W.mg_of X G a_are_hands, b_are_hands, F_is_answer, PySem.W.mg_of X G a_is_answer, b_is_answer, F_law_letter_by, PySem.W.mg_of X G a_law_letter_by, b_law_letter_by, F_is_bid, PySem.W.mg_of X G a_is_bid, b_is_bid, F_is_close, PySem.W.mg_of X G a_is_close, b_is_close, F_is_letter, PySem.W.mg_of X G a_is_letter, b_is_letter, F_law, PySem.W.mg_of X G a_law, b_law, ⟨_, PySem.W.mg_of X G g_FIGURES⟩, ⟨_, PySem.W.mg_of X G g_LETTERS⟩, ⟨_, PySem.W.mg_of X G g_MOST_HANDS⟩, ⟨_, PySem.W.mg_of X G g_NAME_SIGNS⟩, PySem.W.mg_none_of X G n_all, PySem.W.mg_none_of X G n_bool, PySem.W.mg_none_of X G n_int, PySem.W.mg_none_of X G n_isinstance, PySem.W.mg_none_of X G n_len, PySem.W.mg_none_of X G n_min, PySem.W.mg_none_of X G n_range, PySem.W.mg_none_of X G n_sorted, PySem.W.mg_none_of X G n_str, PySem.W.mg_none_of X G n_tuple⟩, rfl, fun s v => .of_eq rfl⟩
end K61
namespace K61
open PySem L2
theorem walk {l : PySem.W.OpenLaw} {q : Program} {loose : List Str} {XP : (Str → Option Value) → Heap → Prop} {YP : World → Heap → Prop} {d : DefRec} {K : Params → PySem.W.Frag} (hn : l.most = some 63) (hdf : d.params.defaults = [])
    (hY : ∀ (w : World) (h : Heap), YP w h → (K w.params).In h)
    (F : ∀ (w : World) (mg : Str → Option Value) (fa : Addr) (h : Heap), (K w.params).In h → h.Ns mainGlobals mg → mg d.name = some (.ref fa) →
      ∃ fd : FuncData, (∀ (s : Shared) (u : Value), BindsTo s fd ⟨[u], []⟩ [("_law_script", u)]) ∧ ∀ base : Heap, (K w.params).In base → base.Ns mainGlobals mg → FnOk l.prog w (K w.params) mg base CX0 true 7 fa fd ["_law_script"] (sp_law (K w.params))) :
    PySem.W.WalkO q loose XP YP l.row.toRowW d [] (fun f vs => PySem.call f vs) :=
  L2.walk_of (cm := true) (n := 63) (k := 7) (x := "_law_script") (CX := fun _ => CX0) (sp := fun w => sp_law (K w.params)) hn (by decide) hdf ⟨fun _ => rfl, by decide, by decide⟩ hY F (fun _ _ a ns hl _ hS => ⟨a, ns, rfl, hS, hl, fun _ => rfl⟩) fun _ _ _ _ _ z => z
theorem all_ok {l : PySem.W.OpenLaw} {w : World} {K : PySem.W.Frag} {mg : Str → Option Value} {fa f : Addr} (hfa : mg "law" = some (.ref fa))
    (h : ∃ a : Adr, Txt K mg a ∧ a.f_law = f ∧ ∀ (s : Shared) (v : Value), BindsTo s a.d_law ⟨[v], []⟩ [("_law_script", v)]) :
    ∃ fd : FuncData, (∀ (s : Shared) (u : Value), BindsTo s fd ⟨[u], []⟩ [("_law_script", u)]) ∧ ∀ base : Heap, K.In base → base.Ns mainGlobals mg → FnOk l.prog w K mg base CX0 true 7 fa fd ["_law_script"] (sp_law K) := by
  obtain ⟨a, T, _, hb⟩ := h
  have e := T.m_law
  rw [hfa] at e
  cases e
  exact ⟨a.d_law, hb, fun base _ _ => ok_law T⟩
end K61
open PySem PySem.W PyProof.Rows
set_option maxRecDepth 100000 in
set_option maxHeartbeats 0 in
theorem PySem.Challenge.cw_hourhouse_k61_names_and_letters_holds : PySem.Challenge.rw_hourhouse_k61_names_and_letters.Holds := by
  w_on; o_law; k_head; (case hw => w_witness2)
  k_fill
  refine K61.walk (l := PySem.Challenge.rw_hourhouse_k61_names_and_letters) rfl rfl (fun w h Y => PySem.W.kIn_of Y) ?F
  case F =>
    intro w mg fa h KX G hmg
    refine' K61.all_ok hmg (K61.txt_mk KX G ?a_is_made_of ?l_is_made_of ?e_is_made_of ?k_is_made_of ?a_is_span ?l_is_span ?e_is_span ?k_is_span ?a_is_number ?l_is_number ?e_is_number ?k_is_number ?a_is_rising ?l_is_rising ?e_is_rising ?k_is_rising ?a_law_cell_at ?l_law_cell_at ?e_law_cell_at ?k_law_cell_at ?a_law_mixed ?l_law_mixed ?e_law_mixed ?k_law_mixed ?a_law_name_by ?l_law_name_by ?e_law_name_by ?k_law_name_by ?a_law_key ?l_law_key ?e_law_key ?k_law_key ?a_law_is_name ?l_law_is_name ?e_law_is_name ?k_law_is_name ?a_law_whole ?l_law_whole ?e_law_whole ?k_law_whole ?a_is_name ?l_is_name ?e_is_name ?k_is_name ?a_is_from ?l_is_from ?e_is_from ?k_is_from ?a_law_names_by ?l_law_names_by ?e_law_names_by ?k_law_names_by ?a_law_some ?l_law_some ?e_law_some ?k_law_some ?a_law_answer_of ?l_law_answer_of ?e_law_answer_of ?k_law_answer_of ?a_law_are_hands ?l_law_are_hands ?e_law_are_hands ?k_law_are_hands ?a_law_strange ?l_law_strange ?e_law_strange ?k_law_strange ?a_is_called ?l_is_called ?e_is_called ?k_is_called ?a_is_off ?l_is_off ?e_is_off ?k_is_off ?a_law_bid_of ?l_law_bid_of ?e_law_bid_of ?k_law_bid_of ?a_law_close_of ?l_law_close_of ?e_law_close_of ?k_law_close_of ?a_law_due ?l_law_due ?e_law_due ?k_law_due ?a_law_altered ?l_law_altered ?e_law_altered ?k_law_altered ?a_are_hands ?l_are_hands ?e_are_hands ?k_are_hands ?a_is_answer ?l_is_answer ?e_is_answer ?k_is_answer ?a_law_letter_by ?l_law_letter_by ?e_law_letter_by ?k_law_letter_by ?a_is_bid ?l_is_bid ?e_is_bid ?k_is_bid ?a_is_close ?l_is_close ?e_is_close ?k_is_close ?a_is_letter ?l_is_letter ?e_is_letter ?k_is_letter ?a_law ?l_law ?e_law ?k_law ?g_FIGURES ?g_LETTERS ?g_MOST_HANDS ?g_NAME_SIGNS ?n_all ?n_bool ?n_int ?n_isinstance ?n_len ?n_min ?n_range ?n_sorted ?n_str ?n_tuple)
    (case a_is_made_of => k_is)
    (case l_is_made_of => k_is)
    (case e_is_made_of => k_is)
    (case k_is_made_of => k_is)
    (case a_is_span => k_is)
    (case l_is_span => k_is)
    (case e_is_span => k_is)
    (case k_is_span => k_is)
    (case a_is_number => k_is)
    (case l_is_number => k_is)
    (case e_is_number => k_is)
    (case k_is_number => k_is)
    (case a_is_rising => k_is)
    (case l_is_rising => k_is)
    (case e_is_rising => k_is)
    (case k_is_rising => k_is)
    (case a_law_cell_at => k_is)
    (case l_law_cell_at => k_is)
    (case e_law_cell_at => k_is)
    (case k_law_cell_at => k_is)
    (case a_law_mixed => k_is)
    (case l_law_mixed => k_is)
    (case e_law_mixed => k_is)
    (case k_law_mixed => k_is)
    (case a_law_name_by => k_is)
    (case l_law_name_by => k_is)
    (case e_law_name_by => k_is)
    (case k_law_name_by => k_is)
    (case a_law_key => k_is)
    (case l_law_key => k_is)
    (case e_law_key => k_is)
    (case k_law_key => k_is)
    (case a_law_is_name => k_is)
    (case l_law_is_name => k_is)
    (case e_law_is_name => k_is)
    (case k_law_is_name => k_is)
    (case a_law_whole => k_is)
    (case l_law_whole => k_is)
    (case e_law_whole => k_is)
    (case k_law_whole => k_is)
    (case a_is_name => k_is)
    (case l_is_name => k_is)
    (case e_is_name => k_is)
    (case k_is_name => k_is)
    (case a_is_from => k_is)
    (case l_is_from => k_is)
    (case e_is_from => k_is)
    (case k_is_from => k_is)
    (case a_law_names_by => k_is)
    (case l_law_names_by => k_is)
    (case e_law_names_by => k_is)
    (case k_law_names_by => k_is)
    (case a_law_some => k_is)
    (case l_law_some => k_is)
    (case e_law_some => k_is)
    (case k_law_some => k_is)
    (case a_law_answer_of => k_is)
    (case l_law_answer_of => k_is)
    (case e_law_answer_of => k_is)
    (case k_law_answer_of => k_is)
    (case a_law_are_hands => k_is)
    (case l_law_are_hands => k_is)
    (case e_law_are_hands => k_is)
    (case k_law_are_hands => k_is)
    (case a_law_strange => k_is)
    (case l_law_strange => k_is)
    (case e_law_strange => k_is)
    (case k_law_strange => k_is)
    (case a_is_called => k_is)
    (case l_is_called => k_is)
    (case e_is_called => k_is)
    (case k_is_called => k_is)
    (case a_is_off => k_is)
    (case l_is_off => k_is)
    (case e_is_off => k_is)
    (case k_is_off => k_is)
    (case a_law_bid_of => k_is)
    (case l_law_bid_of => k_is)
    (case e_law_bid_of => k_is)
    (case k_law_bid_of => k_is)
    (case a_law_close_of => k_is)
    (case l_law_close_of => k_is)
    (case e_law_close_of => k_is)
    (case k_law_close_of => k_is)
    (case a_law_due => k_is)
    (case l_law_due => k_is)
    (case e_law_due => k_is)
    (case k_law_due => k_is)
    (case a_law_altered => k_is)
    (case l_law_altered => k_is)
    (case e_law_altered => k_is)
    (case k_law_altered => k_is)
    (case a_are_hands => k_is)
    (case l_are_hands => k_is)
    (case e_are_hands => k_is)
    (case k_are_hands => k_is)
    (case a_is_answer => k_is)
    (case l_is_answer => k_is)
    (case e_is_answer => k_is)
    (case k_is_answer => k_is)
    (case a_law_letter_by => k_is)
    (case l_law_letter_by => k_is)
    (case e_law_letter_by => k_is)
    (case k_law_letter_by => k_is)
    (case a_is_bid => k_is)
    (case l_is_bid => k_is)
    (case e_is_bid => k_is)
    (case k_is_bid => k_is)
    (case a_is_close => k_is)
    (case l_is_close => k_is)
    (case e_is_close => k_is)
    (case k_is_close => k_is)
    (case a_is_letter => k_is)
    (case l_is_letter => k_is)
    (case e_is_letter => k_is)
    (case k_is_letter => k_is)
    (case a_law => k_is)
    (case l_law => k_is)
    (case e_law => k_is)
    (case k_law => k_is)
    (case g_FIGURES => k_is)
    (case g_LETTERS => k_is)
    (case g_MOST_HANDS => k_is)
    (case g_NAME_SIGNS => k_is)
    (case n_all => k_is)
    (case n_bool => k_is)
    (case n_int => k_is)
    (case n_isinstance => k_is)
    (case n_len => k_is)
    (case n_min => k_is)
    (case n_range => k_is)
    (case n_sorted => k_is)
    (case n_str => k_is)
    (case n_tuple => k_is)


