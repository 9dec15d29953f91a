import PyProof.Rows.All
import Wide.All
import OpenK.AllK
import Wide.FinOn
import Lean
import PyProof.EqAt
import PyProof.EqKinds
import PyProof.TupleCall
import PySem.Challenge.RW_optionwood_k03_no_woods

set_option Elab.async false
set_option linter.all false
set_option maxRecDepth 100000
/-! THE HAND LAYER, for ints, bools, texts, own classes, LISTS and tuples (index, slices, in, append, pop ..), calls, loops. Paste it whole ahead of your own text; what your proof does not reach may be deleted. -/
namespace L2
open PySem PySem.Spec PyProof.Rows

/-- a key: an int or a str -/
abbrev Key := Sum Int Str
def keyIs : Key → Value → Bool
  | .inl k, v => Value.isInt k v
  | .inr x, v => Value.isStrOf x v
def keyH (w : World) : Key → Int
  | .inl k => hashInt k
  | .inr x => hashStr w x
theorem keyIs_shape : ∀ {k : Key} {v : Value}, keyIs k v = true → (∃ i t, k = Sum.inl i ∧ v = Value.int i t) ∨ (∃ x t, k = Sum.inr x ∧ v = Value.str x t)
  | .inl i, v, h => by
    obtain ⟨t, e⟩ := Value.isInt_shape (k := i) (v := v) h
    exact .inl ⟨i, t, rfl, e⟩
  | .inr x, v, h => by
    obtain ⟨t, e⟩ := Value.isStrOf_shape (x := x) (v := v) h
    exact .inr ⟨x, t, rfl, e⟩
theorem key_ll (a b : Int) : decide ((Sum.inl a : Key) = Sum.inl b) = (a == b) := by
  by_cases e : a = b
  · subst e; simp
  · have h : ¬ (Sum.inl a : Key) = Sum.inl b := fun q => e (Sum.inl.inj q)
    rw [decide_eq_false h]
    exact (beq_eq_false_iff_ne.mpr e).symm
theorem key_rr (a b : Str) : decide ((Sum.inr a : Key) = Sum.inr b) = decide (a = b) := by
  by_cases e : a = b
  · subst e; simp
  · have h : ¬ (Sum.inr a : Key) = Sum.inr b := fun q => e (Sum.inr.inj q)
    rw [decide_eq_false h, decide_eq_false e]
theorem key_lr (a : Int) (b : Str) : decide ((Sum.inl a : Key) = Sum.inr b) = false := decide_eq_false (fun q => nomatch q)
theorem key_rl (a : Str) (b : Int) : decide ((Sum.inr a : Key) = Sum.inl b) = false := decide_eq_false (fun q => nomatch q)

def mixKind (prog : Program) (w : World) : PySem.KeyKind prog w Key where
  is := keyIs
  hash := keyH w
  inj := fun v a b ha hb => by
    rcases keyIs_shape ha with ⟨i, t, rfl, rfl⟩ | ⟨x, t, rfl, rfl⟩
    · rcases keyIs_shape hb with ⟨j, u, rfl, e⟩ | ⟨y, u, rfl, e⟩
      · injection e with e1 _; rw [e1]
      · exact nomatch e
    · rcases keyIs_shape hb with ⟨j, u, rfl, e⟩ | ⟨y, u, rfl, e⟩
      · exact nomatch e
      · injection e with e1 _; rw [e1]
  byValue := fun k v h => by
    rcases keyIs_shape h with ⟨i, t, rfl, rfl⟩ | ⟨x, t, rfl, rfl⟩ <;> rfl
  pyHash := fun hv h => by
    rcases keyIs_shape hv with ⟨i, t, rfl, rfl⟩ | ⟨x, t, rfl, rfl⟩
    · exact wpAny_pyHash_int h
    · exact wpAny_pyHash_str h
  eqBool := fun hu hv h => by
    rcases keyIs_shape hu with ⟨i, t, rfl, rfl⟩ | ⟨x, t, rfl, rfl⟩
    · rcases keyIs_shape hv with ⟨j, u, rfl, rfl⟩ | ⟨y, u, rfl, rfl⟩
      · rw [key_ll] at h; exact wpAny_eqBool_int h
      · rw [key_lr] at h; exact SeqAt.EqAt.int_str i t y u _ _ _ _ h
    · rcases keyIs_shape hv with ⟨j, u, rfl, rfl⟩ | ⟨y, u, rfl, rfl⟩
      · rw [key_rl] at h; exact SeqAt.EqAt.str_int x t j u _ _ _ _ h
      · rw [key_rr] at h; exact wpAny_eqBool_str h
  «strs» := fun k x t v h => by
    rcases keyIs_shape h with ⟨i, u, rfl, e⟩ | ⟨y, u, rfl, e⟩
    · exact nomatch e
    · injection e with e1 _
      subst e1
      cases v <;> rfl

end L2

namespace L2
open PySem PySem.Spec PyProof.Rows

/-- a value, without the heap -/
inductive V where
  | non | bl (b : Bool) | int (i : Int) | str (x : Str) | byt (b : Array UInt8) | flt (b : UInt64) | ref (a : Addr) | ty (n : String)
  deriving DecidableEq

def RelV : V → Value → Prop
  | .non, u => u = Value.none
  | .bl b, u => u = Value.bool b
  | .int i, u => ∃ t, u = Value.int i t
  | .str x, u => ∃ t, u = Value.str x t
  | .byt b, u => ∃ t, u = Value.bytes b t
  | .flt b, u => ∃ t, u = Value.float b t
  | .ref a, u => u = Value.ref a
  | .ty n, u => u = Value.type n

abbrev Vals : List V → List Value → Prop := Paired RelV
theorem Vals.length {xs : List V} {us : List Value} (r : Vals xs us) : xs.length = us.length := Paired.length r
theorem Vals.get : ∀ {xs : List V} {us : List Value} {i : Nat} {x : V}, Vals xs us → xs[i]? = some x → ∃ u, us[i]? = some u ∧ RelV x u
  | _, _, _, _, .nil, e => by simp at e
  | _, _, 0, _, .cons r _, e => by simp at e; subst e; exact ⟨_, rfl, r⟩
  | _, _, i + 1, x, .cons _ t, e => by
    obtain ⟨u, h1, h2⟩ := Vals.get (i := i) (x := x) t (by simpa using e)
    exact ⟨u, by simpa using h1, h2⟩
theorem Vals.append : ∀ {xs ys : List V} {us ws : List Value}, Vals xs us → Vals ys ws → Vals (xs ++ ys) (us ++ ws)
  | _, _, _, _, .nil, s => s
  | _, _, _, _, .cons r t, s => .cons r (Vals.append t s)
theorem Vals.take : ∀ {xs : List V} {us : List Value} (n : Nat), Vals xs us → Vals (xs.take n) (us.take n)
  | _, _, 0, _ => .nil
  | _, _, _ + 1, .nil => .nil
  | _, _, n + 1, .cons r t => .cons r (Vals.take n t)
theorem Vals.drop : ∀ {xs : List V} {us : List Value} (n : Nat), Vals xs us → Vals (xs.drop n) (us.drop n)
  | _, _, 0, r => r
  | _, _, _ + 1, .nil => .nil
  | _, _, n + 1, .cons _ t => Vals.drop n t
def RelO : Option V → Option Value → Prop
  | some v, some u => RelV v u
  | none, none => True
  | _, _ => False
def KV {κ : Type} : List (κ × V) → List (κ × Value) → Prop := Paired fun (p : κ × V) (q : κ × Value) => p.1 = q.1 ∧ RelV p.2 q.2

/-- a key of a dict (00_mix): an int or a text -/
def kV : Key → V
  | .inl i => .int i
  | .inr x => .str x

/-- what stands at a tracked address -/
inductive HO where
  /-- a list -/
  | lst (xs : List V)
  /-- a tuple (never changes) -/
  | tup (xs : List V)
  /-- a dict whose keys are ints and texts; one whose keys are tuples of ints and texts (the empty one is both) -/
  | dK (kvs : List (Key × V)) | dT (kvs : List (List Key × V))
  /-- a set of ints: its members, its size -/
  | set (S : Int → Bool) (n : Nat)
  /-- an instance of the class at C, its dict at dx, its attributes -/
  | ins (C dx : Addr) (fs : List (Str × V))
  /-- the dict of the instance at x -/
  | own (x : Addr)
  /-- the dict of an exception -/
  | xd (fs : List (Str × V))
  /-- a bound method, f of x -/
  | met (f x : Addr)
  /-- a range object lo, lo + 1, .. below hi -/
  | rng (lo hi : Int)
  /-- a thing that is known to the object (the script; a dict while a loop walks it): read, never written while it is so -/
  | frz (o : Obj) (u : HO)
  /-- a code object's table -/
  | tbl (ps : Array Value)
  /-- any other thing, by what is true of its one object (a def of one's own: SetO a S n := HO.ext fun h => ..) -/
  | ext (φ : Heap → Prop)

abbrev Hp := Addr → Option HO
def upd (H : Hp) (a : Addr) (o : HO) : Hp := fun b => if b = a then some o else H b
theorem upd_same {H : Hp} {a : Addr} {o : HO} : upd H a o a = some o := by unfold upd; rw [if_pos rfl]
theorem upd_ne {H : Hp} {a b : Addr} {o : HO} (h : b ≠ a) : upd H a o b = H b := by unfold upd; rw [if_neg h]
/-- two objects of different content stand apart -/
theorem ne_of {H : Hp} {a b : Addr} {o u : HO} (h : H a = some o) (h' : H b = some u) (d : o ≠ u) : a ≠ b := by
  intro e; subst e; rw [h] at h'; exact d (Option.some.inj h')
theorem ne_of_none {H : Hp} {a b : Addr} {o : HO} (h : H a = some o) (h' : H b = none) : a ≠ b := by
  intro e; subst e; rw [h] at h'; cases h'

section
variable (P : Program) (w : World)
def ObjOk (H : Hp) (h : Heap) (a : Addr) : HO → Prop
  | .lst xs => xs.length ≤ sizeLine ∧ ∃ (its : List Value) (n : Nat), Vals xs its ∧ h.get? a = some { cls := .type "list", data := .seq its.toArray n }
  | .tup xs => xs.length ≤ sizeLine ∧ ∃ its : List Value, Vals xs its ∧ IsTup h a its.toArray
  | .dK kvs => kvs.length ≤ sizeLine ∧ (a == sysModules) = false ∧ ∃ vs, KV kvs vs ∧ h.DictOf (mixKind P w) a vs
  | .dT kvs => kvs.length ≤ sizeLine ∧ (a == sysModules) = false ∧ ∃ xs : List (List Key × Addr × Value),
      Paired (fun (p : List Key × V) (q : List Key × Addr × Value) => p.1 = q.1 ∧ H q.2.1 = some (.tup (p.1.map kV)) ∧ RelV p.2 q.2.2) kvs xs ∧
      ∃ o es ep, h.get? a = some o ∧ o.ExactDict ∧ o.data = .dict es ep ∧ es.toList = xs.map (entryOfKey (tupleKind (mixKind P w))) ∧ (xs.map (·.1)).Nodup
  | .set S n => h.SetOf (intKind P w) a S n
  | .ins C dx fs => H dx = some (.own a) ∧ fs.length ≤ 1000 ∧ dx ≠ a ∧ h.get? a = some (PySem.W.instObj C dx) ∧
      ∃ mA, h.Ns1 dx mA ∧ (∀ f, RelO (fs.lookup f) (mA f)) ∧ PySem.Within mA (fs.map (·.1))
  | .own _ => ∃ o, h.get? a = some o
  | .xd fs => ∃ mA, h.Ns1 a mA ∧ ∀ f, RelO (fs.lookup f) (mA f)
  | .rng lo hi => ∃ t u v, h.get? a = some { cls := .type "range", data := .fields #[.int lo t, .int hi u, .int 1 v] }
  | .frz o u => h.get? a = some o ∧ ObjOk H h a u
  | .tbl ps => h.get? a = some { cls := .none, data := .fields ps }
  | .met f x => h.get? a = some (PySem.W.methodObj (.ref f) (.ref x))
  | .ext φ => φ h ∧ (∃ o, h.get? a = some o) ∧ ∀ h1 h2 : Heap, φ h1 → (∀ o, h1.get? a = some o → h2.get? a = some o) → φ h2
/-- the abstract heap is held -/
def HOk (H : Hp) (h : Heap) : Prop := ∀ a o, H a = some o → ObjOk P w H h a o
end

section
variable {P : Program} {w : World} {H H' : Hp} {h h' : Heap} {a : Addr} {o : HO}
theorem ObjOk.lt (x : ObjOk P w H h a o) : a < h.objs.size := by
  cases o with
  | lst xs => obtain ⟨_, _, _, _, e⟩ := x; exact Heap.lt_size e
  | tup xs => obtain ⟨_, _, _, p⟩ := x; exact p.lt
  | dK kvs => obtain ⟨_, _, _, _, o, _, _, e, _⟩ := x; exact Heap.lt_size e
  | dT kvs => obtain ⟨_, _, _, _, o, _, _, e, _⟩ := x; exact Heap.lt_size e
  | set S n => obtain ⟨o, _, _, _, e, _⟩ := x; exact Heap.lt_size e
  | ins C dx fs => obtain ⟨_, _, _, e, _⟩ := x; exact Heap.lt_size e
  | own y => obtain ⟨_, e⟩ := x; exact Heap.lt_size e
  | xd fs => obtain ⟨_, ⟨_, _, _, e, _⟩, _⟩ := x; exact Heap.lt_size e
  | rng lo hi => obtain ⟨_, _, _, e⟩ := x; exact Heap.lt_size e
  | frz ob u => obtain ⟨e, _⟩ := x; exact Heap.lt_size e
  | tbl ps => exact Heap.lt_size (show h.get? a = some _ from x)
  | met f y => exact Heap.lt_size (show h.get? a = some _ from x)
  | ext φ => obtain ⟨_, ⟨_, e⟩, _⟩ := x; exact Heap.lt_size e
theorem Paired.mapP {α β : Type} {F G : α → β → Prop} : ∀ {l₁ : List α} {l₂ : List β}, Paired F l₁ l₂ → (∀ a b, F a b → G a b) → Paired G l₁ l₂
  | _, _, .nil, _ => .nil
  | _, _, .cons r t, f => .cons (f _ _ r) (Paired.mapP t f)
/-- what an object's description leans on: its own object, its own dict, the tuples -/
theorem ObjOk.stay (x : ObjOk P w H h a o) (k : ∀ b u, (b = a ∨ H b = some (.own a)) → h.get? b = some u → h'.get? b = some u)
    (ho : ∀ b, H b = some (.own a) → H' b = some (.own a)) (ht : ∀ b xs, H b = some (.tup xs) → H' b = some (.tup xs)) : ObjOk P w H' h' a o := by
  induction o with
  | lst xs => obtain ⟨z, its, n, r, e⟩ := x; exact ⟨z, its, n, r, k _ _ (.inl rfl) e⟩
  | tup xs => obtain ⟨z, its, r, ob, e, c⟩ := x; exact ⟨z, its, r, ob, k _ _ (.inl rfl) e, c⟩
  | dK kvs => obtain ⟨z, y, vs, r, ob, es, ep, e, c⟩ := x; exact ⟨z, y, vs, r, ob, es, ep, k _ _ (.inl rfl) e, c⟩
  | dT kvs =>
    obtain ⟨z, y, xs, r, ob, es, ep, e, c⟩ := x
    exact ⟨z, y, xs, Paired.mapP r fun p q z => ⟨z.1, ht _ _ z.2.1, z.2.2⟩, ob, es, ep, k _ _ (.inl rfl) e, c⟩
  | set S n => obtain ⟨ob, es, ep, t, e, c⟩ := x; exact ⟨ob, es, ep, t, k _ _ (.inl rfl) e, c⟩
  | ins C dx fs =>
    obtain ⟨d, z, ne, e, mA, ⟨od, es, ep, e2, c⟩, r⟩ := x
    exact ⟨ho _ d, z, ne, k _ _ (.inl rfl) e, mA, ⟨od, es, ep, k _ _ (.inr d) e2, c⟩, r⟩
  | own y => obtain ⟨ob, e⟩ := x; exact ⟨ob, k _ _ (.inl rfl) e⟩
  | xd fs => obtain ⟨mA, ⟨od, es, ep, e, c⟩, r⟩ := x; exact ⟨mA, ⟨od, es, ep, k _ _ (.inl rfl) e, c⟩, r⟩
  | rng lo hi => obtain ⟨t, u, v, e⟩ := x; exact ⟨t, u, v, k _ _ (.inl rfl) e⟩
  | frz ob u ih => obtain ⟨e, q⟩ := x; exact ⟨k _ _ (.inl rfl) e, ih q⟩
  | tbl ps =>
    have e : h.get? a = some { cls := .none, data := .fields ps } := x
    show h'.get? a = some { cls := .none, data := .fields ps }
    exact k a _ (.inl rfl) e
  | met f y =>
    have e : h.get? a = some (PySem.W.methodObj (.ref f) (.ref y)) := x
    show h'.get? a = some (PySem.W.methodObj (.ref f) (.ref y))
    exact k a _ (.inl rfl) e
  | ext φ => obtain ⟨p, ⟨o, e⟩, st⟩ := x; exact ⟨st _ _ p fun o q => k _ _ (.inl rfl) q, ⟨o, k _ _ (.inl rfl) e⟩, st⟩
theorem HOk.lt (x : HOk P w H h) (e : H a = some o) : a < h.objs.size := (x a o e).lt
theorem HOk.fresh (x : HOk P w H h) (e : h.objs.size ≤ a) : H a = none := by
  cases q : H a with
  | none => rfl
  | some u => exact absurd (Nat.lt_of_lt_of_le (x.lt q) e) (Nat.lt_irrefl _)
/-- every object of the heap is kept -/
theorem HOk.kept (x : HOk P w H h) (k : ∀ b u, h.get? b = some u → h'.get? b = some u) : HOk P w H h' := fun a o e =>
  (x a o e).stay (fun b u _ q => k b u q) (fun _ q => q) fun _ _ q => q
/-- a new object is laid and tracked -/
theorem HOk.laid (x : HOk P w H h) (k : ∀ b u, h.get? b = some u → h'.get? b = some u) (hp : h.objs.size ≤ a) (new : ObjOk P w (upd H a o) h' a o) : HOk P w (upd H a o) h' := fun b u e => by
  have hn := x.fresh hp
  by_cases hb : b = a
  · subst hb; rw [upd_same] at e; cases e; exact new
  · rw [upd_ne hb] at e
    exact (x b u e).stay (fun c v _ q => k c v q) (fun c q => by rw [upd_ne (ne_of_none q hn)]; exact q) fun c xs q => by rw [upd_ne (ne_of_none q hn)]; exact q
end

/-- what may be read as u: it is u, or a known u -/
def Rd (H : Hp) (a : Addr) (u : HO) : Prop := H a = some u ∨ ∃ o, H a = some (.frz o u)
theorem Rd.ok {P : Program} {w : World} {H : Hp} {h : Heap} {a : Addr} {u : HO} (r : Rd H a u) (x : HOk P w H h) : ObjOk P w H h a u := by
  rcases r with r | ⟨o, r⟩
  · exact x a u r
  · obtain ⟨_, q⟩ := x a _ r
    exact q
/-- what may be written -/
def Mut : Option HO → Prop
  | some (.lst _) => True
  | some (.dK _) => True
  | some (.dT _) => True
  | some (.set _ _) => True
  | some (.ins _ _ _) => True
  | some (.ext _) => True
  | _ => False
section
variable {P : Program} {w : World} {H : Hp} {h h' : Heap} {x e : Addr} {o' : HO}
/-- the object at e is changed: x itself, or the dict of the instance x -/
theorem HOk.write (ok : HOk P w H h) (mu : Mut (H x)) (he : e = x ∨ H e = some (.own x)) (k : ∀ b u, b ≠ e → h.get? b = some u → h'.get? b = some u) (heo : ∃ u, h'.get? e = some u)
    (new : ObjOk P w (upd H x o') h' x o') : HOk P w (upd H x o') h' := fun b u q => by
  have nown : ∀ c y, H c = some (.own y) → c ≠ x := fun c y r z => by subst z; rw [r] at mu; exact mu
  have ntup : ∀ c xs, H c = some (.tup xs) → c ≠ x := fun c xs r z => by subst z; rw [r] at mu; exact mu
  by_cases hb : b = x
  · subst hb; rw [upd_same] at q; cases q; exact new
  · rw [upd_ne hb] at q
    by_cases hbe : b = e
    · have q' : H b = some (.own x) := by
        rcases he with z | z
        · exact absurd (hbe.trans z) hb
        · rw [hbe]; exact z
      rw [q] at q'; cases q'
      obtain ⟨v, hv⟩ := heo
      exact ⟨v, by rw [hbe]; exact hv⟩
    · refine (ok b u q).stay (fun c v hc r => k c v ?_ r) (fun c r => by rw [upd_ne (nown c b r)]; exact r) fun c xs r => by rw [upd_ne (ntup c xs r)]; exact r
      rcases hc with rfl | hc
      · exact hbe
      · rintro rfl
        rcases he with z | z
        · exact nown c b hc z
        · rw [hc] at z; cases z; exact hb rfl
end

/-! ### kept unless tracked; of the frames at fs (the callers') the slots may change (an exception that passes writes there); of the records at ex (iterators) nothing is said -/
structure Un (fs ex : List Addr) (H H' : Hp) (h h' : Heap) : Prop where
  keep : ∀ b o, h.get? b = some o → H b = none → b ∉ fs → b ∉ ex → h'.get? b = some o
  slot : ∀ b o, h.get? b = some o → H b = none → b ∈ fs → b ∉ ex → ∃ sl, h'.get? b = some { o with slots := sl }
  free : ∀ b o, h.get? b = some o → H b = none → b ∉ ex → H' b = none
  there : ∀ b o, h.get? b = some o → b ∉ ex → ∃ o', h'.get? b = some o'
  tups : ∀ b xs, H b = some (.tup xs) → H' b = some (.tup xs)
  frzs : ∀ b o u, H b = some (.frz o u) → H' b = some (.frz o u)
  tbls : ∀ b ps, H b = some (.tbl ps) → ∃ more, H' b = some (.tbl (ps ++ more))
section
variable {fs fs' ex ex' : List Addr} {H H1 H2 : Hp} {h h1 h2 h' : Heap} {a x e : Addr} {o : HO}
theorem Un.any (u : Un fs ex H H1 h h1) {b : Addr} {ob : Obj} (q : h.get? b = some ob) (n : H b = none) (hx : b ∉ ex) : ∃ sl, h1.get? b = some { ob with slots := sl } := by
  by_cases hb : b ∈ fs
  · exact u.slot b ob q n hb hx
  · exact ⟨ob.slots, u.keep b ob q n hb hx⟩
theorem Un.kept (k : ∀ b u, h.get? b = some u → h'.get? b = some u) : Un fs ex H H h h' :=
  ⟨fun b ob q _ _ _ => k b ob q, fun b ob q _ _ _ => ⟨ob.slots, k b ob q⟩, fun _ _ _ n _ => n, fun b ob q _ => ⟨ob, k b ob q⟩, fun _ _ q => q, fun _ _ _ q => q, fun _ ps q => ⟨#[], by rw [q]; simp⟩⟩
theorem Un.refl : Un fs ex H H h h := Un.kept fun _ _ q => q
theorem Un.laid (k : ∀ b u, h.get? b = some u → h'.get? b = some u) (hp : h.objs.size ≤ a) (hn : H a = none) : Un fs ex H (upd H a o) h h' where
  keep := fun b u q _ _ _ => k b u q
  slot := fun b u q _ _ _ => ⟨u.slots, k b u q⟩
  free := fun b u q n _ => by rw [upd_ne (Nat.ne_of_lt (Nat.lt_of_lt_of_le (Heap.lt_size q) hp))]; exact n
  there := fun b u q _ => ⟨u, k b u q⟩
  tups := fun b xs q => by rw [upd_ne (ne_of_none q hn)]; exact q
  frzs := fun b u xs q => by rw [upd_ne (ne_of_none q hn)]; exact q
  tbls := fun b ps q => ⟨#[], by rw [upd_ne (ne_of_none q hn), q]; simp⟩
theorem Un.write (mu : Mut (H x)) (he : e = x ∨ H e = some (.own x)) (k : ∀ b u, b ≠ e → h.get? b = some u → h'.get? b = some u) (heo : ∃ u, h'.get? e = some u) : Un fs ex H (upd H x o) h h' := by
  have hx : ∀ b, H b = none → b ≠ x := fun b n z => by subst z; rw [n] at mu; exact mu
  have hb : ∀ b, H b = none → b ≠ e := fun b n z => by
    subst z
    rcases he with r | r
    · exact hx b n r
    · rw [n] at r; cases r
  have hm : ∀ b u, H b = some u → ¬ Mut (some u) → b ≠ x := fun b u q nm z => by subst z; rw [q] at mu; exact nm mu
  refine ⟨fun b u q n _ _ => k b u (hb b n) q, fun b u q n _ _ => ⟨u.slots, k b u (hb b n) q⟩, fun b u q n _ => by rw [upd_ne (hx b n)]; exact n, fun b u q _ => ?_,
    fun b xs q => by rw [upd_ne (hm b _ q fun z => z)]; exact q, fun b u xs q => by rw [upd_ne (hm b _ q fun z => z)]; exact q, fun b ps q => ⟨#[], by rw [upd_ne (hm b _ q fun z => z), q]; simp⟩⟩
  by_cases hbe : b = e
  · subst hbe; exact heo
  · exact ⟨u, k b u hbe q⟩
end

/-! ### the heap without what is tracked -/
def trk (h : Heap) (H : Hp) : List Addr := (List.range h.objs.size).filter fun a => (H a).isSome
def hidT (h : Heap) (H : Hp) : Heap := PySem.W.hideAll h (trk h H)
theorem hidT_size (h : Heap) (H : Hp) : (hidT h H).objs.size = h.objs.size := PySem.W.hideAll_size _ _
theorem hidT_get {h : Heap} {H : Hp} {b : Addr} {o : Obj} (e : h.get? b = some o) (n : H b = none) : (hidT h H).get? b = some o :=
  PySem.W.hideAll_get _ e fun hm => by
    have q : (H b).isSome = true := (List.mem_filter.mp hm).2
    rw [n] at q; simp at q
theorem of_hidT {h : Heap} {H : Hp} {b : Addr} {o : Obj} (e : (hidT h H).get? b = some o) : h.get? b = some o ∧ H b = none := by
  have e' : h.get? b = some o := PySem.W.of_hideAll (trk h H) e
  refine ⟨e', ?_⟩
  cases q : H b with
  | none => rfl
  | some x =>
    have hm : b ∈ trk h H := List.mem_filter.mpr ⟨List.mem_range.mpr (Heap.lt_size e'), by simp [q]⟩
    have z : (hidT h H).get? b = none := PySem.W.hideAll_none (trk h H) hm
    rw [z] at e; cases e

/-! ### OpenK's ledger, filled with every new object but one -/
end L2

namespace L2
open PySem PySem.Spec PyProof.Rows

/-- the module's facts, over the base: the heap at the law's entry without what is tracked there -/
structure Mod (K : PySem.W.Frag) (mg : Str → Option Value) (base : Heap) : Prop where
  kin : K.In base
  glob : base.Ns mainGlobals mg
  blt : ∃ mb, base.Ns builtinsNs mb ∧ ∀ x : Str, x ≠ "__name__" → mb x = bootBuiltins x
  nolimit : base.NoLimit

/-- the context: a def's body (or a comprehension's block) running. base: fixed through the whole law; s₀, H₀: the entry; outer: the frames whose slots others may change (a def's callers); stack: all frames that run;
   ex: iterators that were made ahead of the entry and are walked here (a comprehension's); fn: the names whose cells were made at the entry (a def: all; a comprehension's block: its own); calm: not within an except suite; pn: pins that every state bears; xe: what is wanted of an exception that leaves the code -/
structure Cx where
  prog : Program
  w : World
  K : PySem.W.Frag
  mg : Str → Option Value
  base : Heap
  A : Around
  N : List Str
  s₀ : Shared
  H₀ : Hp
  env : Env
  outer : List Env
  stack : List Env
  ex : List Addr
  fn : Str → Bool
  calm : Bool
  pn : List (Addr × Obj)
  xe : Value → Shared → Prop
/-- the callers' frames -/
def frs (l : List Env) : List Addr := l.filterMap (·.frame)
abbrev Cx.fs (X : Cx) : List Addr := frs X.outer

def Vis (sc : Scope) (x : Str) : Prop := sc.names.lookup x = some .local ∨ sc.names.lookup x = some .cell ∨ sc.names.lookup x = some .free
def Loc (sc : Scope) (x : Str) : Prop := sc.names.lookup x = some .local ∨ sc.names.lookup x = some .cell
def Look (env : Env) (h : Heap) (m : Str → Option Value) (x : Str) (u : Value) : Prop :=
  (env.kindOf x = some .local ∧ m x = some u) ∨ ((env.kindOf x = some .cell ∨ env.kindOf x = some .free) ∧ ∃ c, env.cells.lookup x = some c ∧ h.IsCell c (some u))

structure Cx.Ok (X : Cx) : Prop where
  mod : Mod X.K X.mg X.base
  kind : X.env.scope.kind = .function
  glob : X.env.globals = mainGlobals
  blt : X.env.builtins = builtinsNs
  above : X.s₀.heap.objs.size ≤ X.env.locals
  inj : ∀ x y c, X.env.cells.lookup x = some c → X.env.cells.lookup y = some c → x = y
  has : ∀ x, (X.env.kindOf x = some .cell ∨ X.env.kindOf x = some .free) → ∃ c, X.env.cells.lookup x = some c
  cab : ∀ x c, X.fn x = true → X.env.cells.lookup x = some c → X.s₀.heap.objs.size ≤ c
  hd : X.calm = true → X.A.handled = none
  frames : X.A.frames = some X.stack
  stk : X.stack = X.outer ∨ (X.stack = X.env :: X.outer ∧ X.env.frame = some X.env.locals)
  exf : ∀ b ∈ X.ex, b ≠ X.env.locals ∧ ∀ x c, X.env.cells.lookup x = some c → c ≠ b
  bs : ∀ b o, X.base.get? b = some o → X.s₀.heap.get? b = some o ∧ X.H₀ b = none
  bsz : X.base.objs.size ≤ X.s₀.heap.objs.size
  noex : ∀ b o, X.base.get? b = some o → b ∉ X.ex
  exfs : ∀ b ∈ X.ex, b ∉ X.fs
  funs : X.s₀.heap.FunFrames X.base X.outer
  frf : ∀ b ∈ X.fs, X.H₀ b = none

structure Inv (X : Cx) (pins : List (Addr × Obj)) (σ : List (Option V)) (H : Hp) (s : Shared) : Prop where
  ok : X.Ok
  os : s.os = X.s₀.os
  bare : AllBare s.gens
  base : Un X.fs X.ex X.H₀ H X.s₀.heap s.heap
  loc : ∃ m, s.heap.Ns X.env.locals m ∧ ∀ (i : Nat) (x : Str) (v : V), X.N[i]? = some x → σ[i]? = some (some v) → Vis X.env.scope x → ∃ u, RelV v u ∧ Look X.env s.heap m x u
  cell : ∀ x c, X.env.cells.lookup x = some c → ∃ v, s.heap.IsCell c v
  free : H X.env.locals = none
  freeC : ∀ x c, X.env.cells.lookup x = some c → H c = none
  pin : ∀ p ∈ X.pn ++ pins, s.heap.get? p.1 = some p.2 ∧ H p.1 = none ∧ p.1 ≠ X.env.locals ∧ p.1 ∉ X.fs ∧ ∀ v, p.2.data ≠ .cell v
  hok : HOk X.prog X.w H s.heap
  len : σ.length = X.N.length

section
variable {X : Cx} {pins : List (Addr × Obj)} {σ : List (Option V)} {H H' : Hp} {s : Shared} {h' : Heap}

theorem Cx.Ok.nofr (ok : X.Ok) {b : Addr} {o : Obj} (e : X.base.get? b = some o) : b ∉ X.fs := fun hb => by
  have := (ok.funs.mem hb).1
  rw [e] at this; cases this
theorem Inv.bs (I : Inv X pins σ H s) : ∀ b o, X.base.get? b = some o → s.heap.get? b = some o ∧ H b = none := fun b o e =>
  ⟨I.base.keep b o (I.ok.bs b o e).1 (I.ok.bs b o e).2 (I.ok.nofr e) (I.ok.noex b o e), I.base.free b o (I.ok.bs b o e).1 (I.ok.bs b o e).2 (I.ok.noex b o e)⟩
theorem Inv.bk (I : Inv X pins σ H s) : ∀ b o, X.base.get? b = some o → s.heap.get? b = some o := fun b o e => (I.bs b o e).1
theorem Inv.mod (I : Inv X pins σ H s) : Mod X.K X.mg X.base := I.ok.mod
theorem Inv.kIn (I : Inv X pins σ H s) : X.K.In s.heap := I.ok.mod.kin.keeps I.bk
theorem Inv.lt (I : Inv X pins σ H s) : X.env.locals < s.heap.objs.size := let ⟨_, hn, _⟩ := I.loc; hn.lt
theorem Inv.sz (I : Inv X pins σ H s) : X.s₀.heap.objs.size ≤ s.heap.objs.size := Nat.le_trans I.ok.above (Nat.le_of_lt I.lt)
theorem Inv.nofs (I : Inv X pins σ H s) {a : Addr} (h : s.heap.objs.size ≤ a) : a ∉ X.fs := fun hb => by
  obtain ⟨_, o, ho, _⟩ := I.ok.funs.mem hb
  exact absurd (Nat.lt_of_lt_of_le (Heap.lt_size ho) (Nat.le_trans I.sz h)) (Nat.lt_irrefl _)
theorem Inv.cne (I : Inv X pins σ H s) : ∀ x c, X.env.cells.lookup x = some c → c ≠ X.env.locals := fun x c e z => by
  obtain ⟨v, o, ho, hd⟩ := I.cell x c e
  obtain ⟨m, ⟨o', es, ep, ho', hd', _⟩, _⟩ := I.loc
  rw [z, ho'] at ho; cases ho; rw [hd'] at hd; cases hd
theorem Inv.funs (I : Inv X pins σ H s) : s.heap.FunFrames X.base X.outer := by
  have all : ∀ (l : List Env), (∀ b ∈ frs l, b ∈ X.fs) → X.s₀.heap.FunFrames X.base l → s.heap.FunFrames X.base l := by
    intro l
    induction l with
    | nil => intro _ _; trivial
    | cons env r ih =>
      intro hs hl
      obtain ⟨hk, ⟨L, o, hf, hn, ho, hd⟩, hr⟩ := hl
      have hL : L ∈ X.fs := hs L (by unfold frs; rw [List.filterMap_cons, hf]; exact List.mem_cons_self)
      obtain ⟨sl, e⟩ := I.base.slot L o ho (I.ok.frf L hL) hL fun z => I.ok.exfs L z hL
      exact ⟨hk, ⟨L, _, hf, hn, e, hd⟩, ih (fun b hb => hs b (by unfold frs; rw [List.filterMap_cons, hf]; exact List.mem_cons_of_mem _ hb)) hr⟩
  exact all X.outer (fun _ hb => hb) I.ok.funs

/-- the frames that run, for a call -/
theorem Inv.stack (I : Inv X pins σ H s) : s.heap.FunFrames X.base X.stack := by
  rcases I.ok.stk with e | ⟨e, hf⟩
  · rw [e]; exact I.funs
  · rw [e]
    obtain ⟨m, hn, _⟩ := I.loc
    refine .cons (by rw [I.ok.kind]; decide) hf hn ?_ I.funs
    exact Heap.get?_none_of_le (Nat.le_trans I.ok.bsz I.ok.above)
theorem Inv.stkSub (I : Inv X pins σ H s) : ∀ b ∈ frs X.stack, b ∈ X.env.locals :: X.fs := fun b hb => by
  rcases I.ok.stk with e | ⟨e, hf⟩
  · rw [e] at hb; exact List.mem_cons_of_mem _ hb
  · rw [e] at hb
    unfold frs at hb
    rw [List.filterMap_cons, hf] at hb
    exact hb
theorem Inv.stkFree (I : Inv X pins σ H s) : ∀ b ∈ frs X.stack, H b = none := fun b hb => by
  rcases List.mem_cons.mp (I.stkSub b hb) with e | hb
  · rw [e]; exact I.free
  · obtain ⟨_, o, ho, _⟩ := I.ok.funs.mem hb
    exact I.base.free b o ho (I.ok.frf b hb) fun z => I.ok.exfs b z hb

/-- THE STEP: the untracked objects but the frame and the records at ch are kept (the callers' frames up to slots), the frame's map is kept, the new abstract heap is held -/
theorem Inv.step {g' : Array GenState} {t' : Nat} {d' : Drawn} {ch : List Addr} (I : Inv X pins σ H s)
    (hch : ∀ b ∈ ch, (b ∈ X.ex ∨ X.s₀.heap.objs.size ≤ b) ∧ b ≠ X.env.locals ∧ (∀ x c, X.env.cells.lookup x = some c → c ≠ b) ∧ ∀ p ∈ X.pn ++ pins, p.1 ≠ b)
    (keep : ∀ b o, b ≠ X.env.locals → b ∉ X.fs → b ∉ ch → s.heap.get? b = some o → H b = none → h'.get? b = some o)
    (slot : ∀ b o, b ≠ X.env.locals → b ∈ X.fs → b ∉ ch → s.heap.get? b = some o → H b = none → ∃ sl, h'.get? b = some { o with slots := sl }) (free : ∀ b o, b ∉ ch → s.heap.get? b = some o → H b = none → H' b = none)
    (there : ∀ b o, b ∉ ch → s.heap.get? b = some o → ∃ o', h'.get? b = some o')
    (tups : ∀ b xs, H b = some (.tup xs) → H' b = some (.tup xs)) (frzs : ∀ b o u, H b = some (.frz o u) → H' b = some (.frz o u)) (tbls : ∀ b ps, H b = some (.tbl ps) → ∃ more, H' b = some (.tbl (ps ++ more)))
    (ns : ∀ m, s.heap.Ns X.env.locals m → h'.Ns X.env.locals m) (hok : HOk X.prog X.w H' h') (hg : AllBare g') :
    Inv X pins σ H' { s with heap := h', gens := g', drawn := d', toks := t' } := by
  have neL : ∀ b o, X.s₀.heap.get? b = some o → b ≠ X.env.locals := fun b o e => Nat.ne_of_lt (Nat.lt_of_lt_of_le (Heap.lt_size e) I.ok.above)
  have neC : ∀ b o, X.s₀.heap.get? b = some o → b ∉ X.ex → b ∉ ch := fun b o e hx hb => by
    rcases (hch b hb).1 with z | z
    · exact hx z
    · exact absurd (Nat.lt_of_lt_of_le (Heap.lt_size e) z) (Nat.lt_irrefl _)
  have cellK : ∀ x c, X.env.cells.lookup x = some c → ∀ v, s.heap.IsCell c v → h'.IsCell c v := fun x c e v ⟨o, ho, hd⟩ => by
    have nch : c ∉ ch := fun z => (hch c z).2.2.1 x c e rfl
    by_cases hc : c ∈ X.fs
    · obtain ⟨sl, q⟩ := slot c o (I.cne x c e) hc nch ho (I.freeC x c e)
      exact ⟨_, q, hd⟩
    · exact ⟨o, keep c o (I.cne x c e) hc nch ho (I.freeC x c e), hd⟩
  refine ⟨I.ok, I.os, hg, ⟨fun b o e n hb hx => ?_, fun b o e n hb hx => ?_, fun b o e n hx => ?_, fun b o e hx => ?_, fun b xs e => tups b xs (I.base.tups b xs e), fun b o xs e => frzs b o xs (I.base.frzs b o xs e), fun b ps e => ?_⟩, ?_, fun x c e => ?_, ?_, fun x c e => ?_, fun p hp => ?_, hok, I.len⟩
  · exact keep b o (neL b o e) hb (neC b o e hx) (I.base.keep b o e n hb hx) (I.base.free b o e n hx)
  · obtain ⟨sl, e1⟩ := I.base.slot b o e n hb hx
    obtain ⟨sl', e2⟩ := slot b _ (neL b o e) hb (neC b o e hx) e1 (I.base.free b o e n hx)
    exact ⟨sl', e2⟩
  · obtain ⟨o', e1⟩ := I.base.there b o e hx
    exact free b o' (neC b o e hx) e1 (I.base.free b o e n hx)
  · obtain ⟨o', e1⟩ := I.base.there b o e hx
    exact there b o' (neC b o e hx) e1
  · obtain ⟨m1, e1⟩ := I.base.tbls b ps e
    obtain ⟨m2, e2⟩ := tbls b _ e1
    exact ⟨m1 ++ m2, by rw [e2, Array.append_assoc]⟩
  · obtain ⟨m, hn, hl⟩ := I.loc
    refine ⟨m, ns m hn, fun i x v e1 e2 e3 => ?_⟩
    obtain ⟨u, r, l⟩ := hl i x v e1 e2 e3
    refine ⟨u, r, ?_⟩
    rcases l with l | ⟨k, c, e, z⟩
    · exact .inl l
    · exact .inr ⟨k, c, e, cellK x c e _ z⟩
  · obtain ⟨v, z⟩ := I.cell x c e
    exact ⟨v, cellK x c e v z⟩
  · obtain ⟨m, ⟨o, _, _, ho, _⟩, _⟩ := I.loc
    exact free _ o (fun z => (hch _ z).2.1 rfl) ho I.free
  · obtain ⟨v, o, ho, hd⟩ := I.cell x c e
    exact free c o (fun z => (hch c z).2.2.1 x c e rfl) ho (I.freeC x c e)
  · obtain ⟨e, n, ne, nf, d⟩ := I.pin p hp
    have nch : p.1 ∉ ch := fun z => (hch p.1 z).2.2.2 p hp rfl
    exact ⟨keep p.1 p.2 ne nf nch e n, free p.1 p.2 nch e n, ne, nf, d⟩
/-- .. where the frame's own object is kept too -/
theorem Inv.un {t' : Nat} (I : Inv X pins σ H s) (u : Un X.fs [] H H' s.heap h') (hok : HOk X.prog X.w H' h') : Inv X pins σ H' { s with heap := h', toks := t' } := by
  obtain ⟨m, ⟨o, es, ep, ho, r⟩, _⟩ := id I.loc
  obtain ⟨sl, hL⟩ := u.any ho I.free (by simp)
  exact I.step (g' := s.gens) (d' := s.drawn) (ch := []) (fun _ z => nomatch z) (fun b o _ hb _ e n => u.keep b o e n hb (by simp)) (fun b o _ hb _ e n => u.slot b o e n hb (by simp)) (fun b o _ e n => u.free b o e n (by simp)) (fun b o _ e => u.there b o e (by simp)) u.tups u.frzs u.tbls (fun m' hm => by
    obtain ⟨o', es', ep', ho', r'⟩ := hm
    rw [ho] at ho'; cases ho'
    exact ⟨_, es', ep', hL, r'⟩) hok I.bare
/-- behind a call (or a comprehension's block): the slots of this frame may have changed too, the records at ch may have turned -/
theorem Inv.call {g' : Array GenState} {t' : Nat} {d' : Drawn} {ch : List Addr} (I : Inv X pins σ H s) (u : Un (frs X.stack) ch H H' s.heap h') (hok : HOk X.prog X.w H' h') (hg : AllBare g')
    (hch : ∀ b ∈ ch, (b ∈ X.ex ∨ X.s₀.heap.objs.size ≤ b) ∧ b ≠ X.env.locals ∧ (∀ x c, X.env.cells.lookup x = some c → c ≠ b) ∧ ∀ p ∈ X.pn ++ pins, p.1 ≠ b) :
    Inv X pins σ H' { s with heap := h', gens := g', drawn := d', toks := t' } := by
  obtain ⟨m, ⟨o, es, ep, ho, r⟩, _⟩ := id I.loc
  obtain ⟨sl, hL⟩ := u.any ho I.free fun z => (hch _ z).2.1 rfl
  exact I.step (ch := ch) hch (fun b o hL hb hc e n => u.keep b o e n (fun z => (List.mem_cons.mp (I.stkSub b z)).elim hL hb) hc) (fun b o _ _ hc e n => u.any e n hc) (fun b o hc e n => u.free b o e n hc) (fun b o hc e => u.there b o e hc) u.tups u.frzs u.tbls (fun m' hm => by
    obtain ⟨o', es', ep', ho', r'⟩ := hm
    rw [ho] at ho'; cases ho'
    exact ⟨_, es', ep', hL, r'⟩) hok hg
/-- an untracked record of ours (an iterator) has turned -/
theorem Inv.turned {t' : Nat} {it : Addr} (I : Inv X pins σ H s) (k : ∀ b o, b ≠ it → s.heap.get? b = some o → h'.get? b = some o) (hn : H it = none) (hL : it ≠ X.env.locals)
    (h1 : it ∈ X.ex ∨ X.s₀.heap.objs.size ≤ it) (h2 : ∀ x c, X.env.cells.lookup x = some c → c ≠ it) (h3 : ∀ p ∈ X.pn ++ pins, p.1 ≠ it) : Inv X pins σ H { s with heap := h', toks := t' } := by
  have nit : ∀ b u, H b = some u → b ≠ it := fun b u e z => by rw [z, hn] at e; cases e
  refine I.step (g' := s.gens) (d' := s.drawn) (ch := [it]) (fun b hb => ?_) (fun b o _ _ hc e _ => k b o (fun z => hc (by simp [z])) e) (fun b o _ _ hc e _ => ⟨o.slots, k b o (fun z => hc (by simp [z])) e⟩) (fun _ _ _ _ n => n)
    (fun b o hc e => ⟨o, k b o (fun z => hc (by simp [z])) e⟩) (fun _ _ e => e) (fun _ _ _ e => e) (fun b ps e => ⟨#[], by rw [e]; simp⟩) (fun m hm => ?_) (fun b u e => ?_) I.bare
  · have e : b = it := by simpa using hb
    subst e
    exact ⟨h1, hL, h2, h3⟩
  · obtain ⟨o, es, ep, ho, r⟩ := hm
    exact ⟨o, es, ep, k _ o (Ne.symm hL) ho, r⟩
  · refine (I.hok b u e).stay (fun c v hc q => k c v ?_ q) (fun _ q => q) fun _ _ q => q
    rcases hc with z | z
    · rw [z]; exact nit b u e
    · exact nit c _ z
theorem Inv.tok (I : Inv X pins σ H s) (t : Nat) : Inv X pins σ H { s with toks := t } := I.un (h' := s.heap) (t' := t) Un.refl I.hok
/-- all objects kept -/
theorem Inv.kept {t' : Nat} (I : Inv X pins σ H s) (k : ∀ b u, s.heap.get? b = some u → h'.get? b = some u) : Inv X pins σ H { s with heap := h', toks := t' } := I.un (Un.kept k) (I.hok.kept k)
/-- a new object laid and tracked -/
theorem Inv.laid {a : Addr} {o : HO} {t' : Nat} (I : Inv X pins σ H s) (k : ∀ b u, s.heap.get? b = some u → h'.get? b = some u) (hp : s.heap.objs.size ≤ a) (new : ObjOk X.prog X.w (upd H a o) h' a o) :
    Inv X pins σ (upd H a o) { s with heap := h', toks := t' } := I.un (Un.laid k hp (I.hok.fresh hp)) (I.hok.laid k hp new)
/-- an object written -/
theorem Inv.write {x e : Addr} {o : HO} {t' : Nat} (I : Inv X pins σ H s) (mu : Mut (H x)) (he : e = x ∨ H e = some (.own x)) (k : ∀ b u, b ≠ e → s.heap.get? b = some u → h'.get? b = some u) (heo : ∃ u, h'.get? e = some u)
    (new : ObjOk X.prog X.w (upd H x o) h' x o) : Inv X pins σ (upd H x o) { s with heap := h', toks := t' } := I.un (Un.write mu he k heo) (I.hok.write mu he k heo new)
theorem Inv.pins_of {pins' : List (Addr × Obj)} (I : Inv X pins σ H s) (h : ∀ p ∈ pins', s.heap.get? p.1 = some p.2 ∧ H p.1 = none ∧ p.1 ≠ X.env.locals ∧ p.1 ∉ X.fs ∧ ∀ v, p.2.data ≠ .cell v) : Inv X pins' σ H s :=
  ⟨I.ok, I.os, I.bare, I.base, I.loc, I.cell, I.free, I.freeC, fun p hp => (List.mem_append.mp hp).elim (fun z => I.pin p (List.mem_append_left _ z)) (h p), I.hok, I.len⟩

theorem nodup_ix {N : List Str} (hN : N.Nodup) {i j : Nat} {x : Str} (a : N[i]? = some x) (b : N[j]? = some x) : i = j := by
  obtain ⟨h1, e1⟩ := List.getElem?_eq_some_iff.mp a
  obtain ⟨h2, e2⟩ := List.getElem?_eq_some_iff.mp b
  exact (List.getElem_inj hN).mp (e1.trans e2.symm)

/-- a name is stored; what changed -/
theorem store_ok2 {M : Model} {A : Around} {E : Value → Shared → Prop} {i : Nat} {x : Str} {v : V} {u : Value} {Q : Unit → Shared → Prop} (I : Inv X pins σ H s) (hN : X.N.Nodup) (hi : X.N[i]? = some x) (hx : Loc X.env.scope x) (r : RelV v u)
    (h : ∀ s', Inv X pins (σ.set i (some v)) H s' → (∃ a, Heap.SameBut a s.heap s'.heap ∧ (a = X.env.locals ∨ X.env.cells.lookup x = some a)) → Q () s') (hf : X.fn x = true ∨ X.env.scope.names.lookup x = some .local := by first | exact .inl rfl | exact .inr rfl | assumption) : wpAny M A (storeName X.env x u) Q E s := by
  obtain ⟨m, hn, hl⟩ := id I.loc
  have hcls : (X.env.scope.kind == .class || (X.env.scope.kind == .module && X.env.locals != X.env.globals)) = false := by rw [I.ok.kind]; rfl
  have hiσ : i < σ.length := by rw [I.len]; exact (List.getElem?_eq_some_iff.mp hi).1
  have cne := I.cne
  have tracked : ∀ {a : Addr} {h' : Heap}, (∃ o, s.heap.get? a = some o ∧ H a = none) → Heap.SameBut a s.heap h' → HOk X.prog X.w H h' := fun {a h'} ha hs b ob e => by
    obtain ⟨_, _, hfree⟩ := ha
    refine (I.hok b ob e).stay (fun c w' hc q => (hs.2 c ?_).trans q) (fun _ q => q) fun _ _ q => q
    rintro rfl
    rcases hc with rfl | hc
    · rw [hfree] at e; cases e
    · rw [hfree] at hc; cases hc
  rcases hx with hk | hk
  · refine wpAny_storeName_local hk hn (fun h' hn' hs => ?_) hcls
    obtain ⟨oL, _, _, hoL, _⟩ := id hn
    refine h _ ⟨I.ok, I.os, I.bare, ⟨fun b o e n hb hx => ?_, fun b o e n hb hx => ?_, I.base.free, fun b o e hx => ?_, I.base.tups, I.base.frzs, I.base.tbls⟩, ⟨_, hn', fun j y v' e1 e2 e3 => ?_⟩, fun y c e => ?_, I.free, I.freeC, fun p hp => ?_, tracked ⟨oL, hoL, I.free⟩ hs, by simpa using I.len⟩ ⟨_, hs, .inl rfl⟩
    · exact (hs.2 b (Nat.ne_of_lt (Nat.lt_of_lt_of_le (Heap.lt_size e) I.ok.above))).trans (I.base.keep b o e n hb hx)
    · obtain ⟨sl, e1⟩ := I.base.slot b o e n hb hx
      exact ⟨sl, (hs.2 b (Nat.ne_of_lt (Nat.lt_of_lt_of_le (Heap.lt_size e) I.ok.above))).trans e1⟩
    · obtain ⟨o', e1⟩ := I.base.there b o e hx
      exact ⟨o', (hs.2 b (Nat.ne_of_lt (Nat.lt_of_lt_of_le (Heap.lt_size e) I.ok.above))).trans e1⟩
    · by_cases hj : j = i
      · subst hj
        rw [hi] at e1; cases e1
        rw [List.getElem?_set_self hiσ] at e2
        cases e2
        exact ⟨u, r, .inl ⟨hk, by simp⟩⟩
      · rw [List.getElem?_set_ne (Ne.symm hj)] at e2
        obtain ⟨u', r', q⟩ := hl j y v' e1 e2 e3
        refine ⟨u', r', ?_⟩
        rcases q with ⟨k, e⟩ | ⟨k, c, e, z⟩
        · refine .inl ⟨k, ?_⟩
          have : y ≠ x := fun e => hj (nodup_ix hN e1 (e ▸ hi))
          simp [this, e]
        · exact .inr ⟨k, c, e, z.sameBut hs (cne y c e)⟩
    · obtain ⟨w', z⟩ := I.cell y c e
      exact ⟨w', z.sameBut hs (cne y c e)⟩
    · obtain ⟨e, n, ne, nf, d⟩ := I.pin p hp
      exact ⟨(hs.2 p.1 ne).trans e, n, ne, nf, d⟩
  · have hfn : X.fn x = true := by
      rcases hf with z | z
      · exact z
      · rw [z] at hk; cases hk
    obtain ⟨c, hc⟩ := I.ok.has x (.inl hk)
    obtain ⟨w', z⟩ := I.cell x c hc
    refine wpAny_storeName_cell I.ok.kind hk hc z (fun h' hc' hs => ?_)
    obtain ⟨oc, hoc, hocd⟩ := id z
    refine h { s with heap := h' } ⟨I.ok, I.os, I.bare, ⟨fun b o e n hb hx => ?_, fun b o e n hb hx => ?_, I.base.free, fun b o e hx => ?_, I.base.tups, I.base.frzs, I.base.tbls⟩, ⟨m, hn.sameBut hs (Ne.symm (cne x c hc)), fun j y v' e1 e2 e3 => ?_⟩, fun y c' e => ?_, I.free, I.freeC, fun p hp => ?_, tracked ⟨oc, hoc, I.freeC x c hc⟩ hs, by simpa using I.len⟩ ⟨c, hs, .inr hc⟩
    · exact (hs.2 b (Nat.ne_of_lt (Nat.lt_of_lt_of_le (Heap.lt_size e) (I.ok.cab x c hfn hc)))).trans (I.base.keep b o e n hb hx)
    · obtain ⟨sl, e1⟩ := I.base.slot b o e n hb hx
      exact ⟨sl, (hs.2 b (Nat.ne_of_lt (Nat.lt_of_lt_of_le (Heap.lt_size e) (I.ok.cab x c hfn hc)))).trans e1⟩
    · obtain ⟨o', e1⟩ := I.base.there b o e hx
      exact ⟨o', (hs.2 b (Nat.ne_of_lt (Nat.lt_of_lt_of_le (Heap.lt_size e) (I.ok.cab x c hfn hc)))).trans e1⟩
    · by_cases hj : j = i
      · subst hj
        rw [hi] at e1; cases e1
        rw [List.getElem?_set_self hiσ] at e2
        cases e2
        exact ⟨u, r, .inr ⟨.inl hk, c, hc, hc'⟩⟩
      · rw [List.getElem?_set_ne (Ne.symm hj)] at e2
        obtain ⟨u', r', q⟩ := hl j y v' e1 e2 e3
        refine ⟨u', r', ?_⟩
        rcases q with q | ⟨k, c', e, z'⟩
        · exact .inl q
        · refine .inr ⟨k, c', e, z'.sameBut hs ?_⟩
          rintro rfl
          exact hj (nodup_ix hN e1 (I.ok.inj _ _ _ e hc ▸ hi))
    · by_cases hcc : c' = c
      · subst hcc; exact ⟨_, hc'⟩
      · obtain ⟨w2, z2⟩ := I.cell y c' e
        exact ⟨w2, z2.sameBut hs hcc⟩
    · obtain ⟨e, n, ne, nf, d⟩ := I.pin p hp
      refine ⟨(hs.2 p.1 ?_).trans e, n, ne, nf, d⟩
      intro q
      rw [q, hoc] at e
      have q' : oc = p.2 := Option.some.inj e
      exact d w' (by rw [← q']; exact hocd)
theorem store_ok {M : Model} {A : Around} {E : Value → Shared → Prop} {i : Nat} {x : Str} {v : V} {u : Value} {Q : Unit → Shared → Prop} (I : Inv X pins σ H s) (hN : X.N.Nodup) (hi : X.N[i]? = some x) (hx : Loc X.env.scope x) (r : RelV v u)
    (h : ∀ s', Inv X pins (σ.set i (some v)) H s' → Q () s') (hf : X.fn x = true ∨ X.env.scope.names.lookup x = some .local := by first | exact .inl rfl | exact .inr rfl | assumption) : wpAny M A (storeName X.env x u) Q E s :=
  store_ok2 I hN hi hx r (fun s' I' _ => h s' I') hf
/-- behind a call or a block, the state as it is -/
theorem Inv.call' {s' : Shared} {ch : List Addr} (I : Inv X pins σ H s) (ho : s'.os = s.os) (u : Un (frs X.stack) ch H H' s.heap s'.heap) (hok : HOk X.prog X.w H' s'.heap) (hg : AllBare s'.gens)
    (hch : ∀ b ∈ ch, (b ∈ X.ex ∨ X.s₀.heap.objs.size ≤ b) ∧ b ≠ X.env.locals ∧ (∀ x c, X.env.cells.lookup x = some c → c ≠ b) ∧ ∀ p ∈ X.pn ++ pins, p.1 ≠ b) : Inv X pins σ H' s' := by
  obtain ⟨h', g', d', t', o'⟩ := s'
  have e : o' = s.os := ho
  subst e
  exact I.call (g' := g') (t' := t') (d' := d') u hok hg hch
end

/-! ### the judgements -/
/-- an exception: its class, its own dict's address (where it has one), the abstract heap behind it -/
abbrev XK := Value → Option Addr → Hp → Prop
abbrev St := List (Option V)
abbrev VK := V → Hp → Prop
/-- an expression's reading; a test's; an argument list's -/
abbrev TE := St → Hp → VK → Prop
abbrev TT := St → Hp → (Bool → Hp → Prop) → Prop
abbrev TA := St → Hp → (List V → Hp → Prop) → Prop
/-- what is wanted behind a statement -/
structure Ends where
  nx : St → Hp → Prop
  rt : VK
  bk : St → Hp → Prop := fun _ _ => False
  ct : St → Hp → Prop := fun _ _ => False
abbrev TS := Ends → St → Hp → Prop

def EP (X : Cx) (pins : List (Addr × Obj)) (σ : St) (Q : VK) (u : Value) (s' : Shared) : Prop := ∃ v H', Inv X pins σ H' s' ∧ RelV v u ∧ Q v H'
def TP (X : Cx) (pins : List (Addr × Obj)) (σ : St) (Q : Bool → Hp → Prop) (b : Bool) (s' : Shared) : Prop := ∃ H', Inv X pins σ H' s' ∧ Q b H'
def AP (X : Cx) (pins : List (Addr × Obj)) (σ : St) (Q : List V → Hp → Prop) (us : List Value) (s' : Shared) : Prop := ∃ vs H', Inv X pins σ H' s' ∧ Vals vs us ∧ Q vs H'
def SP (X : Cx) (pins : List (Addr × Obj)) (D : Ends) (f : Flow) (s' : Shared) : Prop :=
  match f with
  | .next => ∃ σ' H', Inv X pins σ' H' s' ∧ D.nx σ' H'
  | .brk => ∃ σ' H', Inv X pins σ' H' s' ∧ D.bk σ' H'
  | .cont => ∃ σ' H', Inv X pins σ' H' s' ∧ D.ct σ' H'
  | .ret u => ∃ v σ' H', Inv X pins σ' H' s' ∧ RelV v u ∧ D.rt v H'

def PE (X : Cx) (e : Expr) (t : TE) : Prop :=
  ∀ (pins : List (Addr × Obj)) (s : Shared) (σ : St) (H : Hp) (Q : VK), Inv X pins σ H s → t σ H Q → wpAny (model X.prog X.w) X.A (eval e X.env) (EP X pins σ Q) X.xe s
def PT (X : Cx) (e : Expr) (t : TT) : Prop :=
  ∀ (pins : List (Addr × Obj)) (s : Shared) (σ : St) (H : Hp) (Q : Bool → Hp → Prop), Inv X pins σ H s → t σ H Q → wpAny (model X.prog X.w) X.A (isTrue e X.env (eval e X.env)) (TP X pins σ Q) X.xe s
/-- a test whatever its 'whole' is (and, or) -/
def PW (X : Cx) (e : Expr) (t : TT) : Prop :=
  ∀ (whole : Sem Value) (pins : List (Addr × Obj)) (s : Shared) (σ : St) (H : Hp) (Q : Bool → Hp → Prop), Inv X pins σ H s → t σ H Q → wpAny (model X.prog X.w) X.A (isTrue e X.env whole) (TP X pins σ Q) X.xe s
theorem PW.pt {X : Cx} {e : Expr} {t : TT} (h : PW X e t) : PT X e t := h _
/-- an argument list (no star), from the left -/
def PA (X : Cx) (es : List Expr) (t : TA) : Prop :=
  ∀ (pos : Pos) (pins : List (Addr × Obj)) (s : Shared) (σ : St) (H : Hp) (Q : List V → Hp → Prop), Inv X pins σ H s → t σ H Q → wpAny (model X.prog X.w) X.A (spliced (backTo pos (starEach es X.env))) (AP X pins σ Q) X.xe s
def PS (X : Cx) (st : Stmt) (t : TS) : Prop :=
  ∀ (pins : List (Addr × Obj)) (s : Shared) (σ : St) (H : Hp) (D : Ends), Inv X pins σ H s → t D σ H → wpAny (model X.prog X.w) X.A (exec st X.env) (SP X pins D) X.xe s
def PSs (X : Cx) (st : List Stmt) (t : TS) : Prop :=
  ∀ (pins : List (Addr × Obj)) (s : Shared) (σ : St) (H : Hp) (D : Ends), Inv X pins σ H s → t D σ H → wpAny (model X.prog X.w) X.A (execs st X.env) (SP X pins D) X.xe s
/-- weaken the end -/
theorem thn {α : Type} {t : Sem α} {Q Q' : α → Shared → Prop} {M : Model} {A : Around} {E : Value → Shared → Prop} {s : Shared} (h : wpAny M A t Q E s) (hQ : ∀ a s, Q a s → Q' a s) : wpAny M A t Q' E s := wpAny_mono h hQ fun _ _ x => x
end L2

namespace L2
open PySem PySem.Spec PyProof.Rows
section
variable {X : Cx}

/-! ### names and constants -/
def tVar (i : Nat) : TE := fun σ H Q => ∃ v, σ[i]? = some (some v) ∧ Q v H
def tC (v : V) : TE := fun _ H Q => Q v H
theorem pe_var {i : Nat} {x : Str} {pos : Pos} (hN : X.N[i]? = some x) (hv : Vis X.env.scope x) (hd : (x == ("__debug__" : Str)) = false := by decide) (hcd : (x == ("__classdict__" : Str)) = false := by decide) : PE X (.Name x pos) (tVar i) := by
  intro pins s σ H Q I h
  obtain ⟨v, e, h⟩ := h
  obtain ⟨m, hn, hl⟩ := I.loc
  obtain ⟨u, r, l⟩ := hl i x v hN e hv
  have fin : EP X pins σ Q u s := ⟨v, H, I, r, h⟩
  rcases l with ⟨hk, hm⟩ | ⟨hk, c, hc, hcell⟩
  · exact wpAny_Name (wpAny_loadName_local I.ok.kind hk hn hm fin) hd
  · rcases hk with hk | hk
    · exact wpAny_Name (wpAny_loadName_cell I.ok.kind hk hc hcell fin) hd
    · exact wpAny_Name (wpAny_loadName_free I.ok.kind hk hc hcell fin hcd) hd
theorem pe_int {i j pos} : PE X (.Constant (.int i) j pos) (tC (.int i)) := fun _ _ _ H _ I h => wpAny_Constant_int ⟨.int i, H, I.tok _, ⟨_, rfl⟩, h⟩
theorem pe_bl {b j pos} : PE X (.Constant (.bool b) j pos) (tC (.bl b)) := fun _ _ _ H _ I h => Constant_bool ⟨.bl b, H, I, rfl, h⟩
theorem pe_non {j pos} : PE X (.Constant .none j pos) (tC .non) := fun _ _ _ H _ I h => Constant_none ⟨.non, H, I, rfl, h⟩
theorem pe_str {x j pos} : PE X (.Constant (.str x) j pos) (tC (.str x)) := fun _ _ _ H _ I h => Calls.Constant_str ⟨.str x, H, I.tok _, ⟨_, rfl⟩, h⟩

/-- a global name of the def -/
def Gl (X : Cx) (x : Str) : Prop := X.env.kindOf x = some .globalImplicit
theorem ld_glob {E : Value → Shared → Prop} {pins : List (Addr × Obj)} {s : Shared} {σ : St} {H : Hp} {x : Str} {u : Value} {pos : Pos} {Q : Value → Shared → Prop} (I : Inv X pins σ H s) (hg : Gl X x) (hm : X.mg x = some u) (h : Q u s)
    (hd : (x == ("__debug__" : Str)) = false := by decide) : wpAny (model X.prog X.w) X.A (eval (.Name x pos) X.env) Q E s :=
  Calls.Name_function_global I.ok.kind hg (Calls.loadGlobal_global (by rw [I.ok.glob]; exact I.mod.glob.keeps I.bk) hm h) hd
theorem ld_blt {E : Value → Shared → Prop} {pins : List (Addr × Obj)} {s : Shared} {σ : St} {H : Hp} {x : Str} {u : Value} {pos : Pos} {Q : Value → Shared → Prop} (I : Inv X pins σ H s) (hg : Gl X x) (hm : X.mg x = none) (hv : bootBuiltins x = some u) (h : Q u s)
    (hn : x ≠ "__name__" := by decide) (hd : (x == ("__debug__" : Str)) = false := by decide) : wpAny (model X.prog X.w) X.A (eval (.Name x pos) X.env) Q E s := by
  obtain ⟨mb, h1, h2⟩ := I.mod.blt
  exact Calls.Name_function_global I.ok.kind hg (Calls.loadGlobal_builtin (by rw [I.ok.glob]; exact I.mod.glob.keeps I.bk) hm (by rw [I.ok.blt]; exact h1.keeps I.bk) ((h2 x hn).trans hv) h) hd
/-- a module's constant, a class, a function, as a value -/
theorem pe_glob {x : Str} {v : V} {u : Value} {pos : Pos} (hg : Gl X x) (hm : X.mg x = some u) (r : RelV v u) (hd : (x == ("__debug__" : Str)) = false := by decide) : PE X (.Name x pos) (tC v) :=
  fun _ _ _ H _ I h => ld_glob I hg hm ⟨v, H, I, r, h⟩ hd
theorem pe_bltn {x : Str} {v : V} {u : Value} {pos : Pos} (hg : Gl X x) (hm : X.mg x = none) (hv : bootBuiltins x = some u) (r : RelV v u) (hn : x ≠ "__name__" := by decide) (hd : (x == ("__debug__" : Str)) = false := by decide) : PE X (.Name x pos) (tC v) :=
  fun _ _ _ H _ I h => ld_blt I hg hm hv ⟨v, H, I, r, h⟩ hn hd

/-! ### arithmetic -/
variable {a b : Expr} {ta tb : TE} {pos : Pos}
/-! ### comparisons -/
/-- a comparison as a value, as a test -/
def tB (t : TE) : TT := fun σ H Q => t σ H fun x H1 => ∃ c, x = .bl c ∧ Q c H1
/-- an expression whose value is a bool, as a test -/
theorem pt_val {e : Expr} {t : TE} (h : PE X e t) (he : ∀ whole, isTrue e X.env whole = (do let v ← whole; standAt e.pos; holding [v] (truthy v)) := by intro _; rfl) : PT X e (tB t) := by
  intro pins s σ H Q I hw
  refine isTrue_plain (thn (h pins s σ H _ I hw) fun v s1 ⟨x, H1, I1, r1, q1⟩ => ?_) (he _)
  obtain ⟨d, rfl, q⟩ := q1
  cases r1
  exact wpAny_truthy_bool ⟨H1, I1, q⟩

/-! ### and, or, not -/
variable {tA tB' : TT} {rest : List Expr}
def tAnd (t u : TT) : TT := fun σ H Q => t σ H fun c H1 => if c = true then u σ H1 Q else Q false H1
def tOr (t u : TT) : TT := fun σ H Q => t σ H fun c H1 => if c = true then Q true H1 else u σ H1 Q
def tNot (t : TT) : TT := fun σ H Q => t σ H fun c H1 => Q (!c) H1
theorem pw_and1 (ha : PT X a tA) : PW X (.BoolOp .And [a] pos) tA := by
  intro wh pins s σ H Q I h
  refine isTrue_and (thn (ha pins s σ H Q I h) fun c s1 e => ?_)
  cases c with
  | true => exact isTrue_and_nil e
  | false => exact e
theorem pw_or1 (ha : PT X a tA) : PW X (.BoolOp .Or [a] pos) tA := by
  intro wh pins s σ H Q I h
  refine isTrue_or (thn (ha pins s σ H Q I h) fun c s1 e => ?_)
  cases c with
  | false => exact isTrue_or_nil e
  | true => exact e
theorem pw_and (ha : PT X a tA) (hb : PW X (.BoolOp .And (b :: rest) pos) tB') : PW X (.BoolOp .And (a :: b :: rest) pos) (tAnd tA tB') := by
  intro wh pins s σ H Q I h
  refine isTrue_and (thn (ha pins s σ H _ I h) fun c s1 ⟨H1, I1, q1⟩ => ?_)
  cases c with
  | true => exact hb wh pins s1 σ H1 Q I1 q1
  | false => exact ⟨H1, I1, q1⟩
theorem pw_or (ha : PT X a tA) (hb : PW X (.BoolOp .Or (b :: rest) pos) tB') : PW X (.BoolOp .Or (a :: b :: rest) pos) (tOr tA tB') := by
  intro wh pins s σ H Q I h
  refine isTrue_or (thn (ha pins s σ H _ I h) fun c s1 ⟨H1, I1, q1⟩ => ?_)
  cases c with
  | true => exact ⟨H1, I1, q1⟩
  | false => exact hb wh pins s1 σ H1 Q I1 q1
theorem pt_not (ha : PT X a tA) : PT X (.UnaryOp .Not a pos) (tNot tA) := by
  intro pins s σ H Q I h
  exact isTrue_not (ha pins s σ H (fun c H1 => Q (!c) H1) I h)
/-- .. as values (bools) -/
def tAndV (ta tb : TE) : TE := fun σ H Q => ta σ H fun x H1 => ∃ c, x = .bl c ∧ if c = true then tb σ H1 Q else Q (.bl false) H1
def tNotV (ta : TE) : TE := fun σ H Q => ta σ H fun x H1 => ∃ c, x = .bl c ∧ Q (.bl (!c)) H1
theorem pe_one {op} {t : TE} (h : PE X a t) : PE X (.BoolOp op [a] pos) t := fun pins s σ H Q I hw => BoolOp_one (h pins s σ H Q I hw)
theorem pe_and (ha : PE X a ta) (hb : PE X (.BoolOp .And (b :: rest) pos) tb) : PE X (.BoolOp .And (a :: b :: rest) pos) (tAndV ta tb) := by
  intro pins s σ H Q I h
  refine BoolOp_and (thn (ha pins s σ H _ I h) fun v s1 ⟨x, H1, I1, r1, q1⟩ => ?_)
  obtain ⟨c, rfl, q1⟩ := q1
  cases r1
  refine wpAny_truthy_bool ?_
  cases c with
  | true => exact hb pins s1 σ H1 Q I1 q1
  | false => exact ⟨.bl false, H1, I1, rfl, q1⟩
theorem pe_not (ha : PE X a ta) : PE X (.UnaryOp .Not a pos) (tNotV ta) := by
  intro pins s σ H Q I h
  refine UnaryOp_ (thn (ha pins s σ H _ I h) fun v s1 ⟨x, H1, I1, r1, q1⟩ => ?_)
  obtain ⟨c, rfl, q1⟩ := q1
  cases r1
  exact not_of (wpAny_truthy_bool ⟨.bl (!c), H1, I1, rfl, q1⟩)
end
end L2

namespace L2
open PySem PySem.Spec PyProof.Rows

/-! ### a list, a tuple that is read: tracked, frozen, or an object of the module -/
def SqL (K : PySem.W.Frag) (H : Hp) (a : Addr) (xs : List V) : Prop :=
  Rd H a (.lst xs) ∨
    ∃ (o : Obj) (its : Array Value) (n : Nat), K.lookup a = some o ∧ o.cls = .type "list" ∧ o.dict = none ∧ o.data = .seq its n ∧ its.size ≤ sizeLine ∧ Vals xs its.toList
def SqT (K : PySem.W.Frag) (H : Hp) (a : Addr) (xs : List V) : Prop :=
  Rd H a (.tup xs) ∨
    ∃ (o : Obj) (its : Array Value) (n : Nat), K.lookup a = some o ∧ o.cls = .type "tuple" ∧ o.data = .seq its n ∧ its.size ≤ sizeLine ∧ Vals xs its.toList
def absV : Value → Option V
  | .none => some .non
  | .bool b => some (.bl b)
  | .int i _ => some (.int i)
  | .str x _ => some (.str x)
  | .bytes b _ => some (.byt b)
  | .float b _ => some (.flt b)
  | .ref a => some (.ref a)
  | .type n => some (.ty n)
  | _ => none
theorem RelV.abs {x : V} {u : Value} (r : RelV x u) : absV u = some x := by
  cases x with
  | non => cases r; rfl
  | bl _ => cases r; rfl
  | int _ => obtain ⟨t, rfl⟩ := r; rfl
  | str _ => obtain ⟨t, rfl⟩ := r; rfl
  | byt _ => obtain ⟨t, rfl⟩ := r; rfl
  | flt _ => obtain ⟨t, rfl⟩ := r; rfl
  | ref _ => cases r; rfl
  | ty _ => cases r; rfl
theorem RelV.inj {x y : V} {u : Value} (r : RelV x u) (q : RelV y u) : x = y := Option.some.inj (r.abs.symm.trans q.abs)
theorem Vals.inj : ∀ {xs ys : List V} {us : List Value}, Vals xs us → Vals ys us → xs = ys
  | _, _, _, .nil, .nil => rfl
  | _, _, _, .cons r t, .cons r' t' => by rw [r.inj r', Vals.inj t t']
section
variable {X : Cx} {pins : List (Addr × Obj)} {σ : St} {H : Hp} {s : Shared} {a : Addr} {xs ys : List V}
theorem SqL.of {K : PySem.W.Frag} (h : H a = some (.lst xs)) : SqL K H a xs := .inl (.inl h)
theorem Inv.list (I : Inv X pins σ H s) (h : SqL X.K H a xs) : ∃ its : List Value, Vals xs its ∧ PlainL s.heap a its.toArray ∧ xs.length ≤ sizeLine := by
  rcases h with h | ⟨o, its, n, hk, hc, hd, hs, hz, r⟩
  · obtain ⟨z, its, n, r, e⟩ := h.ok I.hok
    exact ⟨its, r, ⟨_, n, e, rfl, rfl, rfl⟩, z⟩
  · refine ⟨its.toList, r, ⟨o, n, I.kIn a o hk, hc, hd, by simpa using hs⟩, ?_⟩
    have e := r.length
    simp only [Array.length_toList] at e
    omega
theorem Inv.tuple (I : Inv X pins σ H s) (h : SqT X.K H a xs) : ∃ its : List Value, Vals xs its ∧ IsTup s.heap a its.toArray ∧ xs.length ≤ sizeLine := by
  rcases h with h | ⟨o, its, n, hk, hc, hs, hz, r⟩
  · obtain ⟨z, its, r, p⟩ := h.ok I.hok
    exact ⟨its, r, p, z⟩
  · refine ⟨its.toList, r, ⟨o, I.kIn a o hk, hc, n, by simpa using hs⟩, ?_⟩
    have e := r.length
    simp only [Array.length_toList] at e
    omega
theorem Inv.list_inj (I : Inv X pins σ H s) (h : SqL X.K H a xs) (h' : SqL X.K H a ys) : xs = ys := by
  obtain ⟨its, r, ⟨o, n, e, _, _, d⟩, _⟩ := I.list h
  obtain ⟨its', r', ⟨o', n', e', _, _, d'⟩, _⟩ := I.list h'
  rw [e] at e'; cases e'
  rw [d] at d'
  injection d' with d1 _
  have : its = its' := by simpa using congrArg Array.toList d1
  subst this
  exact r.inj r'
theorem Inv.tuple_inj (I : Inv X pins σ H s) (h : SqT X.K H a xs) (h' : SqT X.K H a ys) : xs = ys := by
  obtain ⟨its, r, ⟨o, e, _, n, d⟩, _⟩ := I.tuple h
  obtain ⟨its', r', ⟨o', e', _, n', d'⟩, _⟩ := I.tuple h'
  rw [e] at e'; cases e'
  rw [d] at d'
  injection d' with d1 _
  have : its = its' := by simpa using congrArg Array.toList d1
  subst this
  exact r.inj r'
end

/-! ### another wish about exceptions -/
abbrev Cx.wish (X : Cx) (E : Value → Shared → Prop) : Cx := { X with xe := E }
/-- no exception leaves -/
abbrev Cx.nox (X : Cx) : Cx := X.wish fun _ _ => False
theorem Cx.Ok.wish {X : Cx} (ok : X.Ok) (E : Value → Shared → Prop) : (X.wish E).Ok :=
  ⟨ok.mod, ok.kind, ok.glob, ok.blt, ok.above, ok.inj, ok.has, ok.cab, ok.hd, ok.frames, ok.stk, ok.exf, ok.bs, ok.bsz, ok.noex, ok.exfs, ok.funs, ok.frf⟩
theorem Cx.Ok.unwish {X : Cx} {E : Value → Shared → Prop} (ok : (X.wish E).Ok) : X.Ok :=
  ⟨ok.mod, ok.kind, ok.glob, ok.blt, ok.above, ok.inj, ok.has, ok.cab, ok.hd, ok.frames, ok.stk, ok.exf, ok.bs, ok.bsz, ok.noex, ok.exfs, ok.funs, ok.frf⟩
section
variable {X : Cx} {pins : List (Addr × Obj)} {σ : St} {H : Hp} {s : Shared} {E : Value → Shared → Prop}
theorem Inv.wish (I : Inv X pins σ H s) (E : Value → Shared → Prop) : Inv (X.wish E) pins σ H s := ⟨I.ok.wish E, I.os, I.bare, I.base, I.loc, I.cell, I.free, I.freeC, I.pin, I.hok, I.len⟩
theorem Inv.unwish (I : Inv (X.wish E) pins σ H s) : Inv X pins σ H s := ⟨I.ok.unwish, I.os, I.bare, I.base, I.loc, I.cell, I.free, I.freeC, I.pin, I.hok, I.len⟩
theorem SP.unwish {D : Ends} {f : Flow} {s' : Shared} (h : SP (X.wish E) pins D f s') : SP X pins D f s' := by
  cases f with
  | next => obtain ⟨σ', H', I, q⟩ := h; exact ⟨σ', H', I.unwish, q⟩
  | brk => obtain ⟨σ', H', I, q⟩ := h; exact ⟨σ', H', I.unwish, q⟩
  | cont => obtain ⟨σ', H', I, q⟩ := h; exact ⟨σ', H', I.unwish, q⟩
  | ret u => obtain ⟨v, σ', H', I, r, q⟩ := h; exact ⟨v, σ', H', I.unwish, r, q⟩
theorem PSs.nox {st : List Stmt} {t : TS} (h : PSs X.nox st t) : PSs X st t := fun pins s σ H D I hw =>
  wpAny_mono (h pins s σ H D (I.wish _) hw) (fun _ _ q => q.unwish) fun _ _ z => False.elim z
end

/-! ### blocks and small statements -/
section
variable {X : Cx} {st : Stmt} {rest : List Stmt} {t u : TS} {e : Expr} {te : TE} {pos : Pos}
def tNext : TS := fun D σ H => D.nx σ H
def tSeq (t u : TS) : TS := fun D σ H => t { D with nx := u D } σ H
theorem pss_nil : PSs X [] tNext := fun _ _ σ H _ I h => wpAny_execs_nil ⟨σ, H, I, h⟩
theorem pss_cons (h1 : PS X st t) (h2 : PSs X rest u) : PSs X (st :: rest) (tSeq t u) := by
  intro pins s σ H D I h
  refine wpAny_execs_cons (thn (h1 pins s σ H { D with nx := u D } I h) fun f s1 q => ?_)
  cases f with
  | next =>
    obtain ⟨σ', H', I', q⟩ := q
    exact h2 pins s1 σ' H' D I' q
  | ret v => exact q
  | brk => exact q
  | cont => exact q
theorem pss_one (h1 : PS X st t) : PSs X [st] t := by
  intro pins s σ H D I h
  refine wpAny_execs_cons (thn (h1 pins s σ H D I h) fun f s1 q => ?_)
  cases f with
  | next => exact wpAny_execs_nil q
  | ret v => exact q
  | brk => exact q
  | cont => exact q
/-- in a def's body nothing is shown -/
theorem Inv.quiet {pins : List (Addr × Obj)} {σ : St} {H : Hp} {s : Shared} (I : Inv X pins σ H s) : interactive X.env = false := by simp [interactive, I.ok.kind]
/-- an expression whose value is dropped -/
def tDrop (te : TE) : TS := fun D σ H => te σ H fun _ H1 => D.nx σ H1
theorem ps_expr (he : PE X e te) (hs : swapsWith e none pos.line X.env = pure false := by rfl) : PS X (.Expr e pos) (tDrop te) := by
  intro pins s σ H D I h
  exact wpAny_Expr_any (thn (he pins s σ H _ I h) fun v s1 ⟨x, H1, I1, r1, q1⟩ => ⟨σ, H1, I1, q1⟩) I.quiet hs
def tRet (te : TE) : TS := fun D σ H => te σ H D.rt
theorem ps_ret (he : PE X e te) : PS X (.Return (some e) pos) (tRet te) := by
  intro pins s σ H D I h
  exact wpAny_Return_some (thn (he pins s σ H _ I h) fun v s1 ⟨x, H1, I1, r1, q1⟩ => ⟨x, σ, H1, I1, r1, q1⟩)
def tIfS (c : TT) (t u : TS) : TS := fun D σ H => c σ H fun b H1 => if b = true then t D σ H1 else u D σ H1
theorem ps_if {c : Expr} {a b : List Stmt} {tc : TT} (hc : PT X c tc) (ha : PSs X a t) (hb : PSs X b u) : PS X (.If c a b pos) (tIfS tc t u) := by
  intro pins s σ H D I h
  refine wpAny_If (thn (hc pins s σ H _ I h) fun d s1 ⟨H1, I1, q1⟩ => ?_)
  cases d with
  | true => exact ha pins s1 σ H1 D I1 q1
  | false => exact hb pins s1 σ H1 D I1 q1
/-- code that the proof never comes to -/
def tNever : TS := fun _ _ _ => False
theorem ps_never : PS X st tNever := fun _ _ _ _ _ _ h => h.elim
end

/-! ### targets -/
abbrev TG := V → St → Hp → (St → Hp → Prop) → Prop
abbrev TGs := List V → St → Hp → (St → Hp → Prop) → Prop
def PG (X : Cx) (target : Expr) (t : TG) : Prop :=
  ∀ (pins : List (Addr × Obj)) (s : Shared) (σ : St) (H : Hp) (v : V) (u : Value) (Q : St → Hp → Prop), Inv X pins σ H s → RelV v u → t v σ H Q →
    wpAny (model X.prog X.w) X.A (assign target X.env u) (fun _ s' => ∃ σ' H', Inv X pins σ' H' s' ∧ Q σ' H') X.xe s
/-- several targets, one after another -/
def PGs (X : Cx) (ts : List Expr) (t : TGs) : Prop :=
  ∀ (pins : List (Addr × Obj)) (s : Shared) (σ : St) (H : Hp) (vs : List V) (us : List Value) (Q : St → Hp → Prop), Inv X pins σ H s → Vals vs us → t vs σ H Q →
    wpAny (model X.prog X.w) X.A (assignInOrder ((assignEach ts X.env).map (·.2)) us) (fun _ s' => ∃ σ' H', Inv X pins σ' H' s' ∧ Q σ' H') X.xe s
section
variable {X : Cx} {pos : Pos}
def gName (i : Nat) : TG := fun v σ H Q => Q (σ.set i (some v)) H
theorem pg_name {i : Nat} {x : Str} (hN : X.N.Nodup) (hi : X.N[i]? = some x) (hx : Loc X.env.scope x) (hf : X.fn x = true ∨ X.env.scope.names.lookup x = some .local := by first | exact .inl rfl | exact .inr rfl | assumption) : PG X (.Name x pos) (gName i) := by
  intro pins s σ H v u Q I r h
  exact wpAny_assign_Name (store_ok I hN hi hx r (fun s' I' => ⟨_, H, I', h⟩) hf)
def gNil : TGs := fun vs σ H Q => vs = [] ∧ Q σ H
def gCons (t : TG) (u : TGs) : TGs := fun vs σ H Q => ∃ v r, vs = v :: r ∧ t v σ H fun σ' H' => u r σ' H' Q
theorem pgs_nil : PGs X [] gNil := by
  intro pins s σ H vs us Q I r h
  obtain ⟨e, h⟩ := h
  subst e
  cases r
  exact assignInOrder_nil ⟨σ, H, I, h⟩
theorem pgs_cons {e : Expr} {es : List Expr} {t : TG} {u : TGs} (h1 : PG X e t) (h2 : PGs X es u)
    (hs : (assignEach (e :: es) X.env).map (·.2) = assign e X.env :: (assignEach es X.env).map (·.2) := by rfl) : PGs X (e :: es) (gCons t u) := by
  intro pins s σ H vs us Q I r h
  obtain ⟨v, vr, e1, h⟩ := h
  subst e1
  cases r with
  | cons r rr =>
    rw [hs]
    refine assignInOrder_cons (thn (h1 pins s σ H _ _ _ I r h) fun _ s1 ⟨σ1, H1, I1, q1⟩ => ?_)
    exact h2 pins s1 σ1 H1 _ _ Q I1 rr q1
/-- (a, b, ..) = a tuple of that length -/
def gTup (K : PySem.W.Frag) (n : Nat) (t : TGs) : TG := fun v σ H Q => ∃ a xs, v = .ref a ∧ SqT K H a xs ∧ xs.length = n ∧ t xs σ H Q
theorem pg_tup {es : List Expr} {k : Nat} {t : TGs} {n : Nat} (hc : X.calm = true) (h : PGs X es t)
    (hn : (assignEach es X.env).length = n := by rfl) (hst : (assignEach es X.env).findIdx? (·.1) = none := by rfl) : PG X (.Tuple es k pos) (gTup X.K n t) := by
  intro pins s σ H v u Q I r hw
  obtain ⟨a, xs, e1, hq, hl, hw⟩ := hw
  subst e1
  cases r
  obtain ⟨its, rv, ht, hz⟩ := I.tuple hq
  refine assign_Tuple_tuple (I.ok.hd hc) ht (by simp [hn, ← hl, rv.length]) hst fun h' hx => ?_
  have I1 : Inv X pins σ H { s with heap := h' } := I.kept (t' := s.toks) fun b o e => hx b o (Nat.ne_of_lt (Heap.lt_size e)) e
  exact h pins _ σ H xs _ Q I1 (by simpa using rv) hw
/-- target = value -/
def tAsg (te : TE) (g : TG) : TS := fun D σ H => te σ H fun x H1 => g x σ H1 D.nx
theorem ps_asg {tg e : Expr} {te : TE} {g : TG} (he : PE X e te) (hg : PG X tg g) (hs : swapsWithSole [tg] e pos.line X.env = pure false := by rfl) (hw : swappedStores [tg] e X.env = pure none := by rfl)
    (h1 : (assignEach [tg] X.env).map (·.2) = [assign tg X.env] := by rfl) : PS X (.Assign [tg] e pos) (tAsg te g) := by
  intro pins s σ H D I h
  refine wpAny_Assign_stores (thn (he pins s σ H _ I h) fun v s1 ⟨x, H1, I1, r1, q1⟩ => ?_) hs hw
  rw [h1]
  exact thn (hg pins s1 σ H1 x v _ I1 r1 q1) fun _ s2 q => q
/-- name = value -/
theorem ps_set {i : Nat} {x : Str} {e : Expr} {te : TE} {pos' : Pos} (hN : X.N.Nodup) (hi : X.N[i]? = some x) (hx : Loc X.env.scope x) (he : PE X e te) (hs : swapsWith e (some (.Name x pos')) pos.line X.env = pure false := by rfl) (hf : X.fn x = true ∨ X.env.scope.names.lookup x = some .local := by first | exact .inl rfl | exact .inr rfl | assumption) :
    PS X (.Assign [.Name x pos'] e pos) (tAsg te (gName i)) := by
  intro pins s σ H D I h
  refine wpAny_Assign_Name (thn (he pins s σ H _ I h) fun v s1 ⟨y, H1, I1, r1, q1⟩ => ?_) hs
  exact store_ok I1 hN hi hx r1 (fun s2 I2 => ⟨_, H1, I2, q1⟩) hf
end

/-! ### while -/
section
variable {X : Cx} {pos : Pos}
end

/-! ### what a loop or a comprehension walks -/
/-- at turn i: it yields x (the heap may grow), or it stops -/
structure It where
  go : Nat → Hp → Prop
  yld : Nat → Hp → V → Hp → Prop
  stop : Nat → Hp → Prop
/-- the iterator's own objects may turn: they are not the frame's, not pinned, younger than the entry (or a comprehension's own) -/
def FpOk (X : Cx) (pins : List (Addr × Obj)) (H : Hp) (b : Addr) : Prop :=
  H b = none ∧ b ≠ X.env.locals ∧ b ∉ X.fs ∧ (b ∈ X.ex ∨ X.s₀.heap.objs.size ≤ b) ∧ (∀ x c, X.env.cells.lookup x = some c → c ≠ b) ∧ ∀ p ∈ X.pn ++ pins, p.1 ≠ b
theorem Inv.fpOk {X : Cx} {pins : List (Addr × Obj)} {σ : St} {H H' : Hp} {s : Shared} {b : Addr} (I : Inv X pins σ H s) (hb : s.heap.objs.size ≤ b) (hn : H' b = none) : FpOk X pins H' b := by
  refine ⟨hn, Nat.ne_of_gt (Nat.lt_of_lt_of_le I.lt hb), I.nofs hb, .inr (Nat.le_trans I.sz hb), fun x c e z => ?_, fun p hp z => ?_⟩
  · obtain ⟨v, q⟩ := I.cell x c e
    exact absurd (Nat.lt_of_lt_of_le q.lt (by rw [z]; exact hb)) (Nat.lt_irrefl _)
  · exact absurd (Nat.lt_of_lt_of_le (Heap.lt_size (I.pin p hp).1) (by rw [z]; exact hb)) (Nat.lt_irrefl _)
structure Turn (P : Program) (w : World) (K : PySem.W.Frag) (tg : Expr) (J : It) (fp : List Addr) (it : Addr) (tn : Nat → Heap → Prop) : Prop where
  mem : it ∈ fp
  obj : ∀ i h, tn i h → ∀ b ∈ fp, ∃ o, h.get? b = some o ∧ ∀ v, o.data ≠ .cell v
  keep : ∀ i h h', tn i h → (∀ b ∈ fp, ∀ o, h.get? b = some o → h'.get? b = some o) → tn i h'
  item : ∀ (X : Cx), X.prog = P → X.w = w → X.K = K → X.calm = true → ∀ (i : Nat) (pins : List (Addr × Obj)) (s : Shared) (σ : St) (H : Hp) (E : Value → Shared → Prop), Inv X pins σ H s → (∀ b ∈ fp, FpOk X pins H b) → tn i s.heap → J.go i H →
    wpAny (model P w) X.A (pyNext (.ref it)) (fun r s1 => ∃ u, r = some u ∧
      wpAny (model P w) X.A (letOwnedTupleGo tg (.ref it) u) (fun _ s2 => ∃ x H', Inv X pins σ H' s2 ∧ RelV x u ∧ J.yld i H x H' ∧ tn (i + 1) s2.heap ∧ ∀ b ∈ fp, H' b = none) E s1) E s
  done : ∀ (X : Cx), X.prog = P → X.w = w → X.K = K → X.calm = true → ∀ (i : Nat) (pins : List (Addr × Obj)) (s : Shared) (σ : St) (H : Hp) (E : Value → Shared → Prop), Inv X pins σ H s → (∀ b ∈ fp, FpOk X pins H b) → tn i s.heap → J.stop i H →
    wpAny (model P w) X.A (pyNext (.ref it)) (fun r s1 => r = none ∧ Inv X pins σ H s1) E s
  self : ∀ (A : Around) (i : Nat) (s : Shared) (Q : Value → Shared → Prop) (E : Value → Shared → Prop), tn i s.heap → Q (.ref it) s → wpAny (model P w) A (pyIter (.ref it)) Q E s
abbrev TI := St → Hp → (It → Hp → Prop) → Prop
/-- an iterator has come -/
def PIE (X : Cx) (pins : List (Addr × Obj)) (σ : St) (tg : Expr) (R : It → Hp → Prop) (itv : Value) (s2 : Shared) : Prop :=
  ∃ (it : Addr) (fp : List Addr) (tn : Nat → Heap → Prop) (J : It) (H' : Hp), itv = .ref it ∧ Inv X pins σ H' s2 ∧ Turn X.prog X.w X.K tg J fp it tn ∧ tn 0 s2.heap ∧ (∀ b ∈ fp, FpOk X pins H' b) ∧ R J H'
def PI (X : Cx) (tg iter : Expr) (wi : TI) : Prop :=
  ∀ (pins : List (Addr × Obj)) (s : Shared) (σ : St) (H : Hp) (R : It → Hp → Prop), Inv X pins σ H s → wi σ H R →
    wpAny (model X.prog X.w) X.A (eval iter X.env) (fun v s1 => wpAny (model X.prog X.w) X.A (pyIter v) (PIE X pins σ tg R) X.xe s1) X.xe s

/-- the step ahead of the store is nothing for an iterator that keeps no tuple -/
theorem go_of {M : Model} {A : Around} {E : Value → Shared → Prop} {s : Shared} {tg : Expr} {it : Addr} {u : Value} {o : Obj} {n : String} {vs : Array Value} {Q : Unit → Shared → Prop} (ho : s.heap.get? it = some o) (hc : o.cls = .type n) (hd : o.data = .fields vs)
    (hn : ["enumerate", "zip", "dict_itemiterator", "dict_reverseitemiterator", "odict_iterator", "itertools.zip_longest", "itertools.pairwise"].contains n = false) (hQ : Q () s) : wpAny M A (letOwnedTupleGo tg (.ref it) u) Q E s := by
  unfold letOwnedTupleGo
  cases tg <;> first
    | exact wpAny_pure hQ
    | (cases u <;> first
        | exact wpAny_pure hQ
        | (refine wpAny_bind (wpAny_load ho ?_)
           rw [hc, hd]
           show wpAny M A (if (["enumerate", "zip", "dict_itemiterator", "dict_reverseitemiterator", "odict_iterator", "itertools.zip_longest", "itertools.pairwise"].contains n && vs[0]? == some (rawInt _)) = true then _ else _) Q E s
           rw [if_neg (by intro h; rw [hn, Bool.false_and] at h; cases h)]
           exact wpAny_pure hQ))

/-- the list at a, as it stands at each turn (a loop may append to it) -/
def Itl (K : PySem.W.Frag) (a : Addr) : It :=
  ⟨fun i H => ∃ xs x, SqL K H a xs ∧ xs[i]? = some x, fun i H x H' => H' = H ∧ ∀ xs, SqL K H a xs → xs[i]? = some x, fun i H => ∃ xs, SqL K H a xs ∧ xs.length ≤ i⟩
def Itt (K : PySem.W.Frag) (a : Addr) : It :=
  ⟨fun i H => ∃ xs x, SqT K H a xs ∧ xs[i]? = some x, fun i H x H' => H' = H ∧ ∀ xs, SqT K H a xs → xs[i]? = some x, fun i H => ∃ xs, SqT K H a xs ∧ xs.length ≤ i⟩
/-- lo, lo + 1, .. (n of them) -/
def Itr (lo : Int) (n : Nat) : It := ⟨fun i _ => i < n, fun i H x H' => H' = H ∧ x = .int (lo + i), fun i _ => n ≤ i⟩
theorem turn_list {P : Program} {w : World} {K : PySem.W.Frag} {tg : Expr} (a it : Addr) : Turn P w K tg (Itl K a) [it] it (fun i h => h.IsListIter it a i) where
  mem := by simp
  obj := fun i h st b hb => by
    have e : b = it := by simpa using hb
    subst e
    obtain ⟨o, e, c, d⟩ := st
    exact ⟨o, e, fun v z => by rw [d] at z; cases z⟩
  keep := fun i h h' st k => st.at fun o e => k it (by simp) o e
  item := by
    intro X hP hw hK hc i pins s σ H E I hf st hg
    subst hP hw hK
    obtain ⟨xs, x, hq, hx⟩ := hg
    obtain ⟨its, rv, p, hz⟩ := I.list hq
    obtain ⟨u, hu, ru⟩ := rv.get hx
    obtain ⟨f0, f1, f2, f3, f4, f5⟩ := hf it (by simp)
    refine wpAny_pyNext_list_item st p.isList (x := u) (by simpa using hu) fun h' st' sb => ?_
    have I1 : Inv X pins σ H { s with heap := h' } := I.turned (t' := s.toks) (fun b o hb e => (sb.2 b hb).trans e) f0 f1 f3 f4 f5
    obtain ⟨o, e, c, d⟩ := id st'
    exact ⟨u, rfl, go_of (s := { s with heap := h' }) e c d (by decide) ⟨x, H, I1, ru, ⟨rfl, fun ys hy => by rw [I.list_inj hy hq]; exact hx⟩, st', fun b hb => (hf b hb).1⟩⟩
  done := by
    intro X hP hw hK hc i pins s σ H E I hf st hg
    subst hP hw hK
    obtain ⟨xs, hq, hx⟩ := hg
    obtain ⟨its, rv, p, hz⟩ := I.list hq
    obtain ⟨f0, f1, f2, f3, f4, f5⟩ := hf it (by simp)
    have hl := rv.length
    exact wpAny_pyNext_list_end (I.ok.hd hc) st p.isList (by simp; omega) fun h' eb => ⟨rfl, I.turned (t' := s.toks) (fun b o hb e => eb b o hb e) f0 f1 f3 f4 f5⟩
  self := fun _ _ _ _ _ st h => wpAny_pyIter_listiter st h
theorem turn_tuple {P : Program} {w : World} {K : PySem.W.Frag} {tg : Expr} (a it : Addr) : Turn P w K tg (Itt K a) [it] it (fun i h => h.IsTupleIter it a i) where
  mem := by simp
  obj := fun i h st b hb => by
    have e : b = it := by simpa using hb
    subst e
    obtain ⟨o, e, c, d⟩ := st
    exact ⟨o, e, fun v z => by rw [d] at z; cases z⟩
  keep := fun i h h' st k => st.at fun o e => k it (by simp) o e
  item := by
    intro X hP hw hK hc i pins s σ H E I hf st hg
    subst hP hw hK
    obtain ⟨xs, x, hq, hx⟩ := hg
    obtain ⟨its, rv, p, hz⟩ := I.tuple hq
    obtain ⟨u, hu, ru⟩ := rv.get hx
    obtain ⟨f0, f1, f2, f3, f4, f5⟩ := hf it (by simp)
    refine wpAny_pyNext_tuple_item st (show s.heap.IsTuple a its.toArray from p) (x := u) (by simpa using hu) fun h' st' sb => ?_
    have I1 : Inv X pins σ H { s with heap := h' } := I.turned (t' := s.toks) (fun b o hb e => (sb.2 b hb).trans e) f0 f1 f3 f4 f5
    obtain ⟨o, e, c, d⟩ := id st'
    exact ⟨u, rfl, go_of (s := { s with heap := h' }) e c d (by decide) ⟨x, H, I1, ru, ⟨rfl, fun ys hy => by rw [I.tuple_inj hy hq]; exact hx⟩, st', fun b hb => (hf b hb).1⟩⟩
  done := by
    intro X hP hw hK hc i pins s σ H E I hf st hg
    subst hP hw hK
    obtain ⟨xs, hq, hx⟩ := hg
    obtain ⟨its, rv, p, hz⟩ := I.tuple hq
    obtain ⟨f0, f1, f2, f3, f4, f5⟩ := hf it (by simp)
    have hl := rv.length
    exact wpAny_pyNext_tuple_end (I.ok.hd hc) st (show s.heap.IsTuple a its.toArray from p) (by simp; omega) fun h' eb => ⟨rfl, I.turned (t' := s.toks) (fun b o hb e => eb b o hb e) f0 f1 f3 f4 f5⟩
  self := fun _ _ _ _ _ st h => wpAny_pyIter_tupleiter st h
theorem turn_range {P : Program} {w : World} {K : PySem.W.Frag} {tg : Expr} (it : Addr) (lo : Int) (n : Nat) : Turn P w K tg (Itr lo n) [it] it (fun i h => IsRangeIter h it (lo + (i : Nat) * 1) ((n : Int) - (i : Nat)) 1) where
  mem := by simp
  obj := fun i h st b hb => by
    have e : b = it := by simpa using hb
    subst e
    exact ⟨_, st, fun v z => by
      have z' : Data.fields _ = Data.cell v := z
      cases z'⟩
  keep := fun i h h' st k => k it (by simp) _ st
  item := by
    intro X hP hw hK hc i pins s σ H E I hf st hg
    subst hP hw hK
    obtain ⟨f0, f1, f2, f3, f4, f5⟩ := hf it (by simp)
    have W := Walks.range (prog := X.prog) (w := X.w) (I.ok.hd hc) it lo 1 n
    refine W.item i s _ _ hg st fun v h' tk hv st' kk => ?_
    obtain ⟨t, rfl⟩ := hv
    have I1 : Inv X pins σ H { s with heap := h', toks := tk } := I.turned (fun b o hb e => kk b o (by simpa using hb) e) f0 f1 f3 f4 f5
    refine ⟨_, rfl, go_of (s := { s with heap := h', toks := tk }) (n := "range_iterator") st' rfl rfl (by decide) ⟨.int (lo + i), H, I1, ⟨t, ?_⟩, ⟨rfl, rfl⟩, st', fun b hb => (hf b hb).1⟩⟩
    rw [Int.mul_one]
  done := by
    intro X hP hw hK hc i pins s σ H E I hf st hg
    subst hP hw hK
    obtain ⟨f0, f1, f2, f3, f4, f5⟩ := hf it (by simp)
    exact wpAny_pyNext_range_end (I.ok.hd hc) st (by have : n ≤ i := hg; omega) fun h' eb => ⟨rfl, I.turned (t' := s.toks) (fun b o hb e => eb b o hb e) f0 f1 f3 f4 f5⟩
  self := fun _ _ _ _ _ st h => wpAny_pyIter_rangeiter st h
end L2

namespace L2
open PySem PySem.Spec PyProof.Rows
section
variable {X : Cx} {tg : Expr}
def iList (K : PySem.W.Frag) (tl : TE) : TI := fun σ H R => tl σ H fun x H1 => ∃ a, x = .ref a ∧ (∃ xs, SqL K H1 a xs) ∧ R (Itl K a) H1
def iTup (K : PySem.W.Frag) (tl : TE) : TI := fun σ H R => tl σ H fun x H1 => ∃ a, x = .ref a ∧ (∃ xs, SqT K H1 a xs) ∧ R (Itt K a) H1
theorem pi_list {l : Expr} {tl : TE} (hl : PE X l tl) : PI X tg l (iList X.K tl) := by
  intro pins s σ H R I h
  refine thn (hl pins s σ H _ I h) fun v s1 ⟨x, H1, I1, r1, q1⟩ => ?_
  obtain ⟨a, e, ⟨xs, hq⟩, q⟩ := q1
  subst e
  cases r1
  obtain ⟨its, rv, p, hz⟩ := I1.list hq
  refine wpAny_pyIter_list p.isList ?_
  refine ⟨s1.heap.objs.size, [s1.heap.objs.size], _, _, H1, rfl, I1.kept (t' := s1.toks) fun b o e => Heap.get?_push_of_some _ e, turn_list a _, ⟨_, Heap.get?_push_size _ rfl, rfl, rfl⟩, fun b hb => ?_, q⟩
  have e : b = s1.heap.objs.size := by simpa using hb
  subst e
  exact I1.fpOk (Nat.le_refl _) (I1.hok.fresh (Nat.le_refl _))
theorem pi_tup {l : Expr} {tl : TE} (hl : PE X l tl) : PI X tg l (iTup X.K tl) := by
  intro pins s σ H R I h
  refine thn (hl pins s σ H _ I h) fun v s1 ⟨x, H1, I1, r1, q1⟩ => ?_
  obtain ⟨a, e, ⟨xs, hq⟩, q⟩ := q1
  subst e
  cases r1
  obtain ⟨its, rv, p, hz⟩ := I1.tuple hq
  refine wpAny_pyIter_tuple (show s1.heap.IsTuple a its.toArray from p) ?_
  refine ⟨s1.heap.objs.size, [s1.heap.objs.size], _, _, H1, rfl, I1.kept (t' := s1.toks) fun b o e => Heap.get?_push_of_some _ e, turn_tuple a _, ⟨_, Heap.get?_push_size _ rfl, rfl, rfl⟩, fun b hb => ?_, q⟩
  have e : b = s1.heap.objs.size := by simpa using hb
  subst e
  exact I1.fpOk (Nat.le_refl _) (I1.hok.fresh (Nat.le_refl _))
/-- a range object just made, walked -/
theorem range_it {pins : List (Addr × Obj)} {σ : St} {H : Hp} {s : Shared} {R : It → Hp → Prop} {E : Value → Shared → Prop} {lo hi : Int} {t u v : Tok} {tk : Nat} (I : Inv X pins σ H s) (h1 : -(2 ^ 62) ≤ lo) (h2 : lo < 2 ^ 62) (h3 : -(2 ^ 62) ≤ hi) (h4 : hi < 2 ^ 62)
    (q : R (Itr lo (hi - lo).toNat) H) : wpAny (model X.prog X.w) X.A (pyIter (.ref s.heap.objs.size)) (PIE X pins σ tg R) E { s with heap := s.heap.push { cls := .type "range", data := .fields #[.int lo t, .int hi u, .int 1 v] }, toks := tk } := by
  refine wpAny_pyIter_range (IsRange.new ..) (small_one h1 h2 h3 h4) ?_
  have I1 : Inv X pins σ H { s with heap := s.heap.push { cls := .type "range", data := .fields #[.int lo t, .int hi u, .int 1 v] }, toks := tk } := I.kept fun b o e => Heap.get?_push_of_some _ e
  refine ⟨(s.heap.push { cls := .type "range", data := .fields #[.int lo t, .int hi u, .int 1 v] }).objs.size, [(s.heap.push { cls := .type "range", data := .fields #[.int lo t, .int hi u, .int 1 v] }).objs.size], _, _, H, rfl,
    I1.kept (t' := tk) fun b o e => Heap.get?_push_of_some _ e, turn_range _ lo (hi - lo).toNat, ?_, fun b hb => ?_, q⟩
  · have e1 : lo + ((0 : Nat) : Int) * 1 = lo := by simp
    have e2 : (((hi - lo).toNat : Nat) : Int) - ((0 : Nat) : Int) = Builtin.Range.rangeSize lo hi 1 := by rw [rangeSize_one]; split <;> omega
    show IsRangeIter _ _ (lo + ((0 : Nat) : Int) * 1) ((((hi - lo).toNat : Nat) : Int) - ((0 : Nat) : Int)) 1
    rw [e1, e2]
    exact Heap.get?_push_size _ rfl
  · have e : b = (s.heap.push { cls := .type "range", data := .fields #[.int lo t, .int hi u, .int 1 v] }).objs.size := by simpa using hb
    subst e
    exact I1.fpOk (Nat.le_refl _) (I1.hok.fresh (Nat.le_refl _))
def iRng1 (ta : TA) : TI := fun σ H R => ta σ H fun vs H1 => ∃ j : Int, vs = [.int j] ∧ -(2 ^ 62) ≤ j ∧ j < 2 ^ 62 ∧ R (Itr 0 j.toNat) H1
def iRng2 (ta : TA) : TI := fun σ H R => ta σ H fun vs H1 => ∃ i j : Int, vs = [.int i, .int j] ∧ (-(2 ^ 62) ≤ i ∧ i < 2 ^ 62 ∧ -(2 ^ 62) ≤ j ∧ j < 2 ^ 62) ∧ R (Itr i (j - i).toNat) H1
theorem pi_range1 {a : Expr} {ta : TA} {p pos : Pos} (hg : Gl X "range") (hm : X.mg "range" = none) (ha : PA X [a] ta) (hs : starEach [a] X.env = [(false, eval a X.env)] := by rfl) : PI X tg (.Call (.Name "range" p) [a] [] pos) (iRng1 ta) := by
  intro pins s σ H R I h
  refine Call_ (ld_blt I hg hm boot_range (PyProof.Rows.callWith_type1 (thn (ha pos pins s σ H _ I h) fun us s1 ⟨vs, H1, I1, r1, q1⟩ => ?_) hs rfl))
  obtain ⟨j, e, q1, q2, q⟩ := q1
  subst e
  cases r1 with
  | cons r rr =>
    cases rr
    obtain ⟨t, rfl⟩ := r
    exact call_range_1 (range_it I1 (by omega) (by omega) q1 q2 (by simpa using q))
theorem pi_range2 {a b : Expr} {ta : TA} {p pos : Pos} (hg : Gl X "range") (hm : X.mg "range" = none) (ha : PA X [a, b] ta) (hs : starEach [a, b] X.env = [(false, eval a X.env), (false, eval b X.env)] := by rfl) (hs2 : starEach [b] X.env = [(false, eval b X.env)] := by rfl) :
    PI X tg (.Call (.Name "range" p) [a, b] [] pos) (iRng2 ta) := by
  intro pins s σ H R I h
  refine Call_ (ld_blt I hg hm boot_range (PyProof.Rows.callWith_type1 (thn (ha pos pins s σ H _ I h) fun us s1 ⟨vs, H1, I1, r1, q1⟩ => ?_) (by rw [hs, hs2]) (by rw [hs2]; rfl)))
  obtain ⟨i, j, e, ⟨q1, q2, q3, q4⟩, q⟩ := q1
  subst e
  cases r1 with
  | cons r rr =>
    cases rr with
    | cons r' rr =>
      cases rr
      obtain ⟨t, rfl⟩ := r
      obtain ⟨t', rfl⟩ := r'
      exact call_range_2 (range_it I1 q1 q2 q3 q4 q)

/-! ### for -/
/-- W: the invariant by the turn and a measure; N: what the body is to reach -/
def tFor (wi : TI) (g : TG) (tb : TS) : TS := fun D σ H => wi σ H fun J H1 => ∃ W : Nat → Nat → St → Hp → Prop, (∃ m, W 0 m σ H1) ∧ ∀ i m σ H, W i m σ H →
  (J.stop i H ∧ D.nx σ H) ∨ (J.go i H ∧ ∃ N : St → Hp → Prop, (∀ σ' H', N σ' H' → ∃ m', m' < m ∧ W (i + 1) m' σ' H') ∧ ∀ x H', J.yld i H x H' → g x σ H' fun σ2 H2 => tb { D with nx := N, ct := N, bk := D.nx } σ2 H2)
/-- the records at fp as they stand -/
def pinsAt (fp : List Addr) (h : Heap) : List (Addr × Obj) := fp.filterMap fun b => (h.get? b).map fun o => (b, o)
theorem mem_pinsAt {fp : List Addr} {h : Heap} {b : Addr} {o : Obj} (hb : b ∈ fp) (e : h.get? b = some o) : (b, o) ∈ pinsAt fp h := List.mem_filterMap.mpr ⟨b, hb, by rw [e]; rfl⟩
theorem of_pinsAt {fp : List Addr} {h : Heap} {p : Addr × Obj} (hp : p ∈ pinsAt fp h) : p.1 ∈ fp ∧ h.get? p.1 = some p.2 := by
  obtain ⟨b, hb, e⟩ := List.mem_filterMap.mp hp
  cases q : h.get? b with
  | none => rw [q] at e; cases e
  | some o =>
    rw [q] at e
    have e' : (b, o) = p := Option.some.inj e
    subst e'
    exact ⟨hb, q⟩
theorem Inv.pinned {pins : List (Addr × Obj)} {σ : St} {H : Hp} {s : Shared} {fp : List Addr} (I : Inv X pins σ H s) (hf : ∀ b ∈ fp, FpOk X pins H b) (ho : ∀ b ∈ fp, ∃ o, s.heap.get? b = some o ∧ ∀ v, o.data ≠ .cell v) : Inv X (pins ++ pinsAt fp s.heap) σ H s :=
  I.pins_of fun p hp => (List.mem_append.mp hp).elim (fun z => I.pin p (List.mem_append_right _ z)) fun z => by
    obtain ⟨hb, e⟩ := of_pinsAt z
    obtain ⟨f0, f1, f2, _⟩ := hf p.1 hb
    obtain ⟨o, e', d⟩ := ho p.1 hb
    rw [e] at e'; cases e'
    exact ⟨e, f0, f1, f2, d⟩
theorem Inv.unpinned {pins pl : List (Addr × Obj)} {σ : St} {H : Hp} {s : Shared} (I : Inv X (pins ++ pl) σ H s) : Inv X pins σ H s := I.pins_of fun p hp => I.pin p (List.mem_append_right _ (List.mem_append_left _ hp))
theorem ps_for {iter : Expr} {body : List Stmt} {wi : TI} {g : TG} {tb : TS} {pos : Pos} (hp : PassesOwn (model X.prog X.w) X.A X.env X.xe) (hc : X.calm = true) (hi : PI X tg iter wi) (hg : PG X tg g) (hb : PSs X body tb)
    (hs : ∀ x, foldedSetIterable iter X.env x = pure x := by intro _; rfl) : PS X (.For tg iter body [] pos) (tFor wi g tb) := by
  intro pins s σ H D I h
  refine wpAny_For (thn (hi pins s σ H _ I h) fun v s1 h1 => thn h1 fun itv s2 h2 => ?_) hs
  obtain ⟨it, fp, tn, J, H2, e, I2, T, st2, f2, W, ⟨m0, w0⟩, turn⟩ := h2
  subst e
  -- what stays true of the iterator's objects through the loop
  have stat : ∀ {H' : Hp}, (∀ b ∈ fp, H' b = none) → ∀ b ∈ fp, FpOk X pins H' b := fun hn b hb => ⟨hn b hb, (f2 b hb).2⟩
  refine codeAny_forLoop_any (fun n s' => ∃ i σ' H', Inv X pins σ' H' s' ∧ tn i s'.heap ∧ (∀ b ∈ fp, H' b = none) ∧ W i n σ' H') ?_ m0 ⟨0, σ, H2, I2, st2, fun b hb => (f2 b hb).1, w0⟩
  rintro n s3 ⟨i, σ3, H3, I3, st3, fr3, w3⟩
  rcases turn i n σ3 H3 w3 with ⟨stop, qn⟩ | ⟨go, N, hN, step⟩
  · refine wpAny_passesOwn hp (thn (T.done X rfl rfl rfl hc i pins s3 σ3 H3 X.xe I3 (stat fr3) st3 stop) fun r s4 ⟨hr, I4⟩ => ?_)
    subst hr
    exact wpAny_execs_nil ⟨σ3, H3, I4, qn⟩
  · refine wpAny_passesOwn hp (thn (T.item X rfl rfl rfl hc i pins s3 σ3 H3 X.xe I3 (stat fr3) st3 go) fun r s4 ⟨u, hr, h4⟩ => ?_)
    subst hr
    refine wpAny_passesOwn hp (thn h4 fun _ s5 ⟨x, H5, I5, r5, y5, st5, fr5⟩ => ?_)
    have I5' := I5.pinned (stat fr5) (T.obj _ _ st5)
    refine wpAny_passesOwn hp (thn (hg _ s5 σ3 H5 x u _ I5' r5 (step x H5 y5)) fun _ s6 ⟨σ6, H6, I6, q6⟩ => ?_)
    refine wpAny_passesOwn hp (thn (hb _ s6 σ6 H6 _ I6 q6) fun f s7 q7 => ?_)
    have again : ∀ {σ7 : St} {H7 : Hp}, Inv X (pins ++ pinsAt fp s5.heap) σ7 H7 s7 → N σ7 H7 → ∃ m, m < n ∧ ∃ i σ' H', Inv X pins σ' H' s7 ∧ tn i s7.heap ∧ (∀ b ∈ fp, H' b = none) ∧ W i m σ' H' := fun {σ7 H7} I7 n7 => by
      obtain ⟨m', hm, w7⟩ := hN σ7 H7 n7
      refine ⟨m', hm, i + 1, σ7, H7, I7.unpinned, T.keep _ _ _ st5 fun b hb o e => (I7.pin (b, o) (List.mem_append_right _ (List.mem_append_right _ (mem_pinsAt hb e)))).1, fun b hb => ?_, w7⟩
      obtain ⟨o, e, d⟩ := T.obj _ _ st5 b hb
      exact (I7.pin (b, o) (List.mem_append_right _ (List.mem_append_right _ (mem_pinsAt hb e)))).2.1
    cases f with
    | next => obtain ⟨σ7, H7, I7, n7⟩ := q7; exact again I7 n7
    | cont => obtain ⟨σ7, H7, I7, n7⟩ := q7; exact again I7 n7
    | brk => obtain ⟨σ7, H7, I7, q7⟩ := q7; exact ⟨σ7, H7, I7.unpinned, q7⟩
    | ret v => obtain ⟨x7, σ7, H7, I7, r7, q7⟩ := q7; exact ⟨x7, σ7, H7, I7.unpinned, r7, q7⟩
end

/-! ### the forms one uses -/
/-- over a list that the body leaves as it is -/
theorem for_list {K : PySem.W.Frag} {a : Addr} {xs : List V} {g : TG} {tb : TS} {D : Ends} {σ : St} {H : Hp} (Pv : Nat → St → Hp → Prop) (h0 : Pv 0 σ H) (hl : ∀ i σ H, i ≤ xs.length → Pv i σ H → SqL K H a xs)
    (hs : ∀ i x σ H, xs[i]? = some x → Pv i σ H → g x σ H fun σ2 H2 => tb { D with nx := Pv (i + 1), ct := Pv (i + 1), bk := D.nx } σ2 H2) (hd : ∀ σ H, Pv xs.length σ H → D.nx σ H) :
    ∃ W : Nat → Nat → St → Hp → Prop, (∃ m, W 0 m σ H) ∧ ∀ i m σ H, W i m σ H →
      ((Itl K a).stop i H ∧ D.nx σ H) ∨ ((Itl K a).go i H ∧ ∃ N : St → Hp → Prop, (∀ σ' H', N σ' H' → ∃ m', m' < m ∧ W (i + 1) m' σ' H') ∧ ∀ x H', (Itl K a).yld i H x H' → g x σ H' fun σ2 H2 => tb { D with nx := N, ct := N, bk := D.nx } σ2 H2) := by
  refine ⟨fun i m σ H => m = xs.length - i ∧ i ≤ xs.length ∧ Pv i σ H, ⟨xs.length, by simp, Nat.zero_le _, h0⟩, ?_⟩
  rintro i m σ H ⟨rfl, hi, p⟩
  have q := hl i σ H hi p
  by_cases hlt : i < xs.length
  · refine .inr ⟨⟨xs, xs[i], q, by simp [hlt]⟩, Pv (i + 1), fun σ' H' p' => ⟨xs.length - (i + 1), by omega, rfl, hlt, p'⟩, fun x H' y => ?_⟩
    obtain ⟨e, y⟩ := y
    subst e
    exact hs i x σ _ (y xs q) p
  · have e : i = xs.length := by omega
    subst e
    exact .inl ⟨⟨xs, q, Nat.le_refl _⟩, hd σ H p⟩
theorem for_tup {K : PySem.W.Frag} {a : Addr} {xs : List V} {g : TG} {tb : TS} {D : Ends} {σ : St} {H : Hp} (Pv : Nat → St → Hp → Prop) (h0 : Pv 0 σ H) (hl : ∀ i σ H, i ≤ xs.length → Pv i σ H → SqT K H a xs)
    (hs : ∀ i x σ H, xs[i]? = some x → Pv i σ H → g x σ H fun σ2 H2 => tb { D with nx := Pv (i + 1), ct := Pv (i + 1), bk := D.nx } σ2 H2) (hd : ∀ σ H, Pv xs.length σ H → D.nx σ H) :
    ∃ W : Nat → Nat → St → Hp → Prop, (∃ m, W 0 m σ H) ∧ ∀ i m σ H, W i m σ H →
      ((Itt K a).stop i H ∧ D.nx σ H) ∨ ((Itt K a).go i H ∧ ∃ N : St → Hp → Prop, (∀ σ' H', N σ' H' → ∃ m', m' < m ∧ W (i + 1) m' σ' H') ∧ ∀ x H', (Itt K a).yld i H x H' → g x σ H' fun σ2 H2 => tb { D with nx := N, ct := N, bk := D.nx } σ2 H2) := by
  refine ⟨fun i m σ H => m = xs.length - i ∧ i ≤ xs.length ∧ Pv i σ H, ⟨xs.length, by simp, Nat.zero_le _, h0⟩, ?_⟩
  rintro i m σ H ⟨rfl, hi, p⟩
  have q := hl i σ H hi p
  by_cases hlt : i < xs.length
  · refine .inr ⟨⟨xs, xs[i], q, by simp [hlt]⟩, Pv (i + 1), fun σ' H' p' => ⟨xs.length - (i + 1), by omega, rfl, hlt, p'⟩, fun x H' y => ?_⟩
    obtain ⟨e, y⟩ := y
    subst e
    exact hs i x σ _ (y xs q) p
  · have e : i = xs.length := by omega
    subst e
    exact .inl ⟨⟨xs, q, Nat.le_refl _⟩, hd σ H p⟩
theorem for_range {lo : Int} {n : Nat} {g : TG} {tb : TS} {D : Ends} {σ : St} {H : Hp} (Pv : Nat → St → Hp → Prop) (h0 : Pv 0 σ H)
    (hs : ∀ i σ H, i < n → Pv i σ H → g (.int (lo + i)) σ H fun σ2 H2 => tb { D with nx := Pv (i + 1), ct := Pv (i + 1), bk := D.nx } σ2 H2) (hd : ∀ σ H, Pv n σ H → D.nx σ H) :
    ∃ W : Nat → Nat → St → Hp → Prop, (∃ m, W 0 m σ H) ∧ ∀ i m σ H, W i m σ H →
      ((Itr lo n).stop i H ∧ D.nx σ H) ∨ ((Itr lo n).go i H ∧ ∃ N : St → Hp → Prop, (∀ σ' H', N σ' H' → ∃ m', m' < m ∧ W (i + 1) m' σ' H') ∧ ∀ x H', (Itr lo n).yld i H x H' → g x σ H' fun σ2 H2 => tb { D with nx := N, ct := N, bk := D.nx } σ2 H2) := by
  refine ⟨fun i m σ H => m = n - i ∧ i ≤ n ∧ Pv i σ H, ⟨n, by simp, Nat.zero_le _, h0⟩, ?_⟩
  rintro i m σ H ⟨rfl, hi, p⟩
  by_cases hlt : i < n
  · refine .inr ⟨hlt, Pv (i + 1), fun σ' H' p' => ⟨n - (i + 1), by omega, rfl, hlt, p'⟩, fun x H' y => ?_⟩
    obtain ⟨e, y⟩ := y
    subst e y
    exact hs i σ _ hlt p
  · have e : i = n := by omega
    subst e
    exact .inl ⟨Nat.le_refl _, hd σ H p⟩
end L2

namespace L2
open PySem PySem.Spec PyProof.Rows

abbrev R2 := V → V → Hp → VK → Prop
/-- a two-place operation on values: f is binaryOp op, inplaceOp op or compareOp op -/
def OpR (X : Cx) (f : Value → Value → Sem Value) (r : R2) : Prop :=
  ∀ (pins : List (Addr × Obj)) (s : Shared) (σ : St) (H : Hp) (x y : V) (v u : Value) (Q : VK), Inv X pins σ H s → RelV x v → RelV y u → r x y H Q →
    wpAny (model X.prog X.w) X.A (f v u) (EP X pins σ Q) X.xe s
/-- a one-place operation -/
def UnR (X : Cx) (f : Value → Sem Value) (r : V → Hp → VK → Prop) : Prop :=
  ∀ (pins : List (Addr × Obj)) (s : Shared) (σ : St) (H : Hp) (x : V) (v : Value) (Q : VK), Inv X pins σ H s → RelV x v → r x H Q →
    wpAny (model X.prog X.w) X.A (f v) (EP X pins σ Q) X.xe s
/-- a call of a value that is known (a builtin, a type) with values -/
def CallR (X : Cx) (f : Value) (r : List V → Hp → VK → Prop) : Prop :=
  ∀ (pins : List (Addr × Obj)) (s : Shared) (σ : St) (H : Hp) (xs : List V) (us : List Value) (Q : VK), Inv X pins σ H s → Vals xs us → r xs H Q →
    wpAny (model X.prog X.w) X.A (call f us) (EP X pins σ Q) X.xe s
def tOp (r : R2) (ta tb : TE) : TE := fun σ H Q => ta σ H fun x H1 => tb σ H1 fun y H2 => r x y H2 Q
def tUn (r : V → Hp → VK → Prop) (ta : TE) : TE := fun σ H Q => ta σ H fun x H1 => r x H1 Q
/-- ints in, under C, and a value out -/
def rI (C : Int → Int → Prop) (g : Int → Int → V) : R2 := fun x y H Q => ∃ i j, x = .int i ∧ y = .int j ∧ C i j ∧ Q (g i j) H
def rI0 (g : Int → Int → V) : R2 := fun x y H Q => ∃ i j, x = .int i ∧ y = .int j ∧ Q (g i j) H
def rU (g : Int → V) : V → Hp → VK → Prop := fun x H Q => ∃ i, x = .int i ∧ Q (g i) H

section
variable {X : Cx} {a b c : Expr} {ta tb tc : TE} {pos : Pos}

theorem binT (ha : PE X a ta) (hb : PE X b tb) {pins : List (Addr × Obj)} {s : Shared} {σ : St} {H : Hp} {R : V → V → Hp → Prop} (I : Inv X pins σ H s)
    (h : ta σ H fun x H1 => tb σ H1 fun y H2 => R x y H2) {Q : Value → Shared → Prop} {f : Value → Value → Sem Value}
    (hf : ∀ v u s2 x y H2, Inv X pins σ H2 s2 → RelV x v → RelV y u → R x y H2 → wpAny (model X.prog X.w) X.A (f v u) Q X.xe s2) :
    wpAny (model X.prog X.w) X.A (eval a X.env) (fun v s₁ => wpAny (model X.prog X.w) X.A (eval b X.env) (fun u s₂ => wpAny (model X.prog X.w) X.A (f v u) Q X.xe s₂) X.xe s₁) X.xe s := by
  refine thn (ha pins s σ H _ I h) fun v s1 ⟨x, H1, I1, r1, q1⟩ => ?_
  refine thn (hb pins s1 σ H1 _ I1 q1) fun u s2 ⟨y, H2, I2, r2, q2⟩ => ?_
  exact hf v u s2 x y H2 I2 r1 r2 q2

theorem pe_op {op : Operator} {r : R2} (ho : OpR X (binaryOp op) r) (ha : PE X a ta) (hb : PE X b tb) : PE X (.BinOp a op b pos) (tOp r ta tb) := by
  intro pins s σ H Q I h
  exact wpAny_BinOp (binT ha hb I h fun v u s2 x y H2 I2 rx ry q => ho pins s2 σ H2 x y v u Q I2 rx ry q)
theorem pe_un {op : UnaryOp} {r : V → Hp → VK → Prop} (ho : UnR X (unaryOp op) r) (ha : PE X a ta) : PE X (.UnaryOp op a pos) (tUn r ta) := by
  intro pins s σ H Q I h
  exact UnaryOp_ (thn (ha pins s σ H _ I h) fun v s1 ⟨x, H1, I1, r1, q1⟩ => ho pins s1 σ H1 x v Q I1 r1 q1)
/-! ### ints -/
theorem opI {f : Value → Value → Sem Value} {C : Int → Int → Prop} {g : Int → Int → Int}
    (rule : ∀ (i j : Int) (t u : Tok) (s : Shared) (Q : Value → Shared → Prop) (E : Value → Shared → Prop), C i j → Q (.int (g i j) s.toks) { s with toks := s.toks + 1 } → wpAny (model X.prog X.w) X.A (f (.int i t) (.int j u)) Q E s) :
    OpR X f (rI C fun i j => .int (g i j)) := by
  intro pins s σ H x y v u Q I rx ry h
  obtain ⟨i, j, rfl, rfl, hc, q⟩ := h
  obtain ⟨t, rfl⟩ := rx
  obtain ⟨t', rfl⟩ := ry
  exact rule i j t t' s _ _ hc ⟨.int (g i j), H, I.tok _, ⟨_, rfl⟩, q⟩
theorem opI0 {f : Value → Value → Sem Value} {g : Int → Int → Int}
    (rule : ∀ (i j : Int) (t u : Tok) (s : Shared) (Q : Value → Shared → Prop) (E : Value → Shared → Prop), Q (.int (g i j) s.toks) { s with toks := s.toks + 1 } → wpAny (model X.prog X.w) X.A (f (.int i t) (.int j u)) Q E s) :
    OpR X f (rI0 fun i j => .int (g i j)) := by
  intro pins s σ H x y v u Q I rx ry h
  obtain ⟨i, j, rfl, rfl, q⟩ := h
  obtain ⟨t, rfl⟩ := rx
  obtain ⟨t', rfl⟩ := ry
  exact rule i j t t' s _ _ ⟨.int (g i j), H, I.tok _, ⟨_, rfl⟩, q⟩
theorem opB0 {f : Value → Value → Sem Value} {g : Int → Int → Bool}
    (rule : ∀ (i j : Int) (t u : Tok) (s : Shared) (Q : Value → Shared → Prop) (E : Value → Shared → Prop), Q (.bool (g i j)) s → wpAny (model X.prog X.w) X.A (f (.int i t) (.int j u)) Q E s) :
    OpR X f (rI0 fun i j => .bl (g i j)) := by
  intro pins s σ H x y v u Q I rx ry h
  obtain ⟨i, j, rfl, rfl, q⟩ := h
  obtain ⟨t, rfl⟩ := rx
  obtain ⟨t', rfl⟩ := ry
  exact rule i j t t' s _ _ ⟨.bl (g i j), H, I, rfl, q⟩

def CDiv (i j : Int) : Prop := 0 < j ∧ j < 1073741824
def CPow (i j : Int) : Prop := 0 ≤ j ∧ j ≤ 1000000 ∧ i.natAbs < 2 ^ 64
def CMul (i j : Int) : Prop := (-(2 ^ 64) < i ∧ i < 2 ^ 64) ∨ (-(2 ^ 64) < j ∧ j < 2 ^ 64)
theorem CMul.ok {i j : Int} (h : CMul i j) : IntMulOk i j := by
  rcases h with ⟨h1, h2⟩ | ⟨h1, h2⟩
  · exact .of_left (intBits_le_64 h1 h2)
  · exact .of_right (intBits_le_64 h1 h2)
theorem two_pow_nn (k : Nat) : (0 : Int) ≤ 2 ^ k := by
  rw [two_pow_cast]
  exact Int.natCast_nonneg _

theorem op_add : OpR X (binaryOp .Add) (rI0 fun i j => .int (i + j)) := opI0 fun _ _ _ _ _ _ _ q => add_int q
theorem op_sub : OpR X (binaryOp .Sub) (rI0 fun i j => .int (i - j)) := opI0 fun _ _ _ _ _ _ _ q => sub_int q
theorem op_mul : OpR X (binaryOp .Mult) (rI CMul fun i j => .int (i * j)) := opI fun _ _ _ _ _ _ _ hc q => mul_int q hc.ok
/-- // by a positive divisor -/
theorem op_fdiv : OpR X (binaryOp .FloorDiv) (rI CDiv fun i j => .int (i / j)) := opI fun i j _ _ _ _ _ hc q => by
  have h1 : (0 : Int) < j := hc.1
  have h2 : j < 1073741824 := hc.2
  exact floordiv_int (by omega) (by rw [Int.fdiv_eq_ediv_of_nonneg i (by omega)]; exact q) (.inl (PyProof.noPylong_small (by omega)))
/-- % by a positive divisor of any size -/
theorem op_mod : OpR X (binaryOp .Mod) (rI (fun _ j => 0 < j) fun i j => .int (i % j)) := opI fun i j _ _ _ _ _ hc q => by
  have h1 : (0 : Int) < j := hc
  exact mod_int' (by omega) (by rw [Int.fmod_eq_emod_of_nonneg i (by omega)]; exact q)
theorem op_pow : OpR X (binaryOp .Pow) (rI CPow fun i j => .int (i ^ j.toNat)) := opI fun _ _ _ _ _ _ _ hc q => pow_int_small hc.1 hc.2.1 hc.2.2 q
theorem op_shl : OpR X (binaryOp .LShift) (rI CPow fun i j => .int (i * 2 ^ j.toNat)) := opI fun _ _ _ _ _ _ _ hc q => lshift_int_small hc.1 hc.2.1 hc.2.2 q
theorem op_shr : OpR X (binaryOp .RShift) (rI (fun _ j => 0 ≤ j) fun i j => .int (i / 2 ^ j.toNat)) := opI fun i j _ _ _ _ _ hc q =>
  rshift_int hc (by rw [Int.fdiv_eq_ediv_of_nonneg i (two_pow_nn _)]; exact q)
theorem op_and : OpR X (binaryOp .BitAnd) (rI0 fun i j => .int (Builtin.bitAnd i j)) := opI0 fun _ _ _ _ _ _ _ q => and_int q
theorem unI {f : Value → Sem Value} {g : Int → Int}
    (rule : ∀ (i : Int) (t : Tok) (s : Shared) (Q : Value → Shared → Prop) (E : Value → Shared → Prop), Q (.int (g i) s.toks) { s with toks := s.toks + 1 } → wpAny (model X.prog X.w) X.A (f (.int i t)) Q E s) :
    UnR X f (rU fun i => .int (g i)) := by
  intro pins s σ H x v Q I rx h
  obtain ⟨i, rfl, q⟩ := h
  obtain ⟨t, rfl⟩ := rx
  exact rule i t s _ _ ⟨.int (g i), H, I.tok _, ⟨_, rfl⟩, q⟩
theorem un_neg : UnR X (unaryOp .USub) (rU fun i => .int (-i)) := unI fun _ _ _ _ _ q => neg_int q
/-! ### bools among ints: n += (a < b) -/
end

/-! ### comparisons -/
/-- the scalars that == tells apart as data does -/
def scal : V → V → Bool
  | .non, .non => true | .non, .int _ => true | .int _, .non => true | .non, .bl _ => true | .bl _, .non => true | .non, .str _ => true | .str _, .non => true
  | .int _, .int _ => true | .bl _, .bl _ => true | .str _, .str _ => true | .byt _, .byt _ => true
  | .int _, .str _ => true | .str _, .int _ => true | .bl _, .str _ => true | .str _, .bl _ => true
  | _, _ => false
def rEq : R2 := fun x y H Q => scal x y = true ∧ Q (.bl (decide (x = y))) H
def rNe : R2 := fun x y H Q => scal x y = true ∧ Q (.bl (!decide (x = y))) H

theorem dec_int {i j : Int} : decide (V.int i = V.int j) = (i == j) := by
  rw [Bool.eq_iff_iff]
  simp
theorem dec_bl {i j : Bool} : decide (V.bl i = V.bl j) = (i == j) := by
  rw [Bool.eq_iff_iff]
  simp
theorem dec_str {i j : Str} : decide (V.str i = V.str j) = (i == j) := by
  rw [Bool.eq_iff_iff]
  simp
theorem dec_byt {i j : Array UInt8} : decide (V.byt i = V.byt j) = (i.toList == j.toList) := by
  rw [Bool.eq_iff_iff]
  cases i
  cases j
  simp

section
variable {X : Cx} {a b c : Expr} {ta tb tc : TE} {pos : Pos}
theorem fin_bl {pins : List (Addr × Obj)} {σ : St} {H : Hp} {s : Shared} {Q : VK} {k k' : Bool} (I : Inv X pins σ H s) (q : Q (.bl k) H) (e : k = k') : EP X pins σ Q (.bool k') s := by
  subst e
  exact ⟨.bl k, H, I, rfl, q⟩
theorem op_eq : OpR X (compareOp .Eq) rEq := by
  intro pins s σ H x y v u Q I rx ry h
  obtain ⟨hs, q⟩ := h
  cases x with
  | non =>
    cases rx
    cases y with
    | non => cases ry; exact PySem.EqNone.eq_none_none (fin_bl I q (by simp))
    | bl j => cases ry; exact PySem.EqNone.eq_none_bool (fin_bl I q (by simp))
    | int j => obtain ⟨t', rfl⟩ := ry; exact PySem.EqNone.eq_none_int (fin_bl I q (by simp))
    | str j => obtain ⟨t', rfl⟩ := ry; exact PySem.EqNone.eq_none_str (fin_bl I q (by simp))
    | _ => exact absurd (show false = true from hs) Bool.false_ne_true
  | bl i =>
    cases rx
    cases y with
    | non => cases ry; exact PySem.EqNone.eq_bool_none (fin_bl I q (by simp))
    | bl j => cases ry; exact eq_bool (fin_bl I q dec_bl)
    | str j => obtain ⟨t', rfl⟩ := ry; exact PySem.EqMixed.eq_bool_str (fin_bl I q (by simp))
    | _ => exact absurd (show false = true from hs) Bool.false_ne_true
  | int i =>
    obtain ⟨t, rfl⟩ := rx
    cases y with
    | non => cases ry; exact PySem.EqNone.eq_int_none (fin_bl I q (by simp))
    | int j => obtain ⟨t', rfl⟩ := ry; exact eq_int (fin_bl I q dec_int)
    | str j => obtain ⟨t', rfl⟩ := ry; exact PySem.EqMixed.eq_int_str (fin_bl I q (by simp))
    | _ => exact absurd (show false = true from hs) Bool.false_ne_true
  | str i =>
    obtain ⟨t, rfl⟩ := rx
    cases y with
    | non => cases ry; exact PySem.EqNone.eq_str_none (fin_bl I q (by simp))
    | bl j => cases ry; exact PySem.EqMixed.eq_str_bool (fin_bl I q (by simp))
    | int j => obtain ⟨t', rfl⟩ := ry; exact PySem.EqMixed.eq_str_int (fin_bl I q (by simp))
    | str j => obtain ⟨t', rfl⟩ := ry; exact eq_str (fin_bl I q dec_str)
    | _ => exact absurd (show false = true from hs) Bool.false_ne_true
  | byt i =>
    obtain ⟨t, rfl⟩ := rx
    cases y with
    | byt j => obtain ⟨t', rfl⟩ := ry; exact PySem.W.eq_bytes (fin_bl I q dec_byt)
    | _ => exact absurd (show false = true from hs) Bool.false_ne_true
  | _ => cases y <;> exact absurd (show false = true from hs) Bool.false_ne_true
theorem op_ne : OpR X (compareOp .NotEq) rNe := by
  intro pins s σ H x y v u Q I rx ry h
  obtain ⟨hs, q⟩ := h
  cases x with
  | non =>
    cases rx
    cases y with
    | non => cases ry; exact PySem.EqNone.ne_none_none (fin_bl I q (by simp))
    | bl j => cases ry; exact PySem.EqNone.ne_none_bool (fin_bl I q (by simp))
    | int j => obtain ⟨t', rfl⟩ := ry; exact PySem.EqNone.ne_none_int (fin_bl I q (by simp))
    | str j => obtain ⟨t', rfl⟩ := ry; exact PySem.EqNone.ne_none_str (fin_bl I q (by simp))
    | _ => exact absurd (show false = true from hs) Bool.false_ne_true
  | bl i =>
    cases rx
    cases y with
    | non => cases ry; exact PySem.EqNone.ne_bool_none (fin_bl I q (by simp))
    | bl j => cases ry; exact ne_bool (fin_bl I q (congrArg not dec_bl))
    | str j => obtain ⟨t', rfl⟩ := ry; exact PySem.EqMixed.ne_bool_str (fin_bl I q (by simp))
    | _ => exact absurd (show false = true from hs) Bool.false_ne_true
  | int i =>
    obtain ⟨t, rfl⟩ := rx
    cases y with
    | non => cases ry; exact PySem.EqNone.ne_int_none (fin_bl I q (by simp))
    | int j => obtain ⟨t', rfl⟩ := ry; exact ne_int (fin_bl I q (congrArg not dec_int))
    | str j => obtain ⟨t', rfl⟩ := ry; exact PySem.EqMixed.ne_int_str (fin_bl I q (by simp))
    | _ => exact absurd (show false = true from hs) Bool.false_ne_true
  | str i =>
    obtain ⟨t, rfl⟩ := rx
    cases y with
    | non => cases ry; exact PySem.EqNone.ne_str_none (fin_bl I q (by simp))
    | bl j => cases ry; exact PySem.EqMixed.ne_str_bool (fin_bl I q (by simp))
    | int j => obtain ⟨t', rfl⟩ := ry; exact PySem.EqMixed.ne_str_int (fin_bl I q (by simp))
    | str j => obtain ⟨t', rfl⟩ := ry; exact ne_str (fin_bl I q (congrArg not dec_str))
    | _ => exact absurd (show false = true from hs) Bool.false_ne_true
  | byt i =>
    obtain ⟨t, rfl⟩ := rx
    cases y with
    | byt j => obtain ⟨t', rfl⟩ := ry; exact PySem.W.ne_bytes (fin_bl I q (congrArg not dec_byt))
    | _ => exact absurd (show false = true from hs) Bool.false_ne_true
  | _ => cases y <;> exact absurd (show false = true from hs) Bool.false_ne_true

theorem op_lt : OpR X (compareOp .Lt) (rI0 fun i j => .bl (decide (i < j))) := opB0 fun _ _ _ _ _ _ _ q => lt_int q
theorem op_le : OpR X (compareOp .LtE) (rI0 fun i j => .bl (decide (i ≤ j))) := opB0 fun _ _ _ _ _ _ _ q => le_int q
theorem op_gt : OpR X (compareOp .Gt) (rI0 fun i j => .bl (decide (j < i))) := opB0 fun _ _ _ _ _ _ _ q => gt_int q
theorem nomark (b : Expr) {op : CmpOp} (h : op ≠ .In := by decide) (h2 : op ≠ .NotIn := by decide) : behindInMarks op b = false := by
  have e1 : (op == CmpOp.In) = false := by cases op <;> first | rfl | exact absurd rfl h
  have e2 : (op == CmpOp.NotIn) = false := by cases op <;> first | rfl | exact absurd rfl h2
  cases b <;> simp [behindInMarks, e1, e2]
/-- a comparison as a value; hm: nomark b, or (for in, not in) by with_unfolding_all rfl -/
theorem pe_cmpR {op : CmpOp} {r : R2} (ho : OpR X (compareOp op) r) (ha : PE X a ta) (hb : PE X b tb) (hm : behindInMarks op b = false) : PE X (.Compare a [op] [b] pos) (tOp r ta tb) := by
  intro pins s σ H Q I h
  exact wpAny_Compare1 (binT ha hb I h fun v u s2 x y H2 I2 rx ry q => ho pins s2 σ H2 x y v u Q I2 rx ry q) hm
/-- a reading of a value as a test -/
def tTest (t : TE) : TT := fun σ H Q => t σ H fun x H' => ∃ k, x = .bl k ∧ Q k H'
theorem pt_cmpR {op : CmpOp} {r : R2} (ho : OpR X (compareOp op) r) (ha : PE X a ta) (hb : PE X b tb) (hm : behindInMarks op b = false) : PT X (.Compare a [op] [b] pos) (tTest (tOp r ta tb)) := by
  intro pins s σ H Q I h
  refine wpAny_isTrue_Compare1 (thn (ha pins s σ H _ I h) fun v s1 ⟨x, H1, I1, r1, q1⟩ => thn (hb pins s1 σ H1 _ I1 q1) fun u s2 ⟨y, H2, I2, r2, q2⟩ =>
    thn (ho pins s2 σ H2 x y v u _ I2 r1 r2 q2) fun c s3 ⟨z, H3, I3, r3, k, e, q3⟩ => ?_) hm
  subst e
  cases r3
  exact wpAny_truthy_bool ⟨H3, I3, q3⟩
/-- a op1 b op2 c -/
def tChain (r r' : R2) (ta tb tc : TE) : TE := fun σ H Q => ta σ H fun x H1 => tb σ H1 fun y H2 => r x y H2 fun z H3 => ∃ k, z = .bl k ∧
  (if k = true then tc σ H3 fun w' H4 => r' y w' H4 Q else Q (.bl false) H3)
theorem pe_chain {op op' : CmpOp} {r r' : R2} (ho : OpR X (compareOp op) r) (ho' : OpR X (compareOp op') r') (ha : PE X a ta) (hb : PE X b tb) (hc : PE X c tc)
    (hm : lastMarks [op, op'] [b, c] = false := by with_unfolding_all rfl) : PE X (.Compare a [op, op'] [b, c] pos) (tChain r r' ta tb tc) := by
  intro pins s σ H Q I h
  refine Compare_chain (thn (ha pins s σ H _ I h) fun v s1 ⟨x, H1, I1, r1, q1⟩ => chain_link (thn (hb pins s1 σ H1 _ I1 q1) fun u s2 ⟨y, H2, I2, r2, q2⟩ =>
    thn (ho pins s2 σ H2 x y v u _ I2 r1 r2 q2) fun d s3 ⟨z, H3, I3, r3, k, e, q3⟩ => ?_)) hm
  subst e
  cases r3
  refine wpAny_truthy_bool ?_
  cases k with
  | false => exact ite_ff ⟨.bl false, H3, I3, rfl, q3⟩
  | true => exact ite_tt (chain_last (thn (hc pins s3 σ H3 _ I3 q3) fun w' s4 ⟨z', H4, I4, r4, q4⟩ => ho' pins s4 σ H4 y z' u w' Q I4 r2 r4 q4))
/-! ### truth -/
theorem line63 : (sizeLine : Nat) < 2 ^ 63 := by rw [sizeLine_eq]; decide
/-! ### strs and bytes -/
/-! ### scalar builtins, by CallR -/
theorem vals1 {x : V} {us : List Value} (r : Vals [x] us) : ∃ u, us = [u] ∧ RelV x u := by
  cases r with
  | cons r1 r2 => cases r2; exact ⟨_, rfl, r1⟩
theorem vals2 {x y : V} {us : List Value} (r : Vals [x, y] us) : ∃ u w', us = [u, w'] ∧ RelV x u ∧ RelV y w' := by
  cases r with
  | cons r1 r2 =>
    cases r2 with
    | cons r3 r4 => cases r4; exact ⟨_, _, rfl, r1, r3⟩
theorem call_max2 (hc : X.calm = true) : CallR X (.builtin "max") (fun xs H Q => ∃ i j, xs = [.int i, .int j] ∧ Q (.int (if j > i then j else i)) H) := by
  intro pins s σ H xs us Q I r h
  obtain ⟨i, j, rfl, q⟩ := h
  obtain ⟨u, w', rfl, ⟨t, rfl⟩, ⟨t', rfl⟩⟩ := vals2 r
  refine max_two_ints (I.ok.hd hc) fun h' tk k => ⟨_, H, I.kept k, ?_, q⟩
  by_cases hj : j > i
  · rw [if_pos hj, if_pos hj]; exact ⟨_, rfl⟩
  · rw [if_neg hj, if_neg hj]; exact ⟨_, rfl⟩
theorem call_int1 : CallR X (.type "int") (fun xs H Q => (∃ i, xs = [.int i] ∧ Q (.int i) H) ∨ ∃ k, xs = [.bl k] ∧ Q (.int (if k then 1 else 0)) H) := by
  intro pins s σ H xs us Q I r h
  rcases h with ⟨i, rfl, q⟩ | ⟨k, rfl, q⟩
  · obtain ⟨u, rfl, t, rfl⟩ := vals1 r
    exact call_int_int ⟨.int i, H, I, ⟨_, rfl⟩, q⟩
  · obtain ⟨u, rfl, r1⟩ := vals1 r
    cases r1
    exact call_int_bool ⟨.int (if k then 1 else 0), H, I.tok _, ⟨_, rfl⟩, q⟩
end
end L2

namespace L2
open PySem PySem.Spec PyProof.Rows

/-! ### an instance, its attributes a map -/
structure ObjM (h : Heap) (x dx C : Addr) (mA : Str → Option Value) : Prop where
  obj : h.get? x = some (PySem.W.instObj C dx)
  ns : h.Ns1 dx mA
  ne : dx ≠ x

theorem lookIn_ns {h : Heap} {dx : Addr} {mA : Str → Option Value} (n : h.Ns1 dx mA) : ∃ od, h.get? dx = some od ∧ ∀ name, PySem.W.lookIn name od = some (mA name) := by
  obtain ⟨o, es, ep, ho, hd, hk, _, hm⟩ := n
  refine ⟨o, ho, fun name => ?_⟩
  have e := hm name
  unfold nsFind findBy at e
  rw [← Array.find?_toList] at e
  unfold PySem.W.lookIn
  rw [hd]
  dsimp only
  split
  · rename_i y q
    rw [q] at e
    exact congrArg some e
  · rename_i q
    rw [q] at e
    have a : es.toList.any (·.refKey) = false := by
      rw [List.any_eq_false]
      intro y hy
      obtain ⟨z, t, hkey⟩ := hk y (Array.mem_toList_iff.mp hy)
      simp [DictEntry.refKey, hkey]
    have a' : ¬ es.toList.any (·.refKey) = true := by rw [a]; exact Bool.false_ne_true
    rw [if_neg a']
    exact congrArg some e

theorem ObjM.look {h : Heap} {x dx C : Addr} {mA : Str → Option Value} (I : ObjM h x dx C mA) : ∃ od, PySem.W.InstAt h x (PySem.W.instObj C dx) C (some od) ∧ ∀ name, PySem.W.lookIn name od = some (mA name) :=
  let ⟨od, ho, hl⟩ := lookIn_ns I.ns
  ⟨od, ⟨I.obj, rfl, rfl, ho⟩, hl⟩

section
variable {prog : Program} {w : World} {A : Around} {E : Value → Shared → Prop} {s : Shared} {K : PySem.W.Frag} {x dx C f : Addr} {mA : Str → Option Value} {name : Str} {v : Value}

end

/-! ### the attributes as a list of pairs -/
section
variable {P : Program} {w : World} {H H' : Hp} {h h' : Heap} {a C dx : Addr} {fs fs' : List (Str × V)}
theorem ins_get (hok : HOk P w H h) (e : H a = some (.ins C dx fs)) : ∃ mA, ObjM h a dx C mA ∧ (∀ f, RelO (fs.lookup f) (mA f)) ∧ PySem.Within mA (fs.map (·.1)) ∧ fs.length ≤ 1000 ∧ H dx = some (.own a) := by
  obtain ⟨d, z, ne, ob, mA, n, r, q⟩ := (show ObjOk P w H h a (.ins C dx fs) from hok a _ e)
  exact ⟨mA, ⟨ob, n, ne⟩, r, q, z, d⟩
end

/-! ### what of the text a class must have -/
structure Cls (K : PySem.W.Frag) (C : Addr) : Prop where
  pg : PySem.W.plainGet K C Str.empty = true
  hd : PySem.W.hasDictIn K C = true
  po : PySem.W.plainOver K C = true
  sa : PySem.W.findIn K (.ref C) "__setattr__" = some (some (.builtin "object.__setattr__"))
theorem Cls.get {K : PySem.W.Frag} {C : Addr} (c : Cls K C) (f : Str) : PySem.W.plainGet K C f = true := c.pg
section
variable {X : Cx} {pins : List (Addr × Obj)} {σ : St} {H : Hp} {s : Shared} {a C dx : Addr} {fs : List (Str × V)} {f : Str} {v : V} {A : Around} {E : Value → Shared → Prop}

end

/-! ### readings and rules -/
section
variable {X : Cx} {o e value : Expr} {f : Str} {pos pos' tpos : Pos} {ta tv : TE}
end

/-! ### isinstance -/
section
variable {X : Cx} {pins : List (Addr × Obj)} {σ : St} {H : Hp} {s : Shared} {A : Around} {E : Value → Shared → Prop} {Q : Value → Shared → Prop} {c : Value} {b : Bool}
/-- the type of a value, as the fragment's deciders take it; for an instance its class -/
inductive TyOf (K : PySem.W.Frag) (H : Hp) : V → Value → Prop where
  | non : TyOf K H .non (.type "NoneType")
  | bl (x : Bool) : TyOf K H (.bl x) (.type "bool")
  | int (i : Int) : TyOf K H (.int i) (.type "int")
  | str (x : Str) : TyOf K H (.str x) (.type "str")
  | flt (x : UInt64) : TyOf K H (.flt x) (.type "float")
  | lst {a : Addr} {xs : List V} (e : H a = some (.lst xs)) : TyOf K H (.ref a) (.type "list")
  | frz {a : Addr} {o : Obj} {xs : List V} (e : H a = some (.frz o (.lst xs))) : TyOf K H (.ref a) (.type "list")
  | tup {a : Addr} {xs : List V} (e : H a = some (.tup xs)) : TyOf K H (.ref a) (.type "tuple")
  | dK {a : Addr} {kvs : List (Key × V)} (e : H a = some (.dK kvs)) : TyOf K H (.ref a) (.type "dict")
  | dT {a : Addr} {kvs : List (List Key × V)} (e : H a = some (.dT kvs)) : TyOf K H (.ref a) (.type "dict")
  | ins {a C dx : Addr} {fs : List (Str × V)} (e : H a = some (.ins C dx fs)) (cl : Cls K C) (ha : PySem.W.findIn K (.ref C) "__class__" = some (some (.builtin "object.__class__")))
      (hn : PySem.W.specialIn K (.builtin "object.__class__") "__get__" = some (some (.builtin "getset_descriptor.__get__"))) (htk : PySem.W.takesIn K (.builtin "object.__class__") = some true)
      (hm : PySem.W.mroIn K C (.type "object") = some true) : TyOf K H (.ref a) (.ref C)
/-- isinstance(x, c) for one class c, a built-in or an own one: kitOne's answer -/
theorem isinst_ok {x : V} {u t : Value} (I : Inv X pins σ H s) (rx : RelV x u) (ty : TyOf X.K H x t) (e : PySem.W.kitOne X.K t c = some b) (h : ∀ tk, Q (.bool b) { s with toks := tk }) :
    wpAny (model X.prog X.w) A (call (.builtin "isinstance") [u, c]) Q E s := by
  cases ty with
  | non => cases (show u = Value.none from rx); exact PySem.W.kia_one PySem.W.kitx_none I.kIn True.intro e (fun z => nomatch z) h
  | bl y => cases (show u = Value.bool y from rx); exact PySem.W.kia_one PySem.W.kitx_bool I.kIn True.intro e (fun z => nomatch z) h
  | int i => obtain ⟨t, q⟩ := (show ∃ t, u = Value.int i t from rx); cases q; exact PySem.W.kia_one PySem.W.kitx_int I.kIn True.intro e (fun z => nomatch z) h
  | str y => obtain ⟨t, q⟩ := (show ∃ t, u = Value.str y t from rx); cases q; exact PySem.W.kia_one PySem.W.kitx_str I.kIn True.intro e (fun z => nomatch z) h
  | flt y => obtain ⟨t, q⟩ := (show ∃ t, u = Value.float y t from rx); cases q; exact PySem.W.kia_one PySem.W.kitx_float I.kIn True.intro e (fun z => nomatch z) h
  | @lst a xs ea =>
    cases (show u = Value.ref a from rx)
    obtain ⟨_, _, n, _, h1⟩ := (show ObjOk X.prog X.w H s.heap a (.lst xs) from I.hok a _ ea)
    exact PySem.W.kia_one PySem.W.kitx_list I.kIn ⟨_, h1, rfl⟩ e (fun z => nomatch z) h
  | @frz a ob xs ea =>
    cases (show u = Value.ref a from rx)
    obtain ⟨_, _, _, n, _, h1⟩ := (show ObjOk X.prog X.w H s.heap a (.frz ob (.lst xs)) from I.hok a _ ea)
    exact PySem.W.kia_one PySem.W.kitx_list I.kIn ⟨_, h1, rfl⟩ e (fun z => nomatch z) h
  | @tup a xs ea =>
    cases (show u = Value.ref a from rx)
    obtain ⟨_, _, _, p⟩ := (show ObjOk X.prog X.w H s.heap a (.tup xs) from I.hok a _ ea)
    obtain ⟨o, h1, h2, _⟩ := p
    exact PySem.W.kia_one PySem.W.kitx_tuple I.kIn ⟨o, h1, h2⟩ e (fun z => nomatch z) h
  | @dK a kvs ea =>
    cases (show u = Value.ref a from rx)
    obtain ⟨_, _, vs, _, p⟩ := (show ObjOk X.prog X.w H s.heap a (.dK kvs) from I.hok a _ ea)
    obtain ⟨o, es, ep, h1, h2, _⟩ := p
    exact PySem.W.kia_one PySem.W.kitx_dict I.kIn ⟨o, h1, h2.1⟩ e (fun z => nomatch z) h
  | @dT a kvs ea =>
    cases (show u = Value.ref a from rx)
    obtain ⟨_, _, xs, _, o, es, ep, h1, h2, _⟩ := (show ObjOk X.prog X.w H s.heap a (.dT kvs) from I.hok a _ ea)
    exact PySem.W.kia_one PySem.W.kitx_dict I.kIn ⟨o, h1, h2.1⟩ e (fun z => nomatch z) h
  | @ins a C dx fs ea cl ha hn htk hm =>
    cases (show u = Value.ref a from rx)
    obtain ⟨mA, O, _⟩ := ins_get I.hok ea
    obtain ⟨od, J, _⟩ := O.look
    exact PySem.W.kia_one (PySem.W.kitx_own (cl.get _) cl.hd ha hn htk hm) I.kIn J e (fun z => nomatch z) h
end
end L2

namespace L2
open PySem PySem.Spec PyProof.Rows

/-! ### room -/
structure Room (k : Nat) (A : Around) : Prop where
  hd : A.handled = none
  dp : A.depth + 3 * k + 5 < recursionLimit
  un : A.units + 16 * k + 200 < cLine
theorem Room.mono {j k : Nat} {A : Around} (r : Room k A) (h : j ≤ k) : Room j A := ⟨r.hd, by have := r.dp; omega, by have := r.un; omega⟩
theorem Room.deeper {k : Nat} {A : Around} (r : Room (k + 1) A) (env : Env) : Room k (A.deeper env) :=
  ⟨r.hd, by have := r.dp; show A.depth + 1 + 3 * k + 5 < _; omega, by have := r.un; show A.units + 3 + 16 * k + 200 < _; omega⟩
theorem Room.depth {k : Nat} {A : Around} (r : Room k A) : A.depth < recursionLimit := by have := r.dp; omega
theorem Room.units {k : Nat} {A : Around} (r : Room k A) : A.units + 64 < cLine := by have := r.un; omega
/-! ### argument lists and displays -/
def tNil : TA := fun _ H Q => Q [] H
def tCons (ta : TE) (tr : TA) : TA := fun σ H Q => ta σ H fun x H1 => tr σ H1 fun xs H2 => Q (x :: xs) H2
section
variable {X : Cx} {e : Expr} {es : List Expr} {te : TE} {t : TA} {pos : Pos}
theorem pa_nil : PA X [] tNil := fun _ _ _ _ H Q I h => Calls.spliced_nil ⟨[], H, I, .nil, h⟩
theorem pa_cons (ha : PE X e te) (hr : PA X es t) (hs : starEach (e :: es) X.env = (false, eval e X.env) :: starEach es X.env := by rfl) : PA X (e :: es) (tCons te t) := by
  intro pos pins s σ H Q I h
  rw [hs]
  show wpAny _ _ (spliced ((false, eval e X.env) :: backTo pos (starEach es X.env))) _ _ s
  refine Calls.spliced_cons (thn (ha pins s σ H _ I h) fun u s1 ⟨x, H1, I1, r1, q1⟩ => ?_)
  exact thn (hr pos pins s1 σ H1 _ I1 q1) fun us s2 ⟨xs, H2, I2, r2, q2⟩ => ⟨x :: xs, H2, I2, .cons r1 r2, q2⟩

/-- a tuple, a list of written items -/
def tTup (t : TA) : TE := fun σ H Q => t σ H fun xs H1 => xs.length ≤ sizeLine ∧ ∀ p, H1 p = none → Q (.ref p) (upd H1 p (.tup xs))
def tLst (t : TA) : TE := fun σ H Q => t σ H fun xs H1 => xs.length ≤ sizeLine ∧ ∀ p, H1 p = none → Q (.ref p) (upd H1 p (.lst xs))
theorem pe_tup {x1} (h : PA X es t) : PE X (.Tuple es x1 pos) (tTup t) := by
  intro pins s σ H Q I hq
  refine wpAny_Tuple_spliced (thn (h pos pins s σ H _ I hq) fun us s1 ⟨xs, H1, I1, r, z, q⟩ => ⟨by rw [← r.length]; exact z, ?_⟩)
  have hf : H1 s1.heap.objs.size = none := I1.hok.fresh (Nat.le_refl _)
  refine ⟨.ref s1.heap.objs.size, upd H1 s1.heap.objs.size (.tup xs), I1.laid (t' := s1.toks) (fun b u e => Heap.get?_push_of_some _ e) (Nat.le_refl _) ?_, rfl, q _ hf⟩
  exact ⟨z, us, r, ⟨_, Heap.get?_push_size _ rfl, rfl, _, rfl⟩⟩
theorem pe_lst (h : PA X es t) : PE X (.List es pos) (tLst t) := by
  intro pins s σ H Q I hq
  refine wpAny_List_spliced (thn (h pos pins s σ H _ I hq) fun us s1 ⟨xs, H1, I1, r, z, q⟩ => ⟨by rw [← r.length]; exact z, ?_⟩)
  have hf : H1 s1.heap.objs.size = none := I1.hok.fresh (Nat.le_refl _)
  refine ⟨.ref s1.heap.objs.size, upd H1 s1.heap.objs.size (.lst xs), I1.laid (t' := s1.toks) (fun b u e => Heap.get?_push_of_some _ e) (Nat.le_refl _) ?_, rfl, q _ hf⟩
  exact ⟨z, us, 0, r, Heap.get?_push_size _ rfl⟩
end

/-! ### what a def promises -/
/-- a def's promise: the bound arguments in the parameters' order, the heap, the wanted end, the wanted exception -/
abbrev Sp := List V → Hp → VK → XK → Prop
/-- how an exception lies behind a call (file 08 gives it): the callers' frames, abstract heap and state ahead of the call, the wish, the exception, the state -/
abbrev CXT := List Env → Hp → Shared → XK → Value → Shared → Prop

/-- the state at a call -/
structure Env0 (P : Program) (w : World) (K : PySem.W.Frag) (mg : Str → Option Value) (base : Heap) (A : Around) (outer : List Env) (s : Shared) (H : Hp) : Prop where
  frames : A.frames = some outer
  mod : Mod K mg base
  bs : ∀ b o, base.get? b = some o → s.heap.get? b = some o ∧ H b = none
  bsz : base.objs.size ≤ s.heap.objs.size
  funs : s.heap.FunFrames base outer
  frf : ∀ b ∈ frs outer, H b = none
  hok : HOk P w H s.heap
  bare : AllBare s.gens
/-- a call's end -/
def CE (outer : List Env) (P : Program) (w : World) (H : Hp) (s : Shared) (Q : VK) (u : Value) (s' : Shared) : Prop :=
  ∃ v H', s'.os = s.os ∧ AllBare s'.gens ∧ Un (frs outer) [] H H' s.heap s'.heap ∧ HOk P w H' s'.heap ∧ RelV v u ∧ Q v H'
def CR (CX : CXT) (outer : List Env) (P : Program) (w : World) (H : Hp) (s : Shared) (Q : VK) (E : XK) (r : Result) (s' : Shared) : Prop :=
  match r with
  | .ok (.ret u) => CE outer P w H s Q u s'
  | .ok _ => False
  | .error e => CX outer H s E e s'
structure FnOk (P : Program) (w : World) (K : PySem.W.Frag) (mg : Str → Option Value) (base : Heap) (CX : CXT) (k : Nat) (f : Addr) (fd : FuncData) (ps : List Str) (sp : Sp) : Prop where
  len : ∀ vs H Q E, sp vs H Q E → vs.length = ps.length
  run : ∀ (A : Around) (outer : List Env) (s : Shared) (H : Hp) (args : Args) (us : List Value) (vs : List V) (Q : VK) (E : XK), Room k A → Env0 P w K mg base A outer s H → BindsTo s fd args (ps.zip us) → Vals vs us → sp vs H Q E →
    codeAny (model P w) A (.call (.ref f) args) (CR CX outer P w H s Q E) s
section
variable {X : Cx} {pins : List (Addr × Obj)} {σ : St} {H : Hp} {s s' : Shared}
/-- from a body: what a callee wants -/
theorem Inv.env0 (I : Inv X pins σ H s) : Env0 X.prog X.w X.K X.mg X.base X.A X.stack s H :=
  ⟨I.ok.frames, I.ok.mod, I.bs, Nat.le_trans I.ok.bsz I.sz, I.stack, I.stkFree, I.hok, I.bare⟩
/-- behind a call -/
theorem Inv.after {Q : VK} {u : Value} (I : Inv X pins σ H s) (h : CE X.stack X.prog X.w H s Q u s') : EP X pins σ Q u s' := by
  obtain ⟨v, H', os, bare, un, hok, r, q⟩ := h
  obtain ⟨hh, g, d, t, os'⟩ := s'
  obtain rfl : os' = s.os := os
  exact ⟨v, H', I.call (h' := hh) (g' := g) (d' := d) (t' := t) (ch := []) un hok bare (fun b z => absurd z (by simp)), r, q⟩
end

/-! ### calls -/
/-- f(..): the written arguments, then the defaults dvs; E: what is wanted of an exception -/
def tCall (sp : Sp) (dvs : List V) (E : XK) (t : TA) : TE := fun σ H Q => t σ H fun vs H1 => sp (vs ++ dvs) H1 Q E
/-- how the parameters are bound: us the positional arguments, kw the keywords' values by name, ds the defaults that fill up -/
def Binds (K : PySem.W.Frag) (fd : FuncData) (ps : List Str) (ds : List Value) : Prop :=
  ∀ (s : Shared) (us : List Value), K.In s.heap → (us ++ ds).length = ps.length → BindsTo s fd ⟨us, []⟩ (ps.zip (us ++ ds))
/-- every parameter is given -/
theorem Binds.all {K : PySem.W.Frag} {fd : FuncData} {ps : List Str} (h : ∀ us : List Value, us.length = ps.length → bindArgs fd ⟨us, []⟩ = pure (ps.zip us)) : Binds K fd ps [] := fun s us _ hl => by
  rw [List.append_nil] at hl ⊢
  exact .of_eq (h us hl)

/-- an exception of a callee reaches what this body wants of exceptions -/
def Passes (CX : CXT) (X : Cx) (E : XK) : Prop := ∀ (pins : List (Addr × Obj)) (σ : St) (H : Hp) (s : Shared) (e : Value) (s' : Shared), Inv X pins σ H s → CX X.stack H s E e s' → X.xe e s'

section
variable {X : Cx} {CX : CXT} {k : Nat} {f C : Addr} {fd : FuncData} {ps : List Str} {sp : Sp} {dvs : List V} {ds : List Value} {E : XK} {x m : Str} {p pos apos : Pos} {e o : Expr} {es : List Expr} {ta : TE} {t : TA}

/-- the callee runs -/
theorem run_fn {pins : List (Addr × Obj)} {σ : St} {H : Hp} {s : Shared} {Q : VK} {us : List Value} {vs : List V} (F : FnOk X.prog X.w X.K X.mg X.base CX k f fd ps sp) (hr : Room k X.A) (hb : Binds X.K fd ps ds) (hd : Vals dvs ds) (hx : Passes CX X E)
    (I : Inv X pins σ H s) (r : Vals vs us) (h : sp (vs ++ dvs) H Q E) : wpAny (model X.prog X.w) X.A (call (.ref f) us) (EP X pins σ Q) X.xe s := by
  have r2 : Vals (vs ++ dvs) (us ++ ds) := r.append hd
  have hl : (us ++ ds).length = ps.length := by rw [← r2.length]; exact F.len _ _ _ _ h
  refine wpAny_call (codeAny_mono (F.run X.A X.stack s H ⟨us, []⟩ (us ++ ds) (vs ++ dvs) Q E hr I.env0 (hb s us I.kIn hl) r2 h) fun r s' hq => ?_)
  cases r with
  | error e => exact hx pins σ H s e s' I hq
  | ok fl =>
    cases fl with
    | ret u => exact I.after hq
    | next => exact False.elim hq
    | brk => exact False.elim hq
    | cont => exact False.elim hq

theorem pe_call (F : FnOk X.prog X.w X.K X.mg X.base CX k f fd ps sp) (hr : Room k X.A) (hg : Gl X x) (hm : X.mg x = some (.ref f)) (hk : PySem.W.keepIn X.K (.ref f) = true) (hb : Binds X.K fd ps ds) (hd : Vals dvs ds) (hx : Passes CX X E)
    (ha : PA X (e :: es) t) (hdb : (x == ("__debug__" : Str)) = false := by decide) (he : starEach (e :: es) X.env = (false, eval e X.env) :: starEach es X.env := by rfl) (hpl : (backTo pos (starEach es X.env)).any (·.1) = false := by rfl) :
    PE X (.Call (.Name x p) (e :: es) [] pos) (tCall sp dvs E t) := by
  intro pins s σ H Q I h
  refine wpAny_Call_Name_kw (ld_glob I hg hm ?_ hdb)
  refine PySem.W.callWith_K (h₀ := X.base) I.ok.mod.kin hk (thn (ha pos pins s σ H _ I h) fun us s1 ⟨vs, H1, I1, r, q⟩ => ⟨I1.kIn, ?_⟩) he hpl
  exact run_fn F hr hb hd hx I1 r q
end

/-! ### keywords -/
section
variable {X : Cx} {CX : CXT} {k : Nat} {f C : Addr} {fd : FuncData} {ps ks : List Str} {sp : Sp} {E : XK} {x m : Str} {p pos apos kpos : Pos} {e o : Expr} {es : List Expr} {kws : List Keyword} {te ta : TE} {t tk : TA} {nm : Option Str}
variable {g : List Value → List Value → List Value} {gV : List V → List V → List V}
end

/-! ### a def's body keeps its promise -/
/-- names: the parameters first -/
structure FnScope (N P : List Str) (sc : Scope) : Prop where
  kind : sc.kind = .function
  co : sc.isCoroutine = false
  gen : sc.isGenerator = false
  nd : N.Nodup
  pre : N.take P.length = P
  par : ∀ x ∈ P, sc.names.lookup x = some .local ∨ sc.names.lookup x = some .cell
  nofree : ∀ y ∈ sc.names, y.2 ≠ .free

theorem bindL_out {kindOf : Str → Option NameKind} {x : Str} : ∀ {binds : List (Str × Value)} {m : Str → Option Value}, (∀ v, (x, v) ∉ binds) → bindL kindOf binds m x = m x
  | [], _, _ => rfl
  | (n, v) :: r, m, h => by
    unfold bindL
    rw [bindL_out fun w hw => h w (List.mem_cons_of_mem _ hw)]
    split
    · have : x ≠ n := by rintro rfl; exact h v List.mem_cons_self
      simp [this]
    · rfl
theorem bindC_out {kindOf : Str → Option NameKind} {x : Str} : ∀ {binds : List (Str × Value)} {m : Str → Option Value}, (∀ v, (x, v) ∉ binds) → bindC kindOf binds m x = m x
  | [], _, _ => rfl
  | (n, v) :: r, m, h => by
    unfold bindC
    rw [bindC_out fun w hw => h w (List.mem_cons_of_mem _ hw)]
    split
    · rfl
    · have : x ≠ n := by rintro rfl; exact h v List.mem_cons_self
      simp [this]
theorem bindL_get {kindOf : Str → Option NameKind} {x : Str} {v : Value} : ∀ {P : List Str} {vs : List Value} {i : Nat} {m : Str → Option Value}, P.Nodup → P[i]? = some x → vs[i]? = some v → kindOf x = some .local →
    bindL kindOf (P.zip vs) m x = some v
  | [], _, _, _, _, h, _, _ => by simp at h
  | _ :: _, [], _, _, _, _, h, _ => by simp at h
  | p :: P, w :: vs, 0, m, nd, h1, h2, hk => by
    simp at h1 h2; subst h1; subst h2
    show bindL kindOf ((p, w) :: P.zip vs) m p = _
    unfold bindL
    rw [bindL_out fun v hv => (List.nodup_cons.mp nd).1 (List.of_mem_zip hv).1, if_pos hk]
    simp
  | p :: P, w :: vs, i + 1, m, nd, h1, h2, hk => by
    show bindL kindOf ((p, w) :: P.zip vs) m x = _
    unfold bindL
    exact bindL_get (i := i) (List.nodup_cons.mp nd).2 (by simpa using h1) (by simpa using h2) hk
theorem bindC_get {kindOf : Str → Option NameKind} {x : Str} {v : Value} : ∀ {P : List Str} {vs : List Value} {i : Nat} {m : Str → Option Value}, P.Nodup → P[i]? = some x → vs[i]? = some v → kindOf x ≠ some .local →
    bindC kindOf (P.zip vs) m x = some v
  | [], _, _, _, _, h, _, _ => by simp at h
  | _ :: _, [], _, _, _, _, h, _ => by simp at h
  | p :: P, w :: vs, 0, m, nd, h1, h2, hk => by
    simp at h1 h2; subst h1; subst h2
    show bindC kindOf ((p, w) :: P.zip vs) m p = _
    unfold bindC
    rw [bindC_out fun v hv => (List.nodup_cons.mp nd).1 (List.of_mem_zip hv).1, if_neg hk]
    simp
  | p :: P, w :: vs, i + 1, m, nd, h1, h2, hk => by
    show bindC kindOf ((p, w) :: P.zip vs) m x = _
    unfold bindC
    exact bindC_get (i := i) (List.nodup_cons.mp nd).2 (by simpa using h1) (by simpa using h2) hk

/-- the names' values at the entry -/
def start (N : List Str) (vs : List V) : St := vs.map some ++ List.replicate (N.length - vs.length) none

/-- the context of a def's body, at its entry; an exception leaves the frame, then lies as CX says -/
def cxOf (CX : CXT) (P : Program) (w : World) (K : PySem.W.Frag) (mg : Str → Option Value) (base : Heap) (N : List Str) (qual : Str) (scope : Scope) (f : Addr) (cd : Value) (A : Around) (outer : List Env) (s : Shared) (H : Hp) (E : XK) : Cx where
  prog := P
  w := w
  K := K
  mg := mg
  base := base
  A := A.deeper (envOfC qual scope s.heap.objs.size f cd)
  N := N
  s₀ := s
  H₀ := H
  env := envOfC qual scope s.heap.objs.size f cd
  outer := outer
  stack := envOfC qual scope s.heap.objs.size f cd :: outer
  ex := []
  calm := true
  fn := fun _ => true
  pn := []
  xe := fun e s' => wpAny (model P w) (A.deeper (envOfC qual scope s.heap.objs.size f cd)) (leaving (envOfC qual scope s.heap.objs.size f cd) e) (fun _ s'' => CX outer H s E e s'') (fun e' s'' => CX outer H s E e' s'') s'

theorem cell_has {sc : Scope} {n : Nat} {x : Str} (h : sc.names.lookup x = some .cell) : ∃ c, (cellsFrom n sc.names []).lookup x = some c := by
  have q := PySem.W.cellsFrom_some sc.names n [] (.inl h)
  exact Option.isSome_iff_exists.mp q

theorem inv_start {CX : CXT} {P : Program} {w : World} {K : PySem.W.Frag} {mg : Str → Option Value} {base : Heap} {N ps : List Str} {qual : Str} {scope : Scope} {f : Addr} {cd : Value} {A : Around} {outer : List Env} {s s1 : Shared} {H : Hp} {E : XK} {us : List Value} {vs : List V}
    (S : FnScope N ps scope) (hd : A.handled = none) (e0 : Env0 P w K mg base A outer s H) (hl : vs.length = ps.length) (r : Vals vs us)
    (x : InCallC s s.heap.objs.size (bindL (envOfC qual scope s.heap.objs.size f cd).kindOf (ps.zip us) fun _ => none) (cellsFrom (s.heap.objs.size + 1) scope.names []) (bindC (envOfC qual scope s.heap.objs.size f cd).kindOf (ps.zip us) fun _ => none) s1) :
    Inv (cxOf CX P w K mg base N qual scope f cd A outer s H E) [] (start N vs) H s1 := by
  have hpl : ps.length ≤ N.length := by have := congrArg List.length S.pre; rw [List.length_take] at this; omega
  obtain ⟨h1, tk, rfl, hk⟩ := x.done
  have noA : ∀ b : Addr, b ∉ (cxOf CX P w K mg base N qual scope f cd A outer s H E).ex := fun b z => absurd (show b ∈ ([] : List Addr) from z) (by simp)
  refine ⟨⟨e0.mod, S.kind, rfl, rfl, Nat.le_refl _, fun y z c h1 h2 => ?_, fun y hy => ?_, fun y c _ h => ?_, fun _ => hd, Around.frames_deeper e0.frames, .inr ⟨rfl, rfl⟩, fun b z => absurd z (noA b), e0.bs, e0.bsz, fun b _ _ => noA b, fun b z => absurd z (noA b), e0.funs, e0.frf⟩,
    rfl, e0.bare, Un.kept hk, ⟨_, x.toInCall.ns, fun i y v h1 h2 h3 => ?_⟩, fun y c h => ⟨_, x.cell y c h⟩, e0.hok.fresh (Nat.le_refl _), fun y c h => ?_, fun p hp => absurd (show p ∈ ([] : List (Addr × Obj)) from hp) (by simp), e0.hok.kept hk, ?_⟩
  · exact name_of_addr x.apart (PySem.mem_of_lookup h1) (PySem.mem_of_lookup h2)
  · have hy : scope.names.lookup y = some .cell ∨ scope.names.lookup y = some .free := hy
    rcases hy with hy | hy
    · exact cell_has hy
    · exact absurd rfl (S.nofree _ (PySem.mem_of_lookup hy))
  · exact Nat.le_of_lt (x.above y c (PySem.mem_of_lookup h))
  · have hi : i < vs.length := by
      unfold start at h2
      by_cases hi : i < vs.length
      · exact hi
      · rw [List.getElem?_append_right (by simpa using hi)] at h2
        rw [List.getElem?_replicate] at h2
        split at h2 <;> cases h2
    have ha : vs[i]? = some v := by
      unfold start at h2
      rw [List.getElem?_append_left (by simpa using hi), List.getElem?_map] at h2
      cases e : vs[i]? with
      | none => rw [e] at h2; cases h2
      | some a => rw [e] at h2; cases h2; rfl
    obtain ⟨u, hu, rv⟩ := r.get ha
    have hp : ps[i]? = some y := by
      rw [← S.pre, List.getElem?_take_of_lt (by omega)]; exact h1
    have ndP : ps.Nodup := by rw [← S.pre]; exact S.nd.sublist (List.take_sublist _ _)
    refine ⟨u, rv, ?_⟩
    rcases S.par y (List.mem_of_getElem? hp) with k | k
    · exact .inl ⟨k, bindL_get ndP hp hu k⟩
    · obtain ⟨c, e⟩ := cell_has (n := s.heap.objs.size + 1) k
      refine .inr ⟨.inl k, c, e, ?_⟩
      have q := x.cell y c e
      rw [bindC_get ndP hp hu (by show scope.names.lookup y ≠ _; rw [k]; decide)] at q
      exact q
  · exact e0.hok.fresh (Nat.le_of_lt (x.above y c (PySem.mem_of_lookup h)))
  · unfold start
    show _ = N.length
    rw [List.length_append, List.length_map, List.length_replicate]
    omega

/-- THE RULE: a def (or a method) of the text, by its body. The body's reading t is chosen for each entry; it is run at the parameters' values -/
theorem fn_of {CX : CXT} {P : Program} {w : World} {K : PySem.W.Frag} {mg : Str → Option Value} {base : Heap} {k : Nat} {f : Addr} {name qual : Str} {params : Arguments} {body : List Stmt} {scope : Scope} {dV kV doc pm cdv ct oc : Value} {an od : Option Addr}
    {osl : Array (Option Value)} {N ps : List Str} {sp : Sp} (lk : K.lookup f = some ⟨oc, od, .func (PySem.W.fnOf name qual params body scope dV kV doc pm an cdv ct), osl⟩) (hcd : PySem.W.codeIn K cdv qual = true) (S : FnScope N ps scope)
    (len : ∀ vs H Q E, sp vs H Q E → vs.length = ps.length)
    (hbody : ∀ (A : Around) (outer : List Env) (s : Shared) (H : Hp) (vs : List V) (Q : VK) (E : XK), Room k (A.deeper (envOfC qual scope s.heap.objs.size f cdv)) → sp vs H Q E →
      ∃ t, PSs (cxOf CX P w K mg base N qual scope f cdv A outer s H E) body t ∧ t { nx := fun _ H' => Q .non H', rt := Q } (start N vs) H) :
    FnOk P w K mg base CX (k + 1) f (PySem.W.fnOf name qual params body scope dV kV doc pm an cdv ct) ps sp := by
  refine ⟨len, fun A outer s H args us vs Q E hr e0 hb r hsp => ?_⟩
  have hl := len _ _ _ _ hsp
  have KX : K.In s.heap := e0.mod.kin.keeps fun b o e => (e0.bs b o e).1
  have lim : s.heap.NoLimit := e0.mod.nolimit.keeps fun b o e => (e0.bs b o e).1
  have hkind : ∀ y ∈ ps.zip us, scope.names.lookup y.1 = some .local ∨ (scope.names.lookup y.1 = some .cell ∧ ((cellsFrom (s.heap.objs.size + 1) scope.names []).lookup y.1).isSome = true) := fun ⟨n, v⟩ hy => by
    rcases S.par n (List.of_mem_zip hy).1 with q | q
    · exact .inl q
    · exact .inr ⟨q, PySem.W.cellsFrom_some _ _ _ (.inl q)⟩
  refine codeAny_call_function hr.depth (KX _ _ lk) rfl S.co S.gen rfl (PySem.W.codeRec_of KX hcd) (hb _ _ _ _ ?_)
  refine wpAny_newFunctionEnv_cells S.kind hkind fun env he s1 x => ?_
  subst he
  refine ⟨lim.keeps x.toInCall.keep, codeAny_func ?_⟩
  obtain ⟨t, ht, hq⟩ := hbody A outer s H vs Q E (hr.deeper _) hsp
  have I : Inv (cxOf CX P w K mg base N qual scope f cdv A outer s H E) [] (start N vs) H s1 := inv_start S hr.hd e0 hl r x
  refine wpAny_mono (ht [] s1 (start N vs) H _ I hq) (fun fl s' hs => ?_) fun e s' hs => hs
  have fin : ∀ {σ' : St} {H' : Hp} {v : V} {u : Value}, Inv (cxOf CX P w K mg base N qual scope f cdv A outer s H E) [] σ' H' s' → RelV v u → Q v H' → CE outer P w H s Q u s' :=
    fun {σ' H' v u} J rv q => ⟨v, H', J.os, J.bare, J.base, J.hok, rv, q⟩
  cases fl with
  | ret u =>
    obtain ⟨v, σ', H', J, rv, q⟩ := hs
    exact fin J rv q
  | next =>
    obtain ⟨σ', H', J, q⟩ := hs
    exact fin (v := V.non) (u := Value.none) J rfl q
  | brk =>
    obtain ⟨_, _, _, q⟩ := hs
    exact False.elim q
  | cont =>
    obtain ⟨_, _, _, q⟩ := hs
    exact False.elim q
end L2

namespace L2
open PySem PySem.Spec PyProof.Rows
section
variable {X : Cx} {x : Str} {p pos : Pos} {e : Expr} {es : List Expr} {t : TA} {id T : String} {r : List V → Hp → VK → Prop}

def tCB (r : List V → Hp → VK → Prop) (t : TA) : TE := fun σ H Q => t σ H fun vs H1 => r vs H1 Q
/-- f(e, ..), f a built-in function -/
theorem pe_callB (hc : CallR X (.builtin id) r) (hg : Gl X x) (hm : X.mg x = none) (hv : bootBuiltins x = some (.builtin id)) (ha : PA X (e :: es) t) (hn : x ≠ "__name__" := by decide) (hdb : (x == ("__debug__" : Str)) = false := by decide)
    (he : starEach (e :: es) X.env = (false, eval e X.env) :: starEach es X.env := by rfl) (hpl : (backTo pos (starEach es X.env)).any (·.1) = false := by rfl) : PE X (.Call (.Name x p) (e :: es) [] pos) (tCB r t) := by
  intro pins s σ H Q I h
  refine wpAny_Call_Name_kw (ld_blt I hg hm hv ?_ hn hdb)
  exact PyProof.Rows.callWith_builtin1 (thn (ha pos pins s σ H _ I h) fun us s1 ⟨vs, H1, I1, r1, q1⟩ => hc pins s1 σ H1 vs us Q I1 r1 q1) he hpl
/-- T(e, ..), T a built-in type -/
theorem pe_callTy (hc : CallR X (.type T) r) (hg : Gl X x) (hm : X.mg x = none) (hv : bootBuiltins x = some (.type T)) (ha : PA X (e :: es) t) (hn : x ≠ "__name__" := by decide) (hdb : (x == ("__debug__" : Str)) = false := by decide)
    (he : starEach (e :: es) X.env = (false, eval e X.env) :: starEach es X.env := by rfl) (hpl : (backTo pos (starEach es X.env)).any (·.1) = false := by rfl) : PE X (.Call (.Name x p) (e :: es) [] pos) (tCB r t) := by
  intro pins s σ H Q I h
  refine wpAny_Call_Name_kw (ld_blt I hg hm hv ?_ hn hdb)
  exact PyProof.Rows.callWith_type1 (thn (ha pos pins s σ H _ I h) fun us s1 ⟨vs, H1, I1, r1, q1⟩ => hc pins s1 σ H1 vs us Q I1 r1 q1) he hpl
end
end L2

namespace HT
open PySem PyProof.Rows

section
open PySem.SeqAt
open PySem.AutoSeq1 (wpAny_loadPart')
open PySem.MeetsSeq PySem.MeetsSeq2 PySem.MeetsSeq3

end

section
variable {prog : Program} {w : World} {A : Around} {E : Value → Shared → Prop} {s : Shared}

/-- t + u, t not empty -/
theorem cat_tup {t b : Addr} {vs ws : List Value} {Q : Value → Shared → Prop} (ht : IsTup s.heap t vs.toArray) (hb : IsTup s.heap b ws.toArray) (hv : vs ≠ [])
    (h1 : ws = [] → Q (.ref t) s) (h2 : ws ≠ [] → Q (.ref s.heap.objs.size) { s with heap := s.heap.push { cls := .type "tuple", data := .seq (vs ++ ws).toArray } })
    (hsz : vs.length + ws.length ≤ sizeLine) : wpAny (model prog w) A (binaryOp .Add (.ref t) (.ref b)) Q E s := by
  obtain ⟨⟨cls, dd, data, sl⟩, ho, hc, n, hd⟩ := id ht
  obtain ⟨⟨cls2, dd2, data2, sl2⟩, ho2, hc2, n2, hd2⟩ := id hb
  simp only at hc hd hc2 hd2
  subst hc hd hc2 hd2
  have e : vs.toArray ++ ws.toArray = (vs ++ ws).toArray := by simp
  by_cases hw : ws = []
  · exact concat_meets ⟨_, ho, rfl⟩ ⟨_, ho2, rfl⟩ noFill_tuple_add seq_tuple_add PySem.F.slot_tuple_add PySem.F.entry_tuple_add (PySem.F.args_tuple_add_2 _ _)
      (tuple_addW1 t b vs.toArray ws.toArray n n2 dd dd2 sl sl2 (by simpa using hv) (by simp [hw])) ⟨ho, ho2, h1 hw⟩
  · refine concat_meets ⟨_, ho, rfl⟩ ⟨_, ho2, rfl⟩ noFill_tuple_add seq_tuple_add PySem.F.slot_tuple_add PySem.F.entry_tuple_add (PySem.F.args_tuple_add_2 _ _)
      (tuple_addW2 t b vs.toArray ws.toArray n n2 dd dd2 sl sl2 (by simpa using hv) (by simpa using hw) (by rw [List.size_toArray, List.size_toArray]; exact hsz)) ⟨ho, ho2, ?_⟩
    rw [e]
    exact h2 hw

/-! ### t[a:b], not the whole -/
/-- a slice's bound as a place among n (d where it is left out) -/
def sIx (n d : Nat) : Option Int → Nat
  | none => d
  | some v => if v < 0 then (v + (n : Int)).toNat else min v.toNat n
theorem sIx_none (n d : Nat) : sIx n d none = d := rfl
theorem sIx_nat (n d k : Nat) : sIx n d (some (k : Int)) = min k n := by
  show (if (k : Int) < 0 then ((k : Int) + (n : Int)).toNat else min (k : Int).toNat n) = min k n
  rw [if_neg (by omega), Int.toNat_natCast]
theorem sIx_le (n d : Nat) (hd : d ≤ n) (o : Option Int) : sIx n d o ≤ n := by
  cases o with
  | none => exact hd
  | some v =>
    show (if v < 0 then (v + (n : Int)).toNat else min v.toNat n) ≤ n
    by_cases hv : v < 0
    · rw [if_pos hv]; omega
    · rw [if_neg hv]; exact Nat.min_le_right _ _
theorem clip_eq (v : Int) (n d : Nat) : (if v < 0 then max (v + (n : Int)) 0 else min v (n : Int)) = ((sIx n d (some v) : Nat) : Int) := by
  show (if v < 0 then max (v + (n : Int)) 0 else min v (n : Int)) = (((if v < 0 then (v + (n : Int)).toNat else min v.toNat n) : Nat) : Int)
  by_cases hv : v < 0
  · simp only [if_pos hv]; omega
  · simp only [if_neg hv]; omega
theorem adjust_gen (lo hi : Option Int) (n : Nat) : Builtin.Slice.sliceAdjust lo hi 1 (n : Int) = (((sIx n 0 lo : Nat) : Int), ((sIx n n hi : Nat) : Int)) := by
  have h1 : ¬ ((1 : Int) < 0) := by omega
  unfold Builtin.Slice.sliceAdjust
  simp only [h1, if_false]
  refine Prod.ext ?_ ?_
  · cases lo with
    | none => rfl
    | some v => exact clip_eq v n 0
  · cases hi with
    | none => rfl
    | some v => exact clip_eq v n n
theorem places_gen (i j : Nat) : Builtin.Slice.slicePlaces (i : Int) (j : Int) 1 = j - i := by
  unfold Builtin.Slice.slicePlaces
  have h1 : (1 : Int) > 0 := by omega
  simp only [h1, if_true, Int.ediv_one]
  split <;> omega
theorem slicePart_ {v : Value} {o : Option Int} {Q : Option Int → Shared → Prop} (p : IsPart v o) (h : Q o s) : wpAny (model prog w) A (Builtin.Slice.slicePartIndex v) Q E s := by
  cases p with
  | none => exact slicePart_none h
  | int i t => exact slicePart_int h
theorem sliceApplied_gen {sl : Addr} {vl vu : Value} {lo hi : Option Int} {n : Nat} {Q : Int × Int × Nat → Shared → Prop} (hs : s.heap.IsSliceOf sl vl vu .none) (pl : IsPart vl lo) (pu : IsPart vu hi)
    (h : Q (((sIx n 0 lo : Nat) : Int), 1, sIx n n hi - sIx n 0 lo) s) : wpAny (model prog w) A (Builtin.Slice.sliceApplied (.ref sl) (pure (n : Int))) Q E s := by
  obtain ⟨os, hos, hcs, hds⟩ := id hs
  unfold Builtin.Slice.sliceApplied Builtin.Slice.sliceFields
  refine wpAny_bind (wpAny_bind (wpAny_field hos hds (x := vl) rfl (wpAny_bind (wpAny_field hos hds (x := vu) rfl (wpAny_bind (wpAny_field hos hds (x := .none) rfl (wpAny_pure ?_)))))))
  refine wpAny_bind (slicePart_none ?_)
  show wpAny _ _ (if ((1 : Int) == 0) = true then _ else _) _ _ s
  rw [if_neg (by decide)]
  refine wpAny_bind (slicePart_ pl (wpAny_bind (slicePart_ pu (wpAny_bind (wpAny_pure ?_)))))
  show wpAny _ _ (match Builtin.Slice.sliceAdjust lo hi 1 (n : Int) with | (lo, hi) => pure (lo, (1 : Int), Builtin.Slice.slicePlaces lo hi 1)) _ _ s
  rw [adjust_gen lo hi n]
  show wpAny _ _ (pure (((sIx n 0 lo : Nat) : Int), (1 : Int), Builtin.Slice.slicePlaces ((sIx n 0 lo : Nat) : Int) ((sIx n n hi : Nat) : Int) 1)) _ _ s
  rw [places_gen]
  exact wpAny_pure h
theorem pick_gen (xs : Array Value) (i k : Nat) : ((List.range k).filterMap fun (m : Nat) => xs[((i : Int) + (m : Int) * 1).toNat]?).toArray = ((xs.toList.drop i).take k).toArray := by
  have e : (fun (m : Nat) => xs[((i : Int) + (m : Int) * 1).toNat]?) = fun m => xs[i + m]? := by
    funext m
    have : ((i : Int) + (m : Int) * 1).toNat = i + m := by omega
    rw [this]
  rw [e]
  have := pick_run xs i k
  rw [List.filterMap_map] at this
  have e2 : ((fun x => xs[x]?) ∘ fun x => i + x) = fun m => xs[i + m]? := rfl
  rw [e2] at this
  rw [this]

theorem getItem_tuple_cut {t sl : Addr} {items : Array Value} {vl vu : Value} {lo hi : Option Int} {Q : Value → Shared → Prop} (ht : IsTup s.heap t items) (hs : s.heap.IsSliceOf sl vl vu .none) (pl : IsPart vl lo) (pu : IsPart vu hi)
    (hw : ¬ (sIx items.size 0 lo = 0 ∧ sIx items.size items.size hi = items.size))
    (h : Q (.ref s.heap.objs.size) { s with heap := s.heap.push { cls := .type "tuple", data := .seq ((items.toList.drop (sIx items.size 0 lo)).take (sIx items.size items.size hi - sIx items.size 0 lo)).toArray } })
    (hsz : items.size ≤ sizeLine) : wpAny (model prog w) A (getItem (.ref t) (.ref sl)) Q E s := by
  have htake : sizeOk (.seq ((items.toList.drop (sIx items.size 0 lo)).take (sIx items.size items.size hi - sIx items.size 0 lo)).toArray) := by
    show ((items.toList.drop (sIx items.size 0 lo)).take (sIx items.size items.size hi - sIx items.size 0 lo)).toArray.size ≤ sizeLine
    rw [List.size_toArray, List.length_take, List.length_drop, Array.length_toList]
    omega
  have hj : sIx items.size items.size hi ≤ items.size := sIx_le _ _ (Nat.le_refl _) hi
  obtain ⟨os, hos, hcs, hds⟩ := id hs
  have hTs : s.TypeIs (.ref sl) "slice" := ⟨os, hos, hcs⟩
  unfold getItem
  try with_reducible refine wpAny_holding ?_
  first | refine wpAny_bind (wpAny_pure ?_) | skip
  refine wpAny_bind (wpAny_sequenceKey ht.typeIs (by decide) ?_)
  refine wpAny_bind (wpAny_callSpecial?_slot (name := Str.ofString "__getitem__") ht.typeIs PyProof.Rows.slot_tuple_getitem
    (wpAny_call_entry PyProof.Rows.slot_tuple_getitem ht.typeIs entry_tuple_getitem ?_ (args_tuple_getitem _ _)))
  show wpAny _ _ (Builtin.Tuple.tupleItemsOf (.ref t) >>= _) _ _ s
  refine wpAny_bind (tupleItemsOf_ ht ?_)
  refine wpAny_bind (wpAny_typeOf hTs ?_)
  rw [if_pos (by decide)]
  refine wpAny_bind (sliceApplied_gen hs pl pu ?_)
  have hno : ¬ ((((sIx items.size 0 lo : Nat) : Int) == 0 && (1 : Int) == 1 && (sIx items.size items.size hi - sIx items.size 0 lo) == items.size) = true) := by
    intro q
    rw [Bool.and_eq_true, Bool.and_eq_true] at q
    have q1 : ((sIx items.size 0 lo : Nat) : Int) = 0 := eq_of_beq q.1.1
    have q2 : sIx items.size items.size hi - sIx items.size 0 lo = items.size := eq_of_beq q.2
    exact hw ⟨by omega, by omega⟩
  show wpAny _ _ (if (((sIx items.size 0 lo : Nat) : Int) == 0 && (1 : Int) == 1 && (sIx items.size items.size hi - sIx items.size 0 lo) == items.size) = true then _ else _) _ _ s
  rw [if_neg hno, pick_gen]
  first
    | exact wpAny_bind (m := Builtin.Tuple.tupleExact _) (wpAny_newObj_type (wpAny_pure ⟨_, rfl, wpAny_pure h⟩) htake)
    | exact wpAny_bind (m := Builtin.Tuple.tupleExact _) (wpAny_newObj_type (wpAny_bind (wpAny_pure (wpAny_pure ⟨_, rfl, wpAny_pure h⟩))) htake)
    | exact wpAny_bind (wpAny_bind (m := Builtin.Tuple.tupleExact _) (wpAny_newObj_type (wpAny_pure (wpAny_pure ⟨_, rfl, wpAny_pure h⟩)) htake))
    | exact wpAny_bind (wpAny_bind (m := Builtin.Tuple.tupleExact _) (wpAny_newObj_type (wpAny_pure ⟨_, rfl, wpAny_pure h⟩) htake))
end
end HT

namespace L2
open PySem PySem.Spec PyProof.Rows

/-! ### the parts of a slice -/
abbrev TO := St → Hp → (Option Int → Hp → Prop) → Prop
/-- a slice's part (left out, or an int) -/
def PO (X : Cx) (e : Option Expr) (t : TO) : Prop :=
  ∀ (pins : List (Addr × Obj)) (s : Shared) (σ : St) (H : Hp) (Q : Option Int → Hp → Prop), Inv X pins σ H s → t σ H Q →
    wpAny (model X.prog X.w) X.A (evalPart e X.env) (fun u s' => ∃ o H', Inv X pins σ H' s' ∧ IsPart u o ∧ Q o H') X.xe s
def tNoPart : TO := fun _ H Q => Q none H
def tPart (t : TE) : TO := fun σ H Q => t σ H fun x H1 => ∃ i, x = .int i ∧ Q (some i) H1

theorem intsAre_of {ns : List Int} : ∀ {us : List Value}, Vals (ns.map V.int) us → IntsAre us ns := by
  induction ns with
  | nil => intro us r; rw [List.map_nil] at r; cases r; exact .nil
  | cons n ns ih =>
    intro us r
    rw [List.map_cons] at r
    cases r with
    | cons r1 r2 =>
      obtain ⟨t, e⟩ := r1
      subst e
      exact .cons n t (ih r2)

section
variable {X : Cx} {e : Expr} {te : TE} {lo hi : Option Expr} {tl th : TO} {pos p2 : Pos}

theorem po_none : PO X none tNoPart := by
  intro pins s σ H Q I h
  rw [evalPart_none]
  exact wpAny_pure ⟨none, H, I, .none, h⟩
theorem po_some (h : PE X e te) : PO X (some e) (tPart te) := by
  intro pins s σ H Q I hw
  rw [evalPart_some]
  refine thn (h pins s σ H _ I hw) fun u s1 ⟨x, H1, I1, r1, q1⟩ => ?_
  obtain ⟨i, rfl, q⟩ := q1
  obtain ⟨t, rfl⟩ := r1
  exact ⟨some i, H1, I1, .int i t, q⟩

/-- what a slice of a value is, by values: the slice object stands at sl -/
def SlR (X : Cx) (r : V → Option Int → Option Int → Hp → VK → Prop) : Prop :=
  ∀ (pins : List (Addr × Obj)) (s : Shared) (σ : St) (H : Hp) (x : V) (v vl vu : Value) (lo hi : Option Int) (sl : Addr) (Q : VK), Inv X pins σ H s → RelV x v → s.heap.IsSliceOf sl vl vu .none → IsPart vl lo → IsPart vu hi → r x lo hi H Q →
    ∃ T id, typeLookup (.type T) "__getitem__" = pure (some (.builtin id)) ∧ s.TypeIs v T ∧ wpAny (model X.prog X.w) X.A (getItem v (.ref sl)) (EP X pins σ Q) X.xe s
def tSl (r : V → Option Int → Option Int → Hp → VK → Prop) (te : TE) (tl th : TO) : TE := fun σ H Q => te σ H fun x H1 => tl σ H1 fun l H2 => th σ H2 fun u H3 => r x l u H3 Q
/-- a[lo:hi], any a -/
theorem pe_slice {r : V → Option Int → Option Int → Hp → VK → Prop} (hr : SlR X r) (he : PE X e te) (hl : PO X lo tl) (hu : PO X hi th) : PE X (.Subscript e (.Slice lo hi none p2) pos) (tSl r te tl th) := by
  intro pins s σ H Q I h
  refine Subscript_ (thn (he pins s σ H _ I h) fun v s1 ⟨x, H1, I1, r1, q1⟩ => ?_)
  refine wpAny_Slice (thn (hl pins s1 σ H1 _ I1 q1) fun vl s2 ⟨l, H2, I2, pl, q2⟩ => thn (hu pins s2 σ H2 _ I2 q2) fun vu s3 ⟨u, H3, I3, pu, q3⟩ => ?_)
  rw [evalPart_none]
  refine wpAny_pure ?_
  have I4 : Inv X pins σ H3 { s3 with heap := s3.heap.push { cls := .type "slice", data := .fields #[vl, vu, .none] } } := I3.kept (t' := s3.toks) fun b ob q => Heap.get?_push_of_some _ q
  obtain ⟨T, id, hT, ht, hg⟩ := hr pins { s3 with heap := s3.heap.push { cls := .type "slice", data := .fields #[vl, vu, .none] } } σ H3 x v vl vu l u s3.heap.objs.size Q I4 r1 (Heap.IsSliceOf.new ..) pl pu q3
  show wpAny (model X.prog X.w) X.A (subscriptTail e (.Slice lo hi none p2) v (.ref s3.heap.objs.size)) (EP X pins σ Q) X.xe { s3 with heap := s3.heap.push { cls := .type "slice", data := .fields #[vl, vu, .none] } }
  exact tail_any (ops := [.ref s3.heap.objs.size, v]) ht hT hg (by with_unfolding_all rfl)

/-- the items of xs[lo:hi] -/
def cutV (xs : List V) (lo hi : Option Int) : List V := (xs.drop (HT.sIx xs.length 0 lo)).take (HT.sIx xs.length xs.length hi - HT.sIx xs.length 0 lo)
theorem cutV_length (xs : List V) (lo hi : Option Int) : (cutV xs lo hi).length ≤ xs.length := by
  unfold cutV
  rw [List.length_take, List.length_drop]
  omega
/-- t[lo:hi], not the whole of it (the whole would be t itself) -/
def rSlT (K : PySem.W.Frag) : V → Option Int → Option Int → Hp → VK → Prop := fun x lo hi H Q => ∃ a xs, x = .ref a ∧ SqT K H a xs ∧
  ¬ (HT.sIx xs.length 0 lo = 0 ∧ HT.sIx xs.length xs.length hi = xs.length) ∧ ∀ p, H p = none → Q (.ref p) (upd H p (.tup (cutV xs lo hi)))
theorem sl_tup : SlR X (rSlT X.K) := by
  intro pins s σ H x v vl vu lo hi sl Q I rx hs pl pu h
  obtain ⟨a, xs, rfl, hx, hw, q⟩ := h
  cases rx
  obtain ⟨its, r, ht, hz⟩ := I.tuple hx
  have hlen : its.toArray.size = xs.length := by rw [List.size_toArray]; exact r.length.symm
  refine ⟨"tuple", _, PyProof.Rows.slot_tuple_getitem.lookup, ht.typeIs, ?_⟩
  refine HT.getItem_tuple_cut ht hs pl pu (by rw [hlen]; exact hw) ?_ (by rw [hlen]; exact hz)
  rw [hlen]
  refine ⟨.ref s.heap.objs.size, _, I.laid (t' := s.toks) (o := .tup (cutV xs lo hi)) (fun b ob q => Heap.get?_push_of_some _ q) (Nat.le_refl _) ?_, rfl, q _ (I.hok.fresh (Nat.le_refl _))⟩
  exact ⟨Nat.le_trans (cutV_length xs lo hi) hz, _, (r.drop (HT.sIx xs.length 0 lo)).take (HT.sIx xs.length xs.length hi - HT.sIx xs.length 0 lo), IsTup.new _ _⟩

/-! ### t < u, t + u -/
/-- t + u, t not empty: u empty gives t itself -/
def rCatT (K : PySem.W.Frag) : R2 := fun x y H Q => ∃ a b xs ys, x = .ref a ∧ y = .ref b ∧ SqT K H a xs ∧ SqT K H b ys ∧ xs ≠ [] ∧ xs.length + ys.length ≤ sizeLine ∧
  (ys = [] → Q (.ref a) H) ∧ (ys ≠ [] → ∀ p, H p = none → Q (.ref p) (upd H p (.tup (xs ++ ys))))
theorem Vals.nil_iff {xs : List V} {us : List Value} (r : Vals xs us) : us = [] ↔ xs = [] := by
  cases r with
  | nil => simp
  | cons _ _ => simp
theorem op_catT : OpR X (binaryOp .Add) (rCatT X.K) := by
  intro pins s σ H x y v u Q I rx ry h
  obtain ⟨a, b, xs, ys, rfl, rfl, ha, hb, hx, hz, q1, q2⟩ := h
  cases rx
  cases ry
  obtain ⟨its, r1, p1, _⟩ := I.tuple ha
  obtain ⟨its2, r2, p2, _⟩ := I.tuple hb
  refine HT.cat_tup p1 p2 (fun z => hx (r1.nil_iff.mp z)) (fun z => ⟨.ref a, H, I, rfl, q1 (r2.nil_iff.mp z)⟩) (fun z => ?_) (by rw [← r1.length, ← r2.length]; exact hz)
  refine ⟨.ref s.heap.objs.size, _, I.laid (t' := s.toks) (o := .tup (xs ++ ys)) (fun b ob q => Heap.get?_push_of_some _ q) (Nat.le_refl _) ?_, rfl, q2 (fun w => z (r2.nil_iff.mpr w)) _ (I.hok.fresh (Nat.le_refl _))⟩
  exact ⟨by rw [List.length_append]; exact hz, _, r1.append r2, IsTup.new _ _⟩
end
end L2

namespace L2
open PySem PySem.Spec PyProof.Rows

/-! ### places -/
/-- the place that an index of any sign means -/
def ixN (n : Nat) (i : Int) : Option Nat := if 0 ≤ i then (if i < n then some i.toNat else none) else if -(n : Int) ≤ i then some (i + n).toNat else none
def atI {α : Type} (xs : List α) (i : Int) : Option α := (ixN xs.length i).bind fun j => xs[j]?
theorem ixN_seq {n : Nat} {i : Int} {j : Nat} (h : ixN n i = some j) : seqIndex? i n = some j ∧ j < n ∧ -(n : Int) ≤ i ∧ i < n := by
  unfold ixN at h
  by_cases h0 : 0 ≤ i
  · rw [if_pos h0] at h
    by_cases h1 : i < n
    · rw [if_pos h1] at h
      have e : i.toNat = j := Option.some.inj h
      exact ⟨by rw [seqIndex_of h0 h1, e], by omega, by omega, h1⟩
    · rw [if_neg h1] at h; cases h
  · rw [if_neg h0] at h
    by_cases h1 : -(n : Int) ≤ i
    · rw [if_pos h1] at h
      have e : (i + n).toNat = j := Option.some.inj h
      exact ⟨by rw [seqIndex_neg (by omega) h1, e], by omega, h1, by omega⟩
    · rw [if_neg h1] at h; cases h
theorem atI_get {α : Type} {xs : List α} {i : Int} {v : α} (h : atI xs i = some v) : ∃ j, seqIndex? i xs.length = some j ∧ xs[j]? = some v ∧ j < xs.length ∧ -(xs.length : Int) ≤ i ∧ i < xs.length := by
  unfold atI at h
  cases e : ixN xs.length i with
  | none => rw [e] at h; cases h
  | some j =>
    rw [e] at h
    obtain ⟨h1, h2, h3, h4⟩ := ixN_seq e
    exact ⟨j, h1, h, h2, h3, h4⟩
theorem atI_nat {α : Type} {xs : List α} {j : Nat} {v : α} (h : xs[j]? = some v) : atI xs (j : Int) = some v := by
  have hj : j < xs.length := (List.getElem?_eq_some_iff.mp h).1
  have e : ixN xs.length (j : Int) = some j := by
    unfold ixN
    rw [if_pos (by omega), if_pos (by omega)]; simp
  unfold atI; rw [e]; exact h
/-! ### what may be subscripted -/
/-- what stands as an index of a plain subscript -/
def PlainIx (b : Expr) : Prop := ∀ o i, subscripted b false o i = operate [o, i] (getItem o i)
/-- a subscript by values -/
def IxR (X : Cx) (r : R2) : Prop :=
  ∀ (value slice : Expr) (pins : List (Addr × Obj)) (s : Shared) (σ : St) (H : Hp) (x y : V) (v u : Value) (Q : VK), Inv X pins σ H s → RelV x v → RelV y u → r x y H Q →
    subscripted slice false v u = operate [v, u] (getItem v u) → wpAny (model X.prog X.w) X.A (subscriptTail value slice v u) (EP X pins σ Q) X.xe s
/-- a call of a builtin's method by values: the receiver, the arguments -/
def MtR (X : Cx) (id : String) (r : V → List V → Hp → VK → Prop) : Prop :=
  ∀ (pins : List (Addr × Obj)) (s : Shared) (σ : St) (H : Hp) (x : V) (xs : List V) (v : Value) (us : List Value) (Q : VK), Inv X pins σ H s → RelV x v → Vals xs us → r x xs H Q →
    wpAny (model X.prog X.w) X.A (call (.builtin id) (v :: us)) (EP X pins σ Q) X.xe s
section
variable {X : Cx} {a b : Expr} {ta tb : TE} {pos : Pos}
/-- a[b] -/
theorem pe_ix {r : R2} (hr : IxR X r) (ha : PE X a ta) (hb : PE X b tb) (hs : PlainIx b) : PE X (.Subscript a b pos) (tOp r ta tb) := by
  intro pins s σ H Q I h
  exact Subscript_ (binT ha hb I h fun v u s2 x y H2 I2 rx ry q => hr a b pins s2 σ H2 x y v u Q I2 rx ry q (hs _ _))

def rIxL (K : PySem.W.Frag) : R2 := fun x y H Q => ∃ p xs i v, x = .ref p ∧ y = .int i ∧ SqL K H p xs ∧ atI xs i = some v ∧ Q v H
def rIxT (K : PySem.W.Frag) : R2 := fun x y H Q => ∃ p xs i v, x = .ref p ∧ y = .int i ∧ SqT K H p xs ∧ atI xs i = some v ∧ Q v H
theorem ix_list : IxR X (rIxL X.K) := by
  intro value slice pins s σ H x y v u Q I rx ry h hs
  obtain ⟨p, xs, i, z, rfl, rfl, hq, he, q⟩ := h
  cases rx
  obtain ⟨t, rfl⟩ := ry
  obtain ⟨its, r, pl, hz⟩ := I.list hq
  obtain ⟨j, h1, h2, h3, h4, h5⟩ := atI_get he
  obtain ⟨w, ew, rw'⟩ := r.get h2
  have hl := r.length
  have hn := line63
  have fin : EP X pins σ Q w s := ⟨z, H, I, rw', q⟩
  by_cases h0 : 0 ≤ i
  · have hj : i.toNat = j := by
      rw [seqIndex_of h0 h5] at h1
      exact Option.some.inj h1
    exact item_listR pl.isList h0 (by omega) (by rw [hj]; simpa using ew) fin hs
  · have hj : (i + (its.toArray.size : Int)).toNat = j := by
      rw [seqIndex_neg (by omega) h4] at h1
      rw [List.size_toArray, ← hl]
      exact Option.some.inj h1
    exact subscriptTail_builtinR (x := w) pl.isList.typeIs slot_list_getitem.lookup
      (wpAny_getItem_list_neg (Q := fun r s' => r = w ∧ EP X pins σ Q r s') pl.isList (by omega) (by rw [List.size_toArray] <;> omega) (by omega) (by rw [hj]; simpa using ew) ⟨rfl, fin⟩) hs
theorem ix_tup : IxR X (rIxT X.K) := by
  intro value slice pins s σ H x y v u Q I rx ry h hs
  obtain ⟨p, xs, i, z, rfl, rfl, hq, he, q⟩ := h
  cases rx
  obtain ⟨t, rfl⟩ := ry
  obtain ⟨its, r, pl, hz⟩ := I.tuple hq
  obtain ⟨j, h1, h2, h3, h4, h5⟩ := atI_get he
  obtain ⟨w, ew, rw'⟩ := r.get h2
  have hl := r.length
  have hn := line63
  have fin : EP X pins σ Q w s := ⟨z, H, I, rw', q⟩
  exact subscriptTail_builtinR (x := w) pl.typeIs slot_tuple_getitem.lookup
    (getItem_tuple (j := j) (Q := fun r s' => r = w ∧ EP X pins σ Q r s') pl (by omega) (by omega) (by rw [List.size_toArray, ← hl]; exact h1) (by simpa using ew) ⟨rfl, fin⟩) hs
/-! ### xs[i] = v, any sign -/
theorem Inv.lst {pins : List (Addr × Obj)} {σ : St} {H : Hp} {s : Shared} {p : Addr} {xs : List V} (I : Inv X pins σ H s) (h : H p = some (.lst xs)) :
    ∃ (its : List Value) (n : Nat), Vals xs its ∧ s.heap.get? p = some { cls := .type "list", data := .seq its.toArray n } ∧ xs.length ≤ sizeLine := by
  obtain ⟨z, its, n, r, e⟩ := I.hok p _ h
  exact ⟨its, n, r, e, z⟩
/-! ### slices -/
theorem slice_bounds (lo hi : Option Int) (n : Nat) : (sliceBounds lo hi none n).1 = ((HT.sIx n 0 lo : Nat) : Int) ∧ (sliceBounds lo hi none n).2.1 = ((HT.sIx n n hi : Nat) : Int) ∧ (sliceBounds lo hi none n).2.2 = 1 := by
  refine ⟨?_, ?_, rfl⟩
  · cases lo with
    | none => simp [sliceBounds, HT.sIx]
    | some i =>
      simp only [sliceBounds, HT.sIx, Option.getD_none, show (1 : Int) > 0 by decide, if_true]
      by_cases h : i < 0
      · simp only [h, if_true] <;> omega
      · simp only [h, if_false] <;> omega
  · cases hi with
    | none => simp [sliceBounds, HT.sIx]
    | some i =>
      simp only [sliceBounds, HT.sIx, Option.getD_none, show (1 : Int) > 0 by decide, if_true]
      by_cases h : i < 0
      · simp only [h, if_true] <;> omega
      · simp only [h, if_false] <;> omega
theorem slicePick_cut (its : List Value) (lo hi : Option Int) : slicePick its.toArray lo hi none = ((its.drop (HT.sIx its.length 0 lo)).take (HT.sIx its.length its.length hi - HT.sIx its.length 0 lo)).toArray := by
  obtain ⟨h1, h2, h3⟩ := slice_bounds lo hi its.toArray.size
  unfold slicePick
  rw [h1, h2, h3]
  simp only [sliceRange_one, pick_run, List.size_toArray] <;> rfl
/-- xs[lo:hi] of a list: a new list -/
def rSlL (K : PySem.W.Frag) : V → Option Int → Option Int → Hp → VK → Prop := fun x lo hi H Q => ∃ a xs, x = .ref a ∧ SqL K H a xs ∧ ∀ p, H p = none → Q (.ref p) (upd H p (.lst (cutV xs lo hi)))
theorem sl_list : SlR X (rSlL X.K) := by
  intro pins s σ H x v vl vu lo hi sl Q I rx hs pl pu h
  obtain ⟨a, xs, rfl, hx, q⟩ := h
  cases rx
  obtain ⟨its, r, ht, hz⟩ := I.list hx
  have hlen := r.length
  refine ⟨"list", _, slot_list_getitem.lookup, ht.isList.typeIs, ?_⟩
  refine wpAny_getItem_list_slice ht.isList hs pl pu .none (by simp) ?_ (by rw [List.size_toArray] <;> omega)
  rw [slicePick_cut, ← hlen]
  refine ⟨.ref s.heap.objs.size, _, I.laid (t' := s.toks) (o := .lst (cutV xs lo hi)) (fun b ob q => Heap.get?_push_of_some _ q) (Nat.le_refl _) ?_, rfl, q _ (I.hok.fresh (Nat.le_refl _))⟩
  exact ⟨Nat.le_trans (cutV_length xs lo hi) hz, _, 0, (r.drop (HT.sIx xs.length 0 lo)).take (HT.sIx xs.length xs.length hi - HT.sIx xs.length 0 lo), Heap.get?_push_size _ rfl⟩

/-! ### in, not in: flat items -/
def flatV : V → Bool
  | .non => true
  | .bl _ => true
  | .int _ => true
  | .str _ => true
  | _ => false
/-- == of flat values -/
def eqV : V → V → Bool
  | .non, .non => true
  | .bl a, .bl b => a == b
  | .bl a, .int b => (if a then 1 else 0) == b
  | .int a, .bl b => a == (if b then 1 else 0)
  | .int a, .int b => a == b
  | .str a, .str b => a == b
  | _, _ => false
theorem eqAt_V {A : Around} {s : Shared} {y x : V} {u v : Value} (ry : RelV y u) (rx : RelV x v) (fy : flatV y = true) (fx : flatV x = true) : SeqAt.EqAt A s u v (eqV y x) := by
  cases y with
  | non =>
    cases ry
    cases x with
    | non => cases rx; exact SeqAt.EqAt.same _
    | bl b => cases rx; exact SeqAt.EqAt.none_bool b
    | int b => obtain ⟨t, rfl⟩ := rx; exact SeqAt.EqAt.none_int b t
    | str b => obtain ⟨t, rfl⟩ := rx; exact SeqAt.EqAt.none_str b t
    | _ => exact absurd (show false = true from fx) Bool.false_ne_true
  | bl a =>
    cases ry
    cases x with
    | non => cases rx; exact SeqAt.EqAt.bool_none a
    | bl b => cases rx; exact SeqAt.EqAt.bool_bool a b
    | int b => obtain ⟨t, rfl⟩ := rx; exact SeqAt.EqAt.bool_int a b t
    | str b => obtain ⟨t, rfl⟩ := rx; exact SeqAt.EqAt.bool_str a b t
    | _ => exact absurd (show false = true from fx) Bool.false_ne_true
  | int a =>
    obtain ⟨t', rfl⟩ := ry
    cases x with
    | non => cases rx; exact SeqAt.EqAt.int_none a t'
    | bl b => cases rx; exact SeqAt.EqAt.int_bool a t' b
    | int b => obtain ⟨t, rfl⟩ := rx; exact SeqAt.EqAt.int_int a t' b t
    | str b => obtain ⟨t, rfl⟩ := rx; exact SeqAt.EqAt.int_str a t' b t
    | _ => exact absurd (show false = true from fx) Bool.false_ne_true
  | str a =>
    obtain ⟨t', rfl⟩ := ry
    cases x with
    | non => cases rx; exact SeqAt.EqAt.str_none a t'
    | bl b => cases rx; exact SeqAt.EqAt.str_bool a t' b
    | int b => obtain ⟨t, rfl⟩ := rx; exact SeqAt.EqAt.str_int a t' b t
    | str b => obtain ⟨t, rfl⟩ := rx; exact SeqAt.EqAt.str_str a t' b t
    | _ => exact absurd (show false = true from fx) Bool.false_ne_true
  | _ => exact absurd (show false = true from fy) Bool.false_ne_true
/-- the items' answers, read off the values (a value's own answer does not lean on its token) -/
def eqU (x : V) (u : Value) : Bool := match u with
  | .none => eqV .non x
  | .bool b => eqV (.bl b) x
  | .int i _ => eqV (.int i) x
  | .str z _ => eqV (.str z) x
  | _ => false
theorem eqU_of {x y : V} {u : Value} (r : RelV y u) (f : flatV y = true) : eqU x u = eqV y x := by
  cases y with
  | non => cases r; rfl
  | bl b => cases r; rfl
  | int i => obtain ⟨t, rfl⟩ := r; rfl
  | str z => obtain ⟨t, rfl⟩ := r; rfl
  | _ => exact absurd (show false = true from f) Bool.false_ne_true
theorem any_eqU {x : V} : ∀ {xs : List V} {us : List Value}, Vals xs us → xs.all flatV = true → us.any (eqU x) = xs.any fun y => eqV y x
  | _, _, .nil, _ => rfl
  | y :: xs, u :: us, .cons r t, f => by
    rw [List.all_cons, Bool.and_eq_true] at f
    rw [List.any_cons, List.any_cons, eqU_of r f.1, any_eqU t f.2]
theorem mem_eqAt {A : Around} {s : Shared} {x : V} {v : Value} (rx : RelV x v) (fx : flatV x = true) : ∀ {xs : List V} {us : List Value}, Vals xs us → xs.all flatV = true → ∀ u ∈ us, SeqAt.EqAt A s u v (eqU x u)
  | _, _, .nil, _ => fun u hu => by cases hu
  | y :: xs, u :: us, .cons r t, f => fun u' hu => by
    rw [List.all_cons, Bool.and_eq_true] at f
    rcases List.mem_cons.mp hu with rfl | hu
    · rw [eqU_of r f.1]; exact eqAt_V r rx f.1 fx
    · exact mem_eqAt rx fx t f.2 u' hu
def inV (x : V) (xs : List V) : Bool := xs.any fun y => eqV y x
/-- x in a list or tuple of flat items -/
def rIn (K : PySem.W.Frag) (neg : Bool) : R2 := fun x y H Q => ∃ p xs, y = .ref p ∧ (SqL K H p xs ∨ SqT K H p xs) ∧ flatV x = true ∧ xs.all flatV = true ∧ Q (.bl (if neg then !inV x xs else inV x xs)) H
theorem op_in_seq : OpR X (compareOp .In) (rIn X.K false) := by
  intro pins s σ H x y v u Q I rx ry h
  obtain ⟨p, xs, rfl, hq, fx, fs, q⟩ := h
  cases ry
  rcases hq with hq | hq
  · obtain ⟨its, r, pl, hz⟩ := I.list hq
    refine SeqAt.in_listAt (eqU x) pl.isList (fun w hw => mem_eqAt rx fx r fs w (by simpa using hw)) ⟨.bl _, H, I, rfl, ?_⟩
    rw [show its.toArray.any (eqU x) = its.any (eqU x) by simp, any_eqU r fs]
    exact q
  · obtain ⟨its, r, pl, hz⟩ := I.tuple hq
    refine SeqAt.in_tupleAt (eqU x) pl (fun w hw => mem_eqAt rx fx r fs w (by simpa using hw)) ⟨.bl _, H, I, rfl, ?_⟩
    rw [show its.toArray.any (eqU x) = its.any (eqU x) by simp, any_eqU r fs]
    exact q
theorem op_notIn_seq : OpR X (compareOp .NotIn) (rIn X.K true) := by
  intro pins s σ H x y v u Q I rx ry h
  obtain ⟨p, xs, rfl, hq, fx, fs, q⟩ := h
  cases ry
  rcases hq with hq | hq
  · obtain ⟨its, r, pl, hz⟩ := I.list hq
    refine SeqAt.notIn_listAt (eqU x) pl.isList (fun w hw => mem_eqAt rx fx r fs w (by simpa using hw)) ⟨.bl _, H, I, rfl, ?_⟩
    rw [show its.toArray.any (eqU x) = its.any (eqU x) by simp, any_eqU r fs]
    exact q
  · obtain ⟨its, r, pl, hz⟩ := I.tuple hq
    refine SeqAt.notIn_tupleAt (eqU x) pl (fun w hw => mem_eqAt rx fx r fs w (by simpa using hw)) ⟨.bl _, H, I, rfl, ?_⟩
    rw [show its.toArray.any (eqU x) = its.any (eqU x) by simp, any_eqU r fs]
    exact q
/-! ### len, list(x), tuple(x) of any list or tuple that is read -/
theorem call_len_seq : CallR X (.builtin "len") (fun xs H Q => ∃ p ys, xs = [.ref p] ∧ (SqL X.K H p ys ∨ SqT X.K H p ys) ∧ Q (.int ys.length) H) := by
  intro pins s σ H xs us Q I r h
  obtain ⟨p, ys, rfl, hq, q⟩ := h
  obtain ⟨u, rfl, rx⟩ := vals1 r
  cases rx
  have hn := line63
  rcases hq with hq | hq
  · obtain ⟨its, r', pl, hz⟩ := I.list hq
    have hlen := r'.length
    exact Calls.call_len_list pl.isList (by simp only [List.size_toArray] <;> omega) ⟨.int ys.length, H, I.tok _, ⟨s.toks + 1, by rw [List.size_toArray, hlen]⟩, q⟩
  · obtain ⟨its, r', pl, hz⟩ := I.tuple hq
    have hlen := r'.length
    exact len_tuple pl (by simp only [List.size_toArray] <;> omega) ⟨.int ys.length, H, I.tok _, ⟨s.toks + 1, by rw [List.size_toArray, hlen]⟩, q⟩
theorem call_list_of : CallR X (.type "list") (fun xs H Q => ∃ p ys, xs = [.ref p] ∧ (SqL X.K H p ys ∨ SqT X.K H p ys) ∧ ∀ l, H l = none → Q (.ref l) (upd H l (.lst ys))) := by
  intro pins s σ H xs us Q I r h
  obtain ⟨p, ys, rfl, hq, q⟩ := h
  obtain ⟨u, rfl, rx⟩ := vals1 r
  cases rx
  have fin : ∀ (its : List Value), Vals ys its → ys.length ≤ sizeLine → ∀ (h' : Heap) (c' : Nat), (∀ b o', s.heap.get? b = some o' → h'.get? b = some o') →
      h'.get? s.heap.objs.size = some { cls := .type "list", dict := none, data := .seq its.toArray c', slots := #[] } → EP X pins σ Q (.ref s.heap.objs.size) { s with heap := h' } := fun its r' hz h' c' kp e =>
    ⟨.ref s.heap.objs.size, _, I.laid (t' := s.toks) kp (Nat.le_refl _) (show ObjOk X.prog X.w _ h' _ (.lst ys) from ⟨hz, its, c', r', e⟩), rfl, q _ (I.hok.fresh (Nat.le_refl _))⟩
  rcases hq with hq | hq
  · obtain ⟨its, r', pl, hz⟩ := I.list hq
    have hlen := r'.length
    obtain ⟨o, ho, hc, n, hd⟩ := pl.isList
    exact call_list_seq p (.inl rfl) ho hc hd (fun h' c' kp e => fin its r' hz h' c' kp e) (by simp only [List.size_toArray] <;> omega)
  · obtain ⟨its, r', pl, hz⟩ := I.tuple hq
    have hlen := r'.length
    obtain ⟨o, ho, hc, n, hd⟩ := pl
    exact call_list_seq p (.inr rfl) ho hc hd (fun h' c' kp e => fin its r' hz h' c' kp e) (by simp only [List.size_toArray] <;> omega)
theorem call_tuple_of : CallR X (.type "tuple") (fun xs H Q => ∃ p ys, xs = [.ref p] ∧ ((SqL X.K H p ys ∧ ∀ l, H l = none → Q (.ref l) (upd H l (.tup ys))) ∨ (SqT X.K H p ys ∧ Q (.ref p) H))) := by
  intro pins s σ H xs us Q I r h
  obtain ⟨p, ys, rfl, h⟩ := h
  obtain ⟨u, rfl, rx⟩ := vals1 r
  cases rx
  rcases h with ⟨hq, q⟩ | ⟨hq, q⟩
  · obtain ⟨its, r', pl, hz⟩ := I.list hq
    have hlen := r'.length
    refine call_tuple_list pl.isList (fun h' kp => ?_) (by simp only [List.size_toArray] <;> omega)
    have I1 : Inv X pins σ H { s with heap := h' } := I.kept (t' := s.toks) kp
    have I2 : Inv X pins σ (upd H h'.objs.size (.tup ys)) { s with heap := h'.push { cls := .type "tuple", data := .seq its.toArray } } :=
      I1.laid (t' := s.toks) (fun b o e => Heap.get?_push_of_some _ e) (Nat.le_refl _) (show ObjOk X.prog X.w _ _ _ (.tup ys) from ⟨hz, its, r', IsTup.new _ _⟩)
    exact ⟨.ref h'.objs.size, _, I2, rfl, q _ (I1.hok.fresh (Nat.le_refl _))⟩
  · obtain ⟨its, r', pl, hz⟩ := I.tuple hq
    exact call_tuple_same pl ⟨.ref p, H, I, rfl, q⟩

/-! ### the call of a builtin's method: o.m(..) -/
/-- the value is of that builtin type -/
def tyV (K : PySem.W.Frag) (T : String) (x : V) (H : Hp) : Prop := match x with
  | .str _ => T = "str"
  | .int _ => T = "int"
  | .ref p => (T = "list" ∧ ∃ xs, SqL K H p xs) ∨ (T = "tuple" ∧ ∃ o, K.lookup p = some o ∧ o.cls = .type "tuple" ∧ o.dict = none) ∨
      (T = "dict" ∧ ((∃ kvs, H p = some (.dK kvs)) ∨ ∃ kvs, H p = some (.dT kvs))) ∨ (T = "set" ∧ ∃ S n, H p = some (.set S n))
  | _ => False
theorem tyV_is {pins : List (Addr × Obj)} {σ : St} {H : Hp} {s : Shared} {T : String} {x : V} {v : Value} (I : Inv X pins σ H s) (r : RelV x v) (ty : tyV X.K T x H) :
    s.TypeIs v T ∧ ∀ a, v = .ref a → ∃ ob, s.heap.get? a = some ob ∧ ob.dict = none := by
  cases x with
  | str z =>
    obtain ⟨t, rfl⟩ := r
    cases (show T = "str" from ty)
    exact ⟨typeIs_str s z t, fun _ e => nomatch e⟩
  | int i =>
    obtain ⟨t, rfl⟩ := r
    cases (show T = "int" from ty)
    exact ⟨typeIs_int s i t, fun _ e => nomatch e⟩
  | ref p =>
    cases r
    rcases ty with ⟨rfl, xs, hq⟩ | ⟨rfl, o, hk, hc, hd⟩ | ⟨rfl, hk⟩ | ⟨rfl, S, n, hk⟩
    · obtain ⟨its, _, pl, _⟩ := I.list hq
      refine ⟨pl.isList.typeIs, fun a e => ?_⟩
      cases e
      obtain ⟨o, n, e, c, hd, _⟩ := pl
      exact ⟨o, e, hd⟩
    · refine ⟨⟨o, I.kIn p o hk, hc⟩, fun a e => ?_⟩
      cases e
      exact ⟨o, I.kIn _ o hk, hd⟩
    · have z : ∃ o, s.heap.get? p = some o ∧ o.ExactDict := by
        rcases hk with ⟨kvs, hk⟩ | ⟨kvs, hk⟩
        · obtain ⟨_, _, _, _, o, _, _, e, ex, _⟩ := I.hok p _ hk
          exact ⟨o, e, ex⟩
        · obtain ⟨_, _, _, _, o, _, _, e, ex, _⟩ := I.hok p _ hk
          exact ⟨o, e, ex⟩
      obtain ⟨o, e, ex⟩ := z
      refine ⟨⟨o, e, ex.1⟩, fun a e2 => ?_⟩
      cases e2
      exact ⟨o, e, ex.2.1⟩
    · obtain ⟨o, _, _, _, e, ex, _⟩ := I.hok p _ hk
      refine ⟨⟨o, e, ex.1⟩, fun a e2 => ?_⟩
      cases e2
      exact ⟨o, e, ex.2.1⟩
  | _ => exact False.elim ty
def tBM (K : PySem.W.Frag) (T : String) (r : V → List V → Hp → VK → Prop) (to : TE) (t : TA) : TE := fun σ H Q => to σ H fun x H1 => tyV K T x H1 ∧ t σ H1 fun xs H2 => r x xs H2 Q
variable {o e : Expr} {es : List Expr} {to : TE} {t : TA} {name : Str} {apos cpos : Pos} {T id : String} {r : V → List V → Hp → VK → Prop}
theorem pe_bm (pa : PlainAttrs T) (slot : Slot T name id) (hty : typeOf (.builtin id) = pure (.type "method_descriptor")) (hm : MtR X id r) (ho : PE X o to) (ha : PA X (e :: es) t)
    (hbase : attributeBase o name X.env (eval o X.env) = eval o X.env := by rfl)
    (hfew : ((backTo cpos (starEach (e :: es) X.env)).all (fun x => !x.1) && (backToKw cpos (keywordEach [] X.env)).all (fun x => x.1.isSome)
      && decide ((e :: es).length + ([] : List Keyword).length + (if ([] : List Keyword).isEmpty then 0 else 1) < 30)) = true := by rfl)
    (hline : (apos.endLine == cpos.line) = true := by rfl) (hs : starEach (e :: es) X.env = (false, eval e X.env) :: starEach es X.env := by rfl) (hplain : (backTo cpos (starEach es X.env)).any (·.1) = false := by rfl) :
    PE X (.Call (.Attribute o name apos) (e :: es) [] cpos) (tBM X.K T r to t) := by
  intro pins s σ H Q I h
  refine wpAny_Call_method_late hbase hfew hline rfl (thn (ho pins s σ H _ I h) fun v s1 ⟨x, H1, I1, r1, ty, q1⟩ => ?_)
  obtain ⟨h1, h2⟩ := tyV_is I1 r1 ty
  refine ⟨T, id, pa, slot, hty, h1, h2, ?_⟩
  have hA := ha cpos pins s1 σ H1 _ I1 q1
  rw [hs] at hA ⊢
  refine Calls.callWith_builtin (by show (false || (backTo cpos (starEach es X.env)).any (·.1)) = false; rw [hplain] <;> rfl) (Calls.evalArgs_plain ?_)
  exact thn hA fun us s2 ⟨vs, H2, I2, r2, q2⟩ => hm pins s2 σ H2 x vs v us Q I2 r1 r2 q2
/- xs.append(e), list.index on a module's tuple .. are MtR facts of 06m -/
end
end L2

namespace L2
open PySem PySem.Spec PyProof.Rows

def MtM (X : Cx) (id : String) (r : V → List V → Hp → VK → Prop) : Prop :=
  ∀ (pins : List (Addr × Obj)) (s : Shared) (σ : St) (H : Hp) (x : V) (xs : List V) (v : Value) (us : List Value) (Q : VK), Inv X pins σ H s → RelV x v → Vals xs us → r x xs H Q →
    wpAny (model X.prog X.w) X.A (call (.builtin id) (v :: us)) (EP X pins σ Q) X.xe s

/-! ### lists of values -/
theorem Vals.one : ∀ {x : V} {us : List Value}, Vals [x] us → ∃ u, us = [u] ∧ RelV x u
  | _, _, .cons r .nil => ⟨_, rfl, r⟩
theorem Vals.reverse {xs : List V} {us : List Value} (h : Vals xs us) : Vals xs.reverse us.reverse := by
  induction h with
  | nil => exact .nil
  | cons r t ih => rw [List.reverse_cons, List.reverse_cons]; exact Vals.append ih (.cons r .nil)
theorem Vals.rep {xs : List V} {us : List Value} (h : Vals xs us) : ∀ k : Nat, Vals (List.replicate k xs).flatten (List.replicate k us).flatten
  | 0 => .nil
  | k + 1 => by
    rw [List.replicate_succ, List.replicate_succ, List.flatten_cons, List.flatten_cons]
    exact Vals.append h (Vals.rep h k)
theorem foldl_rep (its : List Value) : ∀ (k : Nat) (acc : List Value),
    List.foldl (fun x1 x2 => x1 ++ x2) acc.toArray (List.replicate k its.toArray) = (acc ++ (List.replicate k its).flatten).toArray
  | 0, acc => by simp
  | k + 1, acc => by
    have e : acc.toArray ++ its.toArray = (acc ++ its).toArray := by simp
    have e2 : (acc ++ its) ++ (List.replicate k its).flatten = acc ++ (List.replicate (k + 1) its).flatten := by
      rw [List.replicate_succ, List.flatten_cons, List.append_assoc]
    rw [← e2, ← foldl_rep its k (acc ++ its), ← e, List.replicate_succ, List.foldl_cons]

section
variable {X : Cx} {pins : List (Addr × Obj)} {σ : St} {H : Hp} {s : Shared} {l b : Addr} {xs ys zs : List V}

/-! ### the two steps: a tracked list is rewritten, a new list is laid -/
theorem Inv.lset {its its' : List Value} {n : Nat} {f : Array Value → Array Value} {t' : Nat} (I : Inv X pins σ H s) (hH : H l = some (.lst xs))
    (e : s.heap.get? l = some { cls := .type "list", data := .seq its.toArray n }) (hf : f its.toArray = its'.toArray) (hv : Vals ys its') (hz : ys.length ≤ sizeLine) :
    Inv X pins σ (upd H l (.lst ys)) { s with heap := s.heap.update l (Obj.mapSeq f), toks := t' } := by
  have q := PySem.IsL.update e f
  rw [hf] at q
  refine I.write (x := l) (e := l) (by rw [hH]; exact trivial) (.inl rfl) (fun b' u hb hu => (Heap.get?_update_other s.heap (Obj.mapSeq f) (Ne.symm hb)).trans hu) ⟨_, q⟩ ?_
  exact ⟨hz, its', _, hv, q⟩
theorem Inv.lnew {its : List Value} {t' : Nat} (I : Inv X pins σ H s) (hv : Vals ys its) (hz : ys.length ≤ sizeLine) :
    Inv X pins σ (upd H s.heap.objs.size (.lst ys)) { s with heap := s.heap.push { cls := .type "list", data := .seq its.toArray }, toks := t' } :=
  I.laid (fun _ _ q => Heap.get?_push_of_some _ q) (Nat.le_refl _) ⟨hz, its, 0, hv, Heap.get?_push_size _ rfl⟩
theorem Inv.fresh (I : Inv X pins σ H s) : H s.heap.objs.size = none := I.hok.fresh (Nat.le_refl _)
theorem Inv.lstM (I : Inv X pins σ H s) (hH : H l = some (.lst xs)) : xs.length ≤ sizeLine ∧ ∃ (its : List Value) (n : Nat), Vals xs its ∧ xs.length = its.length ∧ s.heap.get? l = some { cls := .type "list", data := .seq its.toArray n } := by
  obtain ⟨z, its, n, r, e⟩ := I.hok l _ hH
  exact ⟨z, its, n, r, r.length, e⟩

theorem notLongL {n : Nat} (h : n ≤ sizeLine) : Builtin.List.listTooLong n = false := by
  unfold Builtin.List.listTooLong
  exact decide_eq_false (by omega)
end

section
variable {X : Cx}

/-! ### methods -/
def rAppend : V → List V → Hp → VK → Prop := fun x vs H Q => ∃ l xs y, x = .ref l ∧ vs = [y] ∧ H l = some (.lst xs) ∧ xs.length < sizeLine ∧ Q .non (upd H l (.lst (xs ++ [y])))
theorem mt_append : MtM X "list.append" rAppend := by
  intro pins s σ H x vs v us Q I rx rv h
  obtain ⟨l, xs, y, rfl, rfl, hH, hz, q⟩ := h
  cases rx
  obtain ⟨u, rfl, ru⟩ := rv.one
  obtain ⟨z, its, n, r, hl, e⟩ := I.lstM hH
  refine call_meets F.slot_list_append ⟨_, e, rfl⟩ F.entry_list_append (F.args_list_append_2 _ _) (PySem.list_append l its.toArray n u (by rw [List.size_toArray]; omega)) ⟨e, ?_⟩
  refine ⟨.non, _, I.lset (its' := its ++ [u]) hH e (by simp) (r.append (.cons ru .nil)) ?_, rfl, q⟩
  rw [List.length_append, List.length_singleton]
  omega

/-! ### list + list, list += list, list * int -/
def rCat : R2 := fun x y H Q => ∃ l b xs zs, x = .ref l ∧ y = .ref b ∧ H l = some (.lst xs) ∧ H b = some (.lst zs) ∧ xs.length + zs.length ≤ sizeLine ∧ ∀ p, H p = none → Q (.ref p) (upd H p (.lst (xs ++ zs)))
theorem op_cat : OpR X (binaryOp .Add) rCat := by
  intro pins s σ H x y v u Q I rx ry h
  obtain ⟨l, b, xs, zs, rfl, rfl, hH, hB, hz, q⟩ := h
  cases rx
  cases ry
  obtain ⟨z, its, n, r, hl, e⟩ := I.lstM hH
  obtain ⟨z2, its2, n2, r2, hl2, e2⟩ := I.lstM hB
  refine PySem.P.add_list e e2 ?_ (by rw [List.size_toArray, List.size_toArray]; omega)
  have ea : its.toArray ++ its2.toArray = (its ++ its2).toArray := by simp
  rw [ea]
  exact ⟨.ref _, _, I.lnew (t' := s.toks) (r.append r2) (by rw [List.length_append]; omega), rfl, q _ I.fresh⟩
/-- a list times an int (a negative one is nothing) -/
def rRep : R2 := fun x y H Q => ∃ l k xs, x = .ref l ∧ y = .int k ∧ H l = some (.lst xs) ∧ -(2 ^ 63) ≤ k ∧ k < 2 ^ 63 ∧ xs.length * k.toNat ≤ sizeLine ∧
  ∀ p, H p = none → Q (.ref p) (upd H p (.lst (List.replicate k.toNat xs).flatten))
theorem len_rep {α : Type} (xs : List α) (k : Nat) : (List.replicate k xs).flatten.length = k * xs.length := by
  induction k with
  | zero => simp
  | succ k ih => rw [List.replicate_succ, List.flatten_cons, List.length_append, ih, Nat.succ_mul, Nat.add_comm]
theorem op_rep : OpR X (binaryOp .Mult) rRep := by
  intro pins s σ H x y v u Q I rx ry h
  obtain ⟨l, k, xs, rfl, rfl, hH, h1, h2, hz, q⟩ := h
  cases rx
  obtain ⟨t, rfl⟩ := ry
  obtain ⟨z, its, n, r, hl, e⟩ := I.lstM hH
  have hlen : its.toArray.size * k.toNat ≤ sizeLine := by rw [List.size_toArray, ← hl]; exact hz
  have hcap : ¬ its.toArray.size * k.toNat > (2 ^ 63 - 1) / 8 := by
    have : (sizeLine : Nat) ≤ (2 ^ 63 - 1) / 8 := by decide
    omega
  have hfit : ¬ (!Builtin.List.listFitsIndex k) = true := by
    rw [fitsIndex_both h1 h2]
    exact Bool.false_ne_true
  have hlong : ¬ Builtin.List.listTooLong (its.toArray.size * k.toNat) = true := by
    rw [notLongL hlen]
    exact Bool.false_ne_true
  have hnew : List.foldl (fun x1 x2 => x1 ++ x2) #[] (List.replicate (if its.toArray.isEmpty = true then 0 else k.toNat) its.toArray) = (List.replicate k.toNat its).flatten.toArray := by
    have f0 : ∀ m : Nat, List.foldl (fun x1 x2 => x1 ++ x2) #[] (List.replicate m its.toArray) = (List.replicate m its).flatten.toArray := fun m => by
      have := foldl_rep its m []
      rw [List.nil_append] at this
      exact this
    rw [f0]
    cases its with
    | nil => simp
    | cons a r' => rw [if_neg (by simp)]
  refine wpAny_binaryOp_repeat_ref (T := "list") (U := "int") (by decide) ⟨_, e, rfl⟩ (fun s' => typeIs_int s' k t) noFill_list_mul F.fills_int_mul F.slot_int_rmul repeat_list F.slot_int_index.lookup
    (call_meets F.slot_int_rmul (typeIs_int s k t) F.entry_int_rmul (F.args_int_rmul_2 _ _) (int___rmul___int_list k t l its.toArray n)
      ⟨e, rfl, ⟨_, e, rfl⟩, call_meets F.slot_list_mul ⟨_, e, rfl⟩ F.entry_list_mul (F.args_list_mul_2 _ _) (AutoListH.list___mul___list_int_3 l its.toArray n k t hfit hcap hlong) ⟨e, ?_⟩⟩)
  rw [hnew]
  exact ⟨.ref _, _, I.lnew (t' := s.toks) (r.rep k.toNat) (by rw [len_rep, Nat.mul_comm]; exact hz), rfl, q _ I.fresh⟩

/-! ### del xs[i] -/
end

/-! ### xs[a:b] = ys -/
section
variable {prog : Program} {w : World} {A : Around} {E : Value → Shared → Prop} {s : Shared}
set_option maxRecDepth 100000 in
end

section
variable {X : Cx}
end
end L2

namespace Att
open PySem PySem.W PySem.Calls PyProof.Rows

/-! ### the script -/
theorem ints_of_wellAll {P : Params} {h : Heap} : ∀ (ns : List Int) (vs : List Value), WellAll P h vs (ns.map WData.int) → IntsAre vs ns := by
  intro ns
  induction ns with
  | nil =>
    intro vs w
    rw [List.map_nil] at w
    cases w
    exact .nil
  | cons n ns ih =>
    intro vs w
    rw [List.map_cons] at w
    cases w with
    | cons a b =>
      cases a
      exact .cons _ _ (ih _ b)

theorem script_of {l : OpenLaw} {n : Nat} (hn : l.most = some n) {P : Params} {h : Heap} {args : List WData} {vals : List Value}
    (hpre : l.row.toRowW.claim.pre args = true) (hwl : WellAll P h vals args) :
    ∃ a vs ns, vals = [Value.ref a] ∧ args = [WData.list (ns.map WData.int)] ∧ h.get? a = some { cls := .type "list", data := .seq vs.toArray } ∧ IntsAre vs ns ∧ ns.length ≤ n := by
  have hsh : WShape.hasAll [] args [.list .int] = true := (pre_splitW hpre).1
  have hc : l.pre.holds [] { args := args } = true := (pre_splitW hpre).2
  obtain ⟨d, r, rfl, h1, h2⟩ := hasAllW_cons hsh
  obtain rfl := hasAllW_nil h2
  obtain ⟨xs, rfl, h3⟩ := hasW_list h1
  obtain ⟨ns, rfl⟩ := items_int h3
  have hlen : ns.length ≤ n := by
    unfold OpenLaw.pre at hc
    have h4 : (WTm.not (.lt (.lit (.int (n : Int))) (.len (.arg 0)))).holds [] { args := [.list (ns.map .int)] } = true := by
      have h4 := (holds_andW hc).1
      rw [hn] at h4
      exact h4
    have h5 := condW_of h4 (w_not (w_lt w_lit (w_len_list (w_arg rfl))))
    rw [List.length_map] at h5
    refine Nat.le_of_not_lt fun q => ?_
    have q' : (n : Int) < ((ns.length : Nat) : Int) := by omega
    first
      | (rw [decide_eq_true q'] at h5; exact absurd h5 (by decide))
      | (simp at h5; omega)
  cases hwl with
  | cons w1 w2 =>
    cases w2
    cases w1 with
    | list ho hall => exact ⟨_, _, ns, rfl, rfl, ho, ints_of_wellAll ns _ hall, hlen⟩

theorem post_true (l : OpenLaw) (args : List WData) : l.row.toRowW.claim.post args (.bool true) args = true :=
  postW_of (r := l.row.toRowW) (X := (true == true))
    (show WShape.has [] (.bool true) .bool = true by first | rfl | decide | simp [WShape.has, WShape.arms, WShape.armsAll])
    (show (WTm.eq .res (.lit (.bool true))).value [] { args := args, res := some (.bool true), after := args } = some (.bool (true == true)) from w_eq_bool (w_res rfl) w_lit) rfl

/-! ### the attachment: holds_open's last premise (the goal 'hc' behind k_head) from a wpAny of the law's body -/
/-- the same from a codeAny of the CALL (for a layer whose function contracts speak of calls) -/
theorem attach_call {l : OpenLaw} {n : Nat} {q : Program} {loose : List Str} {XP : (Str → Option Value) → Heap → Prop} {YP : World → Heap → Prop} {d : DefRec}
    (hn : l.most = some n) (hdf : d.params.defaults = [])
    (call : ∀ (w : World) (s₀ s₁ : Shared) (mg mb : Str → Option Value) (fa : Addr) (o : Obj) (pm cd doc : Value) (a : Addr) (vs : List Value) (ns : List Int),
      Ground q loose [] XP w s₀ mg mb s₁.heap → YP w s₁.heap →
      s₁.heap.get? fa = some o → o.data = .func (docDef d.name d.params d.body d.scope pm cd doc) → s₁.heap.CodeRec cd d.name → mg d.name = some (.ref fa) →
      s₁.heap.get? a = some { cls := .type "list", data := .seq vs.toArray } → IntsAre vs ns → ns.length ≤ n → s₁.gens = #[] →
      codeAny (model l.prog w) callerA (.call (.ref fa) ⟨[.ref a], []⟩) (fun r s' => r = .ok (.ret (.bool true)) ∧ OldK s₁.heap s'.heap ∧ s'.os = s₁.os ∧ AllBare s'.gens) s₁) :
    WalkO q loose XP YP l.row.toRowW d [] (fun f vs => PySem.call f vs) := by
  intro w s₀ s₁ mg mb G Y fa o pm cd doc dV kV ho hd hcd hD hmg hg args vals as hpre hlay hrd hwl hlo
  obtain rfl : dV = .none := Dflts.none hD hdf
  obtain rfl : kV = .none := Dflts.noKw hD
  obtain ⟨a, vs, ns, rfl, rfl, hobj, hints, hlen⟩ := script_of hn hpre hwl
  refine enter_call (codeAny_mono (call w s₀ s₁ mg mb fa o pm cd doc a vs ns G Y ho (fd_plain hd) hcd hmg hobj hints hlen hg) fun r s' hq => ?_)
  obtain ⟨rfl, h2, h3, h4⟩ := hq
  exact ⟨.inl ⟨.bool true, .bool true, [], rfl, fun _ => rfl, .bool true, post_true l _, fun _ => ⟨List.Pairwise.nil, fun _ hm => (nomatch hm)⟩⟩, h2, h3, h4⟩

/-! ### rules over ANY heap (no ledger) from facts about the written part K: the library's own take a ledger (News) for what they write -/
section
variable {prog : Program} {w : World} {A : Around} {E : Value → Shared → Prop} {s : Shared} {K : Frag}

/-! the whole heap as the ledger: makes every rule that writes through a ledger a rule over any heap -/
end
end Att

namespace L2
open PySem PySem.Spec PyProof.Rows

theorem vals_ints : ∀ {vs : List Value} {ns : List Int}, IntsAre vs ns → Vals (ns.map V.int) vs
  | _, _, .nil => .nil
  | _, _, .cons n t h => .cons ⟨t, rfl⟩ (vals_ints h)

/-- nothing is tracked but the script, known to the object (or it is an object of the module) -/
def Only (H : Hp) : Prop := ∀ b, H b = none ∨ ∃ o xs, H b = some (.frz o (.lst xs))

/-- THE HEAD: the law's promise, at the heap behind the top. F, the promise of the law's def, may use that base is part of the heap (so K.In base, base.Ns mainGlobals mg stand in Mod) -/
theorem law_call {P : Program} {w : World} {K : PySem.W.Frag} {mg mb : Str → Option Value} {CX : CXT} {k : Nat} {fa a : Addr} {fd : FuncData} {x : Str} {sp : Sp} {s₁ : Shared} {vs : List Value} {ns : List Int}
    (KX : K.In s₁.heap) (hns : s₁.heap.Ns mainGlobals mg) (hb : s₁.heap.Ns builtinsNs mb) (hbb : ∀ x : Str, x ≠ "__name__" → mb x = bootBuiltins x) (hlim : s₁.heap.NoLimit) (hg : s₁.gens = #[])
    (ha : s₁.heap.get? a = some { cls := .type "list", data := .seq vs.toArray }) (hi : IntsAre vs ns) (hl : ns.length ≤ sizeLine) (hr : Room k callerA)
    (F : ∀ base : Heap, K.In base → base.Ns mainGlobals mg → FnOk P w K mg base CX k fa fd [x] sp) (hbind : ∀ (s : Shared) (u : Value), BindsTo s fd ⟨[u], []⟩ [(x, u)])
    (hsp : ∀ H : Hp, Only H → SqL K H a (ns.map V.int) → sp [.ref a] H (fun v _ => v = .bl true) fun _ _ _ => False)
    (hCX : ∀ H e s', CX [] H s₁ (fun _ _ _ => False) e s' → False) :
    codeAny (model P w) callerA (.call (.ref fa) ⟨[.ref a], []⟩) (fun r s' => r = .ok (.ret (.bool true)) ∧ OldK s₁.heap s'.heap ∧ s'.os = s₁.os ∧ AllBare s'.gens) s₁ := by
  have rv := vals_ints hi
  have lenV := hi.length
  -- from an abstract heap in which nothing but the script may be tracked
  have core : ∀ H : Hp, Only H → SqL K H a (ns.map V.int) → HOk P w H s₁.heap → (∀ b, H b ≠ none → b = a) → (H a ≠ none → K.lookup a = none) →
      codeAny (model P w) callerA (.call (.ref fa) ⟨[.ref a], []⟩) (fun r s' => r = .ok (.ret (.bool true)) ∧ OldK s₁.heap s'.heap ∧ s'.os = s₁.os ∧ AllBare s'.gens) s₁ := by
    intro H hO hS hok hA hK
    have base_of : ∀ {b : Addr} {o : Obj}, s₁.heap.get? b = some o → H b = none → (hidT s₁.heap H).get? b = some o := fun e n => hidT_get e n
    have noA : ∀ {b : Addr} {o : Obj} {es : Array DictEntry} {ep : Nat}, s₁.heap.get? b = some o → o.data = .dict es ep → H b = none := fun {b o es ep} e d => by
      cases q : H b with
      | none => rfl
      | some u =>
        have e' : b = a := hA b (by rw [q]; simp)
        subst e'
        rw [ha] at e; cases e
        have d' : Data.seq vs.toArray _ = Data.dict es ep := d
        cases d'
    have nsK : ∀ {b : Addr} {m : Str → Option Value}, s₁.heap.Ns b m → (hidT s₁.heap H).Ns b m := fun {b m} ⟨o, es, ep, e, d, r⟩ => ⟨o, es, ep, base_of e (noA e d), d, r⟩
    have hKb : K.In (hidT s₁.heap H) := fun b o e => base_of (KX b o e) (by
      cases q : H b with
      | none => rfl
      | some u =>
        have e' : b = a := hA b (by rw [q]; simp)
        subst e'
        rw [hK (by rw [q]; simp)] at e; cases e)
    have hM : Mod K mg (hidT s₁.heap H) := ⟨hKb, nsK hns, ⟨mb, nsK hb, hbb⟩, let ⟨mc, h1, h2⟩ := hlim; ⟨mc, nsK h1, h2⟩⟩
    have e0 : Env0 P w K mg (hidT s₁.heap H) callerA [] s₁ H := ⟨rfl, hM, fun b o e => of_hidT e, Nat.le_of_eq (hidT_size _ _), trivial, fun b hb => absurd (show b ∈ ([] : List Addr) from hb) (by simp), hok, .of_eq hg⟩
    refine codeAny_mono ((F _ hKb (nsK hns)).run callerA [] s₁ H ⟨[.ref a], []⟩ [.ref a] [.ref a] _ _ hr e0 (hbind s₁ (.ref a)) (.cons rfl .nil) (hsp H hO hS)) fun r s' h => ?_
    cases r with
    | error e => exact (hCX H e s' h).elim
    | ok fl =>
      cases fl with
      | next => exact False.elim h
      | brk => exact False.elim h
      | cont => exact False.elim h
      | ret u =>
        obtain ⟨v, H', os, bare, un, hok', r', q⟩ := h
        have q' : v = .bl true := q
        subst q'
        obtain rfl : u = Value.bool true := r'
        refine ⟨rfl, OldK.of_keep fun b o e => ?_, os, bare⟩
        cases q : H b with
        | none => exact un.keep b o e q (by intro z; exact absurd (show b ∈ ([] : List Addr) from z) (by simp)) (by simp)
        | some u =>
          rcases hO b with z | ⟨ob, xs, z⟩
          · rw [q] at z; cases z
          · have z2 := un.frzs b ob _ z
            obtain ⟨e1, _⟩ := hok b _ z
            obtain ⟨e2, _⟩ := hok' b _ z2
            rw [e] at e1; cases e1
            exact e2
  cases hk : K.lookup a with
  | some o =>
    -- the script is one of the module's own objects
    have e := KX a o hk
    rw [ha] at e
    cases e
    refine core (fun _ => none) (fun _ => .inl rfl) (.inr ⟨_, vs.toArray, _, hk, rfl, rfl, rfl, by rw [List.size_toArray, lenV]; exact hl, by simpa using rv⟩) (fun b u z => by have z' : (none : Option HO) = some u := z; cases z') (fun b z => absurd rfl z) fun z => absurd rfl z
  | none =>
    refine core (fun b => if b = a then some (.frz { cls := .type "list", data := .seq vs.toArray } (.lst (ns.map V.int))) else none) (fun b => ?_) (.inl (.inr ⟨{ cls := .type "list", data := .seq vs.toArray }, if_pos rfl⟩)) (fun b u z => ?_) (fun b z => ?_) fun _ => hk
    · by_cases hb : b = a
      · exact .inr ⟨_, _, if_pos hb⟩
      · exact .inl (if_neg hb)
    · by_cases hb : b = a
      · have z' := (if_pos hb).symm.trans z
        cases z'
        subst hb
        exact ⟨ha, by rw [List.length_map]; exact hl, vs, _, rv, ha⟩
      · have z' := (if_neg hb).symm.trans z
        cases z'
    · by_cases hb : b = a
      · exact hb
      · exact absurd (if_neg hb) z
end L2

namespace L2
open PySem PySem.Spec PyProof.Rows

/-- the goal that k_head leaves (case hc), from the law's promise. F gives the function object fd (K's own) once, then the promise over every base -/
theorem walk_of {l : PySem.W.OpenLaw} {n k : Nat} {q : Program} {loose : List Str} {XP : (Str → Option Value) → Heap → Prop} {YP : World → Heap → Prop} {d : DefRec} {K : Params → PySem.W.Frag} {CX : World → CXT} {sp : World → Sp} {x : Str}
    (hn : l.most = some n) (hn2 : n ≤ sizeLine) (hdf : d.params.defaults = []) (hr : Room k callerA)
    (hY : ∀ (w : World) (h : Heap), YP w h → (K w.params).In h)
    (F : ∀ (w : World) (mg : Str → Option Value) (fa : Addr) (h : Heap), (K w.params).In h → h.Ns mainGlobals mg → mg d.name = some (.ref fa) →
      ∃ fd : FuncData, (∀ (s : Shared) (u : Value), BindsTo s fd ⟨[u], []⟩ [(x, u)]) ∧
        ∀ base : Heap, (K w.params).In base → base.Ns mainGlobals mg → FnOk l.prog w (K w.params) mg base (CX w) k fa fd [x] (sp w))
    (hsp : ∀ (w : World) (H : Hp) (a : Addr) (ns : List Int), ns.length ≤ n → Only H → SqL (K w.params) H a (ns.map V.int) → sp w [.ref a] H (fun v _ => v = .bl true) fun _ _ _ => False)
    (hCX : ∀ (w : World) (H : Hp) (s : Shared) (e : Value) (s' : Shared), CX w [] H s (fun _ _ _ => False) e s' → False) :
    PySem.W.WalkO q loose XP YP l.row.toRowW d [] (fun f vs => PySem.call f vs) := by
  refine Att.attach_call hn hdf fun w s₀ s₁ mg mb fa o pm cd doc a vs ns G Y ho hd hcd hmg hobj hints hlen hg => ?_
  have KX := hY w _ Y
  obtain ⟨fd, hb, hF⟩ := F w mg fa _ KX G.T.g hmg
  exact law_call KX G.T.g G.T.b G.T.builtins G.T.nolimit hg hobj hints (Nat.le_trans hlen hn2) hr hF hb (fun H hO hS => hsp w H a ns hlen hO hS) fun H e s' => hCX w H s₁ e s'
end L2

/- THE LAST THEOREM (shape; LID, My.* are yours):
   My.Adr: a structure of the addresses that your layer names (classes, functions); My.Txt K t: a structure (Prop) of the equations over K;
   My.txt_mk : {K} {implicit addresses ..} (e1 : nsIn K mainGlobals "law" = some (some (.ref f))) (e2 : K.lookup f = some ⟨oc, od, .func (fnOf "law" "law" params body scope dV kV doc pm an cdv ct), sl⟩) (e3 : codeIn K cdv "law" = true) .. : ∃ t, My.Txt K t

set_option maxRecDepth 100000 in
set_option maxHeartbeats 0 in
theorem PySem.Challenge.cw_LID_holds : PySem.Challenge.rw_LID.Holds := by
  w_on; o_law; k_head; (case hw => w_witness2)
  k_fill
  refine L2.walk_of (l := PySem.Challenge.rw_LID) (n := 63) (k := 40) (x := "script") (CX := fun w => ..) (sp := fun _ => My.sp_law) rfl (by decide) rfl ⟨rfl, by decide, by decide⟩ (fun w h Y => PySem.W.kIn_of Y) ?F ?S ?C
  case F =>
    intro w mg fa h KX G hmg
    have T : ∃ t, My.Txt (L2.KOf KX) t := by
      dsimp only [L2.KOf]                          -- K must stand as «<heap const> w.params» for k_is
      refine' My.txt_mk ?e1 ?e2 ?e3 ..
      (case e1 => PySem.W.k_is)                    -- in the order: a name -> its address -> its object -> its parts
      (case e2 => PySem.W.k_is)
      ..
    obtain ⟨t, T⟩ := T
    have e0 := hmg.symm.trans (PySem.W.mg_of KX G T.law)
    cases e0                                       -- fa is the law's own address
    exact ⟨_, fun s u => .of_eq rfl, fun base kb nb => My.law_fn T kb nb⟩     -- if «.of_eq rfl» comes too early: refine' ⟨_, ?b, fun base kb nb => My.law_fn T kb nb⟩; exact fun s u => .of_eq rfl
  case S => exact fun w H a ns hl hO hS => ..
  case C => exact ..
(the tactic k_is has no namespace: write k_is) -/

/-! SHORT WORDS over the layer: a def of the text, its body, what a loop and a test want. -/
namespace L2
open PySem PySem.Spec PyProof.Rows

/-! ### the text by places -/
def defArgs (s : Stmt) : Arguments := match s with
  | .FunctionDef _ a _ _ _ _ _ _ _ _ => a
  | _ => { posonlyargs := [], args := [], vararg := none, kwonlyargs := [], kw_defaults := [], kwarg := none, defaults := [] }
def defBody (s : Stmt) : List Stmt := match s with
  | .FunctionDef _ _ b _ _ _ _ _ _ _ => b
  | _ => []
def defScope (s : Stmt) : Scope := match s with
  | .FunctionDef _ _ _ _ _ _ sc _ _ _ => sc
  | _ => { kind := .function, names := [], isGenerator := false, isCoroutine := false }

/-! ### no exception leaves a def -/
abbrev CX0 : CXT := fun _ _ _ _ _ _ => False
abbrev E0 : XK := fun _ _ _ => False
theorem pass0 {X : Cx} : Passes CX0 X E0 := fun _ _ _ _ _ _ _ h => h.elim

/-! ### a def (or method) of the text as it stands behind the top -/
structure Fun (K : PySem.W.Frag) (x qual : Str) (st : Stmt) (f : Addr) (fd : FuncData) : Prop where
  ex : ∃ (oc : Value) (od : Option Addr) (kV doc pm : Value) (an : Option Addr) (cdv ct : Value) (osl : Array (Option Value)),
    fd = PySem.W.fnOf x qual (defArgs st) (defBody st) (defScope st) .none kV doc pm an cdv ct ∧ K.lookup f = some ⟨oc, od, .func fd, osl⟩ ∧ PySem.W.codeIn K cdv qual = true
  kp : PySem.W.keepIn K (.ref f) = true
section
variable {P : Program} {w : World} {K : PySem.W.Frag} {mg : Str → Option Value} {base : Heap}
/-- THE RULE for a def: its body as a term of rules, and the reading of that term -/
theorem Fun.ok {x qual : Str} {st : Stmt} {f : Addr} {fd : FuncData} {N ps : List Str} {k : Nat} {sp : Sp} (F : Fun K x qual st f fd) (S : FnScope N ps (defScope st)) (len : ∀ vs H Q E, sp vs H Q E → vs.length = ps.length)
    (hbody : ∀ (cdv : Value) (A : Around) (outer : List Env) (s : Shared) (H : Hp) (vs : List V) (Q : VK) (E : XK), Room k (A.deeper (envOfC qual (defScope st) s.heap.objs.size f cdv)) → sp vs H Q E →
      ∃ t, PSs (cxOf CX0 P w K mg base N qual (defScope st) f cdv A outer s H E).nox (defBody st) t ∧ t { nx := fun _ H' => Q .non H', rt := Q } (start N vs) H) : FnOk P w K mg base CX0 (k + 1) f fd ps sp := by
  obtain ⟨oc, od, kV, doc, pm, an, cdv, ct, osl, rfl, lk, hcd⟩ := F.ex
  refine fn_of lk hcd S len fun A outer s H vs Q E hr hsp => ?_
  obtain ⟨t, h, q⟩ := hbody cdv A outer s H vs Q E hr hsp
  exact ⟨t, h.nox, q⟩
/-- how its arguments bind (no defaults): h is «fun _ _ _ _ _ _ us hl => match us, hl with | [_, _], _ => rfl», one _ a parameter -/
theorem Fun.binds {x qual : Str} {st : Stmt} {f : Addr} {fd : FuncData} {ps : List Str} (F : Fun K x qual st f fd)
    (h : ∀ (kV doc pm : Value) (an : Option Addr) (cdv ct : Value) (us : List Value), us.length = ps.length → bindArgs (PySem.W.fnOf x qual (defArgs st) (defBody st) (defScope st) .none kV doc pm an cdv ct) ⟨us, []⟩ = pure (ps.zip us)) : Binds K fd ps [] := by
  obtain ⟨oc, od, kV, doc, pm, an, cdv, ct, osl, rfl, lk, hcd⟩ := F.ex
  exact .all (h kV doc pm an cdv ct)
theorem fun_mk {x qual : Str} {st : Stmt} {f : Addr} {oc : Value} {od an : Option Addr} {osl : Array (Option Value)} {kV doc pm cdv ct : Value} (l : K.lookup f = some ⟨oc, od, .func (PySem.W.fnOf x qual (defArgs st) (defBody st) (defScope st) .none kV doc pm an cdv ct), osl⟩)
    (c : PySem.W.codeIn K cdv qual = true) (k : PySem.W.keepIn K (.ref f) = true) : Fun K x qual st f (PySem.W.fnOf x qual (defArgs st) (defBody st) (defScope st) .none kV doc pm an cdv ct) := ⟨⟨oc, od, kV, doc, pm, an, cdv, ct, osl, rfl, l, c⟩, k⟩
end
theorem small1000 {n : Nat} (h : n ≤ 1000) : n < sizeLine := Nat.lt_of_le_of_lt h (by decide)

/-! ### expressions in short: the name that stands in the i-th slot -/
section
variable {X : Cx}
theorem pv (i : Nat) {x : Str} {pos : Pos} (hN : X.N[i]? = some x := by rfl) (hv : Vis X.env.scope x := by first | exact Or.inl rfl | exact Or.inr (Or.inl rfl) | exact Or.inr (Or.inr rfl)) (hd : (x == ("__debug__" : Str)) = false := by decide)
    (hcd : (x == ("__classdict__" : Str)) = false := by decide) : PE X (.Name x pos) (tVar i) := pe_var hN hv hd hcd
end

/-! ### tests -/
theorem iteF {A B : Prop} (h : B) : if false = true then A else B := by
  rw [if_neg Bool.false_ne_true]
  exact h
theorem iteT {A B : Prop} (h : A) : if true = true then A else B := by
  rw [if_pos rfl]
  exact h
theorem ite2 {c A B : Prop} [Decidable c] (h1 : c → A) (h2 : ¬ c → B) : if c then A else B := by
  by_cases h : c
  · rw [if_pos h]
    exact h1 h
  · rw [if_neg h]
    exact h2 h
theorem iteNS {c A B : Prop} [Decidable c] (hc : c) (h : B) : if (!decide c) = true then A else B := by
  rw [decide_eq_true hc]
  exact iteF h

end L2

set_option maxRecDepth 100000
set_option maxHeartbeats 4000000
namespace L2
open PySem PySem.Spec PyProof.Rows

/-! ### heaps: what is tracked stays, but for the tables of code, which may grow -/
/-- what is known of a code object that a table names: it is a record with a name -/
def codeP (c : Addr) : Heap → Prop := fun h => ∃ (o : Obj) (vs : Array Value) (q : Str) (t : Nat), h.get? c = some o ∧ o.data = .fields vs ∧ vs[1]? = some (.str q t)
/-- a table of code: all that it names is tracked -/
def TabOk (H : Hp) (P : Addr) : Prop := ∃ ps : Array Value, H P = some (.tbl ps) ∧ TriplesOk ps.toList ∧ ∀ pos : Pos, codeAmong pos ps.toList = none ∨ ∃ c : Addr, codeAmong pos ps.toList = some (.ref c) ∧ H c = some (.ext (codeP c))
def Kp (H H' : Hp) (b : Addr) : HO → Prop
  | .tbl _ => (∃ ps, H' b = some (.tbl ps)) ∧ (TabOk H b → TabOk H' b)
  | o => H' b = some o
/-- all that was tracked is as it was; tables of code may have grown -/
def Same (H H' : Hp) : Prop := ∀ b o, H b = some o → Kp H H' b o
theorem Kp.of {H H' : Hp} {b : Addr} {o : HO} (h : H b = some o) (e : H' b = some o) (hc : ∀ c, H c = some (.ext (codeP c)) → H' c = some (.ext (codeP c))) : Kp H H' b o := by
  cases o
  case tbl ps =>
    refine ⟨⟨ps, e⟩, fun ⟨qs, hq, tr, hp⟩ => ?_⟩
    rw [h] at hq
    cases hq
    exact ⟨_, e, tr, fun pos => (hp pos).imp id fun ⟨c, z1, z2⟩ => ⟨c, z1, hc c z2⟩⟩
  all_goals exact e
theorem same_of {H H' : Hp} (h : ∀ b o, H b = some o → H' b = some o) : Same H H' := fun b o e => Kp.of e (h b o e) fun c z => h c _ z
theorem Same.refl (H : Hp) : Same H H := same_of fun _ _ h => h
theorem Same.trans {H H1 H2 : Hp} (a : Same H H1) (b : Same H1 H2) : Same H H2 := fun c o h => by
  have z := a c o h
  cases o
  case tbl ps =>
    obtain ⟨⟨qs, hq⟩, k⟩ := z
    obtain ⟨q2, k2⟩ := b c _ hq
    exact ⟨q2, fun t => k2 (k t)⟩
  all_goals exact b c _ z
theorem Kp.some {H H' : Hp} {b : Addr} {o : HO} (k : Kp H H' b o) : ∃ u, H' b = some u := by
  cases o
  case tbl ps => exact ⟨_, k.1.choose_spec⟩
  all_goals exact ⟨_, k⟩
theorem Same.free {H H' : Hp} (e : Same H H') {l : Addr} (h : H' l = Option.none) : H l = Option.none := by
  cases q : H l with
  | none => rfl
  | some o =>
    obtain ⟨u, z⟩ := (e l o q).some
    rw [z] at h
    cases h
theorem Same.seq {K : PySem.W.Frag} {H H' : Hp} {a : Addr} {xs : List V} (e : Same H H') (h : SqL K H a xs) : SqL K H' a xs := by
  rcases h with (h | ⟨o, h⟩) | h
  · exact .inl (.inl (e _ _ h))
  · exact .inl (.inr ⟨o, e _ _ h⟩)
  · exact .inr h
end L2

set_option maxRecDepth 100000
set_option maxHeartbeats 4000000
namespace L2
open PySem PySem.Spec PyProof.Rows

/-! ### A. List comprehensions of one clause -/
/-- a loop in the machine's monad whose every step is pure -/
theorem forIn_all {α β : Type} (g : α → β → β) {f : α → β → Sem (ForInStep β)} : ∀ (l : List α) (b : β), (∀ x ∈ l, ∀ c, f x c = pure (ForInStep.yield (g x c))) →
    forIn l b f = (pure (l.foldl (fun c x => g x c) b) : Sem β)
  | [], b, _ => by simp only [List.forIn_nil, List.foldl_nil]
  | x :: r, b, h => by
    rw [List.forIn_cons, h x List.mem_cons_self b, pure_bind]
    exact forIn_all g r (g x b) fun y hy c => h y (List.mem_cons_of_mem _ hy) c

/-- the cells that a block takes over from its def -/
def clOf (sc : Scope) (env : Env) : List (Str × Addr) :=
  sc.names.foldl (fun cs y => if (y.2 == NameKind.free) = true then (y.1, (env.cells.lookup y.1).getD 0) :: cs else cs) []
theorem clOf_eq {sc : Scope} {env : Env} (h : ∀ y ∈ sc.names, y.2 = .free → ∃ c, env.cells.lookup y.1 = some c) : closureFor sc env = pure (clOf sc env) := by
  simp only [closureFor]
  rw [forIn_all (fun (y : Str × NameKind) (cs : List (Str × Addr)) => if (y.2 == NameKind.free) = true then (y.1, (env.cells.lookup y.1).getD 0) :: cs else cs) sc.names [] (fun y hy c => by
    obtain ⟨n, k⟩ := y
    by_cases hk : k = .free
    · obtain ⟨a, ha⟩ := h _ hy hk
      subst hk
      simp only [cellOf, ha, beq_self_eq_true, if_true, pure_bind, Option.getD_some]
    · have z : (k == NameKind.free) = false := by simpa using hk
      simp only [z, Bool.false_eq_true, if_false])]
  rfl
theorem foldl_mem {α β : Type} {P : β → Prop} {g : α → List β → List β} : ∀ (l : List α) (b : List β), (∀ p ∈ b, P p) → (∀ x ∈ l, ∀ c, (∀ p ∈ c, P p) → ∀ p ∈ g x c, P p) → ∀ p ∈ l.foldl (fun c x => g x c) b, P p
  | [], b, hb, _ => hb
  | x :: r, b, hb, h => foldl_mem r (g x b) (h x List.mem_cons_self b hb) fun y hy => h y (List.mem_cons_of_mem _ hy)
theorem clOf_mem {sc : Scope} {env : Env} (h : ∀ y ∈ sc.names, y.2 = .free → ∃ c, env.cells.lookup y.1 = some c) : ∀ p ∈ clOf sc env, env.cells.lookup p.1 = some p.2 := by
  refine foldl_mem (P := fun p : Str × Addr => env.cells.lookup p.1 = some p.2) sc.names [] (fun _ z => nomatch z) fun y hy c hc p hp => ?_
  by_cases hk : y.2 = .free
  · have z : (y.2 == NameKind.free) = true := by simpa using hk
    rw [if_pos z] at hp
    rcases List.mem_cons.mp hp with e | hp
    · obtain ⟨a, ha⟩ := h y hy hk
      rw [e]
      show env.cells.lookup y.1 = some ((env.cells.lookup y.1).getD 0)
      rw [ha]
      rfl
    · exact hc p hp
  · have z : ¬ (y.2 == NameKind.free) = true := by simpa using hk
    rw [if_neg z] at hp
    exact hc p hp
theorem foldl_keep {α β : Type} {q : β} {g : α → List β → List β} (hg : ∀ x c, q ∈ c → q ∈ g x c) : ∀ (l : List α) (b : List β), q ∈ b → q ∈ l.foldl (fun c x => g x c) b
  | [], _, hb => hb
  | x :: r, b, hb => foldl_keep hg r (g x b) (hg x b hb)
theorem clOf_has {sc : Scope} {env : Env} {x : Str} {c : Addr} (hx : (x, NameKind.free) ∈ sc.names) (hc : env.cells.lookup x = some c) : (x, c) ∈ clOf sc env := by
  have kp : ∀ (y : Str × NameKind) (cs : List (Str × Addr)), (x, c) ∈ cs → (x, c) ∈ (if (y.2 == NameKind.free) = true then (y.1, (env.cells.lookup y.1).getD 0) :: cs else cs) := fun y cs h => by
    by_cases z : (y.2 == NameKind.free) = true
    · rw [if_pos z]
      exact List.mem_cons_of_mem _ h
    · rw [if_neg z]
      exact h
  unfold clOf
  obtain ⟨l1, l2, e⟩ := List.append_of_mem hx
  rw [e, List.foldl_append, List.foldl_cons]
  refine foldl_keep (g := fun (y : Str × NameKind) (cs : List (Str × Addr)) => if (y.2 == NameKind.free) = true then (y.1, (env.cells.lookup y.1).getD 0) :: cs else cs) kp l2 _ ?_
  rw [if_pos (by simp)]
  rw [hc]
  exact List.mem_cons_self
theorem lookup_some {β : Type} {x : Str} {b : β} : ∀ {l : List (Str × β)}, (x, b) ∈ l → ∃ c, l.lookup x = some c
  | [], h => nomatch h
  | (y, d) :: r, h => by
    by_cases e : x = y
    · subst e
      exact ⟨d, by rw [List.lookup_cons_self]⟩
    · have z : (x == y) = false := by simpa using e
      rcases List.mem_cons.mp h with q | q
      · cases q
        exact absurd rfl e
      · obtain ⟨c, hc⟩ := lookup_some q
        exact ⟨c, by rw [List.lookup_cons, z]; exact hc⟩
theorem clOf_look {sc : Scope} {env : Env} (h : ∀ y ∈ sc.names, y.2 = .free → ∃ c, env.cells.lookup y.1 = some c) {x : Str} {c : Addr} (e : (clOf sc env).lookup x = some c) : env.cells.lookup x = some c :=
  clOf_mem h _ (PySem.mem_of_lookup e)
theorem clOf_at {sc : Scope} {env : Env} (h : ∀ y ∈ sc.names, y.2 = .free → ∃ c, env.cells.lookup y.1 = some c) {x : Str} {c : Addr} (hx : (x, NameKind.free) ∈ sc.names) (hc : env.cells.lookup x = some c) : (clOf sc env).lookup x = some c := by
  obtain ⟨d, hd⟩ := lookup_some (clOf_has hx hc)
  have := clOf_look h hd
  rw [hc] at this
  cases this
  exact hd

/-- a block's scope as it is run, by its def's scope -/
def relS (sc sc0 : Scope) : Scope :=
  { sc with names := sc.names.map fun (n, k) => if (k == .free && sc0.kind == .function && sc0.names.lookup n == some .cell) then (n, .cell) else (n, k) }
/-- what a comprehension's table must be: n of its own names ahead in N', behind them the def's slots kp -/
def lcOk (sc0 sc : Scope) (XN N' : List Str) (n : Nat) (kp : List Nat) : Bool :=
  decide (sc.kind = .function) && sc.names.all (fun y => decide (y.2 ≠ .cell)) && sc.names.all (fun y => decide (y.2 = .local → sc.names.lookup y.1 = some .local)) &&
  sc.names.all (fun y => decide (y.2 = .free → sc0.names.lookup y.1 = some .cell)) && decide (N'.length = n + kp.length) &&
  (List.range kp.length).all (fun i => match N'[n + i]?, kp[i]? with
    | some x, some j => decide (XN[j]? = some x ∧ (x, NameKind.free) ∈ sc.names ∧ ((relS sc sc0).names.lookup x = some .cell ∨ (relS sc sc0).names.lookup x = some .free))
    | _, _ => false)
theorem lcOk_parts {sc0 sc : Scope} {XN N' : List Str} {n : Nat} {kp : List Nat} (h : lcOk sc0 sc XN N' n kp = true) :
    sc.kind = .function ∧ (∀ y ∈ sc.names, y.2 ≠ .cell) ∧ (∀ y ∈ sc.names, y.2 = .local → sc.names.lookup y.1 = some .local) ∧ (∀ y ∈ sc.names, y.2 = .free → sc0.names.lookup y.1 = some .cell) ∧ N'.length = n + kp.length ∧
    ∀ (i : Nat) (x : Str), N'[n + i]? = some x → ∃ j, kp[i]? = some j ∧ XN[j]? = some x ∧ (x, NameKind.free) ∈ sc.names ∧ ((relS sc sc0).names.lookup x = some .cell ∨ (relS sc sc0).names.lookup x = some .free) := by
  unfold lcOk at h
  simp only [Bool.and_eq_true, List.all_eq_true, decide_eq_true_eq] at h
  obtain ⟨⟨⟨⟨⟨h1, h2⟩, h3⟩, h4⟩, h5⟩, h6⟩ := h
  refine ⟨h1, h2, h3, h4, h5, fun i x hx => ?_⟩
  have hi : i < kp.length := by
    have := (List.getElem?_eq_some_iff.mp hx).1
    omega
  have q := h6 i (List.mem_range.mpr hi)
  rw [hx, List.getElem?_eq_getElem hi] at q
  exact ⟨kp[i], List.getElem?_eq_getElem hi, of_decide_eq_true q⟩

abbrev NoX : Value → Shared → Prop := fun _ _ => False
/-- a comprehension's block running, in the context of its def -/
def blk (X : Cx) (N' : List Str) (sc : Scope) (C : Addr) (fp : List Addr) (pins : List (Addr × Obj)) (s : Shared) (H : Hp) : Cx :=
  { X with N := N', s₀ := s, H₀ := H, env := compEnvC sc (clOf sc X.env) C X.env, outer := X.stack, stack := X.stack, ex := fp, fn := fun _ => false, pn := X.pn ++ pins, xe := NoX }
/-- the tests of a clause, one behind another -/
abbrev lcIfs (cs : List Expr) (env : Env) : Sem Bool := forIn cs true fun c r => if r = true then do let ok ← isTrue c env (eval c env); pure (ForInStep.yield ok) else pure (ForInStep.yield r)
def PTs (X : Cx) (cs : List Expr) (t : TT) : Prop :=
  ∀ (pins : List (Addr × Obj)) (s : Shared) (σ : St) (H : Hp) (Q : Bool → Hp → Prop), Inv X pins σ H s → t σ H Q → wpAny (model X.prog X.w) X.A (lcIfs cs X.env) (TP X pins σ Q) X.xe s
def tNoT : TT := fun _ H Q => Q true H
theorem pts_nil {X : Cx} : PTs X [] tNoT := fun _ _ _ H _ I h => wpAny_tests_nil ⟨H, I, h⟩
theorem pts_one {X : Cx} {c : Expr} {t : TT} (hc : PT X c t) : PTs X [c] t := fun pins s σ H Q I h => wpAny_tests_one (hc pins s σ H Q I h)

theorem lc_loop {prog : Program} {w : World} {A : Around} {R : Result → Shared → Prop} {elt tg iter : Expr} {cs : List Expr} {sc : Scope} {pos : Pos} {it acc : Value} {env : Env} (J : Nat → Shared → Prop)
    (turn : ∀ n s, J n s → wpAny (model prog w) A (pyNext it) (fun r s1 => match r with
      | none => R (.ok .next) s1
      | some v => wpAny (model prog w) A (letOwnedTupleGo tg it v) (fun _ s2 => wpAny (model prog w) A (assign tg env v) (fun _ s3 => wpAny (model prog w) A (lcIfs cs env) (fun ok s4 =>
          if ok = true then wpAny (model prog w) A (eval elt env) (fun x s5 => wpAny (model prog w) A (call (.builtin "list.append") [acc, x]) (fun _ s6 => ∃ m, m < n ∧ J m s6) NoX s5) NoX s4
          else ∃ m, m < n ∧ J m s4) NoX s3) NoX s2) NoX s1) NoX s)
    (n : Nat) (s : Shared) (h : J n s) : codeAny (model prog w) A (.compLoop (.ListComp elt [⟨tg, iter, cs, 0⟩] sc pos) 0 it acc env) R s := by
  refine codeAny_loop rfl J (fun n s hJ => ?_) n h
  show wpAny _ A ((compTurn (.ListComp elt [⟨tg, iter, cs, 0⟩] sc pos) 0 it acc env).onRaise (fun x => do noteFrame x env; theTreesLotGoes x)) _ _ s
  refine wpAny_noted ?_
  rw [compTurn_list]
  have no : ∀ {E : Value → Shared → Prop} (e : Value) (z : Shared), NoX e z → E e z := fun _ _ f => f.elim
  refine wpAny_bind (wpAny_standAt (wpAny_bind (wpAny_mono (turn n s hJ) (fun r s1 h1 => ?_) no)))
  cases r with
  | none => exact wpAny_pure h1
  | some v =>
    refine wpAny_bind (wpAny_mono h1 (fun _ s2 h2 => ?_) no)
    refine wpAny_bind (wpAny_mono h2 (fun _ s3 h3 => ?_) no)
    refine wpAny_bind (wpAny_mono h3 (fun ok s4 h4 => ?_) no)
    cases ok with
    | false => exact wpAny_pure ⟨rfl, h4⟩
    | true =>
      exact wpAny_bind (wpAny_bind (wpAny_mono h4 (fun x s5 h5 => wpAny_bind (wpAny_mono h5 (fun _ s6 h6 => wpAny_pure (wpAny_pure ⟨rfl, h6⟩)) no)) no))

/-- a comprehension from its iterator on: W is the invariant, by the turn, a measure, the list so far, the block's slots, the heap -/
def lcGo (J : It) (g : TG) (tc : TT) (te : TE) (σ0 : St) (H1 : Hp) (Q : VK) : Prop := ∃ W : Nat → Nat → List V → St → Hp → Prop,
  (∃ m, W 0 m [] σ0 H1) ∧ ∀ i m ys σ' H', W i m ys σ' H' → ys.length ≤ sizeLine ∧
    ((J.stop i H' ∧ ∀ p, H' p = none → Q (.ref p) (upd H' p (.lst ys))) ∨
     (J.go i H' ∧ ∃ N : List V → St → Hp → Prop, (∀ ys' σ2 H2, N ys' σ2 H2 → ∃ m', m' < m ∧ W (i + 1) m' ys' σ2 H2) ∧ ∀ x H2, J.yld i H' x H2 → g x σ' H2 fun σ3 H3 => tc σ3 H3 fun b H4 =>
       if b = true then te σ3 H4 fun v H5 => N (ys ++ [v]) σ3 H5 else N ys σ3 H4))
/-- the reading of a comprehension -/
def tLc (n : Nat) (kp : List Nat) (wi : TI) (g : TG) (tc : TT) (te : TE) : TE := fun σ H Q => wi σ H fun J H1 => lcGo J g tc te (List.replicate n none ++ kp.map fun j => (σ[j]?).join) H1 Q

/-- a comprehension over a range, by what holds at each turn -/
theorem lc_range {lo : Int} {k : Nat} {σ0 : St} {H : Hp} {g : TG} {tc : TT} {te : TE} {Q : VK} (Pv : Nat → List V → St → Hp → Prop) (h0 : Pv 0 [] σ0 H) (hz : ∀ i ys σ H, i ≤ k → Pv i ys σ H → ys.length ≤ sizeLine)
    (hs : ∀ i ys σ H, i < k → Pv i ys σ H → g (.int (lo + i)) σ H fun σ3 H3 => tc σ3 H3 fun b H4 => if b = true then te σ3 H4 fun v H5 => Pv (i + 1) (ys ++ [v]) σ3 H5 else Pv (i + 1) ys σ3 H4)
    (hd : ∀ ys σ H, Pv k ys σ H → ∀ p, H p = none → Q (.ref p) (upd H p (.lst ys))) :
    lcGo (Itr lo k) g tc te σ0 H Q := by
  refine ⟨fun i m ys σ H => m = k - i ∧ i ≤ k ∧ Pv i ys σ H, ⟨k, by simp, Nat.zero_le _, h0⟩, ?_⟩
  rintro i m ys σ H ⟨rfl, hi, p⟩
  refine ⟨hz i ys σ H hi p, ?_⟩
  by_cases hlt : i < k
  · refine .inr ⟨hlt, Pv (i + 1), fun ys' σ' H' p' => ⟨k - (i + 1), by omega, rfl, hlt, p'⟩, fun x H' y => ?_⟩
    obtain ⟨e1, e2⟩ := y
    subst e1
    subst e2
    exact hs i ys σ _ hlt p
  · have e : i = k := by omega
    subst e
    exact .inl ⟨Nat.le_refl _, hd ys σ H p⟩
/-- .. over a list that stays as it is -/
theorem lc_list {K : PySem.W.Frag} {a : Addr} {xs : List V} {σ0 : St} {H : Hp} {g : TG} {tc : TT} {te : TE} {Q : VK} (Pv : Nat → List V → St → Hp → Prop) (h0 : Pv 0 [] σ0 H) (hz : ∀ i ys σ H, i ≤ xs.length → Pv i ys σ H → ys.length ≤ sizeLine)
    (hl : ∀ i ys σ H, i ≤ xs.length → Pv i ys σ H → SqL K H a xs)
    (hs : ∀ i x ys σ H, xs[i]? = some x → Pv i ys σ H → g x σ H fun σ3 H3 => tc σ3 H3 fun b H4 => if b = true then te σ3 H4 fun v H5 => Pv (i + 1) (ys ++ [v]) σ3 H5 else Pv (i + 1) ys σ3 H4)
    (hd : ∀ ys σ H, Pv xs.length ys σ H → ∀ p, H p = none → Q (.ref p) (upd H p (.lst ys))) :
    lcGo (Itl K a) g tc te σ0 H Q := by
  refine ⟨fun i m ys σ H => m = xs.length - i ∧ i ≤ xs.length ∧ Pv i ys σ H, ⟨xs.length, by simp, Nat.zero_le _, h0⟩, ?_⟩
  rintro i m ys σ H ⟨rfl, hi, p⟩
  refine ⟨hz i ys σ H hi p, ?_⟩
  have q := hl i ys σ H hi p
  by_cases hlt : i < xs.length
  · refine .inr ⟨⟨xs, xs[i], q, by simp [hlt]⟩, Pv (i + 1), fun ys' σ' H' p' => ⟨xs.length - (i + 1), by omega, rfl, hlt, p'⟩, fun x H' y => ?_⟩
    obtain ⟨e, y⟩ := y
    subst e
    exact hs i x ys σ _ (y xs q) p
  · have e : i = xs.length := by omega
    subst e
    exact .inl ⟨⟨xs, q, Nat.le_refl _⟩, hd ys σ H p⟩

/-- .. over a tuple that stays as it is -/
theorem lc_tup {K : PySem.W.Frag} {a : Addr} {xs : List V} {σ0 : St} {H : Hp} {g : TG} {tc : TT} {te : TE} {Q : VK} (Pv : Nat → List V → St → Hp → Prop) (h0 : Pv 0 [] σ0 H) (hz : ∀ i ys σ H, i ≤ xs.length → Pv i ys σ H → ys.length ≤ sizeLine)
    (hl : ∀ i ys σ H, i ≤ xs.length → Pv i ys σ H → SqT K H a xs)
    (hs : ∀ i x ys σ H, xs[i]? = some x → Pv i ys σ H → g x σ H fun σ3 H3 => tc σ3 H3 fun b H4 => if b = true then te σ3 H4 fun v H5 => Pv (i + 1) (ys ++ [v]) σ3 H5 else Pv (i + 1) ys σ3 H4)
    (hd : ∀ ys σ H, Pv xs.length ys σ H → ∀ p, H p = none → Q (.ref p) (upd H p (.lst ys))) :
    lcGo (Itt K a) g tc te σ0 H Q := by
  refine ⟨fun i m ys σ H => m = xs.length - i ∧ i ≤ xs.length ∧ Pv i ys σ H, ⟨xs.length, by simp, Nat.zero_le _, h0⟩, ?_⟩
  rintro i m ys σ H ⟨rfl, hi, p⟩
  refine ⟨hz i ys σ H hi p, ?_⟩
  have q := hl i ys σ H hi p
  by_cases hlt : i < xs.length
  · refine .inr ⟨⟨xs, xs[i], q, by simp [hlt]⟩, Pv (i + 1), fun ys' σ' H' p' => ⟨xs.length - (i + 1), by omega, rfl, hlt, p'⟩, fun x H' y => ?_⟩
    obtain ⟨e, y⟩ := y
    subst e
    exact hs i x ys σ _ (y xs q) p
  · have e : i = xs.length := by omega
    subst e
    exact .inl ⟨⟨xs, q, Nat.le_refl _⟩, hd ys σ H p⟩

section
variable {X : Cx} {tg iter elt : Expr} {cs : List Expr} {sc sc0 : Scope} {pos : Pos} {wi : TI} {g : TG} {tc : TT} {te : TE} {XN N' : List Str} {n : Nat} {kp : List Nat}

theorem blk_ok {pins : List (Addr × Obj)} {σ : St} {H : Hp} {s : Shared} {fp : List Addr} {C : Addr} (I : Inv X pins σ H s) (hk : sc.kind = .function) (hcell : ∀ y ∈ sc.names, y.2 ≠ .cell)
    (hfr : ∀ y ∈ sc.names, y.2 = .free → ∃ c, X.env.cells.lookup y.1 = some c) (hf : ∀ b ∈ fp, FpOk X pins H b) (hl : ∀ b ∈ fp, b < s.heap.objs.size) (hC : s.heap.objs.size ≤ C) : (blk X N' sc C fp pins s H).Ok where
  mod := I.ok.mod
  kind := hk
  glob := I.ok.glob
  blt := I.ok.blt
  above := hC
  inj := fun x y c h1 h2 => I.ok.inj x y c (clOf_look hfr h1) (clOf_look hfr h2)
  has := fun x hx => by
    have q : ∃ k, (x, k) ∈ sc.names ∧ k = .free := by
      have hx' : (relS sc X.env.scope).names.lookup x = some .cell ∨ (relS sc X.env.scope).names.lookup x = some .free := hx
      have go : ∀ k, (relS sc X.env.scope).names.lookup x = some k → (k = .cell ∨ k = .free) → (x, NameKind.free) ∈ sc.names := fun k e hk' => by
        have hm := PySem.mem_of_lookup e
        obtain ⟨⟨y, ky⟩, hy, ey⟩ := List.mem_map.mp hm
        dsimp only at ey
        split at ey
        · rename_i hc
          cases ey
          have z : ky = .free := by
            simp only [Bool.and_eq_true] at hc
            simpa using hc.1.1
          subst z
          exact hy
        · cases ey
          rcases hk' with z | z
          · exact absurd z (hcell _ hy)
          · subst z
            exact hy
      rcases hx' with e | e
      · exact ⟨_, go _ e (.inl rfl), rfl⟩
      · exact ⟨_, go _ e (.inr rfl), rfl⟩
    obtain ⟨k, hm, rfl⟩ := q
    obtain ⟨c, hc⟩ := hfr _ hm rfl
    exact ⟨c, clOf_at hfr hm hc⟩
  cab := fun x c h => absurd h (by simp [blk])
  hd := I.ok.hd
  frames := I.ok.frames
  stk := .inl rfl
  exf := fun b hb => ⟨Nat.ne_of_lt (Nat.lt_of_lt_of_le (hl b hb) hC), fun x c e => (hf b hb).2.2.2.2.1 x c (clOf_look hfr e)⟩
  bs := I.bs
  bsz := Nat.le_trans I.ok.bsz I.sz
  noex := fun b o e hb => by
    rcases (hf b hb).2.2.2.1 with z | z
    · exact I.ok.noex b o e z
    · exact absurd (Nat.lt_of_lt_of_le (Heap.lt_size e) (Nat.le_trans I.ok.bsz z)) (Nat.lt_irrefl _)
  exfs := fun b hb z => by
    rcases List.mem_cons.mp (I.stkSub b z) with q | q
    · exact (hf b hb).2.1 q
    · exact (hf b hb).2.2.1 q
  funs := I.stack
  frf := I.stkFree
end
end L2

set_option maxRecDepth 100000
set_option maxHeartbeats 4000000
namespace L2
open PySem PySem.Spec PyProof.Rows
section
variable {X : Cx} {tg iter elt : Expr} {cs : List Expr} {sc sc0 : Scope} {pos : Pos} {wi : TI} {g : TG} {tc : TT} {te : TE} {XN N' : List Str} {n : Nat} {kp : List Nat}

theorem blk_start {pins : List (Addr × Obj)} {σ : St} {H : Hp} {s : Shared} {fp : List Addr} {C : Addr} {h1 : Heap} {tk : Nat} {m : Str → Option Value} (I : Inv X pins σ H s) (h0 : X.env.scope = sc0) (hN : X.N = XN) (ok : lcOk sc0 sc XN N' n kp = true)
    (hf : ∀ b ∈ fp, FpOk X pins H b) (hl : ∀ b ∈ fp, b < s.heap.objs.size) (hC : s.heap.objs.size ≤ C) (old : ∀ b o, s.heap.get? b = some o → h1.get? b = some o) (ns : h1.Ns C m) :
    Inv (blk X N' sc C fp pins s H) [] (List.replicate n none ++ kp.map fun j => (σ[j]?).join) H { s with heap := h1, toks := tk } := by
  obtain ⟨o1, o2, o3, o4, o5, o6⟩ := lcOk_parts ok
  subst h0
  subst hN
  have hfr : ∀ y ∈ sc.names, y.2 = .free → ∃ c, X.env.cells.lookup y.1 = some c := fun y hy e => I.ok.has y.1 (.inl (o4 y hy e))
  have below : ∀ b, b < s.heap.objs.size → b ≠ C := fun b hb => Nat.ne_of_lt (Nat.lt_of_lt_of_le hb hC)
  refine ⟨blk_ok I o1 o2 hfr hf hl hC, rfl, I.bare, Un.kept old, ⟨m, ns, fun i x v e1 e2 e3 => ?_⟩, fun x c e => ?_, I.hok.fresh hC, fun x c e => ?_, fun p hp => ?_, I.hok.kept old, ?_⟩
  · have hi : n ≤ i := by
      by_cases z : n ≤ i
      · exact z
      · rw [List.getElem?_append_left (by rw [List.length_replicate]; omega), List.getElem?_replicate] at e2
        split at e2 <;> cases e2
    obtain ⟨j, rfl⟩ : ∃ j, i = n + j := ⟨i - n, by omega⟩
    obtain ⟨q, hq, hx, hm, hkd⟩ := o6 j x e1
    rw [List.getElem?_append_right (by rw [List.length_replicate]; omega), List.length_replicate, Nat.add_sub_cancel_left, List.getElem?_map, hq] at e2
    have e4 : (σ[q]?).join = some v := Option.some.inj e2
    have e2' : σ[q]? = some (some v) := by
      cases z : σ[q]? with
      | none => rw [z] at e4; cases e4
      | some w => rw [z] at e4; cases e4; rfl
    obtain ⟨c, hc⟩ := hfr _ hm rfl
    have kx : X.env.kindOf x = some .cell := o4 _ hm rfl
    obtain ⟨m', hn', hl'⟩ := I.loc
    obtain ⟨u, r, lk⟩ := hl' q x v hx e2' (.inr (.inl kx))
    refine ⟨u, r, .inr ⟨hkd, c, clOf_at hfr hm hc, ?_⟩⟩
    rcases lk with ⟨k, _⟩ | ⟨_, c', hc', hv⟩
    · rw [kx] at k
      cases k
    · rw [hc] at hc'
      cases hc'
      exact hv.keeps old
  · obtain ⟨v, hv⟩ := I.cell x c (clOf_look hfr e)
    exact ⟨v, hv.keeps old⟩
  · exact I.freeC x c (clOf_look hfr e)
  · have hp' : p ∈ X.pn ++ pins := by
      have : p ∈ (X.pn ++ pins) ++ ([] : List (Addr × Obj)) := hp
      rw [List.append_nil] at this
      exact this
    obtain ⟨q1, q2, q3, q4, q5⟩ := I.pin p hp'
    refine ⟨old _ _ q1, q2, below _ (Heap.lt_size q1), fun z => ?_, q5⟩
    rcases List.mem_cons.mp (I.stkSub _ z) with r | r
    · exact q3 r
    · exact q4 r
  · show (List.replicate n none ++ kp.map fun j => (σ[j]?).join).length = N'.length
    rw [List.length_append, List.length_replicate, List.length_map, o5]

/-- the run of a comprehension up to its end; what comes then is asked by fin -/
theorem lc_run {pins : List (Addr × Obj)} {s : Shared} {σ : St} {H : Hp} {Q : VK} {use : Option (Value → Sem Unit)} {Qf : Value → Shared → Prop} (hc : X.calm = true) (hi : PI X tg iter wi) (h0 : X.env.scope = sc0) (hN : X.N = XN) (ok : lcOk sc0 sc XN N' n kp = true)
    (hg : ∀ C fp pins s H, PG (blk X N' sc C fp pins s H) tg g) (ht : ∀ C fp pins s H, PTs (blk X N' sc C fp pins s H) cs tc) (he : ∀ C fp pins s H, PE (blk X N' sc C fp pins s H) elt te) (hs : ∀ x, foldedSetIterable iter X.env x = pure x)
    (I : Inv X pins σ H s) (h : tLc n kp wi g tc te σ H Q)
    (fin : ∀ D C ys H' s', Inv X pins σ (upd H' D (.lst ys)) s' → (∃ m, s'.heap.Ns C m) → FpOk X pins (upd H' D (.lst ys)) C → Q (.ref D) (upd H' D (.lst ys)) → compPost (model X.prog X.w) X.A X.xe use Qf (.ref D) C (.ok .next) s') {pos' : Pos} :
    wpAny (model X.prog X.w) X.A (comprehension (.ListComp elt [⟨tg, iter, cs, 0⟩] sc pos) sc X.env pos' (newList []) false (firstIter [⟨tg, iter, cs, 0⟩] X.env) use) Qf X.xe s := by
  obtain ⟨o1, o2, o3, o4, o5, o6⟩ := lcOk_parts ok
  have hfr : ∀ y ∈ sc.names, y.2 = .free → ∃ c, X.env.cells.lookup y.1 = some c := fun y hy e => I.ok.has y.1 (.inl (by rw [Env.kindOf, h0]; exact o4 y hy e))
  refine wpAny_comprehension_free (use := use) rfl hs (clOf_eq hfr) o1 o3 (thn (hi pins s σ H _ I h) fun v s1 h1 => thn h1 fun itv s2 h2 => ?_)
  obtain ⟨it, fp, tn, J, H2, rfl, I2, T, st2, f2, W, ⟨m0, w0⟩, turn⟩ := h2
  have hl : ∀ b ∈ fp, b < s2.heap.objs.size := fun b hb => by
    obtain ⟨o, e, _⟩ := T.obj 0 _ st2 b hb
    exact Heap.lt_size e
  refine wpAny_newObj_type (wpAny_newFunctionEnv o2 (by intro y hy; simp at hy) (fun h1 ns1 sb1 => ?_) o1)
  dsimp only at ns1 sb1 ⊢
  generalize hG : s2.heap.push { cls := .type "list", dict := none, data := .seq ([] : List Value).toArray } = G at ns1 sb1 ⊢
  have hGs : G.objs.size = s2.heap.objs.size + 1 := by rw [← hG, Heap.size_push]
  have hCl : s2.heap.objs.size ≤ G.objs.size := by omega
  have hDC : s2.heap.objs.size ≠ G.objs.size := by omega
  have old : ∀ b o, s2.heap.get? b = some o → h1.get? b = some o := fun b o e => by
    have lt := Heap.lt_size e
    exact sb1.extBut b o (Nat.ne_of_lt (Nat.lt_of_lt_of_le lt hCl)) (Heap.get?_push_of_some _ (hG ▸ Heap.get?_push_of_some _ e))
  have hD1 : h1.get? s2.heap.objs.size = some { cls := .type "list", data := .seq ([] : List Value).toArray 0 } :=
    sb1.extBut _ _ hDC (Heap.get?_push_of_some _ (hG ▸ Heap.get?_push_size _ rfl))
  have nD2 : H2 s2.heap.objs.size = none := I2.hok.fresh (Nat.le_refl _)
  have nC2 : H2 G.objs.size = none := I2.hok.fresh hCl
  -- the loop from any state that the block may begin with
  have loop : ∀ s3 : Shared, s3 = { s2 with heap := h1, toks := s2.toks + ([] : List (Str × Value)).length } →
      codeAny (model X.prog X.w) X.A (.compLoop (.ListComp elt [⟨tg, iter, cs, 0⟩] sc pos) 0 (.ref it) (.ref s2.heap.objs.size) (compEnvC sc (clOf sc X.env) G.objs.size X.env))
        (compPost (model X.prog X.w) X.A X.xe use Qf (.ref s2.heap.objs.size) G.objs.size) s3 := by
    rintro s3 rfl
    have I3 := blk_start (fp := fp) (C := G.objs.size) (h1 := h1) (tk := s2.toks + ([] : List (Str × Value)).length) I2 h0 hN ok f2 hl hCl old ns1
    have stat : ∀ {H' : Hp} {o : Obj}, (∀ b ∈ fp, H' b = none) → ∀ b ∈ fp, FpOk (blk X N' sc G.objs.size fp pins s2 H2) [(s2.heap.objs.size, o)] H' b := fun hn b hb => by
      have lt := hl b hb
      refine ⟨hn b hb, Nat.ne_of_lt (Nat.lt_of_lt_of_le lt hCl), I3.ok.exfs b hb, .inl hb, (I3.ok.exf b hb).2, fun p hp => ?_⟩
      rcases List.mem_append.mp hp with z | z
      · exact (f2 b hb).2.2.2.2.2 p z
      · have e : p.1 = s2.heap.objs.size := by rw [List.mem_singleton.mp z]
        rw [e]
        exact Nat.ne_of_gt lt
    have pinD : ∀ {σ' : St} {H' : Hp} {s' : Shared} {o : Obj}, Inv (blk X N' sc G.objs.size fp pins s2 H2) [] σ' H' s' → s'.heap.get? s2.heap.objs.size = some o → (∀ v, o.data ≠ .cell v) → H' s2.heap.objs.size = none →
        Inv (blk X N' sc G.objs.size fp pins s2 H2) [(s2.heap.objs.size, o)] σ' H' s' := fun {σ' H' s' o} J' e hd hn => J'.pins_of fun p hp => by
      rw [List.mem_singleton.mp hp]
      exact ⟨e, hn, hDC, fun z => by
        rcases List.mem_cons.mp (I2.stkSub _ z) with r | r
        · exact absurd I2.lt (by rw [← r]; exact Nat.lt_irrefl _)
        · exact I2.nofs (Nat.le_refl _) r, hd⟩
    refine lc_loop (fun k s' => ∃ (i : Nat) (ys : List V) (its : List Value) (c : Nat) (σ' : St) (H' : Hp), Inv (blk X N' sc G.objs.size fp pins s2 H2) [] σ' H' s' ∧ tn i s'.heap ∧ (∀ b ∈ fp, H' b = none) ∧
      s'.heap.get? s2.heap.objs.size = some { cls := .type "list", data := .seq its.toArray c } ∧ Vals ys its ∧ H' s2.heap.objs.size = none ∧ W i k ys σ' H') ?_ m0 _
      ⟨0, [], [], 0, _, H2, I3, T.keep _ _ _ st2 fun b _ o e => old b o e, fun b hb => (f2 b hb).1, hD1, .nil, nD2, w0⟩
    rintro k s' ⟨i, ys, its, c, σ', H', I', st', fr', hD', hv, nD, w'⟩
    obtain ⟨hz, cases⟩ := turn i k ys σ' H' w'
    have I'' := pinD I' hD' (fun v => by intro z; cases z) nD
    rcases cases with ⟨stop, q⟩ | ⟨go, N, hN2, step⟩
    · refine thn (T.done (blk X N' sc G.objs.size fp pins s2 H2) rfl rfl rfl hc i _ s' σ' H' NoX I'' (stat fr') st' stop) fun r s4 ⟨hr, I4⟩ => ?_
      subst hr
      obtain ⟨e4, n4, _⟩ := I4.pin (s2.heap.objs.size, { cls := .type "list", data := .seq its.toArray c }) (List.mem_append_right _ (List.mem_singleton.mpr rfl))
      have u4 : Un (frs X.stack) fp H2 H' s2.heap s4.heap := I4.base
      have nC4 : H' G.objs.size = none := I4.free
      obtain ⟨m4, ns4, _⟩ := I4.loc
      have neD : ∀ b o, s2.heap.get? b = some o → b ≠ s2.heap.objs.size := fun b o e => Nat.ne_of_lt (Heap.lt_size e)
      have u5 : Un (frs X.stack) fp H2 (upd H' s2.heap.objs.size (.lst ys)) s2.heap s4.heap :=
        ⟨u4.keep, u4.slot, fun b o e nb hx => by rw [upd_ne (neD b o e)]; exact u4.free b o e nb hx, u4.there, fun b xs e => by rw [upd_ne (ne_of_none e nD2)]; exact u4.tups b xs e,
          fun b o u e => by rw [upd_ne (ne_of_none e nD2)]; exact u4.frzs b o u e, fun b ps e => by rw [upd_ne (ne_of_none e nD2)]; exact u4.tbls b ps e⟩
      have hok5 : HOk X.prog X.w (upd H' s2.heap.objs.size (.lst ys)) s4.heap := fun a o e => by
        by_cases ea : a = s2.heap.objs.size
        · subst ea
          rw [upd_same] at e
          cases e
          exact ⟨hz, its, c, hv, e4⟩
        · rw [upd_ne ea] at e
          exact (I4.hok a o e).stay (fun _ _ _ q => q) (fun b q => by rw [upd_ne (ne_of_none q nD)]; exact q) fun b xs q => by rw [upd_ne (ne_of_none q nD)]; exact q
      have I5 : Inv X pins σ (upd H' s2.heap.objs.size (.lst ys)) s4 := I2.call' I4.os u5 hok5 I4.bare fun b hb => ⟨(f2 b hb).2.2.2.1, (f2 b hb).2.1, (f2 b hb).2.2.2.2.1, (f2 b hb).2.2.2.2.2⟩
      refine fin _ _ ys H' s4 I5 ⟨m4, ns4⟩ (I2.fpOk hCl ?_) (q _ nD)
      rw [upd_ne (Ne.symm hDC)]
      exact nC4
    · refine thn (T.item (blk X N' sc G.objs.size fp pins s2 H2) rfl rfl rfl hc i _ s' σ' H' NoX I'' (stat fr') st' go) fun r s4 ⟨u, hr, h4⟩ => ?_
      subst hr
      refine thn h4 fun _ s5 ⟨x, H5, I5, r5, y5, st5, fr5⟩ => ?_
      have I5' := I5.pinned (stat fr5) (T.obj _ _ st5)
      refine thn (hg _ _ _ _ _ _ s5 σ' H5 x u _ I5' r5 (step x H5 y5)) fun _ s6 ⟨σ6, H6, I6, q6⟩ => ?_
      refine thn (ht _ _ _ _ _ _ s6 σ6 H6 _ I6 q6) fun b s7 ⟨H7, I7, q7⟩ => ?_
      have back : ∀ {s8 : Shared} {H8 : Hp} (m' : Nat), Inv (blk X N' sc G.objs.size fp pins s2 H2) ([(s2.heap.objs.size, { cls := .type "list", data := .seq its.toArray c })] ++ pinsAt fp s5.heap) σ6 H8 s8 →
          tn (i + 1) s8.heap ∧ (∀ b ∈ fp, H8 b = none) ∧ s8.heap.get? s2.heap.objs.size = some { cls := .type "list", data := .seq its.toArray c } ∧ H8 s2.heap.objs.size = none := fun {s8 H8} m' I8 => by
        have pn : ∀ p ∈ [(s2.heap.objs.size, ({ cls := .type "list", data := .seq its.toArray c } : Obj))] ++ pinsAt fp s5.heap, s8.heap.get? p.1 = some p.2 ∧ H8 p.1 = none := fun p hp =>
          let ⟨a, b, _⟩ := I8.pin p (List.mem_append_right _ hp); ⟨a, b⟩
        refine ⟨T.keep _ _ _ st5 fun b hb o e => (pn (b, o) (List.mem_append_right _ (mem_pinsAt hb e))).1, fun b hb => ?_, pn _ (List.mem_append_left _ (List.mem_singleton.mpr rfl))⟩
        obtain ⟨o, e, _⟩ := T.obj _ _ st5 b hb
        exact (pn (b, o) (List.mem_append_right _ (mem_pinsAt hb e))).2
      have bare : ∀ {s8 : Shared} {H8 : Hp} {pl : List (Addr × Obj)}, Inv (blk X N' sc G.objs.size fp pins s2 H2) pl σ6 H8 s8 → Inv (blk X N' sc G.objs.size fp pins s2 H2) [] σ6 H8 s8 := fun I8 => I8.pins_of fun p hp => nomatch hp
      cases b with
      | false =>
        rw [if_neg Bool.false_ne_true] at q7 ⊢
        obtain ⟨m', lt, w7⟩ := hN2 _ _ _ q7
        obtain ⟨b1, b2, b3, b4⟩ := back m' I7
        exact ⟨m', lt, i + 1, ys, its, c, σ6, H7, bare I7, b1, b2, b3, hv, b4, w7⟩
      | true =>
        rw [if_pos rfl] at q7 ⊢
        refine thn (he _ _ _ _ _ _ s7 σ6 H7 _ I7 q7) fun y s8 ⟨yv, H8, I8, r8, q8⟩ => ?_
        obtain ⟨m', lt, w8⟩ := hN2 _ _ _ q8
        obtain ⟨b1, b2, b3, b4⟩ := back m' I8
        have hlen := hv.length
        refine append_at (hsz := by rw [List.size_toArray, ← hlen]; exact hz) b3 fun h9 sb9 e9 => ?_
        have I9 : Inv (blk X N' sc G.objs.size fp pins s2 H2) [] σ6 H8 { s8 with heap := h9 } := (bare I8).turned (t' := s8.toks) (it := s2.heap.objs.size) (fun b o hb e => sb9.extBut b o hb e) b4 hDC (.inr (Nat.le_refl _))
          (fun x c e z => by
            obtain ⟨v, hv⟩ := I2.cell x c (clOf_look hfr e)
            exact absurd hv.lt (by rw [z]; exact Nat.lt_irrefl _))
          fun p hp z => by
            have hp' : p ∈ X.pn ++ pins := by
              have : p ∈ (X.pn ++ pins) ++ ([] : List (Addr × Obj)) := hp
              rw [List.append_nil] at this
              exact this
            exact absurd (Heap.lt_size (I2.pin p hp').1) (by rw [z]; exact Nat.lt_irrefl _)
        refine ⟨m', lt, i + 1, ys ++ [yv], its ++ [y], c + 1, σ6, H8, I9, T.keep _ _ _ b1 fun b hb o e => sb9.extBut b o (Nat.ne_of_lt (hl b hb)) e, b2, ?_, hv.append (.cons r8 .nil), b4, w8⟩
        rw [e9]
        simp
  exact codeAny_compStart_list (loop _ rfl) (T.self _ 0 _ _ _ (T.keep _ _ _ st2 fun b _ o e => old b o e) (loop _ rfl))

/-- a comprehension as a value -/
theorem pe_lc (hc : X.calm = true) (hi : PI X tg iter wi) (h0 : X.env.scope = sc0) (hN : X.N = XN) (ok : lcOk sc0 sc XN N' n kp = true)
    (hg : ∀ C fp pins s H, PG (blk X N' sc C fp pins s H) tg g) (ht : ∀ C fp pins s H, PTs (blk X N' sc C fp pins s H) cs tc) (he : ∀ C fp pins s H, PE (blk X N' sc C fp pins s H) elt te)
    (hs : ∀ x, foldedSetIterable iter X.env x = pure x := by intro _; rfl) : PE X (.ListComp elt [⟨tg, iter, cs, 0⟩] sc pos) (tLc n kp wi g tc te) := by
  intro pins s σ H Q I h
  rw [eval_ListComp]
  refine lc_run hc hi h0 hN ok hg ht he hs I h fun D C ys H' s' I' ns fp q => ?_
  obtain ⟨m, hm⟩ := ns
  refine ⟨m, hm, fun h' sb => ⟨.ref D, _, ?_, rfl, q⟩⟩
  obtain ⟨f1, f2, f3, f4, f5, f6⟩ := fp
  exact I'.turned (t' := s'.toks) (it := C) (fun b o hb e => sb.extBut b o hb e) f1 f2 f4 f5 f6
end
end L2

set_option maxRecDepth 100000
set_option maxHeartbeats 4000000
namespace L2
open PySem PySem.Spec PyProof.Rows
section
variable {X : Cx} {tg iter elt : Expr} {cs : List Expr} {sc sc0 : Scope} {pos : Pos} {wi : TI} {g : TG} {tc : TT} {te : TE} {XN N' : List Str} {n : Nat} {kp : List Nat}
/-- name = [ .. for .. ], where the store is exchanged with the letting go of the block's names -/
theorem ps_setLc {i : Nat} {y : Str} {py spos : Pos} (hNd : X.N.Nodup) (hiy : X.N[i]? = some y) (hy : X.env.scope.names.lookup y = some .local) (hsw : swapsWith (.ListComp elt [⟨tg, iter, cs, 0⟩] sc pos) (some (.Name y py)) spos.line X.env = pure true)
    (hc : X.calm = true) (hi : PI X tg iter wi) (h0 : X.env.scope = sc0) (hN : X.N = XN) (ok : lcOk sc0 sc XN N' n kp = true)
    (hg : ∀ C fp pins s H, PG (blk X N' sc C fp pins s H) tg g) (ht : ∀ C fp pins s H, PTs (blk X N' sc C fp pins s H) cs tc) (he : ∀ C fp pins s H, PE (blk X N' sc C fp pins s H) elt te)
    (hs : ∀ x, foldedSetIterable iter X.env x = pure x := by intro _; rfl) : PS X (.Assign [.Name y py] (.ListComp elt [⟨tg, iter, cs, 0⟩] sc pos) spos) (tAsg (tLc n kp wi g tc te) (gName i)) := by
  intro pins s σ H D I h
  rw [exec_Assign_Name_used _ _ _ _ hsw]
  refine wpAny_bind (wpAny_standAt (wpAny_bind ?_))
  have fin : wpAny (model X.prog X.w) X.A (comprehension (.ListComp elt [⟨tg, iter, cs, 0⟩] sc pos) sc X.env (firstIterPos [⟨tg, iter, cs, 0⟩] pos) (newList []) false (firstIter [⟨tg, iter, cs, 0⟩] X.env) (some (assign (.Name y py) X.env)))
      (fun _ s' => SP X pins D .next s') X.xe s := by
    refine lc_run (Q := fun x H1 => gName i x σ H1 D.nx) hc hi h0 hN ok hg ht he hs I h fun D' C ys H' s' I' ns fp q => ?_
    obtain ⟨m, hm⟩ := ns
    obtain ⟨f1, f2, f3, f4, f5, f6⟩ := fp
    obtain ⟨o, es, ep, ho, rest⟩ := id hm
    have nc : ∀ v, o.data ≠ .cell v := fun v z => by
      rw [rest.1] at z
      cases z
    have I'' : Inv X (pins ++ [(C, o)]) σ (upd H' D' (.lst ys)) s' := I'.pins_of fun p hp => by
      rcases List.mem_append.mp hp with z | z
      · exact I'.pin p (List.mem_append_right _ z)
      · rw [List.mem_singleton.mp z]
        exact ⟨ho, f1, f2, f3, nc⟩
    show wpAny (model X.prog X.w) X.A (assign (.Name y py) X.env (.ref D')) _ X.xe s'
    refine thn (pg_name hNd hiy (.inl hy) (.inr hy) _ s' σ _ (.ref D') (.ref D') D.nx I'' rfl q) fun _ s'' ⟨σ3, H3, I3, q3⟩ => ?_
    obtain ⟨p1, p2, _⟩ := I3.pin (C, o) (List.mem_append_right _ (List.mem_append_right _ (List.mem_singleton.mpr rfl)))
    refine ⟨m, ⟨o, es, ep, p1, rest⟩, fun h' sb => ⟨σ3, H3, ?_, q3⟩⟩
    exact I3.unpinned.turned (t' := s''.toks) (it := C) (fun b o hb e => sb.extBut b o hb e) p2 f2 f4 f5 f6
  show wpAny (model X.prog X.w) X.A (comprehension _ _ _ _ _ _ _ _ >>= _) _ _ s
  exact wpAny_bind (thn fin fun _ s' q => wpAny_pure (wpAny_pure q))
end

/-! ### B. Built-ins that the layer lacks -/
section
variable {X : Cx}
def kitTy (T C : String) : Option Bool := if T = C then some true else if PySem.W.kitMeta C = true then (fastBuiltinMro T).map (·.contains (.type C)) else none
theorem kit_ty {K : PySem.W.Frag} {T C : String} {b : Bool} (h : kitTy T C = some b) : PySem.W.kitOne K (.type T) (.type C) = some b := by
  unfold kitTy at h
  unfold PySem.W.kitOne
  by_cases e : T = C
  · subst e
    rw [if_pos rfl] at h
    rw [if_pos (beq_self_eq_true _)]
    exact h
  · rw [if_neg e] at h
    have z : ¬ (Value.type T == Value.type C) = true := fun q => by
      have q' := eq_of_beq q
      injection q' with q''
      exact e q''
    rw [if_neg z]
    exact h
/-- isinstance(x, T), T a built-in type -/
theorem call_isi : CallR X (.builtin "isinstance") (fun xs H Q => ∃ (x : V) (T C : String) (b : Bool), xs = [x, .ty C] ∧ TyOf X.K H x (.type T) ∧ kitTy T C = some b ∧ Q (.bl b) H) := by
  intro pins s σ H xs us Q I r h
  obtain ⟨x, T, C, b, rfl, ty, e, q⟩ := h
  obtain ⟨u, w', rfl, rx, ry⟩ := vals2 r
  cases (show w' = Value.type C from ry)
  exact isinst_ok I rx ty (kit_ty e) fun tk => ⟨.bl b, H, I.tok tk, rfl, q⟩
theorem isi_list_list : kitTy "list" "list" = some true := by decide +kernel
/-- two lists of ints compared -/
theorem op_ne_ints (hu : X.A.units + 64 < cLine) : OpR X (compareOp .NotEq) (fun x y H Q => ∃ (a b : Addr) (ns ms : List Int), x = .ref a ∧ y = .ref b ∧ SqL X.K H a (ns.map V.int) ∧ SqL X.K H b (ms.map V.int) ∧ Q (.bl (!decide (ns = ms))) H) := by
  intro pins s σ H x y v u Q I rx ry h
  obtain ⟨a, b, ns, ms, rfl, rfl, ha, hb, q⟩ := h
  cases rx
  cases ry
  obtain ⟨xs, rv, p, _⟩ := I.list ha
  obtain ⟨ys, rv', p', _⟩ := I.list hb
  exact PySem.W.ke_ne_ints p.isList p'.isList (intsAre_of rv) (intsAre_of rv') hu ⟨.bl _, H, I, rfl, q⟩
end
end L2

set_option maxRecDepth 100000
set_option maxHeartbeats 4000000
namespace L2
open PySem PySem.Spec PyProof.Rows

/-! ### C. enumerate of a list or a tuple -/
section
variable {prog : Program} {w : World} {A : Around} {E : Value → Shared → Prop} {s : Shared}
theorem nextT_item {j q : Addr} {i : Nat} {its : Array Value} {x : Value} {Q : Value → Shared → Prop} (hj : s.heap.IsTupleIter j q i) (hq : s.heap.IsTuple q its) (hx : its[i]? = some x)
    (k : ∀ g, g.IsTupleIter j q (i + 1) → Heap.SameBut j s.heap g → Q x { s with heap := g }) : wpAny (model prog w) A (Builtin.SmallTypes.nextOf (.ref j)) Q E s := by
  obtain ⟨o, ho, oc, od⟩ := id hj
  obtain ⟨p, hp, _, m, pd⟩ := hq
  unfold Builtin.SmallTypes.nextOf
  refine wpAny_bind (wpAny_callSpecial?_slot (name := Str.ofString "__next__") hj.typeIs F.slot_tuple_iterator_next (wpAny_call_entry F.slot_tuple_iterator_next hj.typeIs F.entry_tuple_iterator_next ?_ (F.args_tuple_iterator_next_1 _)))
  show wpAny _ _ (field (.ref j) 0 >>= _) _ _ s
  refine wpAny_bind (wpAny_field ho od (x := .ref q) rfl ?_)
  show wpAny _ _ (if (Value.ref q == Value.none) = true then _ else _) _ _ s
  rw [if_neg (show ¬ ((Value.ref q == Value.none) = true) from Bool.false_ne_true)]
  show wpAny _ _ (field (.ref j) 1 >>= _) _ _ s
  refine wpAny_bind (wpAny_field ho od (x := .int i 0) rfl ?_)
  show wpAny _ _ (seqItems? (.ref q) >>= _) _ _ s
  refine wpAny_bind (wpAny_seqItems hp pd ?_)
  simp only [hx, Int.toNat_natCast]
  refine wpAny_bind (wpAny_setField ho od (by simp) (wpAny_pure ⟨x, rfl, wpAny_pure (k _ ⟨_, Heap.get?_update_self _ ho (Obj.isFreed_of_fields (Obj.data_mapFields od _)), (Obj.cls_mapFields ..).trans oc, ?_⟩ (Heap.SameBut.update ..))⟩))
  rw [Obj.data_mapFields od]
  simp [rawInt]
theorem nextT_end {j q : Addr} {i : Nat} {its : Array Value} {Q : Value → Shared → Prop} (hh : A.handled = none) (hj : s.heap.IsTupleIter j q i) (hq : s.heap.IsTuple q its) (hx : its[i]? = none)
    (k : ∀ g e, Heap.ExtBut j s.heap g → (∃ o, g.get? e = some o ∧ o.cls = .type "StopIteration") → E (.ref e) { s with heap := g }) : wpAny (model prog w) A (Builtin.SmallTypes.nextOf (.ref j)) Q E s := by
  obtain ⟨o, ho, oc, od⟩ := id hj
  obtain ⟨p, hp, _, m, pd⟩ := hq
  unfold Builtin.SmallTypes.nextOf
  refine wpAny_bind (wpAny_callSpecial?_slot (name := Str.ofString "__next__") hj.typeIs F.slot_tuple_iterator_next (wpAny_call_entry F.slot_tuple_iterator_next hj.typeIs F.entry_tuple_iterator_next ?_ (F.args_tuple_iterator_next_1 _)))
  show wpAny _ _ (field (.ref j) 0 >>= _) _ _ s
  refine wpAny_bind (wpAny_field ho od (x := .ref q) rfl ?_)
  show wpAny _ _ (if (Value.ref q == Value.none) = true then _ else _) _ _ s
  rw [if_neg (show ¬ ((Value.ref q == Value.none) = true) from Bool.false_ne_true)]
  show wpAny _ _ (field (.ref j) 1 >>= _) _ _ s
  refine wpAny_bind (wpAny_field ho od (x := .int i 0) rfl ?_)
  show wpAny _ _ (seqItems? (.ref q) >>= _) _ _ s
  refine wpAny_bind (wpAny_seqItems hp pd ?_)
  simp only [hx, Int.toNat_natCast]
  refine wpAny_bind (wpAny_rule (wpAny_bind (wpAny_setField ho od (by simp) ?_)))
  show wpAny _ _ (newExc (.type "StopIteration") [] >>= _) _ _ _; refine wpAny_bind ?_; simp only [newExc, newTuple]
  refine wpAny_bind (wpAny_newObj_type ?_ (by size_fits)); refine wpAny_bind (m := firstArgMember _ _) (wpAny_of_eq (a := Value.none) (by first | rfl | (simp only [firstArgMember]; rfl)) ?_)
  refine wpAny_newObj_type ?_ (by size_fits); simp only [raiseNew]; refine wpAny_bind (wpAny_handled ?_); first | rw [show A.in1.handled = none from hh] | rw [hh]
  refine wpAny_bind (wpAny_pure (wpAny_throw ?_)); exact k _ _ (((Heap.SameBut.update ..).extBut.push _).push _) ⟨_, Heap.get?_push_size _ rfl, rfl⟩
theorem draws_tup (hh : A.handled = none) (j q : Addr) (hne : q ≠ j) (its : Array Value) : Draws prog w A j [j, q] its.size (fun i v => its[i]? = some v) (fun i h => h.IsTupleIter j q i ∧ h.IsTuple q its) where
  live := fun _ _ st => let ⟨o, ho, _⟩ := st.1; ⟨o, ho⟩
  frame := fun _ _ _ st hk => ⟨st.1.at fun o e => hk j (by simp) o e, let ⟨o, e, r⟩ := st.2; ⟨o, hk q (by simp) o e, r⟩⟩
  item := fun i s Q E hi st hQ => nextT_item st.1 st.2 (x := its[i]) (by simp [hi]) fun g hj sb => hQ _ g s.toks (by simp [hi]) ⟨hj, st.2.extBut sb.extBut hne⟩ sb
  done := fun s Q E st hE => nextT_end hh st.1 st.2 (by simp) hE
open AutoSeq1 (wpAny_loadPart') in
theorem meets_enumT (q : Addr) (its : Array Value) (n : Nat) (dct : Option Addr) (sl : Array (Option Value)) :
    Meets (Builtin.«enumerate.__new__» ⟨[.type "enumerate", .ref q], []⟩) (fun _ R s => s.heap.get? q = some { cls := .type "tuple", dict := dct, data := .seq its n, slots := sl } ∧
      R (.ok (.ret (.ref (s.heap.push { cls := .type "tuple_iterator", data := .fields #[.ref q, .int 0 0] }).objs.size))) { s with heap := (s.heap.push { cls := .type "tuple_iterator", data := .fields #[.ref q, .int 0 0] }).push { cls := .type "enumerate", data := .fields #[.none, .bool false, .ref s.heap.objs.size, rawInt 0, .none, .none] } }) :=
  .of_wp fun prog w A R s h => by
    obtain ⟨hp, g, d, tk, os⟩ := s
    obtain ⟨hq, h⟩ := h
    have hsub := sub_enumerate
    have hT : Heap.IsTuple (Shared.heap ⟨hp, g, d, tk, os⟩) q its := ⟨_, hq, rfl, n, rfl⟩
    wp_walk using wpAny_loadPart' hq
    refine wpAny_stack_any fun st => wpAny_pure ?_
    split
    · rename_i c _ _ _ _ _
      cases (c == Value.type "enumerate")
      · wp_walk using wpAny_loadPart' hq, wpAny_pyIter_tuple hT
        exact ⟨_, rfl, h⟩
      · wp_walk using wpAny_loadPart' hq, wpAny_pyIter_tuple hT
        exact ⟨_, rfl, h⟩
    · wp_walk using wpAny_loadPart' hq, wpAny_pyIter_tuple hT
      exact ⟨_, rfl, h⟩
theorem call_enumT {q : Addr} {its : Array Value} {Q : Value → Shared → Prop} (hT : s.heap.IsTuple q its)
    (k : ∀ g, IsEnum g (s.heap.objs.size + 1) s.heap.objs.size 0 .none → g.IsTupleIter s.heap.objs.size q 0 → (∀ b o, s.heap.get? b = some o → g.get? b = some o) → Q (.ref (s.heap.objs.size + 1)) { s with heap := g }) :
    wpAny (model prog w) A (call (.type "enumerate") [.ref q]) Q E s := by
  obtain ⟨⟨c, dct, dt, sl⟩, hq, hc, n, hd⟩ := hT
  cases (show c = .type "tuple" from hc)
  cases (show dt = .seq its n from hd)
  refine callType_new F.called_enumerate (by decide) (F.typeCall_enumerate_1 _) (F.newCall_enumerate_1 _) (fun obj => F.args_object_init_2 obj _) F.entry_enumerate_new (meets_enumT q its n dct sl) ⟨hq, ?_⟩
  have z : (s.heap.push { cls := .type "tuple_iterator", data := .fields #[.ref q, .int 0 0] }).objs.size = s.heap.objs.size + 1 := Heap.size_push ..
  have he : IsEnum ((s.heap.push { cls := .type "tuple_iterator", data := .fields #[.ref q, .int 0 0] }).push { cls := .type "enumerate", data := .fields #[.none, .bool false, .ref s.heap.objs.size, rawInt 0, .none, .none] }) (s.heap.objs.size + 1) s.heap.objs.size 0 .none := by
    have y := Heap.get?_push_size (s.heap.push { cls := .type "tuple_iterator", data := .fields #[.ref q, .int 0 0] }) (o := { cls := .type "enumerate", data := .fields #[.none, .bool false, .ref s.heap.objs.size, rawInt 0, .none, .none] }) rfl
    rw [z] at y
    exact y
  show _ ∧ _
  rw [z]
  exact ⟨⟨_, he, rfl⟩, k _ he ⟨_, Heap.get?_push_of_some _ (Heap.get?_push_size _ rfl), rfl, rfl⟩ fun b o y => Heap.get?_push_of_some _ (Heap.get?_push_of_some _ y)⟩
end

/-- the sequence at a, a list or a tuple -/
def Sq (K : PySem.W.Frag) (b : Bool) (H : Hp) (a : Addr) (xs : List V) : Prop := if b = true then SqT K H a xs else SqL K H a xs
/-- enumerate over it: pairs, each a new tuple -/
def Ite (K : PySem.W.Frag) (b : Bool) (a : Addr) : It :=
  ⟨fun i H => ∃ xs x, Sq K b H a xs ∧ xs[i]? = some x, fun i H x H' => ∃ T v, x = .ref T ∧ H T = none ∧ H' = upd H T (.tup [.int i, v]) ∧ ∀ xs, Sq K b H a xs → xs[i]? = some v, fun i H => ∃ xs, Sq K b H a xs ∧ xs.length = i⟩
def enIt (b : Bool) (h : Heap) (it a : Addr) (i : Nat) : Prop := if b = true then h.IsTupleIter it a i else h.IsListIter it a i
section
variable {X : Cx} {pins : List (Addr × Obj)} {σ : St} {H : Hp} {s : Shared}
/-- two records have turned, a pair is laid -/
theorem Inv.turned2 {h' : Heap} {t' : Nat} {e it T : Addr} {v : V} {u : Value} {i : Int} {tk : Tok} (I : Inv X pins σ H s) (fe : FpOk X pins H e) (fi : FpOk X pins H it) (hT : s.heap.objs.size ≤ T) (rv : RelV v u)
    (k : ∀ b o, b ≠ e → b ≠ it → s.heap.get? b = some o → h'.get? b = some o) (ke : ∃ o, h'.get? e = some o) (ki : ∃ o, h'.get? it = some o) (eT : h'.get? T = some { cls := .type "tuple", data := .seq #[.int i tk, u] }) :
    Inv X pins σ (upd H T (.tup [.int i, v])) { s with heap := h', toks := t' } := by
  have nT : H T = none := I.hok.fresh hT
  have ne : ∀ b o, H b = some o → b ≠ e ∧ b ≠ it := fun b o q => ⟨ne_of_none q fe.1, ne_of_none q fi.1⟩
  have un : Un (frs X.stack) [e, it] H (upd H T (.tup [.int i, v])) s.heap h' := by
    have off : ∀ b, b ∉ [e, it] → b ≠ e ∧ b ≠ it := fun b hb => ⟨fun z => hb (by simp [z]), fun z => hb (by simp [z])⟩
    have lt : ∀ b o, s.heap.get? b = some o → b ≠ T := fun b o q => Nat.ne_of_lt (Nat.lt_of_lt_of_le (Heap.lt_size q) hT)
    exact ⟨fun b o q _ _ hx => k b o (off b hx).1 (off b hx).2 q, fun b o q _ _ hx => ⟨o.slots, k b o (off b hx).1 (off b hx).2 q⟩, fun b o q n _ => by rw [upd_ne (lt b o q)]; exact n, fun b o q hx => ⟨o, k b o (off b hx).1 (off b hx).2 q⟩,
      fun b xs q => by rw [upd_ne (ne_of_none q nT)]; exact q, fun b o xs q => by rw [upd_ne (ne_of_none q nT)]; exact q, fun b ps q => ⟨#[], by rw [upd_ne (ne_of_none q nT), q]; simp⟩⟩
  refine I.call (g' := s.gens) (d' := s.drawn) (ch := [e, it]) un (fun a o q => ?_) I.bare fun b hb => ?_
  · by_cases ea : a = T
    · subst ea
      rw [upd_same] at q
      cases q
      exact ⟨Nat.le_of_lt (small1000 (by show 2 ≤ 1000; decide)), [.int i tk, u], .cons ⟨tk, rfl⟩ (.cons rv .nil), ⟨_, eT, rfl, _, rfl⟩⟩
    · rw [upd_ne ea] at q
      refine (I.hok a o q).stay (fun b z hb r => k b z ?_ ?_ r) (fun b r => by rw [upd_ne (ne_of_none r nT)]; exact r) fun b xs r => by rw [upd_ne (ne_of_none r nT)]; exact r
      · rcases hb with rfl | hb
        · exact (ne _ _ q).1
        · exact (ne _ _ hb).1
      · rcases hb with rfl | hb
        · exact (ne _ _ q).2
        · exact (ne _ _ hb).2
  · rcases List.mem_cons.mp hb with z | z
    · subst z
      exact ⟨fe.2.2.2.1, fe.2.1, fe.2.2.2.2.1, fe.2.2.2.2.2⟩
    · have z' := List.mem_singleton.mp z
      subst z'
      exact ⟨fi.2.2.2.1, fi.2.1, fi.2.2.2.2.1, fi.2.2.2.2.2⟩
end
theorem Sq.inj {X : Cx} {pins : List (Addr × Obj)} {σ : St} {H : Hp} {s : Shared} {b : Bool} {a : Addr} {xs ys : List V} (I : Inv X pins σ H s) (h : Sq X.K b H a xs) (h' : Sq X.K b H a ys) : xs = ys := by
  cases b with
  | true => exact I.tuple_inj h h'
  | false => exact I.list_inj h h'
theorem enIt_obj {b : Bool} {h : Heap} {it a : Addr} {i : Nat} (st : enIt b h it a i) : ∃ o, h.get? it = some o ∧ ∀ v, o.data ≠ .cell v := by
  cases b with
  | true =>
    obtain ⟨o, e, _, d⟩ := (show h.IsTupleIter it a i from st)
    exact ⟨o, e, fun v z => by rw [d] at z; cases z⟩
  | false =>
    obtain ⟨o, e, _, d⟩ := (show h.IsListIter it a i from st)
    exact ⟨o, e, fun v z => by rw [d] at z; cases z⟩
/-- the inner iterator drawn, whichever it is -/
theorem enIt_draws {X : Cx} {pins : List (Addr × Obj)} {σ : St} {H : Hp} {s : Shared} {b : Bool} {a it : Addr} {xs : List V} (I : Inv X pins σ H s) (hd : X.A.handled = none) (hq : Sq X.K b H a xs) (hne : a ≠ it) :
    ∃ (its : List Value) (St : Nat → Heap → Prop), Vals xs its ∧ Draws X.prog X.w X.A.in1 it [it, a] its.toArray.size (fun i v => its.toArray[i]? = some v) St ∧ (∀ i, enIt b s.heap it a i → St i s.heap) ∧ ∀ i h, St i h → enIt b h it a i := by
  cases b with
  | true =>
    obtain ⟨its, rv, p, _⟩ := I.tuple hq
    exact ⟨its, fun i h => h.IsTupleIter it a i ∧ h.IsTuple a its.toArray, rv, draws_tup (A := X.A.in1) hd it a hne its.toArray, fun i st => ⟨st, p⟩, fun i h st => st.1⟩
  | false =>
    obtain ⟨its, rv, p, _⟩ := I.list hq
    exact ⟨its, fun i h => h.IsListIter it a i ∧ h.IsList a its.toArray, rv, Draws.list (A := X.A.in1) hd it a hne its.toArray, fun i st => ⟨st, p.isList⟩, fun i h st => st.1⟩
theorem turn_enum {P : Program} {w : World} {K : PySem.W.Frag} {elts : List Expr} {k : Nat} {pos : Pos} (b : Bool) (a e it : Addr) (hei : e ≠ it) (hae : a ≠ e) (hai : a ≠ it) :
    Turn P w K (.Tuple elts k pos) (Ite K b a) [e, it] e (fun i h => (∃ old, IsEnum h e it (i : Int) old) ∧ enIt b h it a i) where
  mem := by simp
  obj := fun i h st c hc => by
    rcases List.mem_cons.mp hc with z | z
    · subst z
      obtain ⟨old, q⟩ := st.1
      exact ⟨_, q, fun v z => by
        have z' : Data.fields _ = Data.cell v := z
        cases z'⟩
    · rw [List.mem_singleton.mp z]
      exact enIt_obj st.2
  keep := fun i h h' st kk => by
    obtain ⟨⟨old, q⟩, st⟩ := st
    refine ⟨⟨old, kk e (by simp) _ q⟩, ?_⟩
    cases b with
    | true => exact (show h.IsTupleIter it a i from st).at fun o q => kk it (by simp) o q
    | false => exact (show h.IsListIter it a i from st).at fun o q => kk it (by simp) o q
  item := by
    intro X hP hw hK hc i pins s σ H E I hf st hg
    subst hP hw hK
    obtain ⟨⟨old, he⟩, st⟩ := st
    obtain ⟨xs, x, hq, hx⟩ := hg
    obtain ⟨its, St, rv, D, up, dn⟩ := enIt_draws I (I.ok.hd hc) hq hai
    obtain ⟨u, hu, ru⟩ := rv.get hx
    have hlt : i < its.toArray.size := by simpa using (List.getElem?_eq_some_iff.mp hu).1
    have fe := hf e (by simp)
    have fi := hf it (by simp)
    have lte : e < s.heap.objs.size := Heap.lt_size he
    refine wpAny_pyNext_enum_itemD D he (up i st) hlt hei (by simp [hei, Ne.symm hae]) fun y g tk hy ho st' hT hsz kk => ?_
    have ey : y = u := by
      have z : its.toArray[i]? = some y := hy
      rw [List.getElem?_toArray, hu] at z
      exact (Option.some.inj z).symm
    subst ey
    refine ⟨_, rfl, wpAny_letOwnedTupleGo_enum ho fun g2 he2 sb => ?_⟩
    have it2 : ∃ o, g2.get? it = some o := by
      obtain ⟨o, q, _⟩ := enIt_obj (dn _ _ st')
      exact ⟨o, (sb.2 it (Ne.symm hei)).trans q⟩
    have I2 := I.turned2 (h' := g2) (t' := tk + 1) (T := s.heap.objs.size) (i := (i : Int)) (tk := tk) fe fi (Nat.le_refl _) ru (fun c o h1 h2 q => (sb.2 c h1).trans (kk c o h1 h2 q)) ⟨_, he2⟩ it2 ((sb.2 _ (Nat.ne_of_gt lte)).trans hT)
    refine ⟨.ref s.heap.objs.size, _, I2, rfl, ⟨_, x, rfl, I.hok.fresh (Nat.le_refl _), rfl, fun ys hy' => by rw [Sq.inj I hy' hq]; exact hx⟩, ⟨⟨y, he2⟩, ?_⟩, fun c hc' => ?_⟩
    · have z := dn _ _ st'
      cases b with
      | true => exact (show g.IsTupleIter it a (i + 1) from z).at fun o q => (sb.2 it (Ne.symm hei)).trans q
      | false => exact (show g.IsListIter it a (i + 1) from z).at fun o q => (sb.2 it (Ne.symm hei)).trans q
    · have nz : H c = none := (hf c hc').1
      have cl : c < s.heap.objs.size := by
        rcases List.mem_cons.mp hc' with z | z
        · rw [z]; exact lte
        · rw [List.mem_singleton.mp z]
          obtain ⟨o, q, _⟩ := enIt_obj st
          exact Heap.lt_size q
      rw [upd_ne (Nat.ne_of_lt cl)]
      exact nz
  done := by
    intro X hP hw hK hc i pins s σ H E I hf st hg
    subst hP hw hK
    obtain ⟨⟨old, he⟩, st⟩ := st
    obtain ⟨xs, hq, hx⟩ := hg
    obtain ⟨its, St, rv, D, up, dn⟩ := enIt_draws I (I.ok.hd hc) hq hai
    obtain ⟨f0, f1, f2, f3, f4, f5⟩ := hf it (by simp)
    have hl := rv.length
    have e1 : i = its.toArray.size := by
      rw [List.size_toArray]
      omega
    refine wpAny_pyNext_enum_endD D he (by rw [← e1]; exact up i st) fun g eb => ⟨rfl, I.turned (t' := s.toks) (fun c o hc' q => eb c o hc' q) f0 f1 f3 f4 f5⟩
  self := fun _ _ _ _ _ st h => by
    obtain ⟨⟨old, he⟩, _⟩ := st
    exact wpAny_pyIter_enum he h

/-! the iterator of enumerate(e) -/
def iEnum (K : PySem.W.Frag) (ta : TA) : TI := fun σ H R => ta σ H fun vs H1 => ∃ (b : Bool) (a : Addr), vs = [.ref a] ∧ (∃ xs, Sq K b H1 a xs) ∧ R (Ite K b a) H1
theorem pi_enum {X : Cx} {elts : List Expr} {k : Nat} {pos p pos' : Pos} {a : Expr} {ta : TA} (hg : Gl X "enumerate") (hm : X.mg "enumerate" = none) (ha : PA X [a] ta) (hs : starEach [a] X.env = [(false, eval a X.env)] := by rfl) :
    PI X (.Tuple elts k pos) (.Call (.Name "enumerate" p) [a] [] pos') (iEnum X.K ta) := by
  intro pins s σ H R I h
  refine Call_ (ld_blt I hg hm PyProof.Rows.boot_enumerate (PyProof.Rows.callWith_type1 (thn (ha pos' pins s σ H _ I h) fun us s1 ⟨vs, H1, I1, r1, q1⟩ => ?_) hs rfl))
  obtain ⟨b, c, rfl, ⟨xs, hq⟩, q⟩ := q1
  obtain ⟨u, rfl, ru⟩ := vals1 r1
  cases ru
  have fin : ∀ g : Heap, IsEnum g (s1.heap.objs.size + 1) s1.heap.objs.size 0 .none → enIt b g s1.heap.objs.size c 0 → (∀ d o, s1.heap.get? d = some o → g.get? d = some o) → c < s1.heap.objs.size →
      wpAny (model X.prog X.w) X.A (pyIter (.ref (s1.heap.objs.size + 1))) (PIE X pins σ (.Tuple elts k pos) R) X.xe { s1 with heap := g } := fun g he hi kk cl => by
    refine wpAny_pyIter_enum he ?_
    refine ⟨s1.heap.objs.size + 1, [s1.heap.objs.size + 1, s1.heap.objs.size], _, _, H1, rfl, I1.kept (t' := s1.toks) kk, turn_enum b c _ _ (Nat.succ_ne_self _) (Nat.ne_of_lt (Nat.lt_succ_of_lt cl)) (Nat.ne_of_lt cl), ⟨⟨.none, he⟩, hi⟩, fun d hd => ?_, q⟩
    have le : s1.heap.objs.size ≤ d := by
      rcases List.mem_cons.mp hd with z | z
      · rw [z]; exact Nat.le_succ _
      · rw [List.mem_singleton.mp z]; exact Nat.le_refl _
    exact I1.fpOk le (I1.hok.fresh le)
  cases b with
  | true =>
    obtain ⟨its, rv, pt, _⟩ := I1.tuple hq
    exact call_enumT (show s1.heap.IsTuple c its.toArray from pt) fun g he hi kk => fin g he hi kk pt.lt
  | false =>
    obtain ⟨its, rv, pl, _⟩ := I1.list hq
    have hl := pl.isList
    exact call_enumerate_list hl fun g he hi _ kk => fin g he hi kk (by obtain ⟨o, e, _⟩ := hl; exact Heap.lt_size e)
/-- a loop over enumerate of a sequence that stays as it is -/
theorem for_enum {K : PySem.W.Frag} {b : Bool} {a : Addr} {xs : List V} {g : TG} {tb : TS} {D : Ends} {σ : St} {H : Hp} (Pv : Nat → St → Hp → Prop) (h0 : Pv 0 σ H) (hl : ∀ i σ H, i ≤ xs.length → Pv i σ H → Sq K b H a xs)
    (hs : ∀ i x σ H, xs[i]? = some x → Pv i σ H → ∀ T, H T = none → g (.ref T) σ (upd H T (.tup [.int i, x])) fun σ2 H2 => tb { D with nx := Pv (i + 1), ct := Pv (i + 1), bk := D.nx } σ2 H2) (hd : ∀ σ H, Pv xs.length σ H → D.nx σ H) :
    ∃ W : Nat → Nat → St → Hp → Prop, (∃ m, W 0 m σ H) ∧ ∀ i m σ H, W i m σ H →
      ((Ite K b a).stop i H ∧ D.nx σ H) ∨ ((Ite K b a).go i H ∧ ∃ N : St → Hp → Prop, (∀ σ' H', N σ' H' → ∃ m', m' < m ∧ W (i + 1) m' σ' H') ∧ ∀ x H', (Ite K b a).yld i H x H' → g x σ H' fun σ2 H2 => tb { D with nx := N, ct := N, bk := D.nx } σ2 H2) := by
  refine ⟨fun i m σ H => m = xs.length - i ∧ i ≤ xs.length ∧ Pv i σ H, ⟨xs.length, by simp, Nat.zero_le _, h0⟩, ?_⟩
  rintro i m σ H ⟨rfl, hi, p⟩
  have q := hl i σ H hi p
  by_cases hlt : i < xs.length
  · refine .inr ⟨⟨xs, xs[i], q, by simp [hlt]⟩, Pv (i + 1), fun σ' H' p' => ⟨xs.length - (i + 1), by omega, rfl, hlt, p'⟩, fun x H' y => ?_⟩
    obtain ⟨T, v, rfl, hT, rfl, hv⟩ := y
    exact hs i v σ H (hv xs q) p T hT
  · have e : i = xs.length := by omega
    subst e
    exact .inl ⟨⟨xs, q, rfl⟩, hd σ H p⟩
end L2

set_option maxRecDepth 100000
set_option maxHeartbeats 4000000
namespace L2
open PySem PySem.Spec PyProof.Rows
/-! ### D. More built-ins -/
section
variable {X : Cx}
/-- sorted of a list of ints -/
theorem call_sorted : CallR X (.builtin "sorted") (fun xs H Q => ∃ (p : Addr) (ns : List Int), xs = [.ref p] ∧ SqL X.K H p (ns.map V.int) ∧ ns.length < 64 ∧ ∀ ms : List Int, ms.Perm ns → ms.Pairwise (· ≤ ·) → ∀ l, H l = none → Q (.ref l) (upd H l (.lst (ms.map V.int)))) := by
  intro pins s σ H xs us Q I r h
  obtain ⟨p, ns, rfl, hq, hz, q⟩ := h
  obtain ⟨u, rfl, rx⟩ := vals1 r
  cases rx
  obtain ⟨its, rv, pl, hz'⟩ := I.list hq
  have hlen := rv.length
  rw [List.length_map] at hlen hz'
  refine sorted_ints pl.isList (intsAre_of rv) (by omega) fun out ms a1 a2 a3 => ?_
  obtain ⟨e, he⟩ := sortedAll_at s.heap its out
  have hm : ms.length = ns.length := a2.length_eq
  refine ⟨.ref (s.heap.objs.size + 1), _, I.laid (t' := s.toks) (fun b o => sortedAll_old) (Nat.le_succ _) (show ObjOk X.prog X.w _ _ _ (.lst (ms.map V.int)) from ⟨by rw [List.length_map, hm]; exact hz', out.toList, e, vals_ints a1, he⟩), rfl, q ms a2 a3 _ (I.hok.fresh (Nat.le_succ _))⟩
/-- range(a, b) as a value -/
theorem call_rng : CallR X (.type "range") (fun xs H Q => ∃ i j : Int, xs = [.int i, .int j] ∧ ∀ p, H p = none → Q (.ref p) (upd H p (.rng i j))) := by
  intro pins s σ H xs us Q I r h
  obtain ⟨i, j, rfl, q⟩ := h
  obtain ⟨u, w', rfl, ⟨t, rfl⟩, ⟨t', rfl⟩⟩ := vals2 r
  refine call_range_2 ⟨.ref s.heap.objs.size, _, I.laid (fun b o e => Heap.get?_push_of_some _ e) (Nat.le_refl _) (show ObjOk X.prog X.w _ _ _ (.rng i j) from ⟨t, t', _, Heap.get?_push_size _ rfl⟩), rfl, q _ (I.hok.fresh (Nat.le_refl _))⟩
theorem vals_of {P : Nat → Value → Prop} {f : Nat → V} (hP : ∀ i v, P i v → RelV (f i) v) : ∀ (n k : Nat) (l : List Value), l.length = n → (∀ j v, l[j]? = some v → P (k + j) v) → Vals ((List.range' k n).map f) l
  | 0, k, [], _, _ => .nil
  | n + 1, k, v :: r, hl, h => by
    rw [List.range'_succ, List.map_cons]
    refine .cons (hP _ _ (h 0 v rfl)) (vals_of hP n (k + 1) r (by simpa using hl) fun j v' e => ?_)
    have := h (j + 1) v' (by simpa using e)
    rw [show k + 1 + j = k + (j + 1) by omega]
    exact this
  | 0, _, _ :: _, hl, _ => by simp at hl
  | n + 1, _, [], hl, _ => by simp at hl
/-- list(range) -/
theorem call_list_rng (hc : X.calm = true) : CallR X (.type "list") (fun xs H Q => ∃ (p : Addr) (lo hi : Int), xs = [.ref p] ∧ H p = some (.rng lo hi) ∧ -(2 ^ 62) ≤ lo ∧ lo < 2 ^ 62 ∧ -(2 ^ 62) ≤ hi ∧ hi < 2 ^ 62 ∧ (hi - lo).toNat ≤ 1000 ∧ ∀ l, H l = none → Q (.ref l) (upd H l (.lst ((List.range' 0 (hi - lo).toNat).map fun i : Nat => V.int (lo + i))))) := by
  intro pins s σ H xs us Q I r h
  obtain ⟨p, lo, hi, rfl, hp, b1, b2, b3, b4, hz, q⟩ := h
  obtain ⟨u, rfl, rx⟩ := vals1 r
  cases rx
  obtain ⟨t, u, v, e⟩ := (show ObjOk X.prog X.w H s.heap p (.rng lo hi) from I.hok p _ hp)
  have hn : Builtin.Range.rangeSize lo hi 1 = (((hi - lo).toNat : Nat) : Int) := by
    rw [rangeSize_one]
    split <;> omega
  refine call_list_range (I.ok.hd hc) e (small_one b1 b2 b3 b4) hn (Nat.le_trans hz (by decide)) fun g tk acc c kk eg hi' => ?_
  obtain ⟨sz, it⟩ := hi'
  have vv : Vals ((List.range' 0 (hi - lo).toNat).map fun i : Nat => V.int (lo + i)) acc.toList := by
    refine vals_of (P := fun i v => ∃ t, v = .int (lo + i * 1) t) (fun i v hv => ?_) _ 0 acc.toList (by simpa using sz) fun j v ej => ?_
    · obtain ⟨t, rfl⟩ := hv
      exact ⟨t, by rw [Int.mul_one]⟩
    · have := it j v (by simpa using ej)
      rw [Nat.zero_add]
      exact this
  refine ⟨.ref s.heap.objs.size, _, I.laid (t' := tk) kk (Nat.le_refl _) (show ObjOk X.prog X.w _ _ _ (.lst _) from ⟨?_, acc.toList, c, vv, eg⟩), rfl, q _ (I.hok.fresh (Nat.le_refl _))⟩
  rw [List.length_map, List.length_range']
  exact Nat.le_of_lt (small1000 hz)
open AutoSeq1 (wpAny_loadPart') in
theorem meets_extT (l : Addr) (its : Array Value) (n : Nat) (b : Addr) (its2 : Array Value) (n2 : Nat) (dct : Option Addr) (sl : Array (Option Value)) (h0 : ¬(!its.isEmpty && Builtin.List.listTooLong (its.size + its2.size)) = true) (h1 : its.size ≤ sizeLine) (h2 : its.size + its2.size ≤ sizeLine + 1) :
    Meets (Builtin.«list.extend» ⟨[.ref l, .ref b], []⟩) (fun _ R s => s.heap.get? l = some { cls := .type "list", dict := none, data := .seq its n, slots := #[] } ∧ s.heap.get? b = some { cls := .type "tuple", dict := dct, data := .seq its2 n2, slots := sl } ∧ R (.ok (.ret Value.none)) { s with heap := s.heap.update l (Obj.mapSeq fun x => x ++ its2), toks := s.toks }) :=
  .of_wp fun prog w A R s h => by
    obtain ⟨hp, g, d, tk, os⟩ := s
    obtain ⟨hl, hb, h⟩ := h
    have f1 := sub_tuple_tuple; have f2 := sub_list_list; have f3 := sub_tuple_list; have f4 := sub_list_tuple
    have hz : (its ++ its2).size ≤ sizeLine + 1 := by
      rw [Array.size_append]
      exact h2
    wp_walk using (wpAny_updateSeq hl rfl (hz := h1) (_hz' := hz)), wpAny_loadPart' hl, wpAny_loadPart' hb
    exact ⟨_, rfl, h⟩
/-- list.extend by a tuple -/
theorem mt_extendT : MtM X "list.extend" (fun x vs H Q => ∃ l b xs zs, x = .ref l ∧ vs = [.ref b] ∧ H l = some (.lst xs) ∧ H b = some (.tup zs) ∧ xs.length + zs.length ≤ sizeLine ∧ Q .non (upd H l (.lst (xs ++ zs)))) := by
  intro pins s σ H x vs v us Q I rx rv h
  obtain ⟨l, b, xs, zs, rfl, rfl, hH, hB, hz, q⟩ := h
  cases rx
  obtain ⟨u, rfl, ru⟩ := rv.one
  cases ru
  obtain ⟨z, its, n, r, hl, e⟩ := I.lstM hH
  obtain ⟨its2, r2, ⟨⟨c2, d2, dt2, sl2⟩, e2, hc2, n2, hd2⟩, z2⟩ := I.tuple (.inl (.inl hB))
  cases (show c2 = .type "tuple" from hc2)
  cases (show dt2 = .seq its2.toArray n2 from hd2)
  have hl2 := r2.length
  have hsz : its.toArray.size + its2.toArray.size ≤ sizeLine := by rw [List.size_toArray, List.size_toArray]; omega
  refine call_meets F.slot_list_extend ⟨_, e, rfl⟩ F.entry_list_extend (F.args_list_extend_2 _ _) (meets_extT l its.toArray n b its2.toArray n2 d2 sl2 (by rw [notLongL hsz, Bool.and_false]; exact Bool.false_ne_true) (by rw [List.size_toArray]; omega) (by omega)) ⟨e, e2, ?_⟩
  refine ⟨.non, _, I.lset (its' := its ++ its2) hH e (by simp) (r.append r2) ?_, rfl, q⟩
  rw [List.length_append]
  omega
/-- a list or a tuple walked -/
def iSeq (K : PySem.W.Frag) (tl : TE) : TI := fun σ H R => tl σ H fun x H1 => ∃ a, x = .ref a ∧ (((∃ xs, SqL K H1 a xs) ∧ R (Itl K a) H1) ∨ ((∃ xs, SqT K H1 a xs) ∧ R (Itt K a) H1))
theorem pi_seq {tg l : Expr} {tl : TE} (hl : PE X l tl) : PI X tg l (iSeq X.K tl) := by
  intro pins s σ H R I h
  refine thn (hl pins s σ H _ I h) fun v s1 ⟨x, H1, I1, r1, q1⟩ => ?_
  obtain ⟨a, rfl, q⟩ := q1
  cases r1
  rcases q with ⟨⟨xs, hq⟩, q⟩ | ⟨⟨xs, hq⟩, q⟩
  · obtain ⟨its, rv, p, hz⟩ := I1.list hq
    refine wpAny_pyIter_list p.isList ⟨s1.heap.objs.size, [s1.heap.objs.size], _, _, H1, rfl, I1.kept (t' := s1.toks) fun b o e => Heap.get?_push_of_some _ e, turn_list a _, ⟨_, Heap.get?_push_size _ rfl, rfl, rfl⟩, fun b hb => ?_, q⟩
    rw [List.mem_singleton.mp hb]
    exact I1.fpOk (Nat.le_refl _) (I1.hok.fresh (Nat.le_refl _))
  · obtain ⟨its, rv, p, hz⟩ := I1.tuple hq
    refine wpAny_pyIter_tuple (show s1.heap.IsTuple a its.toArray from p) ⟨s1.heap.objs.size, [s1.heap.objs.size], _, _, H1, rfl, I1.kept (t' := s1.toks) fun b o e => Heap.get?_push_of_some _ e, turn_tuple a _, ⟨_, Heap.get?_push_size _ rfl, rfl, rfl⟩, fun b hb => ?_, q⟩
    rw [List.mem_singleton.mp hb]
    exact I1.fpOk (Nat.le_refl _) (I1.hok.fresh (Nat.le_refl _))
/-- the sum of a list of ints -/
theorem call_sum_ints (hc : X.calm = true) : CallR X (.builtin "sum") (fun xs H Q => ∃ (p : Addr) (ns : List Int), xs = [.ref p] ∧ SqL X.K H p (ns.map V.int) ∧ Q (.int ns.sum) H) := by
  intro pins s σ H xs us Q I r h
  obtain ⟨p, ns, rfl, hq, q⟩ := h
  obtain ⟨u, rfl, rx⟩ := vals1 r
  cases rx
  obtain ⟨its, rv, pl, hz'⟩ := I.list hq
  have ia := intsAre_of rv
  obtain ⟨ps, hx⟩ := ia.allInts.items
  have hl' : s.heap.IsList p (intItems ps) := hx ▸ pl.isList
  refine sum_intListG (I.ok.hd hc) hl' fun g tk t' hk => ?_
  have e1 : ns = ps.toList.map (·.1) := by
    rw [← nums_intItems, ← hx]
    exact (show numsOf its.toArray.toList = ns from ia.numsOf).symm
  have e2 : preSum (numAt ps) ps.size = ns.sum := by
    rw [preSum_eq, List.take_of_length_le (by simp), e1]
  rw [e2]
  exact ⟨.int _, H, I.kept (t' := tk) hk, ⟨t', rfl⟩, q⟩
end

/-! the layer's rules with the text's heap named (for blocks) -/
section
variable {X : Cx} {K : PySem.W.Frag}
theorem ixT (h : X.K = K := by rfl) : IxR X (rIxT K) := h ▸ ix_tup
theorem ixL (h : X.K = K := by rfl) : IxR X (rIxL K) := h ▸ ix_list
theorem lenS (h : X.K = K := by rfl) : CallR X (.builtin "len") (fun xs H Q => ∃ p ys, xs = [.ref p] ∧ (SqL K H p ys ∨ SqT K H p ys) ∧ Q (.int ys.length) H) := h ▸ call_len_seq
theorem inS (h : X.K = K := by rfl) : OpR X (compareOp .In) (rIn K false) := h ▸ op_in_seq
theorem isiK (h : X.K = K := by rfl) : CallR X (.builtin "isinstance") (fun xs H Q => ∃ (x : V) (T C : String) (b : Bool), xs = [x, .ty C] ∧ TyOf K H x (.type T) ∧ kitTy T C = some b ∧ Q (.bl b) H) := h ▸ call_isi
end
/-! ### E. Data: what a value stands for -/
mutual
def Dn (H : Hp) : PyData → V → Prop
  | .none, v => v = .non
  | .bool b, v => v = .bl b
  | .int i, v => v = .int i
  | .str x, v => v = .str x
  | .list ds, v => ∃ a xs, v = .ref a ∧ H a = some (.lst xs) ∧ DnL H ds xs
  | .tuple ds, v => ∃ a xs, v = .ref a ∧ H a = some (.tup xs) ∧ DnL H ds xs
  | .dict kvs, v => kvs = [] ∧ ∃ a, v = .ref a ∧ H a = some (.dK [])
def DnL (H : Hp) : List PyData → List V → Prop
  | [], xs => xs = []
  | d :: ds, xs => ∃ x r, xs = x :: r ∧ Dn H d x ∧ DnL H ds r
end
mutual
theorem Dn.same {H H' : Hp} (h : Same H H') : ∀ (d : PyData) (v : V), Dn H d v → Dn H' d v
  | .none, _, q => q
  | .bool _, _, q => q
  | .int _, _, q => q
  | .str _, _, q => q
  | .list ds, _, ⟨a, xs, e, q, r⟩ => ⟨a, xs, e, h _ _ q, DnL.same h ds xs r⟩
  | .tuple ds, _, ⟨a, xs, e, q, r⟩ => ⟨a, xs, e, h _ _ q, DnL.same h ds xs r⟩
  | .dict _, _, ⟨e, a, q, r⟩ => ⟨e, a, q, h _ _ r⟩
theorem DnL.same {H H' : Hp} (h : Same H H') : ∀ (ds : List PyData) (xs : List V), DnL H ds xs → DnL H' ds xs
  | [], _, q => q
  | d :: ds, _, ⟨x, r, e, q, z⟩ => ⟨x, r, e, Dn.same h d x q, DnL.same h ds r z⟩
end
theorem DnL.length {H : Hp} : ∀ {ds : List PyData} {xs : List V}, DnL H ds xs → ds.length = xs.length
  | [], _, q => by cases (show _ = [] from q); rfl
  | d :: ds, _, ⟨x, r, e, _, z⟩ => by rw [e, List.length_cons, List.length_cons, DnL.length z]
theorem DnL.get {H : Hp} : ∀ {ds : List PyData} {xs : List V} {i : Nat} {x : V}, DnL H ds xs → xs[i]? = some x → ∃ d, ds[i]? = some d ∧ Dn H d x
  | [], _, i, x, q, e => by rw [(show _ = [] from q)] at e; simp at e
  | d :: ds, _, 0, x, ⟨y, r, e, q, z⟩, h => by rw [e] at h; cases h; exact ⟨d, rfl, q⟩
  | d :: ds, _, i + 1, x, ⟨y, r, e, q, z⟩, h => by
    rw [e] at h
    obtain ⟨d', h1, h2⟩ := DnL.get (i := i) z (by simpa using h)
    exact ⟨d', by simpa using h1, h2⟩
theorem DnL.get' {H : Hp} : ∀ {ds : List PyData} {xs : List V} {i : Nat} {d : PyData}, DnL H ds xs → ds[i]? = some d → ∃ x, xs[i]? = some x ∧ Dn H d x
  | [], _, i, x, q, e => by simp at e
  | d :: ds, _, 0, x, ⟨y, r, e, q, z⟩, h => by cases h; exact ⟨y, by rw [e]; rfl, q⟩
  | d :: ds, _, i + 1, x, ⟨y, r, e, q, z⟩, h => by
    obtain ⟨d', h1, h2⟩ := DnL.get' (i := i) z (by simpa using h)
    exact ⟨d', by rw [e]; simpa using h1, h2⟩
theorem DnL.append {H : Hp} : ∀ {ds es : List PyData} {xs ys : List V}, DnL H ds xs → DnL H es ys → DnL H (ds ++ es) (xs ++ ys)
  | [], es, xs, ys, q, r => by rw [(show xs = [] from q)]; exact r
  | d :: ds, es, _, ys, ⟨x, t, e, q, z⟩, r => ⟨x, t ++ ys, by rw [e]; rfl, q, DnL.append z r⟩
mutual
theorem Dn.reads {X : Cx} {pins : List (Addr × Obj)} {σ : St} {H : Hp} {s : Shared} (I : Inv X pins σ H s) : ∀ (d : PyData) (v : V) (u : Value), Dn H d v → d.canLay0 = true → RelV v u → ∃ as, Reads s.heap u d as
  | .none, v, u, q, _, r => by cases (show v = .non from q); cases (show u = Value.none from r); exact ⟨_, .none⟩
  | .bool b, v, u, q, _, r => by cases (show v = .bl b from q); cases (show u = Value.bool b from r); exact ⟨_, .bool b⟩
  | .int i, v, u, q, _, r => by cases (show v = .int i from q); obtain ⟨t, rfl⟩ := (show ∃ t, u = Value.int i t from r); exact ⟨_, .int i t⟩
  | .str x, v, u, q, _, r => by cases (show v = .str x from q); obtain ⟨t, rfl⟩ := (show ∃ t, u = Value.str x t from r); exact ⟨_, .str x t⟩
  | .list ds, _, u, ⟨a, xs, rfl, q, z⟩, c, r => by
    cases (show u = Value.ref a from r)
    obtain ⟨_, its, n, rv, e⟩ := (show ObjOk X.prog X.w H s.heap a (.lst xs) from I.hok a _ q)
    obtain ⟨as, ra⟩ := DnL.reads I ds xs its z (by simpa [PyData.canLay0] using c) rv
    exact ⟨_, .list e rfl rfl (by simpa using ra)⟩
  | .tuple ds, _, u, ⟨a, xs, rfl, q, z⟩, c, r => by
    cases (show u = Value.ref a from r)
    obtain ⟨_, its, rv, o, e, hc, n, hd⟩ := (show ObjOk X.prog X.w H s.heap a (.tup xs) from I.hok a _ q)
    obtain ⟨as, ra⟩ := DnL.reads I ds xs its z (by simpa [PyData.canLay0] using c) rv
    exact ⟨_, .tuple e hc hd (by simpa using ra)⟩
  | .dict k, v, u, _, c, _ => by simp [PyData.canLay0] at c
theorem DnL.reads {X : Cx} {pins : List (Addr × Obj)} {σ : St} {H : Hp} {s : Shared} (I : Inv X pins σ H s) : ∀ (ds : List PyData) (xs : List V) (us : List Value), DnL H ds xs → PyData.canLayAll0 ds = true → Vals xs us → ∃ as, ReadsAll s.heap us ds as
  | [], xs, us, q, _, r => by
    cases (show xs = [] from q)
    cases r
    exact ⟨_, .nil⟩
  | d :: ds, _, us, ⟨x, t, rfl, q, z⟩, c, r => by
    cases r with
    | cons rx rt =>
      have c' : PyData.canLay0 d = true ∧ PyData.canLayAll0 ds = true := by simpa [PyData.canLayAll0] using c
      obtain ⟨a1, r1⟩ := Dn.reads I d x _ q c'.1 rx
      obtain ⟨a2, r2⟩ := DnL.reads I ds t _ z c'.2 rt
      exact ⟨_, .cons r1 r2⟩
end
/-- two values of the same data: not unequal -/
theorem op_ne_data {X : Cx} (hu : X.A.units + 64 < cLine) : OpR X (compareOp .NotEq) (fun x y H Q => ∃ d e : PyData, Dn H d x ∧ Dn H e y ∧ SeqAt.shaped d = true ∧ SeqAt.shaped e = true ∧ Q (.bl (!PyData.eqv d e)) H) := by
  intro pins s σ H x y v u Q I rx ry h
  obtain ⟨d, e, hd, he, sd, se, q⟩ := h
  obtain ⟨as, ra⟩ := Dn.reads I d x v hd (SeqAt.canLay_of_shaped sd) rx
  obtain ⟨bs, rb⟩ := Dn.reads I e y u he (SeqAt.canLay_of_shaped se) ry
  exact ne_dataH ra rb sd se hu ⟨.bl _, H, I, rfl, q⟩
mutual
theorem eqv_refl : ∀ d : PyData, d.canLay0 = true → PyData.eqv d d = true
  | .none, _ => by simp [PyData.eqv]
  | .bool _, _ => by simp [PyData.eqv]
  | .int _, _ => by simp [PyData.eqv]
  | .str _, _ => by simp [PyData.eqv]
  | .list ds, c => by simpa [PyData.eqv] using eqvAll_refl ds (by simpa [PyData.canLay0] using c)
  | .tuple ds, c => by simpa [PyData.eqv] using eqvAll_refl ds (by simpa [PyData.canLay0] using c)
  | .dict _, c => by simp [PyData.canLay0] at c
theorem eqvAll_refl : ∀ ds : List PyData, PyData.canLayAll0 ds = true → PyData.eqvAll ds ds = true
  | [], _ => by simp [PyData.eqvAll]
  | d :: ds, c => by
    have c' : PyData.canLay0 d = true ∧ PyData.canLayAll0 ds = true := by simpa [PyData.canLayAll0] using c
    simp [PyData.eqvAll, eqv_refl d c'.1, eqvAll_refl ds c'.2]
end
end L2

set_option maxRecDepth 100000
set_option maxHeartbeats 4000000
/-! ### F. Woods as data -/
namespace Wd
open PySem L2
def tyN : PyData → String
  | .none => "NoneType" | .bool _ => "bool" | .int _ => "int" | .str _ => "str" | .list _ => "list" | .tuple _ => "tuple" | .dict _ => "dict"
def isW : PyData → Bool
  | .int _ => true
  | _ => false
def isInt : PyData → Bool
  | .int _ => true
  | .bool _ => true
  | _ => false
def isBool : PyData → Bool
  | .bool _ => true
  | _ => false
def isTup : PyData → Bool
  | .tuple _ => true
  | _ => false
def isLst : PyData → Bool
  | .list _ => true
  | _ => false
def isStr : PyData → Bool
  | .str _ => true
  | _ => false
theorem dn_ty {K : PySem.W.Frag} {H : Hp} : ∀ {d : PyData} {v : V}, Dn H d v → TyOf K H v (.type (tyN d))
  | .none, v, q => by cases (show v = .non from q); exact .non
  | .bool b, v, q => by cases (show v = .bl b from q); exact .bl b
  | .int i, v, q => by cases (show v = .int i from q); exact .int i
  | .str x, v, q => by cases (show v = .str x from q); exact .str x
  | .list ds, _, ⟨a, xs, rfl, q, _⟩ => .lst q
  | .tuple ds, _, ⟨a, xs, rfl, q, _⟩ => .tup q
  | .dict k, _, ⟨_, a, rfl, q⟩ => .dK q
theorem ty_int : ∀ d : PyData, kitTy (tyN d) "int" = some (isInt d)
  | .none => (by decide +kernel : kitTy "NoneType" "int" = some false)
  | .bool _ => (by decide +kernel : kitTy "bool" "int" = some true)
  | .int _ => (by decide +kernel : kitTy "int" "int" = some true)
  | .str _ => (by decide +kernel : kitTy "str" "int" = some false)
  | .list _ => (by decide +kernel : kitTy "list" "int" = some false)
  | .tuple _ => (by decide +kernel : kitTy "tuple" "int" = some false)
  | .dict _ => (by decide +kernel : kitTy "dict" "int" = some false)
theorem ty_bool : ∀ d : PyData, kitTy (tyN d) "bool" = some (isBool d)
  | .none => (by decide +kernel : kitTy "NoneType" "bool" = some false)
  | .bool _ => (by decide +kernel : kitTy "bool" "bool" = some true)
  | .int _ => (by decide +kernel : kitTy "int" "bool" = some false)
  | .str _ => (by decide +kernel : kitTy "str" "bool" = some false)
  | .list _ => (by decide +kernel : kitTy "list" "bool" = some false)
  | .tuple _ => (by decide +kernel : kitTy "tuple" "bool" = some false)
  | .dict _ => (by decide +kernel : kitTy "dict" "bool" = some false)
theorem ty_tup : ∀ d : PyData, kitTy (tyN d) "tuple" = some (isTup d)
  | .none => (by decide +kernel : kitTy "NoneType" "tuple" = some false)
  | .bool _ => (by decide +kernel : kitTy "bool" "tuple" = some false)
  | .int _ => (by decide +kernel : kitTy "int" "tuple" = some false)
  | .str _ => (by decide +kernel : kitTy "str" "tuple" = some false)
  | .list _ => (by decide +kernel : kitTy "list" "tuple" = some false)
  | .tuple _ => (by decide +kernel : kitTy "tuple" "tuple" = some true)
  | .dict _ => (by decide +kernel : kitTy "dict" "tuple" = some false)
theorem ty_str : ∀ d : PyData, kitTy (tyN d) "str" = some (isStr d)
  | .none => (by decide +kernel : kitTy "NoneType" "str" = some false)
  | .bool _ => (by decide +kernel : kitTy "bool" "str" = some false)
  | .int _ => (by decide +kernel : kitTy "int" "str" = some false)
  | .str _ => (by decide +kernel : kitTy "str" "str" = some true)
  | .list _ => (by decide +kernel : kitTy "list" "str" = some false)
  | .tuple _ => (by decide +kernel : kitTy "tuple" "str" = some false)
  | .dict _ => (by decide +kernel : kitTy "dict" "str" = some false)
theorem ty_lst : ∀ d : PyData, kitTy (tyN d) "list" = some (isLst d)
  | .none => (by decide +kernel : kitTy "NoneType" "list" = some false)
  | .bool _ => (by decide +kernel : kitTy "bool" "list" = some false)
  | .int _ => (by decide +kernel : kitTy "int" "list" = some false)
  | .str _ => (by decide +kernel : kitTy "str" "list" = some false)
  | .list _ => (by decide +kernel : kitTy "list" "list" = some true)
  | .tuple _ => (by decide +kernel : kitTy "tuple" "list" = some false)
  | .dict _ => (by decide +kernel : kitTy "dict" "list" = some false)

/-! the program's looks at data, as functions -/
def within (d : PyData) (lo hi : Int) : Bool := match d with
  | .int i => decide (lo ≤ i) && decide (i ≤ hi)
  | _ => false
def tupLen (d : PyData) (n : Int) : Bool := match d with
  | .tuple ds => decide ((ds.length : Int) = n)
  | _ => false
def tupFull (d : PyData) : Bool := match d with
  | .tuple ds => decide (0 < ds.length)
  | _ => false
def rising (many : Int) : List PyData → Int → Bool
  | [], _ => true
  | .int i :: ds, last => decide (last + 1 ≤ i) && decide (i ≤ many - 1) && rising many ds i
  | _ :: _, _ => false
def risK (many : Int) : PyData → PyData → Bool
  | .int up, .tuple ks => rising many ks up
  | _, _ => false
def highK (h : PyData) : PyData → Bool
  | .tuple ks => within h 1 ks.length
  | _ => false
def lowH (l : PyData) : PyData → Bool
  | .int hi => within l 0 hi
  | _ => false
def isBough (many : Int) (d : PyData) : Bool := match d with
  | .tuple [u, l, h, k] => within u 0 (many - 1) && (tupFull k && (risK many u k && (highK h k && lowH l h)))
  | _ => false
def fstD : PyData → PyData
  | .tuple (x :: _) => x
  | _ => .none
def pairOk : PyData → Bool
  | .tuple [_, n] => isW n
  | _ => false
def arePairs (many : Int) (d : PyData) : Bool := match d with
  | .tuple ds => decide (0 < ds.length) && ds.all pairOk && rising many (ds.map fstD) (-1)
  | _ => false
def neI : PyData → PyData → Bool
  | .int i, .int j => !decide (i = j)
  | _, _ => false
def tieK (many : Int) (s : Str) (x y : PyData) : Bool := if s = ("most" : Str) then isW x && arePairs many y else if s = ("needs" : Str) ∨ s = ("bans" : Str) then within x 0 (many - 1) && (within y 0 (many - 1) && neI x y) else false
def tieD (many : Int) (x y : PyData) : PyData → Bool
  | .str s => tieK many s x y
  | _ => false
def isTie (many : Int) (d : PyData) : Bool := match d with
  | .tuple [k, x, y] => tieD many x y k
  | _ => false
def toI : PyData → Int
  | .int i => i
  | _ => 0
def kidsOf : PyData → List Int
  | .tuple [_, _, _, .tuple ks] => ks.map toI
  | _ => []
/-- the boughs are those of a wood -/
structure GoodB (many : Int) (bs : List PyData) : Prop where
  each : ∀ b ∈ bs, isBough many b = true
  kids : (bs.flatMap kidsOf).Perm ((List.range' 0 (many - 1).toNat).map fun i : Nat => (1 : Int) + i)
theorem same_new {H : Hp} {p : Addr} (h : H p = none) (o : HO) : Same H (upd H p o) := same_of fun b u q => by rw [upd_ne (ne_of_none q h)]; exact q
theorem small {n : Nat} (h : n ≤ 1000) : n ≤ sizeLine := Nat.le_of_lt (small1000 h)
theorem dn_int {H : Hp} {i : Int} {v : V} (h : Dn H (.int i) v) : v = .int i := h
theorem dn_tup {H : Hp} {ds : List PyData} {v : V} (h : Dn H (.tuple ds) v) : ∃ a xs, v = .ref a ∧ H a = some (.tup xs) ∧ DnL H ds xs := h
theorem isW_int {d : PyData} (h : isW d = true) : ∃ i, d = .int i := by
  cases d <;> first | exact ⟨_, rfl⟩ | cases h
theorem isTup_tup {d : PyData} (h : isTup d = true) : ∃ ds, d = .tuple ds := by
  cases d <;> first | exact ⟨_, rfl⟩ | cases h
theorem sqT {K : PySem.W.Frag} {H : Hp} {a : Addr} {xs : List V} (h : H a = some (.tup xs)) : SqT K H a xs := .inl (.inl h)
theorem at0 {x : V} {r : List V} : atI (x :: r) 0 = some x := atI_nat (j := 0) rfl
theorem at1 {x y : V} {r : List V} : atI (x :: y :: r) 1 = some y := atI_nat (j := 1) rfl
theorem at2 {x y z : V} {r : List V} : atI (x :: y :: z :: r) 2 = some z := atI_nat (j := 2) rfl
theorem at3 {x y z w : V} {r : List V} : atI (x :: y :: z :: w :: r) 3 = some w := atI_nat (j := 3) rfl
theorem within_int {d : PyData} {lo hi : Int} (h : within d lo hi = true) : ∃ i, d = .int i ∧ lo ≤ i ∧ i ≤ hi := by
  cases d with
  | int i =>
    have z : (decide (lo ≤ i) && decide (i ≤ hi)) = true := h
    simp only [Bool.and_eq_true, decide_eq_true_eq] at z
    exact ⟨i, rfl, z.1, z.2⟩
  | _ => cases h
theorem tupFull_tup {d : PyData} (h : tupFull d = true) : ∃ ds, d = .tuple ds ∧ 0 < ds.length := by
  cases d with
  | tuple ds => exact ⟨ds, rfl, of_decide_eq_true h⟩
  | _ => cases h
theorem tupLen_tup {d : PyData} {n : Nat} (h : tupLen d n = true) : ∃ ds, d = .tuple ds ∧ ds.length = n := by
  cases d with
  | tuple ds =>
    have z : ((ds.length : Int) = (n : Int)) := of_decide_eq_true h
    exact ⟨ds, rfl, by omega⟩
  | _ => cases h
theorem rising_ints {many : Int} : ∀ {ks : List PyData} {last : Int}, rising many ks last = true → ks = (ks.map toI).map PyData.int
  | [], _, _ => rfl
  | .int i :: ks, last, h => by
    have z : (decide (last + 1 ≤ i) && decide (i ≤ many - 1) && rising many ks i) = true := h
    rw [Bool.and_eq_true] at z
    show PyData.int i :: ks = PyData.int i :: (ks.map toI).map PyData.int
    rw [← rising_ints z.2]
  | .none :: _, _, h => by cases h
  | .bool _ :: _, _, h => by cases h
  | .str _ :: _, _, h => by cases h
  | .list _ :: _, _, h => by cases h
  | .tuple _ :: _, _, h => by cases h
  | .dict _ :: _, _, h => by cases h
theorem dnl_ints {H : Hp} : ∀ {ns : List Int} {xs : List V}, DnL H (ns.map PyData.int) xs → xs = ns.map V.int
  | [], xs, h => h
  | n :: r, _, ⟨x, t, rfl, hx, ht⟩ => by rw [dnl_ints ht, dn_int hx]; rfl
theorem ints_dnl {H : Hp} : ∀ (ns : List Int), DnL H (ns.map PyData.int) (ns.map V.int)
  | [] => rfl
  | n :: r => ⟨_, _, rfl, rfl, ints_dnl r⟩
theorem range_sorted (lo : Int) : ∀ (n k : Nat), (((List.range' k n).map fun i : Nat => lo + (i : Int))).Pairwise (· ≤ ·)
  | 0, _ => List.Pairwise.nil
  | n + 1, k => by
    rw [List.range'_succ, List.map_cons]
    refine List.Pairwise.cons (fun b hb => ?_) (range_sorted lo n (k + 1))
    obtain ⟨i, hi, rfl⟩ := List.mem_map.mp hb
    have := (List.mem_range'_1.mp hi).1
    omega
end Wd

set_option maxRecDepth 100000
set_option maxHeartbeats 4000000
namespace Ow
open PySem L2 Wd
-- woods
/-! ### the program's looks -/
def spWhole : Sp := fun vs H Q _ => ∃ (d : PyData) (v : V), vs = [v] ∧ Dn H d v ∧ Q (.bl (isW d)) H
def spWithin : Sp := fun vs H Q _ => ∃ (d : PyData) (v : V) (lo hi : Int), vs = [v, .int lo, .int hi] ∧ Dn H d v ∧ Q (.bl (within d lo hi)) H
def spOption : Sp := fun vs H Q _ => ∃ (d : PyData) (v : V) (many : Int), vs = [.int many, v] ∧ Dn H d v ∧ Q (.bl (within d 0 (many - 1))) H
def spTupLen : Sp := fun vs H Q _ => ∃ (d : PyData) (v : V) (n : Int), vs = [v, .int n] ∧ Dn H d v ∧ Q (.bl (tupLen d n)) H
def spFull : Sp := fun vs H Q _ => ∃ (d : PyData) (v : V), vs = [v] ∧ Dn H d v ∧ Q (.bl (tupFull d)) H
def spRising (K : PySem.W.Frag) : Sp := fun vs H Q _ => ∃ (many floor : Int) (a : Addr) (b : Bool) (ds : List PyData) (xs : List V), vs = [.int many, .ref a, .int floor] ∧ Sq K b H a xs ∧ DnL H ds xs ∧ Q (.bl (rising many ds floor)) H
def spBough : Sp := fun vs H Q _ => ∃ (d : PyData) (v : V) (many : Int), vs = [.int many, v] ∧ Dn H d v ∧ Q (.bl (isBough many d)) H
def lenOk : PyData → Prop
  | .tuple ds => ds.length ≤ 1000
  | _ => True
def thirdOk : PyData → Prop
  | .tuple (_ :: _ :: y :: _) => lenOk y
  | _ => True
def spPairs : Sp := fun vs H Q _ => ∃ (d : PyData) (v : V) (many : Int), vs = [.int many, v] ∧ Dn H d v ∧ lenOk d ∧ ∀ H', Same H H' → Q (.bl (arePairs many d)) H'
def spTie : Sp := fun vs H Q _ => ∃ (d : PyData) (v : V) (many : Int), vs = [.int many, v] ∧ Dn H d v ∧ thirdOk d ∧ ∀ H', Same H H' → Q (.bl (isTie many d)) H'
def nextR (many : Int) (d : PyData) (r : List PyData) : Bool := match d with
  | .int j => rising many r j
  | _ => false
theorem rising_at {many last : Int} {ds : List PyData} {i : Nat} {d : PyData} (h : ds[i]? = some d) : rising many (ds.drop i) last = (within d (last + 1) (many - 1) && nextR many d (ds.drop (i + 1))) := by
  obtain ⟨hi, e⟩ := List.getElem?_eq_some_iff.mp h
  rw [List.drop_eq_getElem_cons hi, e]
  cases d <;> rfl
def rPv (many floor : Int) (p : Addr) (ds : List PyData) (H : Hp) (i : Nat) (σ : St) (H2 : Hp) : Prop :=
  (∃ (last : Int) (v : Option V), σ = [some (.int many), some (.ref p), some (.int floor), some (.int last), v] ∧ rising many (ds.drop i) last = rising many ds floor) ∧ H2 = H
-- woods2
theorem four {ds : List PyData} (h : ds.length = 4) : ∃ u l h k, ds = [u, l, h, k] := by
  match ds, h with
  | [u, l, h, k], _ => exact ⟨u, l, h, k, rfl⟩
theorem three {ds : List PyData} (h : ds.length = 3) : ∃ u l h, ds = [u, l, h] := by
  match ds, h with
  | [u, l, h], _ => exact ⟨u, l, h, rfl⟩
theorem two {ds : List PyData} (h : ds.length = 2) : ∃ u l, ds = [u, l] := by
  match ds, h with
  | [u, l], _ => exact ⟨u, l, rfl⟩
theorem noBough {many : Int} {d : PyData} (h : tupLen d 4 = false) : isBough many d = false := by
  cases d with
  | tuple ds =>
    match ds with
    | [u, l, h', k] => cases h
    | [] => rfl
    | [_] => rfl
    | [_, _] => rfl
    | [_, _, _] => rfl
    | _ :: _ :: _ :: _ :: _ :: _ => rfl
  | _ => rfl
theorem noTie {many : Int} {d : PyData} (h : tupLen d 3 = false) : isTie many d = false := by
  cases d with
  | tuple ds =>
    match ds with
    | [u, l, h'] => cases h
    | [] => rfl
    | [_] => rfl
    | [_, _] => rfl
    | _ :: _ :: _ :: _ :: _ => rfl
  | _ => rfl
theorem noPair {d : PyData} (h : tupLen d 2 = false) : pairOk d = false := by
  cases d with
  | tuple ds =>
    match ds with
    | [u, l] => cases h
    | [] => rfl
    | [_] => rfl
    | _ :: _ :: _ :: _ => rfl
  | _ => rfl
theorem take_all {α : Type} {f : α → Bool} {ds : List α} {i : Nat} {d : α} (h : ds[i]? = some d) (ha : (ds.take i).all f = true) (hd : f d = true) : (ds.take (i + 1)).all f = true := by
  obtain ⟨hi, e⟩ := List.getElem?_eq_some_iff.mp h
  rw [List.take_succ_eq_append_getElem hi, List.all_append, ha, e]
  simp [hd]
theorem all_not {α : Type} {f : α → Bool} {ds : List α} {i : Nat} {d : α} (h : ds[i]? = some d) (hd : f d = false) : ds.all f = false := by
  rw [Bool.eq_false_iff]
  intro z
  rw [List.all_eq_true] at z
  rw [z d (List.mem_of_getElem? h)] at hd
  cases hd
-- woods3a
/-- what wood_of, check_boughs and check_cross_ties do with what tells a wood -/
def tiesOk (many : Int) (cs : List PyData) : Prop := ∀ c ∈ cs, isTie many c = true ∧ thirdOk c
def spCheckB : Sp := fun vs H Q _ => ∃ (many : Int) (p : Addr) (xs : List V) (bs : List PyData), vs = [.int many, .ref p] ∧ H p = some (.tup xs) ∧ DnL H bs xs ∧ GoodB many bs ∧ 1 ≤ many ∧ many ≤ 9 ∧ bs.length ≤ 9 ∧ ∀ H', Same H H' → Q .non H'
def spCheckC : Sp := fun vs H Q _ => ∃ (many : Int) (p : Addr) (xs : List V) (cs : List PyData), vs = [.int many, .ref p] ∧ H p = some (.tup xs) ∧ DnL H cs xs ∧ tiesOk many cs ∧ cs.length ≤ 8 ∧ ∀ H', Same H H' → Q .non H'
def spWood : Sp := fun vs H Q _ => ∃ (many : Int) (p r : Addr) (xs ys : List V) (bs cs : List PyData), vs = [.int many, .ref p, .ref r] ∧ H p = some (.lst xs) ∧ H r = some (.lst ys) ∧ DnL H bs xs ∧ DnL H cs ys ∧ GoodB many bs ∧ 1 ≤ many ∧ many ≤ 9 ∧ bs.length ≤ 9 ∧ tiesOk many cs ∧ cs.length ≤ 8 ∧
  ∀ (wd tb tc : Addr) (H' : Hp), Same H H' → H' wd = some (.tup [.int many, .ref tb, .ref tc]) → H' tb = some (.tup xs) → H' tc = some (.tup ys) → Q (.ref wd) H'
theorem dec_strs (s t : Str) : decide (V.str s = V.str t) = decide (s = t) := by
  by_cases h : s = t
  · subst h
    simp
  · rw [decide_eq_false h, decide_eq_false (fun z => h (by injection z))]
theorem bough_kids {H : Hp} {many : Int} {b : PyData} {v : V} (hb : isBough many b = true) (hd : Dn H b v) : ∃ p xu xl xh pk, v = .ref p ∧ H p = some (.tup [xu, xl, xh, .ref pk]) ∧ H pk = some (.tup ((kidsOf b).map V.int)) := by
  cases b with
  | tuple ds =>
    match ds, hb, hd with
    | [u, l, h, k], hb, hd =>
      obtain ⟨p, xs, rfl, hp, xu, r1, rfl, hu, xl, r2, rfl, hlo, xh, r3, rfl, hh, xk, r4, rfl, hk, hnil⟩ := dn_tup hd
      cases (show r4 = [] from hnil)
      have z : (within u 0 (many - 1) && (tupFull k && (risK many u k && (highK h k && lowH l h)))) = true := hb
      simp only [Bool.and_eq_true] at z
      obtain ⟨z1, z2, z3, _, _⟩ := z
      obtain ⟨up, rfl, _, _⟩ := within_int z1
      obtain ⟨ks, rfl, _⟩ := tupFull_tup z2
      obtain ⟨pk, ys, rfl, hpk, hks⟩ := dn_tup hk
      have e := rising_ints (show rising many ks up = true from z3)
      rw [e] at hks
      rw [dnl_ints hks] at hpk
      exact ⟨p, xu, xl, xh, pk, rfl, hp, hpk⟩
  | _ => cases hb
theorem kids_few {many : Int} {bs : List PyData} (G : GoodB many bs) (h9 : many ≤ 9) (i : Nat) : ((bs.take i).flatMap kidsOf).length ≤ 8 := by
  have e := G.kids.length_eq
  rw [List.length_map, List.length_range'] at e
  have s : ((bs.take i).flatMap kidsOf).length ≤ (bs.flatMap kidsOf).length := by
    have e2 : bs.flatMap kidsOf = (bs.take i).flatMap kidsOf ++ (bs.drop i).flatMap kidsOf := by
      rw [← List.flatMap_append, List.take_append_drop]
    rw [e2, List.length_append]
    omega
  omega
theorem flatMap_take {α β : Type} {f : α → List β} {ds : List α} {i : Nat} {d : α} (h : ds[i]? = some d) : (ds.take (i + 1)).flatMap f = (ds.take i).flatMap f ++ f d := by
  obtain ⟨hi, e⟩ := List.getElem?_eq_some_iff.mp h
  rw [List.take_succ_eq_append_getElem hi, List.flatMap_append, e]
  simp
-- woods3t
-- laws
/-! ### the statement's own helpers -/
def spCell (K : PySem.W.Frag) : Sp := fun vs H Q _ => ∃ (a : Addr) (ns : List Int) (k : Int), vs = [.ref a, .int k] ∧ SqL K H a (ns.map V.int) ∧ ns.length ≤ 63 ∧ 0 ≤ k ∧ k < 1000 ∧ ∀ c : Int, 0 ≤ c → c < 2147483629 → Q (.int c) H
def spMany9 (K : PySem.W.Frag) : Sp := fun vs H Q _ => ∃ (a : Addr) (ns : List Int), vs = [.ref a] ∧ SqL K H a (ns.map V.int) ∧ ns.length ≤ 63 ∧ ∀ m : Int, 1 ≤ m → m ≤ 9 → Q (.int m) H
/-- data of tuples, texts and ints alone, so deep at most -/
def flatD : Nat → PyData → Bool
  | _, .int _ => true
  | _, .str s => PyData.strOk s
  | n + 1, .tuple ds => decide (ds.length ≤ 1000) && ds.all (flatD n)
  | _, _ => false
def spTieMade : Sp := fun vs H Q _ => ∃ cell many : Int, vs = [.int cell, .int many] ∧ 0 ≤ cell ∧ cell < 2147483629 ∧ 1 ≤ many ∧ many ≤ 9 ∧ ∀ (d : PyData) (v : V) (H' : Hp), Same H H' → Dn H' d v → isTie many d = true → thirdOk d → flatD 3 d = true → Q v H'
def spCross (K : PySem.W.Frag) : Sp := fun vs H Q _ => ∃ (a : Addr) (ns : List Int) (many : Int), vs = [.ref a, .int many] ∧ SqL K H a (ns.map V.int) ∧ ns.length ≤ 63 ∧ 1 ≤ many ∧ many ≤ 9 ∧
  ∀ (l : Addr) (cs : List PyData) (xs : List V) (H' : Hp), Same H H' → H' l = some (.lst xs) → H l = none → DnL H' cs xs → tiesOk many cs → cs.length ≤ 8 → cs.all (flatD 3) = true → Q (.ref l) H'
/-! a tie made -/
theorem mod_near {many one x : Int} (h1 : 1 < many) (h9 : many ≤ 9) (o0 : 0 ≤ one) (o1 : one < many) (x0 : 0 ≤ x) (x1 : x < many - 1) : 0 ≤ (one + 1 + x) % many ∧ (one + 1 + x) % many < many ∧ one ≠ (one + 1 + x) % many := by
  have e : many = 2 ∨ many = 3 ∨ many = 4 ∨ many = 5 ∨ many = 6 ∨ many = 7 ∨ many = 8 ∨ many = 9 := by omega
  rcases e with rfl | rfl | rfl | rfl | rfl | rfl | rfl | rfl <;> omega
theorem some_bit : ∀ m : _root_.Fin 10, ∀ s : _root_.Fin 512, 0 < s.val → s.val < 2 ^ m.val → ∃ k : _root_.Fin 9, k.val < m.val ∧ s.val / 2 ^ k.val % 2 = 1 := by decide +kernel
theorem strOk_most : PyData.strOk ("most" : Str) = true := by decide +kernel
theorem strOk_needs : PyData.strOk ("needs" : Str) = true := by decide +kernel
theorem strOk_bans : PyData.strOk ("bans" : Str) = true := by decide +kernel
theorem pow_le {m : Nat} (h : m ≤ 9) : 2 ^ m ≤ 512 := Nat.pow_le_pow_right (by decide) h
/-- the pairs of a most tie so far: options below i, rising -/
structure PairsTo (H : Hp) (i : Nat) (ps : List PyData) (xs : List V) : Prop where
  dn : DnL H ps xs
  ok : ps.all pairOk = true
  flat : ps.all (flatD 1) = true
  ris : rising (i : Int) (ps.map fstD) (-1) = true
  few : ps.length ≤ i
theorem rising_mono {m m' : Int} (h : m ≤ m') : ∀ {ks : List PyData} {u : Int}, rising m ks u = true → rising m' ks u = true
  | [], _, _ => rfl
  | .int i :: ks, u, z => by
    have z' : (decide (u + 1 ≤ i) && decide (i ≤ m - 1) && rising m ks i) = true := z
    show (decide (u + 1 ≤ i) && decide (i ≤ m' - 1) && rising m' ks i) = true
    simp only [Bool.and_eq_true, decide_eq_true_eq] at z' ⊢
    exact ⟨⟨z'.1.1, by omega⟩, rising_mono h z'.2⟩
  | .none :: _, _, z => by cases z
  | .bool _ :: _, _, z => by cases z
  | .str _ :: _, _, z => by cases z
  | .list _ :: _, _, z => by cases z
  | .tuple _ :: _, _, z => by cases z
  | .dict _ :: _, _, z => by cases z
theorem rising_snoc {m j : Int} (h : j < m) : ∀ {ks : List PyData} {u : Int}, rising j ks u = true → u < j → rising m (ks ++ [.int j]) u = true
  | [], u, _, hu => by
    show (decide (u + 1 ≤ j) && decide (j ≤ m - 1) && true) = true
    rw [decide_eq_true (by omega), decide_eq_true (by omega)]
    rfl
  | .int i :: ks, u, z, hu => by
    have z' : (decide (u + 1 ≤ i) && decide (i ≤ j - 1) && rising j ks i) = true := z
    show (decide (u + 1 ≤ i) && decide (i ≤ m - 1) && rising m (ks ++ [.int j]) i) = true
    simp only [Bool.and_eq_true, decide_eq_true_eq] at z' ⊢
    exact ⟨⟨z'.1.1, by omega⟩, rising_snoc h z'.2 (by omega)⟩
  | .none :: _, _, z, _ => by cases z
  | .bool _ :: _, _, z, _ => by cases z
  | .str _ :: _, _, z, _ => by cases z
  | .list _ :: _, _, z, _ => by cases z
  | .tuple _ :: _, _, z, _ => by cases z
  | .dict _ :: _, _, z, _ => by cases z
theorem bit_eq (n : Int) (k : Nat) : Builtin.bitAnd (n / 2 ^ k) 1 = n / 2 ^ k % 2 := PySem.W.kbt_mask (n / 2 ^ k) 1
theorem DnL.keepT {H H' : Hp} {f : PyData → Bool} (k : ∀ d v, f d = true → Dn H d v → Dn H' d v) : ∀ (ds : List PyData) (xs : List V), ds.all f = true → DnL H ds xs → DnL H' ds xs
  | [], _, _, q => q
  | d :: ds, _, c, ⟨x, r, e, q, z⟩ => by
    rw [List.all_cons, Bool.and_eq_true] at c
    exact ⟨x, r, e, k d x c.1 q, DnL.keepT k ds r c.2 z⟩
theorem Dn.keepT {H H' : Hp} (h : ∀ b xs, H b = some (.tup xs) → H' b = some (.tup xs)) : ∀ (n : Nat) (d : PyData) (v : V), flatD n d = true → Dn H d v → Dn H' d v
  | _, .int _, _, _, q => q
  | _, .str _, _, _, q => q
  | n + 1, .tuple ds, _, c, ⟨p, xs, e, q, z⟩ => ⟨p, xs, e, h _ _ q, DnL.keepT (Dn.keepT h n) ds xs ((Bool.and_eq_true _ _).mp c).2 z⟩
  | 0, .tuple ds, _, c, _ => by cases c
  | 0, .none, _, c, _ => by cases c
  | n + 1, .none, _, c, _ => by cases c
  | 0, .bool _, _, c, _ => by cases c
  | n + 1, .bool _, _, c, _ => by cases c
  | 0, .list _, _, c, _ => by cases c
  | n + 1, .list _, _, c, _ => by cases c
  | 0, .dict _, _, c, _ => by cases c
  | n + 1, .dict _, _, c, _ => by cases c
theorem keep_lst {H : Hp} {p : Addr} {xs ys : List V} (h : H p = some (.lst xs)) : ∀ b zs, H b = some (.tup zs) → upd H p (.lst ys) b = some (.tup zs) := fun b zs q => by
  rw [upd_ne (ne_of q h (by intro z; cases z))]
  exact q
-- boughs
/-! ### the boughs made -/
structure Grp where
  t : Addr
  up : Int
  l : Addr
  kids : List Int
/-- the groups stand at g; H0 is the heap at the entry -/
structure GAt (H0 H : Hp) (g : Addr) (gs : List Grp) : Prop where
  at_ : H g = some (.lst (gs.map fun x => V.ref x.t))
  new : H0 g = none
  tup : ∀ x ∈ gs, H x.t = some (.tup [.int x.up, .ref x.l])
  lst : ∀ x ∈ gs, H x.l = some (.lst (x.kids.map V.int)) ∧ H0 x.l = none ∧ g ≠ x.l
  nd : (gs.map (·.l)).Nodup
/-- what holds of the groups when the options below k are dealt out -/
structure GOk (k : Int) (gs : List Grp) : Prop where
  each : ∀ x ∈ gs, 0 ≤ x.up ∧ x.kids ≠ [] ∧ rising k (x.kids.map PyData.int) x.up = true
  perm : (gs.flatMap (·.kids)).Perm ((List.range' 0 (k - 1).toNat).map fun i : Nat => (1 : Int) + i)
theorem GOk.few {k : Int} {gs : List Grp} (G : GOk k gs) : gs.length ≤ (k - 1).toNat := by
  have e := G.perm.length_eq
  rw [List.length_map, List.length_range'] at e
  rw [← e]
  have go : ∀ l : List Grp, (∀ x ∈ l, x.kids ≠ []) → l.length ≤ (l.flatMap (·.kids)).length := by
    intro l
    induction l with
    | nil => intro _; exact Nat.le_refl _
    | cons x r ih =>
      intro h
      rw [List.flatMap_cons, List.length_append, List.length_cons]
      have h1 := List.length_pos_iff.mpr (h x List.mem_cons_self)
      have h2 := ih fun y hy => h y (List.mem_cons_of_mem _ hy)
      omega
  exact go gs fun x hx => (G.each x hx).2.1
theorem range_snoc (k : Nat) : ((List.range' 0 k).map fun i : Nat => (1 : Int) + i) ++ [((k : Int) + 1)] = (List.range' 0 (k + 1)).map fun i : Nat => (1 : Int) + i := by
  rw [List.range'_concat, List.map_append]
  simp
  omega
theorem GOk.new {k : Nat} {gs : List Grp} {t l : Addr} {u : Int} (G : GOk ((k : Int) + 1) gs) (u0 : 0 ≤ u) (u1 : u < (k : Int) + 1) : GOk ((k : Int) + 2) (gs ++ [⟨t, u, l, [(k : Int) + 1]⟩]) where
  each := fun x hx => by
    rcases List.mem_append.mp hx with z | z
    · obtain ⟨a, b, c⟩ := G.each x z
      exact ⟨a, b, rising_mono (by omega) c⟩
    · rw [List.mem_singleton.mp z]
      refine ⟨u0, by simp, ?_⟩
      show (decide (u + 1 ≤ (k : Int) + 1) && decide ((k : Int) + 1 ≤ (k : Int) + 2 - 1) && true) = true
      rw [decide_eq_true (by omega), decide_eq_true (by omega)]
      rfl
  perm := by
    rw [List.flatMap_append]
    have e : ((k : Int) + 2 - 1).toNat = k + 1 := by omega
    have e' : ((k : Int) + 1 - 1).toNat = k := by omega
    have p := G.perm
    rw [e'] at p
    rw [e, ← range_snoc]
    exact p.append (by simp)
theorem GOk.put {k : Nat} {pre post : List Grp} {x : Grp} (G : GOk ((k : Int) + 1) (pre ++ x :: post)) : GOk ((k : Int) + 2) (pre ++ ⟨x.t, x.up, x.l, x.kids ++ [(k : Int) + 1]⟩ :: post) where
  each := fun y hy => by
    have old : ∀ z ∈ pre ++ x :: post, 0 ≤ z.up ∧ z.kids ≠ [] ∧ rising ((k : Int) + 2) (z.kids.map PyData.int) z.up = true := fun z hz => by
      obtain ⟨a, b, c⟩ := G.each z hz
      exact ⟨a, b, rising_mono (by omega) c⟩
    rcases List.mem_append.mp hy with z | z
    · exact old y (List.mem_append_left _ z)
    · rcases List.mem_cons.mp z with z | z
      · subst z
        obtain ⟨a, b, c⟩ := G.each x (by simp)
        refine ⟨a, by simp, ?_⟩
        show rising ((k : Int) + 2) ((x.kids ++ [(k : Int) + 1]).map PyData.int) x.up = true
        rw [List.map_append]
        refine rising_snoc (by omega) c ?_
        cases hk : x.kids with
        | nil => exact absurd hk b
        | cons n r =>
          rw [hk] at c
          have c' : (decide (x.up + 1 ≤ n) && decide (n ≤ (k : Int) + 1 - 1) && rising ((k : Int) + 1) (r.map PyData.int) n) = true := c
          simp only [Bool.and_eq_true, decide_eq_true_eq] at c'
          omega
      · exact old y (by simp [z])
  perm := by
    have e : ((k : Int) + 2 - 1).toNat = k + 1 := by omega
    have e' : ((k : Int) + 1 - 1).toNat = k := by omega
    have p := G.perm
    rw [e'] at p
    rw [e, ← range_snoc]
    refine List.Perm.trans ?_ (p.append (List.Perm.refl [((k : Int) + 1)]))
    rw [List.flatMap_append, List.flatMap_append, List.flatMap_cons, List.flatMap_cons, List.append_assoc, List.append_assoc, List.append_assoc]
    exact (List.Perm.refl _).append ((List.Perm.refl _).append List.perm_append_comm)
theorem GAt.add {H0 H : Hp} {g l t : Addr} {gs : List Grp} {u k : Int} (G : GAt H0 H g gs) (sm : Same H0 H) (hl : H l = none) (ht : upd H l (.lst [.int k]) t = none) :
    GAt H0 (upd (upd (upd H l (.lst [.int k])) t (.tup [.int u, .ref l])) g (.lst ((gs.map fun x => V.ref x.t) ++ [.ref t]))) g (gs ++ [⟨t, u, l, [k]⟩]) := by
  have ngl : g ≠ l := ne_of_none G.at_ hl
  have s1 := same_new hl (.lst [.int k])
  have s2 := s1.trans (same_new ht (.tup [.int u, .ref l]))
  have ntl : t ≠ l := fun z => by rw [z, upd_same] at ht; cases ht
  have ngt : g ≠ t := ne_of_none (s1 _ _ G.at_) ht
  refine ⟨?_, G.new, fun x hx => ?_, fun x hx => ?_, ?_⟩
  · rw [upd_same, List.map_append]
    rfl
  · rcases List.mem_append.mp hx with z | z
    · rw [upd_ne (ne_of (G.tup x z) G.at_ (by intro q; cases q))]
      exact s2 _ _ (G.tup x z)
    · rw [List.mem_singleton.mp z]
      show upd _ g _ t = _
      rw [upd_ne (Ne.symm ngt), upd_same]
  · rcases List.mem_append.mp hx with z | z
    · obtain ⟨a, b, c⟩ := G.lst x z
      refine ⟨?_, b, c⟩
      rw [upd_ne (Ne.symm c)]
      exact s2 _ _ a
    · rw [List.mem_singleton.mp z]
      refine ⟨?_, sm.free hl, ngl⟩
      show upd _ g _ l = _
      rw [upd_ne (Ne.symm ngl), upd_ne (Ne.symm ntl), upd_same]
      rfl
  · rw [List.map_append]
    refine List.nodup_append.mpr ⟨G.nd, by simp, fun x hx y hy => ?_⟩
    obtain ⟨z, hz, rfl⟩ := List.mem_map.mp hx
    have e : y = l := by simpa using hy
    rw [e]
    exact ne_of_none (G.lst z hz).1 hl
theorem GAt.put {H0 H : Hp} {g : Addr} {pre post : List Grp} {x : Grp} {k : Int} (G : GAt H0 H g (pre ++ x :: post)) : GAt H0 (upd H x.l (.lst (x.kids.map V.int ++ [.int k]))) g (pre ++ ⟨x.t, x.up, x.l, x.kids ++ [k]⟩ :: post) := by
  have hx : x ∈ pre ++ x :: post := by simp
  obtain ⟨a, b, c⟩ := G.lst x hx
  have nd := G.nd
  rw [List.map_append, List.map_cons] at nd
  obtain ⟨_, n2, n3⟩ := List.nodup_append.mp nd
  have oth : ∀ y, y ∈ pre ∨ y ∈ post → y.l ≠ x.l := fun y hy e => by
    rcases hy with hy | hy
    · exact n3 y.l (List.mem_map.mpr ⟨y, hy, rfl⟩) x.l (by simp) e
    · exact (List.nodup_cons.mp n2).1 (by rw [← e]; exact List.mem_map.mpr ⟨y, hy, rfl⟩)
  have mem : ∀ y ∈ pre ++ (⟨x.t, x.up, x.l, x.kids ++ [k]⟩ : Grp) :: post, (y ∈ pre ∨ y ∈ post) ∨ y = ⟨x.t, x.up, x.l, x.kids ++ [k]⟩ := fun y hy => by
    rcases List.mem_append.mp hy with z | z
    · exact .inl (.inl z)
    · rcases List.mem_cons.mp z with z | z
      · exact .inr z
      · exact .inl (.inr z)
  have old : ∀ y, y ∈ pre ∨ y ∈ post → y ∈ pre ++ x :: post := fun y hy => by
    rcases hy with z | z <;> simp [z]
  refine ⟨?_, G.new, fun y hy => ?_, fun y hy => ?_, ?_⟩
  · rw [upd_ne c, G.at_, List.map_append, List.map_append, List.map_cons, List.map_cons]
  · rcases mem y hy with z | rfl
    · rw [upd_ne (ne_of (G.tup y (old y z)) a (by intro q; cases q))]
      exact G.tup y (old y z)
    · show upd H x.l _ x.t = _
      rw [upd_ne (ne_of (G.tup x hx) a (by intro q; cases q))]
      exact G.tup x hx
  · rcases mem y hy with z | rfl
    · obtain ⟨a', b', c'⟩ := G.lst y (old y z)
      refine ⟨?_, b', c'⟩
      rw [upd_ne (oth y z)]
      exact a'
    · refine ⟨?_, b, c⟩
      show upd H x.l _ x.l = _
      rw [upd_same, List.map_append]
      rfl
  · have e : (pre ++ (⟨x.t, x.up, x.l, x.kids ++ [k]⟩ : Grp) :: post).map (·.l) = (pre ++ x :: post).map (·.l) := by
      rw [List.map_append, List.map_append, List.map_cons, List.map_cons]
    rw [e]
    exact G.nd
theorem GAt.same {H0 H H' : Hp} {g : Addr} {gs : List Grp} (G : GAt H0 H g gs) (s : Same H H') : GAt H0 H' g gs :=
  ⟨s _ _ G.at_, G.new, fun x hx => s _ _ (G.tup x hx), fun x hx => ⟨s _ _ (G.lst x hx).1, (G.lst x hx).2⟩, G.nd⟩
/-- the bough of a group -/
def bghD (u lo hi : Int) (kids : List Int) : PyData := .tuple [.int u, .int lo, .int hi, .tuple (kids.map PyData.int)]
theorem bgh_ok {m u lo hi : Int} {kids : List Int} (u0 : 0 ≤ u) (ne : kids ≠ []) (r : rising m (kids.map PyData.int) u = true) (l0 : 0 ≤ lo) (l1 : lo ≤ hi) (h0 : 1 ≤ hi) (h1 : hi ≤ kids.length) : isBough m (bghD u lo hi kids) = true := by
  have u1 : u ≤ m - 1 := by
    cases hk : kids with
    | nil => exact absurd hk ne
    | cons n t =>
      rw [hk] at r
      have c' : (decide (u + 1 ≤ n) && decide (n ≤ m - 1) && rising m (t.map PyData.int) n) = true := r
      simp only [Bool.and_eq_true, decide_eq_true_eq] at c'
      omega
  show (within (.int u) 0 (m - 1) && (tupFull (.tuple (kids.map PyData.int)) && (rising m (kids.map PyData.int) u && (within (.int hi) 1 ((kids.map PyData.int).length : Nat) && within (.int lo) 0 hi)))) = true
  have e1 : within (.int u) 0 (m - 1) = true := by
    show (decide (0 ≤ u) && decide (u ≤ m - 1)) = true
    rw [decide_eq_true u0, decide_eq_true u1]
    rfl
  have e2 : tupFull (.tuple (kids.map PyData.int)) = true := by
    refine decide_eq_true ?_
    rw [List.length_map]
    exact List.length_pos_iff.mpr ne
  have e3 : within (.int hi) 1 ((kids.map PyData.int).length : Nat) = true := by
    show (decide (1 ≤ hi) && decide (hi ≤ ((kids.map PyData.int).length : Nat))) = true
    rw [List.length_map, decide_eq_true h0, decide_eq_true h1]
    rfl
  have e4 : within (.int lo) 0 hi = true := by
    show (decide (0 ≤ lo) && decide (lo ≤ hi)) = true
    rw [decide_eq_true l0, decide_eq_true l1]
    rfl
  rw [e1, e2, r, e3, e4]
  rfl
theorem flat_ints1 (kids : List Int) : (kids.map PyData.int).all (flatD 1) = true := by
  rw [List.all_eq_true]
  intro x hx
  obtain ⟨i, _, rfl⟩ := List.mem_map.mp hx
  rfl
theorem bgh_flat (u lo hi : Int) (kids : List Int) (h : kids.length ≤ 1000) : flatD 3 (bghD u lo hi kids) = true := by
  show (true && (true && (true && (true && ((decide ((kids.map PyData.int).length ≤ 1000) && (kids.map PyData.int).all (flatD 1)) && true))))) = true
  rw [flat_ints1, List.length_map, decide_eq_true h]
  rfl
theorem bgh_kids (u lo hi : Int) (kids : List Int) : kidsOf (bghD u lo hi kids) = kids := by
  show (kids.map PyData.int).map toI = kids
  rw [List.map_map]
  have : (toI ∘ PyData.int) = id := rfl
  rw [this, List.map_id]

theorem cut_rot {α : Type} (f : α → V) (xs : List α) (t : Nat) (h : t ≤ xs.length) : cutV (xs.map f) (some (t : Int)) none ++ cutV (xs.map f) none (some (t : Int)) = (xs.drop t ++ xs.take t).map f := by
  unfold cutV
  rw [HT.sIx_nat, HT.sIx_nat, HT.sIx_none, HT.sIx_none, List.length_map, Nat.min_eq_left h, List.drop_zero, List.map_append, List.map_drop, List.map_take, Nat.sub_zero]
  congr 1
  rw [List.take_of_length_le]
  rw [List.length_drop, List.length_map]
  exact Nat.le_refl _
def spBoughs (K : PySem.W.Frag) : Sp := fun vs H Q _ => ∃ (p : Addr) (ns : List Int) (many : Int), vs = [.ref p, .int many] ∧ SqL K H p (ns.map V.int) ∧ ns.length ≤ 63 ∧ 1 ≤ many ∧ many ≤ 9 ∧
  ∀ (l : Addr) (bs : List PyData) (xs : List V) (H' : Hp), Same H H' → H' l = some (.lst xs) → H l = none → DnL H' bs xs → GoodB many bs → bs.length ≤ 8 → bs.all (flatD 3) = true → Q (.ref l) H'
theorem mem_at {α β : Type} {f : α → β} {l : List α} {j : Nat} (h : j < l.length) : ∃ x ∈ l, (l.map f)[j]? = some (f x) := ⟨l[j], List.getElem_mem h, by rw [List.getElem?_map, List.getElem?_eq_getElem h]; rfl⟩
end Ow

/-! ### Ties and sets: the mathematics -/
namespace Wd
end Wd

set_option maxRecDepth 100000
set_option maxHeartbeats 4000000
/-! ### H. Ties as data -/
namespace Wd
open PySem L2
/-! what stands in the heap for a tie -/
/-! sets as ints -/
end Wd

set_option maxRecDepth 100000
set_option maxHeartbeats 4000000
namespace L2
open PySem PySem.Spec PyProof.Rows
section
variable {X : Cx} {o e : Expr} {es : List Expr} {to : TE} {t : TA} {name : Str} {apos cpos : Pos} {T id : String} {r : V → List V → Hp → VK → Prop}
/-- methods, with the fragment by its own name -/
theorem pe_bmK {K : PySem.W.Frag} (pa : PlainAttrs T) (slot : Slot T name id) (hty : typeOf (.builtin id) = pure (.type "method_descriptor")) (hm : MtR X id r) (ho : PE X o to) (ha : PA X (e :: es) t) (hK : X.K = K := by rfl)
    (hbase : attributeBase o name X.env (eval o X.env) = eval o X.env := by rfl)
    (hfew : ((backTo cpos (starEach (e :: es) X.env)).all (fun x => !x.1) && (backToKw cpos (keywordEach [] X.env)).all (fun x => x.1.isSome) && decide ((e :: es).length + ([] : List Keyword).length + (if ([] : List Keyword).isEmpty then 0 else 1) < 30)) = true := by rfl)
    (hline : (apos.endLine == cpos.line) = true := by rfl) (hs : starEach (e :: es) X.env = (false, eval e X.env) :: starEach es X.env := by rfl) (hplain : (backTo cpos (starEach es X.env)).any (·.1) = false := by rfl) :
    PE X (.Call (.Attribute o name apos) (e :: es) [] cpos) (tBM K T r to t) := hK ▸ pe_bm pa slot hty hm ho ha hbase hfew hline hs hplain
end
end L2

set_option maxRecDepth 100000
set_option maxHeartbeats 4000000
namespace L2
open PySem PySem.Spec PyProof.Rows
theorem Room.lv {A : Around} {j k : Nat} (hr : Room k A) (h : j ≤ k := by first | decide | omega) : Room j A := hr.mono h
/-- a def of the text: what stands at its name, and how its parameters bind -/
structure Df (K : PySem.W.Frag) (mg : Str → Option Value) (x : Str) (st : Stmt) (f : Addr) (fd : FuncData) (ps : List Str) : Prop extends Fun K x x st f fd where
  g : mg x = some (.ref f)
  B : Binds K fd ps []
theorem pe_callD {X : Cx} {k : Nat} {f : Addr} {fd : FuncData} {ps : List Str} {sp : Sp} {x : Str} {p pos : Pos} {e : Expr} {es : List Expr} {t : TA} {st : Stmt} (F : FnOk X.prog X.w X.K X.mg X.base CX0 k f fd ps sp) (hr : Room k X.A) (hg : Gl X x) (D : Df X.K X.mg x st f fd ps)
    (ha : PA X (e :: es) t) (hdb : (x == ("__debug__" : Str)) = false := by decide) (he : starEach (e :: es) X.env = (false, eval e X.env) :: starEach es X.env := by rfl) (hpl : (backTo pos (starEach es X.env)).any (·.1) = false := by rfl) :
    PE X (.Call (.Name x p) (e :: es) [] pos) (tCall sp [] E0 t) := pe_call F hr hg D.g D.kp D.B .nil pass0 ha hdb he hpl
theorem scm {N P : List Str} {sc : Scope} (a : sc.kind = .function) (b : sc.isCoroutine = false) (c : sc.isGenerator = false) (e : N.take P.length = P) (h : (decide N.Nodup && (decide (∀ x ∈ P, sc.names.lookup x = some .local ∨ sc.names.lookup x = some .cell) && decide (∀ y ∈ sc.names, y.2 ≠ .free))) = true) : FnScope N P sc := by
  rw [Bool.and_eq_true, Bool.and_eq_true] at h
  exact ⟨a, b, c, of_decide_eq_true h.1, e, of_decide_eq_true h.2.1, of_decide_eq_true h.2.2⟩
/-- as it stands in the fragment -/
def Dk (K : PySem.W.Frag) (x : Str) (st : Stmt) (f : Addr) (fd : FuncData) : Prop := PySem.W.nsIn K mainGlobals x = some (some (.ref f)) ∧ Fun K x x st f fd
section
variable {K : PySem.W.Frag} {x q : Str} {st : Stmt} {f C : Addr} {oc : Value} {od an : Option Addr} {osl : Array (Option Value)} {kV doc pm cdv ct : Value}
theorem dk (a : PySem.W.nsIn K mainGlobals x = some (some (.ref f))) (l : K.lookup f = some ⟨oc, od, .func (PySem.W.fnOf x x (defArgs st) (defBody st) (defScope st) .none kV doc pm an cdv ct), osl⟩) (c : PySem.W.codeIn K cdv x = true) (k : PySem.W.keepIn K (.ref f) = true) :
    Dk K x st f (PySem.W.fnOf x x (defArgs st) (defBody st) (defScope st) .none kV doc pm an cdv ct) := ⟨a, fun_mk l c k⟩
/-- how arguments bind, told for any function of this text -/
abbrev Bd (x q : Str) (st : Stmt) (us : List Value) (ps : List Str) : Prop := ∀ (kV doc pm : Value) (an : Option Addr) (cdv ct : Value), bindArgs (PySem.W.fnOf x q (defArgs st) (defBody st) (defScope st) .none kV doc pm an cdv ct) ⟨us, []⟩ = pure (ps.zip us)
theorem Dk.df {h : Heap} {mg : Str → Option Value} {fd : FuncData} {ps : List Str} (X : K.In h) (G : h.Ns mainGlobals mg) (D : Dk K x st f fd) (b : ∀ us, us.length = ps.length → Bd x x st us ps) : Df K mg x st f fd ps :=
  ⟨D.2, PySem.W.mg_of X G D.1, D.2.binds fun kV doc pm an cdv ct us hl => b us hl kV doc pm an cdv ct⟩
theorem bd1 {p : List Str} (h : ∀ a, Bd x q st [a] p) : ∀ us : List Value, us.length = 1 → Bd x q st us p | [a], _ => h a
theorem bd2 {p : List Str} (h : ∀ a b, Bd x q st [a, b] p) : ∀ us : List Value, us.length = 2 → Bd x q st us p | [a, b], _ => h a b
theorem bd3 {p : List Str} (h : ∀ a b c, Bd x q st [a, b, c] p) : ∀ us : List Value, us.length = 3 → Bd x q st us p | [a, b, c], _ => h a b c
theorem bd4 {p : List Str} (h : ∀ a b c d, Bd x q st [a, b, c, d] p) : ∀ us : List Value, us.length = 4 → Bd x q st us p | [a, b, c, d], _ => h a b c d
theorem law_b {fd : FuncData} {y : Str} (F : Fun K x q st f fd) (h : ∀ v, Bd x q st [v] [y]) (s : Shared) (v : Value) : BindsTo s fd ⟨[v], []⟩ [(y, v)] := by
  obtain ⟨oc, od, kV, doc, pm, an, cdv, ct, osl, rfl, lk, hcd⟩ := F.ex
  exact .of_eq (h v kV doc pm an cdv ct)
end
end L2

set_option maxRecDepth 100000
set_option maxHeartbeats 4000000
namespace L2
open PySem PySem.Spec PyProof.Rows
section
variable {X : Cx}
/-- a tuple of targets, with the text's heap named (for blocks) -/
theorem pgT {K : PySem.W.Frag} {pos : Pos} {es : List Expr} {k : Nat} {t : TGs} {n : Nat} (hc : X.calm = true) (h : PGs X es t) (hn : (assignEach es X.env).length = n := by rfl) (hst : (assignEach es X.env).findIdx? (·.1) = none := by rfl) (hK : X.K = K := by rfl) : PG X (.Tuple es k pos) (gTup K n t) := hK ▸ pg_tup hc h hn hst
end
end L2
namespace Wd
open PySem L2
def spLaw (K : PySem.W.Frag) : Sp := fun vs H Q _ => ∃ (p : Addr) (ns : List Int), vs = [.ref p] ∧ SqL K H p (ns.map V.int) ∧ ns.length ≤ 63 ∧ ∀ H', Q (.bl true) H'
theorem iteB {b : Bool} {A B : Prop} (hc : b = true) (h : A) : if b = true then A else B := by
  rw [if_pos hc]; exact h
theorem iteBN {b : Bool} {A B : Prop} (hc : b = false) (h : B) : if b = true then A else B := by
  rw [hc]; exact iteF h
end Wd

set_option maxRecDepth 100000
set_option maxHeartbeats 4000000
/-! ### I. Woods by their ties -/
namespace Wd
open PySem L2 Ow
end Wd

/-! ### Bits: sums and differences of sets -/
namespace Wd
/-! stands made finer -/
end Wd

set_option maxRecDepth 100000
set_option maxHeartbeats 4000000
/-! ### J. More forms of loops; bits of ints -/
namespace L2
open PySem
theorem op_eq_ints {X : Cx} (hu : X.A.units + 64 < cLine) : OpR X (compareOp .Eq) (fun x y H Q => ∃ (a b : Addr) (ns ms : List Int), x = .ref a ∧ y = .ref b ∧ SqL X.K H a (ns.map V.int) ∧ SqL X.K H b (ms.map V.int) ∧ Q (.bl (decide (ns = ms))) H) := by
  intro pins s σ H x y v u Q I rx ry h
  obtain ⟨a, b, ns, ms, rfl, rfl, ha, hb, q⟩ := h
  cases rx
  cases ry
  obtain ⟨xs, rv, p, _⟩ := I.list ha
  obtain ⟨ys, rv', p', _⟩ := I.list hb
  exact PySem.W.ke_eq_ints p.isList p'.isList (intsAre_of rv) (intsAre_of rv') hu ⟨.bl _, H, I, rfl, q⟩
theorem for_range0 {n : Nat} {g : TG} {tb : TS} {D : Ends} {σ : St} {H : Hp} (Pv : Nat → St → Hp → Prop) (h0 : Pv 0 σ H)
    (hs : ∀ i σ H, i < n → Pv i σ H → g (.int (i : Int)) σ H fun σ2 H2 => tb { D with nx := Pv (i + 1), ct := Pv (i + 1), bk := D.nx } σ2 H2) (hd : ∀ σ H, Pv n σ H → D.nx σ H) :
    ∃ W : Nat → Nat → St → Hp → Prop, (∃ m, W 0 m σ H) ∧ ∀ i m σ H, W i m σ H →
      ((Itr 0 n).stop i H ∧ D.nx σ H) ∨ ((Itr 0 n).go i H ∧ ∃ N : St → Hp → Prop, (∀ σ' H', N σ' H' → ∃ m', m' < m ∧ W (i + 1) m' σ' H') ∧ ∀ x H', (Itr 0 n).yld i H x H' → g x σ H' fun σ2 H2 => tb { D with nx := N, ct := N, bk := D.nx } σ2 H2) :=
  for_range (lo := 0) Pv h0 (fun i σ H hi p => by rw [Int.zero_add]; exact hs i σ H hi p) hd
end L2
namespace Wd
open PySem L2 Ow
end Wd

set_option maxRecDepth 100000
set_option maxHeartbeats 4000000
/-! ### K. Ranges with a step -/
namespace L2
open PySem PySem.Spec PyProof.Rows
section
variable {X : Cx} {tg : Expr}
end
end L2
namespace Wd
open PySem L2
end Wd

set_option maxRecDepth 100000
set_option maxHeartbeats 4000000
/-! ### L. A pen that turns: a list of the script and a place -/
namespace Wd
open PySem L2 Ow
/-- all but the object at one address stays -/
def KpX (pen : Addr) (H H' : Hp) (b : Addr) : HO → Prop
  | .tbl _ => (∃ ps, H' b = some (.tbl ps)) ∧ (TabOk H b → (∃ ys, H pen = some (.lst ys)) → TabOk H' b ∧ ∃ ys, H' pen = some (.lst ys))
  | o => H' b = some o
/-- all but the pen is as it was; tables of code may have grown -/
def SameX (pen : Addr) (H H' : Hp) : Prop := ∀ b o, b ≠ pen → H b = some o → KpX pen H H' b o
theorem SameX.refl (pen : Addr) (H : Hp) : SameX pen H H := fun _ o _ h => by
  cases o
  case tbl ps => exact ⟨⟨_, h⟩, fun a b => ⟨a, b⟩⟩
  all_goals exact h
theorem SameX.trans {pen : Addr} {H H1 H2 : Hp} (a : SameX pen H H1) (b : SameX pen H1 H2) : SameX pen H H2 := fun c o n h => by
  have z := a c o n h
  cases o
  case tbl ps =>
    obtain ⟨⟨qs, hq⟩, k⟩ := z
    obtain ⟨q2, k2⟩ := b c _ n hq
    exact ⟨q2, fun t y => k2 (k t y).1 (k t y).2⟩
  all_goals exact b c _ n z
theorem Same.x {pen : Addr} {H H' : Hp} (s : Same H H') : SameX pen H H' := fun b o _ h => by
  have z := s b o h
  cases o
  case tbl ps => exact ⟨z.1, fun t ⟨ys, y⟩ => ⟨z.2 t, ys, s pen _ y⟩⟩
  all_goals exact z
theorem sameX_pen {pen : Addr} {H : Hp} (o : HO) (ho : ∃ ys, o = .lst ys := by exact ⟨_, rfl⟩) : SameX pen H (upd H pen o) := fun b u n h => by
  cases u
  case tbl ps =>
    refine ⟨⟨ps, by rw [upd_ne n]; exact h⟩, ?_⟩
    rintro ⟨qs, hq, tr, hp⟩ ⟨ys, hy⟩
    obtain ⟨zs, rfl⟩ := ho
    refine ⟨⟨qs, by rw [upd_ne n]; exact hq, tr, fun pos => ?_⟩, ⟨zs, upd_same⟩⟩
    rcases hp pos with z | ⟨c, z1, z2⟩
    · exact .inl z
    · refine .inr ⟨c, z1, ?_⟩
      rw [upd_ne fun z => by rw [z, hy] at z2; cases z2]
      exact z2
  all_goals (show upd H pen o b = _; rw [upd_ne n]; exact h)
/-- a list that is new is written -/
theorem Same.put {H H1 : Hp} {p : Addr} {xs : List V} {o : HO} (s : Same H H1) (n : H p = none) (e : H1 p = some (.lst xs)) : Same H (upd H1 p o) := fun b u hb => by
  have ne : b ≠ p := ne_of_none hb n
  have z := s b u hb
  cases u
  case tbl ps =>
    refine ⟨⟨z.1.choose, by rw [upd_ne ne]; exact z.1.choose_spec⟩, fun t => ?_⟩
    obtain ⟨qs, hq, tr, hp⟩ := z.2 t
    refine ⟨qs, by rw [upd_ne ne]; exact hq, tr, fun pos => ?_⟩
    rcases hp pos with y | ⟨c, y1, y2⟩
    · exact .inl y
    · refine .inr ⟨c, y1, ?_⟩
      rw [upd_ne fun z => by rw [z, e] at y2; cases y2]
      exact y2
  all_goals (show upd H1 p o b = _; rw [upd_ne ne]; exact z)
/-- data of tuples stays when a list is written -/
theorem Dn.pen {H : Hp} {p : Addr} {xs ys : List V} (h : H p = some (.lst xs)) {n : Nat} {d : PyData} {v : V} (f : flatD n d = true) (q : Dn H d v) : Dn (upd H p (.lst ys)) d v := Dn.keepT (keep_lst h) n d v f q
theorem DnL.pen {H : Hp} {p : Addr} {xs ys : List V} (h : H p = some (.lst xs)) {n : Nat} {ds : List PyData} {vs : List V} (f : ds.all (flatD n) = true) (q : DnL H ds vs) : DnL (upd H p (.lst ys)) ds vs := DnL.keepT (Dn.keepT (keep_lst h) n) ds vs f q
end Wd

/-! ### Trees of cases and first sets: the mathematics -/
namespace Wd
/-! first sets -/
/-! trees of cases -/
end Wd

set_option maxRecDepth 100000
set_option maxHeartbeats 4000000
/-! ### M. Tuples joined, woods by named ties, trees as data -/
namespace L2
open PySem PySem.Spec PyProof.Rows
section
variable {X : Cx}
theorem cat_tup0 {prog : Program} {w : World} {A : Around} {E : Value → Shared → Prop} {s : Shared} {t b : Addr} {ws : List Value} {Q : Value → Shared → Prop} (ht : IsTup s.heap t ([] : List Value).toArray) (hb : IsTup s.heap b ws.toArray) (h : Q (.ref b) s) :
    wpAny (model prog w) A (binaryOp .Add (.ref t) (.ref b)) Q E s := by
  obtain ⟨⟨cls, dd, data, sl⟩, ho, hc, n, hd⟩ := id ht
  obtain ⟨⟨cls2, dd2, data2, sl2⟩, ho2, hc2, n2, hd2⟩ := id hb
  simp only at hc hd hc2 hd2
  subst hc hd hc2 hd2
  exact concat_meets ⟨_, ho, rfl⟩ ⟨_, ho2, rfl⟩ noFill_tuple_add seq_tuple_add PySem.F.slot_tuple_add PySem.F.entry_tuple_add (PySem.F.args_tuple_add_2 _ _)
    (tuple_addW0 t b ([] : List Value).toArray ws.toArray n n2 dd dd2 sl sl2 (by simp)) ⟨ho, ho2, h⟩
/-- two tuples joined, whichever is empty -/
theorem op_catTA : OpR X (binaryOp .Add) (fun x y H Q => ∃ a b xs ys, x = .ref a ∧ y = .ref b ∧ H a = some (.tup xs) ∧ H b = some (.tup ys) ∧ xs.length + ys.length ≤ sizeLine ∧ ∀ c H', Same H H' → H' c = some (.tup (xs ++ ys)) → Q (.ref c) H') := by
  intro pins s σ H x y v u Q I rx ry h
  obtain ⟨a, b, xs, ys, rfl, rfl, ha, hb, hz, q⟩ := h
  by_cases hx : xs = []
  · subst hx
    cases rx
    cases ry
    obtain ⟨its, r1, p1, _⟩ := I.tuple (.inl (.inl ha))
    obtain ⟨its2, r2, p2, _⟩ := I.tuple (.inl (.inl hb))
    cases r1
    exact cat_tup0 p1 p2 ⟨.ref b, H, I, rfl, q b H (Same.refl H) hb⟩
  · refine op_catT pins s σ H _ _ v u Q I rx ry ⟨a, b, xs, ys, rfl, rfl, .inl (.inl ha), .inl (.inl hb), hx, hz, fun e => ?_, fun _ p hp => ?_⟩
    · refine q a H (Same.refl H) ?_
      rw [e, List.append_nil]
      exact ha
    · exact q p _ (same_of fun b o e => by rw [upd_ne (ne_of_none e hp)]; exact e) upd_same
end
end L2
namespace Wd
open PySem L2 Ow
end Wd

set_option maxRecDepth 100000
set_option maxHeartbeats 4000000
/-! ### N. min of a list, a list against [] -/
namespace L2
open PySem PySem.Spec PyProof.Rows
section
variable {X : Cx}
/-- a list against an empty one -/
theorem op_eq_nil (hu : X.A.units + 64 < cLine) : OpR X (compareOp .Eq) (fun x y H Q => ∃ (a b : Addr) (xs : List V), x = .ref a ∧ y = .ref b ∧ H a = some (.lst xs) ∧ H b = some (.lst []) ∧ Q (.bl (decide (xs = []))) H) := by
  intro pins s σ H x y v u Q I rx ry h
  obtain ⟨a, b, xs, rfl, rfl, ha, hb, q⟩ := h
  by_cases hx : xs = []
  · subst hx
    refine op_eq_ints hu pins s σ H _ _ v u Q I rx ry ⟨a, b, [], [], rfl, rfl, SqL.of ha, SqL.of hb, ?_⟩
    exact q
  · cases rx
    cases ry
    obtain ⟨its, n, r1, e1, _⟩ := I.lst ha
    obtain ⟨its2, n2, r2, e2, _⟩ := I.lst hb
    cases r2
    have hl := r1.length
    rw [decide_eq_false hx] at q
    refine PySem.P.eq_list_lengths e1 e2 ?_ (by omega) ⟨.bl false, H, I, rfl, q⟩
    cases its with
    | nil => cases r1; exact absurd rfl hx
    | cons c r => simp
end
end L2
namespace Wd
open PySem L2 Ow
end Wd

set_option maxRecDepth 100000
set_option maxHeartbeats 4000000
/-! ### Comprehensions with cells of their own: an inner one reads their names -/
namespace L2
open PySem PySem.Spec PyProof.Rows
section
variable {X : Cx} {tg iter elt : Expr} {cs : List Expr} {sc sc0 : Scope} {pos : Pos} {wi : TI} {g : TG} {tc : TT} {te : TE} {XN N' : List Str} {n : Nat} {kp : List Nat}

theorem piL {K : PySem.W.Frag} {l : Expr} {tl : TE} (hl : PE X l tl) (h : X.K = K := by rfl) : PI X tg l (iList K tl) := h ▸ pi_list hl
theorem piT {K : PySem.W.Frag} {l : Expr} {tl : TE} (hl : PE X l tl) (h : X.K = K := by rfl) : PI X tg l (iTup K tl) := h ▸ pi_tup hl
end
end L2

set_option maxRecDepth 100000
set_option maxHeartbeats 4000000
/-! ### O. What each tie's sets are, told in lists; bars -/
namespace Wd
open PySem L2 Ow
end Wd

set_option maxRecDepth 100000
set_option maxHeartbeats 4000000
/-! ### P. Ties left out; ties broken in every set of a stand, told by lists; trees of cases told so -/
namespace Wd
open PySem L2 Ow
end Wd

set_option maxRecDepth 100000
set_option maxHeartbeats 4000000
namespace L2
open PySem PySem.Spec PyProof.Rows

/-! ### lambdas -/
section
variable {X : Cx} {params : Arguments} {body : Expr} {scope : Scope} {pos : Pos} {c P : Addr}
end
/-! ### a call with a base that holds all that is untracked now -/
section
variable {X : Cx} {pins : List (Addr × Obj)} {σ : St} {H : Hp} {s : Shared}
end
section
variable {X : Cx} {k : Nat} {f : Addr} {fd : FuncData} {ps : List Str} {x : Str} {p pos : Pos} {e : Expr} {es : List Expr} {t : TA}
end

/-! ### a lambda keeps its promise -/
/-! ### a def that makes lambdas: its code object is known -/
/-! ### the head of a law that comes to lambdas: the tables of their defs are tracked -/
end L2

set_option maxRecDepth 100000
set_option maxHeartbeats 4000000
namespace Wd
open PySem L2 Ow
/-! ### trees told with leaves of a function -/
section
variable {ts : List Tie} {il : List Nat} {m f y n : Nat} {leaf : Nat → Nat → Option PyData}
end
end Wd

set_option maxRecDepth 100000
set_option maxHeartbeats 4000000
namespace L2
open PySem PySem.Spec PyProof.Rows

/-! ### zip of two tuples -/
section
variable {prog : Program} {w : World} {A : Around} {E : Value → Shared → Prop} {s : Shared}
end
end L2
namespace Wd
open PySem L2 Ow
end Wd

set_option maxRecDepth 100000
set_option maxHeartbeats 4000000
namespace Wd
open PySem L2 Ow
/-! ### the wares of a wood, in their order -/
end Wd

set_option maxHeartbeats 4000000
namespace Srt
open PySem PyProof PyProof.Rows

section
variable {prog : Program} {w : World} {A : Around} {E : Value → Shared → Prop} {s : Shared}

end
end Srt

set_option maxHeartbeats 4000000
namespace Srt
open PySem PyProof PyProof.Rows

section
variable {prog : Program} {w : World} {A : Around} {E : Value → Shared → Prop} {s : Shared}
end
end Srt

set_option maxHeartbeats 4000000
namespace Srt
open PySem PyProof PyProof.Rows

section
variable {prog : Program} {w : World} {A : Around} {E : Value → Shared → Prop} {s : Shared}

end
end Srt

set_option maxHeartbeats 4000000
namespace Srt
open PySem PyProof PyProof.Rows

section
variable {prog : Program} {w : World} {A : Around} {E : Value → Shared → Prop} {s : Shared}

end
end Srt

set_option maxHeartbeats 4000000
namespace Srt
open PySem PyProof PyProof.Rows

section
variable {prog : Program} {w : World} {A : Around} {E : Value → Shared → Prop} {s : Shared}

end
end Srt

set_option maxHeartbeats 4000000
namespace Srt
open PySem PyProof PyProof.Rows

section
variable {prog : Program} {w : World} {A : Around} {E : Value → Shared → Prop} {s : Shared} {a₀ : Array Keyed}

end
end Srt

set_option maxHeartbeats 4000000
namespace Srt
open PySem PyProof PyProof.Rows

section
variable {prog : Program} {w : World} {A : Around} {E : Value → Shared → Prop} {s : Shared} {a₀ : Array Keyed}

end
end Srt

set_option maxHeartbeats 4000000
set_option maxRecDepth 100000
namespace Srt
open PySem PyProof PyProof.Rows
section
variable {prog : Program} {w : World} {A : Around} {E : Value → Shared → Prop} {s : Shared}

end
end Srt
namespace L2
open PySem PySem.Spec PyProof.Rows
variable {X : Cx}
end L2

set_option maxRecDepth 100000
set_option maxHeartbeats 4000000
namespace Wd
open PySem L2 Ow
/-! ### sets counted by how many of some options they have, weighed -/
/-! ### all sets of some options -/
/-! ### boughs taken one by one -/
end Wd

set_option maxRecDepth 100000
set_option maxHeartbeats 4000000
namespace L2
open PySem PySem.Spec PyProof.Rows

/-! ### zip of two lists -/
end L2

set_option maxRecDepth 100000
set_option maxHeartbeats 4000000
namespace Wd
open PySem L2 Ow
/-! ### the boughs in the order in which they are taken -/
/-! ### all sets, by their numbers -/
end Wd

set_option maxRecDepth 100000
set_option maxHeartbeats 4000000
namespace L2
open PySem PySem.Spec PyProof.Rows
/-! ### set(l) of a list of unlike whole numbers, and how many it has -/
section
variable {X : Cx}
end
end L2

set_option maxRecDepth 100000
set_option maxHeartbeats 4000000
namespace Wd
open PySem L2 Ow
end Wd
namespace Wd
open PySem L2 Ow
/-! ### choices by the bits of a number -/
end Wd
namespace Wd
open PySem L2 Ow
end Wd

set_option maxRecDepth 100000
set_option maxHeartbeats 4000000
namespace L2
open PySem PySem.Spec PyProof.Rows
/-! ### a, b = a list -/
section
variable {prog : Program} {w : World} {A : Around} {E : Value → Shared → Prop} {s : Shared}
end
section
variable {X : Cx} {pos : Pos}
end
section
variable {X : Cx}
/-! ### list.insert at a place within -/
end
end L2

set_option maxRecDepth 100000
set_option maxHeartbeats 4000000
namespace Wd
open PySem L2 Ow
/-! ### woods drawn by a state (the laws from k50 on) -/
end Wd

set_option maxRecDepth 100000
set_option maxHeartbeats 4000000
namespace Wd
open PySem L2 Ow
theorem shaped_nil : SeqAt.shaped (.list []) = true := by decide
end Wd

set_option maxRecDepth 100000
set_option maxHeartbeats 4000000
namespace HT
open PySem PySem.Spec PyProof.Rows
section
variable {prog : Program} {w : World} {A : Around} {E : Value → Shared → Prop} {s : Shared}
/-- the whole of a tuple is the tuple itself -/
theorem tup_whole {t sl : Addr} {items : Array Value} {vl vu : Value} {lo hi : Option Int} {Q : Value → Shared → Prop} (ht : IsTup s.heap t items) (hs : s.heap.IsSliceOf sl vl vu .none) (pl : IsPart vl lo) (pu : IsPart vu hi)
    (h0 : sIx items.size 0 lo = 0) (h1 : sIx items.size items.size hi = items.size) (h : Q (.ref t) s) : wpAny (model prog w) A (getItem (.ref t) (.ref sl)) Q E s := by
  obtain ⟨os, hos, hcs, hds⟩ := id hs
  have hTs : s.TypeIs (.ref sl) "slice" := ⟨os, hos, hcs⟩
  unfold getItem
  refine wpAny_holding ?_
  refine wpAny_bind (wpAny_sequenceKey ht.typeIs (by decide) ?_)
  refine wpAny_bind (wpAny_callSpecial?_slot (name := Str.ofString "__getitem__") ht.typeIs PyProof.Rows.slot_tuple_getitem (wpAny_call_entry PyProof.Rows.slot_tuple_getitem ht.typeIs entry_tuple_getitem ?_ (args_tuple_getitem _ _)))
  show wpAny _ _ (Builtin.Tuple.tupleItemsOf (.ref t) >>= _) _ _ s
  refine wpAny_bind (tupleItemsOf_ ht ?_)
  refine wpAny_bind (wpAny_typeOf hTs ?_)
  rw [if_pos (by decide)]
  refine wpAny_bind (sliceApplied_gen hs pl pu ?_)
  have hyes : (((sIx items.size 0 lo : Nat) : Int) == 0 && (1 : Int) == 1 && (sIx items.size items.size hi - sIx items.size 0 lo) == items.size) = true := by
    rw [h0, h1, Nat.sub_zero]
    simp
  show wpAny _ _ (if (((sIx items.size 0 lo : Nat) : Int) == 0 && (1 : Int) == 1 && (sIx items.size items.size hi - sIx items.size 0 lo) == items.size) = true then _ else _) _ _ s
  rw [if_pos hyes]
  refine wpAny_bind (wpAny_bind (wpAny_typeOf ht.typeIs (wpAny_pure ?_)))
  show wpAny _ _ (if (Value.type "tuple" == Value.type "tuple") = true then _ else _) _ _ s
  rw [if_pos (by decide)]
  refine wpAny_bind (wpAny_rule ?_)
  exact wpAny_pure ⟨_, rfl, wpAny_pure h⟩
end
end HT
namespace HT
open PySem PySem.Spec PyProof.Rows
theorem pick_rev (xs : Array Value) : ((List.range xs.size).filterMap fun (m : Nat) => xs[(((xs.size : Int) - 1) + (m : Int) * (-1)).toNat]?).toArray = xs.toList.reverse.toArray := by
  congr 1
  have e : ∀ n : Nat, n ≤ xs.size → (List.range n).filterMap (fun (m : Nat) => xs[(((xs.size : Int) - 1) + (m : Int) * (-1)).toNat]?) = xs.toList.reverse.take n := by
    intro n
    induction n with
    | zero => intro _; rfl
    | succ n ih =>
      intro h
      have e1 : (((xs.size : Int) - 1) + (n : Int) * (-1)).toNat = xs.size - 1 - n := by omega
      have e2 : xs.toList.reverse[n]? = some xs[xs.size - 1 - n] := by
        rw [List.getElem?_reverse (by rw [Array.length_toList]; exact h)]
        simp only [Array.length_toList]
        rw [Array.getElem?_toList, Array.getElem?_eq_getElem (by omega)]
      rw [List.range_succ, List.filterMap_append, ih (by omega), List.take_add_one, e2, Option.toList_some]
      congr 1
      simp only [List.filterMap_cons, List.filterMap_nil, e1]
      rw [Array.getElem?_eq_getElem (by omega)]
  rw [e xs.size (Nat.le_refl _), List.take_of_length_le (by simp)]
section
variable {prog : Program} {w : World} {A : Around} {E : Value → Shared → Prop} {s : Shared}
theorem sliceApplied_rev {sl : Addr} {t : Tok} {n : Nat} {Q : Int × Int × Nat → Shared → Prop} (hs : s.heap.IsSliceOf sl .none .none (.int (-1) t))
    (h : Q ((n : Int) - 1, -1, n) s) : wpAny (model prog w) A (Builtin.Slice.sliceApplied (.ref sl) (pure (n : Int))) Q E s := by
  obtain ⟨os, hos, hcs, hds⟩ := id hs
  unfold Builtin.Slice.sliceApplied Builtin.Slice.sliceFields
  refine wpAny_bind (wpAny_bind (wpAny_field hos hds (x := .none) rfl (wpAny_bind (wpAny_field hos hds (x := .none) rfl (wpAny_bind (wpAny_field hos hds (x := .int (-1) t) rfl (wpAny_pure ?_)))))))
  refine wpAny_bind (slicePart_ (.int (-1) t) ?_)
  show wpAny _ _ (if ((-1 : Int) == 0) = true then _ else _) _ _ s
  rw [if_neg (by decide)]
  refine wpAny_bind (slicePart_ .none (wpAny_bind (slicePart_ .none (wpAny_bind (wpAny_pure ?_)))))
  show wpAny _ _ (pure ((n : Int) - 1, (-1 : Int), Builtin.Slice.slicePlaces ((n : Int) - 1) (-1) (-1))) _ _ s
  have e : Builtin.Slice.slicePlaces ((n : Int) - 1) (-1) (-1) = n := by
    unfold Builtin.Slice.slicePlaces
    rw [if_neg (by decide)]
    by_cases z : (n : Int) - 1 > -1
    · rw [if_pos z, show -(-1 : Int) = 1 from rfl, Int.ediv_one]
      omega
    · rw [if_neg z]
      omega
  rw [e]
  exact wpAny_pure h
theorem tup_rev {t sl : Addr} {items : Array Value} {u : Tok} {Q : Value → Shared → Prop} (ht : IsTup s.heap t items) (hs : s.heap.IsSliceOf sl .none .none (.int (-1) u)) (hsz : items.size ≤ sizeLine)
    (h : Q (.ref s.heap.objs.size) { s with heap := s.heap.push { cls := .type "tuple", data := .seq items.toList.reverse.toArray } }) : wpAny (model prog w) A (getItem (.ref t) (.ref sl)) Q E s := by
  have hz : sizeOk (.seq items.toList.reverse.toArray) := by
    show items.toList.reverse.toArray.size ≤ sizeLine
    rw [List.size_toArray, List.length_reverse, Array.length_toList]
    exact hsz
  obtain ⟨os, hos, hcs, hds⟩ := id hs
  have hTs : s.TypeIs (.ref sl) "slice" := ⟨os, hos, hcs⟩
  unfold getItem
  refine wpAny_holding ?_
  refine wpAny_bind (wpAny_sequenceKey ht.typeIs (by decide) ?_)
  refine wpAny_bind (wpAny_callSpecial?_slot (name := Str.ofString "__getitem__") ht.typeIs PyProof.Rows.slot_tuple_getitem (wpAny_call_entry PyProof.Rows.slot_tuple_getitem ht.typeIs entry_tuple_getitem ?_ (args_tuple_getitem _ _)))
  show wpAny _ _ (Builtin.Tuple.tupleItemsOf (.ref t) >>= _) _ _ s
  refine wpAny_bind (tupleItemsOf_ ht ?_)
  refine wpAny_bind (wpAny_typeOf hTs ?_)
  rw [if_pos (by decide)]
  refine wpAny_bind (sliceApplied_rev hs ?_)
  have hno : ¬ ((((items.size : Int) - 1) == 0 && (-1 : Int) == 1 && items.size == items.size) = true) := by
    intro q
    rw [Bool.and_eq_true, Bool.and_eq_true] at q
    exact absurd q.1.2 (by decide)
  show wpAny _ _ (if (((items.size : Int) - 1) == 0 && (-1 : Int) == 1 && items.size == items.size) = true then _ else _) _ _ s
  rw [if_neg hno, pick_rev]
  first
    | exact wpAny_bind (m := Builtin.Tuple.tupleExact _) (wpAny_newObj_type (wpAny_pure ⟨_, rfl, wpAny_pure h⟩) hz)
    | exact wpAny_bind (m := Builtin.Tuple.tupleExact _) (wpAny_newObj_type (wpAny_bind (wpAny_pure (wpAny_pure ⟨_, rfl, wpAny_pure h⟩))) hz)
    | exact wpAny_bind (wpAny_bind (m := Builtin.Tuple.tupleExact _) (wpAny_newObj_type (wpAny_pure (wpAny_pure ⟨_, rfl, wpAny_pure h⟩)) hz))
    | exact wpAny_bind (wpAny_bind (m := Builtin.Tuple.tupleExact _) (wpAny_newObj_type (wpAny_pure ⟨_, rfl, wpAny_pure h⟩) hz))
end
end HT
namespace L2
open PySem PySem.Spec PyProof.Rows
section
variable {X : Cx} {e st : Expr} {te tst : TE} {pos p2 : Pos}
/-- t[lo:hi], also where it is the whole -/
theorem sl_tupA : SlR X (fun x lo hi H Q => ∃ a xs, x = .ref a ∧ H a = some (.tup xs) ∧ ∀ p H', Same H H' → H' p = some (.tup (cutV xs lo hi)) → Q (.ref p) H') := by
  intro pins s σ H x v vl vu lo hi sl Q I rx hs pl pu h
  obtain ⟨a, xs, rfl, hx, q⟩ := h
  by_cases hw : HT.sIx xs.length 0 lo = 0 ∧ HT.sIx xs.length xs.length hi = xs.length
  · cases rx
    obtain ⟨its, r, ht, hz⟩ := I.tuple (.inl (.inl hx))
    have hlen : its.toArray.size = xs.length := by rw [List.size_toArray]; exact r.length.symm
    refine ⟨"tuple", _, PyProof.Rows.slot_tuple_getitem.lookup, ht.typeIs, ?_⟩
    refine HT.tup_whole ht hs pl pu (by rw [hlen]; exact hw.1) (by rw [hlen]; exact hw.2) ⟨.ref a, H, I, rfl, q a H (Same.refl H) ?_⟩
    rw [hx]
    unfold cutV
    rw [hw.1, hw.2, List.drop_zero, Nat.sub_zero, List.take_length]
  · exact sl_tup pins s σ H _ v vl vu lo hi sl Q I rx hs pl pu ⟨a, xs, rfl, .inl (.inl hx), hw, fun p hp => q p _ (same_of fun b o e => by rw [upd_ne (ne_of_none e hp)]; exact e) upd_same⟩
def tRevT (te tst : TE) : TE := fun σ H Q => te σ H fun x H1 => tst σ H1 fun y H2 => ∃ a xs, y = .int (-1) ∧ x = .ref a ∧ H2 a = some (.tup xs) ∧ ∀ p, H2 p = none → Q (.ref p) (upd H2 p (.tup xs.reverse))
/-- t[::-1] -/
theorem pe_revT (he : PE X e te) (hst : PE X st tst) : PE X (.Subscript e (.Slice none none (some st) p2) pos) (tRevT te tst) := by
  intro pins s σ H Q I h
  refine Subscript_ (thn (he pins s σ H _ I h) fun v s1 ⟨x, H1, I1, r1, q1⟩ => ?_)
  refine wpAny_Slice ?_
  rw [evalPart_none]
  refine wpAny_pure (wpAny_pure ?_)
  rw [evalPart_some]
  refine thn (hst pins s1 σ H1 _ I1 q1) fun vs s3 ⟨y, H3, I3, r3, q3⟩ => ?_
  obtain ⟨a, xs, rfl, rfl, hx, q⟩ := q3
  cases r1
  obtain ⟨t, rfl⟩ := r3
  have I4 : Inv X pins σ H3 { s3 with heap := s3.heap.push { cls := .type "slice", data := .fields #[.none, .none, .int (-1) t] } } := I3.kept (t' := s3.toks) fun b ob q => Heap.get?_push_of_some _ q
  obtain ⟨its, r, ht, hz⟩ := I4.tuple (.inl (.inl hx))
  have hlen : its.toArray.size = xs.length := by rw [List.size_toArray]; exact r.length.symm
  show wpAny (model X.prog X.w) X.A (subscriptTail e (.Slice none none (some st) p2) (.ref a) (.ref s3.heap.objs.size)) (EP X pins σ Q) X.xe { s3 with heap := s3.heap.push { cls := .type "slice", data := .fields #[.none, .none, .int (-1) t] } }
  refine tail_any (ops := [.ref a, .ref s3.heap.objs.size]) ht.typeIs PyProof.Rows.slot_tuple_getitem.lookup ?_ (by with_unfolding_all rfl)
  refine HT.tup_rev ht (Heap.IsSliceOf.new ..) (by rw [hlen]; exact hz) ⟨.ref _, _, I4.laid (t' := s3.toks) (o := .tup xs.reverse) (fun b ob q => Heap.get?_push_of_some _ q) (Nat.le_refl _) ?_, rfl, q _ (I4.hok.fresh (Nat.le_refl _))⟩
  exact ⟨by rw [List.length_reverse]; exact hz, its.reverse, r.reverse, IsTup.new _ _⟩
/-- data against data -/
theorem op_eq_data (hu : X.A.units + 64 < cLine) : OpR X (compareOp .Eq) (fun x y H Q => ∃ d e : PyData, Dn H d x ∧ Dn H e y ∧ SeqAt.shaped d = true ∧ SeqAt.shaped e = true ∧ Q (.bl (PyData.eqv d e)) H) := by
  intro pins s σ H x y v u Q I rx ry h
  obtain ⟨d, e, hd, he, sd, se, q⟩ := h
  obtain ⟨as, ra⟩ := Dn.reads I d x v hd (SeqAt.canLay_of_shaped sd) rx
  obtain ⟨bs, rb⟩ := Dn.reads I e y u he (SeqAt.canLay_of_shaped se) ry
  exact SeqAt.compareEq_shaped ra rb sd se hu ⟨.bl _, H, I, rfl, q⟩
end
end L2
namespace L2
open PySem PySem.Spec PyProof.Rows
section
variable {X : Cx}
end
end L2
namespace Wd
open PySem L2 Ow
mutual
theorem flat_lay : ∀ (n : Nat) (d : PyData), flatD n d = true → PyData.canLay0 d = true ∧ PyData.depth d ≤ n + 1
  | _, .int i, _ => ⟨by simp [PyData.canLay0], by simp only [PyData.depth]; omega⟩
  | n, .str s, h => ⟨by cases n <;> simpa [PyData.canLay0] using (show PyData.strOk s = true from h), by simp only [PyData.depth]; omega⟩
  | n + 1, .tuple ds, h => by
    have z : (decide (ds.length ≤ 1000) && ds.all (flatD n)) = true := h
    rw [Bool.and_eq_true] at z
    obtain ⟨a, b⟩ := flat_layAll n ds z.2
    exact ⟨by simpa [PyData.canLay0] using a, by simp only [PyData.depth]; omega⟩
  | 0, .tuple _, h => by cases h
  | 0, .none, h => by cases h
  | n + 1, .none, h => by cases h
  | 0, .bool _, h => by cases h
  | n + 1, .bool _, h => by cases h
  | 0, .list _, h => by cases h
  | n + 1, .list _, h => by cases h
  | 0, .dict _, h => by cases h
  | n + 1, .dict _, h => by cases h
theorem flat_layAll : ∀ (n : Nat) (ds : List PyData), ds.all (flatD n) = true → PyData.canLayAll0 ds = true ∧ PyData.depthAll ds ≤ n + 1
  | _, [], _ => ⟨by simp [PyData.canLayAll0], by simp only [PyData.depthAll]; omega⟩
  | n, d :: ds, h => by
    rw [List.all_cons, Bool.and_eq_true] at h
    obtain ⟨a1, b1⟩ := flat_lay n d h.1
    obtain ⟨a2, b2⟩ := flat_layAll n ds h.2
    exact ⟨by simp [PyData.canLayAll0, a1, a2], by simp only [PyData.depthAll]; omega⟩
end
theorem shaped_tup {n : Nat} {ds : List PyData} (hn : n ≤ 60) (h : ds.all (flatD n) = true) : SeqAt.shaped (.tuple ds) = true := by
  obtain ⟨a, b⟩ := flat_layAll n ds h
  unfold SeqAt.shaped
  rw [Bool.and_eq_true]
  refine ⟨by simp [PyData.canLay0, a], decide_eq_true ?_⟩
  simp only [PyData.depth]
  omega
end Wd

set_option maxRecDepth 100000
set_option maxHeartbeats 4000000
namespace Wd
open PySem L2 Ow
/-! ### which ties a set breaks -/
end Wd

set_option maxRecDepth 100000
set_option maxHeartbeats 4000000
namespace Wd
open PySem L2 Ow
end Wd

set_option maxRecDepth 100000
set_option maxHeartbeats 4000000
namespace Wd
open PySem L2 Ow
/-! ### the sets of a stand, one by one -/
end Wd

set_option maxRecDepth 100000
set_option maxHeartbeats 4000000
namespace L2
open PySem PySem.Spec PyProof.Rows

/-! ### lists of pairs as tables -/
section
variable {κ : Type} [DecidableEq κ]
end


/-! ### a tracked dict, its keys ints and texts or tuples of these -/
section
variable {P : Program} {w : World} {H : Hp} {h : Heap} {a : Addr}
end

section
variable {X : Cx} {pins : List (Addr × Obj)} {σ : St} {H : Hp} {s : Shared} {a : Addr} {y v : V} {u r : Value} {o : Option V} {A : Around} {E : Value → Shared → Prop}

theorem Inv.big (I : Inv X pins σ H s) : sysModules < s.heap.objs.size := by
  have h : mainGlobals < s.heap.objs.size := (I.mod.glob.keeps I.bk).lt
  exact Nat.lt_trans (by decide) h

end

section
variable {X : Cx} {pins : List (Addr × Obj)} {σ : St} {H : Hp} {s : Shared} {a : Addr} {kvs : List (Key × V)} {k : Key} {u : Value} {A : Around} {E : Value → Shared → Prop}
end


/-! ### readings and rules -/
section
variable {X : Cx} {o i e value : Expr} {pos pos' tpos : Pos} {td ty tv : TE}
end


/-! ### displays -/
theorem dk_empty {P : Program} {w : World} {H : Hp} (h : Heap) (hb : sysModules < h.objs.size) : ObjOk P w H (h.push { cls := .type "dict", data := .dict #[] }) h.objs.size (.dK []) :=
  ⟨Nat.zero_le _, beq_eq_false_iff_ne.mpr (Ne.symm (Nat.ne_of_lt hb)), [], .nil, Heap.DictOf.new h⟩
/-- {}, to be a dict of the kind that is wanted -/
def tDNewK : TE := fun _ H Q => ∀ p, H p = none → Q (.ref p) (upd H p (.dK []))
section
variable {X : Cx} {pos : Pos}
theorem pe_dnewK : PE X (.Dict [] [] pos) tDNewK := fun pins s σ H Q I h =>
  wpAny_Dict_empty ⟨.ref s.heap.objs.size, _, I.laid (a := s.heap.objs.size) (o := .dK []) (t' := s.toks) (fun _ _ q => Heap.get?_push_of_some _ q) (Nat.le_refl _) (dk_empty s.heap I.big), rfl, h _ (I.hok.fresh (Nat.le_refl _))⟩
end

/-! ### methods -/
section
variable {X : Cx} {pins : List (Addr × Obj)} {σ : St} {H : Hp} {s : Shared} {a : Addr} {y d : V} {u r : Value} {o : Option V} {A : Around} {E : Value → Shared → Prop}
end

section
variable {X : Cx} {o e f : Expr} {apos cpos : Pos} {td ty tx : TE}
end

/-! ### dict(d): a copy -/
section
variable {X : Cx} {pins : List (Addr × Obj)} {σ : St} {H : Hp} {s : Shared} {a : Addr} {kvs : List (Key × V)} {A : Around} {E : Value → Shared → Prop}
end


section
variable {X : Cx} {pins : List (Addr × Obj)} {σ : St} {H : Hp} {s : Shared} {a : Addr} {y : V} {u : Value} {A : Around} {E : Value → Shared → Prop}
end
end L2
namespace L2
open PySem PySem.Spec PyProof.Rows
section
variable {X : Cx}
end

/-! ### a dict's pairs: keys that differ -/
section
variable {κ : Type} [DecidableEq κ]
end
end L2

set_option maxRecDepth 100000
set_option maxHeartbeats 4000000
namespace L2
open PySem PySem.Spec
/-- PE as a word that the elaborator doesn't unfold (a display's run is long) -/
@[irreducible] def PEi (X : Cx) (e : Expr) (t : TE) : Prop := PE X e t
theorem PEi.of {X : Cx} {e : Expr} {t : TE} (h : PE X e t) : PEi X e t := by unfold PEi; exact h
theorem PEi.pe {X : Cx} {e : Expr} {t : TE} (h : PEi X e t) : PE X e t := by unfold PEi at h; exact h
@[irreducible] def PSi (X : Cx) (e : Stmt) (t : TS) : Prop := PS X e t
theorem PSi.of {X : Cx} {e : Stmt} {t : TS} (h : PS X e t) : PSi X e t := by unfold PSi; exact h
theorem PSi.ps {X : Cx} {e : Stmt} {t : TS} (h : PSi X e t) : PS X e t := by unfold PSi at h; exact h
@[irreducible] def PLi (X : Cx) (l : List Stmt) (t : TS) : Prop := PSs X l t
theorem PLi.of {X : Cx} {l : List Stmt} {t : TS} (h : PSs X l t) : PLi X l t := by unfold PLi; exact h
theorem PLi.pss {X : Cx} {l : List Stmt} {t : TS} (h : PLi X l t) : PSs X l t := by unfold PLi at h; exact h
theorem pli_cons {X : Cx} {s : Stmt} {r : List Stmt} {ts tr : TS} (h1 : PSi X s ts) (h2 : PLi X r tr) : PLi X (s :: r) (tSeq ts tr) := .of (pss_cons h1.ps h2.pss)
theorem pli_one {X : Cx} {s : Stmt} {ts : TS} (h : PSi X s ts) : PLi X [s] ts := .of (pss_one h.ps)
theorem ps_setI {X : Cx} {i : Nat} {x : Str} {e : Expr} {te : TE} {pos pos' : Pos} (hN : X.N.Nodup) (hi : X.N[i]? = some x) (hx : Loc X.env.scope x) (he : PEi X e te) (hs : swapsWith e (some (.Name x pos')) pos.line X.env = pure false := by rfl) (hf : X.fn x = true ∨ X.env.scope.names.lookup x = some .local := by first | exact .inl rfl | exact .inr rfl | assumption) :
    PSi X (.Assign [.Name x pos'] e pos) (tAsg te (gName i)) := .of (ps_set hN hi hx he.pe hs hf)
end L2
namespace Wd
open PySem L2 Ow
end Wd

set_option maxRecDepth 100000
set_option maxHeartbeats 4000000
namespace Wd
open PySem L2 Ow
end Wd

set_option maxRecDepth 100000
set_option maxHeartbeats 4000000
namespace L2
open PySem PySem.Spec PyProof.Rows
end L2
namespace Wd
open PySem L2 Ow
/-! ### trees that are looked at -/
end Wd

set_option maxRecDepth 100000
set_option maxHeartbeats 4000000
namespace Wd
open PySem L2 Ow
section
variable {t1 t2 : List Tie} {m f y n : Nat}
end
end Wd

set_option maxRecDepth 100000
set_option maxHeartbeats 4000000
namespace L2
open PySem PySem.Spec PyProof.Rows
end L2
namespace Wd
open PySem L2 Ow
/-! ### trees of one wood within another that are looked at -/
end Wd

set_option maxRecDepth 100000
set_option maxHeartbeats 4000000
namespace L2
open PySem PySem.Spec PyProof.Rows
/-! ### own exceptions: their classes -/
abbrev bmVE : List Value := [.type "ValueError", .type "Exception", .type "BaseException", .type "object"]
abbrev nwVE : String := "ValueError.__new__"
/-- the class of an own exception, as it stands in the heap; bm: what stands above it -/
structure XCls (h : Heap) (C : Addr) (bm : List Value) : Prop where
  ex : ∃ N nm qn bs hd sn sub ab col dd k0 k1 k2 k3 k5 mN, h.get? C = some (excClassObj nm qn C N bs bm hd sn sub ab col dd k0 k1 k2 k3 k5 nwVE) ∧ h.Ns N mN ∧ mN "__init__" = none ∧ OwnTail h bmVE bm
theorem XCls.mk' {K : PySem.W.Frag} {h : Heap} {C : Addr} (X : K.In h) (q : PySem.W.excIn K C bmVE nwVE = true) : ∃ bm, XCls h C bm := by
  unfold PySem.W.excIn at q
  split at q
  case h_2 => cases q
  case h_1 od cd sl hl =>
    split at q
    case h_2 => cases q
    case h_1 C2 bm a0 a1 a2 a3 nw a5 hm hs =>
      rw [Bool.and_eq_true, Bool.and_eq_true, Bool.and_eq_true, Bool.and_eq_true, Bool.and_eq_true, beq_iff_eq, beq_iff_eq, beq_iff_eq, Bool.not_eq_true'] at q
      obtain ⟨⟨⟨⟨⟨q1, q2⟩, q3⟩, q4⟩, q5⟩, q6⟩ := q
      subst q1 q2
      obtain ⟨f1, f2, f3, f4, f5, f6, f7, f8, f9, fa, fb⟩ := cd
      replace hm : f3 = .ref C2 :: bm := hm
      replace q3 : fb = false := q3
      subst hm q3
      obtain ⟨ls⟩ := sl
      replace hs : ls = [a0, a1, a2, a3, some (.builtin nwVE), a5] := hs
      subst hs
      exact ⟨bm, ⟨_, _, _, _, _, _, _, _, _, _, _, _, _, _, _, _, X _ _ hl, .of_isNs (PySem.W.isNs_of_in X q5), PySem.W.nsMap_none_of_in X q5 q6, PySem.W.tail_of_in X q4⟩⟩
/-- an exception's class is beneath the clause's -/
theorem matches_own {M : Model} {A : Around} {E : Value → Shared → Prop} {s : Shared} {C D e : Addr} {bC bD : List Value} {oe : Obj} {Q : Bool → Shared → Prop} (xC : XCls s.heap C bC) (xD : XCls s.heap D bD)
    (he : s.heap.get? e = some oe) (hcls : oe.cls = .ref D) (hin : (Value.ref D :: bD).contains (.ref C) = true) (hq : Q true s) : wpAny M A (excMatches (.ref e) (.ref C)) Q E s := by
  obtain ⟨N, nm, qn, bs, hd, sn, sub, ab, col, dd, k0, k1, k2, k3, k5, mN, hC, _, _, tC⟩ := xC.ex
  obtain ⟨N', nm', qn', bs', hd', sn', sub', ab', col', dd', k0', k1', k2', k3', k5', mN', hD, _, _, tD⟩ := xD.ex
  obtain ⟨h, g, d, t, os⟩ := s
  have hB : (Value.ref C :: bC).contains (.type "BaseException") = true := by rw [List.contains_cons, tC.hasType (b := true) (by decide), Bool.or_true]
  have f := tc_notTuple
  unfold excMatches
  repeat (first | (with_reducible refine wpAny_loadPart_at he ?_; rw [hcls]) | with_reducible refine wpAny_loadPart_at hC ?_ | (with_reducible refine wpAny_isSubtype_exc hC ?_; rw [hB]) | (with_reducible refine wpAny_isSubtype_exc hD ?_; rw [hin]) | wp_step)
  exact hq
/-! ### what stays when an exception passes: all but the frames that run -/
section
variable {X : Cx} {pins : List (Addr × Obj)} {σ : St} {H H' : Hp} {s s' : Shared} {h2 : Heap}
theorem cell_up {h h' : Heap} {c : Addr} {v : Option Value} (u : h.UpToSlots h') (x : h.IsCell c v) : h'.IsCell c v := by
  obtain ⟨o, e, d⟩ := x
  obtain ⟨sl, e'⟩ := u c o e fun vs q => by rw [d] at q; cases q
  exact ⟨_, e', d⟩
/-- I0: the state ahead of a call, I1: behind it; then only the slots of frames have changed, and things that are neither tracked nor were there -/
theorem Inv.upto (I0 : Inv X pins σ H s) (I1 : Inv X pins σ H' s') (k : ∀ b o, s'.heap.get? b = some o → b ∉ frs X.stack → (H' b ≠ none ∨ ∃ u, s.heap.get? b = some u) → h2.get? b = some o) (u : s'.heap.UpToSlots h2) : Inv X pins σ H' { s' with heap := h2 } where
  ok := I1.ok
  os := I1.os
  bare := I1.bare
  base := by
    have nst : ∀ b o, X.s₀.heap.get? b = some o → b ∉ X.fs → b ∉ frs X.stack := fun b o e n z => by
      rcases List.mem_cons.mp (I1.stkSub b z) with r | r
      · have h1 := Heap.lt_size e
        have h2 := I1.ok.above
        rw [r] at h1
        exact absurd (Nat.lt_of_lt_of_le h1 h2) (Nat.lt_irrefl _)
      · exact n r
    refine ⟨fun b o e n hf hx => ?_, fun b o e n hf hx => ?_, I1.base.free, fun b o e hx => ?_, I1.base.tups, I1.base.frzs, I1.base.tbls⟩
    · exact k b o (I1.base.keep b o e n hf hx) (nst b o e hf) (.inr ⟨_, I0.base.keep b o e n hf hx⟩)
    · obtain ⟨sl, e1⟩ := I1.base.slot b o e n hf hx
      obtain ⟨_, o2, e2, d2⟩ := I1.funs.mem hf
      rw [e1] at e2
      cases e2
      obtain ⟨sl', e3⟩ := u b _ e1 d2
      exact ⟨sl', e3⟩
    · obtain ⟨o1, e1⟩ := I1.base.there b o e hx
      by_cases hb : b ∈ frs X.stack
      · obtain ⟨_, o2, e2, d2⟩ := I1.stack.mem hb
        obtain ⟨sl, e3⟩ := u b o2 e2 d2
        exact ⟨_, e3⟩
      · obtain ⟨o0, e0⟩ := I0.base.there b o e hx
        exact ⟨o1, k b o1 e1 hb (.inr ⟨_, e0⟩)⟩
  loc := by
    obtain ⟨m, hn, hl⟩ := I1.loc
    refine ⟨m, u.ns hn, fun i x v h1 h2 h3 => ?_⟩
    obtain ⟨w, r, l⟩ := hl i x v h1 h2 h3
    refine ⟨w, r, ?_⟩
    rcases l with l | ⟨l, c, h4, h5⟩
    · exact .inl l
    · exact .inr ⟨l, c, h4, cell_up u h5⟩
  cell := fun x c e => let ⟨v, h⟩ := I1.cell x c e; ⟨v, cell_up u h⟩
  free := I1.free
  freeC := I1.freeC
  pin := fun p hp => by
    obtain ⟨h1, h2, h3, h4, h5⟩ := I1.pin p hp
    have nst : p.1 ∉ frs X.stack := fun z => by
      rcases List.mem_cons.mp (I1.stkSub _ z) with r | r
      · exact h3 r
      · exact h4 r
    exact ⟨k _ _ h1 nst (.inr ⟨_, (I0.pin p hp).1⟩), h2, h3, h4, h5⟩
  hok := fun a o e => by
    refine (I1.hok a o e).stay (fun b w hb q => ?_) (fun _ q => q) fun _ _ q => q
    have hn : H' b ≠ none := by
      rcases hb with rfl | hb
      · rw [e]; exact Option.some_ne_none _
      · rw [hb]; exact Option.some_ne_none _
    exact k b w q (fun z => hn (I1.stkFree b z)) (.inl hn)
  len := I1.len
end
/-! ### how an exception lies behind a call -/
/-- B: all that stays as it is -/
def CXR (P : Program) (w : World) : CXT := fun outer H s E e s' => ∃ (ea D : Addr) (a0 : Value) (H' : Hp) (B : Heap), e = .ref ea ∧ s'.os = s.os ∧ AllBare s'.gens ∧ Un (frs outer) [] H H' s.heap s'.heap ∧ HOk P w H' s'.heap ∧
  Heap.FlyingW B outer ea (.ref D) a0 s'.heap ∧ (∀ b o, s'.heap.get? b = some o → b ∉ frs outer → (H' b ≠ none ∨ ∃ u, s.heap.get? b = some u) → B.get? b = some o) ∧ H' ea = none ∧ E (.ref D) none H'
theorem obj_is {P : Program} {w : World} {H : Hp} {h : Heap} {a : Addr} {o : HO} (x : ObjOk P w H h a o) : ∃ u, h.get? a = some u := by
  cases o with
  | lst xs => obtain ⟨_, _, _, _, e⟩ := x; exact ⟨_, e⟩
  | tup xs => obtain ⟨_, _, _, ob, e, _⟩ := x; exact ⟨_, e⟩
  | dK kvs => obtain ⟨_, _, _, _, ob, _, _, e, _⟩ := x; exact ⟨_, e⟩
  | dT kvs => obtain ⟨_, _, _, _, ob, _, _, e, _⟩ := x; exact ⟨_, e⟩
  | set S n => obtain ⟨ob, _, _, _, e, _⟩ := x; exact ⟨_, e⟩
  | ins C dx fs => obtain ⟨_, _, _, e, _⟩ := x; exact ⟨_, e⟩
  | own y => exact x
  | xd fs => obtain ⟨_, ⟨_, _, _, e, _⟩, _⟩ := x; exact ⟨_, e⟩
  | rng lo hi => obtain ⟨_, _, _, e⟩ := x; exact ⟨_, e⟩
  | frz ob u => obtain ⟨e, _⟩ := x; exact ⟨_, e⟩
  | tbl ps => exact ⟨_, (show h.get? a = some _ from x)⟩
  | met f y => exact ⟨_, (show h.get? a = some _ from x)⟩
  | ext φ => obtain ⟨_, e, _⟩ := x; exact e
theorem mem_frs {l : List Env} : ∀ env ∈ l, ∀ b, env.frame = some b → b ∈ frs l := fun env he b hb => List.mem_filterMap.mpr ⟨env, he, hb⟩
/-- a new exception leaves the def -/
theorem xe_made {P : Program} {w : World} {K : PySem.W.Frag} {mg : Str → Option Value} {base : Heap} {N : List Str} {qual : Str} {scope : Scope} {f : Addr} {cd : Value} {A : Around} {outer : List Env} {s0 : Shared} {H0 : Hp} {E : XK}
    {pins : List (Addr × Obj)} {σ : St} {H : Hp} {s : Shared} (I : Inv (cxOf (CXR P w) P w K mg base N qual scope f cd A outer s0 H0 E) pins σ H s) {h1 : Heap} {e D : Addr} {vs : List Value} (hx : Heap.MadeExcOf s.heap h1 e (.ref D) vs) (hE : E (.ref D) none H) :
    (cxOf (CXR P w) P w K mg base N qual scope f cd A outer s0 H0 E).xe (.ref e) { s with heap := h1 } := by
  have nst : ∀ b o, s0.heap.get? b = some o → b ∉ frs outer → b ∉ frs (envOfC qual scope s0.heap.objs.size f cd :: outer) := fun b o e n z => by
    rcases List.mem_cons.mp (I.stkSub b z) with r | r
    · have h1 := Heap.lt_size e
      rw [r] at h1
      exact absurd h1 (Nat.lt_irrefl _)
    · exact n r
  have hB : ∀ b o, s.heap.get? b = some o → b ∉ frs (envOfC qual scope s0.heap.objs.size f cd :: outer) → (PySem.W.hideAll s.heap (frs (envOfC qual scope s0.heap.objs.size f cd :: outer))).get? b = some o := fun b o e n => PySem.W.hideAll_get _ e n
  refine wpAny_leaves_madeW (base := PySem.W.hideAll s.heap (frs (envOfC qual scope s0.heap.objs.size f cd :: outer))) (h := s.heap) (L := s0.heap.objs.size) I.ok.frames rfl (fun b o q => PySem.W.of_hideAll _ q) (PySem.W.funFrames_hide I.stack mem_frs) hx fun h2 t x1 x2 x3 x4 => ?_
  have tr : ∀ b o, H b = some o → ∃ u, s.heap.get? b = some u ∧ (PySem.W.hideAll s.heap (frs (envOfC qual scope s0.heap.objs.size f cd :: outer))).get? b = some u := fun b o q => by
    obtain ⟨u, hu⟩ := obj_is (I.hok b o q)
    exact ⟨u, hu, hB b u hu fun z => by have := I.stkFree b z; rw [q] at this; cases this⟩
  refine ⟨e, D, .ref t, H, _, rfl, I.os, I.bare, ⟨fun b o q n hf hx => ?_, fun b o q n hf hx' => ?_, fun b o q n hx => I.base.free b o q n hx, fun b o q hx' => ?_, I.base.tups, I.base.frzs, I.base.tbls⟩, fun a o q => ?_, x1, fun b o q hf hb => ?_, ?_, hE⟩
  · exact x1.1 _ _ (hB b o (I.base.keep b o q n hf hx) (nst b o q hf))
  · obtain ⟨sl, e1⟩ := I.base.slot b o q n hf hx'
    obtain ⟨_, o2, e2, d2⟩ := I.funs.mem hf
    rw [e1] at e2
    cases e2
    obtain ⟨sl', e3⟩ := x4 b _ (hx.keeps _ _ e1) d2
    exact ⟨sl', e3⟩
  · obtain ⟨o1, e1⟩ := I.base.there b o q hx'
    by_cases hb : b ∈ frs (envOfC qual scope s0.heap.objs.size f cd :: outer)
    · obtain ⟨_, o2, e2, d2⟩ := I.stack.mem hb
      obtain ⟨sl, e3⟩ := x4 b o2 (hx.keeps _ _ e2) d2
      exact ⟨_, e3⟩
    · exact ⟨o1, x1.1 _ _ (hB b o1 e1 hb)⟩
  · refine (I.hok a o q).stay (fun b u hb r => ?_) (fun _ r => r) fun _ _ r => r
    have hn : b ∉ frs (envOfC qual scope s0.heap.objs.size f cd :: outer) := fun z => by
      have fr := I.stkFree b z
      rcases hb with rfl | hb
      · rw [q] at fr; cases fr
      · rw [hb] at fr; cases fr
    exact x1.1 _ _ (hB b u r hn)
  · rcases hb with hb | ⟨u, hu⟩
    · cases hq : H b with
      | none => exact absurd hq hb
      | some ho =>
        obtain ⟨u, _, h2'⟩ := tr b ho hq
        have := x1.1 _ _ h2'
        rw [q] at this
        cases this
        exact h2'
    · obtain ⟨o1, e1⟩ := I.base.there b u hu (by intro z; cases z)
      have h2' := hB b o1 e1 (nst b u hu hf)
      have := x1.1 _ _ h2'
      rw [q] at this
      cases this
      exact h2'
  · cases hq : H e with
    | none => rfl
    | some ho =>
      obtain ⟨u, hu, _⟩ := tr e ho hq
      rw [hx.new] at hu
      cases hu
/-- THE RULE for a def that an exception may leave -/
theorem Fun.okR {P : Program} {w : World} {K : PySem.W.Frag} {mg : Str → Option Value} {base : Heap} {x qual : Str} {st : Stmt} {f : Addr} {fd : FuncData} {N ps : List Str} {k : Nat} {sp : Sp} (F : Fun K x qual st f fd) (S : FnScope N ps (defScope st)) (len : ∀ vs H Q E, sp vs H Q E → vs.length = ps.length)
    (hb : ∀ (cdv : Value) (A : Around) (outer : List Env) (s : Shared) (H : Hp) (vs : List V) (Q : VK) (E : XK), Room k (A.deeper (envOfC qual (defScope st) s.heap.objs.size f cdv)) → sp vs H Q E →
      ∃ t, PSs (cxOf (CXR P w) P w K mg base N qual (defScope st) f cdv A outer s H E) (defBody st) t ∧ t { nx := fun _ H' => Q .non H', rt := Q } (start N vs) H) : FnOk P w K mg base (CXR P w) (k + 1) f fd ps sp := by
  obtain ⟨_, _, _, _, _, _, cdv, _, _, rfl, lk, hcd⟩ := F.ex
  refine fn_of lk hcd S len fun A outer s H vs Q E hr hsp => ?_
  exact hb cdv A outer s H vs Q E hr hsp
/-- raise C(..) -/
def tRaise (D : Addr) (W : XK) (t : TA) : TS := fun _ σ H => t σ H fun vs H1 => vs.length ≤ 1000 ∧ W (.ref D) none H1
theorem ps_raise {X : Cx} {x : Str} {D : Addr} {np cpos pos : Pos} {e : Expr} {es : List Expr} {ta : TA} {W : XK} (hc : X.calm = true) (hg : Gl X x) (hm : X.mg x = some (.ref D)) (hD : PySem.W.excIn X.K D bmVE nwVE = true) (ha : PA X (e :: es) ta)
    (hxe : ∀ (pins : List (Addr × Obj)) (σ : St) (H : Hp) (s : Shared) (h1 : Heap) (ea : Addr) (vs : List Value), Inv X pins σ H s → Heap.MadeExcOf s.heap h1 ea (.ref D) vs → W (.ref D) none H → X.xe (.ref ea) { s with heap := h1 })
    (he : starEach (e :: es) X.env = (false, eval e X.env) :: starEach es X.env := by rfl) (hplain : (backTo cpos (starEach es X.env)).any (·.1) = false := by rfl) (hd : (x == ("__debug__" : Str)) = false := by decide) :
    PS X (.Raise (some (.Call (.Name x np) (e :: es) [] cpos)) none pos) (tRaise D W ta) := by
  intro pins s σ H Dn I h
  obtain ⟨bm, xc⟩ := XCls.mk' I.mod.kin hD
  obtain ⟨N, nm, qn, bs, hdd, sn, sub, ab, col, dd, k0, k1, k2, k3, k5, mN, eC, eN, ei, eT⟩ := xc.ex
  have hs := ha cpos pins s σ H _ I h
  refine wpAny_Raise_call_subT (C := D) (nm := nm) (q := qn) (N := N) (bs := bs) (bm := bm) (hdct := hdd) (sn := sn) (sub := sub) (ab := ab) (col := col) (dd := dd) (k0 := k0) (k1 := k1) (k2 := k2) (k3 := k3) (k5 := k5) PySem.F.excBase_ValueError (mN := mN) (eT.hasType (b := true) (by decide)) (I.ok.hd hc)
    (by rw [he]; show (false || (backTo cpos (starEach es X.env)).any (·.1)) = false; rw [hplain]; rfl) ei (ld_glob I hg hm ⟨rfl, ?_⟩ hd)
  rw [he] at hs ⊢
  refine Calls.evalArgs_plain (wpAny_mono hs (fun us s2 ⟨vs, H1, I1, r, q1, q2⟩ => ?_) fun _ _ z => z)
  refine ⟨rfl, ?_, I1.bk _ _ eC, eN.keeps I1.bk, eT.keeps I1.bk, fun h1 ea hx => hxe pins σ H1 s2 h1 ea _ I1 hx q2⟩
  rw [← r.length]
  exact Nat.le_of_lt (small1000 q1)
/-! ### try .. except C as n -/
section
variable {X : Cx} {pins : List (Addr × Obj)} {σ : St} {H H' : Hp} {s s' : Shared} {h2 : Heap}
/-- what is wanted where an exception comes to the frame: W its class, the heap behind it -/
def XE (X : Cx) (pins : List (Addr × Obj)) (W : XK) : Value → Shared → Prop := fun e s' => ∃ (σ : St) (H : Hp) (s : Shared) (H' : Hp) (ea D : Addr) (a0 : Value) (B : Heap), e = .ref ea ∧ Inv X pins σ H s ∧ Inv X pins σ H' s' ∧ Heap.FlyingW B X.stack ea (.ref D) a0 s'.heap ∧
  (∀ b o, s'.heap.get? b = some o → b ∉ frs X.stack → (H' b ≠ none ∨ ∃ u, s.heap.get? b = some u) → B.get? b = some o) ∧ H' ea = none ∧ W (.ref D) none H'
/-- the body of a try -/
abbrev Cx.tryX (X : Cx) (pins : List (Addr × Obj)) (W : XK) : Cx := { X with pn := X.pn ++ pins, xe := XE X pins W }
/-- an except suite -/
abbrev Cx.markX (X : Cx) (ea : Addr) : Cx := { X with A := X.A.mark (some (.ref ea)), calm := false, xe := fun _ _ => False }
theorem Inv.toTry (I : Inv X pins σ H s) (W : XK) : Inv (X.tryX pins W) [] σ H s :=
  ⟨⟨I.ok.mod, I.ok.kind, I.ok.glob, I.ok.blt, I.ok.above, I.ok.inj, I.ok.has, I.ok.cab, I.ok.hd, I.ok.frames, I.ok.stk, I.ok.exf, I.ok.bs, I.ok.bsz, I.ok.noex, I.ok.exfs, I.ok.funs, I.ok.frf⟩, I.os, I.bare, I.base, I.loc, I.cell, I.free, I.freeC, fun p hp => I.pin p (by rw [List.append_nil] at hp; exact hp), I.hok, I.len⟩
theorem Inv.ofTry {W : XK} {pins' : List (Addr × Obj)} (I : Inv (X.tryX pins W) pins' σ H s) : Inv X pins σ H s :=
  ⟨⟨I.ok.mod, I.ok.kind, I.ok.glob, I.ok.blt, I.ok.above, I.ok.inj, I.ok.has, I.ok.cab, I.ok.hd, I.ok.frames, I.ok.stk, I.ok.exf, I.ok.bs, I.ok.bsz, I.ok.noex, I.ok.exfs, I.ok.funs, I.ok.frf⟩, I.os, I.bare, I.base, I.loc, I.cell, I.free, I.freeC, fun p hp => I.pin p (List.mem_append_left _ hp), I.hok, I.len⟩
theorem Inv.toMark (I : Inv X pins σ H s) (ea : Addr) : Inv (X.markX ea) pins σ H s :=
  ⟨⟨I.ok.mod, I.ok.kind, I.ok.glob, I.ok.blt, I.ok.above, I.ok.inj, I.ok.has, I.ok.cab, fun z => (by cases z), I.ok.frames, I.ok.stk, I.ok.exf, I.ok.bs, I.ok.bsz, I.ok.noex, I.ok.exfs, I.ok.funs, I.ok.frf⟩, I.os, I.bare, I.base, I.loc, I.cell, I.free, I.freeC, I.pin, I.hok, I.len⟩
theorem Inv.ofMark {ea : Addr} (I : Inv (X.markX ea) pins σ H s) (hd : X.calm = true → X.A.handled = none) : Inv X pins σ H s :=
  ⟨⟨I.ok.mod, I.ok.kind, I.ok.glob, I.ok.blt, I.ok.above, I.ok.inj, I.ok.has, I.ok.cab, hd, I.ok.frames, I.ok.stk, I.ok.exf, I.ok.bs, I.ok.bsz, I.ok.noex, I.ok.exfs, I.ok.funs, I.ok.frf⟩, I.os, I.bare, I.base, I.loc, I.cell, I.free, I.freeC, I.pin, I.hok, I.len⟩
theorem SP.ofTry {W : XK} {D : Ends} {f : Flow} (h : SP (X.tryX pins W) [] D f s') : SP X pins D f s' := by
  cases f with
  | next => obtain ⟨a, b, I, q⟩ := h; exact ⟨a, b, I.ofTry, q⟩
  | brk => obtain ⟨a, b, I, q⟩ := h; exact ⟨a, b, I.ofTry, q⟩
  | cont => obtain ⟨a, b, I, q⟩ := h; exact ⟨a, b, I.ofTry, q⟩
  | ret u => obtain ⟨v, a, b, I, r, q⟩ := h; exact ⟨v, a, b, I.ofTry, r, q⟩
/-- an exception of a callee comes to the try -/
theorem passR {W : XK} : Passes (CXR X.prog X.w) (X.tryX pins W) W := fun pins' σ H s e s' I h => by
  obtain ⟨ea, D, a0, H', B, rfl, os, bare, un, hok, fl, kB, hn, hW⟩ := h
  exact ⟨σ, H, s, H', ea, D, a0, B, rfl, I.ofTry, I.ofTry.call' os un hok bare (fun b z => by cases z), fl, kB, hn, hW⟩
/-- an object that is not told of yet is tracked -/
theorem Inv.track {ea : Addr} {o : HO} (I0 : Inv X pins σ H s) (I1 : Inv X pins σ H' s') (hn : H' ea = none) (hp : s.heap.get? ea = none) (new : ObjOk X.prog X.w (upd H' ea o) s'.heap ea o) : Inv X pins σ (upd H' ea o) s' where
  ok := I1.ok
  os := I1.os
  bare := I1.bare
  base := ⟨I1.base.keep, I1.base.slot, fun b u e n hx => by
    rw [upd_ne fun z => by
      obtain ⟨u', e'⟩ := I0.base.there b u e hx
      rw [z, hp] at e'
      cases e']
    exact I1.base.free b u e n hx, I1.base.there, fun b xs q => by
      have := I1.base.tups b xs q
      rw [upd_ne (ne_of_none this hn)]; exact this, fun b u xs q => by
      have := I1.base.frzs b u xs q
      rw [upd_ne (ne_of_none this hn)]; exact this, fun b ps q => by
      obtain ⟨more, e⟩ := I1.base.tbls b ps q
      exact ⟨more, by rw [upd_ne (ne_of_none e hn)]; exact e⟩⟩
  loc := I1.loc
  cell := I1.cell
  free := by
    rw [upd_ne fun z => by
      obtain ⟨m, ⟨u, _, _, e, _⟩, _⟩ := I0.loc
      rw [z, hp] at e
      cases e]
    exact I1.free
  freeC := fun x c e => by
    rw [upd_ne fun z => by
      obtain ⟨v, u, e', _⟩ := I0.cell x c e
      rw [z, hp] at e'
      cases e']
    exact I1.freeC x c e
  pin := fun p hq => by
    obtain ⟨h1, h2, h3⟩ := I1.pin p hq
    refine ⟨h1, ?_, h3⟩
    rw [upd_ne fun z => by
      have := (I0.pin p hq).1
      rw [z, hp] at this
      cases this]
    exact h2
  hok := fun b u e => by
    by_cases hb : b = ea
    · subst hb; rw [upd_same] at e; cases e; exact new
    · rw [upd_ne hb] at e
      exact (I1.hok b u e).stay (fun _ _ _ q => q) (fun c q => by rw [upd_ne (ne_of_none q hn)]; exact q) fun c xs q => by rw [upd_ne (ne_of_none q hn)]; exact q
  len := I1.len
/-- a name has gone -/
theorem Inv.gone {i t : Nat} {n : Str} {v : Option Value} (I : Inv X pins σ H s) (hN : X.N.Nodup) (hi : X.N[i]? = some n) (hk : X.env.kindOf n = some .local) {m : Str → Option Value} (hm : s.heap.Ns X.env.locals m) (hn : h2.Ns X.env.locals (fun x => if x = n then v else m x)) (hs : Heap.SameBut X.env.locals s.heap h2) : Inv X pins (σ.set i none) H { s with heap := h2, toks := t } := by
  obtain ⟨m', hm', hl⟩ := I.loc
  have em : m' = m := by
    obtain ⟨o1, es1, ep1, e1, d1, _, f1⟩ := hm'
    obtain ⟨o2, es2, ep2, e2, d2, _, f2⟩ := hm
    rw [e1] at e2
    cases e2
    rw [d1] at d2
    cases d2
    funext x
    rw [← f1 x, f2 x]
  subst em
  obtain ⟨oL, _, _, hoL, _⟩ := id hm
  have lt : ∀ b o, X.s₀.heap.get? b = some o → b ≠ X.env.locals := fun b o e => Nat.ne_of_lt (Nat.lt_of_lt_of_le (Heap.lt_size e) I.ok.above)
  refine ⟨I.ok, I.os, I.bare, ⟨fun b o e n hb hx => (hs.2 b (lt b o e)).trans (I.base.keep b o e n hb hx), fun b o e n hb hx => ?_, I.base.free, fun b o e hx => ?_, I.base.tups, I.base.frzs, I.base.tbls⟩, ⟨_, hn, fun j y v' e1 e2 e3 => ?_⟩, fun y c e => ?_, I.free, I.freeC, fun p hp => ?_, fun b ob e => ?_, by rw [List.length_set]; exact I.len⟩
  · obtain ⟨sl, e1⟩ := I.base.slot b o e n hb hx
    exact ⟨sl, (hs.2 b (lt b o e)).trans e1⟩
  · obtain ⟨o', e1⟩ := I.base.there b o e hx
    exact ⟨o', (hs.2 b (lt b o e)).trans e1⟩
  · have hj : j ≠ i := fun z => by
      rw [z, List.getElem?_set_self (by rw [I.len]; exact (List.getElem?_eq_some_iff.mp hi).1)] at e2
      cases e2
    rw [List.getElem?_set_ne (Ne.symm hj)] at e2
    obtain ⟨u', r', q⟩ := hl j y v' e1 e2 e3
    refine ⟨u', r', ?_⟩
    rcases q with ⟨k, e⟩ | ⟨k, c, e, z⟩
    · refine .inl ⟨k, ?_⟩
      have : y ≠ n := fun e => hj (nodup_ix hN e1 (e ▸ hi))
      show (if y = n then v else m' y) = some u'
      rw [if_neg this]
      exact e
    · exact .inr ⟨k, c, e, z.sameBut hs (I.cne y c e)⟩
  · obtain ⟨w', z⟩ := I.cell y c e
    exact ⟨w', z.sameBut hs (I.cne y c e)⟩
  · obtain ⟨e, n', ne, nf, d⟩ := I.pin p hp
    exact ⟨(hs.2 p.1 ne).trans e, n', ne, nf, d⟩
  · refine (I.hok b ob e).stay (fun c w' hc q => (hs.2 c ?_).trans q) (fun _ q => q) fun _ _ q => q
    rintro rfl
    have fr := I.free
    rcases hc with rfl | hc
    · rw [fr] at e; cases e
    · rw [fr] at hc; cases hc
end
/-- the class at D has the class at C above it, or is it -/
def xsub (K : PySem.W.Frag) (D C : Addr) : Bool := match K.lookup D with
  | some ⟨_, _, .cls cd, _⟩ => cd.mro.contains (.ref C)
  | _ => false
theorem xsub_in {K : PySem.W.Frag} {h : Heap} {D C : Addr} {bD : List Value} (X : K.In h) (x : XCls h D bD) (q : xsub K D C = true) : (Value.ref D :: bD).contains (.ref C) = true := by
  unfold xsub at q
  split at q
  case h_2 => cases q
  case h_1 oc od cd sl hl =>
    obtain ⟨_, _, _, _, _, _, _, _, _, _, _, _, _, _, _, _, e, _⟩ := x.ex
    have := X _ _ hl
    rw [e] at this
    cases this
    exact q
/-- an exception, by its class -/
def excP (ea D : Addr) : Heap → Prop := fun h => ∃ ob, h.get? ea = some ob ∧ ob.cls = .ref D
def tTryAs (i : Nat) (W : XK) (K : PySem.W.Frag) (C : Addr) (tb ts : TS) : TS := fun D σ H => tb D σ H ∧ ∀ (σ' : St) (H' : Hp) (ea Dc : Addr), σ'.length = σ.length → W (.ref Dc) none H' → H' ea = none →
  PySem.W.excIn K Dc bmVE nwVE = true ∧ xsub K Dc C = true ∧ ts { nx := fun σ2 H2 => D.nx (σ2.set i none) H2, rt := fun _ _ => False } (σ'.set i (some (.ref ea))) (upd H' ea (.ext (excP ea Dc)))
theorem ps_tryAs {X : Cx} {body suite : List Stmt} {b0 : Stmt} {x n : Str} {i : Nat} {C : Addr} {tb ts : TS} {W : XK} {np hpos pos : Pos} (hst : X.stack = X.env :: X.outer) (hfr : X.env.frame = some X.env.locals) (hb : ∀ pins, PSs (X.tryX pins W) body tb) (hg : Gl X x) (hm : X.mg x = some (.ref C)) (hC : PySem.W.excIn X.K C bmVE nwVE = true)
    (hN : X.N.Nodup) (hi : X.N[i]? = some n) (hk : X.env.kindOf n = some .local) (hl : Loc X.env.scope n) (hs : ∀ ea, PSs (X.markX ea) (b0 :: suite) ts) (hf : X.fn n = true ∨ X.env.scope.names.lookup n = some .local := by first | exact .inl rfl | exact .inr rfl | assumption) (hd : (x == ("__debug__" : Str)) = false := by decide) :
    PS X (.Try body [.ExceptHandler (some (.Name x np)) (some n) (b0 :: suite) hpos] [] [] pos) (tTryAs i W X.K C tb ts) := by
  intro pins s σ H D I h
  refine wpAny_Try_except (wpAny_mono (hb pins [] s σ H D (I.toTry W) h.1) (fun f s1 q => ?_) fun e s1 q => ?_)
  · cases f with
    | next => exact wpAny_execs_nil (SP.ofTry q)
    | brk => exact SP.ofTry q
    | cont => exact SP.ofTry q
    | ret u => exact SP.ofTry q
  obtain ⟨σ1, H0, s0, H1, ea, Dc, a0, B, rfl, I0, I1, fl, kB, hea, hW⟩ := q
  obtain ⟨r1, r2, r3⟩ := h.2 σ1 H1 ea Dc (I1.len.trans I.len.symm) hW hea
  rw [hst] at fl
  have hp0 : s0.heap.get? ea = none := by
    cases hq : s0.heap.get? ea with
    | none => rfl
    | some u =>
      obtain ⟨oe, vs, _, _, _, he, _, hdt, _⟩ := fl.2.2.2
      have nst : ea ∉ frs X.stack := fun z => by
        obtain ⟨_, o2, e2, d2⟩ := I1.stack.mem z
        rw [he] at e2
        cases e2
        exact d2 vs hdt
      have := kB ea oe he nst (.inr ⟨u, hq⟩)
      rw [fl.2.1] at this
      cases this
  refine wpAny_looks_onW (by rw [← hst]; exact I.ok.frames) hfr fl fun h2 hh2 u2 => ?_
  refine wpAny_landsW hh2 fun h3 fl3 u3 => ?_
  have I3 := I0.upto I1 (fun b o e n hb => fl3.1 _ _ (kB b o e n hb)) (u2.trans u3)
  obtain ⟨bC, xC⟩ := XCls.mk' I3.kIn hC
  obtain ⟨bD, xD⟩ := XCls.mk' I3.kIn r1
  obtain ⟨oe, he, hcls⟩ := fl3.there
  refine wpAny_handleBy_cons (codeAny_handlers_test (ld_glob (I3.toMark ea) hg hm ?_ hd)) (by intro q; cases q)
  refine matches_own xC xD he hcls (xsub_in I3.kIn xD r2) ?_
  refine codeAny_handlers_suite_as ?_
  refine lands_againW fl3 fun h4 fl4 u4 => ?_
  have I4 := I0.upto I1 (fun b o e n hb => fl4.1 _ _ (kB b o e n hb)) ((u2.trans u3).trans u4)
  obtain ⟨oe4, he4, hcls4⟩ := fl4.there
  have I5 := I0.track (o := .ext (excP ea Dc)) I4 hea hp0 ⟨⟨oe4, he4, hcls4⟩, ⟨oe4, he4⟩, fun g1 g2 ⟨ob, e1, e2⟩ k => ⟨ob, k ob e1, e2⟩⟩
  refine store_ok I5 hN hi hl (show RelV (.ref ea) (.ref ea) from rfl) (fun s5 I6 => ?_) hf
  refine wpAny_mono (hs ea pins s5 _ _ _ (I6.toMark ea) r3) (fun f s6 q => ?_) fun _ _ z => False.elim z
  cases f with
  | next =>
    obtain ⟨σ7, H7, I7, q7⟩ := q
    obtain ⟨m, hnm, _⟩ := id I7.loc
    exact wpAny_nameGoes_keeps hk hnm (by rw [I.ok.kind]; rfl) fun h8 v hn8 hs8 => ⟨_, H7, (I7.ofMark I.ok.hd).gone hN hi hk hnm hn8 hs8, q7⟩
  | brk => obtain ⟨_, _, _, q7⟩ := q; exact False.elim q7
  | cont => obtain ⟨_, _, _, q7⟩ := q; exact False.elim q7
  | ret u => obtain ⟨_, _, _, _, _, q7⟩ := q; exact False.elim q7
end L2

set_option maxRecDepth 100000
set_option maxHeartbeats 4000000
namespace L2
open PySem PySem.Spec PyProof.Rows
/-! ### isinstance of an own exception -/
/-- what the words of an exception's class answer -/
structure XGet (K : PySem.W.Frag) (D : Addr) : Prop where
  cl : PySem.W.excIn K D bmVE nwVE = true
  ga : PySem.W.findIn K (.ref D) "__getattribute__" = some (some (.builtin "BaseException.__getattribute__"))
  gt : PySem.W.findIn K (.ref D) "__getattr__" = some none
  ck : PySem.W.findIn K (.ref D) "__class__" = some (some (.builtin "object.__class__"))
section
variable {prog : Program} {w : World} {A : Around} {E : Value → Shared → Prop} {h : Heap} {g : Array GenState} {d : Drawn} {t : Nat} {os : OsState} {a D : Addr} {o : Obj} {K : PySem.W.Frag} {bD : List Value}
theorem xc_get {R : Result → Shared → Prop} (xD : XCls h D bD) (hx : h.get? a = some o) (hc : o.cls = .ref D) (hq : R (.ok (.ret (.ref D))) ⟨h, g, d, t, os⟩) :
    codeAny (model prog w) A (.call (.builtin "getset_descriptor.__get__") ⟨[.builtin "object.__class__", .ref a, .ref D], []⟩) R ⟨h, g, d, t, os⟩ := by
  obtain ⟨_, _, _, _, _, _, _, _, _, _, _, _, _, _, _, _, hD, _, _, tD⟩ := xD.ex
  have hb : (Value.ref D :: bD).contains (.type (".".intercalate ("object.__class__".cutAt '.').dropLast)) = true := by
    rw [PySem.F.owner_object_class, List.contains_cons, tD.hasType (b := true) (by decide)]; rfl
  refine codeAny_call_builtin PySem.F.slot_gs_get.plain PySem.F.entry_gs_get (PySem.F.slot_gs_get.check _ _ _ _ _ _ _ _ (show (⟨h, g, d, t, os⟩ : Shared).TypeIs (.builtin "object.__class__") "getset_descriptor" from PySem.F.typeOf_object_class) (PySem.F.args_gs_get _ _ _) ?_)
  repeat (any_goals (first | assumption | (with_reducible refine wpAny_loadPart_at hx ?_; rw [hc]) | (with_reducible refine wpAny_isSubtype_exc hD ?_; rw [hb]) | wp_step))
  refine ⟨Code.quiet_builtin _ (by decide +kernel), codeAny_builtin PySem.F.entry_object_class ?_⟩
  repeat (any_goals (first | assumption | (with_reducible refine wpAny_loadPart_at hx ?_; rw [hc]) | wp_step))
theorem xc_entry {tk : Tok} {Q : Fin → Shared → Prop} (X : K.In h) (G : XGet K D) (xD : XCls h D bD) (hx : h.get? a = some o) (hc : o.cls = .ref D) (hq : Q (.done (.ret (.ref D))) ⟨h, g, d, t, os⟩) :
    wpAny (model prog w) A (Builtin.«object.__getattribute__» ⟨[.ref a, .str "__class__" tk], []⟩) Q E ⟨h, g, d, t, os⟩ := by
  have hT5 : (⟨h, g, d, t, os⟩ : Shared).TypeIs (.builtin "object.__class__") "getset_descriptor" := PySem.F.typeOf_object_class
  have f5 := PySem.F.typeOf_object_class
  have f6 := PySem.F.slot_gs_get.lookup
  have f7 := PySem.F.slot_gs_set.lookup
  repeat (any_goals (first | assumption | (with_reducible refine wpAny_loadPart_at hx ?_; rw [hc]) | (with_reducible refine (PySem.W.looks_findIn X G.ck).at ?_) | wp_step))
  refine xc_get xD hx hc ?_
  repeat (any_goals (first | assumption | wp_step | done))
theorem xc_check {M : Model} {v : Value} {Q : Unit → Shared → Prop} (xD : XCls h D bD) (hx : h.get? a = some o) (hc : o.cls = .ref D) (hq : Q () ⟨h, g, d, t, os⟩) : wpAny M A (checkBuiltinCall "BaseException.__getattribute__" ⟨[.ref a, v], []⟩) Q E ⟨h, g, d, t, os⟩ := by
  obtain ⟨_, _, _, _, _, _, _, _, _, _, _, _, _, _, _, _, hD, _, _, tD⟩ := xD.ex
  have h1 : builtinKind "BaseException.__getattribute__" = some .slot := by decide +kernel
  have h2 : splitId "BaseException.__getattribute__" = some ("BaseException", "__getattribute__") := by decide +kernel
  have hb : (Value.ref D :: bD).contains (.type "BaseException") = true := by rw [List.contains_cons, tD.hasType (b := true) (by decide), Bool.or_true]
  have ha := PySem.F.args_bexc_ga (.ref a) v
  simp only [checkBuiltinCall, h1, h2]
  refine wpAny_bind ?_
  unfold isInstance
  repeat (first | (with_reducible refine wpAny_loadPart_at hx ?_; rw [hc]) | (with_reducible refine wpAny_isSubtype_exc hD ?_; rw [hb]) | wp_step)
  exact hq
theorem xc_by {tk : Tok} {Q : Value → Shared → Prop} (X : K.In h) (G : XGet K D) (xD : XCls h D bD) (FG : Slot "ValueError" "__getattribute__" "BaseException.__getattribute__") (hx : h.get? a = some o) (hc : o.cls = .ref D) (hq : Q (.ref D) ⟨h, g, d, t, os⟩) :
    wpAny (model prog w) A (getAttrBy (.ref a) (.str "__class__" tk) false) Q E ⟨h, g, d, t, os⟩ := by
  have f3 := FG.bind (.ref a)
  have hx2 : (Value.builtin "BaseException.__getattribute__" == Value.builtin "object.__getattribute__") = false := by decide +kernel
  have hx1 : (onTheHeap (Value.ref D) && Value.builtin "BaseException.__getattribute__" == Value.builtin "object.__getattribute__") = false := by rw [hx2]; rfl
  repeat (any_goals (first | assumption | (with_reducible refine wpAny_loadPart_at hx ?_; rw [hc]) | (with_reducible refine (PySem.W.looks_findIn X G.ga).at ?_) | (with_reducible refine (PySem.W.looks_findIn X G.gt).at ?_) | wp_step))
  refine codeAny_call_builtin FG.plain PySem.F.entry_bexc_ga (xc_check xD hx hc (xc_entry X G xD hx hc ?_))
  repeat (any_goals (first | assumption | wp_step | done))
theorem xc_attr {Q : Option Value → Shared → Prop} (X : K.In h) (G : XGet K D) (xD : XCls h D bD) (FG : Slot "ValueError" "__getattribute__" "BaseException.__getattribute__") (hx : h.get? a = some o) (hc : o.cls = .ref D) (hq : Q (some (.ref D)) ⟨h, g, d, t + 1, os⟩) :
    wpAny (model prog w) A (getAttr? (.ref a) "__class__") Q E ⟨h, g, d, t, os⟩ := by
  unfold getAttr? getAttrBy?
  repeat (any_goals (first | assumption | with_reducible apply xc_by X G xD FG hx hc | wp_step))
end
theorem kitx_exc {K : PySem.W.Frag} {a D : Addr} (G : XGet K D) : PySem.W.KitX K (.ref a) (.ref D) (excP a D) where
  ty := fun M h _ ⟨_, h1, h2⟩ => h2 ▸ (PySem.W.Looks.ld h1).andThen .now
  it := fun _ h X _ => by
    obtain ⟨_, xD⟩ := XCls.mk' X G.cl
    obtain ⟨_, _, _, _, _, _, _, _, _, _, _, _, _, _, _, _, hD, _⟩ := xD.ex
    intro A' Q' E' s' k q
    unfold isType loadHead
    exact wpAny_bind (wpAny_loadPart (k _ _ hD) (wpAny_pure q))
  ne := fun h tp dd its n sl X htp => Bool.eq_false_iff.mpr fun q => by
    cases Value.ref.inj (beq_iff_eq.mp q)
    obtain ⟨_, xD⟩ := XCls.mk' X G.cl
    obtain ⟨_, _, _, _, _, _, _, _, _, _, _, _, _, _, _, _, hD, _⟩ := xD.ex
    have z := congrArg Obj.data (Option.some.inj (hD.symm.trans htp))
    cases z
  ca := fun {_ _ _ _ _ s} X p k => by
    obtain ⟨_, xD⟩ := XCls.mk' X G.cl
    obtain ⟨o, h1, h2⟩ := p
    obtain ⟨h, g, d, t, os⟩ := s
    exact xc_attr X G xD PySem.F.attr_ValueError.ga h1 h2 k
/-- isinstance(e, C): e an own exception of the class at D -/
theorem isiX {X : Cx} {K : PySem.W.Frag} (hK : X.K = K := by rfl) : CallR X (.builtin "isinstance") (fun xs H Q => ∃ (a D : Addr) (c : V) (b : Bool), xs = [.ref a, c] ∧ H a = some (.ext (excP a D)) ∧ XGet K D ∧
    ((∃ C, c = .ref C ∧ PySem.W.kitOne K (.ref D) (.ref C) = some b) ∨ ∃ T, c = .ty T ∧ PySem.W.kitOne K (.ref D) (.type T) = some b) ∧ Q (.bl b) H) := by
  subst hK
  intro pins s σ H xs us Q I r h
  obtain ⟨a, D, c, b, rfl, ha, G, hc, q⟩ := h
  obtain ⟨u, w', rfl, rx, ry⟩ := vals2 r
  cases (show u = Value.ref a from rx)
  have p : excP a D s.heap := (show ObjOk X.prog X.w H s.heap a (.ext (excP a D)) from I.hok a _ ha).1
  rcases hc with ⟨C, rfl, e⟩ | ⟨T, rfl, e⟩
  · cases (show w' = Value.ref C from ry)
    exact PySem.W.kia_one (kitx_exc G) I.kIn p e (fun z => nomatch z) fun tk => ⟨.bl b, H, I.tok tk, rfl, q⟩
  · cases (show w' = Value.type T from ry)
    exact PySem.W.kia_one (kitx_exc G) I.kIn p e (fun z => nomatch z) fun tk => ⟨.bl b, H, I.tok tk, rfl, q⟩
theorem boot_VE : bootBuiltins "ValueError" = some (.type "ValueError") := by decide +kernel
end L2
namespace Wd
open PySem L2 Ow
end Wd

set_option maxRecDepth 100000
set_option maxHeartbeats 4000000
namespace Wd
open PySem L2 Ow
/-! ### what lies beneath an option -/
/-! ### how it is found: turn by turn -/
end Wd

set_option maxRecDepth 100000
set_option maxHeartbeats 4000000
namespace L2
open PySem PySem.Spec PyProof.Rows
/-- an exception of a callee leaves the def, too -/
theorem passUp {P : Program} {w : World} {K : PySem.W.Frag} {mg : Str → Option Value} {base : Heap} {N : List Str} {qual : Str} {scope : Scope} {f : Addr} {cd : Value} {A : Around} {outer : List Env} {s0 : Shared} {H0 : Hp} {E : XK} :
    Passes (CXR P w) (cxOf (CXR P w) P w K mg base N qual scope f cd A outer s0 H0 E) E := fun pins σ H s e s' I h => by
  obtain ⟨ea, D, a0, H', B, rfl, os, bare, un, hok, fl, kB, hn, hW⟩ := h
  have I1 := I.call' os un hok bare (fun b z => by cases z)
  refine wpAny_leaves_onW I.ok.frames rfl fl fun h2 fl2 u2 => ?_
  have I2 := I.upto I1 (fun b o e n hb => fl2.1 _ _ (kB b o e n hb)) u2
  refine ⟨ea, D, a0, H', B, rfl, I2.os, I2.bare, I2.base, I2.hok, fl2, fun b o q hf hb => ?_, hn, hW⟩
  have nst : b ∉ frs (envOfC qual scope s0.heap.objs.size f cd :: outer) := fun z => by
    rcases hb with hb | ⟨u, hu⟩
    · exact hb (I1.stkFree b z)
    · rcases List.mem_cons.mp (I.stkSub b z) with r | r
      · have h1 := Heap.lt_size hu
        rw [r] at h1
        exact absurd h1 (Nat.lt_irrefl _)
      · exact hf r
  rcases hb with hb | ⟨u, hu⟩
  · cases hq : H' b with
    | none => exact absurd hq hb
    | some ho =>
      obtain ⟨u, hu⟩ := obj_is (I1.hok b ho hq)
      have h1 := kB b u hu nst (.inl hb)
      have h3 := fl2.1 _ _ h1
      rw [q] at h3
      cases h3
      exact h1
  · obtain ⟨o1, e1⟩ := I.base.there b u hu (by intro z; cases z)
    obtain ⟨o2, e2⟩ := I1.base.there b u hu (by intro z; cases z)
    have h1 := kB b o2 e2 nst (.inr ⟨o1, e1⟩)
    have h3 := fl2.1 _ _ h1
    rw [q] at h3
    cases h3
    exact h1
end L2

set_option maxRecDepth 100000
set_option maxHeartbeats 4000000
namespace L2
open PySem PySem.Spec PyProof.Rows
/-! ### lambdas that an exception may leave -/
section
variable {X : Cx} {k : Nat} {f : Addr} {fd : FuncData} {ps : List Str} {x : Str} {p pos : Pos} {e : Expr} {es : List Expr} {t : TA}
end
end L2

set_option maxRecDepth 100000
set_option maxHeartbeats 4000000
namespace Wd
open PySem L2 Ow
/-! ### asked, and what is heard -/
end Wd

set_option maxRecDepth 100000
set_option maxHeartbeats 4000000
namespace Ow
open PySem
end Ow
namespace Wd
open PySem L2 Ow
/-! ### picks, and the stand that they tell -/
/-! ### a ware chosen option by option -/
/-! ### one wood within another, by their wares -/
end Wd

set_option maxRecDepth 100000
set_option maxHeartbeats 4000000
namespace L2
open PySem PySem.Spec PyProof.Rows
end L2
namespace Wd
open PySem L2 Ow
end Wd

set_option maxRecDepth 100000
set_option maxHeartbeats 4000000
namespace Wd
open PySem L2 Ow
/-! ### picks taken back -/
end Wd

set_option maxRecDepth 100000
set_option maxHeartbeats 4000000
namespace L2
open PySem PySem.Spec PyProof.Rows
/-! ### in, of a list of data -/
end L2
namespace Wd
open PySem L2 Ow
/-! ### the sets that a stand and ties let in -/
/-! ### picks of a ware, in any order -/
/-! ### orders of options -/
/-! ### boughs alone always have a ware -/
/-! ### picks taken back one by one -/
end Wd

set_option maxRecDepth 100000
set_option maxHeartbeats 4000000
namespace Wd
open PySem L2 Ow
/-! ### picks that a choice may hold -/
/-! ### what is offered, told option by option -/
/-! ### what a lambda closes over -/
/-! ### deeds that are refused -/
/-! ### picks, where only a pen or a choice is written -/
end Wd

set_option maxRecDepth 100000
set_option maxHeartbeats 4000000
namespace L2
open PySem PySem.Spec
end L2
namespace Wd
open PySem L2 Ow
/-! ### woods drawn, kids handed on in a tuple -/
end Wd

set_option maxRecDepth 100000
set_option maxHeartbeats 4000000
namespace L2
open PySem PySem.Spec PyProof.Rows
section
variable {X : Cx}
end
end L2

set_option maxRecDepth 100000
set_option maxHeartbeats 4000000
namespace L2
open PySem PySem.Spec PyProof.Rows
/-! ### try .. except C, without a name -/
def tTryX (W : XK) (K : PySem.W.Frag) (C : Addr) (tb ts : TS) : TS := fun D σ H => tb D σ H ∧ ∀ (σ' : St) (H' : Hp) (ea Dc : Addr), σ'.length = σ.length → W (.ref Dc) none H' → H' ea = none →
  PySem.W.excIn K Dc bmVE nwVE = true ∧ xsub K Dc C = true ∧ ts { nx := D.nx, rt := fun _ _ => False } σ' H'
theorem ps_tryX {X : Cx} {body suite : List Stmt} {b0 : Stmt} {x : Str} {C : Addr} {tb ts : TS} {W : XK} {np hpos pos : Pos} (hst : X.stack = X.env :: X.outer) (hfr : X.env.frame = some X.env.locals) (hb : ∀ pins, PSs (X.tryX pins W) body tb) (hg : Gl X x) (hm : X.mg x = some (.ref C)) (hC : PySem.W.excIn X.K C bmVE nwVE = true)
    (hs : ∀ ea, PSs (X.markX ea) (b0 :: suite) ts) (hd : (x == ("__debug__" : Str)) = false := by decide) :
    PS X (.Try body [.ExceptHandler (some (.Name x np)) none (b0 :: suite) hpos] [] [] pos) (tTryX W X.K C tb ts) := by
  intro pins s σ H D I h
  refine wpAny_Try_except (wpAny_mono (hb pins [] s σ H D (I.toTry W) h.1) (fun f s1 q => ?_) fun e s1 q => ?_)
  · cases f with
    | next => exact wpAny_execs_nil (SP.ofTry q)
    | brk => exact SP.ofTry q
    | cont => exact SP.ofTry q
    | ret u => exact SP.ofTry q
  obtain ⟨σ1, H0, s0, H1, ea, Dc, a0, B, rfl, I0, I1, fl, kB, hea, hW⟩ := q
  obtain ⟨r1, r2, r3⟩ := h.2 σ1 H1 ea Dc (I1.len.trans I.len.symm) hW hea
  rw [hst] at fl
  refine wpAny_looks_onW (by rw [← hst]; exact I.ok.frames) hfr fl fun h2 hh2 u2 => ?_
  refine wpAny_landsW hh2 fun h3 fl3 u3 => ?_
  have I3 := I0.upto I1 (fun b o e n hb => fl3.1 _ _ (kB b o e n hb)) (u2.trans u3)
  obtain ⟨bC, xC⟩ := XCls.mk' I3.kIn hC
  obtain ⟨bD, xD⟩ := XCls.mk' I3.kIn r1
  obtain ⟨oe, he, hcls⟩ := fl3.there
  refine wpAny_handleBy_cons (codeAny_handlers_test (ld_glob (I3.toMark ea) hg hm ?_ hd)) (by intro q; cases q)
  refine matches_own xC xD he hcls (xsub_in I3.kIn xD r2) ?_
  refine codeAny_handlers_suite ?_
  refine lands_againW fl3 fun h4 fl4 u4 => ?_
  have I4 := I0.upto I1 (fun b o e n hb => fl4.1 _ _ (kB b o e n hb)) ((u2.trans u3).trans u4)
  refine wpAny_mono (hs ea pins _ _ _ _ (I4.toMark ea) r3) (fun f s6 q => ?_) fun _ _ z => False.elim z
  cases f with
  | next =>
    obtain ⟨σ7, H7, I7, q7⟩ := q
    exact ⟨_, H7, I7.ofMark I.ok.hd, q7⟩
  | brk => obtain ⟨_, _, _, q7⟩ := q; exact False.elim q7
  | cont => obtain ⟨_, _, _, q7⟩ := q; exact False.elim q7
  | ret u => obtain ⟨_, _, _, _, _, q7⟩ := q; exact False.elim q7
end L2

set_option maxRecDepth 100000
set_option maxHeartbeats 4000000
namespace Wd
open PySem L2 Ow
/-! ### options that stay, numbered anew -/
/-! ### ties numbered anew -/
/-! ### a ware's set keeps the ties numbered anew -/
/-! ### the options of some ware -/
end Wd

set_option maxRecDepth 100000
set_option maxHeartbeats 4000000
namespace Wd
open PySem L2 Ow
/-! ### ties in a tuple -/
/-! ### the whole fold -/
end Wd

set_option maxRecDepth 100000
set_option maxHeartbeats 4000000
namespace L2
open PySem PySem.Spec
end L2
namespace Wd
open PySem L2 Ow
end Wd

set_option maxRecDepth 100000
set_option maxHeartbeats 4000000
namespace Wd
open PySem L2 Ow
/-! ### what a fold keeps -/
end Wd

set_option maxRecDepth 100000
set_option maxHeartbeats 4000000
namespace Wd
open PySem L2 Ow
theorem shaped_flat {n : Nat} {ds : List PyData} (h : ds.all (flatD n) = true) (hn : n ≤ 60) : SeqAt.shaped (.list ds) = true := by
  obtain ⟨a, b⟩ := flat_layAll n _ h
  unfold SeqAt.shaped
  rw [Bool.and_eq_true]
  refine ⟨by simpa [PyData.canLay0] using a, decide_eq_true ?_⟩
  simp only [PyData.depth]
  omega
end Wd

set_option maxRecDepth 100000
set_option maxHeartbeats 4000000
namespace Wd
open PySem L2 Ow
/-! ### sets of new numbers, by the old ones -/
/-! ### a set that keeps the ties numbered anew, by the old numbers -/
/-! ### folded again -/
end Wd

set_option maxRecDepth 100000
set_option maxHeartbeats 4000000
namespace L2
open PySem PySem.Spec PyProof.Rows
end L2
namespace Wd
open PySem L2 Ow
end Wd

set_option maxRecDepth 100000
set_option maxHeartbeats 4000000
namespace L2
open PySem PySem.Spec PyProof.Rows
section
variable {X : Cx} {tg iter elt : Expr} {cs : List Expr} {sc sc0 : Scope} {pos : Pos} {wi : TI} {g : TG} {tc : TT} {te : TE} {XN N' : List Str} {n : Nat} {kp : List Nat}
end
end L2
namespace L2
open PySem PySem.Spec PyProof.Rows
/-! ### isinstance of an own exception, of several classes -/
theorem kit_none {K : PySem.W.Frag} {t : Value} : ∀ {Cs : List Addr} {us : List Value}, Vals (Cs.map V.ref) us → (∀ C ∈ Cs, PySem.W.kitOne K t (.ref C) = some false) → PySem.W.kitAny K t us = some false
  | [], us, r, _ => by cases r; rfl
  | C :: Cs, us, r, h => by
    cases r with
    | cons rx rt =>
      cases (show _ = Value.ref C from rx)
      unfold PySem.W.kitAny
      rw [h C List.mem_cons_self]
      exact kit_none rt fun D hD => h D (List.mem_cons_of_mem _ hD)
theorem isiXT {X : Cx} {K : PySem.W.Frag} (hK : X.K = K := by rfl) : CallR X (.builtin "isinstance") (fun xs H Q => ∃ (a D tp : Addr) (Cs : List Addr), xs = [.ref a, .ref tp] ∧ H a = some (.ext (excP a D)) ∧ XGet K D ∧ H tp = some (.tup (Cs.map V.ref)) ∧
    (∀ C ∈ Cs, PySem.W.kitOne K (.ref D) (.ref C) = some false) ∧ Q (.bl false) H) := by
  subst hK
  intro pins s σ H xs us Q I r h
  obtain ⟨a, D, tp, Cs, rfl, ha, G, ht, hc, q⟩ := h
  obtain ⟨u, w', rfl, rx, ry⟩ := vals2 r
  cases (show u = Value.ref a from rx)
  cases (show w' = Value.ref tp from ry)
  have p : excP a D s.heap := (show ObjOk X.prog X.w H s.heap a (.ext (excP a D)) from I.hok a _ ha).1
  obtain ⟨its, rv, pl, hz⟩ := I.tuple (.inl (.inl ht))
  obtain ⟨o, h1, h2, n, h3⟩ := pl
  obtain ⟨cl, dd, dt, sl⟩ := o
  cases (show cl = _ from h2)
  cases (show dt = _ from h3)
  exact PySem.W.kia_tup (kitx_exc G) I.kIn p h1 (kit_none rv hc) (fun z => nomatch z) fun tk => ⟨.bl false, H, I.tok tk, rfl, q⟩
end L2
namespace Wd
open PySem L2 Ow
/-! ### the fold, told by wares -/
/-! ### the folded wood is a wood -/
end Wd

set_option maxRecDepth 100000
set_option maxHeartbeats 4000000
/-! ### Data: what an expression gives, by what the names hold -/
namespace L2
open PySem PySem.Spec PyProof.Rows Wd
theorem DnL.drop {H : Hp} : ∀ {ds : List PyData} {xs : List V} (n : Nat), DnL H ds xs → DnL H (ds.drop n) (xs.drop n)
  | _, _, 0, h => h
  | [], xs, n + 1, h => by rw [(show xs = [] from h)]; rfl
  | d :: ds, _, n + 1, ⟨x, r, e, _, z⟩ => by rw [e]; exact DnL.drop n z
theorem DnL.take {H : Hp} : ∀ {ds : List PyData} {xs : List V} (n : Nat), DnL H ds xs → DnL H (ds.take n) (xs.take n)
  | _, _, 0, h => rfl
  | [], xs, n + 1, h => by rw [(show xs = [] from h)]; rfl
  | d :: ds, _, n + 1, ⟨x, r, e, q, z⟩ => by rw [e]; exact ⟨x, r.take n, rfl, q, DnL.take n z⟩
theorem DnL.reverse {H : Hp} : ∀ {ds : List PyData} {xs : List V}, DnL H ds xs → DnL H ds.reverse xs.reverse
  | [], xs, h => by rw [(show xs = [] from h)]; rfl
  | d :: ds, _, ⟨x, r, e, q, z⟩ => by rw [e, List.reverse_cons, List.reverse_cons]; exact (DnL.reverse z).append ⟨x, [], rfl, q, rfl⟩
def cutD (ds : List PyData) (lo hi : Option Int) : List PyData := (ds.drop (HT.sIx ds.length 0 lo)).take (HT.sIx ds.length ds.length hi - HT.sIx ds.length 0 lo)
theorem DnL.cut {H : Hp} {ds : List PyData} {xs : List V} (h : DnL H ds xs) (lo hi : Option Int) : DnL H (cutD ds lo hi) (cutV xs lo hi) := by
  unfold cutD cutV
  rw [h.length]
  exact (h.drop _).take _
theorem DnL.at {H : Hp} {ds : List PyData} {xs : List V} {i : Int} {d : PyData} (h : DnL H ds xs) (e : atI ds i = some d) : ∃ v, atI xs i = some v ∧ Dn H d v := by
  unfold atI at e ⊢
  rw [← h.length]
  cases hj : ixN ds.length i with
  | none => rw [hj] at e; cases e
  | some j =>
    rw [hj] at e
    obtain ⟨v, h1, h2⟩ := h.get' (i := j) e
    exact ⟨v, h1, h2⟩
/-- what the names hold, as data (none: not told) -/
def EnvD (σ : St) (H : Hp) (es : List (Option PyData)) : Prop := σ.length = es.length ∧ ∀ (i : Nat) (d : PyData), es[i]? = some (some d) → ∃ v, σ[i]? = some (some v) ∧ Dn H d v
theorem EnvD.same {σ : St} {H H' : Hp} {es : List (Option PyData)} (e : EnvD σ H es) (s : Same H H') : EnvD σ H' es :=
  ⟨e.1, fun i d h => let ⟨v, a, b⟩ := e.2 i d h; ⟨v, a, Dn.same s _ _ b⟩⟩
theorem EnvD.set {σ : St} {H : Hp} {es : List (Option PyData)} {i : Nat} {d : PyData} {v : V} (e : EnvD σ H es) (hi : i < es.length) (h : Dn H d v) : EnvD (σ.set i (some v)) H (es.set i (some d)) := by
  refine ⟨by rw [List.length_set, List.length_set]; exact e.1, fun j c hj => ?_⟩
  by_cases z : i = j
  · subst z
    rw [List.getElem?_set_self hi] at hj
    cases hj
    exact ⟨v, List.getElem?_set_self (by rw [e.1]; exact hi), h⟩
  · rw [List.getElem?_set_ne z] at hj ⊢
    exact e.2 j c hj
theorem EnvD.nil {H : Hp} : EnvD [] H [] := ⟨rfl, fun i d h => by simp at h⟩
theorem EnvD.cons {σ : St} {H : Hp} {es : List (Option PyData)} {v : V} {d : PyData} (h : Dn H d v) (e : EnvD σ H es) : EnvD (some v :: σ) H (some d :: es) :=
  ⟨by rw [List.length_cons, List.length_cons, e.1], fun i c hi => match i, hi with
    | 0, hi => by cases hi; exact ⟨v, rfl, h⟩
    | i + 1, hi => e.2 i c hi⟩
theorem EnvD.skip {σ : St} {H : Hp} {es : List (Option PyData)} {u : Option V} (e : EnvD σ H es) : EnvD (u :: σ) H (none :: es) :=
  ⟨by rw [List.length_cons, List.length_cons, e.1], fun i c hi => match i, hi with
    | 0, hi => by cases hi
    | i + 1, hi => e.2 i c hi⟩
theorem EnvD.hole {H : Hp} : ∀ (n : Nat) {u : Option V}, EnvD (List.replicate n u) H (List.replicate n none)
  | 0, _ => EnvD.nil
  | n + 1, _ => EnvD.skip (EnvD.hole n)
/-- an expression gives data -/
def Gd (te : TE) (es : List (Option PyData)) (d : PyData) : Prop := ∀ (σ : St) (H : Hp) (Q : VK), EnvD σ H es → (∀ v H2, Same H H2 → Dn H2 d v → Q v H2) → te σ H Q
def GdL (ta : TA) (es : List (Option PyData)) (ds : List PyData) : Prop := ∀ (σ : St) (H : Hp) (Q : List V → Hp → Prop), EnvD σ H es → (∀ vs H2, Same H H2 → DnL H2 ds vs → Q vs H2) → ta σ H Q
def GdO (tl : TO) (es : List (Option PyData)) (o : Option Int) : Prop := ∀ (σ : St) (H : Hp) (Q : Option Int → Hp → Prop), EnvD σ H es → (∀ H2, Same H H2 → Q o H2) → tl σ H Q
section
variable {te ta tb ti tst : TE} {tl th : TO} {tr : TA} {es : List (Option PyData)} {d c : PyData} {ds cs : List PyData} {K : PySem.W.Frag}
theorem gdl_nil : GdL tNil es [] := fun σ H Q e q => q [] H (Same.refl H) rfl
theorem gdl_cons (a : Gd ta es d) (b : GdL tr es ds) : GdL (tCons ta tr) es (d :: ds) := fun σ H Q e q => a σ H _ e fun x H1 s1 h1 => b σ H1 _ (e.same s1) fun xs H2 s2 h2 => q _ H2 (s1.trans s2) ⟨x, xs, rfl, Dn.same s2 _ _ h1, h2⟩
theorem gd_tup (h : GdL tr es ds) (hz : ds.length ≤ 1000 := by (first | exact Nat.le_of_ble_eq_true rfl | assumption)) : Gd (tTup tr) es (.tuple ds) := fun σ H Q e q => h σ H _ e fun xs H1 s1 h1 =>
  ⟨small (h1.length ▸ hz), fun p hp => q _ _ (s1.trans (same_new hp _)) ⟨p, xs, rfl, upd_same, DnL.same (same_new hp _) _ _ h1⟩⟩
theorem gd_lst (h : GdL tr es ds) (hz : ds.length ≤ 1000 := by (first | exact Nat.le_of_ble_eq_true rfl | assumption)) : Gd (tLst tr) es (.list ds) := fun σ H Q e q => h σ H _ e fun xs H1 s1 h1 =>
  ⟨small (h1.length ▸ hz), fun p hp => q _ _ (s1.trans (same_new hp _)) ⟨p, xs, rfl, upd_same, DnL.same (same_new hp _) _ _ h1⟩⟩
theorem gd_var {i : Nat} (h : es[i]? = some (some d)) : Gd (tVar i) es d := fun σ H Q e q => let ⟨v, a, b⟩ := e.2 i d h; ⟨v, a, q v H (Same.refl H) b⟩
theorem gd_int {i : Int} : Gd (tC (.int i)) es (.int i) := fun σ H Q e q => q _ H (Same.refl H) rfl
theorem gd_str {x : Str} : Gd (tC (.str x)) es (.str x) := fun σ H Q e q => q _ H (Same.refl H) rfl
theorem gd_bl {b : Bool} : Gd (tC (.bl b)) es (.bool b) := fun σ H Q e q => q _ H (Same.refl H) rfl
theorem gd_non : Gd (tC .non) es .none := fun σ H Q e q => q _ H (Same.refl H) rfl
theorem gd_dict : Gd tDNewK es (.dict []) := fun σ H Q e q => fun p hp => q _ _ (same_new hp _) ⟨rfl, p, rfl, upd_same⟩
theorem gd_neg {i : Int} (h : Gd ta es (.int i)) : Gd (tUn (rU fun i => .int (-i)) ta) es (.int (-i)) := fun σ H Q e q => h σ H _ e fun v H1 s1 h1 => ⟨i, h1, q _ H1 s1 rfl⟩
theorem gd_op {g : Int → Int → V} {i j k : Int} (h : Gd ta es (.int i)) (h' : Gd tb es (.int j)) (hg : g i j = .int k) : Gd (tOp (rI0 g) ta tb) es (.int k) := fun σ H Q e q =>
  h σ H _ e fun v H1 s1 h1 => h' σ H1 _ (e.same s1) fun u H2 s2 h2 => ⟨i, j, h1, h2, q _ H2 (s1.trans s2) hg⟩
theorem gd_opC {C : Int → Int → Prop} {g : Int → Int → V} {i j k : Int} (h : Gd ta es (.int i)) (h' : Gd tb es (.int j)) (hC : C i j) (hg : g i j = .int k) : Gd (tOp (rI C g) ta tb) es (.int k) := fun σ H Q e q =>
  h σ H _ e fun v H1 s1 h1 => h' σ H1 _ (e.same s1) fun u H2 s2 h2 => ⟨i, j, h1, h2, hC, q _ H2 (s1.trans s2) hg⟩
theorem gd_pw {i j : Int} (h : CPow i j) : Gd (tOp (rI CPow fun i j => .int (i ^ j.toNat)) (tC (.int i)) (tC (.int j))) es (.int (i ^ j.toNat)) := gd_opC gd_int gd_int h rfl
theorem gd_cat (h : Gd ta es (.list ds)) (h' : Gd tb es (.list cs)) (hz : ds.length + cs.length ≤ 1000 := by (first | exact Nat.le_of_ble_eq_true rfl | assumption)) : Gd (tOp rCat ta tb) es (.list (ds ++ cs)) := fun σ H Q e q =>
  h σ H _ e fun v H1 s1 h1 => h' σ H1 _ (e.same s1) fun u H2 s2 h2 => by
    obtain ⟨a, xs, rfl, ha, la⟩ := Dn.same s2 _ _ h1
    obtain ⟨b, ys, rfl, hb, lb⟩ := id h2
    refine ⟨a, b, xs, ys, rfl, rfl, ha, hb, small (by rw [← la.length, ← lb.length]; exact hz), fun p hp => q _ _ ((s1.trans s2).trans (same_new hp _)) ⟨p, _, rfl, upd_same, ?_⟩⟩
    exact (DnL.same (same_new hp _) _ _ la).append (DnL.same (same_new hp _) _ _ lb)
/-- t + u of tuples -/
def rCatA : R2 := fun x y H Q => ∃ a b xs ys, x = .ref a ∧ y = .ref b ∧ H a = some (.tup xs) ∧ H b = some (.tup ys) ∧ xs.length + ys.length ≤ sizeLine ∧ ∀ c H', Same H H' → H' c = some (.tup (xs ++ ys)) → Q (.ref c) H'
theorem op_catA {X : Cx} : OpR X (binaryOp .Add) rCatA := op_catTA
theorem gd_catT (h : Gd ta es (.tuple ds)) (h' : Gd tb es (.tuple cs)) (hz : ds.length + cs.length ≤ 1000 := by (first | exact Nat.le_of_ble_eq_true rfl | assumption)) : Gd (tOp rCatA ta tb) es (.tuple (ds ++ cs)) := fun σ H Q e q =>
  h σ H _ e fun v H1 s1 h1 => h' σ H1 _ (e.same s1) fun u H2 s2 h2 => by
    obtain ⟨a, xs, rfl, ha, la⟩ := Dn.same s2 _ _ h1
    obtain ⟨b, ys, rfl, hb, lb⟩ := id h2
    refine ⟨a, b, xs, ys, rfl, rfl, ha, hb, small (by rw [← la.length, ← lb.length]; exact hz), fun p H' s hp => q _ _ ((s1.trans s2).trans s) ⟨p, _, rfl, hp, ?_⟩⟩
    exact (DnL.same s _ _ la).append (DnL.same s _ _ lb)
theorem gdo_none : GdO tNoPart es none := fun σ H Q e q => q H (Same.refl H)
theorem gdo_some {i : Int} (h : Gd te es (.int i)) : GdO (tPart te) es (some i) := fun σ H Q e q => h σ H _ e fun v H1 s1 h1 => ⟨i, h1, q H1 s1⟩
/-- t[a:b] of a tuple, also the whole -/
def rSlA : V → Option Int → Option Int → Hp → VK → Prop := fun x lo hi H Q => ∃ a xs, x = .ref a ∧ H a = some (.tup xs) ∧ ∀ p H', Same H H' → H' p = some (.tup (cutV xs lo hi)) → Q (.ref p) H'
theorem sl_A {X : Cx} : SlR X rSlA := sl_tupA
theorem gd_slT {lo hi : Option Int} (h : Gd te es (.tuple ds)) (hl : GdO tl es lo) (hh : GdO th es hi) : Gd (tSl rSlA te tl th) es (.tuple (cutD ds lo hi)) := fun σ H Q e q =>
  h σ H _ e fun v H1 s1 h1 => hl σ H1 _ (e.same s1) fun H2 s2 => hh σ H2 _ ((e.same s1).same s2) fun H3 s3 => by
    obtain ⟨a, xs, rfl, ha, la⟩ := Dn.same (s2.trans s3) _ _ h1
    exact ⟨a, xs, rfl, ha, fun p H' s hp => q _ _ ((s1.trans (s2.trans s3)).trans s) ⟨p, _, rfl, hp, (DnL.same s _ _ la).cut lo hi⟩⟩
theorem gd_slL {lo hi : Option Int} (h : Gd te es (.list ds)) (hl : GdO tl es lo) (hh : GdO th es hi) : Gd (tSl (rSlL K) te tl th) es (.list (cutD ds lo hi)) := fun σ H Q e q =>
  h σ H _ e fun v H1 s1 h1 => hl σ H1 _ (e.same s1) fun H2 s2 => hh σ H2 _ ((e.same s1).same s2) fun H3 s3 => by
    obtain ⟨a, xs, rfl, ha, la⟩ := Dn.same (s2.trans s3) _ _ h1
    exact ⟨a, xs, rfl, SqL.of ha, fun p hp => q _ _ ((s1.trans (s2.trans s3)).trans (same_new hp _)) ⟨p, _, rfl, upd_same, (DnL.same (same_new hp _) _ _ la).cut lo hi⟩⟩
theorem gd_revT (h : Gd te es (.tuple ds)) (h' : Gd tst es (.int (-1))) : Gd (tRevT te tst) es (.tuple ds.reverse) := fun σ H Q e q =>
  h σ H _ e fun v H1 s1 h1 => h' σ H1 _ (e.same s1) fun u H2 s2 h2 => by
    obtain ⟨a, xs, rfl, ha, la⟩ := Dn.same s2 _ _ h1
    exact ⟨a, xs, h2, rfl, ha, fun p hp => q _ _ ((s1.trans s2).trans (same_new hp _)) ⟨p, _, rfl, upd_same, (DnL.same (same_new hp _) _ _ la).reverse⟩⟩
theorem gd_ixT {i : Int} (h : Gd te es (.tuple ds)) (h' : Gd ti es (.int i)) (hd : atI ds i = some d) : Gd (tOp (rIxT K) te ti) es d := fun σ H Q e q =>
  h σ H _ e fun v H1 s1 h1 => h' σ H1 _ (e.same s1) fun u H2 s2 h2 => by
    obtain ⟨a, xs, rfl, ha, la⟩ := Dn.same s2 _ _ h1
    obtain ⟨x, h3, h4⟩ := la.at hd
    exact ⟨a, xs, i, x, rfl, h2, sqT ha, h3, q _ _ (s1.trans s2) h4⟩
theorem gd_ixL {i : Int} (h : Gd te es (.list ds)) (h' : Gd ti es (.int i)) (hd : atI ds i = some d) : Gd (tOp (rIxL K) te ti) es d := fun σ H Q e q =>
  h σ H _ e fun v H1 s1 h1 => h' σ H1 _ (e.same s1) fun u H2 s2 h2 => by
    obtain ⟨a, xs, rfl, ha, la⟩ := Dn.same s2 _ _ h1
    obtain ⟨x, h3, h4⟩ := la.at hd
    exact ⟨a, xs, i, x, rfl, h2, SqL.of ha, h3, q _ _ (s1.trans s2) h4⟩
theorem at_lt {i : Int} (h0 : 0 ≤ i) (h1 : i < ds.length) : ∃ d, d ∈ ds ∧ atI ds i = some d := by
  have hi : i.toNat < ds.length := by omega
  refine ⟨ds[i.toNat], List.getElem_mem hi, ?_⟩
  have e := atI_nat (List.getElem?_eq_getElem hi)
  rwa [Int.toNat_of_nonneg h0] at e
/-- len(t) of a tuple -/
theorem gd_lenT (h : GdL tr es [.tuple ds]) : Gd (tCB (fun xs H Q => ∃ p ys, xs = [.ref p] ∧ (SqL K H p ys ∨ SqT K H p ys) ∧ Q (.int ys.length) H) tr) es (.int ds.length) := fun σ H Q e q =>
  h σ H _ e fun vs H1 s1 ⟨x, r, e1, ⟨a, xs, e2, ha, la⟩, e3⟩ => by
    cases (show r = [] from e3)
    subst e2
    exact ⟨a, xs, e1, .inr (sqT ha), q _ _ s1 (by rw [la.length]; rfl)⟩
theorem gd_lenL (h : GdL tr es [.list ds]) : Gd (tCB (fun xs H Q => ∃ p ys, xs = [.ref p] ∧ (SqL K H p ys ∨ SqT K H p ys) ∧ Q (.int ys.length) H) tr) es (.int ds.length) := fun σ H Q e q =>
  h σ H _ e fun vs H1 s1 ⟨x, r, e1, ⟨a, xs, e2, ha, la⟩, e3⟩ => by
    cases (show r = [] from e3)
    subst e2
    exact ⟨a, xs, e1, .inl (SqL.of ha), q _ _ s1 (by rw [la.length]; rfl)⟩
/-- list(t) -/
theorem gd_listT (h : GdL tr es [.tuple ds]) : Gd (tCB (fun xs H Q => ∃ p ys, xs = [.ref p] ∧ (SqL K H p ys ∨ SqT K H p ys) ∧ ∀ l, H l = none → Q (.ref l) (upd H l (.lst ys))) tr) es (.list ds) := fun σ H Q e q =>
  h σ H _ e fun vs H1 s1 ⟨x, r, e1, ⟨a, xs, e2, ha, la⟩, e3⟩ => by
    cases (show r = [] from e3)
    subst e2
    exact ⟨a, xs, e1, .inr (sqT ha), fun l hl => q _ _ (s1.trans (same_new hl _)) ⟨l, xs, rfl, upd_same, DnL.same (same_new hl _) _ _ la⟩⟩
/-- tuple(l) of a list -/
theorem gd_tupL (h : GdL tr es [.list ds]) : Gd (tCB (fun xs H Q => ∃ p ys, xs = [.ref p] ∧ ((SqL K H p ys ∧ ∀ l, H l = none → Q (.ref l) (upd H l (.tup ys))) ∨ (SqT K H p ys ∧ Q (.ref p) H))) tr) es (.tuple ds) := fun σ H Q e q =>
  h σ H _ e fun vs H1 s1 ⟨x, r, e1, ⟨a, xs, e2, ha, la⟩, e3⟩ => by
    cases (show r = [] from e3)
    subst e2
    exact ⟨a, xs, e1, .inl ⟨SqL.of ha, fun l hl => q _ _ (s1.trans (same_new hl _)) ⟨l, xs, rfl, upd_same, DnL.same (same_new hl _) _ _ la⟩⟩⟩
theorem gd_eqI {i j : Int} (h : Gd ta es (.int i)) (h' : Gd tb es (.int j)) : Gd (tOp rEq ta tb) es (.bool (decide (i = j))) := fun σ H Q e q =>
  h σ H _ e fun v H1 s1 h1 => h' σ H1 _ (e.same s1) fun u H2 s2 h2 => by
    cases dn_int h1
    cases dn_int h2
    exact ⟨rfl, q _ _ (s1.trans s2) (by rw [dec_int]; rfl)⟩
theorem gd_intB {k : Bool} (h : GdL tr es [.bool k]) : Gd (tCB (fun xs H Q => (∃ i, xs = [.int i] ∧ Q (.int i) H) ∨ ∃ k, xs = [.bl k] ∧ Q (.int (if k then 1 else 0)) H) tr) es (.int (if k = true then 1 else 0)) := fun σ H Q e q =>
  h σ H _ e fun vs H1 s1 ⟨x, r, e1, h1, e3⟩ => by
    cases (show r = [] from e3)
    cases (show x = .bl k from h1)
    exact .inr ⟨k, e1, q _ _ s1 rfl⟩
/-- one of a list, by a place within it -/
theorem gd_pick {i : Int} {σ : St} {H : Hp} {Q : VK} (h : Gd te es (.list ds)) (h' : Gd ti es (.int i)) (h0 : 0 ≤ i) (h1 : i < ds.length) (e : EnvD σ H es) (q : ∀ d v H2, d ∈ ds → Same H H2 → Dn H2 d v → Q v H2) : tOp (rIxL K) te ti σ H Q := by
  obtain ⟨d, hd, ha⟩ := at_lt h0 h1
  exact gd_ixL h h' ha σ H Q e fun v H2 s2 h2 => q d v H2 hd s2 h2
/-- n = e -/
theorem gs_set {u : TS} {D : Ends} {σ : St} {H : Hp} {i : Nat} (g : Gd te es d) (e : EnvD σ H es) (k : ∀ v H', Same H H' → EnvD (σ.set i (some v)) H' (es.set i (some d)) → u D (σ.set i (some v)) H') (hi : i < es.length := by exact Nat.le_of_ble_eq_true rfl) : tSeq (tAsg te (gName i)) u D σ H :=
  g σ H _ e fun v H1 s1 h1 => k v H1 s1 ((e.same s1).set hi h1)
/-- n = e, with what the value is -/
theorem gs_setV {u : TS} {D : Ends} {σ : St} {H : Hp} {i : Nat} (g : Gd te es d) (e : EnvD σ H es) (k : ∀ v H', Same H H' → Dn H' d v → u D (σ.set i (some v)) H') : tSeq (tAsg te (gName i)) u D σ H := g σ H _ e k
/-- n = l[e] -/
theorem gs_pick {u : TS} {D : Ends} {σ : St} {H : Hp} {i : Nat} {j : Int} (h : Gd te es (.list ds)) (h' : Gd ti es (.int j)) (h0 : 0 ≤ j) (h1 : j < ds.length) (e : EnvD σ H es) (k : ∀ d v H', d ∈ ds → Same H H' → EnvD (σ.set i (some v)) H' (es.set i (some d)) → u D (σ.set i (some v)) H') (hi : i < es.length := by exact Nat.le_of_ble_eq_true rfl) : tSeq (tAsg (tOp (rIxL K) te ti) (gName i)) u D σ H :=
  gd_pick h h' h0 h1 e fun d v H1 hd s1 hv => k d v H1 hd s1 ((e.same s1).set hi hv)
theorem gs_ret {D : Ends} {σ : St} {H : Hp} (g : Gd te es d) (e : EnvD σ H es) (k : ∀ v H', Same H H' → Dn H' d v → D.rt v H') : tRet te D σ H := g σ H _ e k
end
/-- an expression gives data of a kind -/
def Gp (te : TE) (es : List (Option PyData)) (P : PyData → Prop) : Prop := ∀ (σ : St) (H : Hp) (Q : VK), EnvD σ H es → (∀ d v H2, P d → Same H H2 → Dn H2 d v → Q v H2) → te σ H Q
section
variable {te ta tb tc : TE} {tr : TA} {es : List (Option PyData)} {d : PyData} {ds : List PyData} {P P1 P2 P3 : PyData → Prop} {R S : List PyData → Prop}
theorem gp_of (h : Gd te es d) : Gp te es (fun c => c = d) := fun σ H Q e q => h σ H Q e fun v H2 s hv => q d v H2 rfl s hv
theorem gp_ofL (h : Gd te es (.list ds)) : Gp te es (fun c => ∃ l, l = ds ∧ c = .list l) := fun σ H Q e q => h σ H Q e fun v H2 s hv => q _ v H2 ⟨ds, rfl, rfl⟩ s hv
theorem gp_lst1 (h : Gp te es P) : Gp (tLst (tCons te tNil)) es (fun c => ∃ l, (∃ x, P x ∧ l = [x]) ∧ c = .list l) := fun σ H Q e q => h σ H _ e fun d v H1 p s1 hv =>
  ⟨small (by show 1 ≤ 1000; decide), fun l hl => q _ _ _ ⟨_, ⟨d, p, rfl⟩, rfl⟩ (s1.trans (same_new hl _)) ⟨l, _, rfl, upd_same, v, [], rfl, Dn.same (same_new hl _) _ _ hv, rfl⟩⟩
theorem gp_cat (h : Gp ta es (fun d => ∃ l, R l ∧ d = .list l)) (h' : Gp tb es (fun d => ∃ l, S l ∧ d = .list l)) (hz : ∀ a b, R a → S b → a.length + b.length ≤ 1000) : Gp (tOp rCat ta tb) es (fun d => ∃ l, (∃ a b, R a ∧ S b ∧ l = a ++ b) ∧ d = .list l) := fun σ H Q e q =>
  h σ H _ e fun d1 v H1 p1 s1 h1 => h' σ H1 _ (e.same s1) fun d2 u H2 p2 s2 h2 => by
    obtain ⟨A, ra, rfl⟩ := p1
    obtain ⟨B, rb, rfl⟩ := p2
    obtain ⟨a, xs, rfl, ha, la⟩ := Dn.same s2 _ _ h1
    obtain ⟨b, ys, rfl, hb, lb⟩ := id h2
    refine ⟨a, b, xs, ys, rfl, rfl, ha, hb, small (by rw [← la.length, ← lb.length]; exact hz A B ra rb), fun p hp => q _ _ _ ⟨_, ⟨A, B, ra, rb, rfl⟩, rfl⟩ ((s1.trans s2).trans (same_new hp _)) ⟨p, _, rfl, upd_same, ?_⟩⟩
    exact (DnL.same (same_new hp _) _ _ la).append (DnL.same (same_new hp _) _ _ lb)
theorem gp_tup3 (h1 : Gp ta es P1) (h2 : Gp tb es P2) (h3 : Gp tc es P3) : Gp (tTup (tCons ta (tCons tb (tCons tc tNil)))) es (fun d => ∃ a b c, P1 a ∧ P2 b ∧ P3 c ∧ d = .tuple [a, b, c]) := fun σ H Q e q =>
  h1 σ H _ e fun a v1 H1 p1 s1 a1 => h2 σ H1 _ (e.same s1) fun b v2 H2 p2 s2 a2 => h3 σ H2 _ ((e.same s1).same s2) fun c v3 H3 p3 s3 a3 =>
    ⟨small (by show 3 ≤ 1000; decide), fun p hp => q _ _ _ ⟨a, b, c, p1, p2, p3, rfl⟩ (((s1.trans s2).trans s3).trans (same_new hp _)) ⟨p, _, rfl, upd_same, v1, _, rfl, Dn.same (((s2.trans s3).trans (same_new hp _))) _ _ a1, v2, _, rfl, Dn.same (s3.trans (same_new hp _)) _ _ a2, v3, _, rfl, Dn.same (same_new hp _) _ _ a3, rfl⟩⟩
theorem gp_call {sp : Sp} {E : XK} (h : GdL tr es ds) (hs : ∀ vs H Q, DnL H ds vs → (∀ d v H2, P d → Same H H2 → Dn H2 d v → Q v H2) → sp (vs ++ []) H Q E) : Gp (tCall sp [] E tr) es P := fun σ H Q e q =>
  h σ H _ e fun vs H1 s1 hv => hs vs H1 _ hv fun d v H2 p s2 h2 => q d v H2 p (s1.trans s2) h2
theorem gs_catF {cs : List PyData} {u : TS} {D : Ends} {σ : St} {H : Hp} {i : Nat} (h : Gd ta es (.list ds)) (h' : Gd tb es (.list cs)) (hz : ds.length + cs.length ≤ 1000) (e : EnvD σ H es) (k : ∀ p xs H2, Same H H2 → H2 p = none → DnL H2 (ds ++ cs) xs → u D (σ.set i (some (.ref p))) (upd H2 p (.lst xs))) : tSeq (tAsg (tOp rCat ta tb) (gName i)) u D σ H :=
  h σ H _ e fun v H1 s1 h1 => h' σ H1 _ (e.same s1) fun u H2 s2 h2 => by
    obtain ⟨a, xs, rfl, ha, la⟩ := Dn.same s2 _ _ h1
    obtain ⟨b, ys, rfl, hb, lb⟩ := id h2
    exact ⟨a, b, xs, ys, rfl, rfl, ha, hb, small (by rw [← la.length, ← lb.length]; exact hz), fun p hp => k p _ H2 (s1.trans s2) hp (la.append lb)⟩
theorem gd_callB {b : Bool} {sp : Sp} {E : XK} (h : GdL tr es ds) (hs : ∀ vs H Q, DnL H ds vs → (∀ H2, Same H H2 → Q (.bl b) H2) → sp (vs ++ []) H Q E) : Gd (tCall sp [] E tr) es (.bool b) := fun σ H Q e q =>
  h σ H _ e fun vs H1 s1 hv => hs vs H1 _ hv fun H2 s2 => q _ H2 (s1.trans s2) rfl
/-- if not e: .. where e is true -/
theorem gi_no {t : TS} {D : Ends} {σ : St} {H : Hp} (h : Gd te es (.bool true)) (e : EnvD σ H es) (k : ∀ H', Same H H' → EnvD σ H' es → D.nx σ H') : tIfS (tNot (tB te)) t tNext D σ H := h σ H _ e fun v H1 s1 hv => by
  cases (show v = .bl true from hv)
  exact ⟨true, rfl, iteF (k H1 s1 (e.same s1))⟩
theorem gs_no {t r : TS} {D : Ends} {σ : St} {H : Hp} (h : Gd te es (.bool true)) (e : EnvD σ H es) (k : ∀ H', Same H H' → EnvD σ H' es → r D σ H') : tSeq (tIfS (tNot (tB te)) t tNext) r D σ H := gi_no h e k
theorem gs_retP {D : Ends} {σ : St} {H : Hp} (g : Gp te es P) (e : EnvD σ H es) (k : ∀ d v H', P d → Same H H' → Dn H' d v → D.rt v H') : tRet te D σ H := g σ H _ e k
theorem gd_rep {k : Int} (h : Gd ta es (.list ds)) (h' : Gd tb es (.int k)) (hk : -(2 ^ 63) ≤ k ∧ k < 2 ^ 63) (hz : ds.length * k.toNat ≤ 1000) : Gd (tOp rRep ta tb) es (.list (List.replicate k.toNat ds).flatten) := fun σ H Q e q =>
  h σ H _ e fun v H1 s1 h1 => h' σ H1 _ (e.same s1) fun u H2 s2 h2 => by
    obtain ⟨a, xs, rfl, ha, la⟩ := Dn.same s2 _ _ h1
    cases dn_int h2
    refine ⟨a, k, xs, rfl, rfl, ha, hk.1, hk.2, small (by rw [← la.length]; exact hz), fun p hp => q _ _ ((s1.trans s2).trans (same_new hp _)) ⟨p, _, rfl, upd_same, ?_⟩⟩
    have go : ∀ n : Nat, DnL (upd H2 p (.lst (List.replicate k.toNat xs).flatten)) (List.replicate n ds).flatten (List.replicate n xs).flatten := fun n => by
      induction n with
      | zero => rfl
      | succ n ih => rw [List.replicate_succ, List.replicate_succ, List.flatten_cons, List.flatten_cons]; exact (DnL.same (same_new hp _) _ _ la).append ih
    exact go k.toNat
end
/-! f"text {n} text" -/
def tFs (te : TE) : TE := fun σ H Q => te σ H fun v H1 => ∃ i : Int, v = .int i ∧ 0 ≤ i ∧ i ≤ 1000 ∧ ∀ z : Str, Q (.str z) H1
theorem pe_fs {X : Cx} {e : Expr} {te : TE} {x y : Str} {k1 k2 : _} {p1 p2 p3 p4 : Pos} (he : PE X e te) (hx : x.length ≤ 100 := by decide) (hy : y.length ≤ 100 := by decide) :
    PE X (.JoinedStr [.Constant (.str x) k1 p1, .FormattedValue e (-1) none p2, .Constant (.str y) k2 p3] p4) (tFs te) := by
  intro pins s σ H Q I h
  have lg : ∀ i : Int, 0 ≤ i → i ≤ 1000 → i.natAbs.log2 < 1920 := fun i h0 h1 => by
    by_cases z : i.natAbs = 0
    · rw [z]; decide
    · have := (Nat.log2_lt z (k := 1920)).mpr (Nat.lt_of_le_of_lt (show i.natAbs ≤ 1000 by omega) (by
        calc 1000 < 2 ^ 10 := by decide
          _ ≤ 2 ^ 1920 := Nat.pow_le_pow_right (by decide) (by decide)))
      exact this
  have ln : ∀ i : Int, 0 ≤ i → i ≤ 1000 → (Str.ofString (toString i)).length ≤ 6 := fun i h0 h1 => by
    rw [PySem.ofString_length]
    exact int_text_length_le10 (k := 5) (by decide) (by omega)
  have e0 : (Str.empty ++ x).length = x.length := by
    rw [strLen_append]
    exact Nat.zero_add _
  refine wpAny_JoinedStr ?_
  refine Calls.Constant_str ⟨x, _, rfl, ?_, ?_⟩
  · rw [e0, sizeLine_eq]
    omega
  refine wpAny_FormattedValue_plain (thn (he pins _ σ H _ (I.tok _) h) fun v s1 ⟨u, H1, I1, r1, i, e1, i0, i1, q⟩ => ?_)
  subst e1
  obtain ⟨t, rfl⟩ := r1
  have l1 := ln i i0 i1
  refine wpAny_formatField_int (lg i i0 i1) ⟨_, _, rfl, ?_, ?_⟩
  · rw [strLen_append, e0, sizeLine_eq]
    exact Nat.le_trans (Nat.add_le_add hx l1) (by decide)
  refine Calls.Constant_str ⟨y, _, rfl, ?_, ?_⟩
  · rw [strLen_append, strLen_append, e0, sizeLine_eq]
    exact Nat.le_trans (Nat.add_le_add (Nat.add_le_add hx l1) hy) (by decide)
  refine ⟨?_, .str _, H1, ((I1.tok _).tok _).tok _, ⟨_, rfl⟩, q _⟩
  rw [strLen_append, strLen_append, e0, sizeLine_eq]
  exact Nat.le_trans (Nat.add_le_add (Nat.add_le_add hx l1) hy) (by decide)
/-! displays of constants, by words that are not unfolded -/
@[irreducible] def PAi (X : Cx) (es : List Expr) (t : TA) : Prop := PA X es t
theorem PAi.of {X : Cx} {es : List Expr} {t : TA} (h : PA X es t) : PAi X es t := by unfold PAi; exact h
theorem PAi.pa {X : Cx} {es : List Expr} {t : TA} (h : PAi X es t) : PA X es t := by unfold PAi at h; exact h
theorem pai_nil {X : Cx} : PAi X [] tNil := .of pa_nil
theorem pai_cons {X : Cx} {e : Expr} {es : List Expr} {te : TE} {tr : TA} (a : PEi X e te) (b : PAi X es tr) (hs : starEach (e :: es) X.env = (false, eval e X.env) :: starEach es X.env := by rfl) : PAi X (e :: es) (tCons te tr) := .of (pa_cons a.pe b.pa hs)
theorem pei_tup {X : Cx} {es : List Expr} {t : TA} {x1} {pos : Pos} (h : PAi X es t) : PEi X (.Tuple es x1 pos) (tTup t) := .of (pe_tup h.pa)
theorem pei_lst {X : Cx} {es : List Expr} {t : TA} {pos : Pos} (h : PAi X es t) : PEi X (.List es pos) (tLst t) := .of (pe_lst h.pa)
end L2

set_option maxRecDepth 100000
set_option maxHeartbeats 4000000
/-! ### What is no wood -/
namespace Wd
open PySem L2 Ow
/-- what wood_of takes -/
def WoodIn (d0 d1 d2 : PyData) : Prop := ∃ (many : Int) (bs cs : List PyData), d0 = .int many ∧ 1 ≤ many ∧ many ≤ 9 ∧ d1 = .list bs ∧ d2 = .list cs ∧ GoodB many bs ∧ cs.length ≤ 8 ∧ ∀ c ∈ cs, isTie many c = true
def FewB (d1 : PyData) : Prop := ∀ bs, d1 = .list bs → bs.length ≤ 60 ∧ (bs.flatMap kidsOf).length ≤ 60
def FewC (d2 : PyData) : Prop := ∀ cs, d2 = .list cs → cs.length ≤ 60 ∧ ∀ c ∈ cs, thirdOk c
def spCheckBX (D : Addr) : Sp := fun vs H Q E => ∃ (many : Int) (p : Addr) (xs : List V) (bs : List PyData), vs = [.int many, .ref p] ∧ H p = some (.tup xs) ∧ DnL H bs xs ∧ 1 ≤ many ∧ many ≤ 9 ∧ bs.length ≤ 60 ∧ (bs.flatMap kidsOf).length ≤ 60 ∧
  (GoodB many bs → ∀ H', Same H H' → Q .non H') ∧ (¬ GoodB many bs → ∀ H', Same H H' → E (.ref D) none H')
def spCheckCX (D : Addr) : Sp := fun vs H Q E => ∃ (many : Int) (p : Addr) (xs : List V) (cs : List PyData), vs = [.int many, .ref p] ∧ H p = some (.tup xs) ∧ DnL H cs xs ∧ cs.length ≤ 60 ∧ (∀ c ∈ cs, thirdOk c) ∧
  (cs.length ≤ 8 ∧ (∀ c ∈ cs, isTie many c = true) → ∀ H', Same H H' → Q .non H') ∧ (¬ (cs.length ≤ 8 ∧ ∀ c ∈ cs, isTie many c = true) → ∀ H', Same H H' → E (.ref D) none H')
def spWoodX (D : Addr) : Sp := fun vs H Q E => ∃ (v0 v1 v2 : V) (d0 d1 d2 : PyData), vs = [v0, v1, v2] ∧ Dn H d0 v0 ∧ Dn H d1 v1 ∧ Dn H d2 v2 ∧ FewB d1 ∧ FewC d2 ∧ ¬ WoodIn d0 d1 d2 ∧ ∀ H', Same H H' → E (.ref D) none H'
def spRefusedN : Sp := fun vs H Q _ => ∃ (v0 v1 v2 : V) (b : Bool) (d0 d1 d2 : PyData), vs = [v0, v1, v2, .bl b] ∧ Dn H d0 v0 ∧ Dn H d1 v1 ∧ Dn H d2 v2 ∧ FewB d1 ∧ FewC d2 ∧ ¬ WoodIn d0 d1 d2 ∧ ∀ H', Same H H' → Q (.bl true) H'
theorem kids_pre {bs : List PyData} (i : Nat) : ((bs.take i).flatMap kidsOf).length ≤ (bs.flatMap kidsOf).length := by
  have e2 : bs.flatMap kidsOf = (bs.take i).flatMap kidsOf ++ (bs.drop i).flatMap kidsOf := by
    rw [← List.flatMap_append, List.take_append_drop]
  rw [e2, List.length_append]
  omega
theorem take_each {α : Type} {P : α → Prop} {ds : List α} {i : Nat} {d : α} (h : ds[i]? = some d) (a : ∀ x ∈ ds.take i, P x) (p : P d) : ∀ x ∈ ds.take (i + 1), P x := by
  obtain ⟨hi, e⟩ := List.getElem?_eq_some_iff.mp h
  rw [List.take_succ_eq_append_getElem hi, e]
  intro x hx
  rcases List.mem_append.mp hx with z | z
  · exact a x z
  · rw [List.mem_singleton.mp z]
    exact p
end Wd

set_option maxRecDepth 100000
set_option maxHeartbeats 4000000
/-! ### What is no bough, no tie -/
namespace Wd
open PySem L2 Ow
theorem isb_parts {many : Int} {u l h k : PyData} (z : isBough many (.tuple [u, l, h, k]) = true) : within u 0 (many - 1) = true ∧ tupFull k = true ∧ risK many u k = true ∧ highK h k = true ∧ lowH l h = true := by
  have z' : (within u 0 (many - 1) && (tupFull k && (risK many u k && (highK h k && lowH l h)))) = true := z
  simpa only [Bool.and_eq_true] using z'
theorem ris_parts {m : Int} : ∀ {ks : List PyData} {u : Int}, rising m ks u = true → ∃ ns : List Int, ks = ns.map PyData.int ∧ ns.Pairwise (· < ·) ∧ ∀ n ∈ ns, u < n ∧ n ≤ m - 1
  | [], u, _ => ⟨[], rfl, .nil, fun n h => by simp at h⟩
  | d :: ks, u, h => by
    have h' := h
    rw [show d :: ks = (d :: ks).drop 0 from rfl, rising_at (d := d) rfl] at h'
    rw [Bool.and_eq_true] at h'
    obtain ⟨h1, h2⟩ := h'
    obtain ⟨i, rfl, i0, i1⟩ := within_int h1
    obtain ⟨ns, e, p, q⟩ := ris_parts (show rising m ks i = true from h2)
    refine ⟨i :: ns, by rw [e]; rfl, List.pairwise_cons.mpr ⟨fun n hn => (q n hn).1, p⟩, fun n hn => ?_⟩
    rcases List.mem_cons.mp hn with z | z
    · subst z; omega
    · have := q n z; omega
theorem pw_len {hi : Int} : ∀ {ns : List Int} {lo : Int}, ns.Pairwise (· < ·) → (∀ n ∈ ns, lo < n ∧ n ≤ hi) → (ns.length : Int) ≤ max 0 (hi - lo)
  | [], lo, _, _ => by simp; omega
  | n :: ns, lo, p, h => by
    obtain ⟨p1, p2⟩ := List.pairwise_cons.mp p
    have z := pw_len (lo := n) p2 fun k hk => ⟨p1 k hk, (h k (List.mem_cons_of_mem _ hk)).2⟩
    have y := h n List.mem_cons_self
    rw [List.length_cons]
    omega
theorem isb_form {many : Int} {b : PyData} (z : isBough many b = true) : ∃ (up lo hi : Int) (ns : List Int), b = bghD up lo hi ns ∧ 0 ≤ up ∧ up ≤ many - 1 ∧ ns ≠ [] ∧ ns.Pairwise (· < ·) ∧ (∀ n ∈ ns, up < n ∧ n ≤ many - 1) ∧ 0 ≤ lo ∧ lo ≤ hi ∧ 1 ≤ hi ∧ hi ≤ ns.length := by
  cases b with
  | tuple ds =>
    match ds, z with
    | [u, l, h, k], z =>
      obtain ⟨z1, z2, z3, z4, z5⟩ := isb_parts z
      obtain ⟨up, rfl, u0, u1⟩ := within_int z1
      obtain ⟨ks, rfl, k0⟩ := tupFull_tup z2
      obtain ⟨ns, rfl, p, q⟩ := ris_parts (show rising many ks up = true from z3)
      obtain ⟨hi, rfl, h1, h2⟩ := within_int (show within h 1 _ = true from z4)
      obtain ⟨lo, rfl, l1, l2⟩ := within_int (show within l 0 hi = true from z5)
      rw [List.length_map] at k0 h2
      exact ⟨up, lo, hi, ns, rfl, u0, u1, fun e => by rw [e] at k0; simp at k0, p, q, l1, l2, h1, h2⟩
  | _ => cases z
theorem ris_dup {m u : Int} {A B : List PyData} {x : PyData} (ha : x ∈ A) (hb : x ∈ B) : rising m (A ++ B) u = false := by
  rw [Bool.eq_false_iff]
  intro h
  obtain ⟨ns, e, p, _⟩ := ris_parts h
  obtain ⟨n1, n2, rfl, e1, e2⟩ := List.append_eq_map_iff.mp e
  obtain ⟨_, _, q⟩ := List.pairwise_append.mp p
  rw [← e1] at ha
  rw [← e2] at hb
  obtain ⟨a, ha', rfl⟩ := List.mem_map.mp ha
  obtain ⟨b, hb', e3⟩ := List.mem_map.mp hb
  cases e3
  exact absurd (q _ ha' _ hb') (Int.lt_irrefl _)
theorem ris_mem {m u : Int} {A : List PyData} {x : PyData} (h : rising m A u = true) (hx : x ∈ A) : within x (u + 1) (m - 1) = true := by
  obtain ⟨ns, rfl, _, q⟩ := ris_parts h
  obtain ⟨n, hn, rfl⟩ := List.mem_map.mp hx
  have := q n hn
  show (decide (u + 1 ≤ n) && decide (n ≤ m - 1)) = true
  rw [decide_eq_true (by omega), decide_eq_true (by omega)]
  rfl
theorem within_mono {x : PyData} {lo lo' hi : Int} (h : within x lo hi = true) (l : lo' ≤ lo) : within x lo' hi = true := by
  obtain ⟨i, rfl, h1, h2⟩ := within_int h
  show (decide (lo' ≤ i) && decide (i ≤ hi)) = true
  rw [decide_eq_true (by omega), decide_eq_true (by omega)]
  rfl
/-- where the kids are none, it is no bough -/
theorem nb_ris {many : Int} {up lo hi : Int} {ks : List PyData} (h : rising many ks up = false) : isBough many (.tuple [.int up, .int lo, .int hi, .tuple ks]) = false := by
  rw [Bool.eq_false_iff]
  intro z
  have := (isb_parts z).2.2.1
  rw [show risK many (.int up) (.tuple ks) = rising many ks up from rfl, h] at this
  cases this
theorem cutD_mem {ds : List PyData} {lo hi : Option Int} {x : PyData} (h : x ∈ cutD ds lo hi) : x ∈ ds := List.drop_subset _ _ (List.take_subset _ _ h)
theorem cut_len {ds : List PyData} {lo hi : Option Int} : (cutD ds lo hi).length ≤ ds.length := by
  unfold cutD
  rw [List.length_take, List.length_drop]
  omega
theorem cut_last {ds : List PyData} (h : ds ≠ []) : ∃ x, x ∈ cutD ds (some (-1)) none := by
  have hl := List.length_pos_iff.mpr h
  have e : cutD ds (some (-1)) none = (ds.drop (ds.length - 1)).take (ds.length - (ds.length - 1)) := by
    unfold cutD
    rw [show HT.sIx ds.length 0 (some (-1)) = ds.length - 1 from by show (if (-1 : Int) < 0 then (-1 + (ds.length : Int)).toNat else min (-1 : Int).toNat ds.length) = ds.length - 1; rw [if_pos (by decide)]; omega]
    rfl
  refine ⟨(cutD ds (some (-1)) none)[0]'(by rw [e, List.length_take, List.length_drop]; omega), List.getElem_mem _⟩
theorem cut_first {d : PyData} {ds : List PyData} : d ∈ cutD (d :: ds) none (some 1) := by
  unfold cutD
  rw [show HT.sIx (d :: ds).length (d :: ds).length (some 1) = 1 from by rw [show (1 : Int) = ((1 : Nat) : Int) from rfl, HT.sIx_nat, List.length_cons]; omega]
  exact List.mem_cons_self
theorem cut_zero {ds : List PyData} : cutD ds none (some 0) = [] := by
  unfold cutD
  rw [show HT.sIx ds.length ds.length (some 0) = 0 from by rw [show (0 : Int) = ((0 : Nat) : Int) from rfl, HT.sIx_nat]; omega]
  simp
def oddL (many : Int) : List PyData := [.int many, .int (-1), .bool true, .none, .str ("0" : Str), .int (many + 10 ^ 40), .tuple [.int 0], .list [.int 0], .dict []]
def fewL (hi : Int) : List PyData := [.int (-1), .int (hi + 1), .none, .bool true, .str ("0" : Str), .list [.int 0]]
def greatL (n : Nat) : List PyData := [.int 0, .int (n + 1), .none, .bool true, .str ("1" : Str), .tuple [.int 1]]
theorem not_within {i lo hi : Int} (h : i < lo ∨ hi < i) : within (.int i) lo hi = false := by
  show (decide (lo ≤ i) && decide (i ≤ hi)) = false
  rcases h with h | h
  · rw [decide_eq_false (by omega), Bool.false_and]
  · rw [decide_eq_false (show ¬ i ≤ hi by omega), Bool.and_false]
theorem odd_no {many : Int} (m0 : 0 ≤ many) {d : PyData} (h : d ∈ oddL many) : within d 0 (many - 1) = false := by
  simp only [oddL, List.mem_cons, List.not_mem_nil, or_false] at h
  have p : (0 : Int) < 10 ^ 40 := by decide
  generalize (10 : Int) ^ 40 = t at h p
  rcases h with rfl | rfl | rfl | rfl | rfl | rfl | rfl | rfl | rfl
  · exact not_within (by omega)
  · exact not_within (by omega)
  · rfl
  · rfl
  · rfl
  · exact not_within (by omega)
  · rfl
  · rfl
  · rfl
theorem odd_len {many : Int} {d : PyData} (h : d ∈ oddL many) : lenOk d := by
  simp only [oddL, List.mem_cons, List.not_mem_nil, or_false] at h
  rcases h with rfl | rfl | rfl | rfl | rfl | rfl | rfl | rfl | rfl
  all_goals first | exact trivial | (show 1 ≤ 1000; decide)
theorem few_no {hi : Int} {d : PyData} (h : d ∈ fewL hi) : within d 0 hi = false := by
  simp only [fewL, List.mem_cons, List.not_mem_nil, or_false] at h
  rcases h with rfl | rfl | rfl | rfl | rfl | rfl
  · exact not_within (by omega)
  · exact not_within (by omega)
  · rfl
  · rfl
  · rfl
  · rfl
theorem great_no {n : Nat} {d : PyData} (h : d ∈ greatL n) : within d 1 n = false := by
  simp only [greatL, List.mem_cons, List.not_mem_nil, or_false] at h
  rcases h with rfl | rfl | rfl | rfl | rfl | rfl
  · exact not_within (by omega)
  · exact not_within (by omega)
  · rfl
  · rfl
  · rfl
  · rfl
/-- the boughs that are none -/
def oddB (up lo hi : Int) (kd : List PyData) (k0 odd few great : PyData) (one : Int) : List PyData :=
  [.list [.int up, .int lo, .int hi, .tuple kd], .tuple (cutD [.int up, .int lo, .int hi, .tuple kd] none (some 3)), .tuple ([.int up, .int lo, .int hi, .tuple kd] ++ [.int 0]), .tuple [odd, .int lo, .int hi, .tuple kd], .tuple [.int up, few, .int hi, .tuple kd]] ++
  [.tuple [.int up, .int 0, great, .tuple kd], .tuple [.int up, .int lo, .int hi, .list kd], .tuple [.int up, .int 0, .int 1, .tuple []]] ++
  [.tuple [.int up, .int lo, .int hi, .tuple (cutD kd none (some (-1)) ++ [odd])], .tuple [.int up, .int lo, .int hi, .tuple (kd ++ cutD kd (some (-1)) none)]] ++
  [.tuple [.int up, .int lo, .int hi, .tuple ([.int up] ++ kd)], .tuple [k0, .int lo, .int hi, .tuple kd], .tuple [.int up, .int lo, .int hi, .none], .none, .int 5] ++
  [.tuple [.int up, .int lo, .int hi, .tuple (kd.reverse ++ cutD kd none (some 1))], .tuple [.int up, .int lo, .int hi, .tuple (kd.reverse ++ cutD kd none (some one))]]
theorem kids_len {u l h : PyData} {ks : List PyData} : (kidsOf (.tuple [u, l, h, .tuple ks])).length = ks.length := by
  show (ks.map toI).length = _
  rw [List.length_map]
theorem oddB_no {many up lo hi : Int} {n0 : Int} {ns : List Int} {odd few great : PyData} (u0 : 0 ≤ up) (p : (n0 :: ns).Pairwise (· < ·)) (r : ∀ n ∈ n0 :: ns, up < n ∧ n ≤ many - 1) (m9 : many ≤ 9)
    (ho : within odd 0 (many - 1) = false) (hf : within few 0 hi = false) (hg : within great 1 (n0 :: ns).length = false) {d : PyData}
    (h : d ∈ oddB up lo hi ((n0 :: ns).map PyData.int) (.int n0) odd few great (if (n0 :: ns).length = 1 then 1 else 0)) : isBough many d = false ∧ (kidsOf d).length ≤ 20 := by
  have hl := pw_len p r
  have hl8 : ((n0 :: ns).map PyData.int).length ≤ 8 := by rw [List.length_map]; omega
  have ne : (n0 :: ns).map PyData.int ≠ [] := by simp
  have m0 : PyData.int n0 ∈ (n0 :: ns).map PyData.int := List.mem_cons_self
  obtain ⟨kd, hkd⟩ : ∃ kd, kd = (n0 :: ns).map PyData.int := ⟨_, rfl⟩
  have k0 : kd.length = (n0 :: ns).length := by rw [hkd, List.length_map]
  have rv : (n0 :: ns).length ≠ 1 → rising many kd.reverse up = false := fun z => by
    rw [Bool.eq_false_iff]
    intro y
    obtain ⟨xs, e, q, _⟩ := ris_parts y
    match ns, p, z, hkd with
    | [], _, z, _ => simp at z
    | n1 :: ns, p, _, hkd =>
      rw [hkd, ← List.map_reverse] at e
      have e2 := (List.map_inj_right (f := PyData.int) (fun a b e => by cases e; rfl)).mp e
      rw [← e2, List.pairwise_reverse] at q
      have a1 := (List.pairwise_cons.mp p).1 n1 List.mem_cons_self
      have a2 := (List.pairwise_cons.mp q).1 n1 List.mem_cons_self
      omega
  have mk0 : PyData.int n0 ∈ kd := by rw [hkd]; exact m0
  have cf : PyData.int n0 ∈ cutD kd none (some 1) := by rw [hkd]; exact cut_first
  rw [← hkd] at h hl8 ne
  simp only [oddB, List.mem_append, List.mem_cons, List.not_mem_nil, or_false] at h
  have cl : ∀ lo hi, (cutD kd lo hi).length ≤ 8 := fun lo hi => Nat.le_trans cut_len hl8
  rcases h with ((((rfl | rfl | rfl | rfl | rfl) | rfl | rfl | rfl) | rfl | rfl) | rfl | rfl | rfl | rfl | rfl) | rfl | rfl
  · exact ⟨rfl, by show 0 ≤ 20; decide⟩
  · exact ⟨rfl, by show 0 ≤ 20; decide⟩
  · exact ⟨rfl, by show 0 ≤ 20; decide⟩
  · refine ⟨?_, by rw [kids_len]; omega⟩
    rw [Bool.eq_false_iff]
    intro z
    rw [(isb_parts z).1] at ho
    cases ho
  · refine ⟨?_, by rw [kids_len]; omega⟩
    rw [Bool.eq_false_iff]
    intro z
    have y : within few 0 hi = true := (isb_parts z).2.2.2.2
    rw [y] at hf
    cases hf
  · refine ⟨?_, by rw [kids_len]; omega⟩
    rw [Bool.eq_false_iff]
    intro z
    have y : within great 1 kd.length = true := (isb_parts z).2.2.2.1
    rw [k0, hg] at y
    cases y
  · refine ⟨?_, by show 0 ≤ 20; decide⟩
    rw [Bool.eq_false_iff]
    intro z
    have y : false = true := (isb_parts z).2.1
    cases y
  · refine ⟨?_, by show 0 ≤ 20; decide⟩
    rw [Bool.eq_false_iff]
    intro z
    have y : decide (0 < 0) = true := (isb_parts z).2.1
    cases y
  · refine ⟨nb_ris ?_, by rw [kids_len, List.length_append]; have := cl none (some (-1)); simp; omega⟩
    rw [Bool.eq_false_iff]
    intro z
    have y := within_mono (ris_mem z (List.mem_append_right _ List.mem_cons_self)) (show 0 ≤ up + 1 by omega)
    rw [ho] at y
    cases y
  · obtain ⟨x, hx⟩ := cut_last ne
    exact ⟨nb_ris (ris_dup (cutD_mem hx) hx), by rw [kids_len, List.length_append]; have := cl (some (-1)) none; omega⟩
  · refine ⟨nb_ris ?_, by rw [kids_len, List.length_append]; simp; omega⟩
    rw [Bool.eq_false_iff]
    intro z
    have y := ris_mem z (List.mem_append_left _ List.mem_cons_self)
    rw [not_within (by omega)] at y
    cases y
  · refine ⟨nb_ris ?_, by rw [kids_len]; omega⟩
    rw [Bool.eq_false_iff]
    intro z
    have y := ris_mem z mk0
    rw [not_within (by omega)] at y
    cases y
  · refine ⟨?_, by show 0 ≤ 20; decide⟩
    rw [Bool.eq_false_iff]
    intro z
    have y : false = true := (isb_parts z).2.1
    cases y
  · exact ⟨rfl, by show 0 ≤ 20; decide⟩
  · exact ⟨rfl, by show 0 ≤ 20; decide⟩
  · exact ⟨nb_ris (ris_dup (List.mem_reverse.mpr mk0) cf), by rw [kids_len, List.length_append, List.length_reverse]; have := cl none (some 1); omega⟩
  · refine ⟨nb_ris ?_, by rw [kids_len, List.length_append, List.length_reverse]; have := cl none (some (if (n0 :: ns).length = 1 then 1 else 0)); omega⟩
    by_cases z : (n0 :: ns).length = 1
    · rw [if_pos z]
      exact ris_dup (List.mem_reverse.mpr mk0) cf
    · rw [if_neg z, cut_zero, List.append_nil]
      exact rv z
/-- the ties that are none -/
def nameL : List PyData := [.str ("need" : Str), .str ("Bans" : Str), .str ("" : Str), .str ("all" : Str), .none, .int 3, .list [.str ("needs" : Str)], .dict []]
abbrev ms : PyData := .str ("most" : Str)
def oddT (w nm odd : PyData) : List PyData :=
  [.list [w, .int 0, .int 1], .tuple [w, .int 0], .tuple [w, .int 0, .int 1, .int 1], .tuple [nm, .int 0, .int 1]] ++
  [.tuple [w, odd, .int 1], .tuple [w, .int 0, odd], .tuple [w, .int 1, .int 1], .tuple [ms, .none, .tuple [.tuple [.int 0, .int 1]]], .tuple [ms, .bool true, .tuple [.tuple [.int 0, .int 1]]]] ++
  [.tuple [ms, .int 1, .tuple []], .tuple [ms, .int 1, .list [.tuple [.int 0, .int 1]]], .tuple [ms, .int 1, .tuple [.tuple [.int 0, .int 1, .int 1]]], .tuple [ms, .int 1, .tuple [.tuple [.int 1, .int 1], .tuple [.int 0, .int 1]]]] ++
  [.tuple [ms, .int 1, .tuple [.tuple [.int 0, .int 1], .tuple [.int 0, .int 2]]], .tuple [ms, .int 1, .tuple [.tuple [odd, .int 1]]], .tuple [ms, .int 1, .tuple [.tuple [.int 0, .none]]]] ++
  [.tuple [ms, .int 1, .tuple [.tuple [.int 0, .bool true]]], .tuple [ms, .int 1, .tuple [.tuple [.int 0]]], .tuple [ms, .str ("1" : Str), .tuple [.tuple [.int 0, .int 1]]], .none, .tuple [ms, .int 1, .int 0]] ++
  [.tuple [ms, .int 1, .tuple [.list [.int 0, .int 1]]], .tuple [.str ("needs" : Str), .int 0, .str ("1" : Str)], .str ("needs" : Str)]
theorem tie_nb {many : Int} {w x y : PyData} (hw : w = .str ("needs" : Str) ∨ w = .str ("bans" : Str)) : isTie many (.tuple [w, x, y]) = (within x 0 (many - 1) && (within y 0 (many - 1) && neI x y)) := by
  rcases hw with rfl | rfl
  · show tieK many ("needs" : Str) x y = _
    unfold tieK
    rw [if_neg (by decide), if_pos (by decide)]
  · show tieK many ("bans" : Str) x y = _
    unfold tieK
    rw [if_neg (by decide), if_pos (by decide)]
theorem tie_ms {many : Int} {x y : PyData} : isTie many (.tuple [ms, x, y]) = (isW x && arePairs many y) := by
  show tieK many ("most" : Str) x y = _
  unfold tieK
  rw [if_pos rfl]
theorem pr_ris {many : Int} {ds : List PyData} (h : rising many (ds.map fstD) (-1) = false) : arePairs many (.tuple ds) = false := by
  show (decide (0 < ds.length) && ds.all pairOk && rising many (ds.map fstD) (-1)) = false
  rw [h, Bool.and_false]
theorem pr_ok {many : Int} {ds : List PyData} (h : ds.all pairOk = false) : arePairs many (.tuple ds) = false := by
  show (decide (0 < ds.length) && ds.all pairOk && rising many (ds.map fstD) (-1)) = false
  rw [h, Bool.and_false, Bool.false_and]
theorem oddT_no {many : Int} {w nm odd : PyData} (hw : w = .str ("needs" : Str) ∨ w = .str ("bans" : Str)) (hn : nm ∈ nameL) (ho : within odd 0 (many - 1) = false) (hlo : lenOk odd) {d : PyData} (h : d ∈ oddT w nm odd) : isTie many d = false ∧ thirdOk d := by
  simp only [oddT, List.mem_append, List.mem_cons, List.not_mem_nil, or_false] at h
  rcases h with (((((rfl | rfl | rfl | rfl) | rfl | rfl | rfl | rfl | rfl) | rfl | rfl | rfl | rfl) | rfl | rfl | rfl) | rfl | rfl | rfl | rfl | rfl) | rfl | rfl | rfl
  · exact ⟨rfl, trivial⟩
  · exact ⟨rfl, trivial⟩
  · exact ⟨rfl, trivial⟩
  · refine ⟨?_, trivial⟩
    simp only [nameL, List.mem_cons, List.not_mem_nil, or_false] at hn
    have go : ∀ s : Str, s ≠ ("most" : Str) → ¬ (s = ("needs" : Str) ∨ s = ("bans" : Str)) → isTie many (.tuple [.str s, .int 0, .int 1]) = false := fun s h1 h2 => by
      show tieK many s (.int 0) (.int 1) = false
      unfold tieK
      rw [if_neg h1, if_neg h2]
    rcases hn with rfl | rfl | rfl | rfl | rfl | rfl | rfl | rfl
    · exact go _ (by decide) (by decide)
    · exact go _ (by decide) (by decide)
    · exact go _ (by decide) (by decide)
    · exact go _ (by decide) (by decide)
    · rfl
    · rfl
    · rfl
    · rfl
  · exact ⟨by rw [tie_nb hw, ho, Bool.false_and], trivial⟩
  · exact ⟨by rw [tie_nb hw, ho, Bool.false_and, Bool.and_false], hlo⟩
  · exact ⟨by rw [tie_nb hw, show neI (.int 1) (.int 1) = false from rfl, Bool.and_false, Bool.and_false], trivial⟩
  · exact ⟨by rw [tie_ms]; rfl, by show 1 ≤ 1000; decide⟩
  · exact ⟨by rw [tie_ms]; rfl, by show 1 ≤ 1000; decide⟩
  · exact ⟨by rw [tie_ms]; rfl, by show 0 ≤ 1000; decide⟩
  · exact ⟨by rw [tie_ms]; rfl, trivial⟩
  · exact ⟨by rw [tie_ms, pr_ok rfl, Bool.and_false], by show 1 ≤ 1000; decide⟩
  · refine ⟨?_, by show 2 ≤ 1000; decide⟩
    rw [tie_ms, pr_ris, Bool.and_false]
    rw [Bool.eq_false_iff]
    intro z
    obtain ⟨xs, e, q, _⟩ := ris_parts z
    match xs, e with
    | [a, b], e =>
      cases e
      have := (List.pairwise_cons.mp q).1 0 List.mem_cons_self
      omega
  · refine ⟨?_, by show 2 ≤ 1000; decide⟩
    rw [tie_ms, pr_ris (ris_dup (A := [.int 0]) (B := [.int 0]) List.mem_cons_self List.mem_cons_self), Bool.and_false]
  · refine ⟨?_, by show 1 ≤ 1000; decide⟩
    rw [tie_ms, pr_ris, Bool.and_false]
    rw [Bool.eq_false_iff]
    intro z
    have y : within odd (-1 + 1) (many - 1) = true := ris_mem z List.mem_cons_self
    rw [show (-1 : Int) + 1 = 0 from rfl, ho] at y
    cases y
  · exact ⟨by rw [tie_ms, pr_ok rfl, Bool.and_false], by show 1 ≤ 1000; decide⟩
  · exact ⟨by rw [tie_ms, pr_ok rfl, Bool.and_false], by show 1 ≤ 1000; decide⟩
  · exact ⟨by rw [tie_ms, pr_ok rfl, Bool.and_false], by show 1 ≤ 1000; decide⟩
  · exact ⟨by rw [tie_ms]; rfl, by show 1 ≤ 1000; decide⟩
  · exact ⟨rfl, trivial⟩
  · exact ⟨by rw [tie_ms]; rfl, trivial⟩
  · exact ⟨by rw [tie_ms, pr_ok rfl, Bool.and_false], by show 1 ≤ 1000; decide⟩
  · refine ⟨?_, trivial⟩
    rw [tie_nb (.inl rfl), show within (.str ("1" : Str)) 0 (many - 1) = false from rfl, Bool.false_and, Bool.and_false]
  · exact ⟨rfl, trivial⟩
def spOddB : Sp := fun vs H Q _ => ∃ (v : V) (many cell : Int) (b : PyData), vs = [v, .int many, .int cell] ∧ Dn H b v ∧ isBough many b = true ∧ 2 ≤ many ∧ many ≤ 9 ∧ 0 ≤ cell ∧
  ∀ (d : PyData) (u : V) (H' : Hp), Same H H' → Dn H' d u → isBough many d = false → (kidsOf d).length ≤ 20 → Q u H'
def spOddT : Sp := fun vs H Q _ => ∃ (many cell : Int), vs = [.int many, .int cell] ∧ 2 ≤ many ∧ many ≤ 9 ∧ 0 ≤ cell ∧
  ∀ (d : PyData) (u : V) (H' : Hp), Same H H' → Dn H' d u → isTie many d = false → thirdOk d → Q u H'
end Wd

set_option maxRecDepth 100000
set_option maxHeartbeats 4000000
/-! ### Boughs that make no wood -/
namespace Wd
open PySem L2 Ow
structure Bad (many : Int) (fs : List PyData) : Prop where
  no : ¬ GoodB many fs
  few : fs.length ≤ 60
  kids : (fs.flatMap kidsOf).length ≤ 60
theorem good_len {many : Int} {bs : List PyData} (g : GoodB many bs) : (bs.flatMap kidsOf).length = (many - 1).toNat := by
  have e := g.kids.length_eq
  rwa [List.length_map, List.length_range'] at e
theorem cutD_take {ds : List PyData} {k : Nat} (h : k ≤ ds.length) : cutD ds none (some (k : Int)) = ds.take k := by
  unfold cutD
  rw [HT.sIx_nat, Nat.min_eq_left h, HT.sIx_none]
  rfl
theorem cutD_drop {ds : List PyData} {k : Nat} (h : k ≤ ds.length) : cutD ds (some (k : Int)) none = ds.drop k := by
  unfold cutD
  rw [HT.sIx_nat, Nat.min_eq_left h, HT.sIx_none]
  exact List.take_of_length_le (by rw [List.length_drop]; omega)
theorem cutD_len {ds : List PyData} {k : Nat} : (cutD ds none (some (k : Int))).length = min k ds.length := by
  unfold cutD
  rw [HT.sIx_nat, HT.sIx_none, List.length_take, List.length_drop]
  omega
theorem atD_split {ds : List PyData} {j : Nat} {d : PyData} (h : ds[j]? = some d) : ds = ds.take j ++ d :: ds.drop (j + 1) := by
  obtain ⟨hj, e⟩ := List.getElem?_eq_some_iff.mp h
  rw [← e, List.getElem_cons_drop, List.take_append_drop]
theorem kids_pos {many : Int} {b : PyData} (h : isBough many b = true) : 1 ≤ (kidsOf b).length := by
  obtain ⟨up, lo, hi, ns, rfl, _, _, ne, _⟩ := isb_form h
  show 1 ≤ ((ns.map PyData.int).map toI).length
  rw [List.length_map, List.length_map]
  exact List.length_pos_iff.mpr ne
theorem bough_nonempty {many : Int} {bs : List PyData} (g : GoodB many bs) (m2 : 2 ≤ many) : 1 ≤ bs.length := by
  have e := good_len g
  cases bs with
  | nil => simp at e; omega
  | cons b r => simp
theorem bad_of_len {many : Int} {fs : List PyData} (f : fs.length ≤ 60) (k : (fs.flatMap kidsOf).length ≤ 60) (ne : (fs.flatMap kidsOf).length ≠ (many - 1).toNat) : Bad many fs := ⟨fun g => ne (good_len g), f, k⟩
section
variable {many : Int} {bs : List PyData} (g : GoodB many bs) (m9 : many ≤ 9) (b8 : bs.length ≤ 8)
include g m9 b8
theorem bad_dup {b : PyData} (hb : b ∈ bs) : Bad many (bs ++ [b]) := by
  have e := good_len g
  have h1 := kids_pos (g.each b hb)
  have h2 := kids_few g m9 bs.length
  rw [List.take_length] at h2
  have h3 : (kidsOf b).length ≤ (bs.flatMap kidsOf).length := by
    obtain ⟨j, hj⟩ := List.mem_iff_getElem?.mp hb
    conv => rhs; rw [atD_split hj, List.flatMap_append, List.flatMap_cons, List.length_append, List.length_append]
    omega
  have e2 : ((bs ++ [b]).flatMap kidsOf).length = (bs.flatMap kidsOf).length + (kidsOf b).length := by rw [List.flatMap_append, List.length_append]; simp
  refine bad_of_len (by rw [List.length_append]; simp; omega) (by omega) (by omega)
theorem bad_out {j : Nat} (hj : j < bs.length) : Bad many (bs.take j ++ bs.drop (j + 1)) := by
  have e := good_len g
  have hb := List.getElem?_eq_getElem hj
  have h1 := kids_pos (g.each _ (List.getElem_mem hj))
  have h2 := kids_few g m9 bs.length
  rw [List.take_length] at h2
  have e2 : (bs.flatMap kidsOf).length = ((bs.take j ++ bs.drop (j + 1)).flatMap kidsOf).length + (kidsOf bs[j]).length := by
    conv => lhs; rw [atD_split hb]
    rw [List.flatMap_append, List.flatMap_cons, List.length_append, List.length_append, List.flatMap_append, List.length_append]
    omega
  refine bad_of_len (by rw [List.length_append, List.length_take, List.length_drop]; omega) (by omega) (by omega)
theorem few_set {j : Nat} (hj : j < bs.length) {d : PyData} (k : (kidsOf d).length ≤ 20) : (bs.take j ++ [d] ++ bs.drop (j + 1)).length ≤ 60 ∧ ((bs.take j ++ [d] ++ bs.drop (j + 1)).flatMap kidsOf).length ≤ 60 := by
  have h2 := kids_few g m9 bs.length
  rw [List.take_length] at h2
  have h3 := List.getElem?_eq_getElem hj
  have e2 : (bs.flatMap kidsOf).length = ((bs.take j).flatMap kidsOf).length + (kidsOf bs[j]).length + ((bs.drop (j + 1)).flatMap kidsOf).length := by
    conv => lhs; rw [atD_split h3]
    rw [List.flatMap_append, List.flatMap_cons, List.length_append, List.length_append]
    omega
  constructor
  · rw [List.length_append, List.length_append, List.length_take, List.length_drop]
    simp
    omega
  · rw [List.flatMap_append, List.flatMap_append, List.length_append, List.length_append, show [d].flatMap kidsOf = kidsOf d from by simp]
    omega
theorem bad_odd {j : Nat} (hj : j < bs.length) {d : PyData} (nb : isBough many d = false) (k : (kidsOf d).length ≤ 20) : Bad many (bs.take j ++ [d] ++ bs.drop (j + 1)) := by
  obtain ⟨h1, h2⟩ := few_set g m9 b8 hj k
  refine ⟨fun z => ?_, h1, h2⟩
  have := z.each d (by simp)
  rw [nb] at this
  cases this
theorem bad_kid {j : Nat} {up lo hi : Int} {ns ms : List Int} (hb : bs[j]? = some (bghD up lo hi ns)) {k other : Int} (hk : k ∈ ns) (ho : other ∉ ns) (pm : ms.Perm (ns.filter (fun n => !decide (n = k)) ++ [other])) (k20 : ms.length ≤ 20) :
    Bad many (bs.take j ++ [bghD up lo hi ms] ++ bs.drop (j + 1)) := by
  obtain ⟨hj, _⟩ := List.getElem?_eq_some_iff.mp hb
  have kid : ∀ xs : List Int, kidsOf (bghD up lo hi xs) = xs := fun xs => by
    show (xs.map PyData.int).map toI = xs
    rw [List.map_map]
    exact List.map_id'' (fun _ => rfl) xs
  obtain ⟨h1, h2⟩ := few_set g m9 b8 hj (d := bghD up lo hi ms) (by rw [kid]; exact k20)
  refine ⟨fun z => ?_, h1, h2⟩
  have e : bs.flatMap kidsOf = (bs.take j).flatMap kidsOf ++ (ns ++ (bs.drop (j + 1)).flatMap kidsOf) := by
    conv => lhs; rw [atD_split hb]
    rw [List.flatMap_append, List.flatMap_cons, kid]
  have nd : (bs.flatMap kidsOf).Nodup := by
    refine (g.kids.nodup_iff).mpr ?_
    exact List.Pairwise.map _ (fun a b (h : a ≠ b) (e : (1 : Int) + a = 1 + b) => h (by omega)) (List.nodup_range' (step := 1))
  rw [e] at nd
  obtain ⟨n1, n2, n3⟩ := List.nodup_append.mp nd
  obtain ⟨n4, n5, n6⟩ := List.nodup_append.mp n2
  have inr : k ∈ (List.range' 0 (many - 1).toNat).map fun i : Nat => (1 : Int) + i := g.kids.subset (by rw [e]; exact List.mem_append_right _ (List.mem_append_left _ hk))
  have in2 := z.kids.symm.subset inr
  rw [List.flatMap_append, List.flatMap_append, show [bghD up lo hi ms].flatMap kidsOf = ms from by rw [List.flatMap_cons, kid]; simp] at in2
  rcases List.mem_append.mp in2 with y | y
  · rcases List.mem_append.mp y with y | y
    · exact n3 k y k (List.mem_append_left _ hk) rfl
    · have y2 := pm.subset y
      rcases List.mem_append.mp y2 with y3 | y3
      · have := (List.mem_filter.mp y3).2
        simp at this
      · rw [List.mem_singleton.mp y3] at hk
        exact ho hk
  · exact n6 k hk k y rfl
end
/-- where the boughs are none, there is no wood -/
theorem no_wood_b {many : Int} {fs : List PyData} {d2 : PyData} (b : Bad many fs) : ¬ WoodIn (.int many) (.list fs) d2 := by
  rintro ⟨m, bs, cs, e0, _, _, e1, e2, g, _⟩
  cases e0
  cases e1
  exact b.no g
theorem Bad.fewB {many : Int} {fs : List PyData} (b : Bad many fs) : FewB (.list fs) := fun bs e => by
  cases e
  exact ⟨b.few, b.kids⟩
theorem no_wood_m {many m : Int} {bs : List PyData} {d2 : PyData} (g : GoodB many bs) (m1 : 1 ≤ many) (ne : m ≠ many) : ¬ WoodIn (.int m) (.list bs) d2 := by
  rintro ⟨m', bs', cs, e0, h1, h2, e1, e2, g', _⟩
  cases e0
  cases e1
  have a := good_len g
  have b := good_len g'
  omega
theorem no_wood_t {many : Int} {d1 : PyData} {cs : List PyData} (h : ¬ (cs.length ≤ 8 ∧ ∀ c ∈ cs, isTie many c = true)) : ¬ WoodIn (.int many) d1 (.list cs) := by
  rintro ⟨m', bs', cs', e0, h1, h2, e1, e2, g', h3, h4⟩
  cases e0
  cases e2
  exact h ⟨h3, h4⟩
theorem good_few {many : Int} {bs : List PyData} (g : GoodB many bs) (m9 : many ≤ 9) (b8 : bs.length ≤ 8) : FewB (.list bs) := fun bs' e => by
  cases e
  have h2 := kids_few g m9 bs.length
  rw [List.take_length] at h2
  exact ⟨by omega, by omega⟩
/-- the boughs, the up of one exchanged with its first kid -/
def xch (u k x : Int) : Int := if x = u ∨ x = k then u + k - x else x
theorem xch_at {u k x : Int} : atI [V.int x, V.int (List.sum [u, k] - x)] (if inV (.int x) [.int u, .int k] = true then 1 else 0) = some (.int (xch u k x)) := by
  have e : inV (.int x) [.int u, .int k] = (decide (u = x) || (decide (k = x) || false)) := rfl
  rw [e, Bool.or_false]
  unfold xch
  by_cases h1 : x = u
  · subst h1
    rw [decide_eq_true rfl, Bool.true_or, if_pos rfl, if_pos (.inl rfl)]
    exact (at1).trans (by simp)
  · by_cases h2 : x = k
    · subst h2
      rw [decide_eq_true rfl, Bool.or_true, if_pos rfl, if_pos (.inr rfl)]
      exact (at1).trans (by simp)
    · rw [decide_eq_false (fun z => h1 z.symm), decide_eq_false (fun z => h2 z.symm), if_neg (by simp), if_neg (by simp [h1, h2])]
      exact at0
def TurnB (u k : Int) (b f : PyData) : Prop := ∃ (up lo hi : Int) (ns ms : List Int), b = bghD up lo hi ns ∧ f = bghD (xch u k up) lo hi ms ∧ ms.Perm (ns.map (xch u k))
theorem bad_turn {many : Int} {bs fs : List PyData} (g : GoodB many bs) (m9 : many ≤ 9) (b8 : bs.length ≤ 8) {u lo hi k : Int} {ns : List Int} (hb : bghD u lo hi (k :: ns) ∈ bs) (hl : fs.length = bs.length) (h : ∀ (i : Nat) (b : PyData), bs[i]? = some b → ∃ f, fs[i]? = some f ∧ TurnB u k b f) : Bad many fs := by
  have hk : (fs.flatMap kidsOf).length = (bs.flatMap kidsOf).length := by
    have go : ∀ (bs fs : List PyData), fs.length = bs.length → (∀ (i : Nat) (b : PyData), bs[i]? = some b → ∃ f, fs[i]? = some f ∧ TurnB u k b f) → (fs.flatMap kidsOf).length = (bs.flatMap kidsOf).length := by
      intro bs
      induction bs with
      | nil => intro fs e _; rw [List.length_eq_zero_iff.mp e]
      | cons b bs ih =>
        intro fs e h
        cases fs with
        | nil => simp at e
        | cons f fs =>
          obtain ⟨f', e1, up, lo', hi', ns', ms, rfl, rfl, pm⟩ := h 0 b rfl
          cases e1
          rw [List.flatMap_cons, List.flatMap_cons, List.length_append, List.length_append, ih fs (by simpa using e) (fun i b hi => h (i + 1) b hi)]
          have e2 := pm.length_eq
          rw [List.length_map] at e2
          show ((ms.map PyData.int).map toI).length + _ = ((ns'.map PyData.int).map toI).length + _
          simp only [List.length_map]
          rw [e2]
    exact go bs fs hl h
  have h2 := kids_few g m9 bs.length
  rw [List.take_length] at h2
  refine ⟨fun z => ?_, by omega, by omega⟩
  obtain ⟨j, hj⟩ := List.mem_iff_getElem?.mp hb
  obtain ⟨f, hf, up, lo', hi', ns', ms, e, rfl, pm⟩ := h j _ hj
  have e' : u = up ∧ lo = lo' ∧ hi = hi' ∧ (k :: ns).map PyData.int = ns'.map PyData.int := by
    unfold bghD at e
    injection e with e
    simp only [List.cons.injEq, PyData.int.injEq, PyData.tuple.injEq, and_true] at e
    exact ⟨e.1, e.2.1, e.2.2.1, e.2.2.2⟩
  obtain ⟨rfl, rfl, rfl, e4⟩ := e'
  have e5 := (List.map_inj_right (f := PyData.int) (fun a b e => by cases e; rfl)).mp e4
  subst e5
  obtain ⟨_, _, _, xs, e6, u0, u1, ne, p, r, _⟩ := isb_form (g.each _ hb)
  have e7 : xs = k :: ns ∧ u = u := ⟨by
    unfold bghD at e6
    injection e6 with e6
    simp only [List.cons.injEq, PyData.int.injEq, PyData.tuple.injEq, and_true] at e6
    exact ((List.map_inj_right (f := PyData.int) (fun a b e => by cases e; rfl)).mp e6.2.2.2).symm, rfl⟩
  have eu : ∃ a b c, PyData.tuple [.int u, .int lo, .int hi, .tuple ((k :: ns).map PyData.int)] = bghD a b c xs ∧ ∀ n ∈ xs, a < n := ⟨_, _, _, e6, fun n hn => (r n hn).1⟩
  obtain ⟨a, b, c, e8, r2⟩ := eu
  have ea : u = a := by
    unfold bghD at e8
    injection e8 with e8
    simp only [List.cons.injEq, PyData.int.injEq, and_true] at e8
    exact e8.1
  subst ea
  have uk : u < k := r2 k (by rw [e7.1]; exact List.mem_cons_self)
  have zb := z.each _ (List.mem_of_getElem? hf)
  have z3 : rising many (ms.map PyData.int) (xch u k u) = true := (isb_parts zb).2.2.1
  obtain ⟨qs, e9, _, q2⟩ := ris_parts z3
  have e10 := (List.map_inj_right (f := PyData.int) (fun a b e => by cases e; rfl)).mp e9
  subst e10
  have xu : xch u k u = k := by unfold xch; rw [if_pos (.inl rfl)]; omega
  have xk : xch u k k = u := by unfold xch; rw [if_pos (.inr rfl)]; omega
  have um : u ∈ ms := pm.symm.subset (by rw [List.map_cons, xk]; exact List.mem_cons_self)
  have := (q2 u um).1
  rw [xu] at this
  omega
def spTurned : Sp := fun vs H Q _ => ∃ (pb : Addr) (cell many : Int) (xs : List V) (bs : List PyData), vs = [.ref pb, .int cell] ∧ H pb = some (.lst xs) ∧ DnL H bs xs ∧ GoodB many bs ∧ many ≤ 9 ∧ bs.length ≤ 8 ∧ 0 ≤ cell ∧
  ∀ (l : Addr) (fs : List PyData) (ys : List V) (H' : Hp), Same H H' → H' l = some (.lst ys) → DnL H' fs ys → fs.all (flatD 3) = true → (fs = [] ∨ Bad many fs) → Q (.ref l) H'
def spTwice : Sp := fun vs H Q _ => ∃ (pb : Addr) (many cell : Int) (xs : List V) (bs : List PyData), vs = [.ref pb, .int many, .int cell] ∧ H pb = some (.lst xs) ∧ DnL H bs xs ∧ GoodB many bs ∧ 2 ≤ many ∧ many ≤ 9 ∧ bs.length ≤ 8 ∧ 0 ≤ cell ∧
  ∀ (v : V) (fs : List PyData) (H' : Hp), Same H H' → Dn H' (.list fs) v → Bad many fs → Q v H'
def spSpoiled : Sp := fun vs H Q _ => ∃ (pb pc : Addr) (many cell : Int) (xs ys : List V) (bs cs : List PyData), vs = [.int many, .ref pb, .ref pc, .int cell] ∧ H pb = some (.lst xs) ∧ DnL H bs xs ∧ GoodB many bs ∧ 2 ≤ many ∧ many ≤ 9 ∧ bs.length ≤ 8 ∧ H pc = some (.lst ys) ∧ DnL H cs ys ∧ cs.length ≤ 8 ∧ (∀ c ∈ cs, thirdOk c) ∧ 0 ≤ cell ∧
  ∀ (d0 d1 d2 : PyData) (v : V) (H' : Hp), Same H H' → Dn H' (.tuple [d0, d1, d2]) v → FewB d1 → FewC d2 → ¬ WoodIn d0 d1 d2 → Q v H'
theorem inV_ints (x : Int) : ∀ ns : List Int, inV (.int x) (ns.map V.int) = decide (x ∈ ns)
  | [] => by simp [inV]
  | n :: ns => by
    have e : inV (.int x) ((n :: ns).map V.int) = (decide (n = x) || inV (.int x) (ns.map V.int)) := rfl
    rw [e, inV_ints x ns]
    by_cases h : n = x
    · subst h
      simp
    · have h' : ¬ x = n := fun z => h z.symm
      simp [h, h']
theorem flat_ints (ns : List Int) : (ns.map V.int).all flatV = true := by
  rw [List.all_eq_true]
  intro v hv
  obtain ⟨n, _, rfl⟩ := List.mem_map.mp hv
  rfl
/-- the lists of boughs found so far -/
def SomeOk (many : Int) (sl : Addr) (H H2 : Hp) (n : Nat) : Prop := Same H H2 ∧ ∃ ys, H2 sl = some (.lst ys) ∧ ys.length ≤ n ∧ ∀ y ∈ ys, ∃ (l : Addr) (zs : List V) (fs : List PyData), y = .ref l ∧ l ≠ sl ∧ H2 l = some (.lst zs) ∧ DnL H2 fs zs ∧ fs.all (flatD 3) = true ∧ Bad many fs
theorem SomeOk.same {many : Int} {sl : Addr} {H H2 H3 : Hp} {n : Nat} (h : SomeOk many sl H H2 n) (s : Same H2 H3) : SomeOk many sl H H3 n := by
  obtain ⟨s0, ys, h1, h2, h3⟩ := h
  refine ⟨s0.trans s, ys, s _ _ h1, h2, fun y hy => ?_⟩
  obtain ⟨l, zs, fs, e, ne, a, b, c, d⟩ := h3 y hy
  exact ⟨l, zs, fs, e, ne, s _ _ a, DnL.same s _ _ b, c, d⟩
theorem SomeOk.mono {many : Int} {sl : Addr} {H H2 : Hp} {n m : Nat} (h : SomeOk many sl H H2 n) (l : n ≤ m) : SomeOk many sl H H2 m := by
  obtain ⟨s0, ys, h1, h2, h3⟩ := h
  exact ⟨s0, ys, h1, Nat.le_trans h2 l, h3⟩
theorem SomeOk.put {many : Int} {sl : Addr} {H H2 : Hp} {n : Nat} {v : V} {f : PyData} {fs : List PyData} (h : SomeOk many sl H H2 n) (fr : H sl = none) (hv : Dn H2 (.list fs) v) (hf : f ∈ fs) (ht : isTup f = true) (fl : fs.all (flatD 3) = true) (b : Bad many fs) :
    ∃ ys, H2 sl = some (.lst ys) ∧ ys.length ≤ n ∧ SomeOk many sl H (upd H2 sl (.lst (ys ++ [v]))) (n + 1) := by
  obtain ⟨s0, ys, h1, h2, h3⟩ := h
  obtain ⟨l, zs, rfl, hl, hz⟩ := (show ∃ a xs, v = .ref a ∧ H2 a = some (.lst xs) ∧ DnL H2 fs xs from hv)
  have ne : l ≠ sl := fun e => by
    subst e
    rw [hl] at h1
    cases h1
    obtain ⟨j, hj⟩ := List.mem_iff_getElem?.mp hf
    obtain ⟨x, hx, hd⟩ := hz.get' hj
    obtain ⟨l1, zs1, fs1, e1, _, a1, _⟩ := h3 x (List.mem_of_getElem? hx)
    obtain ⟨ds, rfl⟩ := isTup_tup ht
    obtain ⟨p, xs, e2, a2, _⟩ := dn_tup hd
    rw [e1] at e2
    cases e2
    rw [a1] at a2
    cases a2
  refine ⟨ys, h1, h2, Wd.Same.put s0 fr h1, _, upd_same, by rw [List.length_append]; exact Nat.succ_le_succ h2, fun y hy => ?_⟩
  rcases List.mem_append.mp hy with z | z
  · obtain ⟨l1, zs1, fs1, e1, n1, a1, b1, c1, d1⟩ := h3 y z
    exact ⟨l1, zs1, fs1, e1, n1, by rw [upd_ne n1]; exact a1, DnL.pen h1 c1 b1, c1, d1⟩
  · rw [List.mem_singleton.mp z]
    exact ⟨l, zs, fs, rfl, ne, by rw [upd_ne ne]; exact hl, DnL.pen h1 fl hz, fl, b⟩
theorem good_flat {many : Int} {bs : List PyData} (g : GoodB many bs) (m9 : many ≤ 9) : bs.all (flatD 3) = true := by
  rw [List.all_eq_true]
  intro b hb
  obtain ⟨up, lo, hi, ns, rfl, u0, _, _, p, r, _⟩ := isb_form (g.each b hb)
  have := pw_len p r
  exact bgh_flat _ _ _ _ (by omega)
end Wd

set_option maxRecDepth 100000
set_option maxHeartbeats 4000000
namespace Ow
open PySem L2 Wd
def top (i : Nat) : Stmt := PySem.Challenge.pw_optionwood_k03_no_woods.main.body.getD i (.Pass ⟨0, 0, 0, 0⟩)
abbrev s_wood_of : Stmt := top 13
abbrev s_check_boughs : Stmt := top 14
abbrev s_check_cross_ties : Stmt := top 15
abbrev s_is_whole : Stmt := top 16
abbrev s_is_whole_within : Stmt := top 17
abbrev s_is_option : Stmt := top 18
abbrev s_is_tuple_of_length : Stmt := top 19
abbrev s_is_filled_tuple : Stmt := top 20
abbrev s_are_rising_options : Stmt := top 21
abbrev s_is_bough : Stmt := top 22
abbrev s_is_cross_tie : Stmt := top 23
abbrev s_are_pairs : Stmt := top 24
abbrev s_law_cell_at : Stmt := top 26
abbrev s_law_boughs : Stmt := top 27
abbrev s_law_tie : Stmt := top 28
abbrev s_law_cross : Stmt := top 29
abbrev s_law_many : Stmt := top 30
abbrev s_law_odd_bough : Stmt := top 31
abbrev s_law_odd_tie : Stmt := top 32
abbrev s_law_twice_and_none : Stmt := top 33
abbrev s_law_turned : Stmt := top 34
abbrev s_law_spoiled : Stmt := top 35
abbrev s_law_refused : Stmt := top 36
abbrev s_law : Stmt := top 37
set_option genInjectivity false
set_option genSizeOfSpec false
set_option genSizeOf false
structure Adr where
  (f_wood_of f_check_boughs f_check_cross_ties f_is_whole f_is_whole_within f_is_option f_is_tuple_of_length f_is_filled_tuple f_are_rising_options f_is_bough f_is_cross_tie f_are_pairs f_law_cell_at f_law_boughs f_law_tie f_law_cross f_law_many f_law_odd_bough f_law_odd_tie f_law_twice_and_none f_law_turned f_law_spoiled f_law_refused f_law : Addr)
  (x_WoodError x_NoWood x_NoCount x_NoWares x_NoOffer x_Unlike x_NoText x_NoRow x_NoName : Addr)
structure Fds where
  (f_wood_of f_check_boughs f_check_cross_ties f_is_whole f_is_whole_within f_is_option f_is_tuple_of_length f_is_filled_tuple f_are_rising_options f_is_bough f_is_cross_tie f_are_pairs f_law_cell_at f_law_boughs f_law_tie f_law_cross f_law_many f_law_odd_bough f_law_odd_tie f_law_twice_and_none f_law_turned f_law_spoiled f_law_refused f_law : FuncData)
structure Txt (K : PySem.W.Frag) (mg : Str → Option Value) (a : Adr) (d : Fds) : Prop where
  m_ValueError : mg "ValueError" = none
  m_range : mg "range" = none
  m_len : mg "len" = none
  m_isinstance : mg "isinstance" = none
  m_max : mg "max" = none
  m_int : mg "int" = none
  m_bool : mg "bool" = none
  m_list : mg "list" = none
  m_tuple : mg "tuple" = none
  m_str : mg "str" = none
  m_sorted : mg "sorted" = none
  m_enumerate : mg "enumerate" = none
  m_sum : mg "sum" = none
  c_MOST_OPTIONS : ∃ t, mg "MOST_OPTIONS" = some (Value.int 9 t)
  c_MOST_CROSS_TIES : ∃ t, mg "MOST_CROSS_TIES" = some (Value.int 8 t)
  K_wood_of : Df K mg "wood_of" s_wood_of a.f_wood_of d.f_wood_of ["many", "boughs", "cross"]
  K_check_boughs : Df K mg "check_boughs" s_check_boughs a.f_check_boughs d.f_check_boughs ["many", "boughs"]
  K_check_cross_ties : Df K mg "check_cross_ties" s_check_cross_ties a.f_check_cross_ties d.f_check_cross_ties ["many", "cross"]
  K_is_whole : Df K mg "is_whole" s_is_whole a.f_is_whole d.f_is_whole ["thing"]
  K_is_whole_within : Df K mg "is_whole_within" s_is_whole_within a.f_is_whole_within d.f_is_whole_within ["thing", "least", "greatest"]
  K_is_option : Df K mg "is_option" s_is_option a.f_is_option d.f_is_option ["many", "thing"]
  K_is_tuple_of_length : Df K mg "is_tuple_of_length" s_is_tuple_of_length a.f_is_tuple_of_length d.f_is_tuple_of_length ["thing", "length"]
  K_is_filled_tuple : Df K mg "is_filled_tuple" s_is_filled_tuple a.f_is_filled_tuple d.f_is_filled_tuple ["thing"]
  K_are_rising_options : Df K mg "are_rising_options" s_are_rising_options a.f_are_rising_options d.f_are_rising_options ["many", "things", "floor"]
  K_is_bough : Df K mg "is_bough" s_is_bough a.f_is_bough d.f_is_bough ["many", "bough"]
  K_is_cross_tie : Df K mg "is_cross_tie" s_is_cross_tie a.f_is_cross_tie d.f_is_cross_tie ["many", "tie"]
  K_are_pairs : Df K mg "are_pairs" s_are_pairs a.f_are_pairs d.f_are_pairs ["many", "pairs"]
  K_law_cell_at : Df K mg "_law_cell_at" s_law_cell_at a.f_law_cell_at d.f_law_cell_at ["_law_script", "_law_k"]
  K_law_boughs : Df K mg "_law_boughs" s_law_boughs a.f_law_boughs d.f_law_boughs ["_law_script", "_law_many_here"]
  K_law_tie : Df K mg "_law_tie" s_law_tie a.f_law_tie d.f_law_tie ["_law_cell", "_law_many_here"]
  K_law_cross : Df K mg "_law_cross" s_law_cross a.f_law_cross d.f_law_cross ["_law_script", "_law_many_here"]
  K_law_many : Df K mg "_law_many" s_law_many a.f_law_many d.f_law_many ["_law_script"]
  K_law_odd_bough : Df K mg "_law_odd_bough" s_law_odd_bough a.f_law_odd_bough d.f_law_odd_bough ["_law_bough", "_law_many_here", "_law_cell"]
  K_law_odd_tie : Df K mg "_law_odd_tie" s_law_odd_tie a.f_law_odd_tie d.f_law_odd_tie ["_law_many_here", "_law_cell"]
  K_law_twice_and_none : Df K mg "_law_twice_and_none" s_law_twice_and_none a.f_law_twice_and_none d.f_law_twice_and_none ["_law_boughs_here", "_law_many_here", "_law_cell"]
  K_law_turned : Df K mg "_law_turned" s_law_turned a.f_law_turned d.f_law_turned ["_law_boughs_here", "_law_cell"]
  K_law_spoiled : Df K mg "_law_spoiled" s_law_spoiled a.f_law_spoiled d.f_law_spoiled ["_law_many_here", "_law_boughs_here", "_law_cross_here", "_law_cell"]
  K_law_refused : Df K mg "_law_refused" s_law_refused a.f_law_refused d.f_law_refused ["_law_many_here", "_law_boughs_here", "_law_cross_here", "_law_by_base"]
  K_law : Df K mg "law" s_law a.f_law d.f_law ["_law_script"]
  g_WoodError : mg "WoodError" = some (.ref a.x_WoodError)
  g_NoWood : mg "NoWood" = some (.ref a.x_NoWood)
  g_NoCount : mg "NoCount" = some (.ref a.x_NoCount)
  g_NoWares : mg "NoWares" = some (.ref a.x_NoWares)
  g_NoOffer : mg "NoOffer" = some (.ref a.x_NoOffer)
  g_Unlike : mg "Unlike" = some (.ref a.x_Unlike)
  g_NoText : mg "NoText" = some (.ref a.x_NoText)
  g_NoRow : mg "NoRow" = some (.ref a.x_NoRow)
  g_NoName : mg "NoName" = some (.ref a.x_NoName)
  x_WoodError : XGet K a.x_WoodError
  x_NoWood : XGet K a.x_NoWood
  x_NoCount : XGet K a.x_NoCount
  x_NoWares : XGet K a.x_NoWares
  x_NoOffer : XGet K a.x_NoOffer
  x_Unlike : XGet K a.x_Unlike
  x_NoText : XGet K a.x_NoText
  x_NoRow : XGet K a.x_NoRow
  x_NoName : XGet K a.x_NoName
  k_NoWood_WoodError : PySem.W.kitOne K (.ref a.x_NoWood) (.ref a.x_WoodError) = some true
  k_NoWood_NoWood : PySem.W.kitOne K (.ref a.x_NoWood) (.ref a.x_NoWood) = some true
  k_NoWood_NoCount : PySem.W.kitOne K (.ref a.x_NoWood) (.ref a.x_NoCount) = some false
  k_NoWood_NoWares : PySem.W.kitOne K (.ref a.x_NoWood) (.ref a.x_NoWares) = some false
  k_NoWood_NoOffer : PySem.W.kitOne K (.ref a.x_NoWood) (.ref a.x_NoOffer) = some false
  k_NoWood_Unlike : PySem.W.kitOne K (.ref a.x_NoWood) (.ref a.x_Unlike) = some false
  k_NoWood_NoText : PySem.W.kitOne K (.ref a.x_NoWood) (.ref a.x_NoText) = some false
  k_NoWood_NoRow : PySem.W.kitOne K (.ref a.x_NoWood) (.ref a.x_NoRow) = some false
  k_NoWood_NoName : PySem.W.kitOne K (.ref a.x_NoWood) (.ref a.x_NoName) = some false
  v_NoWood : PySem.W.kitOne K (.ref a.x_NoWood) (.type "ValueError") = some true
  s_NoWood_WoodError : xsub K a.x_NoWood a.x_WoodError = true
  s_NoWood_NoWood : xsub K a.x_NoWood a.x_NoWood = true
theorem sc_wood_of : FnScope ["many", "boughs", "cross", "wood"] ["many", "boughs", "cross"] (defScope s_wood_of) := scm rfl rfl rfl rfl (by decide +kernel)
theorem sc_check_boughs : FnScope ["many", "boughs", "kids", "place", "bough"] ["many", "boughs"] (defScope s_check_boughs) := scm rfl rfl rfl rfl (by decide +kernel)
theorem sc_check_cross_ties : FnScope ["many", "cross", "place", "tie"] ["many", "cross"] (defScope s_check_cross_ties) := scm rfl rfl rfl rfl (by decide +kernel)
theorem sc_is_whole : FnScope ["thing"] ["thing"] (defScope s_is_whole) := scm rfl rfl rfl rfl (by decide +kernel)
theorem sc_is_whole_within : FnScope ["thing", "least", "greatest"] ["thing", "least", "greatest"] (defScope s_is_whole_within) := scm rfl rfl rfl rfl (by decide +kernel)
theorem sc_is_option : FnScope ["many", "thing"] ["many", "thing"] (defScope s_is_option) := scm rfl rfl rfl rfl (by decide +kernel)
theorem sc_is_tuple_of_length : FnScope ["thing", "length"] ["thing", "length"] (defScope s_is_tuple_of_length) := scm rfl rfl rfl rfl (by decide +kernel)
theorem sc_is_filled_tuple : FnScope ["thing"] ["thing"] (defScope s_is_filled_tuple) := scm rfl rfl rfl rfl (by decide +kernel)
theorem sc_are_rising_options : FnScope ["many", "things", "floor", "last", "thing"] ["many", "things", "floor"] (defScope s_are_rising_options) := scm rfl rfl rfl rfl (by decide +kernel)
theorem sc_is_bough : FnScope ["many", "bough", "up", "high", "kids"] ["many", "bough"] (defScope s_is_bough) := scm rfl rfl rfl rfl (by decide +kernel)
theorem sc_is_cross_tie : FnScope ["many", "tie"] ["many", "tie"] (defScope s_is_cross_tie) := scm rfl rfl rfl rfl (by decide +kernel)
theorem sc_are_pairs : FnScope ["many", "pairs", "pair"] ["many", "pairs"] (defScope s_are_pairs) := scm rfl rfl rfl rfl (by decide +kernel)
theorem sc_law_cell_at : FnScope ["_law_script", "_law_k", "_law_number"] ["_law_script", "_law_k"] (defScope s_law_cell_at) := scm rfl rfl rfl rfl (by decide +kernel)
theorem sc_law_boughs : FnScope ["_law_script", "_law_many_here", "_law_groups", "_law_k", "_law_cell", "_law_up", "_law_there", "_law_turn", "_law_boughs_here", "_law_kids", "_law_high"] ["_law_script", "_law_many_here"] (defScope s_law_boughs) := scm rfl rfl rfl rfl (by decide +kernel)
theorem sc_law_tie : FnScope ["_law_cell", "_law_many_here", "_law_one", "_law_other", "_law_some", "_law_pairs", "_law_k", "_law_number", "_law_top"] ["_law_cell", "_law_many_here"] (defScope s_law_tie) := scm rfl rfl rfl rfl (by decide +kernel)
theorem sc_law_cross : FnScope ["_law_script", "_law_many_here", "_law_count"] ["_law_script", "_law_many_here"] (defScope s_law_cross) := scm rfl rfl rfl rfl (by decide +kernel)
theorem sc_law_many : FnScope ["_law_script", "_law_cell"] ["_law_script"] (defScope s_law_many) := scm rfl rfl rfl rfl (by decide +kernel)
theorem sc_law_odd_bough : FnScope ["_law_bough", "_law_many_here", "_law_cell", "_law_up", "_law_low", "_law_high", "_law_kids", "_law_odd", "_law_more", "_law_few", "_law_great", "_law_some"] ["_law_bough", "_law_many_here", "_law_cell"] (defScope s_law_odd_bough) := scm rfl rfl rfl rfl (by decide +kernel)
theorem sc_law_odd_tie : FnScope ["_law_many_here", "_law_cell", "_law_odd", "_law_more", "_law_word", "_law_names", "_law_some"] ["_law_many_here", "_law_cell"] (defScope s_law_odd_tie) := scm rfl rfl rfl rfl (by decide +kernel)
theorem sc_law_twice_and_none : FnScope ["_law_boughs_here", "_law_many_here", "_law_cell", "_law_some", "_law_at", "_law_up", "_law_low", "_law_high", "_law_kids", "_law_k", "_law_other", "_law_new"] ["_law_boughs_here", "_law_many_here", "_law_cell"] (defScope s_law_twice_and_none) := scm rfl rfl rfl rfl (by decide +kernel)
theorem sc_law_turned : FnScope ["_law_boughs_here", "_law_cell", "_law_some", "_law_pair", "_law_found", "_law_up", "_law_low", "_law_high", "_law_kids", "_law_names", "_law_k"] ["_law_boughs_here", "_law_cell"] (defScope s_law_turned) := scm rfl rfl rfl rfl (by decide +kernel)
theorem sc_law_spoiled : FnScope ["_law_many_here", "_law_boughs_here", "_law_cross_here", "_law_cell", "_law_way", "_law_more", "_law_odd", "_law_some", "_law_at", "_law_few", "_law_place"] ["_law_many_here", "_law_boughs_here", "_law_cross_here", "_law_cell"] (defScope s_law_spoiled) := scm rfl rfl rfl rfl (by decide +kernel)
theorem sc_law_refused : FnScope ["_law_many_here", "_law_boughs_here", "_law_cross_here", "_law_by_base", "_law_marks", "e", "_law_told"] ["_law_many_here", "_law_boughs_here", "_law_cross_here", "_law_by_base"] (defScope s_law_refused) := scm rfl rfl rfl rfl (by decide +kernel)
theorem sc_law : FnScope ["_law_script", "_law_many_here", "_law_boughs_here", "_law_cross_here", "_law_k", "_law_cell", "_law_bad", "_law_other", "_law_up", "_law_by_base", "_law_number"] ["_law_script"] (defScope s_law) := scm rfl rfl rfl rfl (by decide +kernel)
end Ow

namespace Ow
open PySem L2 Wd
section
variable {P : Program} {w : World} {K : PySem.W.Frag} {mg : Str → Option Value} {base : Heap} {a : Adr} {d : Fds}
theorem ok_is_tuple_of_length (T : Txt K mg a d) : FnOk P w K mg base CX0 1 a.f_is_tuple_of_length d.f_is_tuple_of_length ["thing", "length"] spTupLen := by
  refine T.K_is_tuple_of_length.ok sc_is_tuple_of_length (fun vs H Q E h => ?_) (fun cdv A outer s H vs Q E hr h => ?_)
  · obtain ⟨d, v, n, rfl, _⟩ := h
    rfl
  obtain ⟨d, v, n, rfl, hd, q⟩ := h
  refine ⟨_, (pss_one (ps_ret (pe_and (pe_callB (isiK (K := K)) rfl T.m_isinstance PyProof.Rows.boot_isinstance (pa_cons (pv 0) (pa_cons (pe_bltn (v := .ty "tuple") rfl T.m_tuple PyProof.Rows.boot_tuple rfl) pa_nil))) (pe_one (pe_cmpR op_eq (pe_callB (lenS (K := K)) rfl T.m_len PySem.boot_len (pa_cons (pv 0) pa_nil)) (pv 1) (nomark _)))))), ?_⟩
  refine ⟨_, rfl, _, _, _, _, rfl, dn_ty hd, ty_tup d, _, rfl, ?_⟩
  refine ite2 (fun c => ?_) (fun c => ?_)
  · obtain ⟨ds, rfl⟩ := isTup_tup c
    obtain ⟨p, xs, rfl, hp, hl⟩ := dn_tup hd
    refine ⟨_, rfl, p, _, rfl, .inr (sqT hp), _, rfl, rfl, ?_⟩
    have e : decide (V.int (xs.length : Nat) = V.int n) = tupLen (.tuple ds) n := by
      rw [dec_int, ← hl.length]
      show _ = decide ((ds.length : Int) = n)
      by_cases z : (ds.length : Int) = n
      · rw [decide_eq_true z]
        simpa using z
      · rw [decide_eq_false z]
        simpa using z
    show Q (.bl (decide (V.int (xs.length : Nat) = V.int n))) H
    rw [e]
    exact q
  · have e : tupLen d n = false := by
      cases d <;> first | rfl | exact absurd rfl c
    rw [e] at q
    exact q

end
section
variable {P : Program} {w : World} {K : PySem.W.Frag} {mg : Str → Option Value} {base : Heap} {a : Adr} {d : Fds}
theorem ok_is_whole (T : Txt K mg a d) : FnOk P w K mg base CX0 1 a.f_is_whole d.f_is_whole ["thing"] spWhole := by
  refine T.K_is_whole.ok sc_is_whole (fun vs H Q E h => ?_) (fun cdv A outer s H vs Q E hr h => ?_)
  · obtain ⟨d, v, rfl, _⟩ := h
    rfl
  obtain ⟨d, v, rfl, hd, q⟩ := h
  refine ⟨_, (pss_one (ps_ret (pe_and (pe_callB (isiK (K := K)) rfl T.m_isinstance PyProof.Rows.boot_isinstance (pa_cons (pv 0) (pa_cons (pe_bltn (v := .ty "int") rfl T.m_int PyProof.Rows.boot_int rfl) pa_nil))) (pe_one (pe_not (pe_callB (isiK (K := K)) rfl T.m_isinstance PyProof.Rows.boot_isinstance (pa_cons (pv 0) (pa_cons (pe_bltn (v := .ty "bool") rfl T.m_bool PyProof.Rows.boot_bool rfl) pa_nil)))))))), ?_⟩
  refine ⟨_, rfl, _, _, _, _, rfl, dn_ty hd, ty_int d, _, rfl, ?_⟩
  refine ite2 (fun c => ?_) (fun c => ?_)
  · refine ⟨_, rfl, _, _, _, _, rfl, dn_ty hd, ty_bool d, _, rfl, ?_⟩
    have e : (!isBool d) = isW d := by
      cases d <;> first | rfl | cases c
    rw [e]
    exact q
  · have e : isW d = false := by
      cases d <;> first | rfl | exact absurd rfl c
    rw [e] at q
    exact q

end
section
variable {P : Program} {w : World} {K : PySem.W.Frag} {mg : Str → Option Value} {base : Heap} {a : Adr} {d : Fds}
theorem ok_is_whole_within (T : Txt K mg a d) : FnOk P w K mg base CX0 2 a.f_is_whole_within d.f_is_whole_within ["thing", "least", "greatest"] spWithin := by
  have G_is_whole := ok_is_whole (P := P) (w := w) (base := base) T
  refine T.K_is_whole_within.ok sc_is_whole_within (fun vs H Q E h => ?_) (fun cdv A outer s H vs Q E hr h => ?_)
  · obtain ⟨d, v, lo, hi, rfl, _⟩ := h
    rfl
  obtain ⟨d, v, lo, hi, rfl, hd, q⟩ := h
  refine ⟨_, (pss_one (ps_ret (pe_and (pe_callD G_is_whole hr.lv rfl T.K_is_whole (pa_cons (pv 0) pa_nil)) (pe_one (pe_chain op_le op_le (pv 1) (pv 0) (pv 2)))))), ?_⟩
  refine ⟨_, rfl, d, v, rfl, hd, _, rfl, ?_⟩
  refine ite2 (fun c => ?_) (fun c => ?_)
  · obtain ⟨i, rfl⟩ := isW_int c
    cases dn_int hd
    refine ⟨_, rfl, _, rfl, _, _, rfl, rfl, _, rfl, ?_⟩
    refine ite2 (fun c2 => ?_) (fun c2 => ?_)
    · refine ⟨_, rfl, _, _, rfl, rfl, ?_⟩
      have e : within (.int i) lo hi = decide (i ≤ hi) := by
        show (decide (lo ≤ i) && decide (i ≤ hi)) = _
        rw [c2, Bool.true_and]
      rw [e] at q
      exact q
    · have e : within (.int i) lo hi = false := by
        show (decide (lo ≤ i) && decide (i ≤ hi)) = _
        rw [Bool.eq_false_iff.mpr c2, Bool.false_and]
      rw [e] at q
      exact q
  · have e : within d lo hi = false := by
      cases d <;> first | rfl | exact absurd rfl c
    rw [e] at q
    exact q

end
section
variable {P : Program} {w : World} {K : PySem.W.Frag} {mg : Str → Option Value} {base : Heap} {a : Adr} {d : Fds}
theorem ok_are_rising_options (T : Txt K mg a d) : FnOk P w K mg base CX0 3 a.f_are_rising_options d.f_are_rising_options ["many", "things", "floor"] (spRising K) := by
  have G_is_whole_within := ok_is_whole_within (P := P) (w := w) (base := base) T
  refine T.K_are_rising_options.ok sc_are_rising_options (fun vs H Q E h => ?_) (fun cdv A outer s H vs Q E hr h => ?_)
  · obtain ⟨many, floor, p, b, ds, xs, rfl, _⟩ := h
    rfl
  obtain ⟨many, floor, p, b, ds, xs, rfl, hq, hl, q⟩ := h
  refine ⟨_, (pss_cons (ps_set (i := 3) sc_are_rising_options.nd rfl (Or.inl rfl) (pv 2))
      (pss_cons (ps_for PassesOwn.never rfl (pi_seq (pv 1)) (pg_name (i := 4) sc_are_rising_options.nd rfl (Or.inl rfl)) (pss_cons (ps_if (pt_not (pt_val (pe_callD G_is_whole_within hr.lv rfl T.K_is_whole_within (pa_cons (pv 4) (pa_cons (pe_op op_add (pv 3) pe_int) (pa_cons (pe_op op_sub (pv 0) pe_int) pa_nil)))))) (pss_one (ps_ret pe_bl)) pss_nil)
      (pss_one (ps_set (i := 3) sc_are_rising_options.nd rfl (Or.inl rfl) (pv 4)))))
      (pss_one (ps_ret pe_bl)))), ?_⟩
  refine ⟨_, rfl, ?_⟩
  have fin : ∀ (last : Int), rising many (ds.drop xs.length) last = true := fun last => by
    rw [← hl.length, List.drop_length]
    rfl
  cases b with
  | false =>
    refine ⟨_, rfl, p, rfl, .inl ⟨⟨xs, hq⟩, for_list (K := K) (a := p) (xs := xs) (rPv many floor p ds H) ⟨⟨floor, none, rfl, rfl⟩, rfl⟩ (fun i σ H2 _ z => by rw [z.2]; exact hq) ?_ ?_⟩⟩
    · rintro i x σ H2 hx ⟨⟨last, v, rfl, hri⟩, rfl⟩
      obtain ⟨e, he, hd⟩ := hl.get hx
      rw [rising_at he] at hri
      refine ⟨_, rfl, _, rfl, _, _, rfl, rfl, _, rfl, _, _, rfl, rfl, e, x, _, _, rfl, hd, _, rfl, ?_⟩
      refine ite2 (fun c => ?_) (fun c => ?_)
      · have z : within e (last + 1) (many - 1) = false := by simpa using c
        rw [z, Bool.false_and] at hri
        rw [← hri] at q
        exact q
      · have z : within e (last + 1) (many - 1) = true := by simpa using c
        rw [z, Bool.true_and] at hri
        cases e with
        | int j =>
          cases dn_int hd
          exact ⟨_, rfl, ⟨j, _, rfl, hri⟩, rfl⟩
        | _ => cases z
    · rintro σ H2 ⟨⟨last, v, rfl, hri⟩, rfl⟩
      rw [fin last] at hri
      rw [← hri] at q
      exact q
  | true =>
    refine ⟨_, rfl, p, rfl, .inr ⟨⟨xs, hq⟩, for_tup (K := K) (a := p) (xs := xs) (rPv many floor p ds H) ⟨⟨floor, none, rfl, rfl⟩, rfl⟩ (fun i σ H2 _ z => by rw [z.2]; exact hq) ?_ ?_⟩⟩
    · rintro i x σ H2 hx ⟨⟨last, v, rfl, hri⟩, rfl⟩
      obtain ⟨e, he, hd⟩ := hl.get hx
      rw [rising_at he] at hri
      refine ⟨_, rfl, _, rfl, _, _, rfl, rfl, _, rfl, _, _, rfl, rfl, e, x, _, _, rfl, hd, _, rfl, ?_⟩
      refine ite2 (fun c => ?_) (fun c => ?_)
      · have z : within e (last + 1) (many - 1) = false := by simpa using c
        rw [z, Bool.false_and] at hri
        rw [← hri] at q
        exact q
      · have z : within e (last + 1) (many - 1) = true := by simpa using c
        rw [z, Bool.true_and] at hri
        cases e with
        | int j =>
          cases dn_int hd
          exact ⟨_, rfl, ⟨j, _, rfl, hri⟩, rfl⟩
        | _ => cases z
    · rintro σ H2 ⟨⟨last, v, rfl, hri⟩, rfl⟩
      rw [fin last] at hri
      rw [← hri] at q
      exact q

end
section
variable {P : Program} {w : World} {K : PySem.W.Frag} {mg : Str → Option Value} {base : Heap} {a : Adr} {d : Fds}
theorem ok_is_option (T : Txt K mg a d) : FnOk P w K mg base CX0 3 a.f_is_option d.f_is_option ["many", "thing"] spOption := by
  have G_is_whole_within := ok_is_whole_within (P := P) (w := w) (base := base) T
  refine T.K_is_option.ok sc_is_option (fun vs H Q E h => ?_) (fun cdv A outer s H vs Q E hr h => ?_)
  · obtain ⟨d, v, many, rfl, _⟩ := h
    rfl
  obtain ⟨d, v, many, rfl, hd, q⟩ := h
  refine ⟨_, (pss_one (ps_ret (pe_callD G_is_whole_within hr.lv rfl T.K_is_whole_within (pa_cons (pv 1) (pa_cons pe_int (pa_cons (pe_op op_sub (pv 0) pe_int) pa_nil)))))), ?_⟩
  exact ⟨_, rfl, _, rfl, _, _, rfl, rfl, d, v, _, _, rfl, hd, q⟩

end
section
variable {P : Program} {w : World} {K : PySem.W.Frag} {mg : Str → Option Value} {base : Heap} {a : Adr} {d : Fds}
theorem ok_is_filled_tuple (T : Txt K mg a d) : FnOk P w K mg base CX0 1 a.f_is_filled_tuple d.f_is_filled_tuple ["thing"] spFull := by
  refine T.K_is_filled_tuple.ok sc_is_filled_tuple (fun vs H Q E h => ?_) (fun cdv A outer s H vs Q E hr h => ?_)
  · obtain ⟨d, v, rfl, _⟩ := h
    rfl
  obtain ⟨d, v, rfl, hd, q⟩ := h
  refine ⟨_, (pss_one (ps_ret (pe_and (pe_callB (isiK (K := K)) rfl T.m_isinstance PyProof.Rows.boot_isinstance (pa_cons (pv 0) (pa_cons (pe_bltn (v := .ty "tuple") rfl T.m_tuple PyProof.Rows.boot_tuple rfl) pa_nil))) (pe_one (pe_cmpR op_gt (pe_callB (lenS (K := K)) rfl T.m_len PySem.boot_len (pa_cons (pv 0) pa_nil)) pe_int (nomark _)))))), ?_⟩
  refine ⟨_, rfl, _, _, _, _, rfl, dn_ty hd, ty_tup d, _, rfl, ?_⟩
  refine ite2 (fun c => ?_) (fun c => ?_)
  · obtain ⟨ds, rfl⟩ := isTup_tup c
    obtain ⟨p, xs, rfl, hp, hl⟩ := dn_tup hd
    refine ⟨_, rfl, p, _, rfl, .inr (sqT hp), _, _, rfl, rfl, ?_⟩
    have e : decide ((0 : Int) < ((xs.length : Nat) : Int)) = tupFull (.tuple ds) := by
      rw [← hl.length]
      show _ = decide (0 < ds.length)
      by_cases z : 0 < ds.length
      · rw [decide_eq_true z, decide_eq_true (by omega)]
      · rw [decide_eq_false z, decide_eq_false (by omega)]
    show Q (.bl (decide ((0 : Int) < ((xs.length : Nat) : Int)))) H
    rw [e]
    exact q
  · have e : tupFull d = false := by
      cases d <;> first | rfl | exact absurd rfl c
    rw [e] at q
    exact q

end
section
variable {P : Program} {w : World} {K : PySem.W.Frag} {mg : Str → Option Value} {base : Heap} {a : Adr} {d : Fds}
theorem ok_is_bough (T : Txt K mg a d) : FnOk P w K mg base CX0 4 a.f_is_bough d.f_is_bough ["many", "bough"] spBough := by
  have G_is_option := ok_is_option (P := P) (w := w) (base := base) T
  have G_is_tuple_of_length := ok_is_tuple_of_length (P := P) (w := w) (base := base) T
  have G_is_filled_tuple := ok_is_filled_tuple (P := P) (w := w) (base := base) T
  have G_are_rising_options := ok_are_rising_options (P := P) (w := w) (base := base) T
  have G_is_whole_within := ok_is_whole_within (P := P) (w := w) (base := base) T
  refine T.K_is_bough.ok sc_is_bough (fun vs H Q E h => ?_) (fun cdv A outer s H vs Q E hr h => ?_)
  · obtain ⟨d, v, many, rfl, _⟩ := h
    rfl
  obtain ⟨d, v, many, rfl, hd, q⟩ := h
  refine ⟨_, (pss_cons (ps_if (pt_not (pt_val (pe_callD G_is_tuple_of_length hr.lv rfl T.K_is_tuple_of_length (pa_cons (pv 1) (pa_cons pe_int pa_nil))))) (pss_one (ps_ret pe_bl)) pss_nil)
      (pss_cons (ps_set (i := 2) sc_is_bough.nd rfl (Or.inl rfl) (pe_ix (ixT (K := K)) (pv 1) pe_int (fun _ _ => rfl)))
      (pss_cons (ps_set (i := 3) sc_is_bough.nd rfl (Or.inl rfl) (pe_ix (ixT (K := K)) (pv 1) pe_int (fun _ _ => rfl)))
      (pss_cons (ps_set (i := 4) sc_is_bough.nd rfl (Or.inl rfl) (pe_ix (ixT (K := K)) (pv 1) pe_int (fun _ _ => rfl)))
      (pss_cons (ps_if (PW.pt (pw_or (pt_not (pt_val (pe_callD G_is_option hr.lv rfl T.K_is_option (pa_cons (pv 0) (pa_cons (pv 2) pa_nil))))) (pw_or1 (pt_not (pt_val (pe_callD G_is_filled_tuple hr.lv rfl T.K_is_filled_tuple (pa_cons (pv 4) pa_nil))))))) (pss_one (ps_ret pe_bl)) pss_nil)
      (pss_cons (ps_if (pt_not (pt_val (pe_callD G_are_rising_options hr.lv rfl T.K_are_rising_options (pa_cons (pv 0) (pa_cons (pv 4) (pa_cons (pv 2) pa_nil)))))) (pss_one (ps_ret pe_bl)) pss_nil)
      (pss_one (ps_ret (pe_and (pe_callD G_is_whole_within hr.lv rfl T.K_is_whole_within (pa_cons (pv 3) (pa_cons pe_int (pa_cons (pe_callB (lenS (K := K)) rfl T.m_len PySem.boot_len (pa_cons (pv 4) pa_nil)) pa_nil)))) (pe_one (pe_callD G_is_whole_within hr.lv rfl T.K_is_whole_within (pa_cons (pe_ix (ixT (K := K)) (pv 1) pe_int (fun _ _ => rfl)) (pa_cons pe_int (pa_cons (pv 3) pa_nil)))))))))))))), ?_⟩
  refine ⟨_, rfl, d, v, 4, rfl, hd, _, rfl, ?_⟩
  refine ite2 (fun c => ?_) (fun c => ?_)
  · have z : tupLen d 4 = false := by simpa using c
    rw [noBough z] at q
    exact q
  have z : tupLen d (4 : Nat) = true := by simpa using c
  obtain ⟨ds, rfl, hlen⟩ := tupLen_tup z
  obtain ⟨u, l, h, k, rfl⟩ := four hlen
  obtain ⟨p, xs, rfl, hp, xu, r1, rfl, hu, xl, r2, rfl, hlo, xh, r3, rfl, hh, xk, r4, rfl, hk, hnil⟩ := dn_tup hd
  cases (show r4 = [] from hnil)
  refine ⟨_, rfl, p, _, _, _, rfl, rfl, sqT hp, at0, ?_⟩
  refine ⟨_, rfl, p, _, _, _, rfl, rfl, sqT hp, at2, ?_⟩
  refine ⟨_, rfl, p, _, _, _, rfl, rfl, sqT hp, at3, ?_⟩
  have eb : isBough many (.tuple [u, l, h, k]) = (within u 0 (many - 1) && (tupFull k && (risK many u k && (highK h k && lowH l h)))) := rfl
  rw [eb] at q
  refine ⟨_, rfl, _, rfl, u, xu, many, rfl, hu, _, rfl, ?_⟩
  refine ite2 (fun c1 => ?_) (fun c1 => ?_)
  · have z1 : within u 0 (many - 1) = false := by simpa using c1
    rw [z1, Bool.false_and] at q
    exact q
  have z1 : within u 0 (many - 1) = true := by simpa using c1
  obtain ⟨up, rfl, u0, u1⟩ := within_int z1
  cases dn_int hu
  rw [z1, Bool.true_and] at q
  refine ⟨_, rfl, k, xk, rfl, hk, _, rfl, ?_⟩
  refine ite2 (fun c2 => ?_) (fun c2 => ?_)
  · have z2 : tupFull k = false := by simpa using c2
    rw [z2, Bool.false_and] at q
    exact q
  have z2 : tupFull k = true := by simpa using c2
  rw [z2, Bool.true_and] at q
  obtain ⟨ks, rfl, k0⟩ := tupFull_tup z2
  obtain ⟨pk, ys, rfl, hpk, hks⟩ := dn_tup hk
  refine ⟨_, rfl, _, rfl, _, rfl, many, up, pk, true, ks, ys, rfl, sqT hpk, hks, _, rfl, ?_⟩
  refine ite2 (fun c3 => ?_) (fun c3 => ?_)
  · have z3 : risK many (.int up) (.tuple ks) = false := by
      show rising many ks up = false
      simpa using c3
    rw [z3, Bool.false_and] at q
    exact q
  have z3 : risK many (.int up) (.tuple ks) = true := by
    show rising many ks up = true
    simpa using c3
  rw [z3, Bool.true_and] at q
  refine ⟨_, rfl, _, rfl, pk, _, rfl, .inr (sqT hpk), h, xh, _, _, rfl, hh, _, rfl, ?_⟩
  have e4 : highK h (.tuple ks) = within h 1 (ys.length : Nat) := by
    show within h 1 (ks.length : Nat) = _
    rw [hks.length]
  rw [e4] at q
  refine ite2 (fun c4 => ?_) (fun c4 => ?_)
  · rw [c4, Bool.true_and] at q
    obtain ⟨hi, rfl, h0, h1⟩ := within_int c4
    cases dn_int hh
    exact ⟨_, rfl, p, _, _, _, rfl, rfl, sqT hp, at1, _, rfl, l, xl, _, _, rfl, hlo, q⟩
  · rw [Bool.eq_false_iff.mpr c4, Bool.false_and] at q
    exact q

end
section
variable {P : Program} {w : World} {K : PySem.W.Frag} {mg : Str → Option Value} {base : Heap} {a : Adr} {d : Fds}
theorem ok_check_boughs (T : Txt K mg a d) : FnOk P w K mg base CX0 5 a.f_check_boughs d.f_check_boughs ["many", "boughs"] spCheckB := by
  have G_is_bough := ok_is_bough (P := P) (w := w) (base := base) T
  refine T.K_check_boughs.ok sc_check_boughs (fun vs H Q E h => ?_) (fun cdv A outer s H vs Q E hr h => ?_)
  · obtain ⟨many, p, xs, bs, rfl, _⟩ := h
    rfl
  obtain ⟨many, p, xs, bs, rfl, hp, hl, G, m1, m9, hb9, q⟩ := h
  refine ⟨_, (pss_cons (ps_set (i := 2) sc_check_boughs.nd rfl (Or.inl rfl) (pe_lst pa_nil))
      (pss_cons (ps_for PassesOwn.never rfl (pi_enum rfl T.m_enumerate (pa_cons (pv 1) pa_nil)) (pgT (K := K) (n := 2) rfl (pgs_cons (pg_name (i := 3) sc_check_boughs.nd rfl (Or.inl rfl)) (pgs_cons (pg_name (i := 4) sc_check_boughs.nd rfl (Or.inl rfl)) pgs_nil))) (pss_cons (ps_if (pt_not (pt_val (pe_callD G_is_bough hr.lv rfl T.K_is_bough (pa_cons (pv 0) (pa_cons (pv 4) pa_nil))))) (pss_one ps_never) pss_nil)
      (pss_one (ps_expr (pe_bmK (K := K) PySem.F.plainAttrs_list PySem.F.slot_list_extend PySem.F.type_list_extend mt_extendT (pv 2) (pa_cons (pe_ix (ixT (K := K)) (pv 4) pe_int (fun _ _ => rfl)) pa_nil))))))
      (pss_one (ps_if (pt_cmpR (op_ne_ints hr.units) (pe_callB call_sorted rfl T.m_sorted PyProof.Rows.boot_sorted (pa_cons (pv 2) pa_nil)) (pe_callTy (call_list_rng rfl) rfl T.m_list PyProof.Rows.boot_list (pa_cons (pe_callTy call_rng rfl T.m_range PyProof.Rows.boot_range (pa_cons pe_int (pa_cons (pv 0) pa_nil))) pa_nil)) (nomark _)) (pss_one ps_never) pss_nil)))), ?_⟩
  refine ⟨small (by decide), fun kl hkl => ?_⟩
  refine ⟨_, rfl, true, p, rfl, ⟨xs, sqT ((same_new hkl _) _ _ hp)⟩, ?_⟩
  refine for_enum (K := K) (b := true) (a := p) (xs := xs) (fun i σ H2 => (∃ v3 v4, σ = [some (.int many), some (.ref p), some (.ref kl), v3, v4]) ∧ Same H H2 ∧ H2 kl = some (.lst (((bs.take i).flatMap kidsOf).map V.int))) ⟨⟨none, none, rfl⟩, same_new hkl _, upd_same⟩ (fun i σ H2 _ z => sqT (z.2.1 _ _ hp)) ?_ ?_
  · rintro i x σ H2 hx ⟨⟨v3, v4, rfl⟩, sm, hk⟩ TT hT
    obtain ⟨b, hb, hd⟩ := hl.get hx
    have gb := G.each b (List.mem_of_getElem? hb)
    have sm2 : Same H (upd H2 TT (.tup [.int i, x])) := sm.trans (same_new hT _)
    have hk2 : upd H2 TT (.tup [.int i, x]) kl = some (.lst (((bs.take i).flatMap kidsOf).map V.int)) := (same_new hT _) _ _ hk
    refine ⟨TT, _, rfl, sqT upd_same, rfl, _, _, rfl, _, _, rfl, rfl, ?_⟩
    refine ⟨_, rfl, _, rfl, b, x, many, rfl, Dn.same sm2 _ _ hd, _, rfl, ?_⟩
    rw [gb]
    refine iteF ?_
    obtain ⟨pb, xu, xl, xh, pk, rfl, hpb, hpk⟩ := bough_kids gb (Dn.same sm2 _ _ hd)
    have fw := kids_few G m9 (i + 1)
    rw [flatMap_take hb, List.length_append] at fw
    refine ⟨_, rfl, .inl ⟨rfl, _, SqL.of hk2⟩, _, rfl, pb, _, _, _, rfl, rfl, sqT hpb, at3, kl, pk, _, _, rfl, rfl, hk2, hpk, ?_, ?_⟩
    · rw [List.length_map, List.length_map]
      exact small (by omega)
    · refine ⟨⟨_, _, rfl⟩, Wd.Same.put sm2 hkl hk2, ?_⟩
      · rw [upd_same, flatMap_take hb, List.map_append]
  · rintro σ H2 ⟨⟨v3, v4, rfl⟩, sm, hk⟩
    rw [← hl.length, List.take_length] at hk
    have fw := kids_few G m9 bs.length
    rw [List.take_length] at fw
    have p62 : (2 : Int) ^ 62 = 4611686018427387904 := by decide
    refine ⟨_, rfl, kl, _, rfl, SqL.of hk, by omega, fun ms pm ps l1 hl1 => ?_⟩
    have sm1 := sm.trans (same_new hl1 (.lst (ms.map V.int)))
    refine ⟨_, rfl, _, _, rfl, fun rp hrp => ?_⟩
    refine ⟨rp, 1, many, rfl, upd_same, by rw [p62]; omega, by rw [p62]; omega, by rw [p62]; omega, by rw [p62]; omega, by omega, fun l2 hl2 => ?_⟩
    have sm2 := (sm1.trans (same_new hrp (.rng 1 many))).trans (same_new hl2 (.lst ((List.range' 0 (many - 1).toNat).map fun i : Nat => V.int (1 + (i : Int)))))
    have e1 : ms = (List.range' 0 (many - 1).toNat).map fun i : Nat => (1 : Int) + i := PySem.W.ksm_same (pm.trans G.kids) ps (range_sorted 1 _ 0)
    have h1 : upd (upd (upd H2 l1 (.lst (ms.map V.int))) rp (.rng 1 many)) l2 (.lst ((List.range' 0 (many - 1).toNat).map fun i : Nat => V.int (1 + (i : Int)))) l1 = some (.lst (ms.map V.int)) := (same_new hl2 _) _ _ ((same_new hrp _) _ _ upd_same)
    refine ⟨l1, l2, ms, ms, rfl, rfl, SqL.of h1, ?_, _, rfl, ?_⟩
    · refine SqL.of ?_
      rw [upd_same, e1, List.map_map]
      rfl
    · refine iteNS rfl ?_
      exact q _ sm2

end
section
variable {P : Program} {w : World} {K : PySem.W.Frag} {mg : Str → Option Value} {base : Heap} {a : Adr} {d : Fds}
theorem ok_are_pairs (T : Txt K mg a d) : FnOk P w K mg base CX0 4 a.f_are_pairs d.f_are_pairs ["many", "pairs"] spPairs := by
  have G_is_tuple_of_length := ok_is_tuple_of_length (P := P) (w := w) (base := base) T
  have G_is_filled_tuple := ok_is_filled_tuple (P := P) (w := w) (base := base) T
  have G_are_rising_options := ok_are_rising_options (P := P) (w := w) (base := base) T
  have G_is_whole := ok_is_whole (P := P) (w := w) (base := base) T
  refine T.K_are_pairs.ok sc_are_pairs (fun vs H Q E h => ?_) (fun cdv A outer s H vs Q E hr h => ?_)
  · obtain ⟨d, v, many, rfl, _⟩ := h
    rfl
  obtain ⟨d, v, many, rfl, hd, hlen9, q⟩ := h
  refine ⟨_, (pss_cons (ps_if (pt_not (pt_val (pe_callD G_is_filled_tuple hr.lv rfl T.K_is_filled_tuple (pa_cons (pv 1) pa_nil)))) (pss_one (ps_ret pe_bl)) pss_nil)
      (pss_cons (ps_for PassesOwn.never rfl (piT (K := K) (pv 1)) (pg_name (i := 2) sc_are_pairs.nd rfl (Or.inl rfl)) (pss_one (ps_if (PW.pt (pw_or (pt_not (pt_val (pe_callD G_is_tuple_of_length hr.lv rfl T.K_is_tuple_of_length (pa_cons (pv 2) (pa_cons pe_int pa_nil))))) (pw_or1 (pt_not (pt_val (pe_callD G_is_whole hr.lv rfl T.K_is_whole (pa_cons (pe_ix (ixT (K := K)) (pv 2) pe_int (fun _ _ => rfl)) pa_nil))))))) (pss_one (ps_ret pe_bl)) pss_nil)))
      (pss_one (ps_ret (pe_callD G_are_rising_options hr.lv rfl T.K_are_rising_options (pa_cons (pv 0) (pa_cons (pe_lc (sc0 := defScope s_are_pairs) (XN := ["many", "pairs", "pair"]) (N' := ["pair"]) (n := 1) (kp := []) rfl (piT (K := K) (pv 1)) rfl rfl (by decide +kernel) (fun _ _ _ _ _ => (pg_name (i := 0) (by show List.Nodup (["pair"] : List Str); decide +kernel) rfl (Or.inl rfl))) (fun _ _ _ _ _ => pts_nil) (fun _ _ _ _ _ => (pe_ix (ixT (K := K)) (pv 0) pe_int (fun _ _ => rfl)))) (pa_cons (pe_un un_neg pe_int) pa_nil)))))))), ?_⟩
  refine ⟨_, rfl, d, v, rfl, hd, _, rfl, ?_⟩
  refine ite2 (fun c => ?_) (fun c => ?_)
  · have z : tupFull d = false := by simpa using c
    have e : arePairs many d = false := by
      cases d with
      | tuple ds =>
        show (decide (0 < ds.length) && ds.all pairOk && rising many (ds.map fstD) (-1)) = false
        rw [show decide (0 < ds.length) = false from z, Bool.false_and, Bool.false_and]
      | _ => rfl
    rw [e] at q
    exact q H (Same.refl H)
  have z : tupFull d = true := by simpa using c
  obtain ⟨ds, rfl, k0⟩ := tupFull_tup z
  obtain ⟨p, xs, rfl, hp, hl⟩ := dn_tup hd
  have e : arePairs many (.tuple ds) = (ds.all pairOk && rising many (ds.map fstD) (-1)) := by
    show (decide (0 < ds.length) && ds.all pairOk && rising many (ds.map fstD) (-1)) = _
    rw [show decide (0 < ds.length) = true from decide_eq_true k0, Bool.true_and]
  rw [e] at q
  refine ⟨_, rfl, p, rfl, ⟨xs, sqT hp⟩, for_tup (K := K) (a := p) (xs := xs) (fun i σ H2 => (∃ v, σ = [some (.int many), some (.ref p), v]) ∧ H2 = H ∧ (ds.take i).all pairOk = true) ⟨⟨none, rfl⟩, rfl, rfl⟩ (fun i σ H2 _ z => by rw [z.2.1]; exact sqT hp) ?_ ?_⟩
  · rintro i x σ H2 hx ⟨⟨v, rfl⟩, rfl, ha⟩
    obtain ⟨e1, he1, hd1⟩ := hl.get hx
    refine ⟨_, rfl, e1, x, 2, rfl, hd1, _, rfl, ?_⟩
    refine ite2 (fun c1 => ?_) (fun c1 => ?_)
    · have z1 : tupLen e1 2 = false := by simpa using c1
      rw [all_not he1 (noPair z1), Bool.false_and] at q
      exact q H2 (Same.refl H2)
    have z1 : tupLen e1 (2 : Nat) = true := by simpa using c1
    obtain ⟨es, rfl, hlen⟩ := tupLen_tup z1
    obtain ⟨o, n, rfl⟩ := two hlen
    obtain ⟨pp, ys, rfl, hpp, xo, r1, rfl, ho, xn, r2, rfl, hn, hnil⟩ := dn_tup hd1
    cases (show r2 = [] from hnil)
    refine ⟨_, rfl, pp, _, _, _, rfl, rfl, sqT hpp, at1, n, xn, rfl, hn, _, rfl, ?_⟩
    refine ite2 (fun c2 => ?_) (fun c2 => ?_)
    · have z2 : pairOk (.tuple [o, n]) = false := by
        show isW n = false
        simpa using c2
      rw [all_not he1 z2, Bool.false_and] at q
      exact q H2 (Same.refl H2)
    · have z2 : pairOk (.tuple [o, n]) = true := by
        show isW n = true
        simpa using c2
      exact ⟨⟨_, rfl⟩, rfl, take_all he1 ha z2⟩
  · rintro σ H2 ⟨⟨v, rfl⟩, rfl, ha⟩
    rw [← hl.length, List.take_length] at ha
    rw [ha, Bool.true_and] at q
    refine ⟨_, rfl, _, rfl, p, rfl, ⟨xs, sqT hp⟩, ?_⟩
    refine lc_tup (K := K) (a := p) (xs := xs) (fun i ys σ H3 => (∃ v, σ = [v]) ∧ H3 = H2 ∧ i ≤ xs.length ∧ DnL H2 ((ds.take i).map fstD) ys) ⟨⟨none, rfl⟩, rfl, Nat.zero_le _, rfl⟩ (fun i ys σ H3 hi pv => ?_) (fun i ys σ H3 hi pv => ?_) (fun i x ys σ H3 hx pv => ?_) (fun ys σ H3 pv l hl3 => ?_)
    · obtain ⟨_, _, h1, h2⟩ := pv
      have e1 := h2.length
      rw [List.length_map, List.length_take] at e1
      have e2 := hl.length
      have e3 : ds.length ≤ 1000 := hlen9
      exact small (by omega)
    · rw [pv.2.1]
      exact sqT hp
    · obtain ⟨⟨v, rfl⟩, rfl, h1, h2⟩ := pv
      obtain ⟨e1, he1, hd1⟩ := hl.get hx
      have po : pairOk e1 = true := by
        rw [List.all_eq_true] at ha
        exact ha e1 (List.mem_of_getElem? he1)
      cases e1 with
      | tuple es =>
        match es, po, hd1 with
        | [o, n], po, hd1 =>
          obtain ⟨pp, zs, rfl, hpp, xo, r1, rfl, ho, xn, r2, rfl, hn, hnil⟩ := dn_tup hd1
          refine ⟨_, rfl, pp, _, _, _, rfl, rfl, sqT hpp, at0, ⟨_, rfl⟩, rfl, (List.getElem?_eq_some_iff.mp hx).1, ?_⟩
          obtain ⟨hi, ee⟩ := List.getElem?_eq_some_iff.mp he1
          rw [List.take_succ_eq_append_getElem hi, List.map_append, ee]
          exact h2.append ⟨xo, [], rfl, ho, rfl⟩
      | _ => cases po
    · obtain ⟨_, rfl, _, h2⟩ := pv
      rw [← hl.length, List.take_length] at h2
      exact ⟨_, rfl, many, -1, l, false, ds.map fstD, ys, rfl, SqL.of upd_same, DnL.same (same_new hl3 _) _ _ h2, q _ (same_new hl3 _)⟩

end
section
variable {P : Program} {w : World} {K : PySem.W.Frag} {mg : Str → Option Value} {base : Heap} {a : Adr} {d : Fds}
theorem ok_is_cross_tie (T : Txt K mg a d) : FnOk P w K mg base CX0 5 a.f_is_cross_tie d.f_is_cross_tie ["many", "tie"] spTie := by
  have G_is_option := ok_is_option (P := P) (w := w) (base := base) T
  have G_is_tuple_of_length := ok_is_tuple_of_length (P := P) (w := w) (base := base) T
  have G_are_pairs := ok_are_pairs (P := P) (w := w) (base := base) T
  have G_is_whole := ok_is_whole (P := P) (w := w) (base := base) T
  refine T.K_is_cross_tie.ok sc_is_cross_tie (fun vs H Q E h => ?_) (fun cdv A outer s H vs Q E hr h => ?_)
  · obtain ⟨d, v, many, rfl, _⟩ := h
    rfl
  obtain ⟨d, v, many, rfl, hd, h3, q⟩ := h
  refine ⟨_, (pss_cons (ps_if (PW.pt (pw_or (pt_not (pt_val (pe_callD G_is_tuple_of_length hr.lv rfl T.K_is_tuple_of_length (pa_cons (pv 1) (pa_cons pe_int pa_nil))))) (pw_or1 (pt_not (pt_val (pe_callB (isiK (K := K)) rfl T.m_isinstance PyProof.Rows.boot_isinstance (pa_cons (pe_ix (ixT (K := K)) (pv 1) pe_int (fun _ _ => rfl)) (pa_cons (pe_bltn (v := .ty "str") rfl T.m_str PyProof.Rows.boot_str rfl) pa_nil)))))))) (pss_one (ps_ret pe_bl)) pss_nil)
      (pss_cons (ps_if (pt_cmpR op_eq (pe_ix (ixT (K := K)) (pv 1) pe_int (fun _ _ => rfl)) pe_str (nomark _)) (pss_one (ps_ret (pe_and (pe_callD G_is_whole hr.lv rfl T.K_is_whole (pa_cons (pe_ix (ixT (K := K)) (pv 1) pe_int (fun _ _ => rfl)) pa_nil)) (pe_one (pe_callD G_are_pairs hr.lv rfl T.K_are_pairs (pa_cons (pv 0) (pa_cons (pe_ix (ixT (K := K)) (pv 1) pe_int (fun _ _ => rfl)) pa_nil))))))) pss_nil)
      (pss_cons (ps_if (pt_cmpR op_notIn_seq (pe_ix (ixT (K := K)) (pv 1) pe_int (fun _ _ => rfl)) (pe_tup (pa_cons pe_str (pa_cons pe_str pa_nil))) (by with_unfolding_all rfl)) (pss_one (ps_ret pe_bl)) pss_nil)
      (pss_one (ps_ret (pe_and (pe_callD G_is_option hr.lv rfl T.K_is_option (pa_cons (pv 0) (pa_cons (pe_ix (ixT (K := K)) (pv 1) pe_int (fun _ _ => rfl)) pa_nil))) (pe_and (pe_callD G_is_option hr.lv rfl T.K_is_option (pa_cons (pv 0) (pa_cons (pe_ix (ixT (K := K)) (pv 1) pe_int (fun _ _ => rfl)) pa_nil))) (pe_one (pe_cmpR op_ne (pe_ix (ixT (K := K)) (pv 1) pe_int (fun _ _ => rfl)) (pe_ix (ixT (K := K)) (pv 1) pe_int (fun _ _ => rfl)) (nomark _)))))))))), ?_⟩
  refine ⟨_, rfl, d, v, 3, rfl, hd, _, rfl, ?_⟩
  refine ite2 (fun c => ?_) (fun c => ?_)
  · have z : tupLen d 3 = false := by simpa using c
    rw [noTie z] at q
    exact q H (Same.refl H)
  have z : tupLen d (3 : Nat) = true := by simpa using c
  obtain ⟨ds, rfl, hlen⟩ := tupLen_tup z
  obtain ⟨k, x, y, rfl⟩ := three hlen
  obtain ⟨p, xs, rfl, hp, xk, r1, rfl, hk, xx, r2, rfl, hx, xy, r3, rfl, hy, hnil⟩ := dn_tup hd
  cases (show r3 = [] from hnil)
  have q' : ∀ H', Same H H' → Q (.bl (tieD many x y k)) H' := q
  refine ⟨_, rfl, p, _, _, _, rfl, rfl, sqT hp, at0, _, _, _, _, rfl, dn_ty hk, ty_str k, _, rfl, ?_⟩
  refine ite2 (fun c1 => ?_) (fun c1 => ?_)
  · have z1 : tieD many x y k = false := by
      cases k with
      | str s => cases c1
      | _ => rfl
    rw [z1] at q'
    exact q' H (Same.refl H)
  obtain ⟨s, rfl⟩ : ∃ s, k = .str s := by
    cases k with
    | str s => exact ⟨s, rfl⟩
    | _ => exact absurd rfl c1
  cases (show xk = .str s from hk)
  have q2 : ∀ H', Same H H' → Q (.bl (tieK many s x y)) H' := q'
  unfold tieK at q2
  refine ⟨_, rfl, p, _, _, _, rfl, rfl, sqT hp, at0, rfl, _, rfl, ?_⟩
  refine ite2 (fun c2 => ?_) (fun c2 => ?_)
  · have e2 : s = ("most" : Str) := of_decide_eq_true ((dec_strs _ _).symm.trans c2)
    rw [if_pos e2] at q2
    refine ⟨_, rfl, p, _, _, _, rfl, rfl, sqT hp, at1, x, xx, rfl, hx, _, rfl, ?_⟩
    refine ite2 (fun c3 => ?_) (fun c3 => ?_)
    · rw [c3, Bool.true_and] at q2
      exact ⟨_, rfl, _, rfl, p, _, _, _, rfl, rfl, sqT hp, at2, y, xy, many, rfl, hy, h3, q2⟩
    · rw [Bool.eq_false_iff.mpr c3, Bool.false_and] at q2
      exact q2 H (Same.refl H)
  have e2 : ¬ s = ("most" : Str) := of_decide_eq_false ((dec_strs _ _).symm.trans (Bool.eq_false_iff.mpr c2))
  rw [if_neg e2] at q2
  refine ⟨_, rfl, p, _, _, _, rfl, rfl, sqT hp, at0, small (by show 2 ≤ 1000; decide), fun tp htp => ?_⟩
  refine ⟨tp, _, rfl, .inr (sqT upd_same), rfl, rfl, _, rfl, ?_⟩
  have sm := same_new htp (.tup [.str ("needs" : Str), .str ("bans" : Str)])
  have hp' : upd H tp (.tup [.str ("needs" : Str), .str ("bans" : Str)]) p = some (.tup [.str s, xx, xy]) := sm _ _ hp
  have ein : (if true = true then !inV (.str s) [.str ("needs" : Str), .str ("bans" : Str)] else inV (.str s) [.str ("needs" : Str), .str ("bans" : Str)]) = !decide (s = ("needs" : Str) ∨ s = ("bans" : Str)) := by
    show (!(((("needs" : Str) == s) || ((("bans" : Str) == s) || false)))) = _
    by_cases h1 : s = ("needs" : Str)
    · subst h1
      simp
    · by_cases h2 : s = ("bans" : Str)
      · subst h2
        simp
      · have g1 : ((("needs" : Str) == s) = false) := by
          rw [Bool.eq_false_iff]
          intro z
          exact h1 (eq_of_beq z).symm
        have g2 : ((("bans" : Str) == s) = false) := by
          rw [Bool.eq_false_iff]
          intro z
          exact h2 (eq_of_beq z).symm
        rw [g1, g2, decide_eq_false (by rintro (z | z) <;> contradiction)]
        rfl
  rw [ein]
  refine ite2 (fun c3 => ?_) (fun c3 => ?_)
  · have e3 : ¬ (s = ("needs" : Str) ∨ s = ("bans" : Str)) := by simpa using c3
    rw [if_neg e3] at q2
    exact q2 _ sm
  have e3 : s = ("needs" : Str) ∨ s = ("bans" : Str) := by
    by_cases z : s = ("needs" : Str) ∨ s = ("bans" : Str)
    · exact z
    · exact absurd (by rw [decide_eq_false z]; rfl) c3
  rw [if_pos e3] at q2
  refine ⟨_, rfl, _, rfl, p, _, _, _, rfl, rfl, sqT hp', at1, x, xx, many, rfl, Dn.same sm _ _ hx, _, rfl, ?_⟩
  refine ite2 (fun c4 => ?_) (fun c4 => ?_)
  · rw [c4, Bool.true_and] at q2
    refine ⟨_, rfl, _, rfl, p, _, _, _, rfl, rfl, sqT hp', at2, y, xy, many, rfl, Dn.same sm _ _ hy, _, rfl, ?_⟩
    refine ite2 (fun c5 => ?_) (fun c5 => ?_)
    · rw [c5, Bool.true_and] at q2
      obtain ⟨i, rfl, _⟩ := within_int c4
      obtain ⟨j, rfl, _⟩ := within_int c5
      cases dn_int hx
      cases dn_int hy
      refine ⟨_, rfl, p, _, _, _, rfl, rfl, sqT hp', at1, _, rfl, p, _, _, _, rfl, rfl, sqT hp', at2, rfl, ?_⟩
      have e5 : (!decide (V.int i = V.int j)) = neI (.int i) (.int j) := by
        show _ = !decide (i = j)
        rw [dec_int]
        by_cases z : i = j
        · rw [decide_eq_true z]
          simpa using z
        · rw [decide_eq_false z]
          simpa using z
      rw [e5]
      exact q2 _ sm
    · rw [Bool.eq_false_iff.mpr c5, Bool.false_and] at q2
      exact q2 _ sm
  · rw [Bool.eq_false_iff.mpr c4, Bool.false_and] at q2
    exact q2 _ sm

end
section
variable {P : Program} {w : World} {K : PySem.W.Frag} {mg : Str → Option Value} {base : Heap} {a : Adr} {d : Fds}
theorem ok_check_cross_ties (T : Txt K mg a d) : FnOk P w K mg base CX0 6 a.f_check_cross_ties d.f_check_cross_ties ["many", "cross"] spCheckC := by
  have G_is_cross_tie := ok_is_cross_tie (P := P) (w := w) (base := base) T
  obtain ⟨_, c_MOST_CROSS_TIES⟩ := T.c_MOST_CROSS_TIES
  refine T.K_check_cross_ties.ok sc_check_cross_ties (fun vs H Q E h => ?_) (fun cdv A outer s H vs Q E hr h => ?_)
  · obtain ⟨many, p, xs, bs, rfl, _⟩ := h
    rfl
  obtain ⟨many, p, xs, cs, rfl, hp, hl, G, h8, q⟩ := h
  refine ⟨_, (pss_cons (ps_if (pt_cmpR op_gt (pe_callB (lenS (K := K)) rfl T.m_len PySem.boot_len (pa_cons (pv 1) pa_nil)) (pe_glob (v := .int 8) rfl c_MOST_CROSS_TIES ⟨_, rfl⟩) (nomark _)) (pss_one ps_never) pss_nil)
      (pss_one (ps_for PassesOwn.never rfl (pi_enum rfl T.m_enumerate (pa_cons (pv 1) pa_nil)) (pgT (K := K) (n := 2) rfl (pgs_cons (pg_name (i := 2) sc_check_cross_ties.nd rfl (Or.inl rfl)) (pgs_cons (pg_name (i := 3) sc_check_cross_ties.nd rfl (Or.inl rfl)) pgs_nil))) (pss_one (ps_if (pt_not (pt_val (pe_callD G_is_cross_tie hr.lv rfl T.K_is_cross_tie (pa_cons (pv 0) (pa_cons (pv 3) pa_nil))))) (pss_one ps_never) pss_nil))))), ?_⟩
  refine ⟨_, rfl, p, _, rfl, .inr (sqT hp), _, _, rfl, rfl, _, rfl, ?_⟩
  have e8 : decide ((8 : Int) < ((xs.length : Nat) : Int)) = false := by
    rw [← hl.length]
    exact decide_eq_false (by omega)
  rw [e8]
  refine iteF ?_
  refine ⟨_, rfl, true, p, rfl, ⟨xs, sqT hp⟩, ?_⟩
  refine for_enum (K := K) (b := true) (a := p) (xs := xs) (fun i σ H2 => (∃ v2 v3, σ = [some (.int many), some (.ref p), v2, v3]) ∧ Same H H2) ⟨⟨none, none, rfl⟩, Same.refl H⟩ (fun i σ H2 _ z => sqT (z.2 _ _ hp)) ?_ ?_
  · rintro i x σ H2 hx ⟨⟨v2, v3, rfl⟩, sm⟩ TT hT
    obtain ⟨b, hb, hd⟩ := hl.get hx
    obtain ⟨gb, g3⟩ := G b (List.mem_of_getElem? hb)
    have sm2 : Same H (upd H2 TT (.tup [.int i, x])) := sm.trans (same_new hT _)
    refine ⟨TT, _, rfl, sqT upd_same, rfl, _, _, rfl, _, _, rfl, rfl, ?_⟩
    refine ⟨_, rfl, _, rfl, b, x, many, rfl, Dn.same sm2 _ _ hd, g3, fun H3 sm3 => ⟨_, rfl, ?_⟩⟩
    rw [gb]
    refine iteF ?_
    exact ⟨⟨_, _, rfl⟩, sm2.trans sm3⟩
  · rintro σ H2 ⟨⟨v2, v3, rfl⟩, sm⟩
    exact q H2 sm

end
section
variable {P : Program} {w : World} {K : PySem.W.Frag} {mg : Str → Option Value} {base : Heap} {a : Adr} {d : Fds}
theorem ok_wood_of (T : Txt K mg a d) : FnOk P w K mg base CX0 7 a.f_wood_of d.f_wood_of ["many", "boughs", "cross"] spWood := by
  have G_is_whole_within := ok_is_whole_within (P := P) (w := w) (base := base) T
  have G_check_boughs := ok_check_boughs (P := P) (w := w) (base := base) T
  have G_check_cross_ties := ok_check_cross_ties (P := P) (w := w) (base := base) T
  obtain ⟨_, c_MOST_OPTIONS⟩ := T.c_MOST_OPTIONS
  refine T.K_wood_of.ok sc_wood_of (fun vs H Q E h => ?_) (fun cdv A outer s H vs Q E hr h => ?_)
  · obtain ⟨many, p, r, xs, ys, bs, cs, rfl, _⟩ := h
    rfl
  obtain ⟨many, p, r, xs, ys, bs, cs, rfl, hp, hr', hl, hl2, G, m1, m9, b9, GT, c8, q⟩ := h
  refine ⟨_, (pss_cons (ps_if (pt_not (pt_val (pe_callD G_is_whole_within hr.lv rfl T.K_is_whole_within (pa_cons (pv 0) (pa_cons pe_int (pa_cons (pe_glob (v := .int 9) rfl c_MOST_OPTIONS ⟨_, rfl⟩) pa_nil)))))) (pss_one ps_never) pss_nil)
      (pss_cons (ps_if (pt_not (pt_val (pe_callB (isiK (K := K)) rfl T.m_isinstance PyProof.Rows.boot_isinstance (pa_cons (pv 1) (pa_cons (pe_bltn (v := .ty "list") rfl T.m_list PyProof.Rows.boot_list rfl) pa_nil))))) (pss_one ps_never) pss_nil)
      (pss_cons (ps_if (pt_not (pt_val (pe_callB (isiK (K := K)) rfl T.m_isinstance PyProof.Rows.boot_isinstance (pa_cons (pv 2) (pa_cons (pe_bltn (v := .ty "list") rfl T.m_list PyProof.Rows.boot_list rfl) pa_nil))))) (pss_one ps_never) pss_nil)
      (pss_cons (ps_set (i := 3) sc_wood_of.nd rfl (Or.inl rfl) (pe_tup (pa_cons (pv 0) (pa_cons (pe_callTy call_tuple_of rfl T.m_tuple PyProof.Rows.boot_tuple (pa_cons (pv 1) pa_nil)) (pa_cons (pe_callTy call_tuple_of rfl T.m_tuple PyProof.Rows.boot_tuple (pa_cons (pv 2) pa_nil)) pa_nil)))))
      (pss_cons (ps_expr (pe_callD G_check_boughs hr.lv rfl T.K_check_boughs (pa_cons (pv 0) (pa_cons (pe_ix (ixT (K := K)) (pv 3) pe_int (fun _ _ => rfl)) pa_nil))))
      (pss_cons (ps_expr (pe_callD G_check_cross_ties hr.lv rfl T.K_check_cross_ties (pa_cons (pv 0) (pa_cons (pe_ix (ixT (K := K)) (pv 3) pe_int (fun _ _ => rfl)) pa_nil))))
      (pss_one (ps_ret (pv 3))))))))), ?_⟩
  refine ⟨_, rfl, .int many, .int many, 1, 9, rfl, rfl, _, rfl, ?_⟩
  have ew : within (.int many) 1 9 = true := by
    show (decide (1 ≤ many) && decide (many ≤ 9)) = true
    rw [decide_eq_true m1, decide_eq_true m9]
    rfl
  rw [ew]
  refine iteF ?_
  refine ⟨_, rfl, _, _, _, _, rfl, .lst hp, isi_list_list, _, rfl, ?_⟩
  refine iteF ?_
  refine ⟨_, rfl, _, _, _, _, rfl, .lst hr', isi_list_list, _, rfl, ?_⟩
  refine iteF ?_
  refine ⟨_, rfl, _, rfl, p, xs, rfl, .inl ⟨SqL.of hp, fun tb htb => ?_⟩⟩
  have sm1 := same_new htb (.tup xs)
  refine ⟨_, rfl, r, ys, rfl, .inl ⟨SqL.of (sm1 _ _ hr'), fun tc htc => ?_⟩⟩
  have sm2 := sm1.trans (same_new htc (.tup ys))
  refine ⟨small (by show 3 ≤ 1000; decide), fun wd hwd => ?_⟩
  have sm3 := sm2.trans (same_new hwd (.tup [.int many, .ref tb, .ref tc]))
  have etb : upd (upd (upd H tb (.tup xs)) tc (.tup ys)) wd (.tup [.int many, .ref tb, .ref tc]) tb = some (.tup xs) := (same_new hwd _) _ _ ((same_new htc _) _ _ upd_same)
  have etc : upd (upd (upd H tb (.tup xs)) tc (.tup ys)) wd (.tup [.int many, .ref tb, .ref tc]) tc = some (.tup ys) := (same_new hwd _) _ _ upd_same
  refine ⟨_, rfl, _, rfl, wd, _, _, _, rfl, rfl, sqT upd_same, at1, many, tb, xs, bs, rfl, etb, DnL.same sm3 _ _ hl, G, m1, m9, b9, fun H4 sm4 => ?_⟩
  have ewd := sm4 _ _ (show upd (upd (upd H tb (.tup xs)) tc (.tup ys)) wd (.tup [.int many, .ref tb, .ref tc]) wd = some (.tup [.int many, .ref tb, .ref tc]) from upd_same)
  refine ⟨_, rfl, _, rfl, wd, _, _, _, rfl, rfl, sqT ewd, at2, many, tc, ys, cs, rfl, sm4 _ _ etc, DnL.same (sm3.trans sm4) _ _ hl2, GT, c8, fun H5 sm5 => ?_⟩
  exact ⟨_, rfl, q wd tb tc H5 (sm3.trans (sm4.trans sm5)) (sm5 _ _ ewd) (sm5 _ _ (sm4 _ _ etb)) (sm5 _ _ (sm4 _ _ etc))⟩

end
section
variable {P : Program} {w : World} {K : PySem.W.Frag} {mg : Str → Option Value} {base : Heap} {a : Adr} {d : Fds}
theorem ok_law_cell_at (T : Txt K mg a d) : FnOk P w K mg base CX0 1 a.f_law_cell_at d.f_law_cell_at ["_law_script", "_law_k"] (spCell K) := by
  refine T.K_law_cell_at.ok sc_law_cell_at (fun vs H Q E h => ?_) (fun cdv A outer s H vs Q E hr h => ?_)
  · obtain ⟨p, ns, k, rfl, _⟩ := h
    rfl
  obtain ⟨p, ns, k, rfl, hS, hl, k0, k1, q⟩ := h
  have el : (ns.map V.int).length = ns.length := List.length_map _
  have item : ∀ j : Int, 0 ≤ j → j < ns.length → ∃ v : Int, atI (ns.map V.int) j = some (.int v) := fun j j0 j1 => by
    obtain ⟨m, rfl⟩ : ∃ m : Nat, j = (m : Int) := ⟨j.toNat, by omega⟩
    have hj : m < ns.length := by omega
    refine ⟨ns[m], atI_nat ?_⟩
    rw [List.getElem?_map, List.getElem?_eq_getElem hj]
    rfl
  refine ⟨_, (pss_cons (ps_if (pt_cmpR op_lt (pv 1) (pe_callB (lenS (K := K)) rfl T.m_len PySem.boot_len (pa_cons (pv 0) pa_nil)) (nomark _)) (pss_one (ps_ret (pe_op op_mod (pe_ix (ixL (K := K)) (pv 0) (pv 1) (fun _ _ => rfl)) pe_int))) pss_nil)
      (pss_cons (ps_set (i := 2) sc_law_cell_at.nd rfl (Or.inl rfl) (pe_op op_add (pe_op op_mul (pe_op op_mul (pv 1) (pv 1)) pe_int) pe_int))
      (pss_cons (ps_if (pt_cmpR op_gt (pe_callB (lenS (K := K)) rfl T.m_len PySem.boot_len (pa_cons (pv 0) pa_nil)) pe_int (nomark _)) (pss_one (ps_set (i := 2) sc_law_cell_at.nd rfl (Or.inl rfl) (pe_op op_add (pv 2) (pe_op op_mul (pe_op op_mod (pe_ix (ixL (K := K)) (pv 0) (pe_op op_mod (pv 1) (pe_callB (lenS (K := K)) rfl T.m_len PySem.boot_len (pa_cons (pv 0) pa_nil))) (fun _ _ => rfl)) pe_int) pe_int)))) pss_nil)
      (pss_one (ps_ret (pe_op op_mod (pe_op op_mul (pv 2) (pv 2)) pe_int)))))), ?_⟩
  refine ⟨_, rfl, _, rfl, p, _, rfl, .inl hS, _, _, rfl, rfl, _, rfl, ?_⟩
  refine ite2 (fun c => ?_) (fun c => ?_)
  · have c' : k < ((ns.map V.int).length : Nat) := of_decide_eq_true c
    rw [el] at c'
    obtain ⟨v, hv⟩ := item k k0 c'
    refine ⟨_, rfl, _, rfl, p, _, _, _, rfl, rfl, hS, hv, _, _, rfl, rfl, (by show (0 : Int) < 2147483629; decide), ?_⟩
    exact q _ (Int.emod_nonneg _ (by decide)) (Int.emod_lt_of_pos _ (by decide))
  · have kk : 0 ≤ k * k ∧ k * k ≤ 1000000 := by
      constructor
      · exact Int.mul_nonneg k0 k0
      · have h1 : k * k ≤ 1000 * k := Int.mul_le_mul_of_nonneg_right (by omega) k0
        omega
    refine ⟨_, rfl, _, rfl, _, _, rfl, rfl, (by unfold CMul; omega), _, _, rfl, rfl, (by unfold CMul; omega), _, _, rfl, rfl, ?_⟩
    have fin : ∀ x : Int, -(2 ^ 64) < x → x < 2 ^ 64 → Q (.int (x * x % 2147483629)) H := fun x _ _ => q _ (Int.emod_nonneg _ (by decide)) (Int.emod_lt_of_pos _ (by decide))
    refine ⟨_, rfl, p, _, rfl, .inl hS, _, _, rfl, rfl, _, rfl, ?_⟩
    refine ite2 (fun c2 => ?_) (fun c2 => ?_)
    · have c2' : (0 : Int) < ((ns.map V.int).length : Nat) := of_decide_eq_true c2
      rw [el] at c2'
      have m0 : 0 ≤ k % (ns.length : Int) := Int.emod_nonneg _ (by omega)
      have m1 : k % (ns.length : Int) < ns.length := Int.emod_lt_of_pos _ c2'
      obtain ⟨v, hv⟩ := item _ m0 m1
      have v0 : 0 ≤ v % 2147483629 := Int.emod_nonneg _ (by decide)
      have v1 : v % 2147483629 < 2147483629 := Int.emod_lt_of_pos _ (by decide)
      refine ⟨_, rfl, _, rfl, _, rfl, _, rfl, p, _, rfl, .inl hS, _, _, rfl, rfl, (by rw [el]; exact c2'), p, _, _, _, rfl, rfl, hS, (by rw [el]; exact hv), _, _, rfl, rfl, (by show (0 : Int) < 2147483629; decide), _, _, rfl, rfl, (by unfold CMul; omega), _, _, rfl, rfl, ?_⟩
      refine ⟨_, rfl, _, rfl, _, _, rfl, rfl, (by unfold CMul; omega), _, _, rfl, rfl, (by show (0 : Int) < 2147483629; decide), ?_⟩
      exact fin _ (by omega) (by omega)
    · refine ⟨_, rfl, _, rfl, _, _, rfl, rfl, (by unfold CMul; omega), _, _, rfl, rfl, (by show (0 : Int) < 2147483629; decide), ?_⟩
      exact fin _ (by omega) (by omega)

end
section
variable {P : Program} {w : World} {K : PySem.W.Frag} {mg : Str → Option Value} {base : Heap} {a : Adr} {d : Fds}
theorem SameX.freshB {pen : Addr} {H H1 H' : Hp} {ys : List V} (s0 : Same H H1) (n : H pen = none) (hp : H1 pen = some (.lst ys)) (s : SameX pen H1 H') : Same H H' := fun b o h => by
  have ne : b ≠ pen := ne_of_none h n
  have z := s0 b o h
  cases o
  case tbl ps =>
    obtain ⟨⟨qs, hq⟩, k⟩ := z
    have y := s b _ ne hq
    exact ⟨y.1, fun t => (y.2 (k t) ⟨_, hp⟩).1⟩
  all_goals exact s b _ ne z
theorem ok_law_boughs (T : Txt K mg a d) : FnOk P w K mg base CX0 2 a.f_law_boughs d.f_law_boughs ["_law_script", "_law_many_here"] (spBoughs K) := by
  have G_law_cell_at := ok_law_cell_at (P := P) (w := w) (base := base) T
  refine T.K_law_boughs.ok sc_law_boughs (fun vs H Q E h => ?_) (fun cdv A outer s H vs Q E hr h => ?_)
  · obtain ⟨p, ns, many, rfl, _⟩ := h
    rfl
  obtain ⟨sp, ns, many, rfl, hS, hl, m1, m9, q⟩ := h
  have p62 : (2 : Int) ^ 62 = 4611686018427387904 := by decide
  refine ⟨_, (pss_cons (ps_set (i := 2) sc_law_boughs.nd rfl (Or.inl rfl) (pe_lst pa_nil))
      (pss_cons (ps_for PassesOwn.never rfl (pi_range2 rfl T.m_range (pa_cons pe_int (pa_cons (pv 1) pa_nil))) (pg_name (i := 3) sc_law_boughs.nd rfl (Or.inl rfl)) (pss_cons (ps_set (i := 4) sc_law_boughs.nd rfl (Or.inl rfl) (pe_callD G_law_cell_at hr.lv rfl T.K_law_cell_at (pa_cons (pv 0) (pa_cons (pe_op op_add pe_int (pv 3)) pa_nil))))
      (pss_cons (ps_set (i := 5) sc_law_boughs.nd rfl (Or.inr rfl) (pe_op op_mod (pv 4) (pv 3)))
      (pss_cons (ps_setLc (i := 6) sc_law_boughs.nd rfl rfl rfl (sc0 := defScope s_law_boughs) (XN := ["_law_script", "_law_many_here", "_law_groups", "_law_k", "_law_cell", "_law_up", "_law_there", "_law_turn", "_law_boughs_here", "_law_kids", "_law_high"]) (N' := ["_law_group", "_law_up"]) (n := 1) (kp := [5]) rfl (piL (K := K) (pv 2)) rfl rfl (by decide +kernel) (fun _ _ _ _ _ => (pg_name (i := 0) (by show List.Nodup (["_law_group", "_law_up"] : List Str); decide +kernel) rfl (Or.inl rfl))) (fun _ _ _ _ _ => (pts_one (pt_cmpR op_eq (pe_ix (ixT (K := K)) (pv 0) pe_int (fun _ _ => rfl)) (pv 1) (nomark _)))) (fun _ _ _ _ _ => (pv 0)))
      (pss_one (ps_if (PW.pt (pw_and (pt_cmpR op_gt (pe_callB (lenS (K := K)) rfl T.m_len PySem.boot_len (pa_cons (pv 6) pa_nil)) pe_int (nomark _)) (pw_and1 (pt_cmpR op_gt (pe_op op_mod (pe_op op_fdiv (pv 4) pe_int) pe_int) pe_int (nomark _))))) (pss_one (ps_expr (pe_bmK (K := K) PySem.F.plainAttrs_list PySem.F.slot_list_append PySem.F.type_list_append mt_append (pe_ix (ixT (K := K)) (pe_ix (ixL (K := K)) (pv 6) (pe_op op_mod (pe_op op_fdiv (pv 4) pe_int) (pe_callB (lenS (K := K)) rfl T.m_len PySem.boot_len (pa_cons (pv 6) pa_nil))) (fun _ _ => rfl)) pe_int (fun _ _ => rfl)) (pa_cons (pv 3) pa_nil)))) (pss_one (ps_expr (pe_bmK (K := K) PySem.F.plainAttrs_list PySem.F.slot_list_append PySem.F.type_list_append mt_append (pv 2) (pa_cons (pe_tup (pa_cons (pv 5) (pa_cons (pe_lst (pa_cons (pv 3) pa_nil)) pa_nil))) pa_nil))))))))))
      (pss_cons (ps_set (i := 7) sc_law_boughs.nd rfl (Or.inl rfl) (pe_op op_mod (pe_callD G_law_cell_at hr.lv rfl T.K_law_cell_at (pa_cons (pv 0) (pa_cons pe_int pa_nil))) (pe_op op_add (pe_callB (lenS (K := K)) rfl T.m_len PySem.boot_len (pa_cons (pv 2) pa_nil)) pe_int)))
      (pss_cons (ps_set (i := 8) sc_law_boughs.nd rfl (Or.inl rfl) (pe_lst pa_nil))
      (pss_cons (ps_for PassesOwn.never rfl (piL (K := K) (pe_op op_cat (pe_slice sl_list (pv 2) (po_some (pv 7)) po_none) (pe_slice sl_list (pv 2) po_none (po_some (pv 7))))) (pgT (K := K) (n := 2) rfl (pgs_cons (pg_name (i := 5) sc_law_boughs.nd rfl (Or.inr rfl)) (pgs_cons (pg_name (i := 9) sc_law_boughs.nd rfl (Or.inl rfl)) pgs_nil))) (pss_cons (ps_set (i := 4) sc_law_boughs.nd rfl (Or.inl rfl) (pe_callD G_law_cell_at hr.lv rfl T.K_law_cell_at (pa_cons (pv 0) (pa_cons (pe_op op_add pe_int (pe_ix (ixL (K := K)) (pv 9) pe_int (fun _ _ => rfl))) pa_nil))))
      (pss_cons (ps_set (i := 10) sc_law_boughs.nd rfl (Or.inl rfl) (pe_op op_add pe_int (pe_op op_mod (pv 4) (pe_callB (lenS (K := K)) rfl T.m_len PySem.boot_len (pa_cons (pv 9) pa_nil)))))
      (pss_cons (ps_if (pt_cmpR op_eq (pe_op op_mod (pe_op op_fdiv (pv 4) pe_int) pe_int) pe_int (nomark _)) (pss_one (ps_set (i := 10) sc_law_boughs.nd rfl (Or.inl rfl) (pe_callB (lenS (K := K)) rfl T.m_len PySem.boot_len (pa_cons (pv 9) pa_nil)))) pss_nil)
      (pss_one (ps_expr (pe_bmK (K := K) PySem.F.plainAttrs_list PySem.F.slot_list_append PySem.F.type_list_append mt_append (pv 8) (pa_cons (pe_tup (pa_cons (pv 5) (pa_cons (pe_op op_mod (pe_op op_fdiv (pv 4) pe_int) (pe_op op_add (pv 10) pe_int)) (pa_cons (pv 10) (pa_cons (pe_callTy call_tuple_of rfl T.m_tuple PyProof.Rows.boot_tuple (pa_cons (pv 9) pa_nil)) pa_nil))))) pa_nil))))))))
      (pss_one (ps_ret (pv 8)))))))), ?_⟩
  refine ⟨small (by decide), fun g hg => ?_⟩
  refine ⟨_, rfl, _, _, rfl, ⟨by rw [p62]; omega, by rw [p62]; omega, by rw [p62]; omega, by rw [p62]; omega⟩, ?_⟩
  refine for_range (lo := 1) (n := (many - 1).toNat) (fun i σ H2 => ∃ (v3 v4 v5 v6 : Option V) (gs : List Grp), σ = [some (.ref sp), some (.int many), some (.ref g), v3, v4, v5, v6, none, none, none, none] ∧ Same H H2 ∧ GAt H H2 g gs ∧ GOk ((i : Int) + 1) gs)
    ⟨none, none, none, none, [], rfl, same_new hg _, ⟨upd_same, hg, (fun _ z => nomatch z), (fun _ z => nomatch z), List.nodup_nil⟩, ⟨(fun _ z => nomatch z), List.Perm.refl _⟩⟩ ?_ ?_
  · rintro i σ H2 hi ⟨v3, v4, v5, v6, gs, rfl, sm, GA, GK⟩
    have few := GK.few
    refine ⟨_, rfl, _, rfl, _, _, rfl, rfl, sp, ns, _, rfl, sm.seq hS, hl, by omega, by omega, fun c c0 c1 => ?_⟩
    have u0 : 0 ≤ c % (1 + (i : Int)) := Int.emod_nonneg _ (by omega)
    have u1 : c % (1 + (i : Int)) < 1 + (i : Int) := Int.emod_lt_of_pos _ (by omega)
    refine ⟨_, rfl, _, rfl, _, _, rfl, rfl, (by show (0 : Int) < 1 + (i : Int); omega), ?_⟩
    -- the groups of that up
    refine ⟨_, rfl, g, rfl, ⟨_, SqL.of GA.at_⟩, ?_⟩
    refine lc_list (K := K) (a := g) (xs := gs.map fun x => V.ref x.t) (fun j ys σ H3 => (∃ v, σ = [v, some (.int (c % (1 + (i : Int))))]) ∧ H3 = H2 ∧ j ≤ gs.length ∧ ys = ((gs.take j).filter fun x => decide (x.up = c % (1 + (i : Int)))).map fun x => V.ref x.t) ⟨⟨none, rfl⟩, rfl, Nat.zero_le _, rfl⟩ (fun j ys σ H3 hj pv => ?_) (fun j ys σ H3 hj pv => ?_) (fun j x ys σ H3 hx pv => ?_) (fun ys σ H3 pv th hth => ?_)
    · obtain ⟨_, _, h1, rfl⟩ := pv
      rw [List.length_map]
      refine small (Nat.le_trans (List.length_filter_le _ _) ?_)
      rw [List.length_take]
      omega
    · rw [pv.2.1]
      exact SqL.of GA.at_
    · obtain ⟨⟨v, rfl⟩, rfl, h1, rfl⟩ := pv
      rw [List.getElem?_map] at hx
      obtain ⟨y, hy, rfl⟩ := Option.map_eq_some_iff.mp hx
      have hj : j < gs.length := (List.getElem?_eq_some_iff.mp hy).1
      have ty := GA.tup y (List.mem_of_getElem? hy)
      refine ⟨_, rfl, y.t, _, _, _, rfl, rfl, sqT ty, at0, _, rfl, rfl, _, rfl, ?_⟩
      have ee : (gs.take (j + 1)).filter (fun x => decide (x.up = c % (1 + (i : Int)))) = (gs.take j).filter (fun x => decide (x.up = c % (1 + (i : Int)))) ++ (if decide (y.up = c % (1 + (i : Int))) = true then [y] else []) := PySem.take_succ_filter _ _ _ _ hy
      have eb : decide (V.int y.up = V.int (c % (1 + (i : Int)))) = decide (y.up = c % (1 + (i : Int))) := by
        rw [dec_int]
        by_cases z : y.up = c % (1 + (i : Int))
        · rw [decide_eq_true z]
          simpa using z
        · rw [decide_eq_false z]
          simpa using z
      rw [eb]
      refine ite2 (fun z => ?_) (fun z => ?_)
      · refine ⟨_, rfl, ⟨_, rfl⟩, rfl, hj, ?_⟩
        rw [ee, if_pos z, List.map_append]
        rfl
      · refine ⟨⟨_, rfl⟩, rfl, hj, ?_⟩
        rw [ee, if_neg z, List.append_nil]
    obtain ⟨_, rfl, _, rfl⟩ := pv
    rw [List.length_map, List.take_length] at *
    have smt := same_new hth (.lst ((gs.filter fun x => decide (x.up = c % (1 + (i : Int)))).map fun x => V.ref x.t))
    have GA3 := GA.same smt
    have ei : (((i + 1 : Nat) : Int) + 1) = (i : Int) + 2 := by omega
    have ek : (1 : Int) + (i : Int) = (i : Int) + 1 := by omega
    refine ⟨_, rfl, th, _, rfl, .inl (SqL.of upd_same), _, _, rfl, rfl, _, rfl, ?_⟩
    refine ite2 (fun z1 => ?_) (fun z1 => ?_)
    · refine ⟨_, rfl, _, _, rfl, rfl, ⟨by decide, by decide⟩, _, _, rfl, rfl, (by show (0 : Int) < 3; decide), _, _, rfl, rfl, _, rfl, ?_⟩
      refine ite2 (fun z2 => ?_) (fun z2 => ?_)
      · have len0 : (0 : Int) < (((gs.filter fun x => decide (x.up = c % (1 + (i : Int)))).map fun x => V.ref x.t).length : Nat) := of_decide_eq_true z1
        have r0 : 0 ≤ c / 27 % ((((gs.filter fun x => decide (x.up = c % (1 + (i : Int)))).map fun x => V.ref x.t).length : Nat) : Int) := Int.emod_nonneg _ (by omega)
        have r1 : c / 27 % ((((gs.filter fun x => decide (x.up = c % (1 + (i : Int)))).map fun x => V.ref x.t).length : Nat) : Int) < ((((gs.filter fun x => decide (x.up = c % (1 + (i : Int)))).map fun x => V.ref x.t).length : Nat) : Int) := Int.emod_lt_of_pos _ len0
        obtain ⟨j, ej⟩ : ∃ j : Nat, c / 27 % ((((gs.filter fun x => decide (x.up = c % (1 + (i : Int)))).map fun x => V.ref x.t).length : Nat) : Int) = (j : Int) := ⟨_, (Int.toNat_of_nonneg r0).symm⟩
        have hj : j < (gs.filter fun x => decide (x.up = c % (1 + (i : Int)))).length := by
          rw [ej, List.length_map] at r1
          omega
        obtain ⟨x, hx, hat⟩ := mem_at (f := fun x : Grp => V.ref x.t) hj
        have hxg : x ∈ gs := (List.mem_filter.mp hx).1
        obtain ⟨pre, post, epp⟩ := List.append_of_mem hxg
        have xt := GA3.tup x hxg
        have xl := (GA3.lst x hxg).1
        have xn := (GA3.lst x hxg).2.1
        refine ⟨_, rfl, _, rfl, _, _, rfl, rfl, ⟨by decide, by decide⟩, _, rfl, th, _, rfl, .inl (SqL.of upd_same), _, _, rfl, rfl, len0, th, _, _, _, rfl, rfl, SqL.of upd_same, (by rw [ej]; exact atI_nat hat), x.t, _, _, _, rfl, rfl, sqT xt, at1, .inl ⟨rfl, _, SqL.of xl⟩, _, rfl, x.l, _, _, rfl, rfl, xl, ?_, ?_⟩
        · have e := GK.perm.length_eq
          rw [List.length_map, List.length_range', epp, List.flatMap_append, List.flatMap_cons, List.length_append, List.length_append] at e
          rw [List.length_map]
          exact small1000 (by omega)
        · subst epp
          refine ⟨_, _, _, _, pre ++ ⟨x.t, x.up, x.l, x.kids ++ [1 + (i : Int)]⟩ :: post, rfl, Same.put (sm.trans smt) xn xl, GA3.put, ?_⟩
          · rw [ei, ek]
            exact GK.put
      all_goals skip
      · refine ⟨_, rfl, .inl ⟨rfl, _, SqL.of GA3.at_⟩, _, rfl, _, rfl, small (by show 1 ≤ 1000; decide), fun l hl4 => ⟨small (by show 2 ≤ 1000; decide), fun t ht4 => ?_⟩⟩
        have s4 := (same_new hl4 (.lst [.int (1 + (i : Int))])).trans (same_new ht4 (.tup [.int (c % (1 + (i : Int))), .ref l]))
        refine ⟨g, _, _, rfl, rfl, s4 _ _ GA3.at_, (by rw [List.length_map]; exact small1000 (by omega)), ?_⟩
        refine ⟨_, _, _, _, gs ++ [⟨t, c % (1 + (i : Int)), l, [1 + (i : Int)]⟩], rfl, Same.put ((sm.trans smt).trans s4) hg (s4 _ _ GA3.at_), GA3.add (sm.trans smt) hl4 ht4, ?_⟩
        · rw [ei, ek]
          exact GK.new (by rw [← ek]; exact u0) (by rw [← ek]; exact u1)
    · refine ⟨_, rfl, .inl ⟨rfl, _, SqL.of GA3.at_⟩, _, rfl, _, rfl, small (by show 1 ≤ 1000; decide), fun l hl4 => ⟨small (by show 2 ≤ 1000; decide), fun t ht4 => ?_⟩⟩
      have s4 := (same_new hl4 (.lst [.int (1 + (i : Int))])).trans (same_new ht4 (.tup [.int (c % (1 + (i : Int))), .ref l]))
      refine ⟨g, _, _, rfl, rfl, s4 _ _ GA3.at_, (by rw [List.length_map]; exact small1000 (by omega)), ?_⟩
      refine ⟨_, _, _, _, gs ++ [⟨t, c % (1 + (i : Int)), l, [1 + (i : Int)]⟩], rfl, Same.put ((sm.trans smt).trans s4) hg (s4 _ _ GA3.at_), GA3.add (sm.trans smt) hl4 ht4, ?_⟩
      · rw [ei, ek]
        exact GK.new (by rw [← ek]; exact u0) (by rw [← ek]; exact u1)
  · rintro σ H2 ⟨v3, v4, v5, v6, gs, rfl, sm, GA, GK⟩
    have em : (((many - 1).toNat : Nat) : Int) + 1 = many := by omega
    rw [em] at GK
    have few := GK.few
    refine ⟨_, rfl, sp, ns, _, rfl, sm.seq hS, hl, by omega, by omega, fun c2 c20 c21 => ?_⟩
    refine ⟨_, rfl, g, _, rfl, .inl (SqL.of GA.at_), _, _, rfl, rfl, _, _, rfl, rfl, (by show (0 : Int) < ((gs.map fun x => V.ref x.t).length : Nat) + 1; omega), ?_⟩
    have t0 : 0 ≤ c2 % (((gs.map fun x => V.ref x.t).length : Nat) + 1 : Int) := Int.emod_nonneg _ (by omega)
    have t1 : c2 % (((gs.map fun x => V.ref x.t).length : Nat) + 1 : Int) < ((gs.map fun x => V.ref x.t).length : Nat) + 1 := Int.emod_lt_of_pos _ (by omega)
    obtain ⟨tn, etn⟩ : ∃ tn : Nat, c2 % (((gs.map fun x => V.ref x.t).length : Nat) + 1 : Int) = (tn : Int) := ⟨_, (Int.toNat_of_nonneg t0).symm⟩
    have htn : tn ≤ gs.length := by
      rw [etn, List.length_map] at t1
      omega
    refine ⟨small (by decide), fun bl hbl => ?_⟩
    have smb := same_new hbl (.lst [])
    have GAb := GA.same smb
    refine ⟨_, rfl, _, rfl, _, rfl, g, _, rfl, SqL.of GAb.at_, fun p1 hp1 => ?_⟩
    have sm1 := same_new hp1 (.lst (cutV (gs.map fun x => V.ref x.t) (some (c2 % (((gs.map fun x => V.ref x.t).length : Nat) + 1 : Int))) none))
    refine ⟨_, rfl, _, rfl, _, rfl, g, _, rfl, SqL.of (sm1 _ _ GAb.at_), fun p2 hp2 => ?_⟩
    have sm2 := same_new hp2 (.lst (cutV (gs.map fun x => V.ref x.t) none (some (c2 % (((gs.map fun x => V.ref x.t).length : Nat) + 1 : Int)))))
    have l1 := cutV_length (gs.map fun x => V.ref x.t) (some (c2 % (((gs.map fun x => V.ref x.t).length : Nat) + 1 : Int))) none
    have l2 := cutV_length (gs.map fun x => V.ref x.t) none (some (c2 % (((gs.map fun x => V.ref x.t).length : Nat) + 1 : Int)))
    have lm : (gs.map fun x => V.ref x.t).length = gs.length := List.length_map _
    refine ⟨p1, p2, _, _, rfl, rfl, sm2 _ _ upd_same, upd_same, small (by omega), fun p3 hp3 => ?_⟩
    have rot := cut_rot (fun x : Grp => V.ref x.t) gs tn htn
    rw [← etn] at rot
    have sm3 := same_new hp3 (.lst (cutV (gs.map fun x => V.ref x.t) (some (c2 % (((gs.map fun x => V.ref x.t).length : Nat) + 1 : Int))) none ++ cutV (gs.map fun x => V.ref x.t) none (some (c2 % (((gs.map fun x => V.ref x.t).length : Nat) + 1 : Int)))))
    have smo := (sm1.trans sm2).trans sm3
    have GA5 := GAb.same smo
    have nbl : H bl = none := sm.free hbl
    have rsm : ∀ x ∈ gs.drop tn ++ gs.take tn, x ∈ gs := fun x hx => by
      rcases List.mem_append.mp hx with z | z
      · exact List.mem_of_mem_drop z
      · exact List.mem_of_mem_take z
    have p3n : p3 ≠ bl := fun z => by
      rw [z] at hp3
      rw [(sm1.trans sm2) _ _ upd_same] at hp3
      cases hp3
    generalize hHb : upd (upd (upd (upd H2 bl (.lst [])) p1 (.lst (cutV (gs.map fun x => V.ref x.t) (some (c2 % (((gs.map fun x => V.ref x.t).length : Nat) + 1 : Int))) none))) p2 (.lst (cutV (gs.map fun x => V.ref x.t) none (some (c2 % (((gs.map fun x => V.ref x.t).length : Nat) + 1 : Int)))))) p3 (.lst (cutV (gs.map fun x => V.ref x.t) (some (c2 % (((gs.map fun x => V.ref x.t).length : Nat) + 1 : Int))) none ++ cutV (gs.map fun x => V.ref x.t) none (some (c2 % (((gs.map fun x => V.ref x.t).length : Nat) + 1 : Int))))) = Hb at *
    have e3 : Hb p3 = some (.lst ((gs.drop tn ++ gs.take tn).map fun x => V.ref x.t)) := by
      rw [← hHb, upd_same, rot]
    have ebl : Hb bl = some (.lst []) := smo _ _ upd_same
    have toHb : Same H Hb := (sm.trans smb).trans smo
    refine ⟨p3, rfl, ⟨_, SqL.of e3⟩, ?_⟩
    refine for_list (K := K) (a := p3) (xs := (gs.drop tn ++ gs.take tn).map fun x => V.ref x.t) (fun i σ H3 => ∃ (w3 w4 w5 w9 w10 : Option V) (bs : List PyData) (xs : List V), σ = [some (.ref sp), some (.int many), some (.ref g), w3, w4, w5, v6, some (.int (c2 % (((gs.map fun x => V.ref x.t).length : Nat) + 1 : Int))), some (.ref bl), w9, w10] ∧
      SameX bl Hb H3 ∧ H3 bl = some (.lst xs) ∧ DnL H3 bs xs ∧ bs.length = i ∧ (∀ b ∈ bs, isBough many b = true) ∧ bs.flatMap kidsOf = ((gs.drop tn ++ gs.take tn).take i).flatMap (·.kids) ∧ bs.all (flatD 3) = true)
      ⟨v3, v4, v5, none, none, [], [], rfl, SameX.refl bl Hb, ebl, rfl, rfl, (fun _ z => nomatch z), rfl, rfl⟩ (fun i σ H3 _ z => ?_) ?_ ?_
    · obtain ⟨_, _, _, _, _, _, _, _, sb, _⟩ := z
      exact SqL.of (sb _ _ p3n e3)
    · rintro i y σ H3 hy ⟨w3, w4, w5, w9, w10, bs, xs, rfl, sb3, hb3, dn3, bl3, ok3, ki3, fl3⟩
      rw [List.getElem?_map] at hy
      obtain ⟨x, hx, rfl⟩ := Option.map_eq_some_iff.mp hy
      have hxg : x ∈ gs := rsm x (List.mem_of_getElem? hx)
      have gx := GK.each x hxg
      have xt := GA5.tup x hxg
      have xl := (GA5.lst x hxg).1
      have xt3 : H3 x.t = some (.tup [.int x.up, .ref x.l]) := sb3 _ _ (ne_of xt ebl (by intro z; cases z)) xt
      have xlb : x.l ≠ bl := by
        have z := (GA.lst x hxg).1
        exact ne_of_none z hbl
      have xl3 : H3 x.l = some (.lst (x.kids.map V.int)) := sb3 _ _ xlb xl
      have hil : i < gs.length := by
        have := (List.getElem?_eq_some_iff.mp hx).1
        rw [List.length_append, List.length_drop, List.length_take] at this
        omega
      have sp3 : SqL K H3 sp (ns.map V.int) := by
        rcases hS with (h1 | ⟨o, h1⟩) | h1
        · exact .inl (.inl (sb3 _ _ (ne_of_none h1 nbl) (toHb _ _ h1)))
        · exact .inl (.inr ⟨o, sb3 _ _ (ne_of_none h1 nbl) (toHb _ _ h1)⟩)
        · exact .inr h1
      obtain ⟨n, r, ekids⟩ : ∃ n r, x.kids = n :: r := by
        cases e : x.kids with
        | nil => exact absurd e gx.2.1
        | cons n r => exact ⟨n, r, rfl⟩
      have n01 : 1 ≤ n ∧ n ≤ 8 := by
        have z := gx.2.2
        rw [ekids] at z
        have z' : (decide (x.up + 1 ≤ n) && decide (n ≤ many - 1) && rising many (r.map PyData.int) n) = true := z
        simp only [Bool.and_eq_true, decide_eq_true_eq] at z'
        have := gx.1
        omega
      have kl : 1 ≤ x.kids.length := by
        rw [ekids, List.length_cons]
        omega
      have kl8 : x.kids.length ≤ 1000 := by
        have e := GK.perm.length_eq
        obtain ⟨pre, post, epp⟩ := List.append_of_mem hxg
        rw [List.length_map, List.length_range', epp, List.flatMap_append, List.flatMap_cons, List.length_append, List.length_append] at e
        omega
      have lmk : (x.kids.map V.int).length = x.kids.length := List.length_map _
      have hat0 : atI (x.kids.map V.int) 0 = some (.int n) := by
        rw [ekids]
        exact at0
      refine ⟨x.t, _, rfl, sqT xt3, rfl, _, _, rfl, _, _, rfl, rfl, ?_⟩
      refine ⟨_, rfl, _, rfl, x.l, _, _, _, rfl, rfl, SqL.of xl3, hat0, _, _, rfl, rfl, sp, ns, _, rfl, sp3, hl, by omega, by omega, fun c c0 c1 => ?_⟩
      refine ⟨_, rfl, _, rfl, x.l, _, rfl, .inl (SqL.of xl3), _, _, rfl, rfl, (by rw [lmk]; omega), _, _, rfl, rfl, ?_⟩
      have q0 : 0 ≤ c % ((x.kids.map V.int).length : Nat) := Int.emod_nonneg _ (by omega)
      have q1 : c % ((x.kids.map V.int).length : Nat) < ((x.kids.map V.int).length : Nat) := Int.emod_lt_of_pos _ (by omega)
      refine ⟨_, rfl, _, _, rfl, rfl, ⟨by decide, by decide⟩, _, _, rfl, rfl, (by show (0 : Int) < 3; decide), rfl, _, rfl, ?_⟩
      refine ite2 (fun z => ?_) (fun z => ?_)
      · refine ⟨_, rfl, x.l, _, rfl, .inl (SqL.of xl3), ?_⟩
        refine ⟨_, rfl, .inl ⟨rfl, _, SqL.of hb3⟩, _, rfl, _, rfl, _, _, rfl, rfl, ⟨by decide, by decide⟩, _, rfl, _, _, rfl, rfl, _, _, rfl, rfl, (by show (0 : Int) < (((x.kids.map V.int).length : Nat) : Int) + 1; omega), _, rfl, _, rfl, x.l, _, rfl, .inl ⟨SqL.of xl3, fun tk htk => ?_⟩⟩
        have l0 : 0 ≤ c / 27 % ((((x.kids.map V.int).length : Nat) : Int) + 1) := Int.emod_nonneg _ (by omega)
        have l1 : c / 27 % ((((x.kids.map V.int).length : Nat) : Int) + 1) < (((x.kids.map V.int).length : Nat) : Int) + 1 := Int.emod_lt_of_pos _ (by omega)
        refine ⟨small (by show 4 ≤ 1000; decide), fun tb htb => ?_⟩
        have sm4 := (same_new htk (.tup (x.kids.map V.int))).trans (same_new htb (.tup [.int x.up, .int (c / 27 % ((((x.kids.map V.int).length : Nat) : Int) + 1)), .int ((((x.kids.map V.int).length : Nat) : Int)), .ref tk]))
        refine ⟨bl, _, _, rfl, rfl, sm4 _ _ hb3, small1000 (by have := dn3.length; omega), ?_⟩
        have keep : ∀ b' zs, upd (upd H3 tk (.tup (x.kids.map V.int))) tb (.tup [.int x.up, .int (c / 27 % ((((x.kids.map V.int).length : Nat) : Int) + 1)), .int ((((x.kids.map V.int).length : Nat) : Int)), .ref tk]) b' = some (.tup zs) → upd (upd (upd H3 tk (.tup (x.kids.map V.int))) tb (.tup [.int x.up, .int (c / 27 % ((((x.kids.map V.int).length : Nat) : Int) + 1)), .int ((((x.kids.map V.int).length : Nat) : Int)), .ref tk])) bl (.lst (xs ++ [.ref tb])) b' = some (.tup zs) := keep_lst (sm4 _ _ hb3)
        refine ⟨_, _, _, _, _, bs ++ [bghD x.up (c / 27 % ((((x.kids.map V.int).length : Nat) : Int) + 1)) ((((x.kids.map V.int).length : Nat) : Int)) x.kids], xs ++ [.ref tb], rfl, (sb3.trans (Same.x sm4)).trans (sameX_pen _), upd_same, ?_, ?_, fun b' hb' => ?_, ?_, ?_⟩
        · exact (DnL.keepT (Dn.keepT keep 3) _ _ fl3 (DnL.same sm4 _ _ dn3)).append ⟨_, [], rfl, ⟨tb, _, rfl, keep _ _ upd_same, _, _, rfl, rfl, _, _, rfl, rfl, _, _, rfl, rfl, _, _, rfl, ⟨tk, _, rfl, keep _ _ ((same_new htb _) _ _ upd_same), ints_dnl x.kids⟩, rfl⟩, rfl⟩
        · rw [List.length_append, List.length_singleton, bl3]
        · rcases List.mem_append.mp hb' with z | z
          · exact ok3 b' z
          · rw [List.mem_singleton.mp z]
            exact bgh_ok gx.1 gx.2.1 gx.2.2 l0 (by omega) (by omega) (by omega)
        · rw [List.flatMap_append, ki3, flatMap_take hx]
          simp [bgh_kids]
        · rw [List.all_append, fl3]
          simp [bgh_flat _ _ _ _ kl8]
      · refine ⟨_, rfl, .inl ⟨rfl, _, SqL.of hb3⟩, _, rfl, _, rfl, _, _, rfl, rfl, ⟨by decide, by decide⟩, _, rfl, _, _, rfl, rfl, _, _, rfl, rfl, (by show (0 : Int) < (1 + c % ((x.kids.map V.int).length : Nat)) + 1; omega), _, rfl, _, rfl, x.l, _, rfl, .inl ⟨SqL.of xl3, fun tk htk => ?_⟩⟩
        have l0 : 0 ≤ c / 27 % ((1 + c % ((x.kids.map V.int).length : Nat)) + 1) := Int.emod_nonneg _ (by omega)
        have l1 : c / 27 % ((1 + c % ((x.kids.map V.int).length : Nat)) + 1) < (1 + c % ((x.kids.map V.int).length : Nat)) + 1 := Int.emod_lt_of_pos _ (by omega)
        refine ⟨small (by show 4 ≤ 1000; decide), fun tb htb => ?_⟩
        have sm4 := (same_new htk (.tup (x.kids.map V.int))).trans (same_new htb (.tup [.int x.up, .int (c / 27 % ((1 + c % ((x.kids.map V.int).length : Nat)) + 1)), .int ((1 + c % ((x.kids.map V.int).length : Nat))), .ref tk]))
        refine ⟨bl, _, _, rfl, rfl, sm4 _ _ hb3, small1000 (by have := dn3.length; omega), ?_⟩
        have keep : ∀ b' zs, upd (upd H3 tk (.tup (x.kids.map V.int))) tb (.tup [.int x.up, .int (c / 27 % ((1 + c % ((x.kids.map V.int).length : Nat)) + 1)), .int ((1 + c % ((x.kids.map V.int).length : Nat))), .ref tk]) b' = some (.tup zs) → upd (upd (upd H3 tk (.tup (x.kids.map V.int))) tb (.tup [.int x.up, .int (c / 27 % ((1 + c % ((x.kids.map V.int).length : Nat)) + 1)), .int ((1 + c % ((x.kids.map V.int).length : Nat))), .ref tk])) bl (.lst (xs ++ [.ref tb])) b' = some (.tup zs) := keep_lst (sm4 _ _ hb3)
        refine ⟨_, _, _, _, _, bs ++ [bghD x.up (c / 27 % ((1 + c % ((x.kids.map V.int).length : Nat)) + 1)) ((1 + c % ((x.kids.map V.int).length : Nat))) x.kids], xs ++ [.ref tb], rfl, (sb3.trans (Same.x sm4)).trans (sameX_pen _), upd_same, ?_, ?_, fun b' hb' => ?_, ?_, ?_⟩
        · exact (DnL.keepT (Dn.keepT keep 3) _ _ fl3 (DnL.same sm4 _ _ dn3)).append ⟨_, [], rfl, ⟨tb, _, rfl, keep _ _ upd_same, _, _, rfl, rfl, _, _, rfl, rfl, _, _, rfl, rfl, _, _, rfl, ⟨tk, _, rfl, keep _ _ ((same_new htb _) _ _ upd_same), ints_dnl x.kids⟩, rfl⟩, rfl⟩
        · rw [List.length_append, List.length_singleton, bl3]
        · rcases List.mem_append.mp hb' with z | z
          · exact ok3 b' z
          · rw [List.mem_singleton.mp z]
            exact bgh_ok gx.1 gx.2.1 gx.2.2 l0 (by omega) (by omega) (by omega)
        · rw [List.flatMap_append, ki3, flatMap_take hx]
          simp [bgh_kids]
        · rw [List.all_append, fl3]
          simp [bgh_flat _ _ _ _ kl8]
    · rintro σ H3 ⟨w3, w4, w5, w9, w10, bs, xs, rfl, sb3, hb3, dn3, bl3, ok3, ki3, fl3⟩
      rw [List.length_map] at bl3 ki3
      rw [List.take_length] at ki3
      refine ⟨_, rfl, q bl bs xs H3 (SameX.freshB toHb nbl ebl sb3) hb3 nbl dn3 ⟨ok3, ?_⟩ ?_ fl3⟩
      · rw [ki3]
        refine List.Perm.trans ?_ GK.perm
        refine List.Perm.flatMap_right _ ?_
        have e : gs = gs.take tn ++ gs.drop tn := (List.take_append_drop tn gs).symm
        exact List.Perm.trans List.perm_append_comm (by rw [← e])
      · rw [bl3, List.length_append, List.length_drop, List.length_take]
        omega

end
section
variable {P : Program} {w : World} {K : PySem.W.Frag} {mg : Str → Option Value} {base : Heap} {a : Adr} {d : Fds}
theorem ok_law_tie (T : Txt K mg a d) : FnOk P w K mg base CX0 1 a.f_law_tie d.f_law_tie ["_law_cell", "_law_many_here"] spTieMade := by
  refine T.K_law_tie.ok sc_law_tie (fun vs H Q E h => ?_) (fun cdv A outer s H vs Q E hr h => ?_)
  · obtain ⟨c, many, rfl, _⟩ := h
    rfl
  obtain ⟨c, many, rfl, c0, c1, m1, m9, q⟩ := h
  obtain ⟨m, rfl⟩ : ∃ m : Nat, many = (m : Int) := ⟨many.toNat, by omega⟩
  have m9' : m ≤ 9 := by omega
  have p62 : (2 : Int) ^ 62 = 4611686018427387904 := by decide
  -- the end: a most tie of these pairs
  have rest9 : ∃ t, PSs (cxOf CX0 P w K mg base ["_law_cell", "_law_many_here", "_law_one", "_law_other", "_law_some", "_law_pairs", "_law_k", "_law_number", "_law_top"] "_law_tie" (defScope s_law_tie) a.f_law_tie cdv A outer s H E).nox ((defBody s_law_tie).drop 9) t ∧ ∀ (v2 v3 v4 v6 v7 : Option V) (top : Int) (pl : Addr) (ps : List PyData) (xs : List V) (H2 : Hp), Same H H2 → H2 pl = some (.lst xs) → PairsTo H2 m ps xs → 0 < ps.length →
      t { nx := fun _ H' => Q .non H', rt := Q } [some (.int c), some (.int m), v2, v3, v4, some (.ref pl), v6, v7, some (.int top)] H2 := by
    refine ⟨_, (pss_one (ps_ret (pe_tup (pa_cons pe_str (pa_cons (pv 8) (pa_cons (pe_callTy call_tuple_of rfl T.m_tuple PyProof.Rows.boot_tuple (pa_cons (pv 5) pa_nil)) pa_nil)))))), ?_⟩
    intro v2 v3 v4 v6 v7 top pl ps xs H2 sm hpl pt p0
    refine ⟨_, rfl, _, rfl, pl, xs, rfl, .inl ⟨SqL.of hpl, fun tp htp => ?_⟩⟩
    refine ⟨small (by show 3 ≤ 1000; decide), fun tt htt => ?_⟩
    have sm2 := (same_new htp (.tup xs)).trans (same_new htt (.tup [.str ("most" : Str), .int top, .ref tp]))
    refine q (.tuple [.str ("most" : Str), .int top, .tuple ps]) _ _ (sm.trans sm2) ⟨tt, _, rfl, upd_same, _, _, rfl, rfl, _, _, rfl, rfl, _, _, rfl, ⟨tp, xs, rfl, (same_new htt _) _ _ upd_same, DnL.same sm2 _ _ pt.dn⟩, rfl⟩ ?_ ?_ ?_
    · show tieK m ("most" : Str) (.int top) (.tuple ps) = true
      unfold tieK
      rw [if_pos rfl]
      show (true && (decide (0 < ps.length) && ps.all pairOk && rising m (ps.map fstD) (-1))) = true
      rw [decide_eq_true p0, pt.ok, pt.ris]
      rfl
    · show ps.length ≤ 1000
      have := pt.few
      omega
    · have few := pt.few
      have f2 : flatD 2 (.tuple ps) = true := by
        show (decide (ps.length ≤ 1000) && ps.all (flatD 1)) = true
        rw [decide_eq_true (by omega), pt.flat]
        rfl
      show (true && (flatD 2 (.str ("most" : Str)) && (flatD 2 (.int top) && (flatD 2 (.tuple ps) && true)))) = true
      rw [show flatD 2 (.str ("most" : Str)) = true from strOk_most, f2]
      rfl
  obtain ⟨t9, h9, r9⟩ := rest9
  -- from the options of the tie on
  have rest5 : ∃ t, PSs (cxOf CX0 P w K mg base ["_law_cell", "_law_many_here", "_law_one", "_law_other", "_law_some", "_law_pairs", "_law_k", "_law_number", "_law_top"] "_law_tie" (defScope s_law_tie) a.f_law_tie cdv A outer s H E).nox ((defBody s_law_tie).drop 5) t ∧ ∀ (v2 v3 v6 v7 v8 : Option V) (S : Int) (H2 : Hp), Same H H2 → 0 < S → S < 2 ^ m →
      t { nx := fun _ H' => Q .non H', rt := Q } [some (.int c), some (.int m), v2, v3, some (.int S), none, v6, v7, v8] H2 := by
    refine ⟨_, (pss_cons (ps_set (i := 5) sc_law_tie.nd rfl (Or.inl rfl) (pe_lst pa_nil))
      (pss_cons (ps_for PassesOwn.never rfl (pi_range1 rfl T.m_range (pa_cons (pv 1) pa_nil)) (pg_name (i := 6) sc_law_tie.nd rfl (Or.inl rfl)) (pss_one (ps_if (pt_cmpR op_eq (pe_op op_and (pe_op op_shr (pv 4) (pv 6)) pe_int) pe_int (nomark _)) (pss_cons (ps_set (i := 7) sc_law_tie.nd rfl (Or.inl rfl) (pe_op op_sub (pe_op op_mod (pe_op op_mod (pe_op op_mul (pv 0) (pe_op op_add (pv 6) pe_int)) pe_int) pe_int) pe_int))
      (pss_one (ps_expr (pe_bmK (K := K) PySem.F.plainAttrs_list PySem.F.slot_list_append PySem.F.type_list_append mt_append (pv 5) (pa_cons (pe_tup (pa_cons (pv 6) (pa_cons (pe_ix (ixL (K := K)) (pe_lst (pa_cons (pv 7) (pa_cons (pe_op op_add (pe_op op_mul (pv 7) (pe_op op_pow pe_int pe_int)) (pv 6)) pa_nil))) (pe_callTy call_int1 rfl T.m_int PyProof.Rows.boot_int (pa_cons (pe_cmpR op_eq (pe_op op_mod (pe_op op_fdiv (pv 0) pe_int) pe_int) pe_int (nomark _)) pa_nil)) (fun _ _ => rfl)) pa_nil))) pa_nil))))) pss_nil)))
      (pss_cons (ps_set (i := 8) sc_law_tie.nd rfl (Or.inl rfl) (pe_op op_sub (pe_op op_mod (pe_op op_fdiv (pv 0) pe_int) pe_int) pe_int))
      (pss_cons (ps_if (pt_cmpR op_eq (pe_op op_mod (pe_op op_fdiv (pv 0) pe_int) pe_int) pe_int (nomark _)) (pss_one (ps_set (i := 8) sc_law_tie.nd rfl (Or.inl rfl) (pe_op op_mul (pv 8) (pe_op op_pow pe_int pe_int)))) pss_nil)
      h9)))), ?_⟩
    intro v2 v3 v6 v7 v8 S H2 sm s0 s1
    refine ⟨small (by decide), fun pl hpl => ?_⟩
    refine ⟨_, rfl, _, rfl, by rw [p62]; omega, by rw [p62]; omega, ?_⟩
    refine for_range (n := m) (fun i σ H3 => ∃ (w6 w7 : Option V) (ps : List PyData) (xs : List V), σ = [some (.int c), some (.int m), v2, v3, some (.int S), some (.ref pl), w6, w7, v8] ∧ Same H H3 ∧ H3 pl = some (.lst xs) ∧ PairsTo H3 i ps xs ∧ i ≤ m ∧ ((∃ k, k < i ∧ S / 2 ^ k % 2 = 1) → 0 < ps.length))
      ⟨v6, v7, [], [], rfl, sm.trans (same_new hpl _), upd_same, ⟨rfl, rfl, rfl, rfl, Nat.le_refl _⟩, Nat.zero_le _, fun ⟨k, hk, _⟩ => absurd hk (Nat.not_lt_zero k)⟩ ?_ ?_
    · rintro i σ H3 hi ⟨w6, w7, ps, xs, rfl, sm3, hp3, pt, hile, hne⟩
      have ek : ((0 : Int) + (i : Int)).toNat = i := by omega
      refine ⟨_, rfl, _, rfl, _, _, rfl, rfl, (by show (0 : Int) ≤ 0 + (i : Int); omega), _, _, rfl, rfl, rfl, _, rfl, ?_⟩
      have ebit : decide (V.int (Builtin.bitAnd (S / 2 ^ ((0 : Int) + (i : Int)).toNat) 1) = V.int 1) = decide (S / 2 ^ i % 2 = 1) := by
        rw [ek, bit_eq, dec_int]
        by_cases z : S / 2 ^ i % 2 = 1
        · rw [decide_eq_true z]
          simpa using z
        · rw [decide_eq_false z]
          simpa using z
      show if decide (V.int (Builtin.bitAnd (S / 2 ^ ((0 : Int) + (i : Int)).toNat) 1) = V.int 1) = true then _ else _
      rw [ebit]
      refine ite2 (fun b => ?_) (fun b => ?_)
      · have n0 : 0 ≤ c * (0 + (i : Int) + 3) % 1009 % 9 := Int.emod_nonneg _ (by decide)
        have n1 : c * (0 + (i : Int) + 3) % 1009 % 9 < 9 := Int.emod_lt_of_pos _ (by decide)
        refine ⟨_, rfl, _, rfl, _, _, rfl, rfl, _, _, rfl, rfl, (by unfold CMul; omega), _, _, rfl, rfl, (by show (0 : Int) < 1009; decide), _, _, rfl, rfl, (by show (0 : Int) < 9; decide), _, _, rfl, rfl, ?_⟩
        refine ⟨_, rfl, .inl ⟨rfl, _, SqL.of hp3⟩, ?_⟩
        refine ⟨_, rfl, _, rfl, _, rfl, _, _, rfl, rfl, ⟨by decide, by decide, by decide⟩, _, _, rfl, rfl, .inl ⟨by omega, by omega⟩, _, rfl, _, _, rfl, rfl, small (by show 2 ≤ 1000; decide), fun lp hlp => ?_⟩
        refine ⟨_, rfl, _, _, rfl, rfl, ⟨by decide, by decide⟩, _, _, rfl, rfl, (by show (0 : Int) < 6; decide), rfl, .inr ⟨_, rfl, ?_⟩⟩
        have item : ∀ (x y : Int) (b : Bool), ∃ z : Int, atI ([.int x, .int y] : List V) (if b = true then 1 else 0) = some (.int z) := fun x y b => by
          cases b
          · exact ⟨x, rfl⟩
          · exact ⟨y, rfl⟩
        obtain ⟨z, hz⟩ := item (c * (0 + (i : Int) + 3) % 1009 % 9 - 4) ((c * (0 + (i : Int) + 3) % 1009 % 9 - 4) * 10 ^ (50 : Int).toNat + (0 + (i : Int))) (decide (V.int (c / 7 % 6) = V.int 1))
        refine ⟨lp, _, _, _, rfl, rfl, SqL.of upd_same, hz, small (by show 2 ≤ 1000; decide), fun tp htp => ?_⟩
        have sm4 := (same_new hlp (.lst [.int (c * (0 + (i : Int) + 3) % 1009 % 9 - 4), .int ((c * (0 + (i : Int) + 3) % 1009 % 9 - 4) * 10 ^ (50 : Int).toNat + (0 + (i : Int)))])).trans (same_new htp (.tup [.int (0 + (i : Int)), .int z]))
        have hp4 := sm4 _ _ hp3
        have few := pt.few
        have lx := pt.dn.length
        refine ⟨pl, _, _, rfl, rfl, hp4, small1000 (by omega), ?_⟩
        have hHpl : H pl = none := sm.free hpl
        have e0 : (0 : Int) + (i : Int) = i := by omega
        have pd4 := DnL.same sm4 _ _ pt.dn
        refine ⟨_, _, ps ++ [.tuple [.int (0 + (i : Int)), .int z]], xs ++ [.ref tp], rfl, Same.put (sm3.trans sm4) hHpl hp4, upd_same, ⟨?_, ?_, ?_, ?_, ?_⟩, hi, fun _ => ?_⟩
        · refine DnL.append (DnL.keepT (Dn.keepT (keep_lst hp4) 1) _ _ pt.flat pd4) ⟨_, [], rfl, ⟨tp, _, rfl, keep_lst hp4 _ _ upd_same, _, _, rfl, rfl, _, _, rfl, rfl, rfl⟩, rfl⟩
        · rw [List.all_append, pt.ok]
          rfl
        · rw [List.all_append, pt.flat]
          rfl
        · rw [List.map_append]
          show rising ((i + 1 : Nat) : Int) (ps.map fstD ++ [.int (0 + (i : Int))]) (-1) = true
          rw [e0]
          exact rising_snoc (by omega) pt.ris (by omega)
        · rw [List.length_append, List.length_singleton]
          omega
        · rw [List.length_append, List.length_singleton]
          omega
      · refine ⟨_, _, ps, xs, rfl, sm3, hp3, ⟨pt.dn, pt.ok, pt.flat, rising_mono (by omega) pt.ris, by have := pt.few; omega⟩, hi, fun ⟨k, hk, hb⟩ => ?_⟩
        by_cases ek2 : k = i
        · subst ek2
          exact absurd (decide_eq_true hb) b
        · exact hne ⟨k, by omega, hb⟩
    · rintro σ H3 ⟨w6, w7, ps, xs, rfl, sm3, hp3, pt, hile, hne⟩
      have s1' : S.toNat < 2 ^ m := by
        have e1 : (2 : Int) ^ m = ((2 ^ m : Nat) : Int) := by rw [Int.natCast_pow]; rfl
        rw [e1] at s1
        omega
      have p0 : 0 < ps.length := by
        obtain ⟨k, hk, hb⟩ := some_bit ⟨m, by omega⟩ ⟨S.toNat, Nat.lt_of_lt_of_le s1' (pow_le m9')⟩ (by show 0 < S.toNat; omega) s1'
        refine hne ⟨k.val, hk, ?_⟩
        have e2 : S = ((S.toNat : Nat) : Int) := by omega
        rw [e2]
        have e3 : (2 : Int) ^ k.val = ((2 ^ k.val : Nat) : Int) := by rw [Int.natCast_pow]; rfl
        rw [e3]
        have hb' : S.toNat / 2 ^ k.val % 2 = 1 := hb
        omega
      refine ⟨_, rfl, _, _, rfl, rfl, ⟨by decide, by decide⟩, _, _, rfl, rfl, (by show (0 : Int) < 9; decide), _, _, rfl, rfl, ?_⟩
      refine ⟨_, rfl, _, _, rfl, rfl, ⟨by decide, by decide⟩, _, _, rfl, rfl, (by show (0 : Int) < 6; decide), rfl, _, rfl, ?_⟩
      have t0 : 0 ≤ c / 11 % 9 := Int.emod_nonneg _ (by decide)
      have t1 : c / 11 % 9 < 9 := Int.emod_lt_of_pos _ (by decide)
      refine ite2 (fun b => ?_) (fun b => ?_)
      · refine ⟨_, rfl, _, _, rfl, rfl, ⟨by decide, by decide, by decide⟩, _, _, rfl, rfl, .inl ⟨by omega, by omega⟩, ?_⟩
        exact r9 _ _ _ _ _ _ pl ps xs H3 sm3 hp3 pt p0
      · exact r9 _ _ _ _ _ _ pl ps xs H3 sm3 hp3 pt p0
  obtain ⟨t5, h5, r5⟩ := rest5
  have rest3 : ∃ t, PSs (cxOf CX0 P w K mg base ["_law_cell", "_law_many_here", "_law_one", "_law_other", "_law_some", "_law_pairs", "_law_k", "_law_number", "_law_top"] "_law_tie" (defScope s_law_tie) a.f_law_tie cdv A outer s H E).nox ((defBody s_law_tie).drop 3) t ∧ ∀ (v3 v6 v7 v8 : Option V) (one : Int), 0 ≤ one → one < m →
      t { nx := fun _ H' => Q .non H', rt := Q } [some (.int c), some (.int m), some (.int one), v3, none, none, v6, v7, v8] H := by
    refine ⟨_, (pss_cons (ps_set (i := 4) sc_law_tie.nd rfl (Or.inl rfl) (pe_op op_mod (pe_op op_fdiv (pv 0) pe_int) (pe_op op_shl pe_int (pv 1))))
      (pss_cons (ps_if (pt_cmpR op_eq (pv 4) pe_int (nomark _)) (pss_one (ps_set (i := 4) sc_law_tie.nd rfl (Or.inl rfl) (pe_op op_shl pe_int (pv 2)))) pss_nil)
      h5)), ?_⟩
    intro v3 v6 v7 v8 one o0 o1
    have e1 : (2 : Int) ^ ((m : Int)).toNat = 2 ^ m := by rw [Int.toNat_natCast]
    have pm : (0 : Int) < 2 ^ m := Int.pow_pos (by decide)
    refine ⟨_, rfl, _, _, rfl, rfl, ⟨by decide, by decide⟩, _, rfl, _, _, rfl, rfl, ⟨by omega, by omega, by decide⟩, _, _, rfl, rfl, (by show (0 : Int) < 1 * 2 ^ ((m : Int)).toNat; rw [e1]; omega), ?_⟩
    have s0 : 0 ≤ c / 405 % (1 * 2 ^ ((m : Int)).toNat) := Int.emod_nonneg _ (by rw [e1]; omega)
    have s1 : c / 405 % (1 * 2 ^ ((m : Int)).toNat) < 1 * 2 ^ ((m : Int)).toNat := Int.emod_lt_of_pos _ (by rw [e1]; omega)
    refine ⟨_, rfl, rfl, _, rfl, ?_⟩
    refine ite2 (fun b => ?_) (fun b => ?_)
    · refine ⟨_, rfl, _, _, rfl, rfl, ⟨o0, by omega, by decide⟩, ?_⟩
      refine r5 _ _ _ _ _ (1 * 2 ^ one.toNat) H (Same.refl H) ?_ ?_
      · rw [Int.one_mul]
        exact Int.pow_pos (by decide)
      · rw [Int.one_mul]
        have e2 : (2 : Int) ^ one.toNat = ((2 ^ one.toNat : Nat) : Int) := by rw [Int.natCast_pow]; rfl
        have e3 : (2 : Int) ^ m = ((2 ^ m : Nat) : Int) := by rw [Int.natCast_pow]; rfl
        rw [e2, e3]
        have := Nat.pow_lt_pow_right (a := 2) (by decide) (show one.toNat < m by omega)
        omega
    · refine r5 _ _ _ _ _ (c / 405 % (1 * 2 ^ ((m : Int)).toNat)) H (Same.refl H) ?_ ?_
      · have nz : ¬ c / 405 % (1 * 2 ^ ((m : Int)).toNat) = 0 := fun z => b (decide_eq_true (by
          show V.int (c / 405 % (1 * 2 ^ ((m : Int)).toNat)) = V.int 0
          rw [z]))
        omega
      · rw [e1, Int.one_mul] at s1 ⊢
        exact s1
  obtain ⟨t3, h3, r3⟩ := rest3
  refine ⟨_, (pss_cons (ps_set (i := 2) sc_law_tie.nd rfl (Or.inl rfl) (pe_op op_mod (pe_op op_fdiv (pv 0) pe_int) (pv 1)))
      (pss_cons (ps_set (i := 3) sc_law_tie.nd rfl (Or.inl rfl) (pe_op op_mod (pe_op op_add (pe_op op_add (pv 2) pe_int) (pe_op op_mod (pe_op op_fdiv (pv 0) pe_int) (pe_callB (call_max2 rfl) rfl T.m_max PyProof.Rows.boot_max (pa_cons pe_int (pa_cons (pe_op op_sub (pv 1) pe_int) pa_nil))))) (pv 1)))
      (pss_cons (ps_if (PW.pt (pw_and (pt_cmpR op_gt (pv 1) pe_int (nomark _)) (pw_and1 (pt_cmpR op_lt (pe_op op_mod (pv 0) pe_int) pe_int (nomark _))))) (pss_one (ps_ret (pe_tup (pa_cons (pe_ix (ixL (K := K)) (pe_lst (pa_cons pe_str (pa_cons pe_str (pa_cons pe_str pa_nil)))) (pe_op op_mod (pv 0) pe_int) (fun _ _ => rfl)) (pa_cons (pv 2) (pa_cons (pv 3) pa_nil)))))) pss_nil)
      h3))), ?_⟩
  have o0 : 0 ≤ c / 5 % (m : Int) := Int.emod_nonneg _ (by omega)
  have o1 : c / 5 % (m : Int) < m := Int.emod_lt_of_pos _ (by omega)
  refine ⟨_, rfl, _, _, rfl, rfl, ⟨by decide, by decide⟩, _, rfl, _, _, rfl, rfl, (by show (0 : Int) < m; omega), ?_⟩
  refine ⟨_, rfl, _, _, rfl, rfl, _, rfl, _, _, rfl, rfl, ⟨by decide, by decide⟩, _, rfl, _, _, rfl, rfl, _, _, rfl, ?_⟩
  have mx : (0 : Int) < (if (m : Int) - 1 > 1 then (m : Int) - 1 else 1) := by split <;> omega
  refine ⟨_, _, rfl, rfl, mx, _, _, rfl, rfl, _, rfl, _, _, rfl, rfl, (by show (0 : Int) < m; omega), ?_⟩
  have x0 : 0 ≤ c / 45 % (if (m : Int) - 1 > 1 then (m : Int) - 1 else 1) := Int.emod_nonneg _ (by omega)
  have x1 : c / 45 % (if (m : Int) - 1 > 1 then (m : Int) - 1 else 1) < (if (m : Int) - 1 > 1 then (m : Int) - 1 else 1) := Int.emod_lt_of_pos _ mx
  refine ⟨_, rfl, _, _, rfl, rfl, _, rfl, ?_⟩
  refine ite2 (fun m2 => ?_) (fun m2 => ?_)
  · refine ⟨_, rfl, _, _, rfl, rfl, (by show (0 : Int) < 5; decide), _, _, rfl, rfl, _, rfl, ?_⟩
    refine ite2 (fun c5 => ?_) (fun c5 => ?_)
    · have m2' : (1 : Int) < m := of_decide_eq_true m2
      have c5' : c % 5 < 3 := of_decide_eq_true c5
      have c50 : 0 ≤ c % 5 := Int.emod_nonneg _ (by decide)
      obtain ⟨n0, n1, n2⟩ := mod_near (many := m) m2' m9 o0 o1 x0 (Int.lt_of_lt_of_le x1 (by split <;> omega))
      have item : ∃ sN : Str, (sN = ("needs" : Str) ∨ sN = ("bans" : Str)) ∧ ¬ sN = ("most" : Str) ∧ PyData.strOk sN = true ∧ atI ([.str ("needs" : Str), .str ("bans" : Str), .str ("needs" : Str)] : List V) (c % 5) = some (.str sN) := by
        have e : c % 5 = 0 ∨ c % 5 = 1 ∨ c % 5 = 2 := by omega
        rcases e with e | e | e <;> rw [e]
        · exact ⟨_, .inl rfl, by decide +kernel, strOk_needs, rfl⟩
        · exact ⟨_, .inr rfl, by decide +kernel, strOk_bans, rfl⟩
        · exact ⟨_, .inl rfl, by decide +kernel, strOk_needs, rfl⟩
      obtain ⟨sN, sk, snm, sok, hat⟩ := item
      refine ⟨small (by show 3 ≤ 1000; decide), fun lp hlp => ?_⟩
      refine ⟨_, rfl, _, _, rfl, rfl, (by show (0 : Int) < 5; decide), lp, _, _, _, rfl, rfl, SqL.of upd_same, hat, _, rfl, _, rfl, small (by show 3 ≤ 1000; decide), fun tp htp => ?_⟩
      refine q (.tuple [.str sN, .int (c / 5 % (m : Int)), .int ((c / 5 % (m : Int) + 1 + c / 45 % (if (m : Int) - 1 > 1 then (m : Int) - 1 else 1)) % (m : Int))]) _ _ ((same_new hlp _).trans (same_new htp _)) ⟨tp, _, rfl, upd_same, _, _, rfl, rfl, _, _, rfl, rfl, _, _, rfl, rfl, rfl⟩ ?_ trivial ?_
      · show tieK m sN _ _ = true
        unfold tieK
        rw [if_neg snm, if_pos sk]
        show ((decide ((0 : Int) ≤ _) && decide (_ ≤ (m : Int) - 1)) && ((decide ((0 : Int) ≤ _) && decide (_ ≤ (m : Int) - 1)) && !decide (_ = _))) = true
        rw [decide_eq_true o0, decide_eq_true (by omega), decide_eq_true n0, decide_eq_true (by omega), decide_eq_false n2]
        rfl
      · show (true && (flatD 2 (.str sN) && (true && (true && true)))) = true
        rw [show flatD 2 (.str sN) = true from sok]
        rfl
    · exact r3 _ _ _ _ _ o0 o1
  · exact r3 _ _ _ _ _ o0 o1

end
section
variable {P : Program} {w : World} {K : PySem.W.Frag} {mg : Str → Option Value} {base : Heap} {a : Adr} {d : Fds}
theorem ok_law_cross (T : Txt K mg a d) : FnOk P w K mg base CX0 2 a.f_law_cross d.f_law_cross ["_law_script", "_law_many_here"] (spCross K) := by
  have G_law_cell_at := ok_law_cell_at (P := P) (w := w) (base := base) T
  have G_law_tie := ok_law_tie (P := P) (w := w) (base := base) T
  refine T.K_law_cross.ok sc_law_cross (fun vs H Q E h => ?_) (fun cdv A outer s H vs Q E hr h => ?_)
  · obtain ⟨p, ns, many, rfl, _⟩ := h
    rfl
  obtain ⟨p, ns, many, rfl, hS, hl, m1, m9, q⟩ := h
  have p62 : (2 : Int) ^ 62 = 4611686018427387904 := by decide
  refine ⟨_, (pss_cons (ps_set (i := 2) sc_law_cross.nd rfl (Or.inl rfl) (pe_ix (ixL (K := K)) (pe_lst (pa_cons pe_int (pa_cons pe_int (pa_cons pe_int (pa_cons pe_int (pa_cons pe_int (pa_cons pe_int (pa_cons pe_int (pa_cons pe_int pa_nil))))))))) (pe_op op_mod (pe_callD G_law_cell_at hr.lv rfl T.K_law_cell_at (pa_cons (pv 0) (pa_cons pe_int pa_nil))) pe_int) (fun _ _ => rfl)))
      (pss_one (ps_ret (pe_lc (sc0 := defScope s_law_cross) (XN := ["_law_script", "_law_many_here", "_law_count"]) (N' := ["_law_k", "_law_many_here", "_law_script"]) (n := 1) (kp := [1, 0]) rfl (pi_range1 rfl T.m_range (pa_cons (pv 2) pa_nil)) rfl rfl (by decide +kernel) (fun _ _ _ _ _ => (pg_name (i := 0) (by show List.Nodup (["_law_k", "_law_many_here", "_law_script"] : List Str); decide +kernel) rfl (Or.inl rfl))) (fun _ _ _ _ _ => pts_nil) (fun _ _ _ _ _ => (pe_callD G_law_tie hr.lv rfl T.K_law_tie (pa_cons (pe_callD G_law_cell_at hr.lv rfl T.K_law_cell_at (pa_cons (pv 2) (pa_cons (pe_op op_add pe_int (pv 0)) pa_nil))) (pa_cons (pv 1) pa_nil)))))))), ?_⟩
  refine ⟨small (by show 8 ≤ 1000; decide), fun lp hlp => ?_⟩
  have sm1 := same_new hlp (.lst [.int 0, .int 1, .int 2, .int 3, .int 4, .int 1, .int 2, .int 8])
  refine ⟨_, rfl, p, ns, 1, rfl, sm1.seq hS, hl, by decide, by decide, fun c c0 c1 => ?_⟩
  have z0 : 0 ≤ c % 8 := Int.emod_nonneg _ (by decide)
  have z1 : c % 8 < 8 := Int.emod_lt_of_pos _ (by decide)
  have item : ∃ n : Nat, n ≤ 8 ∧ atI ([.int 0, .int 1, .int 2, .int 3, .int 4, .int 1, .int 2, .int 8] : List V) (c % 8) = some (.int n) := by
    have e : c % 8 = 0 ∨ c % 8 = 1 ∨ c % 8 = 2 ∨ c % 8 = 3 ∨ c % 8 = 4 ∨ c % 8 = 5 ∨ c % 8 = 6 ∨ c % 8 = 7 := by omega
    rcases e with e | e | e | e | e | e | e | e <;> rw [e]
    · exact ⟨0, by decide, rfl⟩
    · exact ⟨1, by decide, rfl⟩
    · exact ⟨2, by decide, rfl⟩
    · exact ⟨3, by decide, rfl⟩
    · exact ⟨4, by decide, rfl⟩
    · exact ⟨1, by decide, rfl⟩
    · exact ⟨2, by decide, rfl⟩
    · exact ⟨8, by decide, rfl⟩
  obtain ⟨n, hn, hat⟩ := item
  refine ⟨_, _, rfl, rfl, (by show (0 : Int) < 8; decide), lp, _, _, _, rfl, rfl, SqL.of upd_same, hat, ?_⟩
  refine ⟨_, rfl, _, rfl, by rw [p62]; omega, by rw [p62]; omega, ?_⟩
  refine lc_range (k := n) (fun i ys σ H2 => (∃ v, σ = [v, some (.int many), some (.ref p)]) ∧ Same H H2 ∧ i ≤ n ∧ ∃ cs : List PyData, DnL H2 cs ys ∧ tiesOk many cs ∧ cs.length = i ∧ cs.all (flatD 3) = true) ⟨⟨none, rfl⟩, sm1, Nat.zero_le _, [], rfl, (fun _ z => nomatch z), rfl, rfl⟩ (fun i ys σ H2 hi pv => ?_) (fun i ys σ H2 hi pv => ?_) (fun ys σ H2 pv l hl2 => ?_)
  · obtain ⟨_, _, h1, cs, h2, _, h3, _⟩ := pv
    have := h2.length
    exact small (by omega)
  · obtain ⟨⟨v, rfl⟩, sm, h1, cs, h2, h3, h4, h5⟩ := pv
    refine ⟨_, rfl, _, rfl, _, _, rfl, rfl, p, ns, _, rfl, sm.seq hS, hl, by omega, by omega, fun c2 c20 c21 => ?_⟩
    refine ⟨_, rfl, c2, many, rfl, c20, c21, m1, m9, fun dd vv H3 sm3 hd hti hth hfl => ?_⟩
    refine ⟨⟨_, rfl⟩, sm.trans sm3, hi, cs ++ [dd], (DnL.same sm3 _ _ h2).append ⟨vv, [], rfl, hd, rfl⟩, fun x hx => ?_, ?_, ?_⟩
    · rcases List.mem_append.mp hx with z | z
      · exact h3 x z
      · rw [List.mem_singleton.mp z]
        exact ⟨hti, hth⟩
    · rw [List.length_append, List.length_singleton, h4]
    · rw [List.all_append, h5]
      simp [hfl]
  · obtain ⟨_, sm, _, cs, h2, h3, h4, h5⟩ := pv
    exact q l cs ys _ (sm.trans (same_new hl2 _)) upd_same (sm.free hl2) (DnL.same (same_new hl2 _) _ _ h2) h3 (by omega) h5

end
section
variable {P : Program} {w : World} {K : PySem.W.Frag} {mg : Str → Option Value} {base : Heap} {a : Adr} {d : Fds}
theorem ok_law_many (T : Txt K mg a d) : FnOk P w K mg base CX0 2 a.f_law_many d.f_law_many ["_law_script"] (spMany9 K) := by
  have G_law_cell_at := ok_law_cell_at (P := P) (w := w) (base := base) T
  refine T.K_law_many.ok sc_law_many (fun vs H Q E h => ?_) (fun cdv A outer s H vs Q E hr h => ?_)
  · obtain ⟨p, ns, rfl, _⟩ := h
    rfl
  obtain ⟨p, ns, rfl, hS, hl, q⟩ := h
  refine ⟨_, (pss_cons (ps_set (i := 1) sc_law_many.nd rfl (Or.inl rfl) (pe_callD G_law_cell_at hr.lv rfl T.K_law_cell_at (pa_cons (pv 0) (pa_cons pe_int pa_nil))))
      (pss_cons (ps_if (pt_cmpR op_eq (pe_op op_mod (pv 1) pe_int) pe_int (nomark _)) (pss_one (ps_ret (pe_op op_add pe_int (pe_op op_mod (pe_op op_fdiv (pv 1) pe_int) pe_int)))) pss_nil)
      (pss_one (ps_ret (pe_op op_add pe_int (pe_op op_mod (pe_op op_fdiv (pv 1) pe_int) pe_int)))))), ?_⟩
  refine ⟨_, rfl, p, ns, 0, rfl, hS, hl, by decide, by decide, fun c c0 c1 => ?_⟩
  refine ⟨_, rfl, _, _, rfl, rfl, (by show (0 : Int) < 8; decide), rfl, _, rfl, ?_⟩
  refine ite2 (fun z => ?_) (fun z => ?_)
  · refine ⟨_, rfl, _, _, rfl, rfl, ⟨by decide, by decide⟩, _, _, rfl, rfl, (by show (0 : Int) < 9; decide), _, _, rfl, rfl, ?_⟩
    exact q _ (by omega) (by omega)
  · refine ⟨_, rfl, _, _, rfl, rfl, ⟨by decide, by decide⟩, _, _, rfl, rfl, (by show (0 : Int) < 6; decide), _, _, rfl, rfl, ?_⟩
    exact q _ (by omega) (by omega)

end
section
variable {P : Program} {w : World} {K : PySem.W.Frag} {mg : Str → Option Value} {base : Heap} {a : Adr} {d : Fds}
theorem ok_law_odd_bough (T : Txt K mg a d) : FnOk P w K mg base CX0 1 a.f_law_odd_bough d.f_law_odd_bough ["_law_bough", "_law_many_here", "_law_cell"] spOddB := by
  refine T.K_law_odd_bough.ok sc_law_odd_bough (fun vs H Q E h => ?_) (fun cdv A outer s H vs Q E hr h => ?_)
  · obtain ⟨v, many, cell, b, rfl, _⟩ := h
    rfl
  obtain ⟨v, many, cell, b, rfl, hd, gb, m2, m9, c0, q⟩ := h
  obtain ⟨up, lo, hi, ns, rfl, u0, u1, ne, p, r, l0, l1, h1, h2⟩ := isb_form gb
  obtain ⟨n0, ns, rfl⟩ : ∃ n0 t, ns = n0 :: t := by
    cases ns with
    | nil => exact absurd rfl ne
    | cons x t => exact ⟨x, t, rfl⟩
  have hd0 := hd
  obtain ⟨pa, xs, rfl, hp, xu, r1, rfl, hu, xl, r2, rfl, hlo, xh, r3, rfl, hh, xk, r4, rfl, hk, hnil⟩ := dn_tup hd
  cases (show r4 = [] from hnil)
  cases dn_int hu
  cases dn_int hlo
  cases dn_int hh
  have kl : ((n0 :: ns).map PyData.int).length ≤ 8 := by
    have := pw_len p r
    rw [List.length_map]
    omega
  generalize hkd : (n0 :: ns).map PyData.int = kd at hk hd0 kl
  have env : EnvD [some (.ref pa), some (.int many), some (.int cell), some (.int up), some (.int lo), some (.int hi), some xk, none, none, none, none, none] H [some (.tuple [.int up, .int lo, .int hi, .tuple kd]), some (.int many), some (.int cell), some (.int up), some (.int lo), some (.int hi), some (.tuple kd), none, none, none, none, none] :=
    .cons (by rw [← hkd]; exact hd) (.cons rfl (.cons rfl (.cons rfl (.cons rfl (.cons rfl (.cons hk (EnvD.hole 5)))))))
  refine ⟨_, (pss_cons (ps_asg (pv 0) (pgT (K := K) (n := 4) rfl (pgs_cons (pg_name (i := 3) sc_law_odd_bough.nd rfl (Or.inl rfl)) (pgs_cons (pg_name (i := 4) sc_law_odd_bough.nd rfl (Or.inl rfl)) (pgs_cons (pg_name (i := 5) sc_law_odd_bough.nd rfl (Or.inl rfl)) (pgs_cons (pg_name (i := 6) sc_law_odd_bough.nd rfl (Or.inl rfl)) pgs_nil))))))
      (pss_cons (ps_set (i := 7) sc_law_odd_bough.nd rfl (Or.inl rfl) (pe_ix (ixL (K := K)) (pe_lst (pa_cons (pv 1) (pa_cons (pe_un un_neg pe_int) (pa_cons pe_bl (pa_cons pe_non (pa_cons pe_str (pa_cons (pe_op op_add (pv 1) (pe_op op_pow pe_int pe_int)) (pa_cons (pe_tup (pa_cons pe_int pa_nil)) (pa_cons (pe_lst (pa_cons pe_int pa_nil)) (pa_cons pe_dnewK pa_nil)))))))))) (pe_op op_mod (pv 2) pe_int) (fun _ _ => rfl)))
      (pss_cons (ps_set (i := 8) sc_law_odd_bough.nd rfl (Or.inl rfl) (pe_op op_fdiv (pv 2) pe_int))
      (pss_cons (ps_set (i := 9) sc_law_odd_bough.nd rfl (Or.inl rfl) (pe_ix (ixL (K := K)) (pe_lst (pa_cons (pe_un un_neg pe_int) (pa_cons (pe_op op_add (pv 5) pe_int) (pa_cons pe_non (pa_cons pe_bl (pa_cons pe_str (pa_cons (pe_lst (pa_cons pe_int pa_nil)) pa_nil))))))) (pe_op op_mod (pv 8) pe_int) (fun _ _ => rfl)))
      (pss_cons (ps_set (i := 10) sc_law_odd_bough.nd rfl (Or.inl rfl) (pe_ix (ixL (K := K)) (pe_lst (pa_cons pe_int (pa_cons (pe_op op_add (pe_callB (lenS (K := K)) rfl T.m_len PySem.boot_len (pa_cons (pv 6) pa_nil)) pe_int) (pa_cons pe_non (pa_cons pe_bl (pa_cons pe_str (pa_cons (pe_tup (pa_cons pe_int pa_nil)) pa_nil))))))) (pe_op op_mod (pv 8) pe_int) (fun _ _ => rfl)))
      (pss_cons (ps_set (i := 11) sc_law_odd_bough.nd rfl (Or.inl rfl) (pe_lst (pa_cons (pe_callTy call_list_of rfl T.m_list PyProof.Rows.boot_list (pa_cons (pv 0) pa_nil)) (pa_cons (pe_slice sl_A (pv 0) po_none (po_some pe_int)) (pa_cons (pe_op op_catA (pv 0) (pe_tup (pa_cons pe_int pa_nil))) (pa_cons (pe_tup (pa_cons (pv 7) (pa_cons (pv 4) (pa_cons (pv 5) (pa_cons (pv 6) pa_nil))))) (pa_cons (pe_tup (pa_cons (pv 3) (pa_cons (pv 9) (pa_cons (pv 5) (pa_cons (pv 6) pa_nil))))) pa_nil)))))))
      (pss_cons (ps_set (i := 11) sc_law_odd_bough.nd rfl (Or.inl rfl) (pe_op op_cat (pv 11) (pe_lst (pa_cons (pe_tup (pa_cons (pv 3) (pa_cons pe_int (pa_cons (pv 10) (pa_cons (pv 6) pa_nil))))) (pa_cons (pe_tup (pa_cons (pv 3) (pa_cons (pv 4) (pa_cons (pv 5) (pa_cons (pe_callTy call_list_of rfl T.m_list PyProof.Rows.boot_list (pa_cons (pv 6) pa_nil)) pa_nil))))) (pa_cons (pe_tup (pa_cons (pv 3) (pa_cons pe_int (pa_cons pe_int (pa_cons (pe_tup pa_nil) pa_nil))))) pa_nil))))))
      (pss_cons (ps_set (i := 11) sc_law_odd_bough.nd rfl (Or.inl rfl) (pe_op op_cat (pv 11) (pe_lst (pa_cons (pe_tup (pa_cons (pv 3) (pa_cons (pv 4) (pa_cons (pv 5) (pa_cons (pe_op op_catA (pe_slice sl_A (pv 6) po_none (po_some (pe_un un_neg pe_int))) (pe_tup (pa_cons (pv 7) pa_nil))) pa_nil))))) (pa_cons (pe_tup (pa_cons (pv 3) (pa_cons (pv 4) (pa_cons (pv 5) (pa_cons (pe_op op_catA (pv 6) (pe_slice sl_A (pv 6) (po_some (pe_un un_neg pe_int)) po_none)) pa_nil))))) pa_nil)))))
      (pss_cons (ps_set (i := 11) sc_law_odd_bough.nd rfl (Or.inl rfl) (pe_op op_cat (pv 11) (pe_lst (pa_cons (pe_tup (pa_cons (pv 3) (pa_cons (pv 4) (pa_cons (pv 5) (pa_cons (pe_op op_catA (pe_tup (pa_cons (pv 3) pa_nil)) (pv 6)) pa_nil))))) (pa_cons (pe_tup (pa_cons (pe_ix (ixT (K := K)) (pv 6) pe_int (fun _ _ => rfl)) (pa_cons (pv 4) (pa_cons (pv 5) (pa_cons (pv 6) pa_nil))))) (pa_cons (pe_tup (pa_cons (pv 3) (pa_cons (pv 4) (pa_cons (pv 5) (pa_cons pe_non pa_nil))))) (pa_cons pe_non (pa_cons pe_int pa_nil))))))))
      (pss_cons (ps_set (i := 11) sc_law_odd_bough.nd rfl (Or.inl rfl) (pe_op op_cat (pv 11) (pe_lst (pa_cons (pe_tup (pa_cons (pv 3) (pa_cons (pv 4) (pa_cons (pv 5) (pa_cons (pe_op op_catA (pe_revT (pv 6) (pe_un un_neg pe_int)) (pe_slice sl_A (pv 6) po_none (po_some pe_int))) pa_nil))))) (pa_cons (pe_tup (pa_cons (pv 3) (pa_cons (pv 4) (pa_cons (pv 5) (pa_cons (pe_op op_catA (pe_revT (pv 6) (pe_un un_neg pe_int)) (pe_slice sl_A (pv 6) po_none (po_some (pe_callTy call_int1 rfl T.m_int PyProof.Rows.boot_int (pa_cons (pe_cmpR op_eq (pe_callB (lenS (K := K)) rfl T.m_len PySem.boot_len (pa_cons (pv 6) pa_nil)) pe_int (nomark _)) pa_nil))))) pa_nil))))) pa_nil)))))
      (pss_one (ps_ret (pe_ix (ixL (K := K)) (pv 11) (pe_op op_mod (pe_op op_fdiv (pv 8) pe_int) pe_int) (fun _ _ => rfl)))))))))))))), ?_⟩
  refine ⟨_, rfl, pa, _, rfl, sqT hp, rfl, _, _, rfl, _, _, rfl, _, _, rfl, _, _, rfl, rfl, ?_⟩
  dsimp only
  refine gs_pick (ds := oddL many) (j := cell % 9) (by repeat' (first | exact gdl_nil | refine gdl_cons ?_ ?_ | refine gd_tup ?_ ?_ | refine gd_lst ?_ ?_ | exact gd_int | exact gd_str | exact gd_non | exact gd_bl | exact gd_dict | exact gd_var rfl | refine gd_neg ?_ | refine gd_op ?_ ?_ rfl | exact gd_pw ⟨by decide, by decide, by decide⟩ | refine gd_opC ?_ ?_ ?_ rfl | exact ⟨by decide, by decide⟩ | (show (0 : Int) < _; decide) | refine gd_cat ?_ ?_ ?_ | refine gd_catT ?_ ?_ ?_ | refine gd_slT ?_ ?_ ?_ | exact gdo_none | refine gdo_some ?_ | refine gd_revT ?_ ?_ | exact Nat.le_of_ble_eq_true rfl)) (by repeat' (first | exact gdl_nil | refine gdl_cons ?_ ?_ | refine gd_tup ?_ ?_ | refine gd_lst ?_ ?_ | exact gd_int | exact gd_str | exact gd_non | exact gd_bl | exact gd_dict | exact gd_var rfl | refine gd_neg ?_ | refine gd_op ?_ ?_ rfl | exact gd_pw ⟨by decide, by decide, by decide⟩ | refine gd_opC ?_ ?_ ?_ rfl | exact ⟨by decide, by decide⟩ | (show (0 : Int) < _; decide) | refine gd_cat ?_ ?_ ?_ | refine gd_catT ?_ ?_ ?_ | refine gd_slT ?_ ?_ ?_ | exact gdo_none | refine gdo_some ?_ | refine gd_revT ?_ ?_ | exact Nat.le_of_ble_eq_true rfl)) (by omega) (by show cell % 9 < (9 : Nat); omega) env fun odd v7 H1 ho s1 e1 => ?_
  refine gs_set (d := .int (cell / 9)) (by repeat' (first | exact gdl_nil | refine gdl_cons ?_ ?_ | refine gd_tup ?_ ?_ | refine gd_lst ?_ ?_ | exact gd_int | exact gd_str | exact gd_non | exact gd_bl | exact gd_dict | exact gd_var rfl | refine gd_neg ?_ | refine gd_op ?_ ?_ rfl | exact gd_pw ⟨by decide, by decide, by decide⟩ | refine gd_opC ?_ ?_ ?_ rfl | exact ⟨by decide, by decide⟩ | (show (0 : Int) < _; decide) | refine gd_cat ?_ ?_ ?_ | refine gd_catT ?_ ?_ ?_ | refine gd_slT ?_ ?_ ?_ | exact gdo_none | refine gdo_some ?_ | refine gd_revT ?_ ?_ | exact Nat.le_of_ble_eq_true rfl)) e1 fun v8 H2 s2 e2 => ?_
  refine gs_pick (ds := fewL hi) (j := cell / 9 % 6) (by repeat' (first | exact gdl_nil | refine gdl_cons ?_ ?_ | refine gd_tup ?_ ?_ | refine gd_lst ?_ ?_ | exact gd_int | exact gd_str | exact gd_non | exact gd_bl | exact gd_dict | exact gd_var rfl | refine gd_neg ?_ | refine gd_op ?_ ?_ rfl | exact gd_pw ⟨by decide, by decide, by decide⟩ | refine gd_opC ?_ ?_ ?_ rfl | exact ⟨by decide, by decide⟩ | (show (0 : Int) < _; decide) | refine gd_cat ?_ ?_ ?_ | refine gd_catT ?_ ?_ ?_ | refine gd_slT ?_ ?_ ?_ | exact gdo_none | refine gdo_some ?_ | refine gd_revT ?_ ?_ | exact Nat.le_of_ble_eq_true rfl)) (by repeat' (first | exact gdl_nil | refine gdl_cons ?_ ?_ | refine gd_tup ?_ ?_ | refine gd_lst ?_ ?_ | exact gd_int | exact gd_str | exact gd_non | exact gd_bl | exact gd_dict | exact gd_var rfl | refine gd_neg ?_ | refine gd_op ?_ ?_ rfl | exact gd_pw ⟨by decide, by decide, by decide⟩ | refine gd_opC ?_ ?_ ?_ rfl | exact ⟨by decide, by decide⟩ | (show (0 : Int) < _; decide) | refine gd_cat ?_ ?_ ?_ | refine gd_catT ?_ ?_ ?_ | refine gd_slT ?_ ?_ ?_ | exact gdo_none | refine gdo_some ?_ | refine gd_revT ?_ ?_ | exact Nat.le_of_ble_eq_true rfl)) (by omega) (by show cell / 9 % 6 < (6 : Nat); omega) e2 fun few v9 H3 hf s3 e3 => ?_
  refine gs_pick (ds := greatL kd.length) (j := cell / 9 % 6) (by
      refine gd_lst (gdl_cons gd_int (gdl_cons (gd_op (gd_lenT (gdl_cons (gd_var rfl) gdl_nil)) gd_int rfl) ?_)) (Nat.le_of_ble_eq_true rfl)
      exact (by repeat' (first | exact gdl_nil | refine gdl_cons ?_ ?_ | refine gd_tup ?_ ?_ | refine gd_lst ?_ ?_ | exact gd_int | exact gd_str | exact gd_non | exact gd_bl | exact gd_dict | exact gd_var rfl | refine gd_neg ?_ | refine gd_op ?_ ?_ rfl | exact gd_pw ⟨by decide, by decide, by decide⟩ | refine gd_opC ?_ ?_ ?_ rfl | exact ⟨by decide, by decide⟩ | (show (0 : Int) < _; decide) | refine gd_cat ?_ ?_ ?_ | refine gd_catT ?_ ?_ ?_ | refine gd_slT ?_ ?_ ?_ | exact gdo_none | refine gdo_some ?_ | refine gd_revT ?_ ?_ | exact Nat.le_of_ble_eq_true rfl))) (by repeat' (first | exact gdl_nil | refine gdl_cons ?_ ?_ | refine gd_tup ?_ ?_ | refine gd_lst ?_ ?_ | exact gd_int | exact gd_str | exact gd_non | exact gd_bl | exact gd_dict | exact gd_var rfl | refine gd_neg ?_ | refine gd_op ?_ ?_ rfl | exact gd_pw ⟨by decide, by decide, by decide⟩ | refine gd_opC ?_ ?_ ?_ rfl | exact ⟨by decide, by decide⟩ | (show (0 : Int) < _; decide) | refine gd_cat ?_ ?_ ?_ | refine gd_catT ?_ ?_ ?_ | refine gd_slT ?_ ?_ ?_ | exact gdo_none | refine gdo_some ?_ | refine gd_revT ?_ ?_ | exact Nat.le_of_ble_eq_true rfl)) (by omega) (by show cell / 9 % 6 < (6 : Nat); omega) e3 fun great v10 H4 hg s4 e4 => ?_
  have szA : (cutD kd none (some (-1))).length + [odd].length ≤ 1000 := by
    have := cut_len (ds := kd) (lo := none) (hi := some (-1))
    show _ + 1 ≤ 1000
    omega
  have szB : kd.length + (cutD kd (some (-1)) none).length ≤ 1000 := by
    have := cut_len (ds := kd) (lo := some (-1)) (hi := none)
    omega
  have szC : [PyData.int up].length + kd.length ≤ 1000 := by
    show 1 + _ ≤ 1000
    omega
  have szD : kd.reverse.length + (cutD kd none (some 1)).length ≤ 1000 := by
    have := cut_len (ds := kd) (lo := none) (hi := some 1)
    rw [List.length_reverse]
    omega
  have szE : kd.reverse.length + (cutD kd none (some (if decide ((kd.length : Int) = 1) = true then 1 else 0))).length ≤ 1000 := by
    have := cut_len (ds := kd) (lo := none) (hi := some (if decide ((kd.length : Int) = 1) = true then 1 else 0))
    rw [List.length_reverse]
    omega
  refine gs_set (d := .list [.list [.int up, .int lo, .int hi, .tuple kd], .tuple (cutD [.int up, .int lo, .int hi, .tuple kd] none (some 3)), .tuple ([.int up, .int lo, .int hi, .tuple kd] ++ [.int 0]), .tuple [odd, .int lo, .int hi, .tuple kd], .tuple [.int up, few, .int hi, .tuple kd]]) (by repeat' (first | exact gdl_nil | exact gd_listT (gdl_cons (gd_var rfl) gdl_nil) | exact gd_ixT (gd_var rfl) gd_int (by rw [← hkd]; exact atI_nat (j := 0) rfl) | exact gd_intB (gdl_cons (gd_eqI (gd_lenT (gdl_cons (gd_var rfl) gdl_nil)) gd_int) gdl_nil) | exact szA | exact szB | exact szC | exact szD | exact szE | refine gdl_cons ?_ ?_ | refine gd_tup ?_ ?_ | refine gd_lst ?_ ?_ | exact gd_int | exact gd_str | exact gd_non | exact gd_bl | exact gd_dict | exact gd_var rfl | refine gd_neg ?_ | refine gd_op ?_ ?_ rfl | exact gd_pw ⟨by decide, by decide, by decide⟩ | refine gd_opC ?_ ?_ ?_ rfl | exact ⟨by decide, by decide⟩ | (show (0 : Int) < _; decide) | refine gd_cat ?_ ?_ ?_ | refine gd_catT ?_ ?_ ?_ | refine gd_slT ?_ ?_ ?_ | exact gdo_none | refine gdo_some ?_ | refine gd_revT ?_ ?_ | exact Nat.le_of_ble_eq_true rfl)) e4 fun v11 H5 s5 e5 => ?_
  refine gs_set (d := .list (_ ++ [.tuple [.int up, .int 0, great, .tuple kd], .tuple [.int up, .int lo, .int hi, .list kd], .tuple [.int up, .int 0, .int 1, .tuple []]])) (gd_cat (gd_var rfl) (by repeat' (first | exact gdl_nil | exact gd_listT (gdl_cons (gd_var rfl) gdl_nil) | exact gd_ixT (gd_var rfl) gd_int (by rw [← hkd]; exact atI_nat (j := 0) rfl) | exact gd_intB (gdl_cons (gd_eqI (gd_lenT (gdl_cons (gd_var rfl) gdl_nil)) gd_int) gdl_nil) | exact szA | exact szB | exact szC | exact szD | exact szE | refine gdl_cons ?_ ?_ | refine gd_tup ?_ ?_ | refine gd_lst ?_ ?_ | exact gd_int | exact gd_str | exact gd_non | exact gd_bl | exact gd_dict | exact gd_var rfl | refine gd_neg ?_ | refine gd_op ?_ ?_ rfl | exact gd_pw ⟨by decide, by decide, by decide⟩ | refine gd_opC ?_ ?_ ?_ rfl | exact ⟨by decide, by decide⟩ | (show (0 : Int) < _; decide) | refine gd_cat ?_ ?_ ?_ | refine gd_catT ?_ ?_ ?_ | refine gd_slT ?_ ?_ ?_ | exact gdo_none | refine gdo_some ?_ | refine gd_revT ?_ ?_ | exact Nat.le_of_ble_eq_true rfl)) (Nat.le_of_ble_eq_true rfl)) e5 fun v11 H6 s6 e6 => ?_
  refine gs_set (d := .list (_ ++ [.tuple [.int up, .int lo, .int hi, .tuple (cutD kd none (some (-1)) ++ [odd])], .tuple [.int up, .int lo, .int hi, .tuple (kd ++ cutD kd (some (-1)) none)]])) (gd_cat (gd_var rfl) (by repeat' (first | exact gdl_nil | exact gd_listT (gdl_cons (gd_var rfl) gdl_nil) | exact gd_ixT (gd_var rfl) gd_int (by rw [← hkd]; exact atI_nat (j := 0) rfl) | exact gd_intB (gdl_cons (gd_eqI (gd_lenT (gdl_cons (gd_var rfl) gdl_nil)) gd_int) gdl_nil) | exact szA | exact szB | exact szC | exact szD | exact szE | refine gdl_cons ?_ ?_ | refine gd_tup ?_ ?_ | refine gd_lst ?_ ?_ | exact gd_int | exact gd_str | exact gd_non | exact gd_bl | exact gd_dict | exact gd_var rfl | refine gd_neg ?_ | refine gd_op ?_ ?_ rfl | exact gd_pw ⟨by decide, by decide, by decide⟩ | refine gd_opC ?_ ?_ ?_ rfl | exact ⟨by decide, by decide⟩ | (show (0 : Int) < _; decide) | refine gd_cat ?_ ?_ ?_ | refine gd_catT ?_ ?_ ?_ | refine gd_slT ?_ ?_ ?_ | exact gdo_none | refine gdo_some ?_ | refine gd_revT ?_ ?_ | exact Nat.le_of_ble_eq_true rfl)) (Nat.le_of_ble_eq_true rfl)) e6 fun v11 H7 s7 e7 => ?_
  refine gs_set (d := .list (_ ++ [.tuple [.int up, .int lo, .int hi, .tuple ([.int up] ++ kd)], .tuple [.int n0, .int lo, .int hi, .tuple kd], .tuple [.int up, .int lo, .int hi, .none], .none, .int 5])) (gd_cat (gd_var rfl) (by repeat' (first | exact gdl_nil | exact gd_listT (gdl_cons (gd_var rfl) gdl_nil) | exact gd_ixT (gd_var rfl) gd_int (by rw [← hkd]; exact atI_nat (j := 0) rfl) | exact gd_intB (gdl_cons (gd_eqI (gd_lenT (gdl_cons (gd_var rfl) gdl_nil)) gd_int) gdl_nil) | exact szA | exact szB | exact szC | exact szD | exact szE | refine gdl_cons ?_ ?_ | refine gd_tup ?_ ?_ | refine gd_lst ?_ ?_ | exact gd_int | exact gd_str | exact gd_non | exact gd_bl | exact gd_dict | exact gd_var rfl | refine gd_neg ?_ | refine gd_op ?_ ?_ rfl | exact gd_pw ⟨by decide, by decide, by decide⟩ | refine gd_opC ?_ ?_ ?_ rfl | exact ⟨by decide, by decide⟩ | (show (0 : Int) < _; decide) | refine gd_cat ?_ ?_ ?_ | refine gd_catT ?_ ?_ ?_ | refine gd_slT ?_ ?_ ?_ | exact gdo_none | refine gdo_some ?_ | refine gd_revT ?_ ?_ | exact Nat.le_of_ble_eq_true rfl)) (Nat.le_of_ble_eq_true rfl)) e7 fun v11 H8 s8 e8 => ?_
  refine gs_set (d := .list (_ ++ [.tuple [.int up, .int lo, .int hi, .tuple (kd.reverse ++ cutD kd none (some 1))], .tuple [.int up, .int lo, .int hi, .tuple (kd.reverse ++ cutD kd none (some (if decide ((kd.length : Int) = 1) = true then 1 else 0)))]])) (gd_cat (gd_var rfl) (by repeat' (first | exact gdl_nil | exact gd_listT (gdl_cons (gd_var rfl) gdl_nil) | exact gd_ixT (gd_var rfl) gd_int (by rw [← hkd]; exact atI_nat (j := 0) rfl) | exact gd_intB (gdl_cons (gd_eqI (gd_lenT (gdl_cons (gd_var rfl) gdl_nil)) gd_int) gdl_nil) | exact szA | exact szB | exact szC | exact szD | exact szE | refine gdl_cons ?_ ?_ | refine gd_tup ?_ ?_ | refine gd_lst ?_ ?_ | exact gd_int | exact gd_str | exact gd_non | exact gd_bl | exact gd_dict | exact gd_var rfl | refine gd_neg ?_ | refine gd_op ?_ ?_ rfl | exact gd_pw ⟨by decide, by decide, by decide⟩ | refine gd_opC ?_ ?_ ?_ rfl | exact ⟨by decide, by decide⟩ | (show (0 : Int) < _; decide) | refine gd_cat ?_ ?_ ?_ | refine gd_catT ?_ ?_ ?_ | refine gd_slT ?_ ?_ ?_ | exact gdo_none | refine gdo_some ?_ | refine gd_revT ?_ ?_ | exact Nat.le_of_ble_eq_true rfl)) (Nat.le_of_ble_eq_true rfl)) e8 fun v11 H9 s9 e9 => ?_
  refine gd_pick (i := cell / 9 / 6 % 17) (gd_var rfl) (by repeat' (first | exact gdl_nil | exact gd_listT (gdl_cons (gd_var rfl) gdl_nil) | exact gd_ixT (gd_var rfl) gd_int (by rw [← hkd]; exact atI_nat (j := 0) rfl) | exact gd_intB (gdl_cons (gd_eqI (gd_lenT (gdl_cons (gd_var rfl) gdl_nil)) gd_int) gdl_nil) | exact szA | exact szB | exact szC | exact szD | exact szE | refine gdl_cons ?_ ?_ | refine gd_tup ?_ ?_ | refine gd_lst ?_ ?_ | exact gd_int | exact gd_str | exact gd_non | exact gd_bl | exact gd_dict | exact gd_var rfl | refine gd_neg ?_ | refine gd_op ?_ ?_ rfl | exact gd_pw ⟨by decide, by decide, by decide⟩ | refine gd_opC ?_ ?_ ?_ rfl | exact ⟨by decide, by decide⟩ | (show (0 : Int) < _; decide) | refine gd_cat ?_ ?_ ?_ | refine gd_catT ?_ ?_ ?_ | refine gd_slT ?_ ?_ ?_ | exact gdo_none | refine gdo_some ?_ | refine gd_revT ?_ ?_ | exact Nat.le_of_ble_eq_true rfl)) (by omega) (by show cell / 9 / 6 % 17 < (17 : Nat); omega) e9 fun d v H' hd' s' hv => ?_
  have e1 : (if decide ((kd.length : Int) = 1) = true then (1 : Int) else 0) = if (n0 :: ns).length = 1 then 1 else 0 := by
    rw [← hkd, List.length_map]
    by_cases z : (n0 :: ns).length = 1
    · rw [if_pos z, if_pos (by rw [z]; rfl)]
    · rw [if_neg z, if_neg (by rw [decide_eq_true_eq]; omega)]
  rw [e1, ← hkd] at hd'
  have no := oddB_no (odd := odd) (few := few) (great := great) u0 p r m9 (odd_no (by omega) ho) (few_no hf) (by have z := great_no hg; rw [← hkd, List.length_map] at z; exact z) (d := d) hd'
  exact q d v H' (s1.trans (s2.trans (s3.trans (s4.trans (s5.trans (s6.trans (s7.trans (s8.trans (s9.trans s'))))))))) hv no.1 no.2

end
section
variable {P : Program} {w : World} {K : PySem.W.Frag} {mg : Str → Option Value} {base : Heap} {a : Adr} {d : Fds}
theorem ok_law_odd_tie (T : Txt K mg a d) : FnOk P w K mg base CX0 1 a.f_law_odd_tie d.f_law_odd_tie ["_law_many_here", "_law_cell"] spOddT := by
  refine T.K_law_odd_tie.ok sc_law_odd_tie (fun vs H Q E h => ?_) (fun cdv A outer s H vs Q E hr h => ?_)
  · obtain ⟨many, cell, rfl, _⟩ := h
    rfl
  obtain ⟨many, cell, rfl, m2, m9, c0, q⟩ := h
  have env : EnvD [some (.int many), some (.int cell), none, none, none, none, none] H [some (.int many), some (.int cell), none, none, none, none, none] := .cons rfl (.cons rfl (EnvD.hole 5))
  refine ⟨_, (PLi.pss (pli_cons (.of (ps_set (i := 2) sc_law_odd_tie.nd rfl (Or.inl rfl) (pe_ix (ixL (K := K)) (pe_lst (pa_cons (pv 0) (pa_cons (pe_un un_neg pe_int) (pa_cons pe_bl (pa_cons pe_non (pa_cons pe_str (pa_cons (pe_op op_add (pv 0) (pe_op op_pow pe_int pe_int)) (pa_cons (@PEi.pe _ _ _ (pei_tup (pai_cons (.of pe_int) pai_nil))) (pa_cons (@PEi.pe _ _ _ (pei_lst (pai_cons (.of pe_int) pai_nil))) (pa_cons pe_dnewK pa_nil)))))))))) (pe_op op_mod (pv 1) pe_int) (fun _ _ => rfl))))
      (pli_cons (.of (ps_set (i := 3) sc_law_odd_tie.nd rfl (Or.inl rfl) (pe_op op_fdiv (pv 1) pe_int)))
      (pli_cons (.of (ps_set (i := 4) sc_law_odd_tie.nd rfl (Or.inl rfl) (pe_ix (ixL (K := K)) (@PEi.pe _ _ _ (pei_lst (pai_cons (.of pe_str) (pai_cons (.of pe_str) pai_nil)))) (pe_op op_mod (pv 3) pe_int) (fun _ _ => rfl))))
      (pli_cons (ps_setI (i := 5) sc_law_odd_tie.nd rfl (Or.inl rfl) (pei_lst (pai_cons (.of pe_str) (pai_cons (.of pe_str) (pai_cons (.of pe_str) (pai_cons (.of pe_str) (pai_cons (.of pe_non) (pai_cons (.of pe_int) (pai_cons (pei_lst (pai_cons (.of pe_str) pai_nil)) (pai_cons (.of pe_dnewK) pai_nil))))))))))
      (pli_cons (.of (ps_set (i := 6) sc_law_odd_tie.nd rfl (Or.inl rfl) (pe_lst (pa_cons (pe_lst (pa_cons (pv 4) (pa_cons pe_int (pa_cons pe_int pa_nil)))) (pa_cons (pe_tup (pa_cons (pv 4) (pa_cons pe_int pa_nil))) (pa_cons (pe_tup (pa_cons (pv 4) (pa_cons pe_int (pa_cons pe_int (pa_cons pe_int pa_nil))))) (pa_cons (pe_tup (pa_cons (pe_ix (ixL (K := K)) (pv 5) (pe_op op_mod (pe_op op_fdiv (pv 3) pe_int) pe_int) (fun _ _ => rfl)) (pa_cons pe_int (pa_cons pe_int pa_nil)))) pa_nil)))))))
      (pli_cons (.of (ps_set (i := 6) sc_law_odd_tie.nd rfl (Or.inl rfl) (pe_op op_cat (pv 6) (pe_lst (pa_cons (pe_tup (pa_cons (pv 4) (pa_cons (pv 2) (pa_cons pe_int pa_nil)))) (pa_cons (pe_tup (pa_cons (pv 4) (pa_cons pe_int (pa_cons (pv 2) pa_nil)))) (pa_cons (pe_tup (pa_cons (pv 4) (pa_cons pe_int (pa_cons pe_int pa_nil)))) (pa_cons (@PEi.pe _ _ _ (pei_tup (pai_cons (.of pe_str) (pai_cons (.of pe_non) (pai_cons (pei_tup (pai_cons (pei_tup (pai_cons (.of pe_int) (pai_cons (.of pe_int) pai_nil))) pai_nil)) pai_nil))))) (pa_cons (@PEi.pe _ _ _ (pei_tup (pai_cons (.of pe_str) (pai_cons (.of pe_bl) (pai_cons (pei_tup (pai_cons (pei_tup (pai_cons (.of pe_int) (pai_cons (.of pe_int) pai_nil))) pai_nil)) pai_nil))))) pa_nil)))))))))
      (pli_cons (.of (ps_set (i := 6) sc_law_odd_tie.nd rfl (Or.inl rfl) (pe_op op_cat (pv 6) (@PEi.pe _ _ _ (pei_lst (pai_cons (pei_tup (pai_cons (.of pe_str) (pai_cons (.of pe_int) (pai_cons (pei_tup pai_nil) pai_nil)))) (pai_cons (pei_tup (pai_cons (.of pe_str) (pai_cons (.of pe_int) (pai_cons (pei_lst (pai_cons (pei_tup (pai_cons (.of pe_int) (pai_cons (.of pe_int) pai_nil))) pai_nil)) pai_nil)))) (pai_cons (pei_tup (pai_cons (.of pe_str) (pai_cons (.of pe_int) (pai_cons (pei_tup (pai_cons (pei_tup (pai_cons (.of pe_int) (pai_cons (.of pe_int) (pai_cons (.of pe_int) pai_nil)))) pai_nil)) pai_nil)))) (pai_cons (pei_tup (pai_cons (.of pe_str) (pai_cons (.of pe_int) (pai_cons (pei_tup (pai_cons (pei_tup (pai_cons (.of pe_int) (pai_cons (.of pe_int) pai_nil))) (pai_cons (pei_tup (pai_cons (.of pe_int) (pai_cons (.of pe_int) pai_nil))) pai_nil))) pai_nil)))) pai_nil)))))))))
      (pli_cons (.of (ps_set (i := 6) sc_law_odd_tie.nd rfl (Or.inl rfl) (pe_op op_cat (pv 6) (pe_lst (pa_cons (@PEi.pe _ _ _ (pei_tup (pai_cons (.of pe_str) (pai_cons (.of pe_int) (pai_cons (pei_tup (pai_cons (pei_tup (pai_cons (.of pe_int) (pai_cons (.of pe_int) pai_nil))) (pai_cons (pei_tup (pai_cons (.of pe_int) (pai_cons (.of pe_int) pai_nil))) pai_nil))) pai_nil))))) (pa_cons (pe_tup (pa_cons pe_str (pa_cons pe_int (pa_cons (pe_tup (pa_cons (pe_tup (pa_cons (pv 2) (pa_cons pe_int pa_nil))) pa_nil)) pa_nil)))) (pa_cons (@PEi.pe _ _ _ (pei_tup (pai_cons (.of pe_str) (pai_cons (.of pe_int) (pai_cons (pei_tup (pai_cons (pei_tup (pai_cons (.of pe_int) (pai_cons (.of pe_non) pai_nil))) pai_nil)) pai_nil))))) pa_nil)))))))
      (pli_cons (.of (ps_set (i := 6) sc_law_odd_tie.nd rfl (Or.inl rfl) (pe_op op_cat (pv 6) (@PEi.pe _ _ _ (pei_lst (pai_cons (pei_tup (pai_cons (.of pe_str) (pai_cons (.of pe_int) (pai_cons (pei_tup (pai_cons (pei_tup (pai_cons (.of pe_int) (pai_cons (.of pe_bl) pai_nil))) pai_nil)) pai_nil)))) (pai_cons (pei_tup (pai_cons (.of pe_str) (pai_cons (.of pe_int) (pai_cons (pei_tup (pai_cons (pei_tup (pai_cons (.of pe_int) pai_nil)) pai_nil)) pai_nil)))) (pai_cons (pei_tup (pai_cons (.of pe_str) (pai_cons (.of pe_str) (pai_cons (pei_tup (pai_cons (pei_tup (pai_cons (.of pe_int) (pai_cons (.of pe_int) pai_nil))) pai_nil)) pai_nil)))) (pai_cons (.of pe_non) (pai_cons (pei_tup (pai_cons (.of pe_str) (pai_cons (.of pe_int) (pai_cons (.of pe_int) pai_nil)))) pai_nil))))))))))
      (pli_cons (.of (ps_set (i := 6) sc_law_odd_tie.nd rfl (Or.inl rfl) (pe_op op_cat (pv 6) (@PEi.pe _ _ _ (pei_lst (pai_cons (pei_tup (pai_cons (.of pe_str) (pai_cons (.of pe_int) (pai_cons (pei_tup (pai_cons (pei_lst (pai_cons (.of pe_int) (pai_cons (.of pe_int) pai_nil))) pai_nil)) pai_nil)))) (pai_cons (pei_tup (pai_cons (.of pe_str) (pai_cons (.of pe_int) (pai_cons (.of pe_str) pai_nil)))) (pai_cons (.of pe_str) pai_nil))))))))
      (pli_one (.of (ps_ret (pe_ix (ixL (K := K)) (pv 6) (pe_op op_mod (pe_op op_fdiv (pv 3) pe_int) pe_int) (fun _ _ => rfl)))))))))))))))), ?_⟩
  refine gs_pick (ds := oddL many) (j := cell % 9) (by repeat' (first | exact gdl_nil | refine gdl_cons ?_ ?_ | refine gd_tup ?_ ?_ | refine gd_lst ?_ ?_ | exact gd_int | exact gd_str | exact gd_non | exact gd_bl | exact gd_dict | exact gd_var rfl | refine gd_neg ?_ | refine gd_op ?_ ?_ rfl | exact gd_pw ⟨by decide, by decide, by decide⟩ | refine gd_opC ?_ ?_ ?_ rfl | exact ⟨by decide, by decide⟩ | (show (0 : Int) < _; decide) | refine gd_cat ?_ ?_ ?_ | refine gd_catT ?_ ?_ ?_ | refine gd_slT ?_ ?_ ?_ | exact gdo_none | refine gdo_some ?_ | refine gd_revT ?_ ?_ | exact Nat.le_of_ble_eq_true rfl)) (by repeat' (first | exact gdl_nil | refine gdl_cons ?_ ?_ | refine gd_tup ?_ ?_ | refine gd_lst ?_ ?_ | exact gd_int | exact gd_str | exact gd_non | exact gd_bl | exact gd_dict | exact gd_var rfl | refine gd_neg ?_ | refine gd_op ?_ ?_ rfl | exact gd_pw ⟨by decide, by decide, by decide⟩ | refine gd_opC ?_ ?_ ?_ rfl | exact ⟨by decide, by decide⟩ | (show (0 : Int) < _; decide) | refine gd_cat ?_ ?_ ?_ | refine gd_catT ?_ ?_ ?_ | refine gd_slT ?_ ?_ ?_ | exact gdo_none | refine gdo_some ?_ | refine gd_revT ?_ ?_ | exact Nat.le_of_ble_eq_true rfl)) (by omega) (by show cell % 9 < (9 : Nat); omega) env fun odd v2 H1 ho s1 e1 => ?_
  refine gs_set (d := .int (cell / 9)) (by repeat' (first | exact gdl_nil | refine gdl_cons ?_ ?_ | refine gd_tup ?_ ?_ | refine gd_lst ?_ ?_ | exact gd_int | exact gd_str | exact gd_non | exact gd_bl | exact gd_dict | exact gd_var rfl | refine gd_neg ?_ | refine gd_op ?_ ?_ rfl | exact gd_pw ⟨by decide, by decide, by decide⟩ | refine gd_opC ?_ ?_ ?_ rfl | exact ⟨by decide, by decide⟩ | (show (0 : Int) < _; decide) | refine gd_cat ?_ ?_ ?_ | refine gd_catT ?_ ?_ ?_ | refine gd_slT ?_ ?_ ?_ | exact gdo_none | refine gdo_some ?_ | refine gd_revT ?_ ?_ | exact Nat.le_of_ble_eq_true rfl)) e1 fun v3 H2 s2 e2 => ?_
  refine gs_pick (ds := [.str ("needs" : Str), .str ("bans" : Str)]) (j := cell / 9 % 2) (by repeat' (first | exact gdl_nil | refine gdl_cons ?_ ?_ | refine gd_tup ?_ ?_ | refine gd_lst ?_ ?_ | exact gd_int | exact gd_str | exact gd_non | exact gd_bl | exact gd_dict | exact gd_var rfl | refine gd_neg ?_ | refine gd_op ?_ ?_ rfl | exact gd_pw ⟨by decide, by decide, by decide⟩ | refine gd_opC ?_ ?_ ?_ rfl | exact ⟨by decide, by decide⟩ | (show (0 : Int) < _; decide) | refine gd_cat ?_ ?_ ?_ | refine gd_catT ?_ ?_ ?_ | refine gd_slT ?_ ?_ ?_ | exact gdo_none | refine gdo_some ?_ | refine gd_revT ?_ ?_ | exact Nat.le_of_ble_eq_true rfl)) (by repeat' (first | exact gdl_nil | refine gdl_cons ?_ ?_ | refine gd_tup ?_ ?_ | refine gd_lst ?_ ?_ | exact gd_int | exact gd_str | exact gd_non | exact gd_bl | exact gd_dict | exact gd_var rfl | refine gd_neg ?_ | refine gd_op ?_ ?_ rfl | exact gd_pw ⟨by decide, by decide, by decide⟩ | refine gd_opC ?_ ?_ ?_ rfl | exact ⟨by decide, by decide⟩ | (show (0 : Int) < _; decide) | refine gd_cat ?_ ?_ ?_ | refine gd_catT ?_ ?_ ?_ | refine gd_slT ?_ ?_ ?_ | exact gdo_none | refine gdo_some ?_ | refine gd_revT ?_ ?_ | exact Nat.le_of_ble_eq_true rfl)) (by omega) (by show cell / 9 % 2 < (2 : Nat); omega) e2 fun w v4 H3 hw s3 e3 => ?_
  refine gs_set (d := .list nameL) (by repeat' (first | exact gdl_nil | refine gdl_cons ?_ ?_ | refine gd_tup ?_ ?_ | refine gd_lst ?_ ?_ | exact gd_int | exact gd_str | exact gd_non | exact gd_bl | exact gd_dict | exact gd_var rfl | refine gd_neg ?_ | refine gd_op ?_ ?_ rfl | exact gd_pw ⟨by decide, by decide, by decide⟩ | refine gd_opC ?_ ?_ ?_ rfl | exact ⟨by decide, by decide⟩ | (show (0 : Int) < _; decide) | refine gd_cat ?_ ?_ ?_ | refine gd_catT ?_ ?_ ?_ | refine gd_slT ?_ ?_ ?_ | exact gdo_none | refine gdo_some ?_ | refine gd_revT ?_ ?_ | exact Nat.le_of_ble_eq_true rfl)) e3 fun v5 H4 s4 e4 => ?_
  obtain ⟨nm, hnm, hat⟩ := at_lt (ds := nameL) (i := cell / 9 / 2 % 8) (by omega) (by show cell / 9 / 2 % 8 < (8 : Nat); omega)
  refine gs_set (d := .list [.list [w, .int 0, .int 1], .tuple [w, .int 0], .tuple [w, .int 0, .int 1, .int 1], .tuple [nm, .int 0, .int 1]]) (by
      exact (by repeat' (first | exact gdl_nil | exact gd_ixL (gd_var rfl) (gd_opC (gd_opC (gd_var rfl) gd_int ⟨by decide, by decide⟩ rfl) gd_int (by show (0 : Int) < 8; decide) rfl) hat | refine gdl_cons ?_ ?_ | refine gd_tup ?_ ?_ | refine gd_lst ?_ ?_ | exact gd_int | exact gd_str | exact gd_non | exact gd_bl | exact gd_dict | exact gd_var rfl | refine gd_neg ?_ | refine gd_op ?_ ?_ rfl | exact gd_pw ⟨by decide, by decide, by decide⟩ | refine gd_opC ?_ ?_ ?_ rfl | exact ⟨by decide, by decide⟩ | (show (0 : Int) < _; decide) | refine gd_cat ?_ ?_ ?_ | refine gd_catT ?_ ?_ ?_ | refine gd_slT ?_ ?_ ?_ | exact gdo_none | refine gdo_some ?_ | refine gd_revT ?_ ?_ | exact Nat.le_of_ble_eq_true rfl))) e4 fun v6 H5 s5 e5 => ?_
  refine gs_set (d := .list (_ ++ [.tuple [w, odd, .int 1], .tuple [w, .int 0, odd], .tuple [w, .int 1, .int 1], .tuple [ms, .none, .tuple [.tuple [.int 0, .int 1]]], .tuple [ms, .bool true, .tuple [.tuple [.int 0, .int 1]]]])) (gd_cat (gd_var rfl) (by repeat' (first | exact gdl_nil | refine gdl_cons ?_ ?_ | refine gd_tup ?_ ?_ | refine gd_lst ?_ ?_ | exact gd_int | exact gd_str | exact gd_non | exact gd_bl | exact gd_dict | exact gd_var rfl | refine gd_neg ?_ | refine gd_op ?_ ?_ rfl | exact gd_pw ⟨by decide, by decide, by decide⟩ | refine gd_opC ?_ ?_ ?_ rfl | exact ⟨by decide, by decide⟩ | (show (0 : Int) < _; decide) | refine gd_cat ?_ ?_ ?_ | refine gd_catT ?_ ?_ ?_ | refine gd_slT ?_ ?_ ?_ | exact gdo_none | refine gdo_some ?_ | refine gd_revT ?_ ?_ | exact Nat.le_of_ble_eq_true rfl)) (Nat.le_of_ble_eq_true rfl)) e5 fun v6 H6 s6 e6 => ?_
  refine gs_set (d := .list (_ ++ [.tuple [ms, .int 1, .tuple []], .tuple [ms, .int 1, .list [.tuple [.int 0, .int 1]]], .tuple [ms, .int 1, .tuple [.tuple [.int 0, .int 1, .int 1]]], .tuple [ms, .int 1, .tuple [.tuple [.int 1, .int 1], .tuple [.int 0, .int 1]]]])) (gd_cat (gd_var rfl) (by repeat' (first | exact gdl_nil | refine gdl_cons ?_ ?_ | refine gd_tup ?_ ?_ | refine gd_lst ?_ ?_ | exact gd_int | exact gd_str | exact gd_non | exact gd_bl | exact gd_dict | exact gd_var rfl | refine gd_neg ?_ | refine gd_op ?_ ?_ rfl | exact gd_pw ⟨by decide, by decide, by decide⟩ | refine gd_opC ?_ ?_ ?_ rfl | exact ⟨by decide, by decide⟩ | (show (0 : Int) < _; decide) | refine gd_cat ?_ ?_ ?_ | refine gd_catT ?_ ?_ ?_ | refine gd_slT ?_ ?_ ?_ | exact gdo_none | refine gdo_some ?_ | refine gd_revT ?_ ?_ | exact Nat.le_of_ble_eq_true rfl)) (Nat.le_of_ble_eq_true rfl)) e6 fun v6 H7 s7 e7 => ?_
  refine gs_set (d := .list (_ ++ [.tuple [ms, .int 1, .tuple [.tuple [.int 0, .int 1], .tuple [.int 0, .int 2]]], .tuple [ms, .int 1, .tuple [.tuple [odd, .int 1]]], .tuple [ms, .int 1, .tuple [.tuple [.int 0, .none]]]])) (gd_cat (gd_var rfl) (by repeat' (first | exact gdl_nil | refine gdl_cons ?_ ?_ | refine gd_tup ?_ ?_ | refine gd_lst ?_ ?_ | exact gd_int | exact gd_str | exact gd_non | exact gd_bl | exact gd_dict | exact gd_var rfl | refine gd_neg ?_ | refine gd_op ?_ ?_ rfl | exact gd_pw ⟨by decide, by decide, by decide⟩ | refine gd_opC ?_ ?_ ?_ rfl | exact ⟨by decide, by decide⟩ | (show (0 : Int) < _; decide) | refine gd_cat ?_ ?_ ?_ | refine gd_catT ?_ ?_ ?_ | refine gd_slT ?_ ?_ ?_ | exact gdo_none | refine gdo_some ?_ | refine gd_revT ?_ ?_ | exact Nat.le_of_ble_eq_true rfl)) (Nat.le_of_ble_eq_true rfl)) e7 fun v6 H8 s8 e8 => ?_
  refine gs_set (d := .list (_ ++ [.tuple [ms, .int 1, .tuple [.tuple [.int 0, .bool true]]], .tuple [ms, .int 1, .tuple [.tuple [.int 0]]], .tuple [ms, .str ("1" : Str), .tuple [.tuple [.int 0, .int 1]]], .none, .tuple [ms, .int 1, .int 0]])) (gd_cat (gd_var rfl) (by repeat' (first | exact gdl_nil | refine gdl_cons ?_ ?_ | refine gd_tup ?_ ?_ | refine gd_lst ?_ ?_ | exact gd_int | exact gd_str | exact gd_non | exact gd_bl | exact gd_dict | exact gd_var rfl | refine gd_neg ?_ | refine gd_op ?_ ?_ rfl | exact gd_pw ⟨by decide, by decide, by decide⟩ | refine gd_opC ?_ ?_ ?_ rfl | exact ⟨by decide, by decide⟩ | (show (0 : Int) < _; decide) | refine gd_cat ?_ ?_ ?_ | refine gd_catT ?_ ?_ ?_ | refine gd_slT ?_ ?_ ?_ | exact gdo_none | refine gdo_some ?_ | refine gd_revT ?_ ?_ | exact Nat.le_of_ble_eq_true rfl)) (Nat.le_of_ble_eq_true rfl)) e8 fun v6 H9 s9 e9 => ?_
  refine gs_set (d := .list (_ ++ [.tuple [ms, .int 1, .tuple [.list [.int 0, .int 1]]], .tuple [.str ("needs" : Str), .int 0, .str ("1" : Str)], .str ("needs" : Str)])) (gd_cat (gd_var rfl) (by repeat' (first | exact gdl_nil | refine gdl_cons ?_ ?_ | refine gd_tup ?_ ?_ | refine gd_lst ?_ ?_ | exact gd_int | exact gd_str | exact gd_non | exact gd_bl | exact gd_dict | exact gd_var rfl | refine gd_neg ?_ | refine gd_op ?_ ?_ rfl | exact gd_pw ⟨by decide, by decide, by decide⟩ | refine gd_opC ?_ ?_ ?_ rfl | exact ⟨by decide, by decide⟩ | (show (0 : Int) < _; decide) | refine gd_cat ?_ ?_ ?_ | refine gd_catT ?_ ?_ ?_ | refine gd_slT ?_ ?_ ?_ | exact gdo_none | refine gdo_some ?_ | refine gd_revT ?_ ?_ | exact Nat.le_of_ble_eq_true rfl)) (Nat.le_of_ble_eq_true rfl)) e9 fun v6 H10 s10 e10 => ?_
  refine gd_pick (i := cell / 9 / 12 % 24) (gd_var rfl) (by repeat' (first | exact gdl_nil | refine gdl_cons ?_ ?_ | refine gd_tup ?_ ?_ | refine gd_lst ?_ ?_ | exact gd_int | exact gd_str | exact gd_non | exact gd_bl | exact gd_dict | exact gd_var rfl | refine gd_neg ?_ | refine gd_op ?_ ?_ rfl | exact gd_pw ⟨by decide, by decide, by decide⟩ | refine gd_opC ?_ ?_ ?_ rfl | exact ⟨by decide, by decide⟩ | (show (0 : Int) < _; decide) | refine gd_cat ?_ ?_ ?_ | refine gd_catT ?_ ?_ ?_ | refine gd_slT ?_ ?_ ?_ | exact gdo_none | refine gdo_some ?_ | refine gd_revT ?_ ?_ | exact Nat.le_of_ble_eq_true rfl)) (by omega) (by show cell / 9 / 12 % 24 < (24 : Nat); omega) e10 fun d v H' hd' s' hv => ?_
  have no := oddT_no (many := many) (w := w) (nm := nm) (odd := odd) (by simpa using hw) hnm (odd_no (by omega) ho) (odd_len ho) (d := d) hd'
  exact q d v H' (s1.trans (s2.trans (s3.trans (s4.trans (s5.trans (s6.trans (s7.trans (s8.trans (s9.trans (s10.trans s')))))))))) hv no.1 no.2

end
section
variable {P : Program} {w : World} {K : PySem.W.Frag} {mg : Str → Option Value} {base : Heap} {a : Adr} {d : Fds}
theorem ok_law_twice_and_none (T : Txt K mg a d) : FnOk P w K mg base CX0 1 a.f_law_twice_and_none d.f_law_twice_and_none ["_law_boughs_here", "_law_many_here", "_law_cell"] spTwice := by
  refine T.K_law_twice_and_none.ok sc_law_twice_and_none (fun vs H Q E h => ?_) (fun cdv A outer s H vs Q E hr h => ?_)
  · obtain ⟨pb, many, cell, xs, bs, rfl, _⟩ := h
    rfl
  obtain ⟨pb, many, cell, xs, bs, rfl, hp, hl, g, m2, m9, b8, c0, q⟩ := h
  refine ⟨_, (pss_cons (ps_set (i := 3) sc_law_twice_and_none.nd rfl (Or.inl rfl) (pe_lst pa_nil))
      (pss_cons (ps_for PassesOwn.never rfl (pi_enum rfl T.m_enumerate (pa_cons (pv 0) pa_nil)) (pgT (K := K) (n := 2) rfl (pgs_cons (pg_name (i := 4) sc_law_twice_and_none.nd rfl (Or.inl rfl)) (pgs_cons (pgT (K := K) (n := 4) rfl (pgs_cons (pg_name (i := 5) sc_law_twice_and_none.nd rfl (Or.inl rfl)) (pgs_cons (pg_name (i := 6) sc_law_twice_and_none.nd rfl (Or.inl rfl)) (pgs_cons (pg_name (i := 7) sc_law_twice_and_none.nd rfl (Or.inl rfl)) (pgs_cons (pg_name (i := 8) sc_law_twice_and_none.nd rfl (Or.inl rfl)) pgs_nil))))) pgs_nil))) (pss_one (ps_for PassesOwn.never rfl (piT (K := K) (pv 8)) (pg_name (i := 9) sc_law_twice_and_none.nd rfl (Or.inr rfl)) (pss_one (ps_for PassesOwn.never rfl (pi_range2 rfl T.m_range (pa_cons (pe_op op_add (pv 5) pe_int) (pa_cons (pv 1) pa_nil))) (pg_name (i := 10) sc_law_twice_and_none.nd rfl (Or.inl rfl)) (pss_one (ps_if (pt_cmpR op_notIn_seq (pv 10) (pv 8) (by with_unfolding_all rfl)) (pss_cons (ps_set (i := 11) sc_law_twice_and_none.nd rfl (Or.inl rfl) (pe_callTy call_tuple_of rfl T.m_tuple PyProof.Rows.boot_tuple (pa_cons (pe_callB call_sorted rfl T.m_sorted PyProof.Rows.boot_sorted (pa_cons (pe_op op_cat (pe_lc (sc0 := defScope s_law_twice_and_none) (XN := ["_law_boughs_here", "_law_many_here", "_law_cell", "_law_some", "_law_at", "_law_up", "_law_low", "_law_high", "_law_kids", "_law_k", "_law_other", "_law_new"]) (N' := ["_law_one", "_law_k"]) (n := 1) (kp := [9]) rfl (piT (K := K) (pv 8)) rfl rfl (by decide +kernel) (fun _ _ _ _ _ => (pg_name (i := 0) (by show List.Nodup (["_law_one", "_law_k"] : List Str); decide +kernel) rfl (Or.inl rfl))) (fun _ _ _ _ _ => (pts_one (pt_cmpR op_ne (pv 0) (pv 1) (nomark _)))) (fun _ _ _ _ _ => (pv 0))) (pe_lst (pa_cons (pv 10) pa_nil))) pa_nil)) pa_nil)))
      (pss_one (ps_expr (pe_bmK (K := K) PySem.F.plainAttrs_list PySem.F.slot_list_append PySem.F.type_list_append mt_append (pv 3) (pa_cons (pe_op op_cat (pe_op op_cat (pe_slice sl_list (pv 0) po_none (po_some (pv 4))) (pe_lst (pa_cons (pe_tup (pa_cons (pv 5) (pa_cons (pv 6) (pa_cons (pv 7) (pa_cons (pv 11) pa_nil))))) pa_nil))) (pe_slice sl_list (pv 0) (po_some (pe_op op_add (pv 4) pe_int)) po_none)) pa_nil))))) pss_nil)))))))
      (pss_cons (ps_if (pt_cmpR (op_eq_nil hr.units) (pv 3) (pe_lst pa_nil) (nomark _)) (pss_one (ps_ret (pe_slice sl_list (pv 0) (po_some pe_int) po_none))) pss_nil)
      (pss_one (ps_ret (pe_ix (ixL (K := K)) (pv 3) (pe_op op_mod (pv 2) (pe_callB (lenS (K := K)) rfl T.m_len PySem.boot_len (pa_cons (pv 3) pa_nil))) (fun _ _ => rfl))))))), ?_⟩
  refine ⟨small (by decide), fun sl hsl => ?_⟩
  refine ⟨_, rfl, false, pb, rfl, ⟨xs, SqL.of ((same_new hsl _) _ _ hp)⟩, ?_⟩
  have p62 : (2 : Int) ^ 62 = 4611686018427387904 := by decide
  refine for_enum (K := K) (b := false) (a := pb) (xs := xs) (fun i σ H2 => (∃ v4 v5 v6 v7 v8 v9 v10 v11, σ = [some (.ref pb), some (.int many), some (.int cell), some (.ref sl), v4, v5, v6, v7, v8, v9, v10, v11]) ∧ SomeOk many sl H H2 (i * 81)) ⟨⟨none, none, none, none, none, none, none, none, rfl⟩, same_new hsl _, [], upd_same, Nat.le_refl _, fun y hy => by simp at hy⟩ (fun i σ H2 _ z => SqL.of (z.2.1 _ _ hp)) ?_ ?_
  · rintro i x σ H2 hx ⟨⟨v4, v5, v6, v7, v8, v9, v10, v11, rfl⟩, so⟩ TT hT
    obtain ⟨b, hb, hd⟩ := hl.get hx
    have i8 : i < bs.length := (List.getElem?_eq_some_iff.mp hb).1
    obtain ⟨up, lo, hi', ns, rfl, u0, u1, _, pw, rg, _⟩ := isb_form (g.each b (List.mem_of_getElem? hb))
    have nl8 := pw_len pw rg
    have so := so.same (same_new hT (.tup [.int i, x]))
    have hTT : upd H2 TT (.tup [.int i, x]) TT = some (.tup [.int i, x]) := upd_same
    generalize upd H2 TT (.tup [.int i, x]) = H3 at so hTT ⊢
    obtain ⟨p1, ys1, rfl, hp1, xu, r1, rfl, hu, xl, r2, rfl, hlo, xh, r3, rfl, hh, xk, r4, rfl, hk, hnil⟩ := dn_tup (Dn.same so.1 _ _ hd)
    cases (show r4 = [] from hnil)
    cases dn_int hu
    cases dn_int hlo
    cases dn_int hh
    obtain ⟨pk, zs, rfl, hpk, hzs⟩ := dn_tup hk
    rw [dnl_ints hzs] at hpk
    refine ⟨TT, _, rfl, sqT hTT, rfl, _, _, rfl, _, _, rfl, p1, _, rfl, sqT hp1, rfl, _, _, rfl, _, _, rfl, _, _, rfl, _, _, rfl, rfl, rfl, ?_⟩
    refine ⟨_, rfl, pk, rfl, ⟨_, sqT hpk⟩, ?_⟩
    refine for_tup (K := K) (a := pk) (xs := ns.map V.int) (fun j σ H4 => (∃ v9 v10 v11, σ = [some (.ref pb), some (.int many), some (.int cell), some (.ref sl), some (.int i), some (.int up), some (.int lo), some (.int hi'), some (.ref pk), v9, v10, v11]) ∧ SomeOk many sl H H4 (i * 81 + j * 9) ∧ H4 pk = some (.tup (ns.map V.int))) ⟨⟨_, _, _, rfl⟩, so, hpk⟩ (fun j σ H4 _ z => sqT z.2.2) ?_ ?_
    · rintro j y σ H4 hy ⟨⟨v9, v10, v11, rfl⟩, so4, hpk4⟩
      rw [List.getElem?_map] at hy
      obtain ⟨k, hk0, rfl⟩ := Option.map_eq_some_iff.mp hy
      have kin := List.mem_of_getElem? hk0
      have j8 : j < ns.length := (List.getElem?_eq_some_iff.mp hk0).1
      refine ⟨_, rfl, _, _, rfl, rfl, _, rfl, _, _, rfl, ⟨by rw [p62]; omega, by rw [p62]; omega, by rw [p62]; omega, by rw [p62]; omega⟩, ?_⟩
      refine for_range (lo := up + 1) (n := (many - (up + 1)).toNat) (fun t σ H5 => (∃ v10 v11, σ = [some (.ref pb), some (.int many), some (.int cell), some (.ref sl), some (.int i), some (.int up), some (.int lo), some (.int hi'), some (.ref pk), some (.int k), v10, v11]) ∧ SomeOk many sl H H5 (i * 81 + j * 9 + t) ∧ H5 pk = some (.tup (ns.map V.int))) ⟨⟨_, _, rfl⟩, so4, hpk4⟩ ?_ ?_
      · rintro t σ H5 ht ⟨⟨v10, v11, rfl⟩, so5, hpk5⟩
        obtain ⟨o, ho⟩ : ∃ o, o = up + 1 + (t : Int) := ⟨_, rfl⟩
        rw [← ho]
        refine ⟨_, rfl, _, rfl, pk, _, rfl, .inr (sqT hpk5), rfl, flat_ints ns, _, rfl, ?_⟩
        refine ite2 (fun c => ?_) (fun c => ?_)
        · have c' : (!inV (.int o) (ns.map V.int)) = true := c
          rw [inV_ints, Bool.not_eq_true', decide_eq_false_iff_not] at c'
          refine ⟨_, rfl, pk, rfl, ⟨_, sqT hpk5⟩, ?_⟩
          have fl8 : ∀ l : List Int, (l.filter fun n => !decide (n = k)).length ≤ l.length := fun l => List.length_filter_le _ _
          refine lc_tup (K := K) (a := pk) (xs := ns.map V.int) (fun q ys σ H6 => (∃ v, σ = [v, some (.int k)]) ∧ H6 = H5 ∧ ys = ((ns.take q).filter fun n => !decide (n = k)).map V.int) ⟨⟨none, rfl⟩, rfl, rfl⟩ (fun q ys σ H6 hq pv => ?_) (fun q ys σ H6 hq pv => by rw [pv.2.1]; exact sqT hpk5) (fun q y ys σ H6 hy2 pv => ?_) (fun ys σ H6 pv l1 hl1 => ?_)
          · rw [pv.2.2, List.length_map]
            have z := fl8 (ns.take q)
            rw [List.length_take] at z
            exact small (by omega)
          · obtain ⟨⟨v, rfl⟩, rfl, rfl⟩ := pv
            rw [List.getElem?_map] at hy2
            obtain ⟨n, hn, rfl⟩ := Option.map_eq_some_iff.mp hy2
            obtain ⟨hq, en⟩ := List.getElem?_eq_some_iff.mp hn
            refine ⟨_, rfl, _, rfl, rfl, _, rfl, ?_⟩
            have ev : decide (V.int n = V.int k) = decide (n = k) := by rw [dec_int]; rfl
            rw [ev, List.take_succ_eq_append_getElem hq, en, List.filter_append, List.map_append]
            refine ite2 (fun c2 => ?_) (fun c2 => ?_)
            · refine ⟨_, rfl, ⟨_, rfl⟩, rfl, ?_⟩
              rw [List.filter_cons, if_pos c2]
              rfl
            · refine ⟨⟨_, rfl⟩, rfl, ?_⟩
              rw [List.filter_cons, if_neg c2]
              simp
          obtain ⟨_, rfl, rfl⟩ := pv
          rw [List.length_map, List.take_length]
          have f8 := fl8 ns
          generalize hfn : (ns.filter fun n => !decide (n = k)) = fn at f8 ⊢
          have s6 := same_new hl1 (.lst (fn.map V.int))
          refine ⟨_, rfl, small (by show 1 ≤ 1000; decide), fun l2 hl2 => ?_⟩
          have s7 := same_new hl2 (.lst [.int o])
          refine ⟨l1, l2, _, _, rfl, rfl, s7 _ _ upd_same, upd_same, by rw [List.length_map]; exact small (by show _ + 1 ≤ 1000; omega), fun l3 hl3 => ?_⟩
          have s8 := same_new hl3 (.lst (fn.map V.int ++ [.int o]))
          refine ⟨l3, fn ++ [o], rfl, SqL.of (by rw [upd_same, List.map_append]; rfl), by rw [List.length_append]; show _ + 1 < 64; omega, fun ms pm pws ml hml => ?_⟩
          have s9 := same_new hml (.lst (ms.map V.int))
          refine ⟨ml, _, rfl, .inl ⟨SqL.of upd_same, fun tp htp => ?_⟩⟩
          have s10 := same_new htp (.tup (ms.map V.int))
          have sA := s6.trans (s7.trans (s8.trans (s9.trans s10)))
          have etp : upd (upd (upd (upd (upd H6 l1 (.lst (fn.map V.int))) l2 (.lst [.int o])) l3 (.lst (fn.map V.int ++ [.int o]))) ml (.lst (ms.map V.int))) tp (.tup (ms.map V.int)) tp = some (.tup (ms.map V.int)) := upd_same
          generalize upd (upd (upd (upd (upd H6 l1 (.lst (fn.map V.int))) l2 (.lst [.int o])) l3 (.lst (fn.map V.int ++ [.int o]))) ml (.lst (ms.map V.int))) tp (.tup (ms.map V.int)) = H7 at sA etp ⊢
          have so7 := so5.same sA
          obtain ⟨_, hsl7, _⟩ := so7.2
          refine ⟨_, rfl, .inl ⟨rfl, _, SqL.of hsl7⟩, ?_⟩
          have env : EnvD [some (.ref pb), some (.int many), some (.int cell), some (.ref sl), some (.int i), some (.int up), some (.int lo), some (.int hi'), some (.ref pk), some (.int k), some (.int o), some (.ref tp)] H7 [some (.list bs), none, none, none, some (.int i), some (.int up), some (.int lo), some (.int hi'), none, none, none, some (.tuple (ms.map PyData.int))] :=
            .cons ⟨pb, xs, rfl, so7.1 _ _ hp, DnL.same so7.1 _ _ hl⟩ (.skip (.skip (.skip (.cons rfl (.cons rfl (.cons rfl (.cons rfl (.skip (.skip (.skip (.cons ⟨tp, _, rfl, etp, ints_dnl ms⟩ .nil)))))))))))
          have ca := cut_len (ds := bs) (lo := none) (hi := some (i : Int))
          have cb := cut_len (ds := bs) (lo := some ((i : Int) + 1)) (hi := none)
          have gg := gdl_cons (gd_cat (gd_cat (gd_slL (K := (cxOf CX0 P w K mg base ["_law_boughs_here", "_law_many_here", "_law_cell", "_law_some", "_law_at", "_law_up", "_law_low", "_law_high", "_law_kids", "_law_k", "_law_other", "_law_new"] "_law_twice_and_none" (defScope s_law_twice_and_none) a.f_law_twice_and_none cdv A outer s H E).nox.K) (te := tVar 0) (es := [some (.list bs), none, none, none, some (.int i), some (.int up), some (.int lo), some (.int hi'), none, none, none, some (.tuple (ms.map PyData.int))]) (gd_var rfl) gdo_none (gdo_some (te := tVar 4) (gd_var rfl))) (gd_lst (gdl_cons (gd_tup (gdl_cons (ta := tVar 5) (gd_var rfl) (gdl_cons (ta := tVar 6) (gd_var rfl) (gdl_cons (ta := tVar 7) (gd_var rfl) (gdl_cons (ta := tVar 11) (gd_var rfl) gdl_nil)))) (Nat.le_of_ble_eq_true rfl)) gdl_nil) (Nat.le_of_ble_eq_true rfl)) (by show _ + 1 ≤ 1000; omega)) (gd_slL (K := (cxOf CX0 P w K mg base ["_law_boughs_here", "_law_many_here", "_law_cell", "_law_some", "_law_at", "_law_up", "_law_low", "_law_high", "_law_kids", "_law_k", "_law_other", "_law_new"] "_law_twice_and_none" (defScope s_law_twice_and_none) a.f_law_twice_and_none cdv A outer s H E).nox.K) (te := tVar 0) (gd_var rfl) (gdo_some (gd_op (g := fun i j => .int (i + j)) (ta := tVar 4) (gd_var rfl) (gd_int (i := 1)) rfl)) gdo_none) (by rw [List.length_append]; show _ + 1 + _ ≤ 1000; omega)) gdl_nil
          refine gg _ _ _ env fun vs H8 s11 hvs => ?_
          obtain ⟨v, r, rfl, hv, hr0⟩ := hvs
          cases (show r = [] from hr0)
          have e1 : cutD bs none (some (i : Int)) = bs.take i := cutD_take (by omega)
          have e2 : cutD bs (some ((i : Int) + 1)) none = bs.drop (i + 1) := cutD_drop (k := i + 1) (by omega)
          rw [e1, e2] at hv
          have pl := pm.length_eq
          rw [List.length_append] at pl
          have pl2 : ms.length ≤ 20 := by
            have : [o].length = 1 := rfl
            omega
          have bd := bad_kid g m9 b8 hb kin c' (by rw [hfn]; exact pm) pl2
          have fb : flatD 3 (bghD up lo hi' ms) = true := bgh_flat _ _ _ _ (by omega)
          have flt : (bs.take i ++ [bghD up lo hi' ms] ++ bs.drop (i + 1)).all (flatD 3) = true := by
            have gf := good_flat g m9
            rw [List.all_eq_true] at gf ⊢
            intro z hz
            rcases List.mem_append.mp hz with hz | hz
            · rcases List.mem_append.mp hz with hz | hz
              · exact gf z (List.take_subset _ _ hz)
              · rw [List.mem_singleton.mp hz]
                exact fb
            · exact gf z (List.drop_subset _ _ hz)
          obtain ⟨ys8, h81, h82, so8⟩ := SomeOk.put (so7.same s11) hsl hv (f := bghD up lo hi' ms) (List.mem_append_left _ (List.mem_append_right _ List.mem_cons_self)) rfl flt bd
          refine ⟨sl, ys8, v, rfl, rfl, h81, small1000 (by omega), ⟨_, _, rfl⟩, so8.mono (by omega), ?_⟩
          have hpk8 := (sA.trans s11) _ _ hpk5
          rw [upd_ne (fun z => by rw [z] at hpk8; rw [hpk8] at h81; cases h81)]
          exact hpk8
        · exact ⟨⟨_, _, rfl⟩, so5.mono (by omega), hpk5⟩
      · rintro σ H5 ⟨⟨v10, v11, rfl⟩, so5, hpk5⟩
        exact ⟨⟨_, _, _, rfl⟩, so5.mono (by omega), hpk5⟩
    · rintro σ H4 ⟨⟨v9, v10, v11, rfl⟩, so4, hpk4⟩
      rw [List.length_map] at so4
      exact ⟨⟨_, _, _, _, _, _, _, _, rfl⟩, so4.mono (by omega)⟩
  · rintro σ H2 ⟨⟨v4, v5, v6, v7, v8, v9, v10, v11, rfl⟩, s0, ys, h1, h2, h3⟩
    refine ⟨_, rfl, small (by decide), fun l2 hl2 => ?_⟩
    have s2 := same_new hl2 (.lst [])
    refine ⟨sl, l2, ys, rfl, rfl, s2 _ _ h1, upd_same, _, rfl, ?_⟩
    refine ite2 (fun c => ?_) (fun c => ?_)
    · refine ⟨_, rfl, _, rfl, pb, _, rfl, SqL.of (s2 _ _ (s0 _ _ hp)), fun l4 hl4 => ?_⟩
      have e1 : cutD bs (some 1) none = bs.take 0 ++ bs.drop (0 + 1) := cutD_drop (k := 1) (bough_nonempty g m2)
      have bd := bad_out g m9 b8 (j := 0) (bough_nonempty g m2)
      rw [← e1] at bd
      exact q _ _ _ ((s0.trans s2).trans (same_new hl4 _)) ⟨l4, _, rfl, upd_same, (DnL.same ((s0.trans s2).trans (same_new hl4 _)) _ _ hl).cut (some 1) none⟩ bd
    · have ne : ys ≠ [] := fun z => c (decide_eq_true z)
      have yl : 0 < ys.length := List.length_pos_iff.mpr ne
      have hi : (cell % (ys.length : Int)).toNat < ys.length := by
        have := Int.emod_lt_of_pos cell (show (0 : Int) < ys.length by omega)
        have := Int.emod_nonneg cell (show (ys.length : Int) ≠ 0 by omega)
        omega
      have at' : atI ys (cell % (ys.length : Int)) = some ys[(cell % (ys.length : Int)).toNat] := by
        have e := atI_nat (List.getElem?_eq_getElem hi)
        rwa [Int.toNat_of_nonneg (Int.emod_nonneg cell (show (ys.length : Int) ≠ 0 by omega))] at e
      obtain ⟨l, zs, fs, e, ne', a1, b1, c1, d1⟩ := h3 _ (List.getElem_mem hi)
      refine ⟨_, rfl, _, rfl, _, rfl, sl, _, rfl, .inl (SqL.of (s2 _ _ h1)), _, _, rfl, rfl, by show (0 : Int) < _; omega, sl, _, _, _, rfl, rfl, SqL.of (s2 _ _ h1), at', ?_⟩
      rw [e]
      exact q _ fs _ (s0.trans s2) ⟨l, zs, rfl, s2 _ _ a1, DnL.same s2 _ _ b1⟩ d1

end
section
variable {P : Program} {w : World} {K : PySem.W.Frag} {mg : Str → Option Value} {base : Heap} {a : Adr} {d : Fds}
theorem ok_law_turned (T : Txt K mg a d) : FnOk P w K mg base CX0 1 a.f_law_turned d.f_law_turned ["_law_boughs_here", "_law_cell"] spTurned := by
  refine T.K_law_turned.ok sc_law_turned (fun vs H Q E h => ?_) (fun cdv A outer s H vs Q E hr h => ?_)
  · obtain ⟨pb, cell, many, xs, bs, rfl, _⟩ := h
    rfl
  obtain ⟨pb, cell, many, xs, bs, rfl, hp, hl, g, m9, b8, c0, q⟩ := h
  refine ⟨_, (pss_cons (ps_setLc (i := 2) sc_law_turned.nd rfl rfl rfl (sc0 := defScope s_law_turned) (XN := ["_law_boughs_here", "_law_cell", "_law_some", "_law_pair", "_law_found", "_law_up", "_law_low", "_law_high", "_law_kids", "_law_names", "_law_k"]) (N' := ["_law_bough"]) (n := 1) (kp := []) rfl (piL (K := K) (pv 0)) rfl rfl (by decide +kernel) (fun _ _ _ _ _ => (pg_name (i := 0) (by show List.Nodup (["_law_bough"] : List Str); decide +kernel) rfl (Or.inl rfl))) (fun _ _ _ _ _ => (pts_one (pt_cmpR op_gt (pe_ix (ixT (K := K)) (pv 0) pe_int (fun _ _ => rfl)) pe_int (nomark _)))) (fun _ _ _ _ _ => (pv 0)))
      (pss_cons (ps_if (pt_cmpR (op_eq_nil hr.units) (pv 2) (pe_lst pa_nil) (nomark _)) (pss_one (ps_ret (pe_lst pa_nil))) pss_nil)
      (pss_cons (ps_set (i := 3) sc_law_turned.nd rfl (Or.inl rfl) (pe_lst (pa_cons (pe_ix (ixT (K := K)) (pe_ix (ixL (K := K)) (pv 2) (pe_op op_mod (pv 1) (pe_callB (lenS (K := K)) rfl T.m_len PySem.boot_len (pa_cons (pv 2) pa_nil))) (fun _ _ => rfl)) pe_int (fun _ _ => rfl)) (pa_cons (pe_ix (ixT (K := K)) (pe_ix (ixT (K := K)) (pe_ix (ixL (K := K)) (pv 2) (pe_op op_mod (pv 1) (pe_callB (lenS (K := K)) rfl T.m_len PySem.boot_len (pa_cons (pv 2) pa_nil))) (fun _ _ => rfl)) pe_int (fun _ _ => rfl)) pe_int (fun _ _ => rfl)) pa_nil))))
      (pss_cons (ps_set (i := 4) sc_law_turned.nd rfl (Or.inl rfl) (pe_lst pa_nil))
      (pss_cons (ps_for PassesOwn.never rfl (piL (K := K) (pv 0)) (pgT (K := K) (n := 4) rfl (pgs_cons (pg_name (i := 5) sc_law_turned.nd rfl (Or.inl rfl)) (pgs_cons (pg_name (i := 6) sc_law_turned.nd rfl (Or.inl rfl)) (pgs_cons (pg_name (i := 7) sc_law_turned.nd rfl (Or.inl rfl)) (pgs_cons (pg_name (i := 8) sc_law_turned.nd rfl (Or.inl rfl)) pgs_nil))))) (pss_cons (ps_set (i := 9) sc_law_turned.nd rfl (Or.inl rfl) (pe_lst pa_nil))
      (pss_cons (ps_for PassesOwn.never rfl (piT (K := K) (pe_op op_catA (pe_tup (pa_cons (pv 5) pa_nil)) (pv 8))) (pg_name (i := 10) sc_law_turned.nd rfl (Or.inl rfl)) (pss_one (ps_expr (pe_bmK (K := K) PySem.F.plainAttrs_list PySem.F.slot_list_append PySem.F.type_list_append mt_append (pv 9) (pa_cons (pe_ix (ixL (K := K)) (pe_lst (pa_cons (pv 10) (pa_cons (pe_op op_sub (pe_callB (call_sum_ints rfl) rfl T.m_sum PyProof.Rows.boot_sum (pa_cons (pv 3) pa_nil)) (pv 10)) pa_nil))) (pe_callTy call_int1 rfl T.m_int PyProof.Rows.boot_int (pa_cons (pe_cmpR (inS (K := K)) (pv 10) (pv 3) (by with_unfolding_all rfl)) pa_nil)) (fun _ _ => rfl)) pa_nil)))))
      (pss_one (ps_expr (pe_bmK (K := K) PySem.F.plainAttrs_list PySem.F.slot_list_append PySem.F.type_list_append mt_append (pv 4) (pa_cons (pe_tup (pa_cons (pe_ix (ixL (K := K)) (pv 9) pe_int (fun _ _ => rfl)) (pa_cons (pv 6) (pa_cons (pv 7) (pa_cons (pe_callTy call_tuple_of rfl T.m_tuple PyProof.Rows.boot_tuple (pa_cons (pe_callB call_sorted rfl T.m_sorted PyProof.Rows.boot_sorted (pa_cons (pe_slice sl_list (pv 9) (po_some pe_int) po_none) pa_nil)) pa_nil)) pa_nil))))) pa_nil)))))))
      (pss_one (ps_ret (pv 4)))))))), ?_⟩
  refine ⟨_, rfl, pb, rfl, ⟨xs, SqL.of hp⟩, ?_⟩
  refine lc_list (K := K) (a := pb) (xs := xs) (fun i ys σ H2 => (∃ v, σ = [v]) ∧ H2 = H ∧ ys.length ≤ i ∧ ∃ fs, DnL H fs ys ∧ ∀ f ∈ fs, f ∈ bs) ⟨⟨none, rfl⟩, rfl, Nat.le_refl _, [], rfl, fun f hf => by simp at hf⟩ (fun i ys σ H2 hi pv => small (by have := hl.length; have := pv.2.2.1; omega)) (fun i ys σ H2 hi pv => by rw [pv.2.1]; exact SqL.of hp) (fun i x ys σ H2 hx pv => ?_) (fun ys σ H2 pv l hl3 => ?_)
  · obtain ⟨⟨v, rfl⟩, rfl, hi, fs, hf, hm⟩ := pv
    obtain ⟨b, hb, hd⟩ := hl.get hx
    have mb := List.mem_of_getElem? hb
    obtain ⟨up, lo, hi', ns, rfl, _⟩ := isb_form (g.each b mb)
    have hd0 := hd
    obtain ⟨p1, ys1, rfl, hp1, xu, r1, rfl, hu, _⟩ := dn_tup hd
    cases dn_int hu
    refine ⟨_, rfl, p1, _, _, _, rfl, rfl, sqT hp1, at0, _, _, rfl, rfl, _, rfl, ?_⟩
    refine ite2 (fun c => ?_) (fun c => ?_)
    · refine ⟨_, rfl, ⟨_, rfl⟩, rfl, by rw [List.length_append]; simp; omega, fs ++ [_], hf.append ⟨_, [], rfl, hd0, rfl⟩, fun f hf2 => ?_⟩
      rcases List.mem_append.mp hf2 with z | z
      · exact hm f z
      · rw [List.mem_singleton.mp z]
        exact mb
    · exact ⟨⟨_, rfl⟩, rfl, by omega, fs, hf, hm⟩
  obtain ⟨_, rfl, hi, fs, hf, hm⟩ := pv
  have s1 := same_new hl3 (.lst ys)
  have h1 : upd H2 l (.lst ys) l = some (.lst ys) := upd_same
  generalize upd H2 l (.lst ys) = H1 at s1 h1 ⊢
  have hf1 := DnL.same s1 _ _ hf
  refine ⟨_, rfl, small (by decide), fun l2 hl2 => ?_⟩
  have s2 := same_new hl2 (.lst [])
  have h2 : upd H1 l2 (.lst []) l2 = some (.lst []) := upd_same
  have h12 := s2 _ _ h1
  have hf2 := DnL.same s2 _ _ hf1
  generalize upd H1 l2 (.lst []) = H3 at s2 h2 h12 hf2 ⊢
  refine ⟨l, l2, ys, rfl, rfl, h12, h2, _, rfl, ?_⟩
  refine ite2 (fun c => ?_) (fun c => ?_)
  · exact ⟨small (by decide), fun l4 hl4 => q l4 [] [] _ ((s1.trans s2).trans (same_new hl4 _)) upd_same rfl rfl (.inl rfl)⟩
  have ne : ys ≠ [] := fun z => c (decide_eq_true z)
  have yl : 0 < ys.length := List.length_pos_iff.mpr ne
  have fl0 := hf2.length
  have s3 := s1.trans s2
  have hd3 : Dn H3 (.list bs) (.ref pb) := ⟨pb, xs, rfl, s3 _ _ hp, DnL.same s3 _ _ hl⟩
  have env : EnvD [some (.ref pb), some (.int cell), some (.ref l), none, none, none, none, none, none, none, none] H3 [some (.list bs), some (.int cell), some (.list fs), none, none, none, none, none, none, none, none] := .cons hd3 (.cons rfl (.cons ⟨l, ys, rfl, h12, hf2⟩ (EnvD.hole 8)))
  obtain ⟨f, fm, fat⟩ := at_lt (ds := fs) (i := cell % (fs.length : Int)) (Int.emod_nonneg _ (by omega)) (Int.emod_lt_of_pos _ (by omega))
  obtain ⟨u, lo0, hi0, ns0, rfl, _, _, ne0, _⟩ := isb_form (g.each f (hm f fm))
  obtain ⟨k, ns0, rfl⟩ : ∃ k t, ns0 = k :: t := by
    cases ns0 with
    | nil => exact absurd rfl ne0
    | cons x t => exact ⟨x, t, rfl⟩
  dsimp only
  have gi : Gd (tOp (rIxL K) (tVar 2) (tOp (rI (fun x j => 0 < j) fun i j => V.int (i % j)) (tVar 1) (tCB (fun xs H Q => ∃ p ys, xs = [.ref p] ∧ (SqL K H p ys ∨ SqT K H p ys) ∧ Q (.int ys.length) H) (tCons (tVar 2) tNil)))) [some (.list bs), some (.int cell), some (.list fs), none, none, none, none, none, none, none, none] (bghD u lo0 hi0 (k :: ns0)) :=
    gd_ixL (gd_var rfl) (gd_opC (gd_var rfl) (gd_lenL (gdl_cons (gd_var rfl) gdl_nil)) (by show (0 : Int) < _; omega) rfl) fat
  refine gs_setV (d := .list [.int u, .int k]) (gd_lst (gdl_cons (gd_ixT gi gd_int (atI_nat (j := 0) rfl)) (gdl_cons (gd_ixT (gd_ixT gi gd_int (atI_nat (j := 3) rfl)) gd_int (atI_nat (j := 0) rfl)) gdl_nil)) (Nat.le_of_ble_eq_true rfl)) env fun v3 H4 s4 hv3 => ?_
  obtain ⟨pp, _, rfl, hpp, _, _, rfl, e1, _, _, rfl, e2, e3⟩ := hv3
  cases dn_int e1
  cases dn_int e2
  cases (show _ = [] from e3)
  refine ⟨small (by decide), fun fl hfl => ?_⟩
  have s04 := s3.trans s4
  refine ⟨_, rfl, pb, rfl, ⟨xs, SqL.of ((same_new hfl _) _ _ (s04 _ _ hp))⟩, ?_⟩
  refine for_list (K := K) (a := pb) (xs := xs) (fun i σ H5 => (∃ v5 v6 v7 v8 v9 v10, σ = [some (.ref pb), some (.int cell), some (.ref l), some (.ref pp), some (.ref fl), v5, v6, v7, v8, v9, v10]) ∧ Same H4 H5 ∧ ∃ ys fs', H5 fl = some (.lst ys) ∧ DnL H5 fs' ys ∧ fs'.length = i ∧ fs'.all (flatD 3) = true ∧ ∀ (t : Nat) (b : PyData), t < i → bs[t]? = some b → ∃ f, fs'[t]? = some f ∧ TurnB u k b f) ⟨⟨none, none, none, none, none, none, rfl⟩, same_new hfl _, [], [], upd_same, rfl, rfl, rfl, fun t b ht => by omega⟩ (fun i σ H5 _ z => SqL.of (z.2.1 _ _ (s04 _ _ hp))) ?_ ?_
  · rintro i x σ H5 hx ⟨⟨v5, v6, v7, v8, v9, v10, rfl⟩, s5, ys5, fs5, hfl5, hd5, hl5, hfa, ht5⟩
    obtain ⟨b, hb, hdb⟩ := hl.get hx
    obtain ⟨up, lo, hi', ns, rfl, _, _, _, pw, rg, _⟩ := isb_form (g.each b (List.mem_of_getElem? hb))
    have nl8 := pw_len pw rg
    obtain ⟨p1, ys1, rfl, hp1, xu, r1, rfl, hu, xl, r2, rfl, hlo, xh, r3, rfl, hh, xk, r4, rfl, hk, hnil⟩ := dn_tup (Dn.same (s04.trans s5) _ _ hdb)
    cases (show r4 = [] from hnil)
    cases dn_int hu
    cases dn_int hlo
    cases dn_int hh
    obtain ⟨pk, zs, rfl, hpk, hzs⟩ := dn_tup hk
    rw [dnl_ints hzs] at hpk
    refine ⟨p1, _, rfl, sqT hp1, rfl, _, _, rfl, _, _, rfl, _, _, rfl, _, _, rfl, rfl, ?_⟩
    refine ⟨small (by decide), fun nl hnl => ?_⟩
    have s6 := same_new hnl (.lst [])
    refine ⟨_, rfl, small (by show 1 ≤ 1000; decide), fun t1 ht1 => ?_⟩
    have s7 := s6.trans (same_new ht1 (.tup [.int up]))
    refine ⟨_, rfl, t1, pk, _, _, rfl, rfl, upd_same, s7 _ _ hpk, by rw [List.length_map]; exact small (by show 1 + _ ≤ 1000; omega), fun c H6 s8 hc => ?_⟩
    have s9 := s7.trans s8
    have hnl6 : H6 nl = some (.lst []) := s8 _ _ ((same_new ht1 _) _ _ upd_same)
    refine ⟨c, rfl, ⟨_, sqT hc⟩, ?_⟩
    have ez : [V.int up] ++ ns.map V.int = (up :: ns).map V.int := rfl
    rw [ez] at hc
    refine for_tup (K := K) (a := c) (xs := (up :: ns).map V.int) (fun j σ H7 => (∃ v10, σ = [some (.ref pb), some (.int cell), some (.ref l), some (.ref pp), some (.ref fl), some (.int up), some (.int lo), some (.int hi'), some (.ref pk), some (.ref nl), v10]) ∧ Same H5 H7 ∧ H7 c = some (.tup ((up :: ns).map V.int)) ∧ H7 nl = some (.lst (((up :: ns).take j).map fun x => V.int (xch u k x)))) ⟨⟨_, rfl⟩, s9, hc, hnl6⟩ (fun j σ H7 _ z => sqT z.2.2.1) ?_ ?_
    · rintro j y σ H7 hy ⟨⟨v10, rfl⟩, s10, hc7, hn7⟩
      rw [List.getElem?_map] at hy
      obtain ⟨y0, hy0, rfl⟩ := Option.map_eq_some_iff.mp hy
      obtain ⟨hj, ej⟩ := List.getElem?_eq_some_iff.mp hy0
      rw [List.length_cons] at hj
      have hpp7 := s10 _ _ (s5 _ _ hpp)
      refine ⟨_, rfl, .inl ⟨rfl, _, SqL.of hn7⟩, ?_⟩
      refine ⟨_, rfl, _, rfl, pp, [u, k], rfl, SqL.of hpp7, _, rfl, _, _, rfl, rfl, small (by show 2 ≤ 1000; decide), fun tl htl => ?_⟩
      have s11 := same_new htl (.lst [.int y0, .int (List.sum [u, k] - y0)])
      refine ⟨_, rfl, _, rfl, pp, _, rfl, .inl (SqL.of (s11 _ _ hpp7)), rfl, rfl, .inr ⟨_, rfl, ?_⟩⟩
      refine ⟨tl, _, _, _, rfl, rfl, SqL.of upd_same, xch_at, ?_⟩
      refine ⟨nl, _, _, rfl, rfl, s11 _ _ hn7, ?_, ?_⟩
      · rw [List.length_map, List.length_take]
        exact small1000 (by rw [List.length_cons]; omega)
      · have hfr : H5 nl = none := hnl
        refine ⟨⟨_, rfl⟩, Wd.Same.put (s10.trans s11) hfr (s11 _ _ hn7), ?_, ?_⟩
        · rw [upd_ne (fun z => by rw [z] at hc7; rw [hn7] at hc7; cases hc7)]
          exact s11 _ _ hc7
        · rw [upd_same, List.take_succ_eq_append_getElem (by rw [List.length_cons]; exact hj), List.map_append, ej]
          rfl
    · rintro σ H7 ⟨⟨v10, rfl⟩, s10, hc7, hn7⟩
      rw [List.length_map, List.take_length] at hn7
      have hfl7 := s10 _ _ hfl5
      refine ⟨_, rfl, .inl ⟨rfl, _, SqL.of hfl7⟩, ?_⟩
      refine ⟨_, rfl, nl, _, _, _, rfl, rfl, SqL.of hn7, at0, _, rfl, _, rfl, ?_⟩
      refine ⟨_, rfl, _, rfl, nl, _, rfl, SqL.of hn7, fun sl hsl => ?_⟩
      have ecut : cutV ((up :: ns).map fun x => V.int (xch u k x)) (some 1) none = (ns.map (xch u k)).map V.int := by
        unfold cutV
        rw [show HT.sIx ((up :: ns).map fun x => V.int (xch u k x)).length 0 (some 1) = 1 from by rw [show (1 : Int) = ((1 : Nat) : Int) from rfl, HT.sIx_nat, List.length_map, List.length_cons]; omega, HT.sIx_none, List.map_map]
        exact List.take_of_length_le (by rw [List.length_drop]; omega)
      have sa := same_new hsl (.lst (cutV ((up :: ns).map fun x => V.int (xch u k x)) (some 1) none))
      have ha : upd H7 sl (.lst (cutV ((up :: ns).map fun x => V.int (xch u k x)) (some 1) none)) sl = some (.lst ((ns.map (xch u k)).map V.int)) := by rw [upd_same, ecut]
      generalize upd H7 sl (.lst (cutV ((up :: ns).map fun x => V.int (xch u k x)) (some 1) none)) = Ha at sa ha ⊢
      refine ⟨sl, ns.map (xch u k), rfl, SqL.of ha, by rw [List.length_map]; omega, fun ms pm pws ml hml => ?_⟩
      have sb := same_new hml (.lst (ms.map V.int))
      refine ⟨ml, _, rfl, .inl ⟨SqL.of upd_same, fun tp htp => ?_⟩⟩
      have sc := same_new htp (.tup (ms.map V.int))
      refine ⟨small (by show 4 ≤ 1000; decide), fun bt hbt => ?_⟩
      have sd := same_new hbt (.tup [.int (xch u k up), .int lo, .int hi', .ref tp])
      have etp : upd (upd (upd Ha ml (.lst (ms.map V.int))) tp (.tup (ms.map V.int))) bt (.tup [.int (xch u k up), .int lo, .int hi', .ref tp]) tp = some (.tup (ms.map V.int)) := sd _ _ upd_same
      have ebt : upd (upd (upd Ha ml (.lst (ms.map V.int))) tp (.tup (ms.map V.int))) bt (.tup [.int (xch u k up), .int lo, .int hi', .ref tp]) bt = some (.tup [.int (xch u k up), .int lo, .int hi', .ref tp]) := upd_same
      have se := sa.trans (sb.trans (sc.trans sd))
      generalize upd (upd (upd Ha ml (.lst (ms.map V.int))) tp (.tup (ms.map V.int))) bt (.tup [.int (xch u k up), .int lo, .int hi', .ref tp]) = He at etp ebt se ⊢
      have hfle := se _ _ hfl7
      have ly := hd5.length
      have li : i < bs.length := (List.getElem?_eq_some_iff.mp hb).1
      refine ⟨fl, _, _, rfl, rfl, hfle, small1000 (by omega), ?_⟩
      have fb : flatD 3 (bghD (xch u k up) lo hi' ms) = true := bgh_flat _ _ _ _ (by have := pm.length_eq; rw [List.length_map] at this; omega)
      refine ⟨⟨_, _, _, _, _, _, rfl⟩, Wd.Same.put (s5.trans (s10.trans se)) hfl hfle, ys5 ++ [.ref bt], fs5 ++ [bghD (xch u k up) lo hi' ms], upd_same, ?_, by rw [List.length_append, hl5]; rfl, ?_, ?_⟩
      · refine (DnL.pen hfle hfa (DnL.same (s10.trans se) _ _ hd5)).append ⟨.ref bt, [], rfl, ?_, rfl⟩
        refine Dn.pen hfle fb ⟨bt, _, rfl, ebt, _, _, rfl, rfl, _, _, rfl, rfl, _, _, rfl, rfl, _, _, rfl, ⟨tp, _, rfl, etp, ints_dnl ms⟩, rfl⟩
      · rw [List.all_append, hfa, Bool.true_and, List.all_cons, fb]
        rfl
      · intro t b' ht hb'
        by_cases z : t = i
        · subst z
          rw [hb] at hb'
          cases hb'
          exact ⟨_, by rw [← hl5, List.getElem?_append_right (Nat.le_refl _), Nat.sub_self]; rfl, up, lo, hi', ns, ms, rfl, rfl, pm⟩
        · obtain ⟨f, h1, h2⟩ := ht5 t b' (by omega) hb'
          exact ⟨f, by rw [List.getElem?_append_left (by omega)]; exact h1, h2⟩
  · rintro σ H5 ⟨⟨v5, v6, v7, v8, v9, v10, rfl⟩, s5, ys5, fs5, hfl5, hd5, hl5, hfa, ht5⟩
    refine ⟨_, rfl, q fl fs5 ys5 H5 (s04.trans s5) hfl5 hd5 hfa (.inr ?_)⟩
    rw [← hl.length] at hl5
    exact bad_turn g m9 b8 (hm _ fm) hl5 fun i b hb => ht5 i b (by rw [← hl.length]; exact (List.getElem?_eq_some_iff.mp hb).1) hb

end
section
variable {P : Program} {w : World} {K : PySem.W.Frag} {mg : Str → Option Value} {base : Heap} {a : Adr} {d : Fds}
theorem spo0 {many : Int} {bs cs : List PyData} {d : PyData} (g : GoodB many bs) (m2 : 2 ≤ many) (h : d ∈ [PyData.int 0, .int 10, .int (-1), .bool true, .str ("2" : Str), .none, .int (many - 1), .int (many + 1), .list [.int many], .int (10 ^ 40)]) : ¬ WoodIn d (.list bs) (.list cs) := by
  have p : (9 : Int) < 10 ^ 40 := by decide
  generalize (10 : Int) ^ 40 = t at h p
  simp only [List.mem_cons, List.not_mem_nil, or_false] at h
  have out : ∀ i : Int, (i < 1 ∨ 9 < i) → ¬ WoodIn (.int i) (.list bs) (.list cs) := by
    rintro i hi ⟨m, _, _, e, h1, h2, _⟩
    cases e
    omega
  have no : ∀ d : PyData, isW d = false → ¬ WoodIn d (.list bs) (.list cs) := by
    rintro d hd ⟨m, _, _, rfl, _⟩
    cases hd
  rcases h with rfl | rfl | rfl | rfl | rfl | rfl | rfl | rfl | rfl | rfl
  · exact out _ (by omega)
  · exact out _ (by omega)
  · exact out _ (by omega)
  · exact no _ rfl
  · exact no _ rfl
  · exact no _ rfl
  · exact no_wood_m g (by omega) (by omega)
  · exact no_wood_m g (by omega) (by omega)
  · exact no _ rfl
  · exact out _ (by omega)
theorem spo1 {d0 d1 d2 : PyData} (h : isLst d1 = false ∨ isLst d2 = false) : ¬ WoodIn d0 d1 d2 := by
  rintro ⟨m, _, _, _, _, _, rfl, rfl, _⟩
  rcases h with h | h <;> cases h
theorem ok_law_spoiled (T : Txt K mg a d) : FnOk P w K mg base CX0 2 a.f_law_spoiled d.f_law_spoiled ["_law_many_here", "_law_boughs_here", "_law_cross_here", "_law_cell"] spSpoiled := by
  have G_law_odd_bough := ok_law_odd_bough (P := P) (w := w) (base := base) T
  have G_law_odd_tie := ok_law_odd_tie (P := P) (w := w) (base := base) T
  have G_law_twice_and_none := ok_law_twice_and_none (P := P) (w := w) (base := base) T
  refine T.K_law_spoiled.ok sc_law_spoiled (fun vs H Q E h => ?_) (fun cdv A outer s H vs Q E hr h => ?_)
  · obtain ⟨pb, pc, many, cell, xs, ys, bs, cs, rfl, _⟩ := h
    rfl
  obtain ⟨pb, pc, many, cell, xs, ys, bs, cs, rfl, hp, hl, g, m2, m9, b8, hc, hlc, c8, g3, c0, q⟩ := h
  have hb1 := bough_nonempty g m2
  have fb := good_few g m9 b8
  have fc : FewC (.list cs) := fun cs' e => by
    cases e
    exact ⟨by omega, g3⟩
  have nl : ∀ d1 : PyData, isLst d1 = false → FewB d1 := fun d1 h bs e => by
    rw [e] at h
    cases h
  have nc : ∀ d1 : PyData, isLst d1 = false → FewC d1 := fun d1 h bs e => by
    rw [e] at h
    cases h
  refine ⟨_, (pss_cons (ps_set (i := 4) sc_law_spoiled.nd rfl (Or.inl rfl) (pe_op op_mod (pv 3) pe_int))
      (pss_cons (ps_set (i := 5) sc_law_spoiled.nd rfl (Or.inl rfl) (pe_op op_fdiv (pv 3) pe_int))
      (pss_cons (ps_if (pt_cmpR op_eq (pv 4) pe_int (nomark _)) (pss_cons (ps_set (i := 6) sc_law_spoiled.nd rfl (Or.inl rfl) (pe_lst (pa_cons pe_int (pa_cons pe_int (pa_cons (pe_un un_neg pe_int) (pa_cons pe_bl (pa_cons pe_str (pa_cons pe_non (pa_cons (pe_op op_sub (pv 0) pe_int) (pa_cons (pe_op op_add (pv 0) pe_int) (pa_cons (pe_lst (pa_cons (pv 0) pa_nil)) (pa_cons (pe_op op_pow pe_int pe_int) pa_nil))))))))))))
      (pss_one (ps_ret (pe_tup (pa_cons (pe_ix (ixL (K := K)) (pv 6) (pe_op op_mod (pv 5) pe_int) (fun _ _ => rfl)) (pa_cons (pv 1) (pa_cons (pv 2) pa_nil))))))) pss_nil)
      (pss_cons (ps_if (pt_cmpR op_eq (pv 4) pe_int (nomark _)) (pss_cons (ps_set (i := 7) sc_law_spoiled.nd rfl (Or.inl rfl) (pe_lst (pa_cons (pe_tup (pa_cons (pv 0) (pa_cons (pe_callTy call_tuple_of rfl T.m_tuple PyProof.Rows.boot_tuple (pa_cons (pv 1) pa_nil)) (pa_cons (pv 2) pa_nil)))) (pa_cons (pe_tup (pa_cons (pv 0) (pa_cons (pv 1) (pa_cons (pe_callTy call_tuple_of rfl T.m_tuple PyProof.Rows.boot_tuple (pa_cons (pv 2) pa_nil)) pa_nil)))) (pa_cons (pe_tup (pa_cons (pv 0) (pa_cons pe_non (pa_cons (pv 2) pa_nil)))) pa_nil)))))
      (pss_cons (ps_set (i := 7) sc_law_spoiled.nd rfl (Or.inl rfl) (pe_op op_cat (pv 7) (pe_lst (pa_cons (pe_tup (pa_cons (pv 0) (pa_cons (pv 1) (pa_cons pe_non pa_nil)))) (pa_cons (pe_tup (pa_cons (pv 0) (pa_cons (pv 1) (pa_cons pe_dnewK pa_nil)))) (pa_cons (pe_tup (pa_cons (pv 0) (pa_cons pe_dnewK (pa_cons (pv 2) pa_nil)))) (pa_cons (pe_tup (pa_cons (pv 0) (pa_cons pe_str (pa_cons (pv 2) pa_nil)))) pa_nil)))))))
      (pss_cons (ps_expr (pe_bmK (K := K) PySem.F.plainAttrs_list PySem.F.slot_list_append PySem.F.type_list_append mt_append (pv 7) (pa_cons (pe_tup (pa_cons (pv 0) (pa_cons (pv 1) (pa_cons (@PEi.pe _ _ _ (pei_tup (pai_cons (pei_tup (pai_cons (.of pe_str) (pai_cons (.of pe_int) (pai_cons (.of pe_int) pai_nil)))) pai_nil))) pa_nil)))) pa_nil)))
      (pss_one (ps_ret (pe_ix (ixL (K := K)) (pv 7) (pe_op op_mod (pv 5) pe_int) (fun _ _ => rfl))))))) pss_nil)
      (pss_cons (ps_set (i := 8) sc_law_spoiled.nd rfl (Or.inl rfl) (pe_op op_mod (pv 5) (pe_callB (lenS (K := K)) rfl T.m_len PySem.boot_len (pa_cons (pv 1) pa_nil))))
      (pss_cons (ps_if (pt_cmpR op_eq (pv 4) pe_int (nomark _)) (pss_cons (ps_if (pt_cmpR op_eq (pe_op op_mod (pe_op op_fdiv (pv 5) pe_int) pe_int) pe_int (nomark _)) (pss_one (ps_ret (pe_tup (pa_cons (pv 0) (pa_cons (pe_op op_cat (pv 1) (pe_lst (pa_cons (pe_ix (ixL (K := K)) (pv 1) (pv 8) (fun _ _ => rfl)) pa_nil))) (pa_cons (pv 2) pa_nil)))))) pss_nil)
      (pss_cons (ps_if (pt_cmpR op_gt (pe_op op_mod (pe_op op_fdiv (pv 5) pe_int) pe_int) pe_int (nomark _)) (pss_one (ps_ret (pe_tup (pa_cons (pv 0) (pa_cons (pe_callD G_law_twice_and_none hr.lv rfl T.K_law_twice_and_none (pa_cons (pv 1) (pa_cons (pv 0) (pa_cons (pe_op op_fdiv (pv 5) pe_int) pa_nil)))) (pa_cons (pv 2) pa_nil)))))) pss_nil)
      (pss_one (ps_ret (pe_tup (pa_cons (pv 0) (pa_cons (pe_op op_cat (pe_slice sl_list (pv 1) po_none (po_some (pv 8))) (pe_slice sl_list (pv 1) (po_some (pe_op op_add (pv 8) pe_int)) po_none)) (pa_cons (pv 2) pa_nil)))))))) pss_nil)
      (pss_cons (ps_if (pt_cmpR op_lt (pv 4) pe_int (nomark _)) (pss_one (ps_ret (pe_tup (pa_cons (pv 0) (pa_cons (pe_op op_cat (pe_op op_cat (pe_slice sl_list (pv 1) po_none (po_some (pv 8))) (pe_lst (pa_cons (pe_callD G_law_odd_bough hr.lv rfl T.K_law_odd_bough (pa_cons (pe_ix (ixL (K := K)) (pv 1) (pv 8) (fun _ _ => rfl)) (pa_cons (pv 0) (pa_cons (pe_op op_fdiv (pv 5) pe_int) pa_nil)))) pa_nil))) (pe_slice sl_list (pv 1) (po_some (pe_op op_add (pv 8) pe_int)) po_none)) (pa_cons (pv 2) pa_nil)))))) pss_nil)
      (pss_cons (ps_if (pt_cmpR op_eq (pe_op op_mod (pv 5) pe_int) pe_int (nomark _)) (pss_one (ps_ret (pe_tup (pa_cons (pv 0) (pa_cons (pv 1) (pa_cons (pe_slice sl_list (pe_op op_cat (pv 2) (pe_op op_rep (@PEi.pe _ _ _ (pei_lst (pai_cons (pei_tup (pai_cons (.of pe_str) (pai_cons (.of pe_int) (pai_cons (.of pe_int) pai_nil)))) pai_nil))) pe_int)) po_none (po_some (pe_op op_add pe_int (pe_op op_mod (pe_op op_fdiv (pv 5) pe_int) pe_int)))) pa_nil)))))) pss_nil)
      (pss_cons (ps_set (i := 9) sc_law_spoiled.nd rfl (Or.inl rfl) (pe_slice sl_list (pv 2) po_none (po_some pe_int)))
      (pss_cons (ps_set (i := 10) sc_law_spoiled.nd rfl (Or.inl rfl) (pe_op op_mod (pv 5) (pe_op op_add (pe_callB (lenS (K := K)) rfl T.m_len PySem.boot_len (pa_cons (pv 9) pa_nil)) pe_int)))
      (pss_one (ps_ret (pe_tup (pa_cons (pv 0) (pa_cons (pv 1) (pa_cons (pe_op op_cat (pe_op op_cat (pe_slice sl_list (pv 9) po_none (po_some (pv 10))) (pe_lst (pa_cons (pe_callD G_law_odd_tie hr.lv rfl T.K_law_odd_tie (pa_cons (pv 0) (pa_cons (pe_op op_fdiv (pv 5) pe_int) pa_nil))) pa_nil))) (pe_slice sl_list (pv 9) (po_some (pv 10)) po_none)) pa_nil)))))))))))))))), ?_⟩
  refine ⟨_, rfl, _, _, rfl, rfl, by show (0 : Int) < 6; decide, ?_⟩
  refine ⟨_, rfl, _, _, rfl, rfl, ⟨by decide, by decide⟩, ?_⟩
  have db : Dn H (.list bs) (.ref pb) := ⟨pb, xs, rfl, hp, hl⟩
  have dc : Dn H (.list cs) (.ref pc) := ⟨pc, ys, rfl, hc, hlc⟩
  have env : EnvD [some (.int many), some (.ref pb), some (.ref pc), some (.int cell), some (.int (cell % 6)), some (.int (cell / 6)), none, none, none, none, none] H [some (.int many), some (.list bs), some (.list cs), some (.int cell), some (.int (cell % 6)), some (.int (cell / 6)), none, none, none, none, none] := .cons rfl (.cons db (.cons dc (.cons rfl (.cons rfl (.cons rfl (EnvD.hole 5))))))
  refine ⟨_, rfl, rfl, _, rfl, ?_⟩
  refine ite2 (fun w0 => ?_) (fun w0 => ?_)
  · refine gs_set (d := .list [.int 0, .int 10, .int (-1), .bool true, .str ("2" : Str), .none, .int (many - 1), .int (many + 1), .list [.int many], .int (10 ^ 40)]) (by repeat' (first | exact gdl_nil | refine gdl_cons ?_ ?_ | refine gd_tup ?_ ?_ | refine gd_lst ?_ ?_ | exact gd_int | exact gd_str | exact gd_non | exact gd_bl | exact gd_dict | exact gd_var rfl | refine gd_neg ?_ | refine gd_op ?_ ?_ rfl | exact gd_pw ⟨by decide, by decide, by decide⟩ | refine gd_opC ?_ ?_ ?_ rfl | exact ⟨by decide, by decide⟩ | (show (0 : Int) < _; decide) | refine gd_cat ?_ ?_ ?_ | refine gd_catT ?_ ?_ ?_ | refine gd_slT ?_ ?_ ?_ | exact gdo_none | refine gdo_some ?_ | refine gd_revT ?_ ?_ | exact Nat.le_of_ble_eq_true rfl)) env fun v6 H1 s1 e1 => ?_
    obtain ⟨d0, dm, dat⟩ := at_lt (ds := [PyData.int 0, .int 10, .int (-1), .bool true, .str ("2" : Str), .none, .int (many - 1), .int (many + 1), .list [.int many], .int (10 ^ 40)]) (i := cell / 6 % 10) (by omega) (by show cell / 6 % 10 < (10 : Nat); omega)
    refine gs_ret (d := .tuple [d0, .list bs, .list cs]) (gd_tup (gdl_cons (gd_ixL (gd_var rfl) (by repeat' (first | exact gdl_nil | refine gdl_cons ?_ ?_ | refine gd_tup ?_ ?_ | refine gd_lst ?_ ?_ | exact gd_int | exact gd_str | exact gd_non | exact gd_bl | exact gd_dict | exact gd_var rfl | refine gd_neg ?_ | refine gd_op ?_ ?_ rfl | exact gd_pw ⟨by decide, by decide, by decide⟩ | refine gd_opC ?_ ?_ ?_ rfl | exact ⟨by decide, by decide⟩ | (show (0 : Int) < _; decide) | refine gd_cat ?_ ?_ ?_ | refine gd_catT ?_ ?_ ?_ | refine gd_slT ?_ ?_ ?_ | exact gdo_none | refine gdo_some ?_ | refine gd_revT ?_ ?_ | exact Nat.le_of_ble_eq_true rfl)) dat) (gdl_cons (gd_var rfl) (gdl_cons (gd_var rfl) gdl_nil))) (Nat.le_of_ble_eq_true rfl)) e1 fun v H2 s2 hv => ?_
    exact q _ _ _ v H2 (s1.trans s2) hv fb fc (spo0 g m2 dm)
  refine ⟨_, rfl, rfl, _, rfl, ?_⟩
  refine ite2 (fun w1 => ?_) (fun w1 => ?_)
  · refine gs_set (d := .list [.tuple [.int many, .tuple bs, .list cs], .tuple [.int many, .list bs, .tuple cs], .tuple [.int many, .none, .list cs]]) (by repeat' (first | exact gdl_nil | exact gd_tupL (gdl_cons (gd_var rfl) gdl_nil) | refine gdl_cons ?_ ?_ | refine gd_tup ?_ ?_ | refine gd_lst ?_ ?_ | exact gd_int | exact gd_str | exact gd_non | exact gd_bl | exact gd_dict | exact gd_var rfl | refine gd_neg ?_ | refine gd_op ?_ ?_ rfl | exact gd_pw ⟨by decide, by decide, by decide⟩ | refine gd_opC ?_ ?_ ?_ rfl | exact ⟨by decide, by decide⟩ | (show (0 : Int) < _; decide) | refine gd_cat ?_ ?_ ?_ | refine gd_catT ?_ ?_ ?_ | refine gd_slT ?_ ?_ ?_ | exact gdo_none | refine gdo_some ?_ | refine gd_revT ?_ ?_ | exact Nat.le_of_ble_eq_true rfl)) env fun v7 H1 s1 e1 => ?_
    refine gs_catF (ds := [.tuple [.int many, .tuple bs, .list cs], .tuple [.int many, .list bs, .tuple cs], .tuple [.int many, .none, .list cs]]) (cs := [.tuple [.int many, .list bs, .none], .tuple [.int many, .list bs, .dict []], .tuple [.int many, .dict [], .list cs], .tuple [.int many, .str ("" : Str), .list cs]]) (gd_var rfl) (by repeat' (first | exact gdl_nil | refine gdl_cons ?_ ?_ | refine gd_tup ?_ ?_ | refine gd_lst ?_ ?_ | exact gd_int | exact gd_str | exact gd_non | exact gd_bl | exact gd_dict | exact gd_var rfl | refine gd_neg ?_ | refine gd_op ?_ ?_ rfl | exact gd_pw ⟨by decide, by decide, by decide⟩ | refine gd_opC ?_ ?_ ?_ rfl | exact ⟨by decide, by decide⟩ | (show (0 : Int) < _; decide) | refine gd_cat ?_ ?_ ?_ | refine gd_catT ?_ ?_ ?_ | refine gd_slT ?_ ?_ ?_ | exact gdo_none | refine gdo_some ?_ | refine gd_revT ?_ ?_ | exact Nat.le_of_ble_eq_true rfl)) (Nat.le_of_ble_eq_true rfl) e1 fun p zs H2 s2 hp2 hz => ?_
    have sp := same_new hp2 (.lst zs)
    refine ⟨_, rfl, .inl ⟨rfl, _, SqL.of upd_same⟩, _, rfl, _, rfl, small (by show 3 ≤ 1000; decide), fun t1 ht1 => ⟨small (by show 1 ≤ 1000; decide), fun t2 ht2 => ⟨small (by show 3 ≤ 1000; decide), fun t3 ht3 => ?_⟩⟩⟩
    have sa := same_new ht1 (.tup [.str ("bans" : Str), .int 0, .int 1])
    have sb := same_new ht2 (.tup [.ref t1])
    have sc := same_new ht3 (.tup [.int many, .ref pb, .ref t2])
    have f1 : upd (upd (upd (upd H2 p (.lst zs)) t1 (.tup [.str ("bans" : Str), .int 0, .int 1])) t2 (.tup [.ref t1])) t3 (.tup [.int many, .ref pb, .ref t2]) t1 = some (.tup [.str ("bans" : Str), .int 0, .int 1]) := sc _ _ (sb _ _ upd_same)
    have f2 : upd (upd (upd (upd H2 p (.lst zs)) t1 (.tup [.str ("bans" : Str), .int 0, .int 1])) t2 (.tup [.ref t1])) t3 (.tup [.int many, .ref pb, .ref t2]) t2 = some (.tup [.ref t1]) := sc _ _ upd_same
    have f3 : upd (upd (upd (upd H2 p (.lst zs)) t1 (.tup [.str ("bans" : Str), .int 0, .int 1])) t2 (.tup [.ref t1])) t3 (.tup [.int many, .ref pb, .ref t2]) t3 = some (.tup [.int many, .ref pb, .ref t2]) := upd_same
    have fp : upd (upd (upd (upd H2 p (.lst zs)) t1 (.tup [.str ("bans" : Str), .int 0, .int 1])) t2 (.tup [.ref t1])) t3 (.tup [.int many, .ref pb, .ref t2]) p = some (.lst zs) := (sa.trans (sb.trans sc)) _ _ upd_same
    have sd := sp.trans (sa.trans (sb.trans sc))
    generalize upd (upd (upd (upd H2 p (.lst zs)) t1 (.tup [.str ("bans" : Str), .int 0, .int 1])) t2 (.tup [.ref t1])) t3 (.tup [.int many, .ref pb, .ref t2]) = H3 at f1 f2 f3 fp sd ⊢
    have zl := hz.length
    have zl7 : zs.length = 7 := zl.symm
    refine ⟨p, zs, _, rfl, rfl, fp, small1000 (by omega), ?_⟩
    have tn : ∀ t ts, H3 t = some (.tup ts) → upd H3 p (.lst (zs ++ [.ref t3])) t = some (.tup ts) := fun t ts h => by
      rw [upd_ne (fun z => by rw [z, fp] at h; cases h)]
      exact h
    have sf : Same H2 (upd H3 p (.lst (zs ++ [.ref t3]))) := Wd.Same.put sd hp2 fp
    have f1 := tn _ _ f1
    have f2 := tn _ _ f2
    have f3 := tn _ _ f3
    have fp' : upd H3 p (.lst (zs ++ [.ref t3])) p = some (.lst (zs ++ [.ref t3])) := upd_same
    generalize upd H3 p (.lst (zs ++ [.ref t3])) = H4 at f1 f2 f3 fp' sf ⊢
    have sH := s1.trans (s2.trans sf)
    have hz4 := (DnL.same sf _ _ hz).append (ys := [.ref t3]) (es := [.tuple [.int many, .list bs, .tuple [.tuple [.str ("bans" : Str), .int 0, .int 1]]]]) ⟨_, _, rfl, ⟨t3, _, rfl, f3, _, _, rfl, rfl, _, _, rfl, Dn.same sH _ _ db, _, _, rfl, ⟨t2, _, rfl, f2, _, _, rfl, ⟨t1, _, rfl, f1, _, _, rfl, rfl, _, _, rfl, rfl, _, _, rfl, rfl, rfl⟩, rfl⟩, rfl⟩, rfl⟩
    obtain ⟨d0, dm, dat⟩ := at_lt (i := cell / 6 % 8) (ds := [.tuple [.int many, .tuple bs, .list cs], .tuple [.int many, .list bs, .tuple cs], .tuple [.int many, .none, .list cs]] ++ [.tuple [.int many, .list bs, .none], .tuple [.int many, .list bs, .dict []], .tuple [.int many, .dict [], .list cs], .tuple [.int many, .str ("" : Str), .list cs]] ++ [.tuple [.int many, .list bs, .tuple [.tuple [.str ("bans" : Str), .int 0, .int 1]]]]) (by omega) (by show cell / 6 % 8 < (8 : Nat); omega)
    obtain ⟨v, vat, hv⟩ := hz4.at dat
    refine ⟨_, rfl, _, rfl, _, _, rfl, rfl, by show (0 : Int) < 8; decide, p, _, _, v, rfl, rfl, SqL.of fp', vat, ?_⟩
    simp only [List.mem_append, List.mem_cons, List.not_mem_nil, or_false] at dm
    rcases dm with ((rfl | rfl | rfl) | rfl | rfl | rfl | rfl) | rfl
    · exact q _ _ _ v H4 sH hv (nl _ rfl) fc (spo1 (.inl rfl))
    · exact q _ _ _ v H4 sH hv fb (nc _ rfl) (spo1 (.inr rfl))
    · exact q _ _ _ v H4 sH hv (nl _ rfl) fc (spo1 (.inl rfl))
    · exact q _ _ _ v H4 sH hv fb (nc _ rfl) (spo1 (.inr rfl))
    · exact q _ _ _ v H4 sH hv fb (nc _ rfl) (spo1 (.inr rfl))
    · exact q _ _ _ v H4 sH hv (nl _ rfl) fc (spo1 (.inl rfl))
    · exact q _ _ _ v H4 sH hv (nl _ rfl) fc (spo1 (.inl rfl))
    · exact q _ _ _ v H4 sH hv fb (nc _ rfl) (spo1 (.inr rfl))
  have xl := hl.length
  refine ⟨_, rfl, _, rfl, pb, _, rfl, .inl (SqL.of hp), _, _, rfl, rfl, by show (0 : Int) < _; omega, ?_⟩
  obtain ⟨j, hj, ej⟩ : ∃ j : Nat, j < bs.length ∧ cell / 6 % (xs.length : Int) = (j : Int) := by
    have h1 := Int.emod_nonneg (cell / 6) (show (xs.length : Int) ≠ 0 by omega)
    have h2 := Int.emod_lt_of_pos (cell / 6) (show (0 : Int) < xs.length by omega)
    exact ⟨(cell / 6 % (xs.length : Int)).toNat, by omega, by omega⟩
  show gName 8 (V.int (cell / 6 % (xs.length : Int))) _ _ _
  rw [ej]
  have env2 : EnvD [some (.int many), some (.ref pb), some (.ref pc), some (.int cell), some (.int (cell % 6)), some (.int (cell / 6)), none, none, some (.int j), none, none] H [some (.int many), some (.list bs), some (.list cs), some (.int cell), some (.int (cell % 6)), some (.int (cell / 6)), none, none, some (.int j), none, none] := .cons rfl (.cons db (.cons dc (.cons rfl (.cons rfl (.cons rfl (.skip (.skip (.cons rfl (EnvD.hole 2)))))))))
  have bat : atI bs (j : Int) = some bs[j] := atI_nat (List.getElem?_eq_getElem hj)
  have bm := List.getElem_mem hj
  have e1 : cutD bs none (some (j : Int)) = bs.take j := cutD_take (by omega)
  have e2 : cutD bs (some ((j : Int) + 1)) none = bs.drop (j + 1) := cutD_drop (k := j + 1) (by omega)
  have ca := cut_len (ds := bs) (lo := none) (hi := some (j : Int))
  have cb := cut_len (ds := bs) (lo := some ((j : Int) + 1)) (hi := none)
  refine ⟨_, rfl, rfl, _, rfl, ?_⟩
  refine ite2 (fun w2 => ?_) (fun w2 => ?_)
  · refine ⟨_, rfl, _, _, rfl, rfl, ⟨by decide, by decide⟩, _, _, rfl, rfl, by show (0 : Int) < 4; decide, rfl, _, rfl, ?_⟩
    refine ite2 (fun c => ?_) (fun c => ?_)
    · have bd := bad_dup g m9 b8 bm
      refine gs_ret (d := .tuple [.int many, .list (bs ++ [bs[j]]), .list cs]) (gd_tup (gdl_cons (gd_var rfl) (gdl_cons (gd_cat (gd_var rfl) (gd_lst (gdl_cons (gd_ixL (gd_var rfl) (gd_var rfl) bat) gdl_nil) (Nat.le_of_ble_eq_true rfl)) (by show _ + 1 ≤ 1000; omega)) (gdl_cons (gd_var rfl) gdl_nil))) (Nat.le_of_ble_eq_true rfl)) env2 fun v H' s' hv => ?_
      exact q _ _ _ v H' s' hv bd.fewB fc (no_wood_b bd)
    refine ⟨_, rfl, _, _, rfl, rfl, ⟨by decide, by decide⟩, _, _, rfl, rfl, by show (0 : Int) < 4; decide, _, _, rfl, rfl, _, rfl, ?_⟩
    refine ite2 (fun c => ?_) (fun c => ?_)
    · refine gs_retP (gp_tup3 (gp_of (gd_var rfl)) (gp_call (P := fun d => ∃ fs, d = .list fs ∧ Bad many fs) (gdl_cons (d := .list bs) (gd_var rfl) (gdl_cons (d := .int many) (gd_var rfl) (gdl_cons (d := .int (cell / 6 / 64)) (by repeat' (first | exact gdl_nil | refine gdl_cons ?_ ?_ | refine gd_tup ?_ ?_ | refine gd_lst ?_ ?_ | exact gd_int | exact gd_str | exact gd_non | exact gd_bl | exact gd_dict | exact gd_var rfl | refine gd_neg ?_ | refine gd_op ?_ ?_ rfl | exact gd_pw ⟨by decide, by decide, by decide⟩ | refine gd_opC ?_ ?_ ?_ rfl | exact ⟨by decide, by decide⟩ | (show (0 : Int) < _; decide) | refine gd_cat ?_ ?_ ?_ | refine gd_catT ?_ ?_ ?_ | refine gd_slT ?_ ?_ ?_ | exact gdo_none | refine gdo_some ?_ | refine gd_revT ?_ ?_ | exact Nat.le_of_ble_eq_true rfl)) gdl_nil))) fun vs H Q hv k => ?_) (gp_of (gd_var rfl))) env2 fun d v H' hd s' hv => ?_
      · obtain ⟨v1, _, rfl, ⟨pb', xs', rfl, hp', hl'⟩, v2, _, rfl, e2, v3, _, rfl, e3, e4⟩ := hv
        cases dn_int e2
        cases dn_int e3
        cases (show _ = [] from e4)
        exact ⟨pb', many, _, xs', bs, rfl, hp', hl', g, m2, m9, b8, by omega, fun v fs H' s' hv bd => k _ v H' ⟨fs, rfl, bd⟩ s' hv⟩
      · obtain ⟨_, _, _, rfl, ⟨fs, rfl, bd⟩, rfl, rfl⟩ := hd
        exact q _ _ _ v H' s' hv bd.fewB fc (no_wood_b bd)
    · have bd := bad_out g m9 b8 hj
      refine gs_ret (d := .tuple [.int many, .list (cutD bs none (some (j : Int)) ++ cutD bs (some ((j : Int) + 1)) none), .list cs]) (gd_tup (gdl_cons (gd_var rfl) (gdl_cons (gd_cat (gd_slL (gd_var rfl) gdo_none (gdo_some (gd_var rfl))) (gd_slL (gd_var rfl) (gdo_some (gd_op (gd_var rfl) gd_int rfl)) gdo_none) (by omega)) (gdl_cons (gd_var rfl) gdl_nil))) (Nat.le_of_ble_eq_true rfl)) env2 fun v H' s' hv => ?_
      rw [e1, e2] at hv
      exact q _ _ _ v H' s' hv bd.fewB fc (no_wood_b bd)
  refine ⟨_, rfl, _, _, rfl, rfl, _, rfl, ?_⟩
  refine ite2 (fun w5 => ?_) (fun w5 => ?_)
  · refine gs_retP (gp_tup3 (gp_of (gd_var rfl)) (gp_cat (gp_cat (gp_ofL (gd_slL (gd_var rfl) gdo_none (gdo_some (gd_var rfl)))) (gp_lst1 (gp_call (P := fun d => isBough many d = false ∧ (kidsOf d).length ≤ 20) (gdl_cons (gd_ixL (gd_var rfl) (gd_var rfl) bat) (gdl_cons (d := .int many) (gd_var rfl) (gdl_cons (d := .int (cell / 6 / 16)) (by repeat' (first | exact gdl_nil | refine gdl_cons ?_ ?_ | refine gd_tup ?_ ?_ | refine gd_lst ?_ ?_ | exact gd_int | exact gd_str | exact gd_non | exact gd_bl | exact gd_dict | exact gd_var rfl | refine gd_neg ?_ | refine gd_op ?_ ?_ rfl | exact gd_pw ⟨by decide, by decide, by decide⟩ | refine gd_opC ?_ ?_ ?_ rfl | exact ⟨by decide, by decide⟩ | (show (0 : Int) < _; decide) | refine gd_cat ?_ ?_ ?_ | refine gd_catT ?_ ?_ ?_ | refine gd_slT ?_ ?_ ?_ | exact gdo_none | refine gdo_some ?_ | refine gd_revT ?_ ?_ | exact Nat.le_of_ble_eq_true rfl)) gdl_nil))) fun vs H Q hv k => ?_)) ?_) (gp_ofL (gd_slL (gd_var rfl) (gdo_some (gd_op (gd_var rfl) gd_int rfl)) gdo_none)) ?_) (gp_of (gd_var rfl))) env2 fun d v H' hd s' hv => ?_
    · obtain ⟨v1, _, rfl, hb', v2, _, rfl, e2, v3, _, rfl, e3, e4⟩ := hv
      cases dn_int e2
      cases dn_int e3
      cases (show _ = [] from e4)
      exact ⟨v1, many, _, bs[j], rfl, hb', g.each _ bm, m2, m9, by omega, fun d u H' s' hd nb k20 => k d u H' ⟨nb, k20⟩ s' hd⟩
    · rintro A B rfl ⟨x, _, rfl⟩
      show _ + 1 ≤ 1000
      omega
    · rintro A B ⟨C, D, rfl, ⟨x, _, rfl⟩, rfl⟩ rfl
      rw [List.length_append]
      show _ + 1 + _ ≤ 1000
      omega
    · obtain ⟨_, _, _, rfl, ⟨_, ⟨_, _, ⟨_, _, rfl, ⟨x, ⟨nb, k20⟩, rfl⟩, rfl⟩, rfl, rfl⟩, rfl⟩, rfl, rfl⟩ := hd
      have bd := bad_odd g m9 b8 hj nb k20
      rw [e1, e2] at hv
      exact q _ _ _ v H' s' hv bd.fewB fc (no_wood_b bd)
  refine ⟨_, rfl, _, _, rfl, rfl, by show (0 : Int) < 9; decide, rfl, _, rfl, ?_⟩
  refine ite2 (fun c => ?_) (fun c => ?_)
  · obtain ⟨nine, hn⟩ : ∃ nine : List PyData, nine = (List.replicate (9 : Int).toNat [.tuple [.str ("needs" : Str), .int 0, .int 1]]).flatten := ⟨_, rfl⟩
    have n9 : nine.length = 9 := by rw [hn]; rfl
    have n3 : ∀ c ∈ nine, thirdOk c := fun c hc => by
      rw [hn] at hc
      obtain ⟨l, hl, hc⟩ := List.mem_flatten.mp hc
      rw [List.eq_of_mem_replicate hl] at hc
      rw [List.mem_singleton.mp hc]
      exact trivial
    obtain ⟨x, hx, ex⟩ : ∃ x : Nat, x ≤ 2 ∧ cell / 6 / 9 % 3 = (x : Int) := ⟨(cell / 6 / 9 % 3).toNat, by omega, by omega⟩
    refine gs_ret (d := .tuple [.int many, .list bs, .list (cutD (cs ++ (List.replicate (9 : Int).toNat [.tuple [.str ("needs" : Str), .int 0, .int 1]]).flatten) none (some (9 + cell / 6 / 9 % 3)))]) (gd_tup (gdl_cons (gd_var rfl) (gdl_cons (gd_var rfl) (gdl_cons (gd_slL (gd_cat (gd_var rfl) (gd_rep (by repeat' (first | exact gdl_nil | refine gdl_cons ?_ ?_ | refine gd_tup ?_ ?_ | refine gd_lst ?_ ?_ | exact gd_int | exact gd_str | exact gd_non | exact gd_bl | exact gd_dict | exact gd_var rfl | refine gd_neg ?_ | refine gd_op ?_ ?_ rfl | exact gd_pw ⟨by decide, by decide, by decide⟩ | refine gd_opC ?_ ?_ ?_ rfl | exact ⟨by decide, by decide⟩ | (show (0 : Int) < _; decide) | refine gd_cat ?_ ?_ ?_ | refine gd_catT ?_ ?_ ?_ | refine gd_slT ?_ ?_ ?_ | exact gdo_none | refine gdo_some ?_ | refine gd_revT ?_ ?_ | exact Nat.le_of_ble_eq_true rfl)) gd_int ⟨by decide, by decide⟩ (by decide)) (by rw [← hn]; omega)) gdo_none (gdo_some (gd_op gd_int (k := 9 + cell / 6 / 9 % 3) (by repeat' (first | exact gdl_nil | refine gdl_cons ?_ ?_ | refine gd_tup ?_ ?_ | refine gd_lst ?_ ?_ | exact gd_int | exact gd_str | exact gd_non | exact gd_bl | exact gd_dict | exact gd_var rfl | refine gd_neg ?_ | refine gd_op ?_ ?_ rfl | exact gd_pw ⟨by decide, by decide, by decide⟩ | refine gd_opC ?_ ?_ ?_ rfl | exact ⟨by decide, by decide⟩ | (show (0 : Int) < _; decide) | refine gd_cat ?_ ?_ ?_ | refine gd_catT ?_ ?_ ?_ | refine gd_slT ?_ ?_ ?_ | exact gdo_none | refine gdo_some ?_ | refine gd_revT ?_ ?_ | exact Nat.le_of_ble_eq_true rfl)) rfl))) gdl_nil))) (Nat.le_of_ble_eq_true rfl)) env2 fun v H' s' hv => ?_
    rw [← hn, ex, show (9 : Int) + (x : Int) = ((9 + x : Nat) : Int) from by omega] at hv
    have ln := cutD_len (ds := cs ++ nine) (k := 9 + x)
    rw [List.length_append, n9] at ln
    refine q _ _ _ v H' s' hv fb (fun cs' e => ?_) (no_wood_t fun z => by have := z.1; omega)
    cases e
    refine ⟨by omega, fun c hc => ?_⟩
    rcases List.mem_append.mp (cutD_mem hc) with y | y
    · exact g3 c y
    · exact n3 c y
  · refine gs_set (d := .list (cutD cs none (some 7))) (gd_slL (gd_var rfl) gdo_none (gdo_some gd_int)) env2 fun v9 H1 s1 e1' => ?_
    have fm : ∀ c ∈ cutD cs none (some 7), thirdOk c := fun c hc => g3 c (cutD_mem hc)
    have fl := cut_len (ds := cs) (lo := none) (hi := some 7)
    generalize cutD cs none (some 7) = few at e1' fm fl
    refine gs_set (d := .int (cell / 6 % ((few.length : Int) + 1))) (gd_opC (gd_var rfl) (gd_op (gd_lenL (gdl_cons (gd_var rfl) gdl_nil)) gd_int rfl) (by show (0 : Int) < _; omega) rfl) e1' fun v10 H2 s2 e2' => ?_
    have cx : ∀ lo hi, (cutD few lo hi).length ≤ 8 := fun lo hi => Nat.le_trans cut_len (by omega)
    generalize cell / 6 % ((few.length : Int) + 1) = pl at e2'
    refine gs_retP (gp_tup3 (gp_of (gd_var rfl)) (gp_of (gd_var rfl)) (gp_cat (gp_cat (gp_ofL (gd_slL (gd_var rfl) gdo_none (gdo_some (gd_var rfl)))) (gp_lst1 (gp_call (P := fun d => isTie many d = false ∧ thirdOk d) (gdl_cons (d := .int many) (gd_var rfl) (gdl_cons (d := .int (cell / 6 / 9)) (by repeat' (first | exact gdl_nil | refine gdl_cons ?_ ?_ | refine gd_tup ?_ ?_ | refine gd_lst ?_ ?_ | exact gd_int | exact gd_str | exact gd_non | exact gd_bl | exact gd_dict | exact gd_var rfl | refine gd_neg ?_ | refine gd_op ?_ ?_ rfl | exact gd_pw ⟨by decide, by decide, by decide⟩ | refine gd_opC ?_ ?_ ?_ rfl | exact ⟨by decide, by decide⟩ | (show (0 : Int) < _; decide) | refine gd_cat ?_ ?_ ?_ | refine gd_catT ?_ ?_ ?_ | refine gd_slT ?_ ?_ ?_ | exact gdo_none | refine gdo_some ?_ | refine gd_revT ?_ ?_ | exact Nat.le_of_ble_eq_true rfl)) gdl_nil)) fun vs H Q hv k => ?_)) ?_) (gp_ofL (gd_slL (gd_var rfl) (gdo_some (gd_var rfl)) gdo_none)) ?_)) e2' fun d v H' hd s' hv => ?_
    · obtain ⟨v2, _, rfl, e2, v3, _, rfl, e3, e4⟩ := hv
      cases dn_int e2
      cases dn_int e3
      cases (show _ = [] from e4)
      exact ⟨many, _, rfl, m2, m9, by omega, fun d u H' s' hd nb k20 => k d u H' ⟨nb, k20⟩ s' hd⟩
    · rintro A B rfl ⟨x, _, rfl⟩
      have := cx none (some pl)
      show _ + 1 ≤ 1000
      omega
    · rintro A B ⟨C, D, rfl, ⟨x, _, rfl⟩, rfl⟩ rfl
      have := cx none (some pl)
      have := cx (some pl) none
      rw [List.length_append]
      show _ + 1 + _ ≤ 1000
      omega
    · obtain ⟨_, _, _, rfl, rfl, ⟨_, ⟨_, _, ⟨_, _, rfl, ⟨x, ⟨nb, x3⟩, rfl⟩, rfl⟩, rfl, rfl⟩, rfl⟩, rfl⟩ := hd
      have := cx none (some pl)
      have := cx (some pl) none
      refine q _ _ _ v H' (s1.trans (s2.trans s')) hv fb (fun cs' e => ?_) (no_wood_t fun z => ?_)
      · cases e
        refine ⟨by rw [List.length_append, List.length_append]; show _ + 1 + _ ≤ 60; omega, fun c hc => ?_⟩
        rcases List.mem_append.mp hc with hc | hc
        · rcases List.mem_append.mp hc with hc | hc
          · exact fm c (cutD_mem hc)
          · rw [List.mem_singleton.mp hc]
            exact x3
        · exact fm c (cutD_mem hc)
      · have := z.2 x (List.mem_append_left _ (List.mem_append_right _ List.mem_cons_self))
        rw [nb] at this
        cases this

end
section
variable {P : Program} {w : World} {K : PySem.W.Frag} {mg : Str → Option Value} {base : Heap} {a : Adr} {d : Fds}
theorem ok_check_boughsX (T : Txt K mg a d) : FnOk P w K mg base (CXR P w) 5 a.f_check_boughs d.f_check_boughs ["many", "boughs"] (spCheckBX a.x_NoWood) := by
  have G_is_bough := ok_is_bough (P := P) (w := w) (base := base) T
  refine T.K_check_boughs.okR sc_check_boughs (fun vs H Q E h => ?_) (fun cdv A outer s H vs Q E hr h => ?_)
  · obtain ⟨many, p, xs, bs, rfl, _⟩ := h
    rfl
  obtain ⟨many, p, xs, bs, rfl, hp, hl, m1, m9, hb9, hk60, qy, qn⟩ := h
  refine ⟨_, (pss_cons (ps_set (i := 2) sc_check_boughs.nd rfl (Or.inl rfl) (pe_lst pa_nil))
      (pss_cons (ps_for PassesOwn.leaving rfl (pi_enum rfl T.m_enumerate (pa_cons (pv 1) pa_nil)) (pgT (K := K) (n := 2) rfl (pgs_cons (pg_name (i := 3) sc_check_boughs.nd rfl (Or.inl rfl)) (pgs_cons (pg_name (i := 4) sc_check_boughs.nd rfl (Or.inl rfl)) pgs_nil))) (pss_cons (ps_if (pt_not (pt_val (pe_callD G_is_bough hr.lv rfl T.K_is_bough (pa_cons (pv 0) (pa_cons (pv 4) pa_nil))))) (pss_one (ps_raise rfl rfl T.g_NoWood T.x_NoWood.cl (pa_cons (pe_fs (pv 3)) pa_nil) (fun _ _ _ _ _ _ _ I hx hW => xe_made I hx hW))) pss_nil)
      (pss_one (ps_expr (pe_bmK (K := K) PySem.F.plainAttrs_list PySem.F.slot_list_extend PySem.F.type_list_extend mt_extendT (pv 2) (pa_cons (pe_ix (ixT (K := K)) (pv 4) pe_int (fun _ _ => rfl)) pa_nil))))))
      (pss_one (ps_if (pt_cmpR (op_ne_ints hr.units) (pe_callB call_sorted rfl T.m_sorted PyProof.Rows.boot_sorted (pa_cons (pv 2) pa_nil)) (pe_callTy (call_list_rng rfl) rfl T.m_list PyProof.Rows.boot_list (pa_cons (pe_callTy call_rng rfl T.m_range PyProof.Rows.boot_range (pa_cons pe_int (pa_cons (pv 0) pa_nil))) pa_nil)) (nomark _)) (pss_one (ps_raise rfl rfl T.g_NoWood T.x_NoWood.cl (pa_cons pe_str pa_nil) (fun _ _ _ _ _ _ _ I hx hW => xe_made I hx hW))) pss_nil)))), ?_⟩
  refine ⟨small (by decide), fun kl hkl => ?_⟩
  refine ⟨_, rfl, true, p, rfl, ⟨xs, sqT ((same_new hkl _) _ _ hp)⟩, ?_⟩
  refine for_enum (K := K) (b := true) (a := p) (xs := xs) (fun i σ H2 => (∃ v3 v4, σ = [some (.int many), some (.ref p), some (.ref kl), v3, v4]) ∧ Same H H2 ∧ H2 kl = some (.lst (((bs.take i).flatMap kidsOf).map V.int)) ∧ ∀ b ∈ bs.take i, isBough many b = true) ⟨⟨none, none, rfl⟩, same_new hkl _, upd_same, fun b hb => by simp at hb⟩ (fun i σ H2 _ z => sqT (z.2.1 _ _ hp)) ?_ ?_
  · rintro i x σ H2 hx ⟨⟨v3, v4, rfl⟩, sm, hk, hall⟩ TT hT
    obtain ⟨b, hb, hd⟩ := hl.get hx
    have sm2 : Same H (upd H2 TT (.tup [.int i, x])) := sm.trans (same_new hT _)
    have hk2 : upd H2 TT (.tup [.int i, x]) kl = some (.lst (((bs.take i).flatMap kidsOf).map V.int)) := (same_new hT _) _ _ hk
    refine ⟨TT, _, rfl, sqT upd_same, rfl, _, _, rfl, _, _, rfl, rfl, ?_⟩
    refine ⟨_, rfl, _, rfl, b, x, many, rfl, Dn.same sm2 _ _ hd, _, rfl, ?_⟩
    by_cases gb : isBough many b = true
    · rw [gb]
      refine iteF ?_
      obtain ⟨pb, xu, xl, xh, pk, rfl, hpb, hpk⟩ := bough_kids gb (Dn.same sm2 _ _ hd)
      have fw := kids_pre (bs := bs) (i + 1)
      rw [flatMap_take hb, List.length_append] at fw
      refine ⟨_, rfl, .inl ⟨rfl, _, SqL.of hk2⟩, _, rfl, pb, _, _, _, rfl, rfl, sqT hpb, at3, kl, pk, _, _, rfl, rfl, hk2, hpk, ?_, ?_⟩
      · rw [List.length_map, List.length_map]
        exact small (by omega)
      · refine ⟨⟨_, _, rfl⟩, Wd.Same.put sm2 hkl hk2, ?_, take_each hb hall gb⟩
        rw [upd_same, flatMap_take hb, List.map_append]
    · rw [Bool.eq_false_iff.mpr gb]
      refine iteT ?_
      have hi : i < bs.length := (List.getElem?_eq_some_iff.mp hb).1
      exact ⟨_, rfl, _, rfl, by omega, by omega, fun z => ⟨by show 1 ≤ 1000; decide, qn (fun g => gb (g.each b (List.mem_of_getElem? hb))) _ sm2⟩⟩
  · rintro σ H2 ⟨⟨v3, v4, rfl⟩, sm, hk, hall⟩
    rw [← hl.length, List.take_length] at hk hall
    have p62 : (2 : Int) ^ 62 = 4611686018427387904 := by decide
    refine ⟨_, rfl, kl, _, rfl, SqL.of hk, by omega, fun ms pm ps l1 hl1 => ?_⟩
    have sm1 := sm.trans (same_new hl1 (.lst (ms.map V.int)))
    refine ⟨_, rfl, _, _, rfl, fun rp hrp => ?_⟩
    refine ⟨rp, 1, many, rfl, upd_same, by rw [p62]; omega, by rw [p62]; omega, by rw [p62]; omega, by rw [p62]; omega, by omega, fun l2 hl2 => ?_⟩
    have sm2 := (sm1.trans (same_new hrp (.rng 1 many))).trans (same_new hl2 (.lst ((List.range' 0 (many - 1).toNat).map fun i : Nat => V.int (1 + (i : Int)))))
    have h1 : upd (upd (upd H2 l1 (.lst (ms.map V.int))) rp (.rng 1 many)) l2 (.lst ((List.range' 0 (many - 1).toNat).map fun i : Nat => V.int (1 + (i : Int)))) l1 = some (.lst (ms.map V.int)) := (same_new hl2 _) _ _ ((same_new hrp _) _ _ upd_same)
    refine ⟨l1, l2, ms, (List.range' 0 (many - 1).toNat).map fun i : Nat => (1 : Int) + i, rfl, rfl, SqL.of h1, ?_, _, rfl, ?_⟩
    · refine SqL.of ?_
      rw [upd_same, List.map_map]
      rfl
    · by_cases g : GoodB many bs
      · exact iteNS (PySem.W.ksm_same (pm.trans g.kids) ps (range_sorted 1 _ 0)) (qy g _ sm2)
      · refine iteB ?_ ⟨by show 1 ≤ 1000; decide, qn g _ sm2⟩
        rw [Bool.not_eq_true', decide_eq_false_iff_not]
        intro z
        exact g ⟨hall, by rw [z] at pm; exact pm.symm⟩
theorem ok_check_cross_tiesX (T : Txt K mg a d) : FnOk P w K mg base (CXR P w) 6 a.f_check_cross_ties d.f_check_cross_ties ["many", "cross"] (spCheckCX a.x_NoWood) := by
  have G_is_cross_tie := ok_is_cross_tie (P := P) (w := w) (base := base) T
  obtain ⟨_, c_MOST_CROSS_TIES⟩ := T.c_MOST_CROSS_TIES
  refine T.K_check_cross_ties.okR sc_check_cross_ties (fun vs H Q E h => ?_) (fun cdv A outer s H vs Q E hr h => ?_)
  · obtain ⟨many, p, xs, bs, rfl, _⟩ := h
    rfl
  obtain ⟨many, p, xs, cs, rfl, hp, hl, c60, g3, qy, qn⟩ := h
  refine ⟨_, (pss_cons (ps_if (pt_cmpR op_gt (pe_callB (lenS (K := K)) rfl T.m_len PySem.boot_len (pa_cons (pv 1) pa_nil)) (pe_glob (v := .int 8) rfl c_MOST_CROSS_TIES ⟨_, rfl⟩) (nomark _)) (pss_one (ps_raise rfl rfl T.g_NoWood T.x_NoWood.cl (pa_cons pe_str pa_nil) (fun _ _ _ _ _ _ _ I hx hW => xe_made I hx hW))) pss_nil)
      (pss_one (ps_for PassesOwn.leaving rfl (pi_enum rfl T.m_enumerate (pa_cons (pv 1) pa_nil)) (pgT (K := K) (n := 2) rfl (pgs_cons (pg_name (i := 2) sc_check_cross_ties.nd rfl (Or.inl rfl)) (pgs_cons (pg_name (i := 3) sc_check_cross_ties.nd rfl (Or.inl rfl)) pgs_nil))) (pss_one (ps_if (pt_not (pt_val (pe_callD G_is_cross_tie hr.lv rfl T.K_is_cross_tie (pa_cons (pv 0) (pa_cons (pv 3) pa_nil))))) (pss_one (ps_raise rfl rfl T.g_NoWood T.x_NoWood.cl (pa_cons (pe_fs (pv 2)) pa_nil) (fun _ _ _ _ _ _ _ I hx hW => xe_made I hx hW))) pss_nil))))), ?_⟩
  refine ⟨_, rfl, p, _, rfl, .inr (sqT hp), _, _, rfl, rfl, _, rfl, ?_⟩
  by_cases h8 : cs.length ≤ 8
  · refine iteBN (decide_eq_false (by rw [← hl.length]; omega)) ?_
    refine ⟨_, rfl, true, p, rfl, ⟨xs, sqT hp⟩, ?_⟩
    refine for_enum (K := K) (b := true) (a := p) (xs := xs) (fun i σ H2 => (∃ v2 v3, σ = [some (.int many), some (.ref p), v2, v3]) ∧ Same H H2 ∧ ∀ c ∈ cs.take i, isTie many c = true) ⟨⟨none, none, rfl⟩, Same.refl H, fun b hb => by simp at hb⟩ (fun i σ H2 _ z => sqT (z.2.1 _ _ hp)) ?_ ?_
    · rintro i x σ H2 hx ⟨⟨v2, v3, rfl⟩, sm, hall⟩ TT hT
      obtain ⟨b, hb, hd⟩ := hl.get hx
      have sm2 : Same H (upd H2 TT (.tup [.int i, x])) := sm.trans (same_new hT _)
      refine ⟨TT, _, rfl, sqT upd_same, rfl, _, _, rfl, _, _, rfl, rfl, ?_⟩
      refine ⟨_, rfl, _, rfl, b, x, many, rfl, Dn.same sm2 _ _ hd, g3 b (List.mem_of_getElem? hb), fun H3 sm3 => ⟨_, rfl, ?_⟩⟩
      by_cases gb : isTie many b = true
      · rw [gb]
        exact iteF ⟨⟨_, _, rfl⟩, sm2.trans sm3, take_each hb hall gb⟩
      · rw [Bool.eq_false_iff.mpr gb]
        refine iteT ?_
        have hi : i < cs.length := (List.getElem?_eq_some_iff.mp hb).1
        exact ⟨_, rfl, _, rfl, by omega, by omega, fun z => ⟨by show 1 ≤ 1000; decide, qn (fun g => gb (g.2 b (List.mem_of_getElem? hb))) _ (sm2.trans sm3)⟩⟩
    · rintro σ H2 ⟨⟨v2, v3, rfl⟩, sm, hall⟩
      rw [← hl.length, List.take_length] at hall
      exact qy ⟨h8, hall⟩ H2 sm
  · refine iteB (decide_eq_true (by rw [← hl.length]; omega)) ?_
    exact ⟨by show 1 ≤ 1000; decide, qn (fun g => h8 g.1) H (Same.refl H)⟩
theorem ok_wood_ofX (T : Txt K mg a d) : FnOk P w K mg base (CXR P w) 7 a.f_wood_of d.f_wood_of ["many", "boughs", "cross"] (spWoodX a.x_NoWood) := by
  have G_is_whole_within := ok_is_whole_within (P := P) (w := w) (base := base) T
  have X_check_boughs := ok_check_boughsX (P := P) (w := w) (base := base) T
  have X_check_cross_ties := ok_check_cross_tiesX (P := P) (w := w) (base := base) T
  obtain ⟨_, c_MOST_OPTIONS⟩ := T.c_MOST_OPTIONS
  refine T.K_wood_of.okR sc_wood_of (fun vs H Q E h => ?_) (fun cdv A outer s H vs Q E hr h => ?_)
  · obtain ⟨v0, v1, v2, d0, d1, d2, rfl, _⟩ := h
    rfl
  obtain ⟨v0, v1, v2, d0, d1, d2, rfl, h0, h1, h2, fb, fc, nw, qn⟩ := h
  refine ⟨_, (pss_cons (ps_if (pt_not (pt_val (pe_callD G_is_whole_within hr.lv rfl T.K_is_whole_within (pa_cons (pv 0) (pa_cons pe_int (pa_cons (pe_glob (v := .int 9) rfl c_MOST_OPTIONS ⟨_, rfl⟩) pa_nil)))))) (pss_one (ps_raise rfl rfl T.g_NoWood T.x_NoWood.cl (pa_cons pe_str pa_nil) (fun _ _ _ _ _ _ _ I hx hW => xe_made I hx hW))) pss_nil)
      (pss_cons (ps_if (pt_not (pt_val (pe_callB (isiK (K := K)) rfl T.m_isinstance PyProof.Rows.boot_isinstance (pa_cons (pv 1) (pa_cons (pe_bltn (v := .ty "list") rfl T.m_list PyProof.Rows.boot_list rfl) pa_nil))))) (pss_one (ps_raise rfl rfl T.g_NoWood T.x_NoWood.cl (pa_cons pe_str pa_nil) (fun _ _ _ _ _ _ _ I hx hW => xe_made I hx hW))) pss_nil)
      (pss_cons (ps_if (pt_not (pt_val (pe_callB (isiK (K := K)) rfl T.m_isinstance PyProof.Rows.boot_isinstance (pa_cons (pv 2) (pa_cons (pe_bltn (v := .ty "list") rfl T.m_list PyProof.Rows.boot_list rfl) pa_nil))))) (pss_one (ps_raise rfl rfl T.g_NoWood T.x_NoWood.cl (pa_cons pe_str pa_nil) (fun _ _ _ _ _ _ _ I hx hW => xe_made I hx hW))) pss_nil)
      (pss_cons (ps_set (i := 3) sc_wood_of.nd rfl (Or.inl rfl) (pe_tup (pa_cons (pv 0) (pa_cons (pe_callTy call_tuple_of rfl T.m_tuple PyProof.Rows.boot_tuple (pa_cons (pv 1) pa_nil)) (pa_cons (pe_callTy call_tuple_of rfl T.m_tuple PyProof.Rows.boot_tuple (pa_cons (pv 2) pa_nil)) pa_nil)))))
      (pss_cons (ps_expr (pe_call X_check_boughs hr.lv rfl T.K_check_boughs.g T.K_check_boughs.kp T.K_check_boughs.B .nil passUp (pa_cons (pv 0) (pa_cons (pe_ix (ixT (K := K)) (pv 3) pe_int (fun _ _ => rfl)) pa_nil))))
      (pss_cons (ps_expr (pe_call X_check_cross_ties hr.lv rfl T.K_check_cross_ties.g T.K_check_cross_ties.kp T.K_check_cross_ties.B .nil passUp (pa_cons (pv 0) (pa_cons (pe_ix (ixT (K := K)) (pv 3) pe_int (fun _ _ => rfl)) pa_nil))))
      (pss_one (ps_ret (pv 3))))))))), ?_⟩
  refine ⟨_, rfl, d0, v0, 1, 9, rfl, h0, _, rfl, ?_⟩
  by_cases ew : within d0 1 9 = true
  · rw [ew]
    refine iteF ?_
    obtain ⟨many, rfl, m1, m9⟩ := within_int ew
    cases dn_int h0
    refine ⟨_, rfl, _, _, _, _, rfl, dn_ty h1, ty_lst d1, _, rfl, ?_⟩
    by_cases eb : isLst d1 = true
    · rw [eb]
      refine iteF ?_
      refine ⟨_, rfl, _, _, _, _, rfl, dn_ty h2, ty_lst d2, _, rfl, ?_⟩
      by_cases ec : isLst d2 = true
      · rw [ec]
        refine iteF ?_
        obtain ⟨bs, rfl⟩ : ∃ bs, d1 = .list bs := by cases d1 <;> first | exact ⟨_, rfl⟩ | cases eb
        obtain ⟨cs, rfl⟩ : ∃ cs, d2 = .list cs := by cases d2 <;> first | exact ⟨_, rfl⟩ | cases ec
        obtain ⟨p, xs, rfl, hp, hl⟩ := (show ∃ a xs, v1 = .ref a ∧ H a = some (.lst xs) ∧ DnL H bs xs from h1)
        obtain ⟨r, ys, rfl, hr', hl2⟩ := (show ∃ a xs, v2 = .ref a ∧ H a = some (.lst xs) ∧ DnL H cs xs from h2)
        obtain ⟨b60, k60⟩ := fb bs rfl
        obtain ⟨c60, g3⟩ := fc cs rfl
        refine ⟨_, rfl, _, rfl, p, xs, rfl, .inl ⟨SqL.of hp, fun tb htb => ?_⟩⟩
        have sm1 := same_new htb (.tup xs)
        refine ⟨_, rfl, r, ys, rfl, .inl ⟨SqL.of (sm1 _ _ hr'), fun tc htc => ?_⟩⟩
        have sm2 := sm1.trans (same_new htc (.tup ys))
        refine ⟨small (by show 3 ≤ 1000; decide), fun wd hwd => ?_⟩
        have sm3 := sm2.trans (same_new hwd (.tup [.int many, .ref tb, .ref tc]))
        have etb : upd (upd (upd H tb (.tup xs)) tc (.tup ys)) wd (.tup [.int many, .ref tb, .ref tc]) tb = some (.tup xs) := (same_new hwd _) _ _ ((same_new htc _) _ _ upd_same)
        have etc : upd (upd (upd H tb (.tup xs)) tc (.tup ys)) wd (.tup [.int many, .ref tb, .ref tc]) tc = some (.tup ys) := (same_new hwd _) _ _ upd_same
        refine ⟨_, rfl, _, rfl, wd, _, _, _, rfl, rfl, sqT upd_same, at1, many, tb, xs, bs, rfl, etb, DnL.same sm3 _ _ hl, m1, m9, b60, k60, fun g H4 sm4 => ?_, fun ng H4 sm4 => qn H4 (sm3.trans sm4)⟩
        have ewd := sm4 _ _ (show upd (upd (upd H tb (.tup xs)) tc (.tup ys)) wd (.tup [.int many, .ref tb, .ref tc]) wd = some (.tup [.int many, .ref tb, .ref tc]) from upd_same)
        refine ⟨_, rfl, _, rfl, wd, _, _, _, rfl, rfl, sqT ewd, at2, many, tc, ys, cs, rfl, sm4 _ _ etc, DnL.same (sm3.trans sm4) _ _ hl2, c60, g3, fun gc H5 sm5 => absurd ⟨many, bs, cs, rfl, m1, m9, rfl, rfl, g, gc.1, gc.2⟩ nw, fun ng H5 sm5 => qn H5 (sm3.trans (sm4.trans sm5))⟩
      · rw [Bool.eq_false_iff.mpr ec]
        exact iteT ⟨by show 1 ≤ 1000; decide, qn H (Same.refl H)⟩
    · rw [Bool.eq_false_iff.mpr eb]
      exact iteT ⟨by show 1 ≤ 1000; decide, qn H (Same.refl H)⟩
  · rw [Bool.eq_false_iff.mpr ew]
    exact iteT ⟨by show 1 ≤ 1000; decide, qn H (Same.refl H)⟩
theorem ok_law_refused (T : Txt K mg a d) : FnOk P w K mg base CX0 8 a.f_law_refused d.f_law_refused ["_law_many_here", "_law_boughs_here", "_law_cross_here", "_law_by_base"] spRefusedN := by
  have X_wood_of := ok_wood_ofX (P := P) (w := w) (base := base) T
  refine T.K_law_refused.ok sc_law_refused (fun vs H Q E h => ?_) (fun cdv A outer s H vs Q E hr h => ?_)
  · obtain ⟨v0, v1, v2, b, d0, d1, d2, rfl, _⟩ := h
    rfl
  obtain ⟨v0, v1, v2, b, d0, d1, d2, rfl, h0, h1, h2, fb, fc, nw, q⟩ := h
  obtain ⟨W, hW⟩ : ∃ W : XK, W = fun cls _ H' => cls = .ref a.x_NoWood ∧ Same H H' := ⟨_, rfl⟩
  refine ⟨_, (pss_cons (ps_set (i := 4) sc_law_refused.nd rfl (Or.inl rfl) (pe_lst pa_nil))
      (pss_cons (ps_if (pt_val (pv 3)) (pss_cons (ps_tryAs (i := 5) (W := W) rfl rfl (fun _ => (pss_one (ps_expr (pe_call X_wood_of hr.lv rfl T.K_wood_of.g T.K_wood_of.kp T.K_wood_of.B .nil passR (pa_cons (pv 0) (pa_cons (pv 1) (pa_cons (pv 2) pa_nil))))))) rfl T.g_WoodError T.x_WoodError.cl sc_law_refused.nd rfl rfl (Or.inl rfl) (fun _ => (pss_cons (ps_set (i := 4) sc_law_refused.nd rfl (Or.inl rfl) (pe_lst (pa_cons (pe_callB (isiX (K := K)) rfl T.m_isinstance PyProof.Rows.boot_isinstance (pa_cons (pv 5) (pa_cons (pe_glob (v := .ref a.x_NoWood) rfl T.g_NoWood rfl) pa_nil))) (pa_cons (pe_callB (isiX (K := K)) rfl T.m_isinstance PyProof.Rows.boot_isinstance (pa_cons (pv 5) (pa_cons (pe_bltn (v := .ty "ValueError") rfl T.m_ValueError boot_VE rfl) pa_nil))) pa_nil))))
      (pss_one (ps_expr (pe_bmK (K := K) PySem.F.plainAttrs_list PySem.F.slot_list_append PySem.F.type_list_append mt_append (pv 4) (pa_cons (pe_callB (isiXT (K := K)) rfl T.m_isinstance PyProof.Rows.boot_isinstance (pa_cons (pv 5) (pa_cons (pe_tup (pa_cons (pe_glob (v := .ref a.x_NoCount) rfl T.g_NoCount rfl) (pa_cons (pe_glob (v := .ref a.x_NoName) rfl T.g_NoName rfl) (pa_cons (pe_glob (v := .ref a.x_NoOffer) rfl T.g_NoOffer rfl) (pa_cons (pe_glob (v := .ref a.x_NoRow) rfl T.g_NoRow rfl) (pa_cons (pe_glob (v := .ref a.x_NoText) rfl T.g_NoText rfl) (pa_cons (pe_glob (v := .ref a.x_NoWares) rfl T.g_NoWares rfl) (pa_cons (pe_glob (v := .ref a.x_Unlike) rfl T.g_Unlike rfl) pa_nil)))))))) pa_nil))) pa_nil)))))))
      (pss_one (ps_ret (pe_cmpR (op_eq_data hr.units) (pv 4) (pe_lst (pa_cons pe_bl (pa_cons pe_bl (pa_cons pe_bl pa_nil)))) (nomark _))))) pss_nil)
      (pss_cons (ps_set (i := 6) sc_law_refused.nd rfl (Or.inl rfl) pe_bl)
      (pss_cons (ps_tryX (W := W) rfl rfl (fun _ => (pss_one (ps_expr (pe_call X_wood_of hr.lv rfl T.K_wood_of.g T.K_wood_of.kp T.K_wood_of.B .nil passR (pa_cons (pv 0) (pa_cons (pv 1) (pa_cons (pv 2) pa_nil))))))) rfl T.g_NoWood T.x_NoWood.cl (fun _ => (pss_one (ps_set (i := 6) sc_law_refused.nd rfl (Or.inl rfl) pe_bl))))
      (pss_one (ps_ret (pv 6))))))), ?_⟩
  refine ⟨small (by decide), fun l0 hl0 => ?_⟩
  have s0 := same_new hl0 (.lst [])
  refine ⟨_, rfl, ?_⟩
  have body : ∀ (Q2 : VK), spWoodX a.x_NoWood [v0, v1, v2] (upd H l0 (.lst [])) Q2 W := fun Q2 => ⟨v0, v1, v2, d0, d1, d2, rfl, Dn.same s0 _ _ h0, Dn.same s0 _ _ h1, Dn.same s0 _ _ h2, fb, fc, nw, fun H' s' => by rw [hW]; exact ⟨rfl, s0.trans s'⟩⟩
  refine ⟨b, rfl, ?_⟩
  cases b with
  | true =>
    refine iteT ?_
    refine ⟨⟨_, rfl, _, rfl, _, rfl, body fun _ _ => False⟩, ?_⟩
    intro σ' H' ea Dc hl w1 hea
    rw [hW] at w1
    obtain ⟨ec, s1⟩ := w1
    cases Value.ref.inj ec
    obtain ⟨u0, u1, u2, u3, u4, u5, u6, rfl⟩ : ∃ u0 u1 u2 u3 u4 u5 u6, σ' = [u0, u1, u2, u3, u4, u5, u6] := by
      match σ', hl with
      | [a0, a1, a2, a3, a4, a5, a6], _ => exact ⟨a0, a1, a2, a3, a4, a5, a6, rfl⟩
    refine ⟨T.x_NoWood.cl, T.s_NoWood_WoodError, ?_⟩
    have s2 := same_new hea (.ext (excP ea a.x_NoWood))
    have e1 : L2.upd H' ea (.ext (excP ea a.x_NoWood)) ea = some (.ext (excP ea a.x_NoWood)) := upd_same
    generalize L2.upd H' ea (.ext (excP ea a.x_NoWood)) = H1 at s2 e1 ⊢
    refine ⟨_, rfl, ea, _, _, _, rfl, e1, T.x_NoWood, .inl ⟨_, rfl, T.k_NoWood_NoWood⟩, _, rfl, ea, _, _, _, rfl, e1, T.x_NoWood, .inr ⟨_, rfl, T.v_NoWood⟩, small (by show 2 ≤ 1000; decide), fun l1 hl1 => ?_⟩
    have s3 := same_new hl1 (.lst [.bl true, .bl true])
    have e2 : L2.upd H1 l1 (.lst [.bl true, .bl true]) l1 = some (.lst [.bl true, .bl true]) := upd_same
    have e3 := s3 _ _ e1
    generalize L2.upd H1 l1 (.lst [.bl true, .bl true]) = H2 at s3 e2 e3 ⊢
    refine ⟨_, rfl, .inl ⟨rfl, _, SqL.of e2⟩, _, rfl, small (by show 7 ≤ 1000; decide), fun tp htp => ?_⟩
    have s4 := same_new htp (.tup ([a.x_NoCount, a.x_NoName, a.x_NoOffer, a.x_NoRow, a.x_NoText, a.x_NoWares, a.x_Unlike].map V.ref))
    have e4 : L2.upd H2 tp (.tup ([a.x_NoCount, a.x_NoName, a.x_NoOffer, a.x_NoRow, a.x_NoText, a.x_NoWares, a.x_Unlike].map V.ref)) tp = some (.tup ([a.x_NoCount, a.x_NoName, a.x_NoOffer, a.x_NoRow, a.x_NoText, a.x_NoWares, a.x_Unlike].map V.ref)) := upd_same
    refine ⟨ea, _, tp, _, rfl, s4 _ _ e3, T.x_NoWood, e4, fun C hC => ?_, l1, _, _, rfl, rfl, s4 _ _ e2, small1000 (by show 2 ≤ 1000; decide), ?_⟩
    · simp only [List.mem_cons, List.not_mem_nil, or_false] at hC
      rcases hC with rfl | rfl | rfl | rfl | rfl | rfl | rfl
      · exact T.k_NoWood_NoCount
      · exact T.k_NoWood_NoName
      · exact T.k_NoWood_NoOffer
      · exact T.k_NoWood_NoRow
      · exact T.k_NoWood_NoText
      · exact T.k_NoWood_NoWares
      · exact T.k_NoWood_Unlike
    have s5 := Wd.Same.put (o := .lst ([.bl true, .bl true] ++ [.bl false])) (((s1.trans s2).trans s3).trans s4) ((s1.trans s2).free hl1) (s4 _ _ e2)
    refine ⟨_, rfl, small (by show 3 ≤ 1000; decide), fun l2 hl2 => ?_⟩
    refine ⟨.list [.bool true, .bool true, .bool false], .list [.bool true, .bool true, .bool false], ⟨l1, _, rfl, (same_new hl2 _) _ _ upd_same, _, _, rfl, rfl, _, _, rfl, rfl, _, _, rfl, rfl, rfl⟩, ⟨l2, _, rfl, upd_same, _, _, rfl, rfl, _, _, rfl, rfl, _, _, rfl, rfl, rfl⟩, rfl, rfl, ?_⟩
    exact q _ (s5.trans (same_new hl2 _))
  | false =>
    refine iteF ?_
    refine ⟨⟨_, rfl, _, rfl, _, rfl, body fun _ _ => False⟩, ?_⟩
    intro σ' H' ea Dc hl w1 hea
    rw [hW] at w1
    obtain ⟨ec, s1⟩ := w1
    cases Value.ref.inj ec
    obtain ⟨u0, u1, u2, u3, u4, u5, u6, rfl⟩ : ∃ u0 u1 u2 u3 u4 u5 u6, σ' = [u0, u1, u2, u3, u4, u5, u6] := by
      match σ', hl with
      | [a0, a1, a2, a3, a4, a5, a6], _ => exact ⟨a0, a1, a2, a3, a4, a5, a6, rfl⟩
    refine ⟨T.x_NoWood.cl, T.s_NoWood_NoWood, ?_⟩
    exact ⟨_, rfl, q H' s1⟩

end
section
variable {P : Program} {w : World} {K : PySem.W.Frag} {mg : Str → Option Value} {base : Heap} {a : Adr} {d : Fds}
theorem no_three {m : Int} {fs : List PyData} {b d2 : PyData} (hb : b ∈ fs) (nb : isBough m b = false) : ¬ WoodIn (.int m) (.list fs) d2 := by
  rintro ⟨m', bs, cs, e0, _, _, e1, e2, g, _⟩
  cases e0
  cases e1
  have := g.each b hb
  rw [nb] at this
  cases this
theorem fewC_nil : FewC (.list []) := fun cs e => by
  cases e
  exact ⟨by decide, fun c h => by simp at h⟩
theorem ok_law (T : Txt K mg a d) : FnOk P w K mg base CX0 12 a.f_law d.f_law ["_law_script"] (spLaw K) := by
  have G_law_many := ok_law_many (P := P) (w := w) (base := base) T
  have G_law_boughs := ok_law_boughs (P := P) (w := w) (base := base) T
  have G_law_cross := ok_law_cross (P := P) (w := w) (base := base) T
  have G_law_cell_at := ok_law_cell_at (P := P) (w := w) (base := base) T
  have G_law_spoiled := ok_law_spoiled (P := P) (w := w) (base := base) T
  have G_law_turned := ok_law_turned (P := P) (w := w) (base := base) T
  have G_law_refused := ok_law_refused (P := P) (w := w) (base := base) T
  have G_wood_of := ok_wood_of (P := P) (w := w) (base := base) T
  refine T.K_law.ok sc_law (fun vs H Q E h => ?_) (fun cdv A outer s H vs Q E hr h => ?_)
  · obtain ⟨p, ns, rfl, _⟩ := h
    rfl
  obtain ⟨sp, ns, rfl, hS, hl, q⟩ := h
  refine ⟨_, (pss_cons (ps_set (i := 1) sc_law.nd rfl (Or.inl rfl) (pe_callB (call_max2 rfl) rfl T.m_max PyProof.Rows.boot_max (pa_cons pe_int (pa_cons (pe_callD G_law_many hr.lv rfl T.K_law_many (pa_cons (pv 0) pa_nil)) pa_nil))))
      (pss_cons (ps_set (i := 2) sc_law.nd rfl (Or.inl rfl) (pe_callD G_law_boughs hr.lv rfl T.K_law_boughs (pa_cons (pv 0) (pa_cons (pv 1) pa_nil))))
      (pss_cons (ps_set (i := 3) sc_law.nd rfl (Or.inl rfl) (pe_callD G_law_cross hr.lv rfl T.K_law_cross (pa_cons (pv 0) (pa_cons (pv 1) pa_nil))))
      (pss_cons (ps_for PassesOwn.never rfl (pi_range1 rfl T.m_range (pa_cons pe_int pa_nil)) (pg_name (i := 4) sc_law.nd rfl (Or.inl rfl)) (pss_cons (ps_set (i := 5) sc_law.nd rfl (Or.inl rfl) (pe_callD G_law_cell_at hr.lv rfl T.K_law_cell_at (pa_cons (pv 0) (pa_cons (pe_op op_add pe_int (pv 4)) pa_nil))))
      (pss_cons (ps_set (i := 6) sc_law.nd rfl (Or.inl rfl) (pe_callD G_law_spoiled hr.lv rfl T.K_law_spoiled (pa_cons (pv 1) (pa_cons (pv 2) (pa_cons (pv 3) (pa_cons (pv 5) pa_nil))))))
      (pss_cons (ps_if (pt_not (pt_val (pe_callD G_law_refused hr.lv rfl T.K_law_refused (pa_cons (pe_ix (ixT (K := K)) (pv 6) pe_int (fun _ _ => rfl)) (pa_cons (pe_ix (ixT (K := K)) (pv 6) pe_int (fun _ _ => rfl)) (pa_cons (pe_ix (ixT (K := K)) (pv 6) pe_int (fun _ _ => rfl)) (pa_cons (pe_cmpR op_eq (pe_op op_mod (pe_op op_fdiv (pv 5) pe_int) pe_int) pe_int (nomark _)) pa_nil))))))) (pss_one (ps_ret pe_bl)) pss_nil)
      (pss_cons (ps_set (i := 7) sc_law.nd rfl (Or.inl rfl) (pe_callD G_law_turned hr.lv rfl T.K_law_turned (pa_cons (pv 2) (pa_cons (pe_op op_fdiv (pv 5) pe_int) pa_nil))))
      (pss_one (ps_if (PW.pt (pw_and (pt_cmpR (op_ne_data hr.units) (pv 7) (pe_lst pa_nil) (nomark _)) (pw_and1 (pt_not (pt_val (pe_callD G_law_refused hr.lv rfl T.K_law_refused (pa_cons (pv 1) (pa_cons (pv 7) (pa_cons (pv 3) (pa_cons (pe_cmpR op_eq (pe_op op_mod (pe_op op_fdiv (pv 5) pe_int) pe_int) pe_int (nomark _)) pa_nil)))))))))) (pss_one (ps_ret pe_bl)) pss_nil)))))))
      (pss_cons (ps_for PassesOwn.never rfl (piL (K := K) (@PEi.pe _ _ _ (pei_lst (pai_cons (.of pe_int) (pai_cons (.of pe_int) pai_nil))))) (pg_name (i := 8) sc_law.nd rfl (Or.inl rfl)) (pss_cons (ps_set (i := 9) sc_law.nd rfl (Or.inl rfl) (pe_cmpR op_eq (pe_op op_mod (pe_callD G_law_cell_at hr.lv rfl T.K_law_cell_at (pa_cons (pv 0) (pa_cons pe_int pa_nil))) pe_int) (pv 8) (nomark _)))
      (pss_cons (ps_if (pt_not (pt_val (pe_callD G_law_refused hr.lv rfl T.K_law_refused (pa_cons pe_int (pa_cons (pe_lst (pa_cons (pe_tup (pa_cons (pv 8) (pa_cons pe_int (pa_cons pe_int (pa_cons (@PEi.pe _ _ _ (pei_tup (pai_cons (.of pe_int) pai_nil))) pa_nil))))) (pa_cons (@PEi.pe _ _ _ (pei_tup (pai_cons (.of pe_int) (pai_cons (.of pe_int) (pai_cons (.of pe_int) (pai_cons (pei_tup (pai_cons (.of pe_int) pai_nil)) pai_nil)))))) pa_nil))) (pa_cons (pe_lst pa_nil) (pa_cons (pv 9) pa_nil))))))) (pss_one (ps_ret pe_bl)) pss_nil)
      (pss_one (ps_if (pt_not (pt_val (pe_callD G_law_refused hr.lv rfl T.K_law_refused (pa_cons pe_int (pa_cons (pe_lst (pa_cons (pe_tup (pa_cons pe_int (pa_cons (pv 8) (pa_cons pe_int (pa_cons (@PEi.pe _ _ _ (pei_tup (pai_cons (.of pe_int) (pai_cons (.of pe_int) pai_nil)))) pa_nil))))) pa_nil)) (pa_cons (pe_lst pa_nil) (pa_cons (pv 9) pa_nil))))))) (pss_one (ps_ret pe_bl)) pss_nil)))))
      (pss_cons (ps_for PassesOwn.never rfl (piL (K := K) (@PEi.pe _ _ _ (pei_lst (pai_cons (.of pe_bl) (pai_cons (.of pe_bl) (pai_cons (.of pe_non) (pai_cons (.of pe_str) (pai_cons (pei_lst (pai_cons (.of pe_int) pai_nil)) (pai_cons (pei_tup (pai_cons (.of pe_int) pai_nil)) (pai_cons (.of pe_int) pai_nil)))))))))) (pg_name (i := 10) sc_law.nd rfl (Or.inl rfl)) (pss_one (ps_if (pt_not (pt_val (pe_callD G_law_refused hr.lv rfl T.K_law_refused (pa_cons (pv 10) (pa_cons (pe_lst pa_nil) (pa_cons (pe_lst pa_nil) (pa_cons (pe_cmpR op_eq (pe_op op_mod (pe_callD G_law_cell_at hr.lv rfl T.K_law_cell_at (pa_cons (pv 0) (pa_cons pe_int pa_nil))) pe_int) pe_int (nomark _)) pa_nil))))))) (pss_one (ps_ret pe_bl)) pss_nil)))
      (pss_one (ps_ret (pe_cmpR (op_eq_data hr.units) (pe_callD G_wood_of hr.lv rfl T.K_wood_of (pa_cons (pv 1) (pa_cons (pv 2) (pa_cons (pv 3) pa_nil)))) (pe_tup (pa_cons (pv 1) (pa_cons (pe_callTy call_tuple_of rfl T.m_tuple PyProof.Rows.boot_tuple (pa_cons (pv 2) pa_nil)) (pa_cons (pe_callTy call_tuple_of rfl T.m_tuple PyProof.Rows.boot_tuple (pa_cons (pv 3) pa_nil)) pa_nil)))) (nomark _)))))))))), ?_⟩
  refine ⟨_, rfl, sp, ns, rfl, hS, hl, fun m m1 m9 => ?_⟩
  refine ⟨2, m, rfl, ?_⟩
  obtain ⟨M, hM, M2, M9⟩ : ∃ M : Int, (if m > 2 then m else 2) = M ∧ 2 ≤ M ∧ M ≤ 9 := by
    by_cases z : m > 2
    · exact ⟨m, if_pos z, by omega, by omega⟩
    · exact ⟨2, if_neg z, by omega, by omega⟩
  rw [hM]
  refine ⟨_, rfl, _, rfl, sp, ns, M, rfl, hS, hl, by omega, by omega, fun lb bs xs H1 s1 hb1 _ db1 gb b8 fb => ?_⟩
  refine ⟨_, rfl, _, rfl, sp, ns, M, rfl, s1.seq hS, hl, by omega, by omega, fun lc cs ys H2 s2 hc2 _ dc2 tc c8 fcc => ?_⟩
  have hb2 := s2 _ _ hb1
  have db2 := DnL.same s2 _ _ db1
  have s12 := s1.trans s2
  have fC : FewC (.list cs) := fun cs' e => by
    cases e
    exact ⟨by omega, fun c hc => (tc c hc).2⟩
  have g3 : ∀ c ∈ cs, thirdOk c := fun c hc => (tc c hc).2
  refine ⟨_, rfl, by decide, by decide, ?_⟩
  refine for_range0 (n := 12) (fun i σ H3 => (∃ v4 v5 v6 v7, σ = [some (.ref sp), some (.int M), some (.ref lb), some (.ref lc), v4, v5, v6, v7, none, none, none]) ∧ Same H2 H3) ⟨⟨none, none, none, none, rfl⟩, Same.refl _⟩ ?_ ?_
  · rintro i σ H3 hi ⟨⟨v4, v5, v6, v7, rfl⟩, s3⟩
    refine ⟨_, rfl, _, rfl, _, _, rfl, rfl, sp, ns, 30 + (i : Int), rfl, (s12.trans s3).seq hS, hl, by omega, by omega, fun c c0 c1 => ?_⟩
    refine ⟨_, rfl, _, rfl, _, rfl, _, rfl, lb, lc, M, c, xs, ys, bs, cs, rfl, s3 _ _ hb2, DnL.same s3 _ _ db2, gb, M2, M9, b8, s3 _ _ hc2, DnL.same s3 _ _ dc2, c8, g3, c0, fun d0 d1 d2 v H4 s4 hv fb4 fc4 nw => ?_⟩
    obtain ⟨bt, _, rfl, hbt, x0, _, rfl, h0, x1, _, rfl, h1, x2, _, rfl, h2, hnil⟩ := dn_tup hv
    cases (show _ = [] from hnil)
    refine ⟨_, rfl, bt, _, _, _, rfl, rfl, sqT hbt, at0, _, rfl, bt, _, _, _, rfl, rfl, sqT hbt, at1, _, rfl, bt, _, _, _, rfl, rfl, sqT hbt, at2, _, rfl, _, _, rfl, rfl, ⟨by decide, by decide⟩, _, _, rfl, rfl, by show (0 : Int) < 2; decide, rfl, x0, x1, x2, _, d0, d1, d2, rfl, h0, h1, h2, fb4, fc4, nw, fun H5 s5 => ⟨_, rfl, iteF ?_⟩⟩
    have s35 := s3.trans (s4.trans s5)
    refine ⟨_, rfl, _, rfl, _, _, rfl, rfl, ⟨by decide, by decide⟩, lb, c / 7, M, xs, bs, rfl, s35 _ _ hb2, DnL.same s35 _ _ db2, gb, M9, b8, by omega, fun l fs zs H6 s6 hl6 df ff hf => ?_⟩
    have s36 := s35.trans s6
    refine ⟨_, rfl, small (by decide), fun l2 hl2 => ?_⟩
    have s7 := same_new hl2 (.lst [])
    refine ⟨.list fs, .list [], ⟨l, zs, rfl, s7 _ _ hl6, DnL.same s7 _ _ df⟩, ⟨l2, _, rfl, upd_same, rfl⟩, shaped_flat ff (by decide), shaped_nil, _, rfl, ?_⟩
    have s37 := s36.trans s7
    refine ite2 (fun c2 => ?_) (fun c2 => ?_)
    · have bd : Bad M fs := by
        rcases hf with z | z
        · subst z
          rw [eqv_refl _ (SeqAt.canLay_of_shaped shaped_nil)] at c2
          cases c2
        · exact z
      refine ⟨_, rfl, _, rfl, _, rfl, _, rfl, _, _, rfl, rfl, ⟨by decide, by decide⟩, _, _, rfl, rfl, by show (0 : Int) < 2; decide, rfl, _, _, _, _, .int M, .list fs, .list cs, rfl, rfl, ⟨l, zs, rfl, s7 _ _ hl6, DnL.same s7 _ _ df⟩, ⟨lc, ys, rfl, s37 _ _ hc2, DnL.same s37 _ _ dc2⟩, bd.fewB, fC, no_wood_b bd, fun H8 s8 => ⟨_, rfl, iteF ?_⟩⟩
      exact ⟨⟨_, _, _, _, rfl⟩, s37.trans s8⟩
    · exact iteF ⟨⟨_, _, _, _, rfl⟩, s37⟩
  · rintro σ H3 ⟨⟨v4, v5, v6, v7, rfl⟩, s3⟩
    have s13 := s12.trans s3
    refine ⟨small (by show 2 ≤ 1000; decide), fun l0 hl0 => ?_⟩
    refine ⟨l0, rfl, ⟨_, SqL.of upd_same⟩, ?_⟩
    have s4 := same_new hl0 (.lst [.int 0, .int 1])
    refine for_list (K := K) (a := l0) (xs := [.int 0, .int 1]) (fun i σ H5 => (∃ v8 v9, σ = [some (.ref sp), some (.int M), some (.ref lb), some (.ref lc), v4, v5, v6, v7, v8, v9, none]) ∧ Same (upd H3 l0 (.lst [.int 0, .int 1])) H5) ⟨⟨none, none, rfl⟩, Same.refl _⟩ (fun i σ H5 _ z => SqL.of (z.2 _ _ upd_same)) ?_ ?_
    · rintro i x σ H5 hx ⟨⟨v8, v9, rfl⟩, s5⟩
      obtain ⟨u, u0, u1, rfl⟩ : ∃ u : Int, 0 ≤ u ∧ u ≤ 1 ∧ x = .int u := by
        match i, hx with
        | 0, hx => cases hx; exact ⟨0, by decide, by decide, rfl⟩
        | 1, hx => cases hx; exact ⟨1, by decide, by decide, rfl⟩
      refine ⟨_, rfl, sp, ns, 43, rfl, (s13.trans (s4.trans s5)).seq hS, hl, by decide, by decide, fun c c0 c1 => ?_⟩
      refine ⟨_, _, rfl, rfl, by show (0 : Int) < 2; decide, _, rfl, rfl, ?_⟩
      generalize decide (V.int (c % 2) = V.int u) = bb
      have env : EnvD [some (.ref sp), some (.int M), some (.ref lb), some (.ref lc), v4, v5, v6, v7, some (.int u), some (.bl bb), none] H5 [none, none, none, none, none, none, none, none, some (.int u), some (.bool bb), none] := .skip (.skip (.skip (.skip (.skip (.skip (.skip (.skip (.cons rfl (.cons rfl (.skip .nil))))))))))
      dsimp only
      refine gs_no (gd_callB (ds := [.int 3, .list [.tuple [.int u, .int 0, .int 1, .tuple [.int 2]], .tuple [.int 2, .int 0, .int 1, .tuple [.int 1]]], .list [], .bool bb]) (by repeat' (first | exact gdl_nil | refine gdl_cons ?_ ?_ | refine gd_tup ?_ ?_ | refine gd_lst ?_ ?_ | exact gd_int | exact gd_str | exact gd_non | exact gd_bl | exact gd_dict | exact gd_var rfl | refine gd_neg ?_ | refine gd_op ?_ ?_ rfl | exact gd_pw ⟨by decide, by decide, by decide⟩ | refine gd_opC ?_ ?_ ?_ rfl | exact ⟨by decide, by decide⟩ | (show (0 : Int) < _; decide) | refine gd_cat ?_ ?_ ?_ | refine gd_catT ?_ ?_ ?_ | refine gd_slT ?_ ?_ ?_ | exact gdo_none | refine gdo_some ?_ | refine gd_revT ?_ ?_ | exact Nat.le_of_ble_eq_true rfl)) fun vs H Q hv k => ?_) env fun H6 s6 e6 => ?_
      · obtain ⟨y0, _, rfl, h0, y1, _, rfl, h1, y2, _, rfl, h2, y3, _, rfl, h3, hn⟩ := hv
        cases (show _ = [] from hn)
        cases (show y3 = .bl bb from h3)
        exact ⟨y0, y1, y2, bb, _, _, _, rfl, h0, h1, h2, fun bs e => by cases e; exact ⟨by show 2 ≤ 60; decide, by show 2 ≤ 60; decide⟩, fewC_nil, no_three (b := .tuple [.int 2, .int 0, .int 1, .tuple [.int 1]]) (by simp) (by decide), k⟩
      refine gi_no (gd_callB (ds := [.int 3, .list [.tuple [.int 0, .int u, .int 2, .tuple [.int 2, .int 1]]], .list [], .bool bb]) (by repeat' (first | exact gdl_nil | refine gdl_cons ?_ ?_ | refine gd_tup ?_ ?_ | refine gd_lst ?_ ?_ | exact gd_int | exact gd_str | exact gd_non | exact gd_bl | exact gd_dict | exact gd_var rfl | refine gd_neg ?_ | refine gd_op ?_ ?_ rfl | exact gd_pw ⟨by decide, by decide, by decide⟩ | refine gd_opC ?_ ?_ ?_ rfl | exact ⟨by decide, by decide⟩ | (show (0 : Int) < _; decide) | refine gd_cat ?_ ?_ ?_ | refine gd_catT ?_ ?_ ?_ | refine gd_slT ?_ ?_ ?_ | exact gdo_none | refine gdo_some ?_ | refine gd_revT ?_ ?_ | exact Nat.le_of_ble_eq_true rfl)) fun vs H Q hv k => ?_) e6 fun H7 s7 e7 => ?_
      · obtain ⟨y0, _, rfl, h0, y1, _, rfl, h1, y2, _, rfl, h2, y3, _, rfl, h3, hn⟩ := hv
        cases (show _ = [] from hn)
        cases (show y3 = .bl bb from h3)
        exact ⟨y0, y1, y2, bb, _, _, _, rfl, h0, h1, h2, fun bs e => by cases e; exact ⟨by show 1 ≤ 60; decide, by show 2 ≤ 60; decide⟩, fewC_nil, no_three (b := .tuple [.int 0, .int u, .int 2, .tuple [.int 2, .int 1]]) (by simp) (nb_ris (by decide)), k⟩
      exact ⟨⟨_, _, rfl⟩, s5.trans (s6.trans s7)⟩
    · rintro σ H5 ⟨⟨v8, v9, rfl⟩, s5⟩
      refine ⟨small (by show 1 ≤ 1000; decide), fun l1 hl1 => ⟨small (by show 1 ≤ 1000; decide), fun t1 ht1 => ⟨small (by show 7 ≤ 1000; decide), fun l7 hn7 => ?_⟩⟩⟩
      have sa := same_new hl1 (.lst [.int 1])
      have sb := same_new ht1 (.tup [.int 1])
      have sc := same_new hn7 (.lst [.bl true, .bl false, .non, .str ("1" : Str), .ref l1, .ref t1, .int 0])
      have f1 := (sb.trans sc) _ _ (show upd H5 l1 (.lst [.int 1]) l1 = some (.lst [.int 1]) from upd_same)
      have f2 := sc _ _ (show upd (upd H5 l1 (.lst [.int 1])) t1 (.tup [.int 1]) t1 = some (.tup [.int 1]) from upd_same)
      have hl7 : upd (upd (upd H5 l1 (.lst [.int 1])) t1 (.tup [.int 1])) l7 (.lst [.bl true, .bl false, .non, .str ("1" : Str), .ref l1, .ref t1, .int 0]) l7 = some (.lst [.bl true, .bl false, .non, .str ("1" : Str), .ref l1, .ref t1, .int 0]) := upd_same
      have s6 := sa.trans (sb.trans sc)
      generalize upd (upd (upd H5 l1 (.lst [.int 1])) t1 (.tup [.int 1])) l7 (.lst [.bl true, .bl false, .non, .str ("1" : Str), .ref l1, .ref t1, .int 0]) = H6 at f1 f2 hl7 s6 ⊢
      have hz : DnL H6 [.bool true, .bool false, .none, .str ("1" : Str), .list [.int 1], .tuple [.int 1], .int 0] [.bl true, .bl false, .non, .str ("1" : Str), .ref l1, .ref t1, .int 0] := ⟨_, _, rfl, rfl, _, _, rfl, rfl, _, _, rfl, rfl, _, _, rfl, rfl, _, _, rfl, ⟨l1, _, rfl, f1, _, _, rfl, rfl, rfl⟩, _, _, rfl, ⟨t1, _, rfl, f2, _, _, rfl, rfl, rfl⟩, _, _, rfl, rfl, rfl⟩
      generalize hzs : [V.bl true, .bl false, .non, .str ("1" : Str), .ref l1, .ref t1, .int 0] = zs at hl7 hz
      refine ⟨l7, rfl, ⟨_, SqL.of hl7⟩, ?_⟩
      have s16 := s13.trans (s4.trans (s5.trans s6))
      refine for_list (K := K) (a := l7) (xs := zs) (fun i σ H7 => (∃ v10, σ = [some (.ref sp), some (.int M), some (.ref lb), some (.ref lc), v4, v5, v6, v7, v8, v9, v10]) ∧ Same H6 H7) ⟨⟨_, rfl⟩, Same.refl _⟩ (fun i σ H7 _ z => SqL.of (z.2 _ _ hl7)) ?_ ?_
      · rintro i x σ H7 hx ⟨⟨v10, rfl⟩, s7⟩
        obtain ⟨d, hd, hdx⟩ := hz.get hx
        have dm := List.mem_of_getElem? hd
        have nw : ∀ d1 d2, ¬ WoodIn d d1 d2 := by
          rintro d1 d2 ⟨m', bs, cs, rfl, h1, _⟩
          simp only [List.mem_cons, List.not_mem_nil, or_false, PyData.int.injEq, reduceCtorEq, false_or] at dm
          omega
        have env : EnvD [some (.ref sp), some (.int M), some (.ref lb), some (.ref lc), v4, v5, v6, v7, v8, v9, some x] H7 [none, none, none, none, none, none, none, none, none, none, some d] := .skip (.skip (.skip (.skip (.skip (.skip (.skip (.skip (.skip (.skip (.cons (Dn.same s7 _ _ hdx) .nil))))))))))
        refine ⟨_, rfl, small (by decide), fun l1 hl1 => ⟨small (by decide), fun l2 hl2 => ?_⟩⟩
        have sa := same_new hl1 (.lst [])
        have sb := same_new hl2 (.lst [])
        refine ⟨_, rfl, sp, ns, 42, rfl, (s16.trans (s7.trans (sa.trans sb))).seq hS, hl, by decide, by decide, fun c c0 c1 => ?_⟩
        refine ⟨_, _, rfl, rfl, by show (0 : Int) < 2; decide, rfl, x, _, _, _, d, .list [], .list [], rfl, Dn.same (s7.trans (sa.trans sb)) _ _ hdx, ⟨l1, _, rfl, sb _ _ upd_same, rfl⟩, ⟨l2, _, rfl, upd_same, rfl⟩, fun bs e => by cases e; exact ⟨by decide, by decide⟩, fewC_nil, nw _ _, fun H8 s8 => ⟨_, rfl, iteF ?_⟩⟩
        exact ⟨⟨_, rfl⟩, s7.trans ((sa.trans sb).trans s8)⟩
      · rintro σ H7 ⟨⟨v10, rfl⟩, s7⟩
        have s3' := s3.trans (s4.trans (s5.trans (s6.trans s7)))
        refine ⟨_, rfl, _, rfl, _, rfl, M, lb, lc, xs, ys, bs, cs, rfl, s3' _ _ hb2, s3' _ _ hc2, DnL.same s3' _ _ db2, DnL.same s3' _ _ dc2, gb, by omega, M9, by omega, tc, c8, fun wd tb tcc H8 s8 hwd htb htc => ?_⟩
        have s38 := s3'.trans s8
        refine ⟨_, rfl, _, rfl, lb, xs, rfl, .inl ⟨SqL.of (s38 _ _ hb2), fun t1 ht1 => ?_⟩⟩
        have sa := same_new ht1 (.tup xs)
        refine ⟨_, rfl, lc, ys, rfl, .inl ⟨SqL.of ((s38.trans sa) _ _ hc2), fun t2 ht2 => ?_⟩⟩
        have sb := same_new ht2 (.tup ys)
        refine ⟨small (by show 3 ≤ 1000; decide), fun t3 ht3 => ?_⟩
        have sc := same_new ht3 (.tup [.int M, .ref t1, .ref t2])
        have sd := sa.trans (sb.trans sc)
        have dx := DnL.same (s38.trans sd) _ _ db2
        have dy := DnL.same (s38.trans sd) _ _ dc2
        have sh : SeqAt.shaped (.tuple [.int M, .tuple bs, .tuple cs]) = true := shaped_tup (n := 4) (by decide) (by
          show (true && ((decide (bs.length ≤ 1000) && bs.all (flatD 3)) && ((decide (cs.length ≤ 1000) && cs.all (flatD 3)) && true))) = true
          rw [fb, fcc, decide_eq_true (by omega), decide_eq_true (by omega)]
          rfl)
        refine ⟨.tuple [.int M, .tuple bs, .tuple cs], .tuple [.int M, .tuple bs, .tuple cs], ⟨wd, _, rfl, sd _ _ hwd, _, _, rfl, rfl, _, _, rfl, ⟨tb, _, rfl, sd _ _ htb, dx⟩, _, _, rfl, ⟨tcc, _, rfl, sd _ _ htc, dy⟩, rfl⟩, ⟨t3, _, rfl, upd_same, _, _, rfl, rfl, _, _, rfl, ⟨t1, _, rfl, (sb.trans sc) _ _ upd_same, dx⟩, _, _, rfl, ⟨t2, _, rfl, sc _ _ upd_same, dy⟩, rfl⟩, sh, sh, ?_⟩
        rw [eqv_refl _ (SeqAt.canLay_of_shaped sh)]
        exact q _

end

-- FOOT
theorem all_mk {l : PySem.W.OpenLaw} {w : World} {K : PySem.W.Frag} {h : Heap} {mg : Str → Option Value} {fa f1 f2 f3 f4 f5 f6 f7 f8 f9 f10 f11 f12 f13 f14 f15 f16 f17 f18 f19 f20 f21 f22 f23 f24 y_WoodError y_NoWood y_NoCount y_NoWares y_NoOffer y_Unlike y_NoText y_NoRow y_NoName : Addr} (X : K.In h) (G : h.Ns mainGlobals mg) (hfa : mg "law" = some (.ref fa))
    {d1 d2 d3 d4 d5 d6 d7 d8 d9 d10 d11 d12 d13 d14 d15 d16 d17 d18 d19 d20 d21 d22 d23 d24 : FuncData}
    (a1 : Dk K "wood_of" s_wood_of f1 d1)
    (a2 : Dk K "check_boughs" s_check_boughs f2 d2)
    (a3 : Dk K "check_cross_ties" s_check_cross_ties f3 d3)
    (a4 : Dk K "is_whole" s_is_whole f4 d4)
    (a5 : Dk K "is_whole_within" s_is_whole_within f5 d5)
    (a6 : Dk K "is_option" s_is_option f6 d6)
    (a7 : Dk K "is_tuple_of_length" s_is_tuple_of_length f7 d7)
    (a8 : Dk K "is_filled_tuple" s_is_filled_tuple f8 d8)
    (a9 : Dk K "are_rising_options" s_are_rising_options f9 d9)
    (a10 : Dk K "is_bough" s_is_bough f10 d10)
    (a11 : Dk K "is_cross_tie" s_is_cross_tie f11 d11)
    (a12 : Dk K "are_pairs" s_are_pairs f12 d12)
    (a13 : Dk K "_law_cell_at" s_law_cell_at f13 d13)
    (a14 : Dk K "_law_boughs" s_law_boughs f14 d14)
    (a15 : Dk K "_law_tie" s_law_tie f15 d15)
    (a16 : Dk K "_law_cross" s_law_cross f16 d16)
    (a17 : Dk K "_law_many" s_law_many f17 d17)
    (a18 : Dk K "_law_odd_bough" s_law_odd_bough f18 d18)
    (a19 : Dk K "_law_odd_tie" s_law_odd_tie f19 d19)
    (a20 : Dk K "_law_twice_and_none" s_law_twice_and_none f20 d20)
    (a21 : Dk K "_law_turned" s_law_turned f21 d21)
    (a22 : Dk K "_law_spoiled" s_law_spoiled f22 d22)
    (a23 : Dk K "_law_refused" s_law_refused f23 d23)
    (a24 : Dk K "law" s_law f24 d24)
    (z1 : PySem.W.nsIn K mainGlobals "ValueError" = some none)
    (z2 : PySem.W.nsIn K mainGlobals "range" = some none)
    (z3 : PySem.W.nsIn K mainGlobals "len" = some none)
    (z4 : PySem.W.nsIn K mainGlobals "isinstance" = some none)
    (z5 : PySem.W.nsIn K mainGlobals "max" = some none)
    (z6 : PySem.W.nsIn K mainGlobals "int" = some none)
    (z7 : PySem.W.nsIn K mainGlobals "bool" = some none)
    (z8 : PySem.W.nsIn K mainGlobals "list" = some none)
    (z9 : PySem.W.nsIn K mainGlobals "tuple" = some none)
    (z10 : PySem.W.nsIn K mainGlobals "str" = some none)
    (z11 : PySem.W.nsIn K mainGlobals "sorted" = some none)
    (z12 : PySem.W.nsIn K mainGlobals "enumerate" = some none)
    (z13 : PySem.W.nsIn K mainGlobals "sum" = some none)
    {tc1 : Tok} (v1 : PySem.W.nsIn K mainGlobals "MOST_OPTIONS" = some (some (Value.int 9 tc1)))
    {tc2 : Tok} (v2 : PySem.W.nsIn K mainGlobals "MOST_CROSS_TIES" = some (some (Value.int 8 tc2)))
    (g_WoodError : PySem.W.nsIn K mainGlobals "WoodError" = some (some (.ref y_WoodError)))
    (g_NoWood : PySem.W.nsIn K mainGlobals "NoWood" = some (some (.ref y_NoWood)))
    (g_NoCount : PySem.W.nsIn K mainGlobals "NoCount" = some (some (.ref y_NoCount)))
    (g_NoWares : PySem.W.nsIn K mainGlobals "NoWares" = some (some (.ref y_NoWares)))
    (g_NoOffer : PySem.W.nsIn K mainGlobals "NoOffer" = some (some (.ref y_NoOffer)))
    (g_Unlike : PySem.W.nsIn K mainGlobals "Unlike" = some (some (.ref y_Unlike)))
    (g_NoText : PySem.W.nsIn K mainGlobals "NoText" = some (some (.ref y_NoText)))
    (g_NoRow : PySem.W.nsIn K mainGlobals "NoRow" = some (some (.ref y_NoRow)))
    (g_NoName : PySem.W.nsIn K mainGlobals "NoName" = some (some (.ref y_NoName)))
    (xa_WoodError : PySem.W.excIn K y_WoodError bmVE nwVE = true) (xb_WoodError : PySem.W.findIn K (.ref y_WoodError) "__getattribute__" = some (some (.builtin "BaseException.__getattribute__"))) (xc_WoodError : PySem.W.findIn K (.ref y_WoodError) "__getattr__" = some none) (xd_WoodError : PySem.W.findIn K (.ref y_WoodError) "__class__" = some (some (.builtin "object.__class__")))
    (xa_NoWood : PySem.W.excIn K y_NoWood bmVE nwVE = true) (xb_NoWood : PySem.W.findIn K (.ref y_NoWood) "__getattribute__" = some (some (.builtin "BaseException.__getattribute__"))) (xc_NoWood : PySem.W.findIn K (.ref y_NoWood) "__getattr__" = some none) (xd_NoWood : PySem.W.findIn K (.ref y_NoWood) "__class__" = some (some (.builtin "object.__class__")))
    (xa_NoCount : PySem.W.excIn K y_NoCount bmVE nwVE = true) (xb_NoCount : PySem.W.findIn K (.ref y_NoCount) "__getattribute__" = some (some (.builtin "BaseException.__getattribute__"))) (xc_NoCount : PySem.W.findIn K (.ref y_NoCount) "__getattr__" = some none) (xd_NoCount : PySem.W.findIn K (.ref y_NoCount) "__class__" = some (some (.builtin "object.__class__")))
    (xa_NoWares : PySem.W.excIn K y_NoWares bmVE nwVE = true) (xb_NoWares : PySem.W.findIn K (.ref y_NoWares) "__getattribute__" = some (some (.builtin "BaseException.__getattribute__"))) (xc_NoWares : PySem.W.findIn K (.ref y_NoWares) "__getattr__" = some none) (xd_NoWares : PySem.W.findIn K (.ref y_NoWares) "__class__" = some (some (.builtin "object.__class__")))
    (xa_NoOffer : PySem.W.excIn K y_NoOffer bmVE nwVE = true) (xb_NoOffer : PySem.W.findIn K (.ref y_NoOffer) "__getattribute__" = some (some (.builtin "BaseException.__getattribute__"))) (xc_NoOffer : PySem.W.findIn K (.ref y_NoOffer) "__getattr__" = some none) (xd_NoOffer : PySem.W.findIn K (.ref y_NoOffer) "__class__" = some (some (.builtin "object.__class__")))
    (xa_Unlike : PySem.W.excIn K y_Unlike bmVE nwVE = true) (xb_Unlike : PySem.W.findIn K (.ref y_Unlike) "__getattribute__" = some (some (.builtin "BaseException.__getattribute__"))) (xc_Unlike : PySem.W.findIn K (.ref y_Unlike) "__getattr__" = some none) (xd_Unlike : PySem.W.findIn K (.ref y_Unlike) "__class__" = some (some (.builtin "object.__class__")))
    (xa_NoText : PySem.W.excIn K y_NoText bmVE nwVE = true) (xb_NoText : PySem.W.findIn K (.ref y_NoText) "__getattribute__" = some (some (.builtin "BaseException.__getattribute__"))) (xc_NoText : PySem.W.findIn K (.ref y_NoText) "__getattr__" = some none) (xd_NoText : PySem.W.findIn K (.ref y_NoText) "__class__" = some (some (.builtin "object.__class__")))
    (xa_NoRow : PySem.W.excIn K y_NoRow bmVE nwVE = true) (xb_NoRow : PySem.W.findIn K (.ref y_NoRow) "__getattribute__" = some (some (.builtin "BaseException.__getattribute__"))) (xc_NoRow : PySem.W.findIn K (.ref y_NoRow) "__getattr__" = some none) (xd_NoRow : PySem.W.findIn K (.ref y_NoRow) "__class__" = some (some (.builtin "object.__class__")))
    (xa_NoName : PySem.W.excIn K y_NoName bmVE nwVE = true) (xb_NoName : PySem.W.findIn K (.ref y_NoName) "__getattribute__" = some (some (.builtin "BaseException.__getattribute__"))) (xc_NoName : PySem.W.findIn K (.ref y_NoName) "__getattr__" = some none) (xd_NoName : PySem.W.findIn K (.ref y_NoName) "__class__" = some (some (.builtin "object.__class__")))
    (k_NoWood_WoodError : PySem.W.kitOne K (.ref y_NoWood) (.ref y_WoodError) = some true)
    (k_NoWood_NoWood : PySem.W.kitOne K (.ref y_NoWood) (.ref y_NoWood) = some true)
    (k_NoWood_NoCount : PySem.W.kitOne K (.ref y_NoWood) (.ref y_NoCount) = some false)
    (k_NoWood_NoWares : PySem.W.kitOne K (.ref y_NoWood) (.ref y_NoWares) = some false)
    (k_NoWood_NoOffer : PySem.W.kitOne K (.ref y_NoWood) (.ref y_NoOffer) = some false)
    (k_NoWood_Unlike : PySem.W.kitOne K (.ref y_NoWood) (.ref y_Unlike) = some false)
    (k_NoWood_NoText : PySem.W.kitOne K (.ref y_NoWood) (.ref y_NoText) = some false)
    (k_NoWood_NoRow : PySem.W.kitOne K (.ref y_NoWood) (.ref y_NoRow) = some false)
    (k_NoWood_NoName : PySem.W.kitOne K (.ref y_NoWood) (.ref y_NoName) = some false)
    (v_NoWood : PySem.W.kitOne K (.ref y_NoWood) (.type "ValueError") = some true)
    (s_NoWood_WoodError : xsub K y_NoWood y_WoodError = true)
    (s_NoWood_NoWood : xsub K y_NoWood y_NoWood = true)
    : (∃ fd : FuncData, (∀ (s : Shared) (v : Value), BindsTo s fd ⟨[v], []⟩ [("_law_script", v)]) ∧ ∀ base : Heap, K.In base → base.Ns mainGlobals mg → FnOk l.prog w K mg base CX0 12 fa fd ["_law_script"] (spLaw K)) := by
  have e := hfa.symm.trans (PySem.W.mg_of X G a24.1)
  cases e
  have T : Txt K mg ⟨f1, f2, f3, f4, f5, f6, f7, f8, f9, f10, f11, f12, f13, f14, f15, f16, f17, f18, f19, f20, f21, f22, f23, fa, y_WoodError, y_NoWood, y_NoCount, y_NoWares, y_NoOffer, y_Unlike, y_NoText, y_NoRow, y_NoName⟩ ⟨d1, d2, d3, d4, d5, d6, d7, d8, d9, d10, d11, d12, d13, d14, d15, d16, d17, d18, d19, d20, d21, d22, d23, d24⟩ := ⟨PySem.W.mg_none_of X G z1, PySem.W.mg_none_of X G z2, PySem.W.mg_none_of X G z3, PySem.W.mg_none_of X G z4, PySem.W.mg_none_of X G z5, PySem.W.mg_none_of X G z6, PySem.W.mg_none_of X G z7, PySem.W.mg_none_of X G z8, PySem.W.mg_none_of X G z9, PySem.W.mg_none_of X G z10, PySem.W.mg_none_of X G z11, PySem.W.mg_none_of X G z12, PySem.W.mg_none_of X G z13, ⟨_, PySem.W.mg_of X G v1⟩, ⟨_, PySem.W.mg_of X G v2⟩, a1.df X G (bd3 fun _ _ _ _ _ _ _ _ _ => rfl), a2.df X G (bd2 fun _ _ _ _ _ _ _ _ => rfl), a3.df X G (bd2 fun _ _ _ _ _ _ _ _ => rfl), a4.df X G (bd1 fun _ _ _ _ _ _ _ => rfl), a5.df X G (bd3 fun _ _ _ _ _ _ _ _ _ => rfl), a6.df X G (bd2 fun _ _ _ _ _ _ _ _ => rfl), a7.df X G (bd2 fun _ _ _ _ _ _ _ _ => rfl), a8.df X G (bd1 fun _ _ _ _ _ _ _ => rfl), a9.df X G (bd3 fun _ _ _ _ _ _ _ _ _ => rfl), a10.df X G (bd2 fun _ _ _ _ _ _ _ _ => rfl), a11.df X G (bd2 fun _ _ _ _ _ _ _ _ => rfl), a12.df X G (bd2 fun _ _ _ _ _ _ _ _ => rfl), a13.df X G (bd2 fun _ _ _ _ _ _ _ _ => rfl), a14.df X G (bd2 fun _ _ _ _ _ _ _ _ => rfl), a15.df X G (bd2 fun _ _ _ _ _ _ _ _ => rfl), a16.df X G (bd2 fun _ _ _ _ _ _ _ _ => rfl), a17.df X G (bd1 fun _ _ _ _ _ _ _ => rfl), a18.df X G (bd3 fun _ _ _ _ _ _ _ _ _ => rfl), a19.df X G (bd2 fun _ _ _ _ _ _ _ _ => rfl), a20.df X G (bd3 fun _ _ _ _ _ _ _ _ _ => rfl), a21.df X G (bd2 fun _ _ _ _ _ _ _ _ => rfl), a22.df X G (bd4 fun _ _ _ _ _ _ _ _ _ _ => rfl), a23.df X G (bd4 fun _ _ _ _ _ _ _ _ _ _ => rfl), a24.df X G (bd1 fun _ _ _ _ _ _ _ => rfl), PySem.W.mg_of X G g_WoodError, PySem.W.mg_of X G g_NoWood, PySem.W.mg_of X G g_NoCount, PySem.W.mg_of X G g_NoWares, PySem.W.mg_of X G g_NoOffer, PySem.W.mg_of X G g_Unlike, PySem.W.mg_of X G g_NoText, PySem.W.mg_of X G g_NoRow, PySem.W.mg_of X G g_NoName, ⟨xa_WoodError, xb_WoodError, xc_WoodError, xd_WoodError⟩, ⟨xa_NoWood, xb_NoWood, xc_NoWood, xd_NoWood⟩, ⟨xa_NoCount, xb_NoCount, xc_NoCount, xd_NoCount⟩, ⟨xa_NoWares, xb_NoWares, xc_NoWares, xd_NoWares⟩, ⟨xa_NoOffer, xb_NoOffer, xc_NoOffer, xd_NoOffer⟩, ⟨xa_Unlike, xb_Unlike, xc_Unlike, xd_Unlike⟩, ⟨xa_NoText, xb_NoText, xc_NoText, xd_NoText⟩, ⟨xa_NoRow, xb_NoRow, xc_NoRow, xd_NoRow⟩, ⟨xa_NoName, xb_NoName, xc_NoName, xd_NoName⟩, k_NoWood_WoodError, k_NoWood_NoWood, k_NoWood_NoCount, k_NoWood_NoWares, k_NoWood_NoOffer, k_NoWood_Unlike, k_NoWood_NoText, k_NoWood_NoRow, k_NoWood_NoName, v_NoWood, s_NoWood_WoodError, s_NoWood_NoWood⟩
  exact ⟨d24, law_b a24.2 fun _ _ _ _ _ _ _ => rfl, fun base _ _ => ok_law T⟩
theorem walk {l : PySem.W.OpenLaw} {q : Program} {loose : List Str} {XP : (Str → Option Value) → Heap → Prop} {YP : World → Heap → Prop} {d : DefRec} {K : Params → PySem.W.Frag} (hn : l.most = some 63) (hdf : d.params.defaults = [])
    (hY : ∀ (w : World) (h : Heap), YP w h → (K w.params).In h)
    (F : ∀ (w : World) (mg : Str → Option Value) (fa : Addr) (h : Heap), (K w.params).In h → h.Ns mainGlobals mg → mg d.name = some (.ref fa) →
      ∃ fd : FuncData, (∀ (s : Shared) (u : Value), BindsTo s fd ⟨[u], []⟩ [("_law_script", u)]) ∧ ∀ base : Heap, (K w.params).In base → base.Ns mainGlobals mg → FnOk l.prog w (K w.params) mg base CX0 12 fa fd ["_law_script"] (spLaw (K w.params))) :
    PySem.W.WalkO q loose XP YP l.row.toRowW d [] (fun f vs => PySem.call f vs) :=
  
  L2.walk_of (n := 63) (k := 12) (x := "_law_script") (CX := fun _ => CX0) (sp := fun w => (spLaw (K w.params))) hn (by decide) hdf ⟨rfl, by decide, by decide⟩ hY F (fun _ _ a ns hl _ hS => ⟨a, ns, rfl, hS, hl, fun _ => rfl⟩) fun _ _ _ _ _ z => z
end Ow
structure PySem.W.Fast : Prop where
  (tw8712916944863266049 tw16695173502631336306 tw5321916516114869409 tw157373692859156340 tw17717070890424911642 tw8508785583284832141 tw16433232322944697426 tw1689732809434558437 tw17192584727500356582 tw13108914099082142465 tw1993368418584170319 tw6540722287216861641 tw13369131325512095961 tw15580175842044714439 tw10565134358512332121 tw162474865923703978 tw12053854481264794450 tw2141285817557457357 tw12412564327727817958 tw14720078766504839050 tw14928619316081169330 tw2615511919277968406 tw1237323565623159742 tw11689540102475880726 tw10949027314249945773 tw16210977627853887181 tw12638062998847394457 tw4389163173487665179 tw5547564155380230200 tw16516588507372927925 tw11300815805228963279 tw15350155848349821858 tw17909273885406335310 tw388948770079230450 tw15192568217650586100 tw3533630644291778187 tw6731499489176505401 tw6034202472600086749 tw12343263651302638802 tw9976817704558128257 tw3652870221938190370 tw7921599010091651534 tw479650388465896038 tw14310164797218620817 tw6797403733771766793 tw149200091781861649 tw11777479681047651127 tw4022724576413973719 tw5045757631273301403 tw1005451715211419968 tw1929159245890550289 tw2847505216315417327 tw6246061550339640261 tw15069268188356785862 tw3717446546114454412 tw11604882213775349025 tw16157215075292913985 tw18136018515482776613 tw7703595477488522870 tw18195043651445568334 tw9779344539887420002 tw13297996027085372783 tw10416711226375541322 tw1405130849441252135 tw470375386151026674 tw8494454153771677876 tw7314505681300881474 tw11114482344992930018 tw6826561615586199724 tw13511070104399467220 tw11492334918577598177 tw14865478393455811069 tw15248014983545048123 tw13385156153529009628 tw15663846785343869452 tw12741631069089752242 tw10297155190991891238 tw11914850763839524196 tw14820629796773982816 tw6950229910080496903 tw4496991126149944561 tw16767090298130440020 tw13322016653888511855 tw12155915759013499770 tw4957356473358592049 tw17044496434169293677 tw7779224688253431318 tw10995522324111866549 tw1058563783860123788 tw4411347673639211710 tw3970672765462851868 tw7022468644818443763 tw17678636705328200910 tw7717668916650641695 tw2631354587326862210 tw4454448833650593685 tw11069776468024375234 tw9740565728733577015 tw288042827994980677 tw9201283658779485822 tw16423019235072449728 tw4136785760083050286 tw17108467627630381149 tw5200511423344160520 tw2530100595780550565 tw5194479331182630939 tw13517346549436431452 tw4234558308701887997 tw4719403163160041669 tw775008162787182150 tw3638435304672282812 tw16235357146101480440 tw15124327089169740639 tw13998917841014136200 tw2455700125556394748 tw3813787039062293833 tw10391010034716729539 tw15195136509139616264 tw13871983999058865179 tw388922274576378449 tw10919138698457073969 tw14072139273241030959 tw336175135690162009 tw8690224780272331681 tw14125540939738772062 tw11650657918740805125 tw16332039755122957448 tw17631879901867029151 tw8954584572994191493 tw18363486667212805414 tw4102080510549609492 tw14419223768798793250 tw8518352440168130740 tw1789015696204426727 tw8343134165667722128 tw11522519248189102957 tw9980158244786602087 tw12488495328150087039 tw9314198508430987738 tw3621944339489679751 tw12803099492805511911 tw6418260460981611239 tw11980925474559232953 tw16588917661675068662 tw5505435559221117470 tw866805678729332094 tw6004544061133478959 tw16392509751188832350 tw17719004330275345254 tw14127056186111430162 tw15469000687474309898 tw8152492415769980519 tw3131093325120849295 tw16971735154451728193 tw1288330156690627207 tw5497321227356966579 tw1007840681631714875 tw1057781299035895175 tw12602509936497868332 tw4924906541987012100 tw2612607161893098747 tw1069365022296068091 tw3348546641099190672 tw12347239664769099440 tw7043077529767104877 tw6180138908827146702 tw14705840070259787075 tw12634424508739633203 tw6257908456994367836 tw8192459146322253493 tw7981391020675349960 tw8403923611999328414 tw16515598832466067755 tw12836167725748443682 tw11586913763266990962 tw524940626440998893 tw4073118483386610172 tw2883347991240876703 tw5545073718861531464 tw9700670335317963841 tw17238551365018585557 tw8713059989273951124 tw15280871618299021408 tw14895164142165915487 tw13493419038587371756 tw14601291526001719373 tw15784253085261139495 tw8707942028412092788 tw9367089399914436824 tw7411038196810440216 tw14515001450950434039 tw2685071582584814479 tw15857257896491985727 tw12061005598776566648 tw247928464881215230 tw2025490112402277200 tw17426622198008421052 tw14001219621896523221 tw6353217735949493744 tw2066145121293638682 tw8908169051191505993 tw9804315353329474533 tw1297536377550407297 tw7458025923447122689 tw2274722011291218983 tw13688515695449004417 tw15018894019842398810 tw9203687671513192257 tw17585053547265918013 tw8040178171779223267 tw9578866682039786614 tw5719389592616828334 tw15919410734064385192 tw16182443102369185372 tw2531970555788430426 tw6211963691579805711 tw17894596023103554761 tw17716425957834362713 tw2775764621141190536 tw16053539425545719410 tw17206063851644238043 tw2539316183904846171 tw9013078615926372302 tw505882640870698538 tw4230801938668701995 tw10095553580227458857 tw8905169546925739900 tw8273840482602310848 tw3259991212109441603 tw10496577865822933413 tw15099643925618386983 tw1525116770576289168 tw11403805986560824364 tw9244136036796816929 tw1153217974301912107 tw18234976277925215854 tw13389074574413806032 tw1387678944535138127 tw13573564305466888455 tw18259324125002080899 tw5831252910109798619 tw8207634540735105027 tw13296125463337771969 tw18120984052271520507 tw8027579189575713744 tw7556097917714851665 tw15266488191986154269 tw3012522328421366299 tw17916555586432138606 tw855602849621706011 tw14087639349322895812 tw17749537700768289697 tw15891203607055768140 tw54647676596842392 tw16732749661604701722 tw1027934260767751207 tw5267468366130386193 tw14664486554424479943 tw17048367855114979054 tw13334613371332037154 tw2041274523040589224 tw17836262188218821337 tw17120669045905454550 tw15910957978612822815 tw13234457644134578748 tw6282657750964765416 tw5115690712102413482 tw2446266864231674499 tw11148281676352437184 tw4261986257108147995 tw12516179107149676508 tw17005016867935020967 tw8888187436917288385 tw3076758007253589042 tw4287390880115518928 tw9467979279968951287 tw10323311726532115494 tw14637462602825178062 tw5707411706369351553 tw10190402342501761604 tw14514653348626904862 tw12059415161500009916 tw538924084491235464 tw14430179592249221719 tw12954672998878212440 tw5599124080181420345 : True)
namespace Ow
end Ow
open PySem PySem.W PyProof.Rows
set_option maxRecDepth 100000 in
set_option maxHeartbeats 0 in
theorem PySem.Challenge.cw_optionwood_k03_no_woods_holds : PySem.Challenge.rw_optionwood_k03_no_woods.Holds := by
  w_on; o_law; k_head; (case hw => w_witness2)
  k_fill
  refine Ow.walk (l := PySem.Challenge.rw_optionwood_k03_no_woods) rfl rfl (fun w h Y => PySem.W.kIn_of Y) ?F
  case F =>
    intro w mg fa h KX G hmg
    refine' Ow.all_mk KX G hmg ?a1 ?a2 ?a3 ?a4 ?a5 ?a6 ?a7 ?a8 ?a9 ?a10 ?a11 ?a12 ?a13 ?a14 ?a15 ?a16 ?a17 ?a18 ?a19 ?a20 ?a21 ?a22 ?a23 ?a24 ?z1 ?z2 ?z3 ?z4 ?z5 ?z6 ?z7 ?z8 ?z9 ?z10 ?z11 ?z12 ?z13 ?v1 ?v2 ?g_WoodError ?g_NoWood ?g_NoCount ?g_NoWares ?g_NoOffer ?g_Unlike ?g_NoText ?g_NoRow ?g_NoName ?xa_WoodError ?xb_WoodError ?xc_WoodError ?xd_WoodError ?xa_NoWood ?xb_NoWood ?xc_NoWood ?xd_NoWood ?xa_NoCount ?xb_NoCount ?xc_NoCount ?xd_NoCount ?xa_NoWares ?xb_NoWares ?xc_NoWares ?xd_NoWares ?xa_NoOffer ?xb_NoOffer ?xc_NoOffer ?xd_NoOffer ?xa_Unlike ?xb_Unlike ?xc_Unlike ?xd_Unlike ?xa_NoText ?xb_NoText ?xc_NoText ?xd_NoText ?xa_NoRow ?xb_NoRow ?xc_NoRow ?xd_NoRow ?xa_NoName ?xb_NoName ?xc_NoName ?xd_NoName ?k_NoWood_WoodError ?k_NoWood_NoWood ?k_NoWood_NoCount ?k_NoWood_NoWares ?k_NoWood_NoOffer ?k_NoWood_Unlike ?k_NoWood_NoText ?k_NoWood_NoRow ?k_NoWood_NoName ?v_NoWood ?s_NoWood_WoodError ?s_NoWood_NoWood
    all_goals try (refine' L2.dk ?a ?l ?c ?k; (case a => k_is); (case l => k_is); (case c => k_is); (case k => k_is))
    (case z1 => k_is)
    (case z2 => k_is)
    (case z3 => k_is)
    (case z4 => k_is)
    (case z5 => k_is)
    (case z6 => k_is)
    (case z7 => k_is)
    (case z8 => k_is)
    (case z9 => k_is)
    (case z10 => k_is)
    (case z11 => k_is)
    (case z12 => k_is)
    (case z13 => k_is)
    (case v1 => k_is)
    (case v2 => k_is)
    (case g_WoodError => k_is)
    (case g_NoWood => k_is)
    (case g_NoCount => k_is)
    (case g_NoWares => k_is)
    (case g_NoOffer => k_is)
    (case g_Unlike => k_is)
    (case g_NoText => k_is)
    (case g_NoRow => k_is)
    (case g_NoName => k_is)
    (case xa_WoodError => first | k_is | kernel_rfl)
    (case xb_WoodError => first | k_is | kernel_rfl)
    (case xc_WoodError => first | k_is | kernel_rfl)
    (case xd_WoodError => first | k_is | kernel_rfl)
    (case xa_NoWood => first | k_is | kernel_rfl)
    (case xb_NoWood => first | k_is | kernel_rfl)
    (case xc_NoWood => first | k_is | kernel_rfl)
    (case xd_NoWood => first | k_is | kernel_rfl)
    (case xa_NoCount => first | k_is | kernel_rfl)
    (case xb_NoCount => first | k_is | kernel_rfl)
    (case xc_NoCount => first | k_is | kernel_rfl)
    (case xd_NoCount => first | k_is | kernel_rfl)
    (case xa_NoWares => first | k_is | kernel_rfl)
    (case xb_NoWares => first | k_is | kernel_rfl)
    (case xc_NoWares => first | k_is | kernel_rfl)
    (case xd_NoWares => first | k_is | kernel_rfl)
    (case xa_NoOffer => first | k_is | kernel_rfl)
    (case xb_NoOffer => first | k_is | kernel_rfl)
    (case xc_NoOffer => first | k_is | kernel_rfl)
    (case xd_NoOffer => first | k_is | kernel_rfl)
    (case xa_Unlike => first | k_is | kernel_rfl)
    (case xb_Unlike => first | k_is | kernel_rfl)
    (case xc_Unlike => first | k_is | kernel_rfl)
    (case xd_Unlike => first | k_is | kernel_rfl)
    (case xa_NoText => first | k_is | kernel_rfl)
    (case xb_NoText => first | k_is | kernel_rfl)
    (case xc_NoText => first | k_is | kernel_rfl)
    (case xd_NoText => first | k_is | kernel_rfl)
    (case xa_NoRow => first | k_is | kernel_rfl)
    (case xb_NoRow => first | k_is | kernel_rfl)
    (case xc_NoRow => first | k_is | kernel_rfl)
    (case xd_NoRow => first | k_is | kernel_rfl)
    (case xa_NoName => first | k_is | kernel_rfl)
    (case xb_NoName => first | k_is | kernel_rfl)
    (case xc_NoName => first | k_is | kernel_rfl)
    (case xd_NoName => first | k_is | kernel_rfl)
    (case k_NoWood_WoodError => first | k_is | kernel_rfl)
    (case k_NoWood_NoWood => first | k_is | kernel_rfl)
    (case k_NoWood_NoCount => first | k_is | kernel_rfl)
    (case k_NoWood_NoWares => first | k_is | kernel_rfl)
    (case k_NoWood_NoOffer => first | k_is | kernel_rfl)
    (case k_NoWood_Unlike => first | k_is | kernel_rfl)
    (case k_NoWood_NoText => first | k_is | kernel_rfl)
    (case k_NoWood_NoRow => first | k_is | kernel_rfl)
    (case k_NoWood_NoName => first | k_is | kernel_rfl)
    (case v_NoWood => first | k_is | kernel_rfl)
    (case s_NoWood_WoodError => first | k_is | kernel_rfl)
    (case s_NoWood_NoWood => first | k_is | kernel_rfl)
#print axioms PySem.Challenge.cw_optionwood_k03_no_woods_holds
