import PyProof.Rows.All
import Wide.All
import OpenK.AllK
import Wide.FinOn
import Lean
import PyProof.EqAt
import PyProof.EqKinds
import PyProof.TupleCall
import PySem.Challenge.RW_optionwood_k24_ways_of_options

set_option Elab.async false
set_option linter.all false
set_option maxRecDepth 100000
/-! THE HAND LAYER, for ints, bools, texts, own classes, LISTS and tuples (index, slices, in, append, pop ..), calls, loops. Paste it whole ahead of your own text; what your proof does not reach may be deleted. -/
namespace L2
open PySem PySem.Spec PyProof.Rows

/-- a key: an int or a str -/
abbrev Key := Sum Int Str
def keyIs : Key → Value → Bool
  | .inl k, v => Value.isInt k v
  | .inr x, v => Value.isStrOf x v
def keyH (w : World) : Key → Int
  | .inl k => hashInt k
  | .inr x => hashStr w x
theorem keyIs_shape : ∀ {k : Key} {v : Value}, keyIs k v = true → (∃ i t, k = Sum.inl i ∧ v = Value.int i t) ∨ (∃ x t, k = Sum.inr x ∧ v = Value.str x t)
  | .inl i, v, h => by
    obtain ⟨t, e⟩ := Value.isInt_shape (k := i) (v := v) h
    exact .inl ⟨i, t, rfl, e⟩
  | .inr x, v, h => by
    obtain ⟨t, e⟩ := Value.isStrOf_shape (x := x) (v := v) h
    exact .inr ⟨x, t, rfl, e⟩
theorem key_ll (a b : Int) : decide ((Sum.inl a : Key) = Sum.inl b) = (a == b) := by
  by_cases e : a = b
  · subst e; simp
  · have h : ¬ (Sum.inl a : Key) = Sum.inl b := fun q => e (Sum.inl.inj q)
    rw [decide_eq_false h]
    exact (beq_eq_false_iff_ne.mpr e).symm
theorem key_rr (a b : Str) : decide ((Sum.inr a : Key) = Sum.inr b) = decide (a = b) := by
  by_cases e : a = b
  · subst e; simp
  · have h : ¬ (Sum.inr a : Key) = Sum.inr b := fun q => e (Sum.inr.inj q)
    rw [decide_eq_false h, decide_eq_false e]
theorem key_lr (a : Int) (b : Str) : decide ((Sum.inl a : Key) = Sum.inr b) = false := decide_eq_false (fun q => nomatch q)
theorem key_rl (a : Str) (b : Int) : decide ((Sum.inr a : Key) = Sum.inl b) = false := decide_eq_false (fun q => nomatch q)

def mixKind (prog : Program) (w : World) : PySem.KeyKind prog w Key where
  is := keyIs
  hash := keyH w
  inj := fun v a b ha hb => by
    rcases keyIs_shape ha with ⟨i, t, rfl, rfl⟩ | ⟨x, t, rfl, rfl⟩
    · rcases keyIs_shape hb with ⟨j, u, rfl, e⟩ | ⟨y, u, rfl, e⟩
      · injection e with e1 _; rw [e1]
      · exact nomatch e
    · rcases keyIs_shape hb with ⟨j, u, rfl, e⟩ | ⟨y, u, rfl, e⟩
      · exact nomatch e
      · injection e with e1 _; rw [e1]
  byValue := fun k v h => by
    rcases keyIs_shape h with ⟨i, t, rfl, rfl⟩ | ⟨x, t, rfl, rfl⟩ <;> rfl
  pyHash := fun hv h => by
    rcases keyIs_shape hv with ⟨i, t, rfl, rfl⟩ | ⟨x, t, rfl, rfl⟩
    · exact wpAny_pyHash_int h
    · exact wpAny_pyHash_str h
  eqBool := fun hu hv h => by
    rcases keyIs_shape hu with ⟨i, t, rfl, rfl⟩ | ⟨x, t, rfl, rfl⟩
    · rcases keyIs_shape hv with ⟨j, u, rfl, rfl⟩ | ⟨y, u, rfl, rfl⟩
      · rw [key_ll] at h; exact wpAny_eqBool_int h
      · rw [key_lr] at h; exact SeqAt.EqAt.int_str i t y u _ _ _ _ h
    · rcases keyIs_shape hv with ⟨j, u, rfl, rfl⟩ | ⟨y, u, rfl, rfl⟩
      · rw [key_rl] at h; exact SeqAt.EqAt.str_int x t j u _ _ _ _ h
      · rw [key_rr] at h; exact wpAny_eqBool_str h
  «strs» := fun k x t v h => by
    rcases keyIs_shape h with ⟨i, u, rfl, e⟩ | ⟨y, u, rfl, e⟩
    · exact nomatch e
    · injection e with e1 _
      subst e1
      cases v <;> rfl

end L2

namespace L2
open PySem PySem.Spec PyProof.Rows

/-- a value, without the heap -/
inductive V where
  | non | bl (b : Bool) | int (i : Int) | str (x : Str) | byt (b : Array UInt8) | flt (b : UInt64) | ref (a : Addr) | ty (n : String)
  deriving DecidableEq

def RelV : V → Value → Prop
  | .non, u => u = Value.none
  | .bl b, u => u = Value.bool b
  | .int i, u => ∃ t, u = Value.int i t
  | .str x, u => ∃ t, u = Value.str x t
  | .byt b, u => ∃ t, u = Value.bytes b t
  | .flt b, u => ∃ t, u = Value.float b t
  | .ref a, u => u = Value.ref a
  | .ty n, u => u = Value.type n

abbrev Vals : List V → List Value → Prop := Paired RelV
theorem Vals.length {xs : List V} {us : List Value} (r : Vals xs us) : xs.length = us.length := Paired.length r
theorem Vals.get : ∀ {xs : List V} {us : List Value} {i : Nat} {x : V}, Vals xs us → xs[i]? = some x → ∃ u, us[i]? = some u ∧ RelV x u
  | _, _, _, _, .nil, e => by simp at e
  | _, _, 0, _, .cons r _, e => by simp at e; subst e; exact ⟨_, rfl, r⟩
  | _, _, i + 1, x, .cons _ t, e => by
    obtain ⟨u, h1, h2⟩ := Vals.get (i := i) (x := x) t (by simpa using e)
    exact ⟨u, by simpa using h1, h2⟩
theorem Vals.set {x : V} {u : Value} (r : RelV x u) : ∀ {xs : List V} {us : List Value} (i : Nat), Vals xs us → Vals (xs.set i x) (us.set i u)
  | _, _, _, .nil => .nil
  | _, _, 0, .cons _ t => .cons r t
  | _, _, i + 1, .cons q t => .cons q (Vals.set r i t)
theorem Vals.append : ∀ {xs ys : List V} {us ws : List Value}, Vals xs us → Vals ys ws → Vals (xs ++ ys) (us ++ ws)
  | _, _, _, _, .nil, s => s
  | _, _, _, _, .cons r t, s => .cons r (Vals.append t s)
theorem Vals.take : ∀ {xs : List V} {us : List Value} (n : Nat), Vals xs us → Vals (xs.take n) (us.take n)
  | _, _, 0, _ => .nil
  | _, _, _ + 1, .nil => .nil
  | _, _, n + 1, .cons r t => .cons r (Vals.take n t)
theorem Vals.drop : ∀ {xs : List V} {us : List Value} (n : Nat), Vals xs us → Vals (xs.drop n) (us.drop n)
  | _, _, 0, r => r
  | _, _, _ + 1, .nil => .nil
  | _, _, n + 1, .cons _ t => Vals.drop n t
def RelO : Option V → Option Value → Prop
  | some v, some u => RelV v u
  | none, none => True
  | _, _ => False
def KV {κ : Type} : List (κ × V) → List (κ × Value) → Prop := Paired fun (p : κ × V) (q : κ × Value) => p.1 = q.1 ∧ RelV p.2 q.2

/-- a key of a dict (00_mix): an int or a text -/
def kV : Key → V
  | .inl i => .int i
  | .inr x => .str x

/-- what stands at a tracked address -/
inductive HO where
  /-- a list -/
  | lst (xs : List V)
  /-- a tuple (never changes) -/
  | tup (xs : List V)
  /-- a dict whose keys are ints and texts; one whose keys are tuples of ints and texts (the empty one is both) -/
  | dK (kvs : List (Key × V)) | dT (kvs : List (List Key × V))
  /-- a set of ints: its members, its size -/
  | set (S : Int → Bool) (n : Nat)
  /-- an instance of the class at C, its dict at dx, its attributes -/
  | ins (C dx : Addr) (fs : List (Str × V))
  /-- the dict of the instance at x -/
  | own (x : Addr)
  /-- the dict of an exception -/
  | xd (fs : List (Str × V))
  /-- a bound method, f of x -/
  | met (f x : Addr)
  /-- a range object lo, lo + 1, .. below hi -/
  | rng (lo hi : Int)
  /-- a thing that is known to the object (the script; a dict while a loop walks it): read, never written while it is so -/
  | frz (o : Obj) (u : HO)
  /-- a code object's table -/
  | tbl (ps : Array Value)
  /-- any other thing, by what is true of its one object (a def of one's own: SetO a S n := HO.ext fun h => ..) -/
  | ext (φ : Heap → Prop)

abbrev Hp := Addr → Option HO
def upd (H : Hp) (a : Addr) (o : HO) : Hp := fun b => if b = a then some o else H b
theorem upd_same {H : Hp} {a : Addr} {o : HO} : upd H a o a = some o := by unfold upd; rw [if_pos rfl]
theorem upd_ne {H : Hp} {a b : Addr} {o : HO} (h : b ≠ a) : upd H a o b = H b := by unfold upd; rw [if_neg h]
/-- two objects of different content stand apart -/
theorem ne_of {H : Hp} {a b : Addr} {o u : HO} (h : H a = some o) (h' : H b = some u) (d : o ≠ u) : a ≠ b := by
  intro e; subst e; rw [h] at h'; exact d (Option.some.inj h')
theorem ne_of_none {H : Hp} {a b : Addr} {o : HO} (h : H a = some o) (h' : H b = none) : a ≠ b := by
  intro e; subst e; rw [h] at h'; cases h'

section
variable (P : Program) (w : World)
def ObjOk (H : Hp) (h : Heap) (a : Addr) : HO → Prop
  | .lst xs => xs.length ≤ sizeLine ∧ ∃ (its : List Value) (n : Nat), Vals xs its ∧ h.get? a = some { cls := .type "list", data := .seq its.toArray n }
  | .tup xs => xs.length ≤ sizeLine ∧ ∃ its : List Value, Vals xs its ∧ IsTup h a its.toArray
  | .dK kvs => kvs.length ≤ sizeLine ∧ (a == sysModules) = false ∧ ∃ vs, KV kvs vs ∧ h.DictOf (mixKind P w) a vs
  | .dT kvs => kvs.length ≤ sizeLine ∧ (a == sysModules) = false ∧ ∃ xs : List (List Key × Addr × Value),
      Paired (fun (p : List Key × V) (q : List Key × Addr × Value) => p.1 = q.1 ∧ H q.2.1 = some (.tup (p.1.map kV)) ∧ RelV p.2 q.2.2) kvs xs ∧
      ∃ o es ep, h.get? a = some o ∧ o.ExactDict ∧ o.data = .dict es ep ∧ es.toList = xs.map (entryOfKey (tupleKind (mixKind P w))) ∧ (xs.map (·.1)).Nodup
  | .set S n => h.SetOf (intKind P w) a S n
  | .ins C dx fs => H dx = some (.own a) ∧ fs.length ≤ 1000 ∧ dx ≠ a ∧ h.get? a = some (PySem.W.instObj C dx) ∧
      ∃ mA, h.Ns1 dx mA ∧ (∀ f, RelO (fs.lookup f) (mA f)) ∧ PySem.Within mA (fs.map (·.1))
  | .own _ => ∃ o, h.get? a = some o
  | .xd fs => ∃ mA, h.Ns1 a mA ∧ ∀ f, RelO (fs.lookup f) (mA f)
  | .rng lo hi => ∃ t u v, h.get? a = some { cls := .type "range", data := .fields #[.int lo t, .int hi u, .int 1 v] }
  | .frz o u => h.get? a = some o ∧ ObjOk H h a u
  | .tbl ps => h.get? a = some { cls := .none, data := .fields ps }
  | .met f x => h.get? a = some (PySem.W.methodObj (.ref f) (.ref x))
  | .ext φ => φ h ∧ (∃ o, h.get? a = some o) ∧ ∀ h1 h2 : Heap, φ h1 → (∀ o, h1.get? a = some o → h2.get? a = some o) → φ h2
/-- the abstract heap is held -/
def HOk (H : Hp) (h : Heap) : Prop := ∀ a o, H a = some o → ObjOk P w H h a o
end

section
variable {P : Program} {w : World} {H H' : Hp} {h h' : Heap} {a : Addr} {o : HO}
theorem ObjOk.lt (x : ObjOk P w H h a o) : a < h.objs.size := by
  cases o with
  | lst xs => obtain ⟨_, _, _, _, e⟩ := x; exact Heap.lt_size e
  | tup xs => obtain ⟨_, _, _, p⟩ := x; exact p.lt
  | dK kvs => obtain ⟨_, _, _, _, o, _, _, e, _⟩ := x; exact Heap.lt_size e
  | dT kvs => obtain ⟨_, _, _, _, o, _, _, e, _⟩ := x; exact Heap.lt_size e
  | set S n => obtain ⟨o, _, _, _, e, _⟩ := x; exact Heap.lt_size e
  | ins C dx fs => obtain ⟨_, _, _, e, _⟩ := x; exact Heap.lt_size e
  | own y => obtain ⟨_, e⟩ := x; exact Heap.lt_size e
  | xd fs => obtain ⟨_, ⟨_, _, _, e, _⟩, _⟩ := x; exact Heap.lt_size e
  | rng lo hi => obtain ⟨_, _, _, e⟩ := x; exact Heap.lt_size e
  | frz ob u => obtain ⟨e, _⟩ := x; exact Heap.lt_size e
  | tbl ps => exact Heap.lt_size (show h.get? a = some _ from x)
  | met f y => exact Heap.lt_size (show h.get? a = some _ from x)
  | ext φ => obtain ⟨_, ⟨_, e⟩, _⟩ := x; exact Heap.lt_size e
theorem Paired.mapP {α β : Type} {F G : α → β → Prop} : ∀ {l₁ : List α} {l₂ : List β}, Paired F l₁ l₂ → (∀ a b, F a b → G a b) → Paired G l₁ l₂
  | _, _, .nil, _ => .nil
  | _, _, .cons r t, f => .cons (f _ _ r) (Paired.mapP t f)
/-- what an object's description leans on: its own object, its own dict, the tuples -/
theorem ObjOk.stay (x : ObjOk P w H h a o) (k : ∀ b u, (b = a ∨ H b = some (.own a)) → h.get? b = some u → h'.get? b = some u)
    (ho : ∀ b, H b = some (.own a) → H' b = some (.own a)) (ht : ∀ b xs, H b = some (.tup xs) → H' b = some (.tup xs)) : ObjOk P w H' h' a o := by
  induction o with
  | lst xs => obtain ⟨z, its, n, r, e⟩ := x; exact ⟨z, its, n, r, k _ _ (.inl rfl) e⟩
  | tup xs => obtain ⟨z, its, r, ob, e, c⟩ := x; exact ⟨z, its, r, ob, k _ _ (.inl rfl) e, c⟩
  | dK kvs => obtain ⟨z, y, vs, r, ob, es, ep, e, c⟩ := x; exact ⟨z, y, vs, r, ob, es, ep, k _ _ (.inl rfl) e, c⟩
  | dT kvs =>
    obtain ⟨z, y, xs, r, ob, es, ep, e, c⟩ := x
    exact ⟨z, y, xs, Paired.mapP r fun p q z => ⟨z.1, ht _ _ z.2.1, z.2.2⟩, ob, es, ep, k _ _ (.inl rfl) e, c⟩
  | set S n => obtain ⟨ob, es, ep, t, e, c⟩ := x; exact ⟨ob, es, ep, t, k _ _ (.inl rfl) e, c⟩
  | ins C dx fs =>
    obtain ⟨d, z, ne, e, mA, ⟨od, es, ep, e2, c⟩, r⟩ := x
    exact ⟨ho _ d, z, ne, k _ _ (.inl rfl) e, mA, ⟨od, es, ep, k _ _ (.inr d) e2, c⟩, r⟩
  | own y => obtain ⟨ob, e⟩ := x; exact ⟨ob, k _ _ (.inl rfl) e⟩
  | xd fs => obtain ⟨mA, ⟨od, es, ep, e, c⟩, r⟩ := x; exact ⟨mA, ⟨od, es, ep, k _ _ (.inl rfl) e, c⟩, r⟩
  | rng lo hi => obtain ⟨t, u, v, e⟩ := x; exact ⟨t, u, v, k _ _ (.inl rfl) e⟩
  | frz ob u ih => obtain ⟨e, q⟩ := x; exact ⟨k _ _ (.inl rfl) e, ih q⟩
  | tbl ps =>
    have e : h.get? a = some { cls := .none, data := .fields ps } := x
    show h'.get? a = some { cls := .none, data := .fields ps }
    exact k a _ (.inl rfl) e
  | met f y =>
    have e : h.get? a = some (PySem.W.methodObj (.ref f) (.ref y)) := x
    show h'.get? a = some (PySem.W.methodObj (.ref f) (.ref y))
    exact k a _ (.inl rfl) e
  | ext φ => obtain ⟨p, ⟨o, e⟩, st⟩ := x; exact ⟨st _ _ p fun o q => k _ _ (.inl rfl) q, ⟨o, k _ _ (.inl rfl) e⟩, st⟩
theorem HOk.lt (x : HOk P w H h) (e : H a = some o) : a < h.objs.size := (x a o e).lt
theorem HOk.fresh (x : HOk P w H h) (e : h.objs.size ≤ a) : H a = none := by
  cases q : H a with
  | none => rfl
  | some u => exact absurd (Nat.lt_of_lt_of_le (x.lt q) e) (Nat.lt_irrefl _)
/-- every object of the heap is kept -/
theorem HOk.kept (x : HOk P w H h) (k : ∀ b u, h.get? b = some u → h'.get? b = some u) : HOk P w H h' := fun a o e =>
  (x a o e).stay (fun b u _ q => k b u q) (fun _ q => q) fun _ _ q => q
/-- a new object is laid and tracked -/
theorem HOk.laid (x : HOk P w H h) (k : ∀ b u, h.get? b = some u → h'.get? b = some u) (hp : h.objs.size ≤ a) (new : ObjOk P w (upd H a o) h' a o) : HOk P w (upd H a o) h' := fun b u e => by
  have hn := x.fresh hp
  by_cases hb : b = a
  · subst hb; rw [upd_same] at e; cases e; exact new
  · rw [upd_ne hb] at e
    exact (x b u e).stay (fun c v _ q => k c v q) (fun c q => by rw [upd_ne (ne_of_none q hn)]; exact q) fun c xs q => by rw [upd_ne (ne_of_none q hn)]; exact q
end

/-- what may be read as u: it is u, or a known u -/
def Rd (H : Hp) (a : Addr) (u : HO) : Prop := H a = some u ∨ ∃ o, H a = some (.frz o u)
theorem Rd.ok {P : Program} {w : World} {H : Hp} {h : Heap} {a : Addr} {u : HO} (r : Rd H a u) (x : HOk P w H h) : ObjOk P w H h a u := by
  rcases r with r | ⟨o, r⟩
  · exact x a u r
  · obtain ⟨_, q⟩ := x a _ r
    exact q
/-- what may be written -/
def Mut : Option HO → Prop
  | some (.lst _) => True
  | some (.dK _) => True
  | some (.dT _) => True
  | some (.set _ _) => True
  | some (.ins _ _ _) => True
  | some (.ext _) => True
  | _ => False
section
variable {P : Program} {w : World} {H : Hp} {h h' : Heap} {x e : Addr} {o' : HO}
/-- the object at e is changed: x itself, or the dict of the instance x -/
theorem HOk.write (ok : HOk P w H h) (mu : Mut (H x)) (he : e = x ∨ H e = some (.own x)) (k : ∀ b u, b ≠ e → h.get? b = some u → h'.get? b = some u) (heo : ∃ u, h'.get? e = some u)
    (new : ObjOk P w (upd H x o') h' x o') : HOk P w (upd H x o') h' := fun b u q => by
  have nown : ∀ c y, H c = some (.own y) → c ≠ x := fun c y r z => by subst z; rw [r] at mu; exact mu
  have ntup : ∀ c xs, H c = some (.tup xs) → c ≠ x := fun c xs r z => by subst z; rw [r] at mu; exact mu
  by_cases hb : b = x
  · subst hb; rw [upd_same] at q; cases q; exact new
  · rw [upd_ne hb] at q
    by_cases hbe : b = e
    · have q' : H b = some (.own x) := by
        rcases he with z | z
        · exact absurd (hbe.trans z) hb
        · rw [hbe]; exact z
      rw [q] at q'; cases q'
      obtain ⟨v, hv⟩ := heo
      exact ⟨v, by rw [hbe]; exact hv⟩
    · refine (ok b u q).stay (fun c v hc r => k c v ?_ r) (fun c r => by rw [upd_ne (nown c b r)]; exact r) fun c xs r => by rw [upd_ne (ntup c xs r)]; exact r
      rcases hc with rfl | hc
      · exact hbe
      · rintro rfl
        rcases he with z | z
        · exact nown c b hc z
        · rw [hc] at z; cases z; exact hb rfl
end

/-! ### kept unless tracked; of the frames at fs (the callers') the slots may change (an exception that passes writes there); of the records at ex (iterators) nothing is said -/
structure Un (fs ex : List Addr) (H H' : Hp) (h h' : Heap) : Prop where
  keep : ∀ b o, h.get? b = some o → H b = none → b ∉ fs → b ∉ ex → h'.get? b = some o
  slot : ∀ b o, h.get? b = some o → H b = none → b ∈ fs → b ∉ ex → ∃ sl, h'.get? b = some { o with slots := sl }
  free : ∀ b o, h.get? b = some o → H b = none → b ∉ ex → H' b = none
  there : ∀ b o, h.get? b = some o → b ∉ ex → ∃ o', h'.get? b = some o'
  tups : ∀ b xs, H b = some (.tup xs) → H' b = some (.tup xs)
  frzs : ∀ b o u, H b = some (.frz o u) → H' b = some (.frz o u)
  tbls : ∀ b ps, H b = some (.tbl ps) → ∃ more, H' b = some (.tbl (ps ++ more))
section
variable {fs fs' ex ex' : List Addr} {H H1 H2 : Hp} {h h1 h2 h' : Heap} {a x e : Addr} {o : HO}
theorem Un.any (u : Un fs ex H H1 h h1) {b : Addr} {ob : Obj} (q : h.get? b = some ob) (n : H b = none) (hx : b ∉ ex) : ∃ sl, h1.get? b = some { ob with slots := sl } := by
  by_cases hb : b ∈ fs
  · exact u.slot b ob q n hb hx
  · exact ⟨ob.slots, u.keep b ob q n hb hx⟩
theorem Un.kept (k : ∀ b u, h.get? b = some u → h'.get? b = some u) : Un fs ex H H h h' :=
  ⟨fun b ob q _ _ _ => k b ob q, fun b ob q _ _ _ => ⟨ob.slots, k b ob q⟩, fun _ _ _ n _ => n, fun b ob q _ => ⟨ob, k b ob q⟩, fun _ _ q => q, fun _ _ _ q => q, fun _ ps q => ⟨#[], by rw [q]; simp⟩⟩
theorem Un.refl : Un fs ex H H h h := Un.kept fun _ _ q => q
theorem Un.laid (k : ∀ b u, h.get? b = some u → h'.get? b = some u) (hp : h.objs.size ≤ a) (hn : H a = none) : Un fs ex H (upd H a o) h h' where
  keep := fun b u q _ _ _ => k b u q
  slot := fun b u q _ _ _ => ⟨u.slots, k b u q⟩
  free := fun b u q n _ => by rw [upd_ne (Nat.ne_of_lt (Nat.lt_of_lt_of_le (Heap.lt_size q) hp))]; exact n
  there := fun b u q _ => ⟨u, k b u q⟩
  tups := fun b xs q => by rw [upd_ne (ne_of_none q hn)]; exact q
  frzs := fun b u xs q => by rw [upd_ne (ne_of_none q hn)]; exact q
  tbls := fun b ps q => ⟨#[], by rw [upd_ne (ne_of_none q hn), q]; simp⟩
theorem Un.write (mu : Mut (H x)) (he : e = x ∨ H e = some (.own x)) (k : ∀ b u, b ≠ e → h.get? b = some u → h'.get? b = some u) (heo : ∃ u, h'.get? e = some u) : Un fs ex H (upd H x o) h h' := by
  have hx : ∀ b, H b = none → b ≠ x := fun b n z => by subst z; rw [n] at mu; exact mu
  have hb : ∀ b, H b = none → b ≠ e := fun b n z => by
    subst z
    rcases he with r | r
    · exact hx b n r
    · rw [n] at r; cases r
  have hm : ∀ b u, H b = some u → ¬ Mut (some u) → b ≠ x := fun b u q nm z => by subst z; rw [q] at mu; exact nm mu
  refine ⟨fun b u q n _ _ => k b u (hb b n) q, fun b u q n _ _ => ⟨u.slots, k b u (hb b n) q⟩, fun b u q n _ => by rw [upd_ne (hx b n)]; exact n, fun b u q _ => ?_,
    fun b xs q => by rw [upd_ne (hm b _ q fun z => z)]; exact q, fun b u xs q => by rw [upd_ne (hm b _ q fun z => z)]; exact q, fun b ps q => ⟨#[], by rw [upd_ne (hm b _ q fun z => z), q]; simp⟩⟩
  by_cases hbe : b = e
  · subst hbe; exact heo
  · exact ⟨u, k b u hbe q⟩
end

/-! ### the heap without what is tracked -/
def trk (h : Heap) (H : Hp) : List Addr := (List.range h.objs.size).filter fun a => (H a).isSome
def hidT (h : Heap) (H : Hp) : Heap := PySem.W.hideAll h (trk h H)
theorem hidT_size (h : Heap) (H : Hp) : (hidT h H).objs.size = h.objs.size := PySem.W.hideAll_size _ _
theorem hidT_get {h : Heap} {H : Hp} {b : Addr} {o : Obj} (e : h.get? b = some o) (n : H b = none) : (hidT h H).get? b = some o :=
  PySem.W.hideAll_get _ e fun hm => by
    have q : (H b).isSome = true := (List.mem_filter.mp hm).2
    rw [n] at q; simp at q
theorem of_hidT {h : Heap} {H : Hp} {b : Addr} {o : Obj} (e : (hidT h H).get? b = some o) : h.get? b = some o ∧ H b = none := by
  have e' : h.get? b = some o := PySem.W.of_hideAll (trk h H) e
  refine ⟨e', ?_⟩
  cases q : H b with
  | none => rfl
  | some x =>
    have hm : b ∈ trk h H := List.mem_filter.mpr ⟨List.mem_range.mpr (Heap.lt_size e'), by simp [q]⟩
    have z : (hidT h H).get? b = none := PySem.W.hideAll_none (trk h H) hm
    rw [z] at e; cases e

/-! ### OpenK's ledger, filled with every new object but one -/
end L2

namespace L2
open PySem PySem.Spec PyProof.Rows

/-- the module's facts, over the base: the heap at the law's entry without what is tracked there -/
structure Mod (K : PySem.W.Frag) (mg : Str → Option Value) (base : Heap) : Prop where
  kin : K.In base
  glob : base.Ns mainGlobals mg
  blt : ∃ mb, base.Ns builtinsNs mb ∧ ∀ x : Str, x ≠ "__name__" → mb x = bootBuiltins x
  nolimit : base.NoLimit

/-- the context: a def's body (or a comprehension's block) running. base: fixed through the whole law; s₀, H₀: the entry; outer: the frames whose slots others may change (a def's callers); stack: all frames that run;
   ex: iterators that were made ahead of the entry and are walked here (a comprehension's); fn: the names whose cells were made at the entry (a def: all; a comprehension's block: its own); calm: not within an except suite; pn: pins that every state bears; xe: what is wanted of an exception that leaves the code -/
structure Cx where
  prog : Program
  w : World
  K : PySem.W.Frag
  mg : Str → Option Value
  base : Heap
  A : Around
  N : List Str
  s₀ : Shared
  H₀ : Hp
  env : Env
  outer : List Env
  stack : List Env
  ex : List Addr
  fn : Str → Bool
  calm : Bool
  pn : List (Addr × Obj)
  xe : Value → Shared → Prop
/-- the callers' frames -/
def frs (l : List Env) : List Addr := l.filterMap (·.frame)
abbrev Cx.fs (X : Cx) : List Addr := frs X.outer

def Vis (sc : Scope) (x : Str) : Prop := sc.names.lookup x = some .local ∨ sc.names.lookup x = some .cell ∨ sc.names.lookup x = some .free
def Loc (sc : Scope) (x : Str) : Prop := sc.names.lookup x = some .local ∨ sc.names.lookup x = some .cell
def Look (env : Env) (h : Heap) (m : Str → Option Value) (x : Str) (u : Value) : Prop :=
  (env.kindOf x = some .local ∧ m x = some u) ∨ ((env.kindOf x = some .cell ∨ env.kindOf x = some .free) ∧ ∃ c, env.cells.lookup x = some c ∧ h.IsCell c (some u))

structure Cx.Ok (X : Cx) : Prop where
  mod : Mod X.K X.mg X.base
  kind : X.env.scope.kind = .function
  glob : X.env.globals = mainGlobals
  blt : X.env.builtins = builtinsNs
  above : X.s₀.heap.objs.size ≤ X.env.locals
  inj : ∀ x y c, X.env.cells.lookup x = some c → X.env.cells.lookup y = some c → x = y
  has : ∀ x, (X.env.kindOf x = some .cell ∨ X.env.kindOf x = some .free) → ∃ c, X.env.cells.lookup x = some c
  cab : ∀ x c, X.fn x = true → X.env.cells.lookup x = some c → X.s₀.heap.objs.size ≤ c
  hd : X.calm = true → X.A.handled = none
  frames : X.A.frames = some X.stack
  stk : X.stack = X.outer ∨ (X.stack = X.env :: X.outer ∧ X.env.frame = some X.env.locals)
  exf : ∀ b ∈ X.ex, b ≠ X.env.locals ∧ ∀ x c, X.env.cells.lookup x = some c → c ≠ b
  bs : ∀ b o, X.base.get? b = some o → X.s₀.heap.get? b = some o ∧ X.H₀ b = none
  bsz : X.base.objs.size ≤ X.s₀.heap.objs.size
  noex : ∀ b o, X.base.get? b = some o → b ∉ X.ex
  exfs : ∀ b ∈ X.ex, b ∉ X.fs
  funs : X.s₀.heap.FunFrames X.base X.outer
  frf : ∀ b ∈ X.fs, X.H₀ b = none

structure Inv (X : Cx) (pins : List (Addr × Obj)) (σ : List (Option V)) (H : Hp) (s : Shared) : Prop where
  ok : X.Ok
  os : s.os = X.s₀.os
  bare : AllBare s.gens
  base : Un X.fs X.ex X.H₀ H X.s₀.heap s.heap
  loc : ∃ m, s.heap.Ns X.env.locals m ∧ ∀ (i : Nat) (x : Str) (v : V), X.N[i]? = some x → σ[i]? = some (some v) → Vis X.env.scope x → ∃ u, RelV v u ∧ Look X.env s.heap m x u
  cell : ∀ x c, X.env.cells.lookup x = some c → ∃ v, s.heap.IsCell c v
  free : H X.env.locals = none
  freeC : ∀ x c, X.env.cells.lookup x = some c → H c = none
  pin : ∀ p ∈ X.pn ++ pins, s.heap.get? p.1 = some p.2 ∧ H p.1 = none ∧ p.1 ≠ X.env.locals ∧ p.1 ∉ X.fs ∧ ∀ v, p.2.data ≠ .cell v
  hok : HOk X.prog X.w H s.heap
  len : σ.length = X.N.length

section
variable {X : Cx} {pins : List (Addr × Obj)} {σ : List (Option V)} {H H' : Hp} {s : Shared} {h' : Heap}

theorem Cx.Ok.nofr (ok : X.Ok) {b : Addr} {o : Obj} (e : X.base.get? b = some o) : b ∉ X.fs := fun hb => by
  have := (ok.funs.mem hb).1
  rw [e] at this; cases this
theorem Inv.bs (I : Inv X pins σ H s) : ∀ b o, X.base.get? b = some o → s.heap.get? b = some o ∧ H b = none := fun b o e =>
  ⟨I.base.keep b o (I.ok.bs b o e).1 (I.ok.bs b o e).2 (I.ok.nofr e) (I.ok.noex b o e), I.base.free b o (I.ok.bs b o e).1 (I.ok.bs b o e).2 (I.ok.noex b o e)⟩
theorem Inv.bk (I : Inv X pins σ H s) : ∀ b o, X.base.get? b = some o → s.heap.get? b = some o := fun b o e => (I.bs b o e).1
theorem Inv.mod (I : Inv X pins σ H s) : Mod X.K X.mg X.base := I.ok.mod
theorem Inv.kIn (I : Inv X pins σ H s) : X.K.In s.heap := I.ok.mod.kin.keeps I.bk
theorem Inv.lt (I : Inv X pins σ H s) : X.env.locals < s.heap.objs.size := let ⟨_, hn, _⟩ := I.loc; hn.lt
theorem Inv.sz (I : Inv X pins σ H s) : X.s₀.heap.objs.size ≤ s.heap.objs.size := Nat.le_trans I.ok.above (Nat.le_of_lt I.lt)
theorem Inv.nofs (I : Inv X pins σ H s) {a : Addr} (h : s.heap.objs.size ≤ a) : a ∉ X.fs := fun hb => by
  obtain ⟨_, o, ho, _⟩ := I.ok.funs.mem hb
  exact absurd (Nat.lt_of_lt_of_le (Heap.lt_size ho) (Nat.le_trans I.sz h)) (Nat.lt_irrefl _)
theorem Inv.cne (I : Inv X pins σ H s) : ∀ x c, X.env.cells.lookup x = some c → c ≠ X.env.locals := fun x c e z => by
  obtain ⟨v, o, ho, hd⟩ := I.cell x c e
  obtain ⟨m, ⟨o', es, ep, ho', hd', _⟩, _⟩ := I.loc
  rw [z, ho'] at ho; cases ho; rw [hd'] at hd; cases hd
theorem Inv.funs (I : Inv X pins σ H s) : s.heap.FunFrames X.base X.outer := by
  have all : ∀ (l : List Env), (∀ b ∈ frs l, b ∈ X.fs) → X.s₀.heap.FunFrames X.base l → s.heap.FunFrames X.base l := by
    intro l
    induction l with
    | nil => intro _ _; trivial
    | cons env r ih =>
      intro hs hl
      obtain ⟨hk, ⟨L, o, hf, hn, ho, hd⟩, hr⟩ := hl
      have hL : L ∈ X.fs := hs L (by unfold frs; rw [List.filterMap_cons, hf]; exact List.mem_cons_self)
      obtain ⟨sl, e⟩ := I.base.slot L o ho (I.ok.frf L hL) hL fun z => I.ok.exfs L z hL
      exact ⟨hk, ⟨L, _, hf, hn, e, hd⟩, ih (fun b hb => hs b (by unfold frs; rw [List.filterMap_cons, hf]; exact List.mem_cons_of_mem _ hb)) hr⟩
  exact all X.outer (fun _ hb => hb) I.ok.funs

/-- the frames that run, for a call -/
theorem Inv.stack (I : Inv X pins σ H s) : s.heap.FunFrames X.base X.stack := by
  rcases I.ok.stk with e | ⟨e, hf⟩
  · rw [e]; exact I.funs
  · rw [e]
    obtain ⟨m, hn, _⟩ := I.loc
    refine .cons (by rw [I.ok.kind]; decide) hf hn ?_ I.funs
    exact Heap.get?_none_of_le (Nat.le_trans I.ok.bsz I.ok.above)
theorem Inv.stkSub (I : Inv X pins σ H s) : ∀ b ∈ frs X.stack, b ∈ X.env.locals :: X.fs := fun b hb => by
  rcases I.ok.stk with e | ⟨e, hf⟩
  · rw [e] at hb; exact List.mem_cons_of_mem _ hb
  · rw [e] at hb
    unfold frs at hb
    rw [List.filterMap_cons, hf] at hb
    exact hb
theorem Inv.stkFree (I : Inv X pins σ H s) : ∀ b ∈ frs X.stack, H b = none := fun b hb => by
  rcases List.mem_cons.mp (I.stkSub b hb) with e | hb
  · rw [e]; exact I.free
  · obtain ⟨_, o, ho, _⟩ := I.ok.funs.mem hb
    exact I.base.free b o ho (I.ok.frf b hb) fun z => I.ok.exfs b z hb

/-- THE STEP: the untracked objects but the frame and the records at ch are kept (the callers' frames up to slots), the frame's map is kept, the new abstract heap is held -/
theorem Inv.step {g' : Array GenState} {t' : Nat} {d' : Drawn} {ch : List Addr} (I : Inv X pins σ H s)
    (hch : ∀ b ∈ ch, (b ∈ X.ex ∨ X.s₀.heap.objs.size ≤ b) ∧ b ≠ X.env.locals ∧ (∀ x c, X.env.cells.lookup x = some c → c ≠ b) ∧ ∀ p ∈ X.pn ++ pins, p.1 ≠ b)
    (keep : ∀ b o, b ≠ X.env.locals → b ∉ X.fs → b ∉ ch → s.heap.get? b = some o → H b = none → h'.get? b = some o)
    (slot : ∀ b o, b ≠ X.env.locals → b ∈ X.fs → b ∉ ch → s.heap.get? b = some o → H b = none → ∃ sl, h'.get? b = some { o with slots := sl }) (free : ∀ b o, b ∉ ch → s.heap.get? b = some o → H b = none → H' b = none)
    (there : ∀ b o, b ∉ ch → s.heap.get? b = some o → ∃ o', h'.get? b = some o')
    (tups : ∀ b xs, H b = some (.tup xs) → H' b = some (.tup xs)) (frzs : ∀ b o u, H b = some (.frz o u) → H' b = some (.frz o u)) (tbls : ∀ b ps, H b = some (.tbl ps) → ∃ more, H' b = some (.tbl (ps ++ more)))
    (ns : ∀ m, s.heap.Ns X.env.locals m → h'.Ns X.env.locals m) (hok : HOk X.prog X.w H' h') (hg : AllBare g') :
    Inv X pins σ H' { s with heap := h', gens := g', drawn := d', toks := t' } := by
  have neL : ∀ b o, X.s₀.heap.get? b = some o → b ≠ X.env.locals := fun b o e => Nat.ne_of_lt (Nat.lt_of_lt_of_le (Heap.lt_size e) I.ok.above)
  have neC : ∀ b o, X.s₀.heap.get? b = some o → b ∉ X.ex → b ∉ ch := fun b o e hx hb => by
    rcases (hch b hb).1 with z | z
    · exact hx z
    · exact absurd (Nat.lt_of_lt_of_le (Heap.lt_size e) z) (Nat.lt_irrefl _)
  have cellK : ∀ x c, X.env.cells.lookup x = some c → ∀ v, s.heap.IsCell c v → h'.IsCell c v := fun x c e v ⟨o, ho, hd⟩ => by
    have nch : c ∉ ch := fun z => (hch c z).2.2.1 x c e rfl
    by_cases hc : c ∈ X.fs
    · obtain ⟨sl, q⟩ := slot c o (I.cne x c e) hc nch ho (I.freeC x c e)
      exact ⟨_, q, hd⟩
    · exact ⟨o, keep c o (I.cne x c e) hc nch ho (I.freeC x c e), hd⟩
  refine ⟨I.ok, I.os, hg, ⟨fun b o e n hb hx => ?_, fun b o e n hb hx => ?_, fun b o e n hx => ?_, fun b o e hx => ?_, fun b xs e => tups b xs (I.base.tups b xs e), fun b o xs e => frzs b o xs (I.base.frzs b o xs e), fun b ps e => ?_⟩, ?_, fun x c e => ?_, ?_, fun x c e => ?_, fun p hp => ?_, hok, I.len⟩
  · exact keep b o (neL b o e) hb (neC b o e hx) (I.base.keep b o e n hb hx) (I.base.free b o e n hx)
  · obtain ⟨sl, e1⟩ := I.base.slot b o e n hb hx
    obtain ⟨sl', e2⟩ := slot b _ (neL b o e) hb (neC b o e hx) e1 (I.base.free b o e n hx)
    exact ⟨sl', e2⟩
  · obtain ⟨o', e1⟩ := I.base.there b o e hx
    exact free b o' (neC b o e hx) e1 (I.base.free b o e n hx)
  · obtain ⟨o', e1⟩ := I.base.there b o e hx
    exact there b o' (neC b o e hx) e1
  · obtain ⟨m1, e1⟩ := I.base.tbls b ps e
    obtain ⟨m2, e2⟩ := tbls b _ e1
    exact ⟨m1 ++ m2, by rw [e2, Array.append_assoc]⟩
  · obtain ⟨m, hn, hl⟩ := I.loc
    refine ⟨m, ns m hn, fun i x v e1 e2 e3 => ?_⟩
    obtain ⟨u, r, l⟩ := hl i x v e1 e2 e3
    refine ⟨u, r, ?_⟩
    rcases l with l | ⟨k, c, e, z⟩
    · exact .inl l
    · exact .inr ⟨k, c, e, cellK x c e _ z⟩
  · obtain ⟨v, z⟩ := I.cell x c e
    exact ⟨v, cellK x c e v z⟩
  · obtain ⟨m, ⟨o, _, _, ho, _⟩, _⟩ := I.loc
    exact free _ o (fun z => (hch _ z).2.1 rfl) ho I.free
  · obtain ⟨v, o, ho, hd⟩ := I.cell x c e
    exact free c o (fun z => (hch c z).2.2.1 x c e rfl) ho (I.freeC x c e)
  · obtain ⟨e, n, ne, nf, d⟩ := I.pin p hp
    have nch : p.1 ∉ ch := fun z => (hch p.1 z).2.2.2 p hp rfl
    exact ⟨keep p.1 p.2 ne nf nch e n, free p.1 p.2 nch e n, ne, nf, d⟩
/-- .. where the frame's own object is kept too -/
theorem Inv.un {t' : Nat} (I : Inv X pins σ H s) (u : Un X.fs [] H H' s.heap h') (hok : HOk X.prog X.w H' h') : Inv X pins σ H' { s with heap := h', toks := t' } := by
  obtain ⟨m, ⟨o, es, ep, ho, r⟩, _⟩ := id I.loc
  obtain ⟨sl, hL⟩ := u.any ho I.free (by simp)
  exact I.step (g' := s.gens) (d' := s.drawn) (ch := []) (fun _ z => nomatch z) (fun b o _ hb _ e n => u.keep b o e n hb (by simp)) (fun b o _ hb _ e n => u.slot b o e n hb (by simp)) (fun b o _ e n => u.free b o e n (by simp)) (fun b o _ e => u.there b o e (by simp)) u.tups u.frzs u.tbls (fun m' hm => by
    obtain ⟨o', es', ep', ho', r'⟩ := hm
    rw [ho] at ho'; cases ho'
    exact ⟨_, es', ep', hL, r'⟩) hok I.bare
/-- behind a call (or a comprehension's block): the slots of this frame may have changed too, the records at ch may have turned -/
theorem Inv.call {g' : Array GenState} {t' : Nat} {d' : Drawn} {ch : List Addr} (I : Inv X pins σ H s) (u : Un (frs X.stack) ch H H' s.heap h') (hok : HOk X.prog X.w H' h') (hg : AllBare g')
    (hch : ∀ b ∈ ch, (b ∈ X.ex ∨ X.s₀.heap.objs.size ≤ b) ∧ b ≠ X.env.locals ∧ (∀ x c, X.env.cells.lookup x = some c → c ≠ b) ∧ ∀ p ∈ X.pn ++ pins, p.1 ≠ b) :
    Inv X pins σ H' { s with heap := h', gens := g', drawn := d', toks := t' } := by
  obtain ⟨m, ⟨o, es, ep, ho, r⟩, _⟩ := id I.loc
  obtain ⟨sl, hL⟩ := u.any ho I.free fun z => (hch _ z).2.1 rfl
  exact I.step (ch := ch) hch (fun b o hL hb hc e n => u.keep b o e n (fun z => (List.mem_cons.mp (I.stkSub b z)).elim hL hb) hc) (fun b o _ _ hc e n => u.any e n hc) (fun b o hc e n => u.free b o e n hc) (fun b o hc e => u.there b o e hc) u.tups u.frzs u.tbls (fun m' hm => by
    obtain ⟨o', es', ep', ho', r'⟩ := hm
    rw [ho] at ho'; cases ho'
    exact ⟨_, es', ep', hL, r'⟩) hok hg
/-- an untracked record of ours (an iterator) has turned -/
theorem Inv.turned {t' : Nat} {it : Addr} (I : Inv X pins σ H s) (k : ∀ b o, b ≠ it → s.heap.get? b = some o → h'.get? b = some o) (hn : H it = none) (hL : it ≠ X.env.locals)
    (h1 : it ∈ X.ex ∨ X.s₀.heap.objs.size ≤ it) (h2 : ∀ x c, X.env.cells.lookup x = some c → c ≠ it) (h3 : ∀ p ∈ X.pn ++ pins, p.1 ≠ it) : Inv X pins σ H { s with heap := h', toks := t' } := by
  have nit : ∀ b u, H b = some u → b ≠ it := fun b u e z => by rw [z, hn] at e; cases e
  refine I.step (g' := s.gens) (d' := s.drawn) (ch := [it]) (fun b hb => ?_) (fun b o _ _ hc e _ => k b o (fun z => hc (by simp [z])) e) (fun b o _ _ hc e _ => ⟨o.slots, k b o (fun z => hc (by simp [z])) e⟩) (fun _ _ _ _ n => n)
    (fun b o hc e => ⟨o, k b o (fun z => hc (by simp [z])) e⟩) (fun _ _ e => e) (fun _ _ _ e => e) (fun b ps e => ⟨#[], by rw [e]; simp⟩) (fun m hm => ?_) (fun b u e => ?_) I.bare
  · have e : b = it := by simpa using hb
    subst e
    exact ⟨h1, hL, h2, h3⟩
  · obtain ⟨o, es, ep, ho, r⟩ := hm
    exact ⟨o, es, ep, k _ o (Ne.symm hL) ho, r⟩
  · refine (I.hok b u e).stay (fun c v hc q => k c v ?_ q) (fun _ q => q) fun _ _ q => q
    rcases hc with z | z
    · rw [z]; exact nit b u e
    · exact nit c _ z
theorem Inv.tok (I : Inv X pins σ H s) (t : Nat) : Inv X pins σ H { s with toks := t } := I.un (h' := s.heap) (t' := t) Un.refl I.hok
/-- all objects kept -/
theorem Inv.kept {t' : Nat} (I : Inv X pins σ H s) (k : ∀ b u, s.heap.get? b = some u → h'.get? b = some u) : Inv X pins σ H { s with heap := h', toks := t' } := I.un (Un.kept k) (I.hok.kept k)
/-- a new object laid and tracked -/
theorem Inv.laid {a : Addr} {o : HO} {t' : Nat} (I : Inv X pins σ H s) (k : ∀ b u, s.heap.get? b = some u → h'.get? b = some u) (hp : s.heap.objs.size ≤ a) (new : ObjOk X.prog X.w (upd H a o) h' a o) :
    Inv X pins σ (upd H a o) { s with heap := h', toks := t' } := I.un (Un.laid k hp (I.hok.fresh hp)) (I.hok.laid k hp new)
/-- an object written -/
theorem Inv.write {x e : Addr} {o : HO} {t' : Nat} (I : Inv X pins σ H s) (mu : Mut (H x)) (he : e = x ∨ H e = some (.own x)) (k : ∀ b u, b ≠ e → s.heap.get? b = some u → h'.get? b = some u) (heo : ∃ u, h'.get? e = some u)
    (new : ObjOk X.prog X.w (upd H x o) h' x o) : Inv X pins σ (upd H x o) { s with heap := h', toks := t' } := I.un (Un.write mu he k heo) (I.hok.write mu he k heo new)
theorem Inv.pins_of {pins' : List (Addr × Obj)} (I : Inv X pins σ H s) (h : ∀ p ∈ pins', s.heap.get? p.1 = some p.2 ∧ H p.1 = none ∧ p.1 ≠ X.env.locals ∧ p.1 ∉ X.fs ∧ ∀ v, p.2.data ≠ .cell v) : Inv X pins' σ H s :=
  ⟨I.ok, I.os, I.bare, I.base, I.loc, I.cell, I.free, I.freeC, fun p hp => (List.mem_append.mp hp).elim (fun z => I.pin p (List.mem_append_left _ z)) (h p), I.hok, I.len⟩

theorem nodup_ix {N : List Str} (hN : N.Nodup) {i j : Nat} {x : Str} (a : N[i]? = some x) (b : N[j]? = some x) : i = j := by
  obtain ⟨h1, e1⟩ := List.getElem?_eq_some_iff.mp a
  obtain ⟨h2, e2⟩ := List.getElem?_eq_some_iff.mp b
  exact (List.getElem_inj hN).mp (e1.trans e2.symm)

/-- a name is stored; what changed -/
theorem store_ok2 {M : Model} {A : Around} {E : Value → Shared → Prop} {i : Nat} {x : Str} {v : V} {u : Value} {Q : Unit → Shared → Prop} (I : Inv X pins σ H s) (hN : X.N.Nodup) (hi : X.N[i]? = some x) (hx : Loc X.env.scope x) (r : RelV v u)
    (h : ∀ s', Inv X pins (σ.set i (some v)) H s' → (∃ a, Heap.SameBut a s.heap s'.heap ∧ (a = X.env.locals ∨ X.env.cells.lookup x = some a)) → Q () s') (hf : X.fn x = true ∨ X.env.scope.names.lookup x = some .local := by first | exact .inl rfl | exact .inr rfl | assumption) : wpAny M A (storeName X.env x u) Q E s := by
  obtain ⟨m, hn, hl⟩ := id I.loc
  have hcls : (X.env.scope.kind == .class || (X.env.scope.kind == .module && X.env.locals != X.env.globals)) = false := by rw [I.ok.kind]; rfl
  have hiσ : i < σ.length := by rw [I.len]; exact (List.getElem?_eq_some_iff.mp hi).1
  have cne := I.cne
  have tracked : ∀ {a : Addr} {h' : Heap}, (∃ o, s.heap.get? a = some o ∧ H a = none) → Heap.SameBut a s.heap h' → HOk X.prog X.w H h' := fun {a h'} ha hs b ob e => by
    obtain ⟨_, _, hfree⟩ := ha
    refine (I.hok b ob e).stay (fun c w' hc q => (hs.2 c ?_).trans q) (fun _ q => q) fun _ _ q => q
    rintro rfl
    rcases hc with rfl | hc
    · rw [hfree] at e; cases e
    · rw [hfree] at hc; cases hc
  rcases hx with hk | hk
  · refine wpAny_storeName_local hk hn (fun h' hn' hs => ?_) hcls
    obtain ⟨oL, _, _, hoL, _⟩ := id hn
    refine h _ ⟨I.ok, I.os, I.bare, ⟨fun b o e n hb hx => ?_, fun b o e n hb hx => ?_, I.base.free, fun b o e hx => ?_, I.base.tups, I.base.frzs, I.base.tbls⟩, ⟨_, hn', fun j y v' e1 e2 e3 => ?_⟩, fun y c e => ?_, I.free, I.freeC, fun p hp => ?_, tracked ⟨oL, hoL, I.free⟩ hs, by simpa using I.len⟩ ⟨_, hs, .inl rfl⟩
    · exact (hs.2 b (Nat.ne_of_lt (Nat.lt_of_lt_of_le (Heap.lt_size e) I.ok.above))).trans (I.base.keep b o e n hb hx)
    · obtain ⟨sl, e1⟩ := I.base.slot b o e n hb hx
      exact ⟨sl, (hs.2 b (Nat.ne_of_lt (Nat.lt_of_lt_of_le (Heap.lt_size e) I.ok.above))).trans e1⟩
    · obtain ⟨o', e1⟩ := I.base.there b o e hx
      exact ⟨o', (hs.2 b (Nat.ne_of_lt (Nat.lt_of_lt_of_le (Heap.lt_size e) I.ok.above))).trans e1⟩
    · by_cases hj : j = i
      · subst hj
        rw [hi] at e1; cases e1
        rw [List.getElem?_set_self hiσ] at e2
        cases e2
        exact ⟨u, r, .inl ⟨hk, by simp⟩⟩
      · rw [List.getElem?_set_ne (Ne.symm hj)] at e2
        obtain ⟨u', r', q⟩ := hl j y v' e1 e2 e3
        refine ⟨u', r', ?_⟩
        rcases q with ⟨k, e⟩ | ⟨k, c, e, z⟩
        · refine .inl ⟨k, ?_⟩
          have : y ≠ x := fun e => hj (nodup_ix hN e1 (e ▸ hi))
          simp [this, e]
        · exact .inr ⟨k, c, e, z.sameBut hs (cne y c e)⟩
    · obtain ⟨w', z⟩ := I.cell y c e
      exact ⟨w', z.sameBut hs (cne y c e)⟩
    · obtain ⟨e, n, ne, nf, d⟩ := I.pin p hp
      exact ⟨(hs.2 p.1 ne).trans e, n, ne, nf, d⟩
  · have hfn : X.fn x = true := by
      rcases hf with z | z
      · exact z
      · rw [z] at hk; cases hk
    obtain ⟨c, hc⟩ := I.ok.has x (.inl hk)
    obtain ⟨w', z⟩ := I.cell x c hc
    refine wpAny_storeName_cell I.ok.kind hk hc z (fun h' hc' hs => ?_)
    obtain ⟨oc, hoc, hocd⟩ := id z
    refine h { s with heap := h' } ⟨I.ok, I.os, I.bare, ⟨fun b o e n hb hx => ?_, fun b o e n hb hx => ?_, I.base.free, fun b o e hx => ?_, I.base.tups, I.base.frzs, I.base.tbls⟩, ⟨m, hn.sameBut hs (Ne.symm (cne x c hc)), fun j y v' e1 e2 e3 => ?_⟩, fun y c' e => ?_, I.free, I.freeC, fun p hp => ?_, tracked ⟨oc, hoc, I.freeC x c hc⟩ hs, by simpa using I.len⟩ ⟨c, hs, .inr hc⟩
    · exact (hs.2 b (Nat.ne_of_lt (Nat.lt_of_lt_of_le (Heap.lt_size e) (I.ok.cab x c hfn hc)))).trans (I.base.keep b o e n hb hx)
    · obtain ⟨sl, e1⟩ := I.base.slot b o e n hb hx
      exact ⟨sl, (hs.2 b (Nat.ne_of_lt (Nat.lt_of_lt_of_le (Heap.lt_size e) (I.ok.cab x c hfn hc)))).trans e1⟩
    · obtain ⟨o', e1⟩ := I.base.there b o e hx
      exact ⟨o', (hs.2 b (Nat.ne_of_lt (Nat.lt_of_lt_of_le (Heap.lt_size e) (I.ok.cab x c hfn hc)))).trans e1⟩
    · by_cases hj : j = i
      · subst hj
        rw [hi] at e1; cases e1
        rw [List.getElem?_set_self hiσ] at e2
        cases e2
        exact ⟨u, r, .inr ⟨.inl hk, c, hc, hc'⟩⟩
      · rw [List.getElem?_set_ne (Ne.symm hj)] at e2
        obtain ⟨u', r', q⟩ := hl j y v' e1 e2 e3
        refine ⟨u', r', ?_⟩
        rcases q with q | ⟨k, c', e, z'⟩
        · exact .inl q
        · refine .inr ⟨k, c', e, z'.sameBut hs ?_⟩
          rintro rfl
          exact hj (nodup_ix hN e1 (I.ok.inj _ _ _ e hc ▸ hi))
    · by_cases hcc : c' = c
      · subst hcc; exact ⟨_, hc'⟩
      · obtain ⟨w2, z2⟩ := I.cell y c' e
        exact ⟨w2, z2.sameBut hs hcc⟩
    · obtain ⟨e, n, ne, nf, d⟩ := I.pin p hp
      refine ⟨(hs.2 p.1 ?_).trans e, n, ne, nf, d⟩
      intro q
      rw [q, hoc] at e
      have q' : oc = p.2 := Option.some.inj e
      exact d w' (by rw [← q']; exact hocd)
theorem store_ok {M : Model} {A : Around} {E : Value → Shared → Prop} {i : Nat} {x : Str} {v : V} {u : Value} {Q : Unit → Shared → Prop} (I : Inv X pins σ H s) (hN : X.N.Nodup) (hi : X.N[i]? = some x) (hx : Loc X.env.scope x) (r : RelV v u)
    (h : ∀ s', Inv X pins (σ.set i (some v)) H s' → Q () s') (hf : X.fn x = true ∨ X.env.scope.names.lookup x = some .local := by first | exact .inl rfl | exact .inr rfl | assumption) : wpAny M A (storeName X.env x u) Q E s :=
  store_ok2 I hN hi hx r (fun s' I' _ => h s' I') hf
/-- behind a call or a block, the state as it is -/
theorem Inv.call' {s' : Shared} {ch : List Addr} (I : Inv X pins σ H s) (ho : s'.os = s.os) (u : Un (frs X.stack) ch H H' s.heap s'.heap) (hok : HOk X.prog X.w H' s'.heap) (hg : AllBare s'.gens)
    (hch : ∀ b ∈ ch, (b ∈ X.ex ∨ X.s₀.heap.objs.size ≤ b) ∧ b ≠ X.env.locals ∧ (∀ x c, X.env.cells.lookup x = some c → c ≠ b) ∧ ∀ p ∈ X.pn ++ pins, p.1 ≠ b) : Inv X pins σ H' s' := by
  obtain ⟨h', g', d', t', o'⟩ := s'
  have e : o' = s.os := ho
  subst e
  exact I.call (g' := g') (t' := t') (d' := d') u hok hg hch
end

/-! ### the judgements -/
/-- an exception: its class, its own dict's address (where it has one), the abstract heap behind it -/
abbrev XK := Value → Option Addr → Hp → Prop
abbrev St := List (Option V)
abbrev VK := V → Hp → Prop
/-- an expression's reading; a test's; an argument list's -/
abbrev TE := St → Hp → VK → Prop
abbrev TT := St → Hp → (Bool → Hp → Prop) → Prop
abbrev TA := St → Hp → (List V → Hp → Prop) → Prop
/-- what is wanted behind a statement -/
structure Ends where
  nx : St → Hp → Prop
  rt : VK
  bk : St → Hp → Prop := fun _ _ => False
  ct : St → Hp → Prop := fun _ _ => False
abbrev TS := Ends → St → Hp → Prop

def EP (X : Cx) (pins : List (Addr × Obj)) (σ : St) (Q : VK) (u : Value) (s' : Shared) : Prop := ∃ v H', Inv X pins σ H' s' ∧ RelV v u ∧ Q v H'
def TP (X : Cx) (pins : List (Addr × Obj)) (σ : St) (Q : Bool → Hp → Prop) (b : Bool) (s' : Shared) : Prop := ∃ H', Inv X pins σ H' s' ∧ Q b H'
def AP (X : Cx) (pins : List (Addr × Obj)) (σ : St) (Q : List V → Hp → Prop) (us : List Value) (s' : Shared) : Prop := ∃ vs H', Inv X pins σ H' s' ∧ Vals vs us ∧ Q vs H'
def SP (X : Cx) (pins : List (Addr × Obj)) (D : Ends) (f : Flow) (s' : Shared) : Prop :=
  match f with
  | .next => ∃ σ' H', Inv X pins σ' H' s' ∧ D.nx σ' H'
  | .brk => ∃ σ' H', Inv X pins σ' H' s' ∧ D.bk σ' H'
  | .cont => ∃ σ' H', Inv X pins σ' H' s' ∧ D.ct σ' H'
  | .ret u => ∃ v σ' H', Inv X pins σ' H' s' ∧ RelV v u ∧ D.rt v H'

def PE (X : Cx) (e : Expr) (t : TE) : Prop :=
  ∀ (pins : List (Addr × Obj)) (s : Shared) (σ : St) (H : Hp) (Q : VK), Inv X pins σ H s → t σ H Q → wpAny (model X.prog X.w) X.A (eval e X.env) (EP X pins σ Q) X.xe s
def PT (X : Cx) (e : Expr) (t : TT) : Prop :=
  ∀ (pins : List (Addr × Obj)) (s : Shared) (σ : St) (H : Hp) (Q : Bool → Hp → Prop), Inv X pins σ H s → t σ H Q → wpAny (model X.prog X.w) X.A (isTrue e X.env (eval e X.env)) (TP X pins σ Q) X.xe s
/-- a test whatever its 'whole' is (and, or) -/
def PW (X : Cx) (e : Expr) (t : TT) : Prop :=
  ∀ (whole : Sem Value) (pins : List (Addr × Obj)) (s : Shared) (σ : St) (H : Hp) (Q : Bool → Hp → Prop), Inv X pins σ H s → t σ H Q → wpAny (model X.prog X.w) X.A (isTrue e X.env whole) (TP X pins σ Q) X.xe s
theorem PW.pt {X : Cx} {e : Expr} {t : TT} (h : PW X e t) : PT X e t := h _
/-- an argument list (no star), from the left -/
def PA (X : Cx) (es : List Expr) (t : TA) : Prop :=
  ∀ (pos : Pos) (pins : List (Addr × Obj)) (s : Shared) (σ : St) (H : Hp) (Q : List V → Hp → Prop), Inv X pins σ H s → t σ H Q → wpAny (model X.prog X.w) X.A (spliced (backTo pos (starEach es X.env))) (AP X pins σ Q) X.xe s
def PS (X : Cx) (st : Stmt) (t : TS) : Prop :=
  ∀ (pins : List (Addr × Obj)) (s : Shared) (σ : St) (H : Hp) (D : Ends), Inv X pins σ H s → t D σ H → wpAny (model X.prog X.w) X.A (exec st X.env) (SP X pins D) X.xe s
def PSs (X : Cx) (st : List Stmt) (t : TS) : Prop :=
  ∀ (pins : List (Addr × Obj)) (s : Shared) (σ : St) (H : Hp) (D : Ends), Inv X pins σ H s → t D σ H → wpAny (model X.prog X.w) X.A (execs st X.env) (SP X pins D) X.xe s
/-- weaken the end -/
theorem thn {α : Type} {t : Sem α} {Q Q' : α → Shared → Prop} {M : Model} {A : Around} {E : Value → Shared → Prop} {s : Shared} (h : wpAny M A t Q E s) (hQ : ∀ a s, Q a s → Q' a s) : wpAny M A t Q' E s := wpAny_mono h hQ fun _ _ x => x
end L2

namespace L2
open PySem PySem.Spec PyProof.Rows
section
variable {X : Cx}

/-! ### names and constants -/
def tVar (i : Nat) : TE := fun σ H Q => ∃ v, σ[i]? = some (some v) ∧ Q v H
def tC (v : V) : TE := fun _ H Q => Q v H
theorem pe_var {i : Nat} {x : Str} {pos : Pos} (hN : X.N[i]? = some x) (hv : Vis X.env.scope x) (hd : (x == ("__debug__" : Str)) = false := by decide) (hcd : (x == ("__classdict__" : Str)) = false := by decide) : PE X (.Name x pos) (tVar i) := by
  intro pins s σ H Q I h
  obtain ⟨v, e, h⟩ := h
  obtain ⟨m, hn, hl⟩ := I.loc
  obtain ⟨u, r, l⟩ := hl i x v hN e hv
  have fin : EP X pins σ Q u s := ⟨v, H, I, r, h⟩
  rcases l with ⟨hk, hm⟩ | ⟨hk, c, hc, hcell⟩
  · exact wpAny_Name (wpAny_loadName_local I.ok.kind hk hn hm fin) hd
  · rcases hk with hk | hk
    · exact wpAny_Name (wpAny_loadName_cell I.ok.kind hk hc hcell fin) hd
    · exact wpAny_Name (wpAny_loadName_free I.ok.kind hk hc hcell fin hcd) hd
theorem pe_int {i j pos} : PE X (.Constant (.int i) j pos) (tC (.int i)) := fun _ _ _ H _ I h => wpAny_Constant_int ⟨.int i, H, I.tok _, ⟨_, rfl⟩, h⟩
theorem pe_bl {b j pos} : PE X (.Constant (.bool b) j pos) (tC (.bl b)) := fun _ _ _ H _ I h => Constant_bool ⟨.bl b, H, I, rfl, h⟩
theorem pe_non {j pos} : PE X (.Constant .none j pos) (tC .non) := fun _ _ _ H _ I h => Constant_none ⟨.non, H, I, rfl, h⟩
theorem pe_str {x j pos} : PE X (.Constant (.str x) j pos) (tC (.str x)) := fun _ _ _ H _ I h => Calls.Constant_str ⟨.str x, H, I.tok _, ⟨_, rfl⟩, h⟩

/-- a global name of the def -/
def Gl (X : Cx) (x : Str) : Prop := X.env.kindOf x = some .globalImplicit
theorem ld_glob {E : Value → Shared → Prop} {pins : List (Addr × Obj)} {s : Shared} {σ : St} {H : Hp} {x : Str} {u : Value} {pos : Pos} {Q : Value → Shared → Prop} (I : Inv X pins σ H s) (hg : Gl X x) (hm : X.mg x = some u) (h : Q u s)
    (hd : (x == ("__debug__" : Str)) = false := by decide) : wpAny (model X.prog X.w) X.A (eval (.Name x pos) X.env) Q E s :=
  Calls.Name_function_global I.ok.kind hg (Calls.loadGlobal_global (by rw [I.ok.glob]; exact I.mod.glob.keeps I.bk) hm h) hd
theorem ld_blt {E : Value → Shared → Prop} {pins : List (Addr × Obj)} {s : Shared} {σ : St} {H : Hp} {x : Str} {u : Value} {pos : Pos} {Q : Value → Shared → Prop} (I : Inv X pins σ H s) (hg : Gl X x) (hm : X.mg x = none) (hv : bootBuiltins x = some u) (h : Q u s)
    (hn : x ≠ "__name__" := by decide) (hd : (x == ("__debug__" : Str)) = false := by decide) : wpAny (model X.prog X.w) X.A (eval (.Name x pos) X.env) Q E s := by
  obtain ⟨mb, h1, h2⟩ := I.mod.blt
  exact Calls.Name_function_global I.ok.kind hg (Calls.loadGlobal_builtin (by rw [I.ok.glob]; exact I.mod.glob.keeps I.bk) hm (by rw [I.ok.blt]; exact h1.keeps I.bk) ((h2 x hn).trans hv) h) hd
/-- a module's constant, a class, a function, as a value -/
theorem pe_glob {x : Str} {v : V} {u : Value} {pos : Pos} (hg : Gl X x) (hm : X.mg x = some u) (r : RelV v u) (hd : (x == ("__debug__" : Str)) = false := by decide) : PE X (.Name x pos) (tC v) :=
  fun _ _ _ H _ I h => ld_glob I hg hm ⟨v, H, I, r, h⟩ hd
theorem pe_bltn {x : Str} {v : V} {u : Value} {pos : Pos} (hg : Gl X x) (hm : X.mg x = none) (hv : bootBuiltins x = some u) (r : RelV v u) (hn : x ≠ "__name__" := by decide) (hd : (x == ("__debug__" : Str)) = false := by decide) : PE X (.Name x pos) (tC v) :=
  fun _ _ _ H _ I h => ld_blt I hg hm hv ⟨v, H, I, r, h⟩ hn hd

/-! ### arithmetic -/
variable {a b : Expr} {ta tb : TE} {pos : Pos}
/-! ### comparisons -/
/-- a comparison as a value, as a test -/
def tB (t : TE) : TT := fun σ H Q => t σ H fun x H1 => ∃ c, x = .bl c ∧ Q c H1
/-- an expression whose value is a bool, as a test -/
theorem pt_val {e : Expr} {t : TE} (h : PE X e t) (he : ∀ whole, isTrue e X.env whole = (do let v ← whole; standAt e.pos; holding [v] (truthy v)) := by intro _; rfl) : PT X e (tB t) := by
  intro pins s σ H Q I hw
  refine isTrue_plain (thn (h pins s σ H _ I hw) fun v s1 ⟨x, H1, I1, r1, q1⟩ => ?_) (he _)
  obtain ⟨d, rfl, q⟩ := q1
  cases r1
  exact wpAny_truthy_bool ⟨H1, I1, q⟩

/-! ### and, or, not -/
variable {tA tB' : TT} {rest : List Expr}
def tAnd (t u : TT) : TT := fun σ H Q => t σ H fun c H1 => if c = true then u σ H1 Q else Q false H1
def tOr (t u : TT) : TT := fun σ H Q => t σ H fun c H1 => if c = true then Q true H1 else u σ H1 Q
def tNot (t : TT) : TT := fun σ H Q => t σ H fun c H1 => Q (!c) H1
theorem pw_and1 (ha : PT X a tA) : PW X (.BoolOp .And [a] pos) tA := by
  intro wh pins s σ H Q I h
  refine isTrue_and (thn (ha pins s σ H Q I h) fun c s1 e => ?_)
  cases c with
  | true => exact isTrue_and_nil e
  | false => exact e
theorem pw_or1 (ha : PT X a tA) : PW X (.BoolOp .Or [a] pos) tA := by
  intro wh pins s σ H Q I h
  refine isTrue_or (thn (ha pins s σ H Q I h) fun c s1 e => ?_)
  cases c with
  | false => exact isTrue_or_nil e
  | true => exact e
theorem pw_and (ha : PT X a tA) (hb : PW X (.BoolOp .And (b :: rest) pos) tB') : PW X (.BoolOp .And (a :: b :: rest) pos) (tAnd tA tB') := by
  intro wh pins s σ H Q I h
  refine isTrue_and (thn (ha pins s σ H _ I h) fun c s1 ⟨H1, I1, q1⟩ => ?_)
  cases c with
  | true => exact hb wh pins s1 σ H1 Q I1 q1
  | false => exact ⟨H1, I1, q1⟩
theorem pw_or (ha : PT X a tA) (hb : PW X (.BoolOp .Or (b :: rest) pos) tB') : PW X (.BoolOp .Or (a :: b :: rest) pos) (tOr tA tB') := by
  intro wh pins s σ H Q I h
  refine isTrue_or (thn (ha pins s σ H _ I h) fun c s1 ⟨H1, I1, q1⟩ => ?_)
  cases c with
  | true => exact ⟨H1, I1, q1⟩
  | false => exact hb wh pins s1 σ H1 Q I1 q1
theorem pt_not (ha : PT X a tA) : PT X (.UnaryOp .Not a pos) (tNot tA) := by
  intro pins s σ H Q I h
  exact isTrue_not (ha pins s σ H (fun c H1 => Q (!c) H1) I h)
/-- .. as values (bools) -/
def tAndV (ta tb : TE) : TE := fun σ H Q => ta σ H fun x H1 => ∃ c, x = .bl c ∧ if c = true then tb σ H1 Q else Q (.bl false) H1
def tOrV (ta tb : TE) : TE := fun σ H Q => ta σ H fun x H1 => ∃ c, x = .bl c ∧ if c = true then Q (.bl true) H1 else tb σ H1 Q
def tNotV (ta : TE) : TE := fun σ H Q => ta σ H fun x H1 => ∃ c, x = .bl c ∧ Q (.bl (!c)) H1
theorem pe_one {op} {t : TE} (h : PE X a t) : PE X (.BoolOp op [a] pos) t := fun pins s σ H Q I hw => BoolOp_one (h pins s σ H Q I hw)
theorem pe_and (ha : PE X a ta) (hb : PE X (.BoolOp .And (b :: rest) pos) tb) : PE X (.BoolOp .And (a :: b :: rest) pos) (tAndV ta tb) := by
  intro pins s σ H Q I h
  refine BoolOp_and (thn (ha pins s σ H _ I h) fun v s1 ⟨x, H1, I1, r1, q1⟩ => ?_)
  obtain ⟨c, rfl, q1⟩ := q1
  cases r1
  refine wpAny_truthy_bool ?_
  cases c with
  | true => exact hb pins s1 σ H1 Q I1 q1
  | false => exact ⟨.bl false, H1, I1, rfl, q1⟩
theorem pe_or (ha : PE X a ta) (hb : PE X (.BoolOp .Or (b :: rest) pos) tb) : PE X (.BoolOp .Or (a :: b :: rest) pos) (tOrV ta tb) := by
  intro pins s σ H Q I h
  refine BoolOp_or (thn (ha pins s σ H _ I h) fun v s1 ⟨x, H1, I1, r1, q1⟩ => ?_)
  obtain ⟨c, rfl, q1⟩ := q1
  cases r1
  refine wpAny_truthy_bool ?_
  cases c with
  | false => exact hb pins s1 σ H1 Q I1 q1
  | true => exact ⟨.bl true, H1, I1, rfl, q1⟩
theorem pe_not (ha : PE X a ta) : PE X (.UnaryOp .Not a pos) (tNotV ta) := by
  intro pins s σ H Q I h
  refine UnaryOp_ (thn (ha pins s σ H _ I h) fun v s1 ⟨x, H1, I1, r1, q1⟩ => ?_)
  obtain ⟨c, rfl, q1⟩ := q1
  cases r1
  exact not_of (wpAny_truthy_bool ⟨.bl (!c), H1, I1, rfl, q1⟩)
end
end L2

namespace L2
open PySem PySem.Spec PyProof.Rows

/-! ### a list, a tuple that is read: tracked, frozen, or an object of the module -/
def SqL (K : PySem.W.Frag) (H : Hp) (a : Addr) (xs : List V) : Prop :=
  Rd H a (.lst xs) ∨
    ∃ (o : Obj) (its : Array Value) (n : Nat), K.lookup a = some o ∧ o.cls = .type "list" ∧ o.dict = none ∧ o.data = .seq its n ∧ its.size ≤ sizeLine ∧ Vals xs its.toList
def SqT (K : PySem.W.Frag) (H : Hp) (a : Addr) (xs : List V) : Prop :=
  Rd H a (.tup xs) ∨
    ∃ (o : Obj) (its : Array Value) (n : Nat), K.lookup a = some o ∧ o.cls = .type "tuple" ∧ o.data = .seq its n ∧ its.size ≤ sizeLine ∧ Vals xs its.toList
def absV : Value → Option V
  | .none => some .non
  | .bool b => some (.bl b)
  | .int i _ => some (.int i)
  | .str x _ => some (.str x)
  | .bytes b _ => some (.byt b)
  | .float b _ => some (.flt b)
  | .ref a => some (.ref a)
  | .type n => some (.ty n)
  | _ => none
theorem RelV.abs {x : V} {u : Value} (r : RelV x u) : absV u = some x := by
  cases x with
  | non => cases r; rfl
  | bl _ => cases r; rfl
  | int _ => obtain ⟨t, rfl⟩ := r; rfl
  | str _ => obtain ⟨t, rfl⟩ := r; rfl
  | byt _ => obtain ⟨t, rfl⟩ := r; rfl
  | flt _ => obtain ⟨t, rfl⟩ := r; rfl
  | ref _ => cases r; rfl
  | ty _ => cases r; rfl
theorem RelV.inj {x y : V} {u : Value} (r : RelV x u) (q : RelV y u) : x = y := Option.some.inj (r.abs.symm.trans q.abs)
theorem Vals.inj : ∀ {xs ys : List V} {us : List Value}, Vals xs us → Vals ys us → xs = ys
  | _, _, _, .nil, .nil => rfl
  | _, _, _, .cons r t, .cons r' t' => by rw [r.inj r', Vals.inj t t']
section
variable {X : Cx} {pins : List (Addr × Obj)} {σ : St} {H : Hp} {s : Shared} {a : Addr} {xs ys : List V}
theorem SqL.of {K : PySem.W.Frag} (h : H a = some (.lst xs)) : SqL K H a xs := .inl (.inl h)
theorem Inv.list (I : Inv X pins σ H s) (h : SqL X.K H a xs) : ∃ its : List Value, Vals xs its ∧ PlainL s.heap a its.toArray ∧ xs.length ≤ sizeLine := by
  rcases h with h | ⟨o, its, n, hk, hc, hd, hs, hz, r⟩
  · obtain ⟨z, its, n, r, e⟩ := h.ok I.hok
    exact ⟨its, r, ⟨_, n, e, rfl, rfl, rfl⟩, z⟩
  · refine ⟨its.toList, r, ⟨o, n, I.kIn a o hk, hc, hd, by simpa using hs⟩, ?_⟩
    have e := r.length
    simp only [Array.length_toList] at e
    omega
theorem Inv.tuple (I : Inv X pins σ H s) (h : SqT X.K H a xs) : ∃ its : List Value, Vals xs its ∧ IsTup s.heap a its.toArray ∧ xs.length ≤ sizeLine := by
  rcases h with h | ⟨o, its, n, hk, hc, hs, hz, r⟩
  · obtain ⟨z, its, r, p⟩ := h.ok I.hok
    exact ⟨its, r, p, z⟩
  · refine ⟨its.toList, r, ⟨o, I.kIn a o hk, hc, n, by simpa using hs⟩, ?_⟩
    have e := r.length
    simp only [Array.length_toList] at e
    omega
theorem Inv.list_inj (I : Inv X pins σ H s) (h : SqL X.K H a xs) (h' : SqL X.K H a ys) : xs = ys := by
  obtain ⟨its, r, ⟨o, n, e, _, _, d⟩, _⟩ := I.list h
  obtain ⟨its', r', ⟨o', n', e', _, _, d'⟩, _⟩ := I.list h'
  rw [e] at e'; cases e'
  rw [d] at d'
  injection d' with d1 _
  have : its = its' := by simpa using congrArg Array.toList d1
  subst this
  exact r.inj r'
theorem Inv.tuple_inj (I : Inv X pins σ H s) (h : SqT X.K H a xs) (h' : SqT X.K H a ys) : xs = ys := by
  obtain ⟨its, r, ⟨o, e, _, n, d⟩, _⟩ := I.tuple h
  obtain ⟨its', r', ⟨o', e', _, n', d'⟩, _⟩ := I.tuple h'
  rw [e] at e'; cases e'
  rw [d] at d'
  injection d' with d1 _
  have : its = its' := by simpa using congrArg Array.toList d1
  subst this
  exact r.inj r'
end

/-! ### another wish about exceptions -/
abbrev Cx.wish (X : Cx) (E : Value → Shared → Prop) : Cx := { X with xe := E }
/-- no exception leaves -/
abbrev Cx.nox (X : Cx) : Cx := X.wish fun _ _ => False
theorem Cx.Ok.wish {X : Cx} (ok : X.Ok) (E : Value → Shared → Prop) : (X.wish E).Ok :=
  ⟨ok.mod, ok.kind, ok.glob, ok.blt, ok.above, ok.inj, ok.has, ok.cab, ok.hd, ok.frames, ok.stk, ok.exf, ok.bs, ok.bsz, ok.noex, ok.exfs, ok.funs, ok.frf⟩
theorem Cx.Ok.unwish {X : Cx} {E : Value → Shared → Prop} (ok : (X.wish E).Ok) : X.Ok :=
  ⟨ok.mod, ok.kind, ok.glob, ok.blt, ok.above, ok.inj, ok.has, ok.cab, ok.hd, ok.frames, ok.stk, ok.exf, ok.bs, ok.bsz, ok.noex, ok.exfs, ok.funs, ok.frf⟩
section
variable {X : Cx} {pins : List (Addr × Obj)} {σ : St} {H : Hp} {s : Shared} {E : Value → Shared → Prop}
theorem Inv.wish (I : Inv X pins σ H s) (E : Value → Shared → Prop) : Inv (X.wish E) pins σ H s := ⟨I.ok.wish E, I.os, I.bare, I.base, I.loc, I.cell, I.free, I.freeC, I.pin, I.hok, I.len⟩
theorem Inv.unwish (I : Inv (X.wish E) pins σ H s) : Inv X pins σ H s := ⟨I.ok.unwish, I.os, I.bare, I.base, I.loc, I.cell, I.free, I.freeC, I.pin, I.hok, I.len⟩
theorem SP.unwish {D : Ends} {f : Flow} {s' : Shared} (h : SP (X.wish E) pins D f s') : SP X pins D f s' := by
  cases f with
  | next => obtain ⟨σ', H', I, q⟩ := h; exact ⟨σ', H', I.unwish, q⟩
  | brk => obtain ⟨σ', H', I, q⟩ := h; exact ⟨σ', H', I.unwish, q⟩
  | cont => obtain ⟨σ', H', I, q⟩ := h; exact ⟨σ', H', I.unwish, q⟩
  | ret u => obtain ⟨v, σ', H', I, r, q⟩ := h; exact ⟨v, σ', H', I.unwish, r, q⟩
theorem PSs.nox {st : List Stmt} {t : TS} (h : PSs X.nox st t) : PSs X st t := fun pins s σ H D I hw =>
  wpAny_mono (h pins s σ H D (I.wish _) hw) (fun _ _ q => q.unwish) fun _ _ z => False.elim z
end

/-! ### blocks and small statements -/
section
variable {X : Cx} {st : Stmt} {rest : List Stmt} {t u : TS} {e : Expr} {te : TE} {pos : Pos}
def tNext : TS := fun D σ H => D.nx σ H
def tSeq (t u : TS) : TS := fun D σ H => t { D with nx := u D } σ H
theorem pss_nil : PSs X [] tNext := fun _ _ σ H _ I h => wpAny_execs_nil ⟨σ, H, I, h⟩
theorem pss_cons (h1 : PS X st t) (h2 : PSs X rest u) : PSs X (st :: rest) (tSeq t u) := by
  intro pins s σ H D I h
  refine wpAny_execs_cons (thn (h1 pins s σ H { D with nx := u D } I h) fun f s1 q => ?_)
  cases f with
  | next =>
    obtain ⟨σ', H', I', q⟩ := q
    exact h2 pins s1 σ' H' D I' q
  | ret v => exact q
  | brk => exact q
  | cont => exact q
theorem pss_one (h1 : PS X st t) : PSs X [st] t := by
  intro pins s σ H D I h
  refine wpAny_execs_cons (thn (h1 pins s σ H D I h) fun f s1 q => ?_)
  cases f with
  | next => exact wpAny_execs_nil q
  | ret v => exact q
  | brk => exact q
  | cont => exact q
/-- in a def's body nothing is shown -/
theorem Inv.quiet {pins : List (Addr × Obj)} {σ : St} {H : Hp} {s : Shared} (I : Inv X pins σ H s) : interactive X.env = false := by simp [interactive, I.ok.kind]
/-- an expression whose value is dropped -/
def tDrop (te : TE) : TS := fun D σ H => te σ H fun _ H1 => D.nx σ H1
theorem ps_expr (he : PE X e te) (hs : swapsWith e none pos.line X.env = pure false := by rfl) : PS X (.Expr e pos) (tDrop te) := by
  intro pins s σ H D I h
  exact wpAny_Expr_any (thn (he pins s σ H _ I h) fun v s1 ⟨x, H1, I1, r1, q1⟩ => ⟨σ, H1, I1, q1⟩) I.quiet hs
def tRet (te : TE) : TS := fun D σ H => te σ H D.rt
theorem ps_ret (he : PE X e te) : PS X (.Return (some e) pos) (tRet te) := by
  intro pins s σ H D I h
  exact wpAny_Return_some (thn (he pins s σ H _ I h) fun v s1 ⟨x, H1, I1, r1, q1⟩ => ⟨x, σ, H1, I1, r1, q1⟩)
def tIfS (c : TT) (t u : TS) : TS := fun D σ H => c σ H fun b H1 => if b = true then t D σ H1 else u D σ H1
theorem ps_if {c : Expr} {a b : List Stmt} {tc : TT} (hc : PT X c tc) (ha : PSs X a t) (hb : PSs X b u) : PS X (.If c a b pos) (tIfS tc t u) := by
  intro pins s σ H D I h
  refine wpAny_If (thn (hc pins s σ H _ I h) fun d s1 ⟨H1, I1, q1⟩ => ?_)
  cases d with
  | true => exact ha pins s1 σ H1 D I1 q1
  | false => exact hb pins s1 σ H1 D I1 q1
/-- code that the proof never comes to -/
def tNever : TS := fun _ _ _ => False
theorem ps_never : PS X st tNever := fun _ _ _ _ _ _ h => h.elim
end

/-! ### targets -/
abbrev TG := V → St → Hp → (St → Hp → Prop) → Prop
abbrev TGs := List V → St → Hp → (St → Hp → Prop) → Prop
def PG (X : Cx) (target : Expr) (t : TG) : Prop :=
  ∀ (pins : List (Addr × Obj)) (s : Shared) (σ : St) (H : Hp) (v : V) (u : Value) (Q : St → Hp → Prop), Inv X pins σ H s → RelV v u → t v σ H Q →
    wpAny (model X.prog X.w) X.A (assign target X.env u) (fun _ s' => ∃ σ' H', Inv X pins σ' H' s' ∧ Q σ' H') X.xe s
/-- several targets, one after another -/
def PGs (X : Cx) (ts : List Expr) (t : TGs) : Prop :=
  ∀ (pins : List (Addr × Obj)) (s : Shared) (σ : St) (H : Hp) (vs : List V) (us : List Value) (Q : St → Hp → Prop), Inv X pins σ H s → Vals vs us → t vs σ H Q →
    wpAny (model X.prog X.w) X.A (assignInOrder ((assignEach ts X.env).map (·.2)) us) (fun _ s' => ∃ σ' H', Inv X pins σ' H' s' ∧ Q σ' H') X.xe s
/-- o[i] = v, by values -/
abbrev TSet := V → V → V → Hp → (Hp → Prop) → Prop
def PSet (X : Cx) (t : TSet) : Prop :=
  ∀ (pins : List (Addr × Obj)) (s : Shared) (σ : St) (H : Hp) (o i v : V) (ov iv u : Value) (Q : Hp → Prop), Inv X pins σ H s → RelV o ov → RelV i iv → RelV v u → t o i v H Q →
    wpAny (model X.prog X.w) X.A (setItem ov iv u) (fun _ s' => ∃ H', Inv X pins σ H' s' ∧ Q H') X.xe s
section
variable {X : Cx} {pos : Pos}
def gName (i : Nat) : TG := fun v σ H Q => Q (σ.set i (some v)) H
theorem pg_name {i : Nat} {x : Str} (hN : X.N.Nodup) (hi : X.N[i]? = some x) (hx : Loc X.env.scope x) (hf : X.fn x = true ∨ X.env.scope.names.lookup x = some .local := by first | exact .inl rfl | exact .inr rfl | assumption) : PG X (.Name x pos) (gName i) := by
  intro pins s σ H v u Q I r h
  exact wpAny_assign_Name (store_ok I hN hi hx r (fun s' I' => ⟨_, H, I', h⟩) hf)
def gNil : TGs := fun vs σ H Q => vs = [] ∧ Q σ H
def gCons (t : TG) (u : TGs) : TGs := fun vs σ H Q => ∃ v r, vs = v :: r ∧ t v σ H fun σ' H' => u r σ' H' Q
theorem pgs_nil : PGs X [] gNil := by
  intro pins s σ H vs us Q I r h
  obtain ⟨e, h⟩ := h
  subst e
  cases r
  exact assignInOrder_nil ⟨σ, H, I, h⟩
theorem pgs_cons {e : Expr} {es : List Expr} {t : TG} {u : TGs} (h1 : PG X e t) (h2 : PGs X es u)
    (hs : (assignEach (e :: es) X.env).map (·.2) = assign e X.env :: (assignEach es X.env).map (·.2) := by rfl) : PGs X (e :: es) (gCons t u) := by
  intro pins s σ H vs us Q I r h
  obtain ⟨v, vr, e1, h⟩ := h
  subst e1
  cases r with
  | cons r rr =>
    rw [hs]
    refine assignInOrder_cons (thn (h1 pins s σ H _ _ _ I r h) fun _ s1 ⟨σ1, H1, I1, q1⟩ => ?_)
    exact h2 pins s1 σ1 H1 _ _ Q I1 rr q1
/-- (a, b, ..) = a tuple of that length -/
def gTup (K : PySem.W.Frag) (n : Nat) (t : TGs) : TG := fun v σ H Q => ∃ a xs, v = .ref a ∧ SqT K H a xs ∧ xs.length = n ∧ t xs σ H Q
theorem pg_tup {es : List Expr} {k : Nat} {t : TGs} {n : Nat} (hc : X.calm = true) (h : PGs X es t)
    (hn : (assignEach es X.env).length = n := by rfl) (hst : (assignEach es X.env).findIdx? (·.1) = none := by rfl) : PG X (.Tuple es k pos) (gTup X.K n t) := by
  intro pins s σ H v u Q I r hw
  obtain ⟨a, xs, e1, hq, hl, hw⟩ := hw
  subst e1
  cases r
  obtain ⟨its, rv, ht, hz⟩ := I.tuple hq
  refine assign_Tuple_tuple (I.ok.hd hc) ht (by simp [hn, ← hl, rv.length]) hst fun h' hx => ?_
  have I1 : Inv X pins σ H { s with heap := h' } := I.kept (t' := s.toks) fun b o e => hx b o (Nat.ne_of_lt (Heap.lt_size e)) e
  exact h pins _ σ H xs _ Q I1 (by simpa using rv) hw
/-- o[i] = .. -/
def gSub (to ti : TE) (t : TSet) : TG := fun v σ H Q => to σ H fun o H1 => ti σ H1 fun i H2 => t o i v H2 fun H3 => Q σ H3
theorem pg_sub {o i : Expr} {to ti : TE} {t : TSet} (ho : PE X o to) (hi : PE X i ti) (hs : PSet X t)
    (ha : ∀ v, assign (.Subscript o i pos) X.env v = (do
      let ov ← holding [v] (eval o X.env)
      let iv ← holding [v, ov] (eval i X.env)
      standAt pos
      holding [v, ov, iv] (setItem ov iv v)
      release [v, ov, iv] []) := by intro _; rfl) : PG X (.Subscript o i pos) (gSub to ti t) := by
  intro pins s σ H v u Q I r h
  rw [ha]
  refine wpAny_bind (wpAny_holding (thn (ho pins s σ H _ I h) fun ov s1 ⟨x, H1, I1, r1, q1⟩ => ?_))
  refine wpAny_bind (wpAny_holding (thn (hi pins s1 σ H1 _ I1 q1) fun iv s2 ⟨y, H2, I2, r2, q2⟩ => ?_))
  refine wpAny_bind (wpAny_standAt (wpAny_bind (wpAny_holding (thn (hs pins s2 σ H2 x y v ov iv u _ I2 r1 r2 r q2) fun _ s3 ⟨H3, I3, q3⟩ => ?_))))
  exact wpAny_release ⟨σ, H3, I3, q3⟩
/-- target = value -/
def tAsg (te : TE) (g : TG) : TS := fun D σ H => te σ H fun x H1 => g x σ H1 D.nx
theorem ps_asg {tg e : Expr} {te : TE} {g : TG} (he : PE X e te) (hg : PG X tg g) (hs : swapsWithSole [tg] e pos.line X.env = pure false := by rfl) (hw : swappedStores [tg] e X.env = pure none := by rfl)
    (h1 : (assignEach [tg] X.env).map (·.2) = [assign tg X.env] := by rfl) : PS X (.Assign [tg] e pos) (tAsg te g) := by
  intro pins s σ H D I h
  refine wpAny_Assign_stores (thn (he pins s σ H _ I h) fun v s1 ⟨x, H1, I1, r1, q1⟩ => ?_) hs hw
  rw [h1]
  exact thn (hg pins s1 σ H1 x v _ I1 r1 q1) fun _ s2 q => q
/-- name = value -/
theorem ps_set {i : Nat} {x : Str} {e : Expr} {te : TE} {pos' : Pos} (hN : X.N.Nodup) (hi : X.N[i]? = some x) (hx : Loc X.env.scope x) (he : PE X e te) (hs : swapsWith e (some (.Name x pos')) pos.line X.env = pure false := by rfl) (hf : X.fn x = true ∨ X.env.scope.names.lookup x = some .local := by first | exact .inl rfl | exact .inr rfl | assumption) :
    PS X (.Assign [.Name x pos'] e pos) (tAsg te (gName i)) := by
  intro pins s σ H D I h
  refine wpAny_Assign_Name (thn (he pins s σ H _ I h) fun v s1 ⟨y, H1, I1, r1, q1⟩ => ?_) hs
  exact store_ok I1 hN hi hx r1 (fun s2 I2 => ⟨_, H1, I2, q1⟩) hf
end

/-! ### while -/
section
variable {X : Cx} {pos : Pos}
end

/-! ### what a loop or a comprehension walks -/
/-- at turn i: it yields x (the heap may grow), or it stops -/
structure It where
  go : Nat → Hp → Prop
  yld : Nat → Hp → V → Hp → Prop
  stop : Nat → Hp → Prop
/-- the iterator's own objects may turn: they are not the frame's, not pinned, younger than the entry (or a comprehension's own) -/
def FpOk (X : Cx) (pins : List (Addr × Obj)) (H : Hp) (b : Addr) : Prop :=
  H b = none ∧ b ≠ X.env.locals ∧ b ∉ X.fs ∧ (b ∈ X.ex ∨ X.s₀.heap.objs.size ≤ b) ∧ (∀ x c, X.env.cells.lookup x = some c → c ≠ b) ∧ ∀ p ∈ X.pn ++ pins, p.1 ≠ b
theorem Inv.fpOk {X : Cx} {pins : List (Addr × Obj)} {σ : St} {H H' : Hp} {s : Shared} {b : Addr} (I : Inv X pins σ H s) (hb : s.heap.objs.size ≤ b) (hn : H' b = none) : FpOk X pins H' b := by
  refine ⟨hn, Nat.ne_of_gt (Nat.lt_of_lt_of_le I.lt hb), I.nofs hb, .inr (Nat.le_trans I.sz hb), fun x c e z => ?_, fun p hp z => ?_⟩
  · obtain ⟨v, q⟩ := I.cell x c e
    exact absurd (Nat.lt_of_lt_of_le q.lt (by rw [z]; exact hb)) (Nat.lt_irrefl _)
  · exact absurd (Nat.lt_of_lt_of_le (Heap.lt_size (I.pin p hp).1) (by rw [z]; exact hb)) (Nat.lt_irrefl _)
structure Turn (P : Program) (w : World) (K : PySem.W.Frag) (tg : Expr) (J : It) (fp : List Addr) (it : Addr) (tn : Nat → Heap → Prop) : Prop where
  mem : it ∈ fp
  obj : ∀ i h, tn i h → ∀ b ∈ fp, ∃ o, h.get? b = some o ∧ ∀ v, o.data ≠ .cell v
  keep : ∀ i h h', tn i h → (∀ b ∈ fp, ∀ o, h.get? b = some o → h'.get? b = some o) → tn i h'
  item : ∀ (X : Cx), X.prog = P → X.w = w → X.K = K → X.calm = true → ∀ (i : Nat) (pins : List (Addr × Obj)) (s : Shared) (σ : St) (H : Hp) (E : Value → Shared → Prop), Inv X pins σ H s → (∀ b ∈ fp, FpOk X pins H b) → tn i s.heap → J.go i H →
    wpAny (model P w) X.A (pyNext (.ref it)) (fun r s1 => ∃ u, r = some u ∧
      wpAny (model P w) X.A (letOwnedTupleGo tg (.ref it) u) (fun _ s2 => ∃ x H', Inv X pins σ H' s2 ∧ RelV x u ∧ J.yld i H x H' ∧ tn (i + 1) s2.heap ∧ ∀ b ∈ fp, H' b = none) E s1) E s
  done : ∀ (X : Cx), X.prog = P → X.w = w → X.K = K → X.calm = true → ∀ (i : Nat) (pins : List (Addr × Obj)) (s : Shared) (σ : St) (H : Hp) (E : Value → Shared → Prop), Inv X pins σ H s → (∀ b ∈ fp, FpOk X pins H b) → tn i s.heap → J.stop i H →
    wpAny (model P w) X.A (pyNext (.ref it)) (fun r s1 => r = none ∧ Inv X pins σ H s1) E s
  self : ∀ (A : Around) (i : Nat) (s : Shared) (Q : Value → Shared → Prop) (E : Value → Shared → Prop), tn i s.heap → Q (.ref it) s → wpAny (model P w) A (pyIter (.ref it)) Q E s
abbrev TI := St → Hp → (It → Hp → Prop) → Prop
/-- an iterator has come -/
def PIE (X : Cx) (pins : List (Addr × Obj)) (σ : St) (tg : Expr) (R : It → Hp → Prop) (itv : Value) (s2 : Shared) : Prop :=
  ∃ (it : Addr) (fp : List Addr) (tn : Nat → Heap → Prop) (J : It) (H' : Hp), itv = .ref it ∧ Inv X pins σ H' s2 ∧ Turn X.prog X.w X.K tg J fp it tn ∧ tn 0 s2.heap ∧ (∀ b ∈ fp, FpOk X pins H' b) ∧ R J H'
def PI (X : Cx) (tg iter : Expr) (wi : TI) : Prop :=
  ∀ (pins : List (Addr × Obj)) (s : Shared) (σ : St) (H : Hp) (R : It → Hp → Prop), Inv X pins σ H s → wi σ H R →
    wpAny (model X.prog X.w) X.A (eval iter X.env) (fun v s1 => wpAny (model X.prog X.w) X.A (pyIter v) (PIE X pins σ tg R) X.xe s1) X.xe s

/-- the step ahead of the store is nothing for an iterator that keeps no tuple -/
theorem go_of {M : Model} {A : Around} {E : Value → Shared → Prop} {s : Shared} {tg : Expr} {it : Addr} {u : Value} {o : Obj} {n : String} {vs : Array Value} {Q : Unit → Shared → Prop} (ho : s.heap.get? it = some o) (hc : o.cls = .type n) (hd : o.data = .fields vs)
    (hn : ["enumerate", "zip", "dict_itemiterator", "dict_reverseitemiterator", "odict_iterator", "itertools.zip_longest", "itertools.pairwise"].contains n = false) (hQ : Q () s) : wpAny M A (letOwnedTupleGo tg (.ref it) u) Q E s := by
  unfold letOwnedTupleGo
  cases tg <;> first
    | exact wpAny_pure hQ
    | (cases u <;> first
        | exact wpAny_pure hQ
        | (refine wpAny_bind (wpAny_load ho ?_)
           rw [hc, hd]
           show wpAny M A (if (["enumerate", "zip", "dict_itemiterator", "dict_reverseitemiterator", "odict_iterator", "itertools.zip_longest", "itertools.pairwise"].contains n && vs[0]? == some (rawInt _)) = true then _ else _) Q E s
           rw [if_neg (by intro h; rw [hn, Bool.false_and] at h; cases h)]
           exact wpAny_pure hQ))

/-- the list at a, as it stands at each turn (a loop may append to it) -/
def Itl (K : PySem.W.Frag) (a : Addr) : It :=
  ⟨fun i H => ∃ xs x, SqL K H a xs ∧ xs[i]? = some x, fun i H x H' => H' = H ∧ ∀ xs, SqL K H a xs → xs[i]? = some x, fun i H => ∃ xs, SqL K H a xs ∧ xs.length ≤ i⟩
def Itt (K : PySem.W.Frag) (a : Addr) : It :=
  ⟨fun i H => ∃ xs x, SqT K H a xs ∧ xs[i]? = some x, fun i H x H' => H' = H ∧ ∀ xs, SqT K H a xs → xs[i]? = some x, fun i H => ∃ xs, SqT K H a xs ∧ xs.length ≤ i⟩
/-- lo, lo + 1, .. (n of them) -/
def Itr (lo : Int) (n : Nat) : It := ⟨fun i _ => i < n, fun i H x H' => H' = H ∧ x = .int (lo + i), fun i _ => n ≤ i⟩
theorem turn_list {P : Program} {w : World} {K : PySem.W.Frag} {tg : Expr} (a it : Addr) : Turn P w K tg (Itl K a) [it] it (fun i h => h.IsListIter it a i) where
  mem := by simp
  obj := fun i h st b hb => by
    have e : b = it := by simpa using hb
    subst e
    obtain ⟨o, e, c, d⟩ := st
    exact ⟨o, e, fun v z => by rw [d] at z; cases z⟩
  keep := fun i h h' st k => st.at fun o e => k it (by simp) o e
  item := by
    intro X hP hw hK hc i pins s σ H E I hf st hg
    subst hP hw hK
    obtain ⟨xs, x, hq, hx⟩ := hg
    obtain ⟨its, rv, p, hz⟩ := I.list hq
    obtain ⟨u, hu, ru⟩ := rv.get hx
    obtain ⟨f0, f1, f2, f3, f4, f5⟩ := hf it (by simp)
    refine wpAny_pyNext_list_item st p.isList (x := u) (by simpa using hu) fun h' st' sb => ?_
    have I1 : Inv X pins σ H { s with heap := h' } := I.turned (t' := s.toks) (fun b o hb e => (sb.2 b hb).trans e) f0 f1 f3 f4 f5
    obtain ⟨o, e, c, d⟩ := id st'
    exact ⟨u, rfl, go_of (s := { s with heap := h' }) e c d (by decide) ⟨x, H, I1, ru, ⟨rfl, fun ys hy => by rw [I.list_inj hy hq]; exact hx⟩, st', fun b hb => (hf b hb).1⟩⟩
  done := by
    intro X hP hw hK hc i pins s σ H E I hf st hg
    subst hP hw hK
    obtain ⟨xs, hq, hx⟩ := hg
    obtain ⟨its, rv, p, hz⟩ := I.list hq
    obtain ⟨f0, f1, f2, f3, f4, f5⟩ := hf it (by simp)
    have hl := rv.length
    exact wpAny_pyNext_list_end (I.ok.hd hc) st p.isList (by simp; omega) fun h' eb => ⟨rfl, I.turned (t' := s.toks) (fun b o hb e => eb b o hb e) f0 f1 f3 f4 f5⟩
  self := fun _ _ _ _ _ st h => wpAny_pyIter_listiter st h
theorem turn_tuple {P : Program} {w : World} {K : PySem.W.Frag} {tg : Expr} (a it : Addr) : Turn P w K tg (Itt K a) [it] it (fun i h => h.IsTupleIter it a i) where
  mem := by simp
  obj := fun i h st b hb => by
    have e : b = it := by simpa using hb
    subst e
    obtain ⟨o, e, c, d⟩ := st
    exact ⟨o, e, fun v z => by rw [d] at z; cases z⟩
  keep := fun i h h' st k => st.at fun o e => k it (by simp) o e
  item := by
    intro X hP hw hK hc i pins s σ H E I hf st hg
    subst hP hw hK
    obtain ⟨xs, x, hq, hx⟩ := hg
    obtain ⟨its, rv, p, hz⟩ := I.tuple hq
    obtain ⟨u, hu, ru⟩ := rv.get hx
    obtain ⟨f0, f1, f2, f3, f4, f5⟩ := hf it (by simp)
    refine wpAny_pyNext_tuple_item st (show s.heap.IsTuple a its.toArray from p) (x := u) (by simpa using hu) fun h' st' sb => ?_
    have I1 : Inv X pins σ H { s with heap := h' } := I.turned (t' := s.toks) (fun b o hb e => (sb.2 b hb).trans e) f0 f1 f3 f4 f5
    obtain ⟨o, e, c, d⟩ := id st'
    exact ⟨u, rfl, go_of (s := { s with heap := h' }) e c d (by decide) ⟨x, H, I1, ru, ⟨rfl, fun ys hy => by rw [I.tuple_inj hy hq]; exact hx⟩, st', fun b hb => (hf b hb).1⟩⟩
  done := by
    intro X hP hw hK hc i pins s σ H E I hf st hg
    subst hP hw hK
    obtain ⟨xs, hq, hx⟩ := hg
    obtain ⟨its, rv, p, hz⟩ := I.tuple hq
    obtain ⟨f0, f1, f2, f3, f4, f5⟩ := hf it (by simp)
    have hl := rv.length
    exact wpAny_pyNext_tuple_end (I.ok.hd hc) st (show s.heap.IsTuple a its.toArray from p) (by simp; omega) fun h' eb => ⟨rfl, I.turned (t' := s.toks) (fun b o hb e => eb b o hb e) f0 f1 f3 f4 f5⟩
  self := fun _ _ _ _ _ st h => wpAny_pyIter_tupleiter st h
theorem turn_range {P : Program} {w : World} {K : PySem.W.Frag} {tg : Expr} (it : Addr) (lo : Int) (n : Nat) : Turn P w K tg (Itr lo n) [it] it (fun i h => IsRangeIter h it (lo + (i : Nat) * 1) ((n : Int) - (i : Nat)) 1) where
  mem := by simp
  obj := fun i h st b hb => by
    have e : b = it := by simpa using hb
    subst e
    exact ⟨_, st, fun v z => by
      have z' : Data.fields _ = Data.cell v := z
      cases z'⟩
  keep := fun i h h' st k => k it (by simp) _ st
  item := by
    intro X hP hw hK hc i pins s σ H E I hf st hg
    subst hP hw hK
    obtain ⟨f0, f1, f2, f3, f4, f5⟩ := hf it (by simp)
    have W := Walks.range (prog := X.prog) (w := X.w) (I.ok.hd hc) it lo 1 n
    refine W.item i s _ _ hg st fun v h' tk hv st' kk => ?_
    obtain ⟨t, rfl⟩ := hv
    have I1 : Inv X pins σ H { s with heap := h', toks := tk } := I.turned (fun b o hb e => kk b o (by simpa using hb) e) f0 f1 f3 f4 f5
    refine ⟨_, rfl, go_of (s := { s with heap := h', toks := tk }) (n := "range_iterator") st' rfl rfl (by decide) ⟨.int (lo + i), H, I1, ⟨t, ?_⟩, ⟨rfl, rfl⟩, st', fun b hb => (hf b hb).1⟩⟩
    rw [Int.mul_one]
  done := by
    intro X hP hw hK hc i pins s σ H E I hf st hg
    subst hP hw hK
    obtain ⟨f0, f1, f2, f3, f4, f5⟩ := hf it (by simp)
    exact wpAny_pyNext_range_end (I.ok.hd hc) st (by have : n ≤ i := hg; omega) fun h' eb => ⟨rfl, I.turned (t' := s.toks) (fun b o hb e => eb b o hb e) f0 f1 f3 f4 f5⟩
  self := fun _ _ _ _ _ st h => wpAny_pyIter_rangeiter st h
end L2

namespace L2
open PySem PySem.Spec PyProof.Rows
section
variable {X : Cx} {tg : Expr}
def iList (K : PySem.W.Frag) (tl : TE) : TI := fun σ H R => tl σ H fun x H1 => ∃ a, x = .ref a ∧ (∃ xs, SqL K H1 a xs) ∧ R (Itl K a) H1
def iTup (K : PySem.W.Frag) (tl : TE) : TI := fun σ H R => tl σ H fun x H1 => ∃ a, x = .ref a ∧ (∃ xs, SqT K H1 a xs) ∧ R (Itt K a) H1
theorem pi_list {l : Expr} {tl : TE} (hl : PE X l tl) : PI X tg l (iList X.K tl) := by
  intro pins s σ H R I h
  refine thn (hl pins s σ H _ I h) fun v s1 ⟨x, H1, I1, r1, q1⟩ => ?_
  obtain ⟨a, e, ⟨xs, hq⟩, q⟩ := q1
  subst e
  cases r1
  obtain ⟨its, rv, p, hz⟩ := I1.list hq
  refine wpAny_pyIter_list p.isList ?_
  refine ⟨s1.heap.objs.size, [s1.heap.objs.size], _, _, H1, rfl, I1.kept (t' := s1.toks) fun b o e => Heap.get?_push_of_some _ e, turn_list a _, ⟨_, Heap.get?_push_size _ rfl, rfl, rfl⟩, fun b hb => ?_, q⟩
  have e : b = s1.heap.objs.size := by simpa using hb
  subst e
  exact I1.fpOk (Nat.le_refl _) (I1.hok.fresh (Nat.le_refl _))
theorem pi_tup {l : Expr} {tl : TE} (hl : PE X l tl) : PI X tg l (iTup X.K tl) := by
  intro pins s σ H R I h
  refine thn (hl pins s σ H _ I h) fun v s1 ⟨x, H1, I1, r1, q1⟩ => ?_
  obtain ⟨a, e, ⟨xs, hq⟩, q⟩ := q1
  subst e
  cases r1
  obtain ⟨its, rv, p, hz⟩ := I1.tuple hq
  refine wpAny_pyIter_tuple (show s1.heap.IsTuple a its.toArray from p) ?_
  refine ⟨s1.heap.objs.size, [s1.heap.objs.size], _, _, H1, rfl, I1.kept (t' := s1.toks) fun b o e => Heap.get?_push_of_some _ e, turn_tuple a _, ⟨_, Heap.get?_push_size _ rfl, rfl, rfl⟩, fun b hb => ?_, q⟩
  have e : b = s1.heap.objs.size := by simpa using hb
  subst e
  exact I1.fpOk (Nat.le_refl _) (I1.hok.fresh (Nat.le_refl _))
/-- a range object just made, walked -/
theorem range_it {pins : List (Addr × Obj)} {σ : St} {H : Hp} {s : Shared} {R : It → Hp → Prop} {E : Value → Shared → Prop} {lo hi : Int} {t u v : Tok} {tk : Nat} (I : Inv X pins σ H s) (h1 : -(2 ^ 62) ≤ lo) (h2 : lo < 2 ^ 62) (h3 : -(2 ^ 62) ≤ hi) (h4 : hi < 2 ^ 62)
    (q : R (Itr lo (hi - lo).toNat) H) : wpAny (model X.prog X.w) X.A (pyIter (.ref s.heap.objs.size)) (PIE X pins σ tg R) E { s with heap := s.heap.push { cls := .type "range", data := .fields #[.int lo t, .int hi u, .int 1 v] }, toks := tk } := by
  refine wpAny_pyIter_range (IsRange.new ..) (small_one h1 h2 h3 h4) ?_
  have I1 : Inv X pins σ H { s with heap := s.heap.push { cls := .type "range", data := .fields #[.int lo t, .int hi u, .int 1 v] }, toks := tk } := I.kept fun b o e => Heap.get?_push_of_some _ e
  refine ⟨(s.heap.push { cls := .type "range", data := .fields #[.int lo t, .int hi u, .int 1 v] }).objs.size, [(s.heap.push { cls := .type "range", data := .fields #[.int lo t, .int hi u, .int 1 v] }).objs.size], _, _, H, rfl,
    I1.kept (t' := tk) fun b o e => Heap.get?_push_of_some _ e, turn_range _ lo (hi - lo).toNat, ?_, fun b hb => ?_, q⟩
  · have e1 : lo + ((0 : Nat) : Int) * 1 = lo := by simp
    have e2 : (((hi - lo).toNat : Nat) : Int) - ((0 : Nat) : Int) = Builtin.Range.rangeSize lo hi 1 := by rw [rangeSize_one]; split <;> omega
    show IsRangeIter _ _ (lo + ((0 : Nat) : Int) * 1) ((((hi - lo).toNat : Nat) : Int) - ((0 : Nat) : Int)) 1
    rw [e1, e2]
    exact Heap.get?_push_size _ rfl
  · have e : b = (s.heap.push { cls := .type "range", data := .fields #[.int lo t, .int hi u, .int 1 v] }).objs.size := by simpa using hb
    subst e
    exact I1.fpOk (Nat.le_refl _) (I1.hok.fresh (Nat.le_refl _))
def iRng1 (ta : TA) : TI := fun σ H R => ta σ H fun vs H1 => ∃ j : Int, vs = [.int j] ∧ -(2 ^ 62) ≤ j ∧ j < 2 ^ 62 ∧ R (Itr 0 j.toNat) H1
def iRng2 (ta : TA) : TI := fun σ H R => ta σ H fun vs H1 => ∃ i j : Int, vs = [.int i, .int j] ∧ (-(2 ^ 62) ≤ i ∧ i < 2 ^ 62 ∧ -(2 ^ 62) ≤ j ∧ j < 2 ^ 62) ∧ R (Itr i (j - i).toNat) H1
theorem pi_range1 {a : Expr} {ta : TA} {p pos : Pos} (hg : Gl X "range") (hm : X.mg "range" = none) (ha : PA X [a] ta) (hs : starEach [a] X.env = [(false, eval a X.env)] := by rfl) : PI X tg (.Call (.Name "range" p) [a] [] pos) (iRng1 ta) := by
  intro pins s σ H R I h
  refine Call_ (ld_blt I hg hm boot_range (PyProof.Rows.callWith_type1 (thn (ha pos pins s σ H _ I h) fun us s1 ⟨vs, H1, I1, r1, q1⟩ => ?_) hs rfl))
  obtain ⟨j, e, q1, q2, q⟩ := q1
  subst e
  cases r1 with
  | cons r rr =>
    cases rr
    obtain ⟨t, rfl⟩ := r
    exact call_range_1 (range_it I1 (by omega) (by omega) q1 q2 (by simpa using q))
theorem pi_range2 {a b : Expr} {ta : TA} {p pos : Pos} (hg : Gl X "range") (hm : X.mg "range" = none) (ha : PA X [a, b] ta) (hs : starEach [a, b] X.env = [(false, eval a X.env), (false, eval b X.env)] := by rfl) (hs2 : starEach [b] X.env = [(false, eval b X.env)] := by rfl) :
    PI X tg (.Call (.Name "range" p) [a, b] [] pos) (iRng2 ta) := by
  intro pins s σ H R I h
  refine Call_ (ld_blt I hg hm boot_range (PyProof.Rows.callWith_type1 (thn (ha pos pins s σ H _ I h) fun us s1 ⟨vs, H1, I1, r1, q1⟩ => ?_) (by rw [hs, hs2]) (by rw [hs2]; rfl)))
  obtain ⟨i, j, e, ⟨q1, q2, q3, q4⟩, q⟩ := q1
  subst e
  cases r1 with
  | cons r rr =>
    cases rr with
    | cons r' rr =>
      cases rr
      obtain ⟨t, rfl⟩ := r
      obtain ⟨t', rfl⟩ := r'
      exact call_range_2 (range_it I1 q1 q2 q3 q4 q)

/-! ### for -/
/-- W: the invariant by the turn and a measure; N: what the body is to reach -/
def tFor (wi : TI) (g : TG) (tb : TS) : TS := fun D σ H => wi σ H fun J H1 => ∃ W : Nat → Nat → St → Hp → Prop, (∃ m, W 0 m σ H1) ∧ ∀ i m σ H, W i m σ H →
  (J.stop i H ∧ D.nx σ H) ∨ (J.go i H ∧ ∃ N : St → Hp → Prop, (∀ σ' H', N σ' H' → ∃ m', m' < m ∧ W (i + 1) m' σ' H') ∧ ∀ x H', J.yld i H x H' → g x σ H' fun σ2 H2 => tb { D with nx := N, ct := N, bk := D.nx } σ2 H2)
/-- the records at fp as they stand -/
def pinsAt (fp : List Addr) (h : Heap) : List (Addr × Obj) := fp.filterMap fun b => (h.get? b).map fun o => (b, o)
theorem mem_pinsAt {fp : List Addr} {h : Heap} {b : Addr} {o : Obj} (hb : b ∈ fp) (e : h.get? b = some o) : (b, o) ∈ pinsAt fp h := List.mem_filterMap.mpr ⟨b, hb, by rw [e]; rfl⟩
theorem of_pinsAt {fp : List Addr} {h : Heap} {p : Addr × Obj} (hp : p ∈ pinsAt fp h) : p.1 ∈ fp ∧ h.get? p.1 = some p.2 := by
  obtain ⟨b, hb, e⟩ := List.mem_filterMap.mp hp
  cases q : h.get? b with
  | none => rw [q] at e; cases e
  | some o =>
    rw [q] at e
    have e' : (b, o) = p := Option.some.inj e
    subst e'
    exact ⟨hb, q⟩
theorem Inv.pinned {pins : List (Addr × Obj)} {σ : St} {H : Hp} {s : Shared} {fp : List Addr} (I : Inv X pins σ H s) (hf : ∀ b ∈ fp, FpOk X pins H b) (ho : ∀ b ∈ fp, ∃ o, s.heap.get? b = some o ∧ ∀ v, o.data ≠ .cell v) : Inv X (pins ++ pinsAt fp s.heap) σ H s :=
  I.pins_of fun p hp => (List.mem_append.mp hp).elim (fun z => I.pin p (List.mem_append_right _ z)) fun z => by
    obtain ⟨hb, e⟩ := of_pinsAt z
    obtain ⟨f0, f1, f2, _⟩ := hf p.1 hb
    obtain ⟨o, e', d⟩ := ho p.1 hb
    rw [e] at e'; cases e'
    exact ⟨e, f0, f1, f2, d⟩
theorem Inv.unpinned {pins pl : List (Addr × Obj)} {σ : St} {H : Hp} {s : Shared} (I : Inv X (pins ++ pl) σ H s) : Inv X pins σ H s := I.pins_of fun p hp => I.pin p (List.mem_append_right _ (List.mem_append_left _ hp))
theorem ps_for {iter : Expr} {body : List Stmt} {wi : TI} {g : TG} {tb : TS} {pos : Pos} (hp : PassesOwn (model X.prog X.w) X.A X.env X.xe) (hc : X.calm = true) (hi : PI X tg iter wi) (hg : PG X tg g) (hb : PSs X body tb)
    (hs : ∀ x, foldedSetIterable iter X.env x = pure x := by intro _; rfl) : PS X (.For tg iter body [] pos) (tFor wi g tb) := by
  intro pins s σ H D I h
  refine wpAny_For (thn (hi pins s σ H _ I h) fun v s1 h1 => thn h1 fun itv s2 h2 => ?_) hs
  obtain ⟨it, fp, tn, J, H2, e, I2, T, st2, f2, W, ⟨m0, w0⟩, turn⟩ := h2
  subst e
  -- what stays true of the iterator's objects through the loop
  have stat : ∀ {H' : Hp}, (∀ b ∈ fp, H' b = none) → ∀ b ∈ fp, FpOk X pins H' b := fun hn b hb => ⟨hn b hb, (f2 b hb).2⟩
  refine codeAny_forLoop_any (fun n s' => ∃ i σ' H', Inv X pins σ' H' s' ∧ tn i s'.heap ∧ (∀ b ∈ fp, H' b = none) ∧ W i n σ' H') ?_ m0 ⟨0, σ, H2, I2, st2, fun b hb => (f2 b hb).1, w0⟩
  rintro n s3 ⟨i, σ3, H3, I3, st3, fr3, w3⟩
  rcases turn i n σ3 H3 w3 with ⟨stop, qn⟩ | ⟨go, N, hN, step⟩
  · refine wpAny_passesOwn hp (thn (T.done X rfl rfl rfl hc i pins s3 σ3 H3 X.xe I3 (stat fr3) st3 stop) fun r s4 ⟨hr, I4⟩ => ?_)
    subst hr
    exact wpAny_execs_nil ⟨σ3, H3, I4, qn⟩
  · refine wpAny_passesOwn hp (thn (T.item X rfl rfl rfl hc i pins s3 σ3 H3 X.xe I3 (stat fr3) st3 go) fun r s4 ⟨u, hr, h4⟩ => ?_)
    subst hr
    refine wpAny_passesOwn hp (thn h4 fun _ s5 ⟨x, H5, I5, r5, y5, st5, fr5⟩ => ?_)
    have I5' := I5.pinned (stat fr5) (T.obj _ _ st5)
    refine wpAny_passesOwn hp (thn (hg _ s5 σ3 H5 x u _ I5' r5 (step x H5 y5)) fun _ s6 ⟨σ6, H6, I6, q6⟩ => ?_)
    refine wpAny_passesOwn hp (thn (hb _ s6 σ6 H6 _ I6 q6) fun f s7 q7 => ?_)
    have again : ∀ {σ7 : St} {H7 : Hp}, Inv X (pins ++ pinsAt fp s5.heap) σ7 H7 s7 → N σ7 H7 → ∃ m, m < n ∧ ∃ i σ' H', Inv X pins σ' H' s7 ∧ tn i s7.heap ∧ (∀ b ∈ fp, H' b = none) ∧ W i m σ' H' := fun {σ7 H7} I7 n7 => by
      obtain ⟨m', hm, w7⟩ := hN σ7 H7 n7
      refine ⟨m', hm, i + 1, σ7, H7, I7.unpinned, T.keep _ _ _ st5 fun b hb o e => (I7.pin (b, o) (List.mem_append_right _ (List.mem_append_right _ (mem_pinsAt hb e)))).1, fun b hb => ?_, w7⟩
      obtain ⟨o, e, d⟩ := T.obj _ _ st5 b hb
      exact (I7.pin (b, o) (List.mem_append_right _ (List.mem_append_right _ (mem_pinsAt hb e)))).2.1
    cases f with
    | next => obtain ⟨σ7, H7, I7, n7⟩ := q7; exact again I7 n7
    | cont => obtain ⟨σ7, H7, I7, n7⟩ := q7; exact again I7 n7
    | brk => obtain ⟨σ7, H7, I7, q7⟩ := q7; exact ⟨σ7, H7, I7.unpinned, q7⟩
    | ret v => obtain ⟨x7, σ7, H7, I7, r7, q7⟩ := q7; exact ⟨x7, σ7, H7, I7.unpinned, r7, q7⟩
end

/-! ### the forms one uses -/
theorem for_tup {K : PySem.W.Frag} {a : Addr} {xs : List V} {g : TG} {tb : TS} {D : Ends} {σ : St} {H : Hp} (Pv : Nat → St → Hp → Prop) (h0 : Pv 0 σ H) (hl : ∀ i σ H, i ≤ xs.length → Pv i σ H → SqT K H a xs)
    (hs : ∀ i x σ H, xs[i]? = some x → Pv i σ H → g x σ H fun σ2 H2 => tb { D with nx := Pv (i + 1), ct := Pv (i + 1), bk := D.nx } σ2 H2) (hd : ∀ σ H, Pv xs.length σ H → D.nx σ H) :
    ∃ W : Nat → Nat → St → Hp → Prop, (∃ m, W 0 m σ H) ∧ ∀ i m σ H, W i m σ H →
      ((Itt K a).stop i H ∧ D.nx σ H) ∨ ((Itt K a).go i H ∧ ∃ N : St → Hp → Prop, (∀ σ' H', N σ' H' → ∃ m', m' < m ∧ W (i + 1) m' σ' H') ∧ ∀ x H', (Itt K a).yld i H x H' → g x σ H' fun σ2 H2 => tb { D with nx := N, ct := N, bk := D.nx } σ2 H2) := by
  refine ⟨fun i m σ H => m = xs.length - i ∧ i ≤ xs.length ∧ Pv i σ H, ⟨xs.length, by simp, Nat.zero_le _, h0⟩, ?_⟩
  rintro i m σ H ⟨rfl, hi, p⟩
  have q := hl i σ H hi p
  by_cases hlt : i < xs.length
  · refine .inr ⟨⟨xs, xs[i], q, by simp [hlt]⟩, Pv (i + 1), fun σ' H' p' => ⟨xs.length - (i + 1), by omega, rfl, hlt, p'⟩, fun x H' y => ?_⟩
    obtain ⟨e, y⟩ := y
    subst e
    exact hs i x σ _ (y xs q) p
  · have e : i = xs.length := by omega
    subst e
    exact .inl ⟨⟨xs, q, Nat.le_refl _⟩, hd σ H p⟩
theorem for_range {lo : Int} {n : Nat} {g : TG} {tb : TS} {D : Ends} {σ : St} {H : Hp} (Pv : Nat → St → Hp → Prop) (h0 : Pv 0 σ H)
    (hs : ∀ i σ H, i < n → Pv i σ H → g (.int (lo + i)) σ H fun σ2 H2 => tb { D with nx := Pv (i + 1), ct := Pv (i + 1), bk := D.nx } σ2 H2) (hd : ∀ σ H, Pv n σ H → D.nx σ H) :
    ∃ W : Nat → Nat → St → Hp → Prop, (∃ m, W 0 m σ H) ∧ ∀ i m σ H, W i m σ H →
      ((Itr lo n).stop i H ∧ D.nx σ H) ∨ ((Itr lo n).go i H ∧ ∃ N : St → Hp → Prop, (∀ σ' H', N σ' H' → ∃ m', m' < m ∧ W (i + 1) m' σ' H') ∧ ∀ x H', (Itr lo n).yld i H x H' → g x σ H' fun σ2 H2 => tb { D with nx := N, ct := N, bk := D.nx } σ2 H2) := by
  refine ⟨fun i m σ H => m = n - i ∧ i ≤ n ∧ Pv i σ H, ⟨n, by simp, Nat.zero_le _, h0⟩, ?_⟩
  rintro i m σ H ⟨rfl, hi, p⟩
  by_cases hlt : i < n
  · refine .inr ⟨hlt, Pv (i + 1), fun σ' H' p' => ⟨n - (i + 1), by omega, rfl, hlt, p'⟩, fun x H' y => ?_⟩
    obtain ⟨e, y⟩ := y
    subst e y
    exact hs i σ _ hlt p
  · have e : i = n := by omega
    subst e
    exact .inl ⟨Nat.le_refl _, hd σ H p⟩
end L2

namespace L2
open PySem PySem.Spec PyProof.Rows

abbrev R2 := V → V → Hp → VK → Prop
/-- a two-place operation on values: f is binaryOp op, inplaceOp op or compareOp op -/
def OpR (X : Cx) (f : Value → Value → Sem Value) (r : R2) : Prop :=
  ∀ (pins : List (Addr × Obj)) (s : Shared) (σ : St) (H : Hp) (x y : V) (v u : Value) (Q : VK), Inv X pins σ H s → RelV x v → RelV y u → r x y H Q →
    wpAny (model X.prog X.w) X.A (f v u) (EP X pins σ Q) X.xe s
/-- a one-place operation -/
def UnR (X : Cx) (f : Value → Sem Value) (r : V → Hp → VK → Prop) : Prop :=
  ∀ (pins : List (Addr × Obj)) (s : Shared) (σ : St) (H : Hp) (x : V) (v : Value) (Q : VK), Inv X pins σ H s → RelV x v → r x H Q →
    wpAny (model X.prog X.w) X.A (f v) (EP X pins σ Q) X.xe s
/-- a call of a value that is known (a builtin, a type) with values -/
def CallR (X : Cx) (f : Value) (r : List V → Hp → VK → Prop) : Prop :=
  ∀ (pins : List (Addr × Obj)) (s : Shared) (σ : St) (H : Hp) (xs : List V) (us : List Value) (Q : VK), Inv X pins σ H s → Vals xs us → r xs H Q →
    wpAny (model X.prog X.w) X.A (call f us) (EP X pins σ Q) X.xe s
def tOp (r : R2) (ta tb : TE) : TE := fun σ H Q => ta σ H fun x H1 => tb σ H1 fun y H2 => r x y H2 Q
def tUn (r : V → Hp → VK → Prop) (ta : TE) : TE := fun σ H Q => ta σ H fun x H1 => r x H1 Q
/-- ints in, under C, and a value out -/
def rI (C : Int → Int → Prop) (g : Int → Int → V) : R2 := fun x y H Q => ∃ i j, x = .int i ∧ y = .int j ∧ C i j ∧ Q (g i j) H
def rI0 (g : Int → Int → V) : R2 := fun x y H Q => ∃ i j, x = .int i ∧ y = .int j ∧ Q (g i j) H
def rU (g : Int → V) : V → Hp → VK → Prop := fun x H Q => ∃ i, x = .int i ∧ Q (g i) H

section
variable {X : Cx} {a b c : Expr} {ta tb tc : TE} {pos : Pos}

theorem binT (ha : PE X a ta) (hb : PE X b tb) {pins : List (Addr × Obj)} {s : Shared} {σ : St} {H : Hp} {R : V → V → Hp → Prop} (I : Inv X pins σ H s)
    (h : ta σ H fun x H1 => tb σ H1 fun y H2 => R x y H2) {Q : Value → Shared → Prop} {f : Value → Value → Sem Value}
    (hf : ∀ v u s2 x y H2, Inv X pins σ H2 s2 → RelV x v → RelV y u → R x y H2 → wpAny (model X.prog X.w) X.A (f v u) Q X.xe s2) :
    wpAny (model X.prog X.w) X.A (eval a X.env) (fun v s₁ => wpAny (model X.prog X.w) X.A (eval b X.env) (fun u s₂ => wpAny (model X.prog X.w) X.A (f v u) Q X.xe s₂) X.xe s₁) X.xe s := by
  refine thn (ha pins s σ H _ I h) fun v s1 ⟨x, H1, I1, r1, q1⟩ => ?_
  refine thn (hb pins s1 σ H1 _ I1 q1) fun u s2 ⟨y, H2, I2, r2, q2⟩ => ?_
  exact hf v u s2 x y H2 I2 r1 r2 q2

theorem pe_op {op : Operator} {r : R2} (ho : OpR X (binaryOp op) r) (ha : PE X a ta) (hb : PE X b tb) : PE X (.BinOp a op b pos) (tOp r ta tb) := by
  intro pins s σ H Q I h
  exact wpAny_BinOp (binT ha hb I h fun v u s2 x y H2 I2 rx ry q => ho pins s2 σ H2 x y v u Q I2 rx ry q)
theorem pe_un {op : UnaryOp} {r : V → Hp → VK → Prop} (ho : UnR X (unaryOp op) r) (ha : PE X a ta) : PE X (.UnaryOp op a pos) (tUn r ta) := by
  intro pins s σ H Q I h
  exact UnaryOp_ (thn (ha pins s σ H _ I h) fun v s1 ⟨x, H1, I1, r1, q1⟩ => ho pins s1 σ H1 x v Q I1 r1 q1)
/-! ### ints -/
theorem opI {f : Value → Value → Sem Value} {C : Int → Int → Prop} {g : Int → Int → Int}
    (rule : ∀ (i j : Int) (t u : Tok) (s : Shared) (Q : Value → Shared → Prop) (E : Value → Shared → Prop), C i j → Q (.int (g i j) s.toks) { s with toks := s.toks + 1 } → wpAny (model X.prog X.w) X.A (f (.int i t) (.int j u)) Q E s) :
    OpR X f (rI C fun i j => .int (g i j)) := by
  intro pins s σ H x y v u Q I rx ry h
  obtain ⟨i, j, rfl, rfl, hc, q⟩ := h
  obtain ⟨t, rfl⟩ := rx
  obtain ⟨t', rfl⟩ := ry
  exact rule i j t t' s _ _ hc ⟨.int (g i j), H, I.tok _, ⟨_, rfl⟩, q⟩
theorem opI0 {f : Value → Value → Sem Value} {g : Int → Int → Int}
    (rule : ∀ (i j : Int) (t u : Tok) (s : Shared) (Q : Value → Shared → Prop) (E : Value → Shared → Prop), Q (.int (g i j) s.toks) { s with toks := s.toks + 1 } → wpAny (model X.prog X.w) X.A (f (.int i t) (.int j u)) Q E s) :
    OpR X f (rI0 fun i j => .int (g i j)) := by
  intro pins s σ H x y v u Q I rx ry h
  obtain ⟨i, j, rfl, rfl, q⟩ := h
  obtain ⟨t, rfl⟩ := rx
  obtain ⟨t', rfl⟩ := ry
  exact rule i j t t' s _ _ ⟨.int (g i j), H, I.tok _, ⟨_, rfl⟩, q⟩
theorem opB0 {f : Value → Value → Sem Value} {g : Int → Int → Bool}
    (rule : ∀ (i j : Int) (t u : Tok) (s : Shared) (Q : Value → Shared → Prop) (E : Value → Shared → Prop), Q (.bool (g i j)) s → wpAny (model X.prog X.w) X.A (f (.int i t) (.int j u)) Q E s) :
    OpR X f (rI0 fun i j => .bl (g i j)) := by
  intro pins s σ H x y v u Q I rx ry h
  obtain ⟨i, j, rfl, rfl, q⟩ := h
  obtain ⟨t, rfl⟩ := rx
  obtain ⟨t', rfl⟩ := ry
  exact rule i j t t' s _ _ ⟨.bl (g i j), H, I, rfl, q⟩

def CDiv (i j : Int) : Prop := 0 < j ∧ j < 1073741824
def CPow (i j : Int) : Prop := 0 ≤ j ∧ j ≤ 1000000 ∧ i.natAbs < 2 ^ 64
def CMul (i j : Int) : Prop := (-(2 ^ 64) < i ∧ i < 2 ^ 64) ∨ (-(2 ^ 64) < j ∧ j < 2 ^ 64)
theorem CMul.ok {i j : Int} (h : CMul i j) : IntMulOk i j := by
  rcases h with ⟨h1, h2⟩ | ⟨h1, h2⟩
  · exact .of_left (intBits_le_64 h1 h2)
  · exact .of_right (intBits_le_64 h1 h2)
theorem two_pow_nn (k : Nat) : (0 : Int) ≤ 2 ^ k := by
  rw [two_pow_cast]
  exact Int.natCast_nonneg _

theorem op_add : OpR X (binaryOp .Add) (rI0 fun i j => .int (i + j)) := opI0 fun _ _ _ _ _ _ _ q => add_int q
theorem op_sub : OpR X (binaryOp .Sub) (rI0 fun i j => .int (i - j)) := opI0 fun _ _ _ _ _ _ _ q => sub_int q
theorem op_mul : OpR X (binaryOp .Mult) (rI CMul fun i j => .int (i * j)) := opI fun _ _ _ _ _ _ _ hc q => mul_int q hc.ok
/-- // by a positive divisor -/
theorem op_fdiv : OpR X (binaryOp .FloorDiv) (rI CDiv fun i j => .int (i / j)) := opI fun i j _ _ _ _ _ hc q => by
  have h1 : (0 : Int) < j := hc.1
  have h2 : j < 1073741824 := hc.2
  exact floordiv_int (by omega) (by rw [Int.fdiv_eq_ediv_of_nonneg i (by omega)]; exact q) (.inl (PyProof.noPylong_small (by omega)))
/-- % by a positive divisor of any size -/
theorem op_mod : OpR X (binaryOp .Mod) (rI (fun _ j => 0 < j) fun i j => .int (i % j)) := opI fun i j _ _ _ _ _ hc q => by
  have h1 : (0 : Int) < j := hc
  exact mod_int' (by omega) (by rw [Int.fmod_eq_emod_of_nonneg i (by omega)]; exact q)
theorem op_pow : OpR X (binaryOp .Pow) (rI CPow fun i j => .int (i ^ j.toNat)) := opI fun _ _ _ _ _ _ _ hc q => pow_int_small hc.1 hc.2.1 hc.2.2 q
theorem op_shl : OpR X (binaryOp .LShift) (rI CPow fun i j => .int (i * 2 ^ j.toNat)) := opI fun _ _ _ _ _ _ _ hc q => lshift_int_small hc.1 hc.2.1 hc.2.2 q
theorem op_shr : OpR X (binaryOp .RShift) (rI (fun _ j => 0 ≤ j) fun i j => .int (i / 2 ^ j.toNat)) := opI fun i j _ _ _ _ _ hc q =>
  rshift_int hc (by rw [Int.fdiv_eq_ediv_of_nonneg i (two_pow_nn _)]; exact q)
theorem op_and : OpR X (binaryOp .BitAnd) (rI0 fun i j => .int (Builtin.bitAnd i j)) := opI0 fun _ _ _ _ _ _ _ q => and_int q
theorem op_or : OpR X (binaryOp .BitOr) (rI0 fun i j => .int (Builtin.bitOr i j)) := opI0 fun _ _ _ _ _ _ _ q => or_int q
theorem unI {f : Value → Sem Value} {g : Int → Int}
    (rule : ∀ (i : Int) (t : Tok) (s : Shared) (Q : Value → Shared → Prop) (E : Value → Shared → Prop), Q (.int (g i) s.toks) { s with toks := s.toks + 1 } → wpAny (model X.prog X.w) X.A (f (.int i t)) Q E s) :
    UnR X f (rU fun i => .int (g i)) := by
  intro pins s σ H x v Q I rx h
  obtain ⟨i, rfl, q⟩ := h
  obtain ⟨t, rfl⟩ := rx
  exact rule i t s _ _ ⟨.int (g i), H, I.tok _, ⟨_, rfl⟩, q⟩
theorem un_neg : UnR X (unaryOp .USub) (rU fun i => .int (-i)) := unI fun _ _ _ _ _ q => neg_int q
/-! ### bools among ints: n += (a < b) -/
end

/-! ### comparisons -/
/-- the scalars that == tells apart as data does -/
def scal : V → V → Bool
  | .non, .non => true | .non, .int _ => true | .int _, .non => true | .non, .bl _ => true | .bl _, .non => true | .non, .str _ => true | .str _, .non => true
  | .int _, .int _ => true | .bl _, .bl _ => true | .str _, .str _ => true | .byt _, .byt _ => true
  | .int _, .str _ => true | .str _, .int _ => true | .bl _, .str _ => true | .str _, .bl _ => true
  | _, _ => false
def rEq : R2 := fun x y H Q => scal x y = true ∧ Q (.bl (decide (x = y))) H
theorem dec_int {i j : Int} : decide (V.int i = V.int j) = (i == j) := by
  rw [Bool.eq_iff_iff]
  simp
theorem dec_bl {i j : Bool} : decide (V.bl i = V.bl j) = (i == j) := by
  rw [Bool.eq_iff_iff]
  simp
theorem dec_str {i j : Str} : decide (V.str i = V.str j) = (i == j) := by
  rw [Bool.eq_iff_iff]
  simp
theorem dec_byt {i j : Array UInt8} : decide (V.byt i = V.byt j) = (i.toList == j.toList) := by
  rw [Bool.eq_iff_iff]
  cases i
  cases j
  simp

section
variable {X : Cx} {a b c : Expr} {ta tb tc : TE} {pos : Pos}
theorem fin_bl {pins : List (Addr × Obj)} {σ : St} {H : Hp} {s : Shared} {Q : VK} {k k' : Bool} (I : Inv X pins σ H s) (q : Q (.bl k) H) (e : k = k') : EP X pins σ Q (.bool k') s := by
  subst e
  exact ⟨.bl k, H, I, rfl, q⟩
theorem op_eq : OpR X (compareOp .Eq) rEq := by
  intro pins s σ H x y v u Q I rx ry h
  obtain ⟨hs, q⟩ := h
  cases x with
  | non =>
    cases rx
    cases y with
    | non => cases ry; exact PySem.EqNone.eq_none_none (fin_bl I q (by simp))
    | bl j => cases ry; exact PySem.EqNone.eq_none_bool (fin_bl I q (by simp))
    | int j => obtain ⟨t', rfl⟩ := ry; exact PySem.EqNone.eq_none_int (fin_bl I q (by simp))
    | str j => obtain ⟨t', rfl⟩ := ry; exact PySem.EqNone.eq_none_str (fin_bl I q (by simp))
    | _ => exact absurd (show false = true from hs) Bool.false_ne_true
  | bl i =>
    cases rx
    cases y with
    | non => cases ry; exact PySem.EqNone.eq_bool_none (fin_bl I q (by simp))
    | bl j => cases ry; exact eq_bool (fin_bl I q dec_bl)
    | str j => obtain ⟨t', rfl⟩ := ry; exact PySem.EqMixed.eq_bool_str (fin_bl I q (by simp))
    | _ => exact absurd (show false = true from hs) Bool.false_ne_true
  | int i =>
    obtain ⟨t, rfl⟩ := rx
    cases y with
    | non => cases ry; exact PySem.EqNone.eq_int_none (fin_bl I q (by simp))
    | int j => obtain ⟨t', rfl⟩ := ry; exact eq_int (fin_bl I q dec_int)
    | str j => obtain ⟨t', rfl⟩ := ry; exact PySem.EqMixed.eq_int_str (fin_bl I q (by simp))
    | _ => exact absurd (show false = true from hs) Bool.false_ne_true
  | str i =>
    obtain ⟨t, rfl⟩ := rx
    cases y with
    | non => cases ry; exact PySem.EqNone.eq_str_none (fin_bl I q (by simp))
    | bl j => cases ry; exact PySem.EqMixed.eq_str_bool (fin_bl I q (by simp))
    | int j => obtain ⟨t', rfl⟩ := ry; exact PySem.EqMixed.eq_str_int (fin_bl I q (by simp))
    | str j => obtain ⟨t', rfl⟩ := ry; exact eq_str (fin_bl I q dec_str)
    | _ => exact absurd (show false = true from hs) Bool.false_ne_true
  | byt i =>
    obtain ⟨t, rfl⟩ := rx
    cases y with
    | byt j => obtain ⟨t', rfl⟩ := ry; exact PySem.W.eq_bytes (fin_bl I q dec_byt)
    | _ => exact absurd (show false = true from hs) Bool.false_ne_true
  | _ => cases y <;> exact absurd (show false = true from hs) Bool.false_ne_true
theorem op_lt : OpR X (compareOp .Lt) (rI0 fun i j => .bl (decide (i < j))) := opB0 fun _ _ _ _ _ _ _ q => lt_int q
theorem op_le : OpR X (compareOp .LtE) (rI0 fun i j => .bl (decide (i ≤ j))) := opB0 fun _ _ _ _ _ _ _ q => le_int q
theorem op_gt : OpR X (compareOp .Gt) (rI0 fun i j => .bl (decide (j < i))) := opB0 fun _ _ _ _ _ _ _ q => gt_int q
theorem nomark (b : Expr) {op : CmpOp} (h : op ≠ .In := by decide) (h2 : op ≠ .NotIn := by decide) : behindInMarks op b = false := by
  have e1 : (op == CmpOp.In) = false := by cases op <;> first | rfl | exact absurd rfl h
  have e2 : (op == CmpOp.NotIn) = false := by cases op <;> first | rfl | exact absurd rfl h2
  cases b <;> simp [behindInMarks, e1, e2]
/-- a comparison as a value; hm: nomark b, or (for in, not in) by with_unfolding_all rfl -/
theorem pe_cmpR {op : CmpOp} {r : R2} (ho : OpR X (compareOp op) r) (ha : PE X a ta) (hb : PE X b tb) (hm : behindInMarks op b = false) : PE X (.Compare a [op] [b] pos) (tOp r ta tb) := by
  intro pins s σ H Q I h
  exact wpAny_Compare1 (binT ha hb I h fun v u s2 x y H2 I2 rx ry q => ho pins s2 σ H2 x y v u Q I2 rx ry q) hm
/-- a reading of a value as a test -/
def tTest (t : TE) : TT := fun σ H Q => t σ H fun x H' => ∃ k, x = .bl k ∧ Q k H'
theorem pt_cmpR {op : CmpOp} {r : R2} (ho : OpR X (compareOp op) r) (ha : PE X a ta) (hb : PE X b tb) (hm : behindInMarks op b = false) : PT X (.Compare a [op] [b] pos) (tTest (tOp r ta tb)) := by
  intro pins s σ H Q I h
  refine wpAny_isTrue_Compare1 (thn (ha pins s σ H _ I h) fun v s1 ⟨x, H1, I1, r1, q1⟩ => thn (hb pins s1 σ H1 _ I1 q1) fun u s2 ⟨y, H2, I2, r2, q2⟩ =>
    thn (ho pins s2 σ H2 x y v u _ I2 r1 r2 q2) fun c s3 ⟨z, H3, I3, r3, k, e, q3⟩ => ?_) hm
  subst e
  cases r3
  exact wpAny_truthy_bool ⟨H3, I3, q3⟩
/-- a op1 b op2 c -/
def tChain (r r' : R2) (ta tb tc : TE) : TE := fun σ H Q => ta σ H fun x H1 => tb σ H1 fun y H2 => r x y H2 fun z H3 => ∃ k, z = .bl k ∧
  (if k = true then tc σ H3 fun w' H4 => r' y w' H4 Q else Q (.bl false) H3)
theorem pe_chain {op op' : CmpOp} {r r' : R2} (ho : OpR X (compareOp op) r) (ho' : OpR X (compareOp op') r') (ha : PE X a ta) (hb : PE X b tb) (hc : PE X c tc)
    (hm : lastMarks [op, op'] [b, c] = false := by with_unfolding_all rfl) : PE X (.Compare a [op, op'] [b, c] pos) (tChain r r' ta tb tc) := by
  intro pins s σ H Q I h
  refine Compare_chain (thn (ha pins s σ H _ I h) fun v s1 ⟨x, H1, I1, r1, q1⟩ => chain_link (thn (hb pins s1 σ H1 _ I1 q1) fun u s2 ⟨y, H2, I2, r2, q2⟩ =>
    thn (ho pins s2 σ H2 x y v u _ I2 r1 r2 q2) fun d s3 ⟨z, H3, I3, r3, k, e, q3⟩ => ?_)) hm
  subst e
  cases r3
  refine wpAny_truthy_bool ?_
  cases k with
  | false => exact ite_ff ⟨.bl false, H3, I3, rfl, q3⟩
  | true => exact ite_tt (chain_last (thn (hc pins s3 σ H3 _ I3 q3) fun w' s4 ⟨z', H4, I4, r4, q4⟩ => ho' pins s4 σ H4 y z' u w' Q I4 r2 r4 q4))
/-! ### truth -/
theorem line63 : (sizeLine : Nat) < 2 ^ 63 := by rw [sizeLine_eq]; decide
/-! ### strs and bytes -/
/-! ### scalar builtins, by CallR -/
theorem vals1 {x : V} {us : List Value} (r : Vals [x] us) : ∃ u, us = [u] ∧ RelV x u := by
  cases r with
  | cons r1 r2 => cases r2; exact ⟨_, rfl, r1⟩
theorem vals2 {x y : V} {us : List Value} (r : Vals [x, y] us) : ∃ u w', us = [u, w'] ∧ RelV x u ∧ RelV y w' := by
  cases r with
  | cons r1 r2 =>
    cases r2 with
    | cons r3 r4 => cases r4; exact ⟨_, _, rfl, r1, r3⟩
theorem call_max2 (hc : X.calm = true) : CallR X (.builtin "max") (fun xs H Q => ∃ i j, xs = [.int i, .int j] ∧ Q (.int (if j > i then j else i)) H) := by
  intro pins s σ H xs us Q I r h
  obtain ⟨i, j, rfl, q⟩ := h
  obtain ⟨u, w', rfl, ⟨t, rfl⟩, ⟨t', rfl⟩⟩ := vals2 r
  refine max_two_ints (I.ok.hd hc) fun h' tk k => ⟨_, H, I.kept k, ?_, q⟩
  by_cases hj : j > i
  · rw [if_pos hj, if_pos hj]; exact ⟨_, rfl⟩
  · rw [if_neg hj, if_neg hj]; exact ⟨_, rfl⟩
theorem call_int1 : CallR X (.type "int") (fun xs H Q => (∃ i, xs = [.int i] ∧ Q (.int i) H) ∨ ∃ k, xs = [.bl k] ∧ Q (.int (if k then 1 else 0)) H) := by
  intro pins s σ H xs us Q I r h
  rcases h with ⟨i, rfl, q⟩ | ⟨k, rfl, q⟩
  · obtain ⟨u, rfl, t, rfl⟩ := vals1 r
    exact call_int_int ⟨.int i, H, I, ⟨_, rfl⟩, q⟩
  · obtain ⟨u, rfl, r1⟩ := vals1 r
    cases r1
    exact call_int_bool ⟨.int (if k then 1 else 0), H, I.tok _, ⟨_, rfl⟩, q⟩
end
end L2

namespace L2
open PySem PySem.Spec PyProof.Rows

/-! ### an instance, its attributes a map -/
structure ObjM (h : Heap) (x dx C : Addr) (mA : Str → Option Value) : Prop where
  obj : h.get? x = some (PySem.W.instObj C dx)
  ns : h.Ns1 dx mA
  ne : dx ≠ x

theorem lookIn_ns {h : Heap} {dx : Addr} {mA : Str → Option Value} (n : h.Ns1 dx mA) : ∃ od, h.get? dx = some od ∧ ∀ name, PySem.W.lookIn name od = some (mA name) := by
  obtain ⟨o, es, ep, ho, hd, hk, _, hm⟩ := n
  refine ⟨o, ho, fun name => ?_⟩
  have e := hm name
  unfold nsFind findBy at e
  rw [← Array.find?_toList] at e
  unfold PySem.W.lookIn
  rw [hd]
  dsimp only
  split
  · rename_i y q
    rw [q] at e
    exact congrArg some e
  · rename_i q
    rw [q] at e
    have a : es.toList.any (·.refKey) = false := by
      rw [List.any_eq_false]
      intro y hy
      obtain ⟨z, t, hkey⟩ := hk y (Array.mem_toList_iff.mp hy)
      simp [DictEntry.refKey, hkey]
    have a' : ¬ es.toList.any (·.refKey) = true := by rw [a]; exact Bool.false_ne_true
    rw [if_neg a']
    exact congrArg some e

theorem ObjM.look {h : Heap} {x dx C : Addr} {mA : Str → Option Value} (I : ObjM h x dx C mA) : ∃ od, PySem.W.InstAt h x (PySem.W.instObj C dx) C (some od) ∧ ∀ name, PySem.W.lookIn name od = some (mA name) :=
  let ⟨od, ho, hl⟩ := lookIn_ns I.ns
  ⟨od, ⟨I.obj, rfl, rfl, ho⟩, hl⟩

section
variable {prog : Program} {w : World} {A : Around} {E : Value → Shared → Prop} {s : Shared} {K : PySem.W.Frag} {x dx C f : Addr} {mA : Str → Option Value} {name : Str} {v : Value}

end

/-! ### the attributes as a list of pairs -/
section
variable {P : Program} {w : World} {H H' : Hp} {h h' : Heap} {a C dx : Addr} {fs fs' : List (Str × V)}
theorem ins_get (hok : HOk P w H h) (e : H a = some (.ins C dx fs)) : ∃ mA, ObjM h a dx C mA ∧ (∀ f, RelO (fs.lookup f) (mA f)) ∧ PySem.Within mA (fs.map (·.1)) ∧ fs.length ≤ 1000 ∧ H dx = some (.own a) := by
  obtain ⟨d, z, ne, ob, mA, n, r, q⟩ := (show ObjOk P w H h a (.ins C dx fs) from hok a _ e)
  exact ⟨mA, ⟨ob, n, ne⟩, r, q, z, d⟩
end

/-! ### what of the text a class must have -/
structure Cls (K : PySem.W.Frag) (C : Addr) : Prop where
  pg : PySem.W.plainGet K C Str.empty = true
  hd : PySem.W.hasDictIn K C = true
  po : PySem.W.plainOver K C = true
  sa : PySem.W.findIn K (.ref C) "__setattr__" = some (some (.builtin "object.__setattr__"))
theorem Cls.get {K : PySem.W.Frag} {C : Addr} (c : Cls K C) (f : Str) : PySem.W.plainGet K C f = true := c.pg
section
variable {X : Cx} {pins : List (Addr × Obj)} {σ : St} {H : Hp} {s : Shared} {a C dx : Addr} {fs : List (Str × V)} {f : Str} {v : V} {A : Around} {E : Value → Shared → Prop}

end

/-! ### readings and rules -/
section
variable {X : Cx} {o e value : Expr} {f : Str} {pos pos' tpos : Pos} {ta tv : TE}
end

/-! ### isinstance -/
section
variable {X : Cx} {pins : List (Addr × Obj)} {σ : St} {H : Hp} {s : Shared} {A : Around} {E : Value → Shared → Prop} {Q : Value → Shared → Prop} {c : Value} {b : Bool}
/-- the type of a value, as the fragment's deciders take it; for an instance its class -/
inductive TyOf (K : PySem.W.Frag) (H : Hp) : V → Value → Prop where
  | non : TyOf K H .non (.type "NoneType")
  | bl (x : Bool) : TyOf K H (.bl x) (.type "bool")
  | int (i : Int) : TyOf K H (.int i) (.type "int")
  | str (x : Str) : TyOf K H (.str x) (.type "str")
  | flt (x : UInt64) : TyOf K H (.flt x) (.type "float")
  | lst {a : Addr} {xs : List V} (e : H a = some (.lst xs)) : TyOf K H (.ref a) (.type "list")
  | frz {a : Addr} {o : Obj} {xs : List V} (e : H a = some (.frz o (.lst xs))) : TyOf K H (.ref a) (.type "list")
  | tup {a : Addr} {xs : List V} (e : H a = some (.tup xs)) : TyOf K H (.ref a) (.type "tuple")
  | dK {a : Addr} {kvs : List (Key × V)} (e : H a = some (.dK kvs)) : TyOf K H (.ref a) (.type "dict")
  | dT {a : Addr} {kvs : List (List Key × V)} (e : H a = some (.dT kvs)) : TyOf K H (.ref a) (.type "dict")
  | ins {a C dx : Addr} {fs : List (Str × V)} (e : H a = some (.ins C dx fs)) (cl : Cls K C) (ha : PySem.W.findIn K (.ref C) "__class__" = some (some (.builtin "object.__class__")))
      (hn : PySem.W.specialIn K (.builtin "object.__class__") "__get__" = some (some (.builtin "getset_descriptor.__get__"))) (htk : PySem.W.takesIn K (.builtin "object.__class__") = some true)
      (hm : PySem.W.mroIn K C (.type "object") = some true) : TyOf K H (.ref a) (.ref C)
/-- isinstance(x, c) for one class c, a built-in or an own one: kitOne's answer -/
theorem isinst_ok {x : V} {u t : Value} (I : Inv X pins σ H s) (rx : RelV x u) (ty : TyOf X.K H x t) (e : PySem.W.kitOne X.K t c = some b) (h : ∀ tk, Q (.bool b) { s with toks := tk }) :
    wpAny (model X.prog X.w) A (call (.builtin "isinstance") [u, c]) Q E s := by
  cases ty with
  | non => cases (show u = Value.none from rx); exact PySem.W.kia_one PySem.W.kitx_none I.kIn True.intro e (fun z => nomatch z) h
  | bl y => cases (show u = Value.bool y from rx); exact PySem.W.kia_one PySem.W.kitx_bool I.kIn True.intro e (fun z => nomatch z) h
  | int i => obtain ⟨t, q⟩ := (show ∃ t, u = Value.int i t from rx); cases q; exact PySem.W.kia_one PySem.W.kitx_int I.kIn True.intro e (fun z => nomatch z) h
  | str y => obtain ⟨t, q⟩ := (show ∃ t, u = Value.str y t from rx); cases q; exact PySem.W.kia_one PySem.W.kitx_str I.kIn True.intro e (fun z => nomatch z) h
  | flt y => obtain ⟨t, q⟩ := (show ∃ t, u = Value.float y t from rx); cases q; exact PySem.W.kia_one PySem.W.kitx_float I.kIn True.intro e (fun z => nomatch z) h
  | @lst a xs ea =>
    cases (show u = Value.ref a from rx)
    obtain ⟨_, _, n, _, h1⟩ := (show ObjOk X.prog X.w H s.heap a (.lst xs) from I.hok a _ ea)
    exact PySem.W.kia_one PySem.W.kitx_list I.kIn ⟨_, h1, rfl⟩ e (fun z => nomatch z) h
  | @frz a ob xs ea =>
    cases (show u = Value.ref a from rx)
    obtain ⟨_, _, _, n, _, h1⟩ := (show ObjOk X.prog X.w H s.heap a (.frz ob (.lst xs)) from I.hok a _ ea)
    exact PySem.W.kia_one PySem.W.kitx_list I.kIn ⟨_, h1, rfl⟩ e (fun z => nomatch z) h
  | @tup a xs ea =>
    cases (show u = Value.ref a from rx)
    obtain ⟨_, _, _, p⟩ := (show ObjOk X.prog X.w H s.heap a (.tup xs) from I.hok a _ ea)
    obtain ⟨o, h1, h2, _⟩ := p
    exact PySem.W.kia_one PySem.W.kitx_tuple I.kIn ⟨o, h1, h2⟩ e (fun z => nomatch z) h
  | @dK a kvs ea =>
    cases (show u = Value.ref a from rx)
    obtain ⟨_, _, vs, _, p⟩ := (show ObjOk X.prog X.w H s.heap a (.dK kvs) from I.hok a _ ea)
    obtain ⟨o, es, ep, h1, h2, _⟩ := p
    exact PySem.W.kia_one PySem.W.kitx_dict I.kIn ⟨o, h1, h2.1⟩ e (fun z => nomatch z) h
  | @dT a kvs ea =>
    cases (show u = Value.ref a from rx)
    obtain ⟨_, _, xs, _, o, es, ep, h1, h2, _⟩ := (show ObjOk X.prog X.w H s.heap a (.dT kvs) from I.hok a _ ea)
    exact PySem.W.kia_one PySem.W.kitx_dict I.kIn ⟨o, h1, h2.1⟩ e (fun z => nomatch z) h
  | @ins a C dx fs ea cl ha hn htk hm =>
    cases (show u = Value.ref a from rx)
    obtain ⟨mA, O, _⟩ := ins_get I.hok ea
    obtain ⟨od, J, _⟩ := O.look
    exact PySem.W.kia_one (PySem.W.kitx_own (cl.get _) cl.hd ha hn htk hm) I.kIn J e (fun z => nomatch z) h
end
end L2

namespace L2
open PySem PySem.Spec PyProof.Rows

/-! ### room -/
structure Room (k : Nat) (A : Around) : Prop where
  hd : A.handled = none
  dp : A.depth + 3 * k + 5 < recursionLimit
  un : A.units + 16 * k + 200 < cLine
theorem Room.mono {j k : Nat} {A : Around} (r : Room k A) (h : j ≤ k) : Room j A := ⟨r.hd, by have := r.dp; omega, by have := r.un; omega⟩
theorem Room.deeper {k : Nat} {A : Around} (r : Room (k + 1) A) (env : Env) : Room k (A.deeper env) :=
  ⟨r.hd, by have := r.dp; show A.depth + 1 + 3 * k + 5 < _; omega, by have := r.un; show A.units + 3 + 16 * k + 200 < _; omega⟩
theorem Room.depth {k : Nat} {A : Around} (r : Room k A) : A.depth < recursionLimit := by have := r.dp; omega
theorem Room.units {k : Nat} {A : Around} (r : Room k A) : A.units + 64 < cLine := by have := r.un; omega
/-! ### argument lists and displays -/
def tNil : TA := fun _ H Q => Q [] H
def tCons (ta : TE) (tr : TA) : TA := fun σ H Q => ta σ H fun x H1 => tr σ H1 fun xs H2 => Q (x :: xs) H2
section
variable {X : Cx} {e : Expr} {es : List Expr} {te : TE} {t : TA} {pos : Pos}
theorem pa_nil : PA X [] tNil := fun _ _ _ _ H Q I h => Calls.spliced_nil ⟨[], H, I, .nil, h⟩
theorem pa_cons (ha : PE X e te) (hr : PA X es t) (hs : starEach (e :: es) X.env = (false, eval e X.env) :: starEach es X.env := by rfl) : PA X (e :: es) (tCons te t) := by
  intro pos pins s σ H Q I h
  rw [hs]
  show wpAny _ _ (spliced ((false, eval e X.env) :: backTo pos (starEach es X.env))) _ _ s
  refine Calls.spliced_cons (thn (ha pins s σ H _ I h) fun u s1 ⟨x, H1, I1, r1, q1⟩ => ?_)
  exact thn (hr pos pins s1 σ H1 _ I1 q1) fun us s2 ⟨xs, H2, I2, r2, q2⟩ => ⟨x :: xs, H2, I2, .cons r1 r2, q2⟩

/-- a tuple, a list of written items -/
def tTup (t : TA) : TE := fun σ H Q => t σ H fun xs H1 => xs.length ≤ sizeLine ∧ ∀ p, H1 p = none → Q (.ref p) (upd H1 p (.tup xs))
def tLst (t : TA) : TE := fun σ H Q => t σ H fun xs H1 => xs.length ≤ sizeLine ∧ ∀ p, H1 p = none → Q (.ref p) (upd H1 p (.lst xs))
theorem pe_tup {x1} (h : PA X es t) : PE X (.Tuple es x1 pos) (tTup t) := by
  intro pins s σ H Q I hq
  refine wpAny_Tuple_spliced (thn (h pos pins s σ H _ I hq) fun us s1 ⟨xs, H1, I1, r, z, q⟩ => ⟨by rw [← r.length]; exact z, ?_⟩)
  have hf : H1 s1.heap.objs.size = none := I1.hok.fresh (Nat.le_refl _)
  refine ⟨.ref s1.heap.objs.size, upd H1 s1.heap.objs.size (.tup xs), I1.laid (t' := s1.toks) (fun b u e => Heap.get?_push_of_some _ e) (Nat.le_refl _) ?_, rfl, q _ hf⟩
  exact ⟨z, us, r, ⟨_, Heap.get?_push_size _ rfl, rfl, _, rfl⟩⟩
theorem pe_lst (h : PA X es t) : PE X (.List es pos) (tLst t) := by
  intro pins s σ H Q I hq
  refine wpAny_List_spliced (thn (h pos pins s σ H _ I hq) fun us s1 ⟨xs, H1, I1, r, z, q⟩ => ⟨by rw [← r.length]; exact z, ?_⟩)
  have hf : H1 s1.heap.objs.size = none := I1.hok.fresh (Nat.le_refl _)
  refine ⟨.ref s1.heap.objs.size, upd H1 s1.heap.objs.size (.lst xs), I1.laid (t' := s1.toks) (fun b u e => Heap.get?_push_of_some _ e) (Nat.le_refl _) ?_, rfl, q _ hf⟩
  exact ⟨z, us, 0, r, Heap.get?_push_size _ rfl⟩
end

/-! ### what a def promises -/
/-- a def's promise: the bound arguments in the parameters' order, the heap, the wanted end, the wanted exception -/
abbrev Sp := List V → Hp → VK → XK → Prop
/-- how an exception lies behind a call (file 08 gives it): the callers' frames, abstract heap and state ahead of the call, the wish, the exception, the state -/
abbrev CXT := List Env → Hp → Shared → XK → Value → Shared → Prop

/-- the state at a call -/
structure Env0 (P : Program) (w : World) (K : PySem.W.Frag) (mg : Str → Option Value) (base : Heap) (A : Around) (outer : List Env) (s : Shared) (H : Hp) : Prop where
  frames : A.frames = some outer
  mod : Mod K mg base
  bs : ∀ b o, base.get? b = some o → s.heap.get? b = some o ∧ H b = none
  bsz : base.objs.size ≤ s.heap.objs.size
  funs : s.heap.FunFrames base outer
  frf : ∀ b ∈ frs outer, H b = none
  hok : HOk P w H s.heap
  bare : AllBare s.gens
/-- a call's end -/
def CE (outer : List Env) (P : Program) (w : World) (H : Hp) (s : Shared) (Q : VK) (u : Value) (s' : Shared) : Prop :=
  ∃ v H', s'.os = s.os ∧ AllBare s'.gens ∧ Un (frs outer) [] H H' s.heap s'.heap ∧ HOk P w H' s'.heap ∧ RelV v u ∧ Q v H'
def CR (CX : CXT) (outer : List Env) (P : Program) (w : World) (H : Hp) (s : Shared) (Q : VK) (E : XK) (r : Result) (s' : Shared) : Prop :=
  match r with
  | .ok (.ret u) => CE outer P w H s Q u s'
  | .ok _ => False
  | .error e => CX outer H s E e s'
structure FnOk (P : Program) (w : World) (K : PySem.W.Frag) (mg : Str → Option Value) (base : Heap) (CX : CXT) (k : Nat) (f : Addr) (fd : FuncData) (ps : List Str) (sp : Sp) : Prop where
  len : ∀ vs H Q E, sp vs H Q E → vs.length = ps.length
  run : ∀ (A : Around) (outer : List Env) (s : Shared) (H : Hp) (args : Args) (us : List Value) (vs : List V) (Q : VK) (E : XK), Room k A → Env0 P w K mg base A outer s H → BindsTo s fd args (ps.zip us) → Vals vs us → sp vs H Q E →
    codeAny (model P w) A (.call (.ref f) args) (CR CX outer P w H s Q E) s
section
variable {X : Cx} {pins : List (Addr × Obj)} {σ : St} {H : Hp} {s s' : Shared}
/-- from a body: what a callee wants -/
theorem Inv.env0 (I : Inv X pins σ H s) : Env0 X.prog X.w X.K X.mg X.base X.A X.stack s H :=
  ⟨I.ok.frames, I.ok.mod, I.bs, Nat.le_trans I.ok.bsz I.sz, I.stack, I.stkFree, I.hok, I.bare⟩
/-- behind a call -/
theorem Inv.after {Q : VK} {u : Value} (I : Inv X pins σ H s) (h : CE X.stack X.prog X.w H s Q u s') : EP X pins σ Q u s' := by
  obtain ⟨v, H', os, bare, un, hok, r, q⟩ := h
  obtain ⟨hh, g, d, t, os'⟩ := s'
  obtain rfl : os' = s.os := os
  exact ⟨v, H', I.call (h' := hh) (g' := g) (d' := d) (t' := t) (ch := []) un hok bare (fun b z => absurd z (by simp)), r, q⟩
end

/-! ### calls -/
/-- f(..): the written arguments, then the defaults dvs; E: what is wanted of an exception -/
def tCall (sp : Sp) (dvs : List V) (E : XK) (t : TA) : TE := fun σ H Q => t σ H fun vs H1 => sp (vs ++ dvs) H1 Q E
/-- how the parameters are bound: us the positional arguments, kw the keywords' values by name, ds the defaults that fill up -/
def Binds (K : PySem.W.Frag) (fd : FuncData) (ps : List Str) (ds : List Value) : Prop :=
  ∀ (s : Shared) (us : List Value), K.In s.heap → (us ++ ds).length = ps.length → BindsTo s fd ⟨us, []⟩ (ps.zip (us ++ ds))
/-- every parameter is given -/
theorem Binds.all {K : PySem.W.Frag} {fd : FuncData} {ps : List Str} (h : ∀ us : List Value, us.length = ps.length → bindArgs fd ⟨us, []⟩ = pure (ps.zip us)) : Binds K fd ps [] := fun s us _ hl => by
  rw [List.append_nil] at hl ⊢
  exact .of_eq (h us hl)

/-- an exception of a callee reaches what this body wants of exceptions -/
def Passes (CX : CXT) (X : Cx) (E : XK) : Prop := ∀ (pins : List (Addr × Obj)) (σ : St) (H : Hp) (s : Shared) (e : Value) (s' : Shared), Inv X pins σ H s → CX X.stack H s E e s' → X.xe e s'

section
variable {X : Cx} {CX : CXT} {k : Nat} {f C : Addr} {fd : FuncData} {ps : List Str} {sp : Sp} {dvs : List V} {ds : List Value} {E : XK} {x m : Str} {p pos apos : Pos} {e o : Expr} {es : List Expr} {ta : TE} {t : TA}

/-- the callee runs -/
theorem run_fn {pins : List (Addr × Obj)} {σ : St} {H : Hp} {s : Shared} {Q : VK} {us : List Value} {vs : List V} (F : FnOk X.prog X.w X.K X.mg X.base CX k f fd ps sp) (hr : Room k X.A) (hb : Binds X.K fd ps ds) (hd : Vals dvs ds) (hx : Passes CX X E)
    (I : Inv X pins σ H s) (r : Vals vs us) (h : sp (vs ++ dvs) H Q E) : wpAny (model X.prog X.w) X.A (call (.ref f) us) (EP X pins σ Q) X.xe s := by
  have r2 : Vals (vs ++ dvs) (us ++ ds) := r.append hd
  have hl : (us ++ ds).length = ps.length := by rw [← r2.length]; exact F.len _ _ _ _ h
  refine wpAny_call (codeAny_mono (F.run X.A X.stack s H ⟨us, []⟩ (us ++ ds) (vs ++ dvs) Q E hr I.env0 (hb s us I.kIn hl) r2 h) fun r s' hq => ?_)
  cases r with
  | error e => exact hx pins σ H s e s' I hq
  | ok fl =>
    cases fl with
    | ret u => exact I.after hq
    | next => exact False.elim hq
    | brk => exact False.elim hq
    | cont => exact False.elim hq

theorem pe_call (F : FnOk X.prog X.w X.K X.mg X.base CX k f fd ps sp) (hr : Room k X.A) (hg : Gl X x) (hm : X.mg x = some (.ref f)) (hk : PySem.W.keepIn X.K (.ref f) = true) (hb : Binds X.K fd ps ds) (hd : Vals dvs ds) (hx : Passes CX X E)
    (ha : PA X (e :: es) t) (hdb : (x == ("__debug__" : Str)) = false := by decide) (he : starEach (e :: es) X.env = (false, eval e X.env) :: starEach es X.env := by rfl) (hpl : (backTo pos (starEach es X.env)).any (·.1) = false := by rfl) :
    PE X (.Call (.Name x p) (e :: es) [] pos) (tCall sp dvs E t) := by
  intro pins s σ H Q I h
  refine wpAny_Call_Name_kw (ld_glob I hg hm ?_ hdb)
  refine PySem.W.callWith_K (h₀ := X.base) I.ok.mod.kin hk (thn (ha pos pins s σ H _ I h) fun us s1 ⟨vs, H1, I1, r, q⟩ => ⟨I1.kIn, ?_⟩) he hpl
  exact run_fn F hr hb hd hx I1 r q
end

/-! ### keywords -/
section
variable {X : Cx} {CX : CXT} {k : Nat} {f C : Addr} {fd : FuncData} {ps ks : List Str} {sp : Sp} {E : XK} {x m : Str} {p pos apos kpos : Pos} {e o : Expr} {es : List Expr} {kws : List Keyword} {te ta : TE} {t tk : TA} {nm : Option Str}
variable {g : List Value → List Value → List Value} {gV : List V → List V → List V}
end

/-! ### a def's body keeps its promise -/
/-- names: the parameters first -/
structure FnScope (N P : List Str) (sc : Scope) : Prop where
  kind : sc.kind = .function
  co : sc.isCoroutine = false
  gen : sc.isGenerator = false
  nd : N.Nodup
  pre : N.take P.length = P
  par : ∀ x ∈ P, sc.names.lookup x = some .local ∨ sc.names.lookup x = some .cell
  nofree : ∀ y ∈ sc.names, y.2 ≠ .free

theorem bindL_out {kindOf : Str → Option NameKind} {x : Str} : ∀ {binds : List (Str × Value)} {m : Str → Option Value}, (∀ v, (x, v) ∉ binds) → bindL kindOf binds m x = m x
  | [], _, _ => rfl
  | (n, v) :: r, m, h => by
    unfold bindL
    rw [bindL_out fun w hw => h w (List.mem_cons_of_mem _ hw)]
    split
    · have : x ≠ n := by rintro rfl; exact h v List.mem_cons_self
      simp [this]
    · rfl
theorem bindC_out {kindOf : Str → Option NameKind} {x : Str} : ∀ {binds : List (Str × Value)} {m : Str → Option Value}, (∀ v, (x, v) ∉ binds) → bindC kindOf binds m x = m x
  | [], _, _ => rfl
  | (n, v) :: r, m, h => by
    unfold bindC
    rw [bindC_out fun w hw => h w (List.mem_cons_of_mem _ hw)]
    split
    · rfl
    · have : x ≠ n := by rintro rfl; exact h v List.mem_cons_self
      simp [this]
theorem bindL_get {kindOf : Str → Option NameKind} {x : Str} {v : Value} : ∀ {P : List Str} {vs : List Value} {i : Nat} {m : Str → Option Value}, P.Nodup → P[i]? = some x → vs[i]? = some v → kindOf x = some .local →
    bindL kindOf (P.zip vs) m x = some v
  | [], _, _, _, _, h, _, _ => by simp at h
  | _ :: _, [], _, _, _, _, h, _ => by simp at h
  | p :: P, w :: vs, 0, m, nd, h1, h2, hk => by
    simp at h1 h2; subst h1; subst h2
    show bindL kindOf ((p, w) :: P.zip vs) m p = _
    unfold bindL
    rw [bindL_out fun v hv => (List.nodup_cons.mp nd).1 (List.of_mem_zip hv).1, if_pos hk]
    simp
  | p :: P, w :: vs, i + 1, m, nd, h1, h2, hk => by
    show bindL kindOf ((p, w) :: P.zip vs) m x = _
    unfold bindL
    exact bindL_get (i := i) (List.nodup_cons.mp nd).2 (by simpa using h1) (by simpa using h2) hk
theorem bindC_get {kindOf : Str → Option NameKind} {x : Str} {v : Value} : ∀ {P : List Str} {vs : List Value} {i : Nat} {m : Str → Option Value}, P.Nodup → P[i]? = some x → vs[i]? = some v → kindOf x ≠ some .local →
    bindC kindOf (P.zip vs) m x = some v
  | [], _, _, _, _, h, _, _ => by simp at h
  | _ :: _, [], _, _, _, _, h, _ => by simp at h
  | p :: P, w :: vs, 0, m, nd, h1, h2, hk => by
    simp at h1 h2; subst h1; subst h2
    show bindC kindOf ((p, w) :: P.zip vs) m p = _
    unfold bindC
    rw [bindC_out fun v hv => (List.nodup_cons.mp nd).1 (List.of_mem_zip hv).1, if_neg hk]
    simp
  | p :: P, w :: vs, i + 1, m, nd, h1, h2, hk => by
    show bindC kindOf ((p, w) :: P.zip vs) m x = _
    unfold bindC
    exact bindC_get (i := i) (List.nodup_cons.mp nd).2 (by simpa using h1) (by simpa using h2) hk

/-- the names' values at the entry -/
def start (N : List Str) (vs : List V) : St := vs.map some ++ List.replicate (N.length - vs.length) none

/-- the context of a def's body, at its entry; an exception leaves the frame, then lies as CX says -/
def cxOf (CX : CXT) (P : Program) (w : World) (K : PySem.W.Frag) (mg : Str → Option Value) (base : Heap) (N : List Str) (qual : Str) (scope : Scope) (f : Addr) (cd : Value) (A : Around) (outer : List Env) (s : Shared) (H : Hp) (E : XK) : Cx where
  prog := P
  w := w
  K := K
  mg := mg
  base := base
  A := A.deeper (envOfC qual scope s.heap.objs.size f cd)
  N := N
  s₀ := s
  H₀ := H
  env := envOfC qual scope s.heap.objs.size f cd
  outer := outer
  stack := envOfC qual scope s.heap.objs.size f cd :: outer
  ex := []
  calm := true
  fn := fun _ => true
  pn := []
  xe := fun e s' => wpAny (model P w) (A.deeper (envOfC qual scope s.heap.objs.size f cd)) (leaving (envOfC qual scope s.heap.objs.size f cd) e) (fun _ s'' => CX outer H s E e s'') (fun e' s'' => CX outer H s E e' s'') s'

theorem cell_has {sc : Scope} {n : Nat} {x : Str} (h : sc.names.lookup x = some .cell) : ∃ c, (cellsFrom n sc.names []).lookup x = some c := by
  have q := PySem.W.cellsFrom_some sc.names n [] (.inl h)
  exact Option.isSome_iff_exists.mp q

theorem inv_start {CX : CXT} {P : Program} {w : World} {K : PySem.W.Frag} {mg : Str → Option Value} {base : Heap} {N ps : List Str} {qual : Str} {scope : Scope} {f : Addr} {cd : Value} {A : Around} {outer : List Env} {s s1 : Shared} {H : Hp} {E : XK} {us : List Value} {vs : List V}
    (S : FnScope N ps scope) (hd : A.handled = none) (e0 : Env0 P w K mg base A outer s H) (hl : vs.length = ps.length) (r : Vals vs us)
    (x : InCallC s s.heap.objs.size (bindL (envOfC qual scope s.heap.objs.size f cd).kindOf (ps.zip us) fun _ => none) (cellsFrom (s.heap.objs.size + 1) scope.names []) (bindC (envOfC qual scope s.heap.objs.size f cd).kindOf (ps.zip us) fun _ => none) s1) :
    Inv (cxOf CX P w K mg base N qual scope f cd A outer s H E) [] (start N vs) H s1 := by
  have hpl : ps.length ≤ N.length := by have := congrArg List.length S.pre; rw [List.length_take] at this; omega
  obtain ⟨h1, tk, rfl, hk⟩ := x.done
  have noA : ∀ b : Addr, b ∉ (cxOf CX P w K mg base N qual scope f cd A outer s H E).ex := fun b z => absurd (show b ∈ ([] : List Addr) from z) (by simp)
  refine ⟨⟨e0.mod, S.kind, rfl, rfl, Nat.le_refl _, fun y z c h1 h2 => ?_, fun y hy => ?_, fun y c _ h => ?_, fun _ => hd, Around.frames_deeper e0.frames, .inr ⟨rfl, rfl⟩, fun b z => absurd z (noA b), e0.bs, e0.bsz, fun b _ _ => noA b, fun b z => absurd z (noA b), e0.funs, e0.frf⟩,
    rfl, e0.bare, Un.kept hk, ⟨_, x.toInCall.ns, fun i y v h1 h2 h3 => ?_⟩, fun y c h => ⟨_, x.cell y c h⟩, e0.hok.fresh (Nat.le_refl _), fun y c h => ?_, fun p hp => absurd (show p ∈ ([] : List (Addr × Obj)) from hp) (by simp), e0.hok.kept hk, ?_⟩
  · exact name_of_addr x.apart (PySem.mem_of_lookup h1) (PySem.mem_of_lookup h2)
  · have hy : scope.names.lookup y = some .cell ∨ scope.names.lookup y = some .free := hy
    rcases hy with hy | hy
    · exact cell_has hy
    · exact absurd rfl (S.nofree _ (PySem.mem_of_lookup hy))
  · exact Nat.le_of_lt (x.above y c (PySem.mem_of_lookup h))
  · have hi : i < vs.length := by
      unfold start at h2
      by_cases hi : i < vs.length
      · exact hi
      · rw [List.getElem?_append_right (by simpa using hi)] at h2
        rw [List.getElem?_replicate] at h2
        split at h2 <;> cases h2
    have ha : vs[i]? = some v := by
      unfold start at h2
      rw [List.getElem?_append_left (by simpa using hi), List.getElem?_map] at h2
      cases e : vs[i]? with
      | none => rw [e] at h2; cases h2
      | some a => rw [e] at h2; cases h2; rfl
    obtain ⟨u, hu, rv⟩ := r.get ha
    have hp : ps[i]? = some y := by
      rw [← S.pre, List.getElem?_take_of_lt (by omega)]; exact h1
    have ndP : ps.Nodup := by rw [← S.pre]; exact S.nd.sublist (List.take_sublist _ _)
    refine ⟨u, rv, ?_⟩
    rcases S.par y (List.mem_of_getElem? hp) with k | k
    · exact .inl ⟨k, bindL_get ndP hp hu k⟩
    · obtain ⟨c, e⟩ := cell_has (n := s.heap.objs.size + 1) k
      refine .inr ⟨.inl k, c, e, ?_⟩
      have q := x.cell y c e
      rw [bindC_get ndP hp hu (by show scope.names.lookup y ≠ _; rw [k]; decide)] at q
      exact q
  · exact e0.hok.fresh (Nat.le_of_lt (x.above y c (PySem.mem_of_lookup h)))
  · unfold start
    show _ = N.length
    rw [List.length_append, List.length_map, List.length_replicate]
    omega

/-- THE RULE: a def (or a method) of the text, by its body. The body's reading t is chosen for each entry; it is run at the parameters' values -/
theorem fn_of {CX : CXT} {P : Program} {w : World} {K : PySem.W.Frag} {mg : Str → Option Value} {base : Heap} {k : Nat} {f : Addr} {name qual : Str} {params : Arguments} {body : List Stmt} {scope : Scope} {dV kV doc pm cdv ct oc : Value} {an od : Option Addr}
    {osl : Array (Option Value)} {N ps : List Str} {sp : Sp} (lk : K.lookup f = some ⟨oc, od, .func (PySem.W.fnOf name qual params body scope dV kV doc pm an cdv ct), osl⟩) (hcd : PySem.W.codeIn K cdv qual = true) (S : FnScope N ps scope)
    (len : ∀ vs H Q E, sp vs H Q E → vs.length = ps.length)
    (hbody : ∀ (A : Around) (outer : List Env) (s : Shared) (H : Hp) (vs : List V) (Q : VK) (E : XK), Room k (A.deeper (envOfC qual scope s.heap.objs.size f cdv)) → sp vs H Q E →
      ∃ t, PSs (cxOf CX P w K mg base N qual scope f cdv A outer s H E) body t ∧ t { nx := fun _ H' => Q .non H', rt := Q } (start N vs) H) :
    FnOk P w K mg base CX (k + 1) f (PySem.W.fnOf name qual params body scope dV kV doc pm an cdv ct) ps sp := by
  refine ⟨len, fun A outer s H args us vs Q E hr e0 hb r hsp => ?_⟩
  have hl := len _ _ _ _ hsp
  have KX : K.In s.heap := e0.mod.kin.keeps fun b o e => (e0.bs b o e).1
  have lim : s.heap.NoLimit := e0.mod.nolimit.keeps fun b o e => (e0.bs b o e).1
  have hkind : ∀ y ∈ ps.zip us, scope.names.lookup y.1 = some .local ∨ (scope.names.lookup y.1 = some .cell ∧ ((cellsFrom (s.heap.objs.size + 1) scope.names []).lookup y.1).isSome = true) := fun ⟨n, v⟩ hy => by
    rcases S.par n (List.of_mem_zip hy).1 with q | q
    · exact .inl q
    · exact .inr ⟨q, PySem.W.cellsFrom_some _ _ _ (.inl q)⟩
  refine codeAny_call_function hr.depth (KX _ _ lk) rfl S.co S.gen rfl (PySem.W.codeRec_of KX hcd) (hb _ _ _ _ ?_)
  refine wpAny_newFunctionEnv_cells S.kind hkind fun env he s1 x => ?_
  subst he
  refine ⟨lim.keeps x.toInCall.keep, codeAny_func ?_⟩
  obtain ⟨t, ht, hq⟩ := hbody A outer s H vs Q E (hr.deeper _) hsp
  have I : Inv (cxOf CX P w K mg base N qual scope f cdv A outer s H E) [] (start N vs) H s1 := inv_start S hr.hd e0 hl r x
  refine wpAny_mono (ht [] s1 (start N vs) H _ I hq) (fun fl s' hs => ?_) fun e s' hs => hs
  have fin : ∀ {σ' : St} {H' : Hp} {v : V} {u : Value}, Inv (cxOf CX P w K mg base N qual scope f cdv A outer s H E) [] σ' H' s' → RelV v u → Q v H' → CE outer P w H s Q u s' :=
    fun {σ' H' v u} J rv q => ⟨v, H', J.os, J.bare, J.base, J.hok, rv, q⟩
  cases fl with
  | ret u =>
    obtain ⟨v, σ', H', J, rv, q⟩ := hs
    exact fin J rv q
  | next =>
    obtain ⟨σ', H', J, q⟩ := hs
    exact fin (v := V.non) (u := Value.none) J rfl q
  | brk =>
    obtain ⟨_, _, _, q⟩ := hs
    exact False.elim q
  | cont =>
    obtain ⟨_, _, _, q⟩ := hs
    exact False.elim q
end L2

namespace L2
open PySem PySem.Spec PyProof.Rows
section
variable {X : Cx} {x : Str} {p pos : Pos} {e : Expr} {es : List Expr} {t : TA} {id T : String} {r : List V → Hp → VK → Prop}

def tCB (r : List V → Hp → VK → Prop) (t : TA) : TE := fun σ H Q => t σ H fun vs H1 => r vs H1 Q
/-- f(e, ..), f a built-in function -/
theorem pe_callB (hc : CallR X (.builtin id) r) (hg : Gl X x) (hm : X.mg x = none) (hv : bootBuiltins x = some (.builtin id)) (ha : PA X (e :: es) t) (hn : x ≠ "__name__" := by decide) (hdb : (x == ("__debug__" : Str)) = false := by decide)
    (he : starEach (e :: es) X.env = (false, eval e X.env) :: starEach es X.env := by rfl) (hpl : (backTo pos (starEach es X.env)).any (·.1) = false := by rfl) : PE X (.Call (.Name x p) (e :: es) [] pos) (tCB r t) := by
  intro pins s σ H Q I h
  refine wpAny_Call_Name_kw (ld_blt I hg hm hv ?_ hn hdb)
  exact PyProof.Rows.callWith_builtin1 (thn (ha pos pins s σ H _ I h) fun us s1 ⟨vs, H1, I1, r1, q1⟩ => hc pins s1 σ H1 vs us Q I1 r1 q1) he hpl
/-- T(e, ..), T a built-in type -/
theorem pe_callTy (hc : CallR X (.type T) r) (hg : Gl X x) (hm : X.mg x = none) (hv : bootBuiltins x = some (.type T)) (ha : PA X (e :: es) t) (hn : x ≠ "__name__" := by decide) (hdb : (x == ("__debug__" : Str)) = false := by decide)
    (he : starEach (e :: es) X.env = (false, eval e X.env) :: starEach es X.env := by rfl) (hpl : (backTo pos (starEach es X.env)).any (·.1) = false := by rfl) : PE X (.Call (.Name x p) (e :: es) [] pos) (tCB r t) := by
  intro pins s σ H Q I h
  refine wpAny_Call_Name_kw (ld_blt I hg hm hv ?_ hn hdb)
  exact PyProof.Rows.callWith_type1 (thn (ha pos pins s σ H _ I h) fun us s1 ⟨vs, H1, I1, r1, q1⟩ => hc pins s1 σ H1 vs us Q I1 r1 q1) he hpl
end
end L2

namespace HT
open PySem PyProof.Rows

section
open PySem.SeqAt
open PySem.AutoSeq1 (wpAny_loadPart')
open PySem.MeetsSeq PySem.MeetsSeq2 PySem.MeetsSeq3

end

section
variable {prog : Program} {w : World} {A : Around} {E : Value → Shared → Prop} {s : Shared}

/-! ### t[a:b], not the whole -/
/-- a slice's bound as a place among n (d where it is left out) -/
def sIx (n d : Nat) : Option Int → Nat
  | none => d
  | some v => if v < 0 then (v + (n : Int)).toNat else min v.toNat n
theorem sIx_none (n d : Nat) : sIx n d none = d := rfl
theorem sIx_nat (n d k : Nat) : sIx n d (some (k : Int)) = min k n := by
  show (if (k : Int) < 0 then ((k : Int) + (n : Int)).toNat else min (k : Int).toNat n) = min k n
  rw [if_neg (by omega), Int.toNat_natCast]
end
end HT

namespace L2
open PySem PySem.Spec PyProof.Rows

/-! ### the parts of a slice -/
abbrev TO := St → Hp → (Option Int → Hp → Prop) → Prop
/-- a slice's part (left out, or an int) -/
def PO (X : Cx) (e : Option Expr) (t : TO) : Prop :=
  ∀ (pins : List (Addr × Obj)) (s : Shared) (σ : St) (H : Hp) (Q : Option Int → Hp → Prop), Inv X pins σ H s → t σ H Q →
    wpAny (model X.prog X.w) X.A (evalPart e X.env) (fun u s' => ∃ o H', Inv X pins σ H' s' ∧ IsPart u o ∧ Q o H') X.xe s
def tNoPart : TO := fun _ H Q => Q none H
def tPart (t : TE) : TO := fun σ H Q => t σ H fun x H1 => ∃ i, x = .int i ∧ Q (some i) H1

theorem intsAre_of {ns : List Int} : ∀ {us : List Value}, Vals (ns.map V.int) us → IntsAre us ns := by
  induction ns with
  | nil => intro us r; rw [List.map_nil] at r; cases r; exact .nil
  | cons n ns ih =>
    intro us r
    rw [List.map_cons] at r
    cases r with
    | cons r1 r2 =>
      obtain ⟨t, e⟩ := r1
      subst e
      exact .cons n t (ih r2)

section
variable {X : Cx} {e : Expr} {te : TE} {lo hi : Option Expr} {tl th : TO} {pos p2 : Pos}

theorem po_none : PO X none tNoPart := by
  intro pins s σ H Q I h
  rw [evalPart_none]
  exact wpAny_pure ⟨none, H, I, .none, h⟩
theorem po_some (h : PE X e te) : PO X (some e) (tPart te) := by
  intro pins s σ H Q I hw
  rw [evalPart_some]
  refine thn (h pins s σ H _ I hw) fun u s1 ⟨x, H1, I1, r1, q1⟩ => ?_
  obtain ⟨i, rfl, q⟩ := q1
  obtain ⟨t, rfl⟩ := r1
  exact ⟨some i, H1, I1, .int i t, q⟩

/-- what a slice of a value is, by values: the slice object stands at sl -/
def SlR (X : Cx) (r : V → Option Int → Option Int → Hp → VK → Prop) : Prop :=
  ∀ (pins : List (Addr × Obj)) (s : Shared) (σ : St) (H : Hp) (x : V) (v vl vu : Value) (lo hi : Option Int) (sl : Addr) (Q : VK), Inv X pins σ H s → RelV x v → s.heap.IsSliceOf sl vl vu .none → IsPart vl lo → IsPart vu hi → r x lo hi H Q →
    ∃ T id, typeLookup (.type T) "__getitem__" = pure (some (.builtin id)) ∧ s.TypeIs v T ∧ wpAny (model X.prog X.w) X.A (getItem v (.ref sl)) (EP X pins σ Q) X.xe s
def tSl (r : V → Option Int → Option Int → Hp → VK → Prop) (te : TE) (tl th : TO) : TE := fun σ H Q => te σ H fun x H1 => tl σ H1 fun l H2 => th σ H2 fun u H3 => r x l u H3 Q
/-- a[lo:hi], any a -/
theorem pe_slice {r : V → Option Int → Option Int → Hp → VK → Prop} (hr : SlR X r) (he : PE X e te) (hl : PO X lo tl) (hu : PO X hi th) : PE X (.Subscript e (.Slice lo hi none p2) pos) (tSl r te tl th) := by
  intro pins s σ H Q I h
  refine Subscript_ (thn (he pins s σ H _ I h) fun v s1 ⟨x, H1, I1, r1, q1⟩ => ?_)
  refine wpAny_Slice (thn (hl pins s1 σ H1 _ I1 q1) fun vl s2 ⟨l, H2, I2, pl, q2⟩ => thn (hu pins s2 σ H2 _ I2 q2) fun vu s3 ⟨u, H3, I3, pu, q3⟩ => ?_)
  rw [evalPart_none]
  refine wpAny_pure ?_
  have I4 : Inv X pins σ H3 { s3 with heap := s3.heap.push { cls := .type "slice", data := .fields #[vl, vu, .none] } } := I3.kept (t' := s3.toks) fun b ob q => Heap.get?_push_of_some _ q
  obtain ⟨T, id, hT, ht, hg⟩ := hr pins { s3 with heap := s3.heap.push { cls := .type "slice", data := .fields #[vl, vu, .none] } } σ H3 x v vl vu l u s3.heap.objs.size Q I4 r1 (Heap.IsSliceOf.new ..) pl pu q3
  show wpAny (model X.prog X.w) X.A (subscriptTail e (.Slice lo hi none p2) v (.ref s3.heap.objs.size)) (EP X pins σ Q) X.xe { s3 with heap := s3.heap.push { cls := .type "slice", data := .fields #[vl, vu, .none] } }
  exact tail_any (ops := [.ref s3.heap.objs.size, v]) ht hT hg (by with_unfolding_all rfl)

/-- the items of xs[lo:hi] -/
def cutV (xs : List V) (lo hi : Option Int) : List V := (xs.drop (HT.sIx xs.length 0 lo)).take (HT.sIx xs.length xs.length hi - HT.sIx xs.length 0 lo)
theorem cutV_length (xs : List V) (lo hi : Option Int) : (cutV xs lo hi).length ≤ xs.length := by
  unfold cutV
  rw [List.length_take, List.length_drop]
  omega
/-! ### t < u, t + u -/
end
end L2

namespace L2
open PySem PySem.Spec PyProof.Rows

/-! ### places -/
/-- the place that an index of any sign means -/
def ixN (n : Nat) (i : Int) : Option Nat := if 0 ≤ i then (if i < n then some i.toNat else none) else if -(n : Int) ≤ i then some (i + n).toNat else none
def atI {α : Type} (xs : List α) (i : Int) : Option α := (ixN xs.length i).bind fun j => xs[j]?
theorem ixN_seq {n : Nat} {i : Int} {j : Nat} (h : ixN n i = some j) : seqIndex? i n = some j ∧ j < n ∧ -(n : Int) ≤ i ∧ i < n := by
  unfold ixN at h
  by_cases h0 : 0 ≤ i
  · rw [if_pos h0] at h
    by_cases h1 : i < n
    · rw [if_pos h1] at h
      have e : i.toNat = j := Option.some.inj h
      exact ⟨by rw [seqIndex_of h0 h1, e], by omega, by omega, h1⟩
    · rw [if_neg h1] at h; cases h
  · rw [if_neg h0] at h
    by_cases h1 : -(n : Int) ≤ i
    · rw [if_pos h1] at h
      have e : (i + n).toNat = j := Option.some.inj h
      exact ⟨by rw [seqIndex_neg (by omega) h1, e], by omega, h1, by omega⟩
    · rw [if_neg h1] at h; cases h
theorem atI_get {α : Type} {xs : List α} {i : Int} {v : α} (h : atI xs i = some v) : ∃ j, seqIndex? i xs.length = some j ∧ xs[j]? = some v ∧ j < xs.length ∧ -(xs.length : Int) ≤ i ∧ i < xs.length := by
  unfold atI at h
  cases e : ixN xs.length i with
  | none => rw [e] at h; cases h
  | some j =>
    rw [e] at h
    obtain ⟨h1, h2, h3, h4⟩ := ixN_seq e
    exact ⟨j, h1, h, h2, h3, h4⟩
theorem atI_nat {α : Type} {xs : List α} {j : Nat} {v : α} (h : xs[j]? = some v) : atI xs (j : Int) = some v := by
  have hj : j < xs.length := (List.getElem?_eq_some_iff.mp h).1
  have e : ixN xs.length (j : Int) = some j := by
    unfold ixN
    rw [if_pos (by omega), if_pos (by omega)]; simp
  unfold atI; rw [e]; exact h
/-! ### what may be subscripted -/
/-- what stands as an index of a plain subscript -/
def PlainIx (b : Expr) : Prop := ∀ o i, subscripted b false o i = operate [o, i] (getItem o i)
/-- a subscript by values -/
def IxR (X : Cx) (r : R2) : Prop :=
  ∀ (value slice : Expr) (pins : List (Addr × Obj)) (s : Shared) (σ : St) (H : Hp) (x y : V) (v u : Value) (Q : VK), Inv X pins σ H s → RelV x v → RelV y u → r x y H Q →
    subscripted slice false v u = operate [v, u] (getItem v u) → wpAny (model X.prog X.w) X.A (subscriptTail value slice v u) (EP X pins σ Q) X.xe s
/-- a call of a builtin's method by values: the receiver, the arguments -/
def MtR (X : Cx) (id : String) (r : V → List V → Hp → VK → Prop) : Prop :=
  ∀ (pins : List (Addr × Obj)) (s : Shared) (σ : St) (H : Hp) (x : V) (xs : List V) (v : Value) (us : List Value) (Q : VK), Inv X pins σ H s → RelV x v → Vals xs us → r x xs H Q →
    wpAny (model X.prog X.w) X.A (call (.builtin id) (v :: us)) (EP X pins σ Q) X.xe s
section
variable {X : Cx} {a b : Expr} {ta tb : TE} {pos : Pos}
/-- a[b] -/
theorem pe_ix {r : R2} (hr : IxR X r) (ha : PE X a ta) (hb : PE X b tb) (hs : PlainIx b) : PE X (.Subscript a b pos) (tOp r ta tb) := by
  intro pins s σ H Q I h
  exact Subscript_ (binT ha hb I h fun v u s2 x y H2 I2 rx ry q => hr a b pins s2 σ H2 x y v u Q I2 rx ry q (hs _ _))

def rIxL (K : PySem.W.Frag) : R2 := fun x y H Q => ∃ p xs i v, x = .ref p ∧ y = .int i ∧ SqL K H p xs ∧ atI xs i = some v ∧ Q v H
def rIxT (K : PySem.W.Frag) : R2 := fun x y H Q => ∃ p xs i v, x = .ref p ∧ y = .int i ∧ SqT K H p xs ∧ atI xs i = some v ∧ Q v H
theorem ix_list : IxR X (rIxL X.K) := by
  intro value slice pins s σ H x y v u Q I rx ry h hs
  obtain ⟨p, xs, i, z, rfl, rfl, hq, he, q⟩ := h
  cases rx
  obtain ⟨t, rfl⟩ := ry
  obtain ⟨its, r, pl, hz⟩ := I.list hq
  obtain ⟨j, h1, h2, h3, h4, h5⟩ := atI_get he
  obtain ⟨w, ew, rw'⟩ := r.get h2
  have hl := r.length
  have hn := line63
  have fin : EP X pins σ Q w s := ⟨z, H, I, rw', q⟩
  by_cases h0 : 0 ≤ i
  · have hj : i.toNat = j := by
      rw [seqIndex_of h0 h5] at h1
      exact Option.some.inj h1
    exact item_listR pl.isList h0 (by omega) (by rw [hj]; simpa using ew) fin hs
  · have hj : (i + (its.toArray.size : Int)).toNat = j := by
      rw [seqIndex_neg (by omega) h4] at h1
      rw [List.size_toArray, ← hl]
      exact Option.some.inj h1
    exact subscriptTail_builtinR (x := w) pl.isList.typeIs slot_list_getitem.lookup
      (wpAny_getItem_list_neg (Q := fun r s' => r = w ∧ EP X pins σ Q r s') pl.isList (by omega) (by rw [List.size_toArray] <;> omega) (by omega) (by rw [hj]; simpa using ew) ⟨rfl, fin⟩) hs
theorem ix_tup : IxR X (rIxT X.K) := by
  intro value slice pins s σ H x y v u Q I rx ry h hs
  obtain ⟨p, xs, i, z, rfl, rfl, hq, he, q⟩ := h
  cases rx
  obtain ⟨t, rfl⟩ := ry
  obtain ⟨its, r, pl, hz⟩ := I.tuple hq
  obtain ⟨j, h1, h2, h3, h4, h5⟩ := atI_get he
  obtain ⟨w, ew, rw'⟩ := r.get h2
  have hl := r.length
  have hn := line63
  have fin : EP X pins σ Q w s := ⟨z, H, I, rw', q⟩
  exact subscriptTail_builtinR (x := w) pl.typeIs slot_tuple_getitem.lookup
    (getItem_tuple (j := j) (Q := fun r s' => r = w ∧ EP X pins σ Q r s') pl (by omega) (by omega) (by rw [List.size_toArray, ← hl]; exact h1) (by simpa using ew) ⟨rfl, fin⟩) hs
/-! ### xs[i] = v, any sign -/
/-- the list's object behind a store -/
theorem mapSeq_set (its : List Value) (n j : Nat) (u : Value) : Obj.mapSeq (·.setIfInBounds j u) { cls := .type "list", data := .seq its.toArray n } = { cls := .type "list", data := .seq (its.set j u).toArray n } := by
  simp [Obj.mapSeq]
theorem Inv.lst {pins : List (Addr × Obj)} {σ : St} {H : Hp} {s : Shared} {p : Addr} {xs : List V} (I : Inv X pins σ H s) (h : H p = some (.lst xs)) :
    ∃ (its : List Value) (n : Nat), Vals xs its ∧ s.heap.get? p = some { cls := .type "list", data := .seq its.toArray n } ∧ xs.length ≤ sizeLine := by
  obtain ⟨z, its, n, r, e⟩ := I.hok p _ h
  exact ⟨its, n, r, e, z⟩
/-- the list at p is written by an update of its object -/
theorem Inv.lstUpd {pins : List (Addr × Obj)} {σ : St} {H : Hp} {s : Shared} {p : Addr} {xs ys : List V} {its its' : List Value} {n n' : Nat} {f : Obj → Obj} (I : Inv X pins σ H s) (h : H p = some (.lst xs))
    (ho : s.heap.get? p = some { cls := .type "list", data := .seq its.toArray n }) (hf : f { cls := .type "list", data := .seq its.toArray n } = { cls := .type "list", data := .seq its'.toArray n' }) (r : Vals ys its') (hz : ys.length ≤ sizeLine) (t : Nat) :
    Inv X pins σ (upd H p (.lst ys)) { s with heap := s.heap.update p f, toks := t } := by
  have e : (s.heap.update p f).get? p = some { cls := .type "list", data := .seq its'.toArray n' } := by
    rw [Heap.get?_update_self f ho (by rw [hf] <;> rfl), hf]
  refine I.write (x := p) (e := p) (by rw [h]; trivial) (.inl rfl) (fun b u hb q => (Heap.get?_update_other _ _ (Ne.symm hb)).trans q) ⟨_, e⟩ ?_
  exact ⟨hz, its', n', r, e⟩
def rSetL : V → V → V → Hp → (Hp → Prop) → Prop := fun o i v H Q => ∃ p xs k j, o = .ref p ∧ i = .int k ∧ H p = some (.lst xs) ∧ ixN xs.length k = some j ∧ Q (upd H p (.lst (xs.set j v)))
theorem set_list : PSet X rSetL := by
  intro pins s σ H o i v ov iv u Q I ro ri rv h
  obtain ⟨p, xs, k, j, rfl, rfl, hp, hj, q⟩ := h
  cases ro
  obtain ⟨t, rfl⟩ := ri
  obtain ⟨its, n, r, ho, hz⟩ := I.lst hp
  obtain ⟨h1, h2, h3, h4⟩ := ixN_seq hj
  have hl := r.length
  have hn := line63
  have I' : Inv X pins σ (upd H p (.lst (xs.set j v))) { s with heap := s.heap.update p (Obj.mapSeq (·.setIfInBounds j u)) } :=
    I.lstUpd hp ho (mapSeq_set its n j u) (r.set rv j) (by rw [List.length_set]; exact hz) s.toks
  by_cases h0 : 0 ≤ k
  · have hk : k.toNat = j := by
      rw [seqIndex_of h0 h4] at h1
      exact Option.some.inj h1
    exact PySem.W.ki_setAt ho h0 (by omega) (by rw [List.size_toArray, ← hl]; exact h4) (by rw [hk]; exact ⟨_, I', q⟩)
  · have hk : (k + (its.toArray.size : Int)).toNat = j := by
      rw [seqIndex_neg (by omega) h3] at h1
      rw [List.size_toArray, ← hl]
      exact Option.some.inj h1
    exact PySem.W.ki_setBack ho (by omega) (by rw [List.size_toArray, ← hl]; exact h3) (by omega) (by rw [hk]; exact ⟨_, I', q⟩)

/-! ### slices -/
theorem slice_bounds (lo hi : Option Int) (n : Nat) : (sliceBounds lo hi none n).1 = ((HT.sIx n 0 lo : Nat) : Int) ∧ (sliceBounds lo hi none n).2.1 = ((HT.sIx n n hi : Nat) : Int) ∧ (sliceBounds lo hi none n).2.2 = 1 := by
  refine ⟨?_, ?_, rfl⟩
  · cases lo with
    | none => simp [sliceBounds, HT.sIx]
    | some i =>
      simp only [sliceBounds, HT.sIx, Option.getD_none, show (1 : Int) > 0 by decide, if_true]
      by_cases h : i < 0
      · simp only [h, if_true] <;> omega
      · simp only [h, if_false] <;> omega
  · cases hi with
    | none => simp [sliceBounds, HT.sIx]
    | some i =>
      simp only [sliceBounds, HT.sIx, Option.getD_none, show (1 : Int) > 0 by decide, if_true]
      by_cases h : i < 0
      · simp only [h, if_true] <;> omega
      · simp only [h, if_false] <;> omega
theorem slicePick_cut (its : List Value) (lo hi : Option Int) : slicePick its.toArray lo hi none = ((its.drop (HT.sIx its.length 0 lo)).take (HT.sIx its.length its.length hi - HT.sIx its.length 0 lo)).toArray := by
  obtain ⟨h1, h2, h3⟩ := slice_bounds lo hi its.toArray.size
  unfold slicePick
  rw [h1, h2, h3]
  simp only [sliceRange_one, pick_run, List.size_toArray] <;> rfl
/-- xs[lo:hi] of a list: a new list -/
def rSlL (K : PySem.W.Frag) : V → Option Int → Option Int → Hp → VK → Prop := fun x lo hi H Q => ∃ a xs, x = .ref a ∧ SqL K H a xs ∧ ∀ p, H p = none → Q (.ref p) (upd H p (.lst (cutV xs lo hi)))
theorem sl_list : SlR X (rSlL X.K) := by
  intro pins s σ H x v vl vu lo hi sl Q I rx hs pl pu h
  obtain ⟨a, xs, rfl, hx, q⟩ := h
  cases rx
  obtain ⟨its, r, ht, hz⟩ := I.list hx
  have hlen := r.length
  refine ⟨"list", _, slot_list_getitem.lookup, ht.isList.typeIs, ?_⟩
  refine wpAny_getItem_list_slice ht.isList hs pl pu .none (by simp) ?_ (by rw [List.size_toArray] <;> omega)
  rw [slicePick_cut, ← hlen]
  refine ⟨.ref s.heap.objs.size, _, I.laid (t' := s.toks) (o := .lst (cutV xs lo hi)) (fun b ob q => Heap.get?_push_of_some _ q) (Nat.le_refl _) ?_, rfl, q _ (I.hok.fresh (Nat.le_refl _))⟩
  exact ⟨Nat.le_trans (cutV_length xs lo hi) hz, _, 0, (r.drop (HT.sIx xs.length 0 lo)).take (HT.sIx xs.length xs.length hi - HT.sIx xs.length 0 lo), Heap.get?_push_size _ rfl⟩

/-! ### in, not in: flat items -/
/-! ### len, list(x), tuple(x) of any list or tuple that is read -/
theorem call_len_seq : CallR X (.builtin "len") (fun xs H Q => ∃ p ys, xs = [.ref p] ∧ (SqL X.K H p ys ∨ SqT X.K H p ys) ∧ Q (.int ys.length) H) := by
  intro pins s σ H xs us Q I r h
  obtain ⟨p, ys, rfl, hq, q⟩ := h
  obtain ⟨u, rfl, rx⟩ := vals1 r
  cases rx
  have hn := line63
  rcases hq with hq | hq
  · obtain ⟨its, r', pl, hz⟩ := I.list hq
    have hlen := r'.length
    exact Calls.call_len_list pl.isList (by simp only [List.size_toArray] <;> omega) ⟨.int ys.length, H, I.tok _, ⟨s.toks + 1, by rw [List.size_toArray, hlen]⟩, q⟩
  · obtain ⟨its, r', pl, hz⟩ := I.tuple hq
    have hlen := r'.length
    exact len_tuple pl (by simp only [List.size_toArray] <;> omega) ⟨.int ys.length, H, I.tok _, ⟨s.toks + 1, by rw [List.size_toArray, hlen]⟩, q⟩
theorem call_tuple_of : CallR X (.type "tuple") (fun xs H Q => ∃ p ys, xs = [.ref p] ∧ ((SqL X.K H p ys ∧ ∀ l, H l = none → Q (.ref l) (upd H l (.tup ys))) ∨ (SqT X.K H p ys ∧ Q (.ref p) H))) := by
  intro pins s σ H xs us Q I r h
  obtain ⟨p, ys, rfl, h⟩ := h
  obtain ⟨u, rfl, rx⟩ := vals1 r
  cases rx
  rcases h with ⟨hq, q⟩ | ⟨hq, q⟩
  · obtain ⟨its, r', pl, hz⟩ := I.list hq
    have hlen := r'.length
    refine call_tuple_list pl.isList (fun h' kp => ?_) (by simp only [List.size_toArray] <;> omega)
    have I1 : Inv X pins σ H { s with heap := h' } := I.kept (t' := s.toks) kp
    have I2 : Inv X pins σ (upd H h'.objs.size (.tup ys)) { s with heap := h'.push { cls := .type "tuple", data := .seq its.toArray } } :=
      I1.laid (t' := s.toks) (fun b o e => Heap.get?_push_of_some _ e) (Nat.le_refl _) (show ObjOk X.prog X.w _ _ _ (.tup ys) from ⟨hz, its, r', IsTup.new _ _⟩)
    exact ⟨.ref h'.objs.size, _, I2, rfl, q _ (I1.hok.fresh (Nat.le_refl _))⟩
  · obtain ⟨its, r', pl, hz⟩ := I.tuple hq
    exact call_tuple_same pl ⟨.ref p, H, I, rfl, q⟩

/-! ### the call of a builtin's method: o.m(..) -/
/-- the value is of that builtin type -/
def tyV (K : PySem.W.Frag) (T : String) (x : V) (H : Hp) : Prop := match x with
  | .str _ => T = "str"
  | .int _ => T = "int"
  | .ref p => (T = "list" ∧ ∃ xs, SqL K H p xs) ∨ (T = "tuple" ∧ ∃ o, K.lookup p = some o ∧ o.cls = .type "tuple" ∧ o.dict = none) ∨
      (T = "dict" ∧ ((∃ kvs, H p = some (.dK kvs)) ∨ ∃ kvs, H p = some (.dT kvs))) ∨ (T = "set" ∧ ∃ S n, H p = some (.set S n))
  | _ => False
theorem tyV_is {pins : List (Addr × Obj)} {σ : St} {H : Hp} {s : Shared} {T : String} {x : V} {v : Value} (I : Inv X pins σ H s) (r : RelV x v) (ty : tyV X.K T x H) :
    s.TypeIs v T ∧ ∀ a, v = .ref a → ∃ ob, s.heap.get? a = some ob ∧ ob.dict = none := by
  cases x with
  | str z =>
    obtain ⟨t, rfl⟩ := r
    cases (show T = "str" from ty)
    exact ⟨typeIs_str s z t, fun _ e => nomatch e⟩
  | int i =>
    obtain ⟨t, rfl⟩ := r
    cases (show T = "int" from ty)
    exact ⟨typeIs_int s i t, fun _ e => nomatch e⟩
  | ref p =>
    cases r
    rcases ty with ⟨rfl, xs, hq⟩ | ⟨rfl, o, hk, hc, hd⟩ | ⟨rfl, hk⟩ | ⟨rfl, S, n, hk⟩
    · obtain ⟨its, _, pl, _⟩ := I.list hq
      refine ⟨pl.isList.typeIs, fun a e => ?_⟩
      cases e
      obtain ⟨o, n, e, c, hd, _⟩ := pl
      exact ⟨o, e, hd⟩
    · refine ⟨⟨o, I.kIn p o hk, hc⟩, fun a e => ?_⟩
      cases e
      exact ⟨o, I.kIn _ o hk, hd⟩
    · have z : ∃ o, s.heap.get? p = some o ∧ o.ExactDict := by
        rcases hk with ⟨kvs, hk⟩ | ⟨kvs, hk⟩
        · obtain ⟨_, _, _, _, o, _, _, e, ex, _⟩ := I.hok p _ hk
          exact ⟨o, e, ex⟩
        · obtain ⟨_, _, _, _, o, _, _, e, ex, _⟩ := I.hok p _ hk
          exact ⟨o, e, ex⟩
      obtain ⟨o, e, ex⟩ := z
      refine ⟨⟨o, e, ex.1⟩, fun a e2 => ?_⟩
      cases e2
      exact ⟨o, e, ex.2.1⟩
    · obtain ⟨o, _, _, _, e, ex, _⟩ := I.hok p _ hk
      refine ⟨⟨o, e, ex.1⟩, fun a e2 => ?_⟩
      cases e2
      exact ⟨o, e, ex.2.1⟩
  | _ => exact False.elim ty
def tBM0 (K : PySem.W.Frag) (T : String) (r : V → List V → Hp → VK → Prop) (to : TE) : TE := fun σ H Q => to σ H fun x H1 => tyV K T x H1 ∧ r x [] H1 Q
def tBM (K : PySem.W.Frag) (T : String) (r : V → List V → Hp → VK → Prop) (to : TE) (t : TA) : TE := fun σ H Q => to σ H fun x H1 => tyV K T x H1 ∧ t σ H1 fun xs H2 => r x xs H2 Q
variable {o e : Expr} {es : List Expr} {to : TE} {t : TA} {name : Str} {apos cpos : Pos} {T id : String} {r : V → List V → Hp → VK → Prop}
theorem pe_bm0 (pa : PlainAttrs T) (slot : Slot T name id) (hty : typeOf (.builtin id) = pure (.type "method_descriptor")) (hm : MtR X id r) (ho : PE X o to)
    (hbase : attributeBase o name X.env (eval o X.env) = eval o X.env := by rfl) (hline : (apos.endLine == cpos.line) = true := by rfl) : PE X (.Call (.Attribute o name apos) [] [] cpos) (tBM0 X.K T r to) := by
  intro pins s σ H Q I h
  refine wpAny_Call_method0_late hbase hline (thn (ho pins s σ H _ I h) fun v s1 ⟨x, H1, I1, r1, ty, q1⟩ => ?_)
  obtain ⟨h1, h2⟩ := tyV_is I1 r1 ty
  exact ⟨T, id, pa, slot, hty, h1, h2, Calls.callWith_builtin rfl (PySem.evalArgs_none (hm pins s1 σ H1 x [] v [] Q I1 r1 .nil q1))⟩
theorem pe_bm (pa : PlainAttrs T) (slot : Slot T name id) (hty : typeOf (.builtin id) = pure (.type "method_descriptor")) (hm : MtR X id r) (ho : PE X o to) (ha : PA X (e :: es) t)
    (hbase : attributeBase o name X.env (eval o X.env) = eval o X.env := by rfl)
    (hfew : ((backTo cpos (starEach (e :: es) X.env)).all (fun x => !x.1) && (backToKw cpos (keywordEach [] X.env)).all (fun x => x.1.isSome)
      && decide ((e :: es).length + ([] : List Keyword).length + (if ([] : List Keyword).isEmpty then 0 else 1) < 30)) = true := by rfl)
    (hline : (apos.endLine == cpos.line) = true := by rfl) (hs : starEach (e :: es) X.env = (false, eval e X.env) :: starEach es X.env := by rfl) (hplain : (backTo cpos (starEach es X.env)).any (·.1) = false := by rfl) :
    PE X (.Call (.Attribute o name apos) (e :: es) [] cpos) (tBM X.K T r to t) := by
  intro pins s σ H Q I h
  refine wpAny_Call_method_late hbase hfew hline rfl (thn (ho pins s σ H _ I h) fun v s1 ⟨x, H1, I1, r1, ty, q1⟩ => ?_)
  obtain ⟨h1, h2⟩ := tyV_is I1 r1 ty
  refine ⟨T, id, pa, slot, hty, h1, h2, ?_⟩
  have hA := ha cpos pins s1 σ H1 _ I1 q1
  rw [hs] at hA ⊢
  refine Calls.callWith_builtin (by show (false || (backTo cpos (starEach es X.env)).any (·.1)) = false; rw [hplain] <;> rfl) (Calls.evalArgs_plain ?_)
  exact thn hA fun us s2 ⟨vs, H2, I2, r2, q2⟩ => hm pins s2 σ H2 x vs v us Q I2 r1 r2 q2
/- xs.append(e), list.index on a module's tuple .. are MtR facts of 06m -/
end
end L2

namespace L2
open PySem PySem.Spec PyProof.Rows

def MtM (X : Cx) (id : String) (r : V → List V → Hp → VK → Prop) : Prop :=
  ∀ (pins : List (Addr × Obj)) (s : Shared) (σ : St) (H : Hp) (x : V) (xs : List V) (v : Value) (us : List Value) (Q : VK), Inv X pins σ H s → RelV x v → Vals xs us → r x xs H Q →
    wpAny (model X.prog X.w) X.A (call (.builtin id) (v :: us)) (EP X pins σ Q) X.xe s

/-! ### lists of values -/
theorem Vals.one : ∀ {x : V} {us : List Value}, Vals [x] us → ∃ u, us = [u] ∧ RelV x u
  | _, _, .cons r .nil => ⟨_, rfl, r⟩
theorem Vals.zero : ∀ {us : List Value}, Vals [] us → us = []
  | _, .nil => rfl
theorem Vals.reverse {xs : List V} {us : List Value} (h : Vals xs us) : Vals xs.reverse us.reverse := by
  induction h with
  | nil => exact .nil
  | cons r t ih => rw [List.reverse_cons, List.reverse_cons]; exact Vals.append ih (.cons r .nil)
theorem Vals.rep {xs : List V} {us : List Value} (h : Vals xs us) : ∀ k : Nat, Vals (List.replicate k xs).flatten (List.replicate k us).flatten
  | 0 => .nil
  | k + 1 => by
    rw [List.replicate_succ, List.replicate_succ, List.flatten_cons, List.flatten_cons]
    exact Vals.append h (Vals.rep h k)
theorem foldl_rep (its : List Value) : ∀ (k : Nat) (acc : List Value),
    List.foldl (fun x1 x2 => x1 ++ x2) acc.toArray (List.replicate k its.toArray) = (acc ++ (List.replicate k its).flatten).toArray
  | 0, acc => by simp
  | k + 1, acc => by
    have e : acc.toArray ++ its.toArray = (acc ++ its).toArray := by simp
    have e2 : (acc ++ its) ++ (List.replicate k its).flatten = acc ++ (List.replicate (k + 1) its).flatten := by
      rw [List.replicate_succ, List.flatten_cons, List.append_assoc]
    rw [← e2, ← foldl_rep its k (acc ++ its), ← e, List.replicate_succ, List.foldl_cons]

section
variable {X : Cx} {pins : List (Addr × Obj)} {σ : St} {H : Hp} {s : Shared} {l b : Addr} {xs ys zs : List V}

/-! ### the two steps: a tracked list is rewritten, a new list is laid -/
theorem Inv.lset {its its' : List Value} {n : Nat} {f : Array Value → Array Value} {t' : Nat} (I : Inv X pins σ H s) (hH : H l = some (.lst xs))
    (e : s.heap.get? l = some { cls := .type "list", data := .seq its.toArray n }) (hf : f its.toArray = its'.toArray) (hv : Vals ys its') (hz : ys.length ≤ sizeLine) :
    Inv X pins σ (upd H l (.lst ys)) { s with heap := s.heap.update l (Obj.mapSeq f), toks := t' } := by
  have q := PySem.IsL.update e f
  rw [hf] at q
  refine I.write (x := l) (e := l) (by rw [hH]; exact trivial) (.inl rfl) (fun b' u hb hu => (Heap.get?_update_other s.heap (Obj.mapSeq f) (Ne.symm hb)).trans hu) ⟨_, q⟩ ?_
  exact ⟨hz, its', _, hv, q⟩
theorem Inv.lnew {its : List Value} {t' : Nat} (I : Inv X pins σ H s) (hv : Vals ys its) (hz : ys.length ≤ sizeLine) :
    Inv X pins σ (upd H s.heap.objs.size (.lst ys)) { s with heap := s.heap.push { cls := .type "list", data := .seq its.toArray }, toks := t' } :=
  I.laid (fun _ _ q => Heap.get?_push_of_some _ q) (Nat.le_refl _) ⟨hz, its, 0, hv, Heap.get?_push_size _ rfl⟩
theorem Inv.fresh (I : Inv X pins σ H s) : H s.heap.objs.size = none := I.hok.fresh (Nat.le_refl _)
theorem Inv.lstM (I : Inv X pins σ H s) (hH : H l = some (.lst xs)) : xs.length ≤ sizeLine ∧ ∃ (its : List Value) (n : Nat), Vals xs its ∧ xs.length = its.length ∧ s.heap.get? l = some { cls := .type "list", data := .seq its.toArray n } := by
  obtain ⟨z, its, n, r, e⟩ := I.hok l _ hH
  exact ⟨z, its, n, r, r.length, e⟩

theorem notLongL {n : Nat} (h : n ≤ sizeLine) : Builtin.List.listTooLong n = false := by
  unfold Builtin.List.listTooLong
  exact decide_eq_false (by omega)
end

section
variable {X : Cx}

/-! ### methods -/
def rAppend : V → List V → Hp → VK → Prop := fun x vs H Q => ∃ l xs y, x = .ref l ∧ vs = [y] ∧ H l = some (.lst xs) ∧ xs.length < sizeLine ∧ Q .non (upd H l (.lst (xs ++ [y])))
theorem mt_append : MtM X "list.append" rAppend := by
  intro pins s σ H x vs v us Q I rx rv h
  obtain ⟨l, xs, y, rfl, rfl, hH, hz, q⟩ := h
  cases rx
  obtain ⟨u, rfl, ru⟩ := rv.one
  obtain ⟨z, its, n, r, hl, e⟩ := I.lstM hH
  refine call_meets F.slot_list_append ⟨_, e, rfl⟩ F.entry_list_append (F.args_list_append_2 _ _) (PySem.list_append l its.toArray n u (by rw [List.size_toArray]; omega)) ⟨e, ?_⟩
  refine ⟨.non, _, I.lset (its' := its ++ [u]) hH e (by simp) (r.append (.cons ru .nil)) ?_, rfl, q⟩
  rw [List.length_append, List.length_singleton]
  omega

def rReverse : V → List V → Hp → VK → Prop := fun x vs H Q => ∃ l xs, x = .ref l ∧ vs = [] ∧ H l = some (.lst xs) ∧ Q .non (upd H l (.lst xs.reverse))
theorem mt_reverse : MtM X "list.reverse" rReverse := by
  intro pins s σ H x vs v us Q I rx rv h
  obtain ⟨l, xs, rfl, rfl, hH, q⟩ := h
  cases rx
  have hus := rv.zero
  subst hus
  obtain ⟨z, its, n, r, hl, e⟩ := I.lstM hH
  refine call_meets F.slot_list_reverse ⟨_, e, rfl⟩ F.entry_list_reverse (F.args_list_reverse_1 _) (AutoSeq1.list_reverse_list_0 l its.toArray n (by rw [List.size_toArray]; omega)) ⟨e, ?_⟩
  refine ⟨.non, _, I.lset (its' := its.reverse) hH e (by simp) r.reverse ?_, rfl, q⟩
  rw [List.length_reverse]
  omega

/-! ### list + list, list += list, list * int -/
def rCat : R2 := fun x y H Q => ∃ l b xs zs, x = .ref l ∧ y = .ref b ∧ H l = some (.lst xs) ∧ H b = some (.lst zs) ∧ xs.length + zs.length ≤ sizeLine ∧ ∀ p, H p = none → Q (.ref p) (upd H p (.lst (xs ++ zs)))
theorem op_cat : OpR X (binaryOp .Add) rCat := by
  intro pins s σ H x y v u Q I rx ry h
  obtain ⟨l, b, xs, zs, rfl, rfl, hH, hB, hz, q⟩ := h
  cases rx
  cases ry
  obtain ⟨z, its, n, r, hl, e⟩ := I.lstM hH
  obtain ⟨z2, its2, n2, r2, hl2, e2⟩ := I.lstM hB
  refine PySem.P.add_list e e2 ?_ (by rw [List.size_toArray, List.size_toArray]; omega)
  have ea : its.toArray ++ its2.toArray = (its ++ its2).toArray := by simp
  rw [ea]
  exact ⟨.ref _, _, I.lnew (t' := s.toks) (r.append r2) (by rw [List.length_append]; omega), rfl, q _ I.fresh⟩
/-- a list times an int (a negative one is nothing) -/
def rRep : R2 := fun x y H Q => ∃ l k xs, x = .ref l ∧ y = .int k ∧ H l = some (.lst xs) ∧ -(2 ^ 63) ≤ k ∧ k < 2 ^ 63 ∧ xs.length * k.toNat ≤ sizeLine ∧
  ∀ p, H p = none → Q (.ref p) (upd H p (.lst (List.replicate k.toNat xs).flatten))
theorem len_rep {α : Type} (xs : List α) (k : Nat) : (List.replicate k xs).flatten.length = k * xs.length := by
  induction k with
  | zero => simp
  | succ k ih => rw [List.replicate_succ, List.flatten_cons, List.length_append, ih, Nat.succ_mul, Nat.add_comm]
theorem op_rep : OpR X (binaryOp .Mult) rRep := by
  intro pins s σ H x y v u Q I rx ry h
  obtain ⟨l, k, xs, rfl, rfl, hH, h1, h2, hz, q⟩ := h
  cases rx
  obtain ⟨t, rfl⟩ := ry
  obtain ⟨z, its, n, r, hl, e⟩ := I.lstM hH
  have hlen : its.toArray.size * k.toNat ≤ sizeLine := by rw [List.size_toArray, ← hl]; exact hz
  have hcap : ¬ its.toArray.size * k.toNat > (2 ^ 63 - 1) / 8 := by
    have : (sizeLine : Nat) ≤ (2 ^ 63 - 1) / 8 := by decide
    omega
  have hfit : ¬ (!Builtin.List.listFitsIndex k) = true := by
    rw [fitsIndex_both h1 h2]
    exact Bool.false_ne_true
  have hlong : ¬ Builtin.List.listTooLong (its.toArray.size * k.toNat) = true := by
    rw [notLongL hlen]
    exact Bool.false_ne_true
  have hnew : List.foldl (fun x1 x2 => x1 ++ x2) #[] (List.replicate (if its.toArray.isEmpty = true then 0 else k.toNat) its.toArray) = (List.replicate k.toNat its).flatten.toArray := by
    have f0 : ∀ m : Nat, List.foldl (fun x1 x2 => x1 ++ x2) #[] (List.replicate m its.toArray) = (List.replicate m its).flatten.toArray := fun m => by
      have := foldl_rep its m []
      rw [List.nil_append] at this
      exact this
    rw [f0]
    cases its with
    | nil => simp
    | cons a r' => rw [if_neg (by simp)]
  refine wpAny_binaryOp_repeat_ref (T := "list") (U := "int") (by decide) ⟨_, e, rfl⟩ (fun s' => typeIs_int s' k t) noFill_list_mul F.fills_int_mul F.slot_int_rmul repeat_list F.slot_int_index.lookup
    (call_meets F.slot_int_rmul (typeIs_int s k t) F.entry_int_rmul (F.args_int_rmul_2 _ _) (int___rmul___int_list k t l its.toArray n)
      ⟨e, rfl, ⟨_, e, rfl⟩, call_meets F.slot_list_mul ⟨_, e, rfl⟩ F.entry_list_mul (F.args_list_mul_2 _ _) (AutoListH.list___mul___list_int_3 l its.toArray n k t hfit hcap hlong) ⟨e, ?_⟩⟩)
  rw [hnew]
  exact ⟨.ref _, _, I.lnew (t' := s.toks) (r.rep k.toNat) (by rw [len_rep, Nat.mul_comm]; exact hz), rfl, q _ I.fresh⟩

/-! ### del xs[i] -/
end

/-! ### xs[a:b] = ys -/
section
variable {prog : Program} {w : World} {A : Around} {E : Value → Shared → Prop} {s : Shared}
set_option maxRecDepth 100000 in
end

section
variable {X : Cx}
end
end L2

namespace Att
open PySem PySem.W PySem.Calls PyProof.Rows

/-! ### the script -/
theorem ints_of_wellAll {P : Params} {h : Heap} : ∀ (ns : List Int) (vs : List Value), WellAll P h vs (ns.map WData.int) → IntsAre vs ns := by
  intro ns
  induction ns with
  | nil =>
    intro vs w
    rw [List.map_nil] at w
    cases w
    exact .nil
  | cons n ns ih =>
    intro vs w
    rw [List.map_cons] at w
    cases w with
    | cons a b =>
      cases a
      exact .cons _ _ (ih _ b)

theorem script_of {l : OpenLaw} {n : Nat} (hn : l.most = some n) {P : Params} {h : Heap} {args : List WData} {vals : List Value}
    (hpre : l.row.toRowW.claim.pre args = true) (hwl : WellAll P h vals args) :
    ∃ a vs ns, vals = [Value.ref a] ∧ args = [WData.list (ns.map WData.int)] ∧ h.get? a = some { cls := .type "list", data := .seq vs.toArray } ∧ IntsAre vs ns ∧ ns.length ≤ n := by
  have hsh : WShape.hasAll [] args [.list .int] = true := (pre_splitW hpre).1
  have hc : l.pre.holds [] { args := args } = true := (pre_splitW hpre).2
  obtain ⟨d, r, rfl, h1, h2⟩ := hasAllW_cons hsh
  obtain rfl := hasAllW_nil h2
  obtain ⟨xs, rfl, h3⟩ := hasW_list h1
  obtain ⟨ns, rfl⟩ := items_int h3
  have hlen : ns.length ≤ n := by
    unfold OpenLaw.pre at hc
    have h4 : (WTm.not (.lt (.lit (.int (n : Int))) (.len (.arg 0)))).holds [] { args := [.list (ns.map .int)] } = true := by
      have h4 := (holds_andW hc).1
      rw [hn] at h4
      exact h4
    have h5 := condW_of h4 (w_not (w_lt w_lit (w_len_list (w_arg rfl))))
    rw [List.length_map] at h5
    refine Nat.le_of_not_lt fun q => ?_
    have q' : (n : Int) < ((ns.length : Nat) : Int) := by omega
    first
      | (rw [decide_eq_true q'] at h5; exact absurd h5 (by decide))
      | (simp at h5; omega)
  cases hwl with
  | cons w1 w2 =>
    cases w2
    cases w1 with
    | list ho hall => exact ⟨_, _, ns, rfl, rfl, ho, ints_of_wellAll ns _ hall, hlen⟩

theorem post_true (l : OpenLaw) (args : List WData) : l.row.toRowW.claim.post args (.bool true) args = true :=
  postW_of (r := l.row.toRowW) (X := (true == true))
    (show WShape.has [] (.bool true) .bool = true by first | rfl | decide | simp [WShape.has, WShape.arms, WShape.armsAll])
    (show (WTm.eq .res (.lit (.bool true))).value [] { args := args, res := some (.bool true), after := args } = some (.bool (true == true)) from w_eq_bool (w_res rfl) w_lit) rfl

/-! ### the attachment: holds_open's last premise (the goal 'hc' behind k_head) from a wpAny of the law's body -/
/-- the same from a codeAny of the CALL (for a layer whose function contracts speak of calls) -/
theorem attach_call {l : OpenLaw} {n : Nat} {q : Program} {loose : List Str} {XP : (Str → Option Value) → Heap → Prop} {YP : World → Heap → Prop} {d : DefRec}
    (hn : l.most = some n) (hdf : d.params.defaults = [])
    (call : ∀ (w : World) (s₀ s₁ : Shared) (mg mb : Str → Option Value) (fa : Addr) (o : Obj) (pm cd doc : Value) (a : Addr) (vs : List Value) (ns : List Int),
      Ground q loose [] XP w s₀ mg mb s₁.heap → YP w s₁.heap →
      s₁.heap.get? fa = some o → o.data = .func (docDef d.name d.params d.body d.scope pm cd doc) → s₁.heap.CodeRec cd d.name → mg d.name = some (.ref fa) →
      s₁.heap.get? a = some { cls := .type "list", data := .seq vs.toArray } → IntsAre vs ns → ns.length ≤ n → s₁.gens = #[] →
      codeAny (model l.prog w) callerA (.call (.ref fa) ⟨[.ref a], []⟩) (fun r s' => r = .ok (.ret (.bool true)) ∧ OldK s₁.heap s'.heap ∧ s'.os = s₁.os ∧ AllBare s'.gens) s₁) :
    WalkO q loose XP YP l.row.toRowW d [] (fun f vs => PySem.call f vs) := by
  intro w s₀ s₁ mg mb G Y fa o pm cd doc dV kV ho hd hcd hD hmg hg args vals as hpre hlay hrd hwl hlo
  obtain rfl : dV = .none := Dflts.none hD hdf
  obtain rfl : kV = .none := Dflts.noKw hD
  obtain ⟨a, vs, ns, rfl, rfl, hobj, hints, hlen⟩ := script_of hn hpre hwl
  refine enter_call (codeAny_mono (call w s₀ s₁ mg mb fa o pm cd doc a vs ns G Y ho (fd_plain hd) hcd hmg hobj hints hlen hg) fun r s' hq => ?_)
  obtain ⟨rfl, h2, h3, h4⟩ := hq
  exact ⟨.inl ⟨.bool true, .bool true, [], rfl, fun _ => rfl, .bool true, post_true l _, fun _ => ⟨List.Pairwise.nil, fun _ hm => (nomatch hm)⟩⟩, h2, h3, h4⟩

/-! ### rules over ANY heap (no ledger) from facts about the written part K: the library's own take a ledger (News) for what they write -/
section
variable {prog : Program} {w : World} {A : Around} {E : Value → Shared → Prop} {s : Shared} {K : Frag}

/-! the whole heap as the ledger: makes every rule that writes through a ledger a rule over any heap -/
end
end Att

namespace L2
open PySem PySem.Spec PyProof.Rows

theorem vals_ints : ∀ {vs : List Value} {ns : List Int}, IntsAre vs ns → Vals (ns.map V.int) vs
  | _, _, .nil => .nil
  | _, _, .cons n t h => .cons ⟨t, rfl⟩ (vals_ints h)

/-- nothing is tracked but the script, known to the object (or it is an object of the module) -/
def Only (H : Hp) : Prop := ∀ b, H b = none ∨ ∃ o xs, H b = some (.frz o (.lst xs))

/-- THE HEAD: the law's promise, at the heap behind the top. F, the promise of the law's def, may use that base is part of the heap (so K.In base, base.Ns mainGlobals mg stand in Mod) -/
theorem law_call {P : Program} {w : World} {K : PySem.W.Frag} {mg mb : Str → Option Value} {CX : CXT} {k : Nat} {fa a : Addr} {fd : FuncData} {x : Str} {sp : Sp} {s₁ : Shared} {vs : List Value} {ns : List Int}
    (KX : K.In s₁.heap) (hns : s₁.heap.Ns mainGlobals mg) (hb : s₁.heap.Ns builtinsNs mb) (hbb : ∀ x : Str, x ≠ "__name__" → mb x = bootBuiltins x) (hlim : s₁.heap.NoLimit) (hg : s₁.gens = #[])
    (ha : s₁.heap.get? a = some { cls := .type "list", data := .seq vs.toArray }) (hi : IntsAre vs ns) (hl : ns.length ≤ sizeLine) (hr : Room k callerA)
    (F : ∀ base : Heap, K.In base → base.Ns mainGlobals mg → FnOk P w K mg base CX k fa fd [x] sp) (hbind : ∀ (s : Shared) (u : Value), BindsTo s fd ⟨[u], []⟩ [(x, u)])
    (hsp : ∀ H : Hp, Only H → SqL K H a (ns.map V.int) → sp [.ref a] H (fun v _ => v = .bl true) fun _ _ _ => False)
    (hCX : ∀ H e s', CX [] H s₁ (fun _ _ _ => False) e s' → False) :
    codeAny (model P w) callerA (.call (.ref fa) ⟨[.ref a], []⟩) (fun r s' => r = .ok (.ret (.bool true)) ∧ OldK s₁.heap s'.heap ∧ s'.os = s₁.os ∧ AllBare s'.gens) s₁ := by
  have rv := vals_ints hi
  have lenV := hi.length
  -- from an abstract heap in which nothing but the script may be tracked
  have core : ∀ H : Hp, Only H → SqL K H a (ns.map V.int) → HOk P w H s₁.heap → (∀ b, H b ≠ none → b = a) → (H a ≠ none → K.lookup a = none) →
      codeAny (model P w) callerA (.call (.ref fa) ⟨[.ref a], []⟩) (fun r s' => r = .ok (.ret (.bool true)) ∧ OldK s₁.heap s'.heap ∧ s'.os = s₁.os ∧ AllBare s'.gens) s₁ := by
    intro H hO hS hok hA hK
    have base_of : ∀ {b : Addr} {o : Obj}, s₁.heap.get? b = some o → H b = none → (hidT s₁.heap H).get? b = some o := fun e n => hidT_get e n
    have noA : ∀ {b : Addr} {o : Obj} {es : Array DictEntry} {ep : Nat}, s₁.heap.get? b = some o → o.data = .dict es ep → H b = none := fun {b o es ep} e d => by
      cases q : H b with
      | none => rfl
      | some u =>
        have e' : b = a := hA b (by rw [q]; simp)
        subst e'
        rw [ha] at e; cases e
        have d' : Data.seq vs.toArray _ = Data.dict es ep := d
        cases d'
    have nsK : ∀ {b : Addr} {m : Str → Option Value}, s₁.heap.Ns b m → (hidT s₁.heap H).Ns b m := fun {b m} ⟨o, es, ep, e, d, r⟩ => ⟨o, es, ep, base_of e (noA e d), d, r⟩
    have hKb : K.In (hidT s₁.heap H) := fun b o e => base_of (KX b o e) (by
      cases q : H b with
      | none => rfl
      | some u =>
        have e' : b = a := hA b (by rw [q]; simp)
        subst e'
        rw [hK (by rw [q]; simp)] at e; cases e)
    have hM : Mod K mg (hidT s₁.heap H) := ⟨hKb, nsK hns, ⟨mb, nsK hb, hbb⟩, let ⟨mc, h1, h2⟩ := hlim; ⟨mc, nsK h1, h2⟩⟩
    have e0 : Env0 P w K mg (hidT s₁.heap H) callerA [] s₁ H := ⟨rfl, hM, fun b o e => of_hidT e, Nat.le_of_eq (hidT_size _ _), trivial, fun b hb => absurd (show b ∈ ([] : List Addr) from hb) (by simp), hok, .of_eq hg⟩
    refine codeAny_mono ((F _ hKb (nsK hns)).run callerA [] s₁ H ⟨[.ref a], []⟩ [.ref a] [.ref a] _ _ hr e0 (hbind s₁ (.ref a)) (.cons rfl .nil) (hsp H hO hS)) fun r s' h => ?_
    cases r with
    | error e => exact (hCX H e s' h).elim
    | ok fl =>
      cases fl with
      | next => exact False.elim h
      | brk => exact False.elim h
      | cont => exact False.elim h
      | ret u =>
        obtain ⟨v, H', os, bare, un, hok', r', q⟩ := h
        have q' : v = .bl true := q
        subst q'
        obtain rfl : u = Value.bool true := r'
        refine ⟨rfl, OldK.of_keep fun b o e => ?_, os, bare⟩
        cases q : H b with
        | none => exact un.keep b o e q (by intro z; exact absurd (show b ∈ ([] : List Addr) from z) (by simp)) (by simp)
        | some u =>
          rcases hO b with z | ⟨ob, xs, z⟩
          · rw [q] at z; cases z
          · have z2 := un.frzs b ob _ z
            obtain ⟨e1, _⟩ := hok b _ z
            obtain ⟨e2, _⟩ := hok' b _ z2
            rw [e] at e1; cases e1
            exact e2
  cases hk : K.lookup a with
  | some o =>
    -- the script is one of the module's own objects
    have e := KX a o hk
    rw [ha] at e
    cases e
    refine core (fun _ => none) (fun _ => .inl rfl) (.inr ⟨_, vs.toArray, _, hk, rfl, rfl, rfl, by rw [List.size_toArray, lenV]; exact hl, by simpa using rv⟩) (fun b u z => by have z' : (none : Option HO) = some u := z; cases z') (fun b z => absurd rfl z) fun z => absurd rfl z
  | none =>
    refine core (fun b => if b = a then some (.frz { cls := .type "list", data := .seq vs.toArray } (.lst (ns.map V.int))) else none) (fun b => ?_) (.inl (.inr ⟨{ cls := .type "list", data := .seq vs.toArray }, if_pos rfl⟩)) (fun b u z => ?_) (fun b z => ?_) fun _ => hk
    · by_cases hb : b = a
      · exact .inr ⟨_, _, if_pos hb⟩
      · exact .inl (if_neg hb)
    · by_cases hb : b = a
      · have z' := (if_pos hb).symm.trans z
        cases z'
        subst hb
        exact ⟨ha, by rw [List.length_map]; exact hl, vs, _, rv, ha⟩
      · have z' := (if_neg hb).symm.trans z
        cases z'
    · by_cases hb : b = a
      · exact hb
      · exact absurd (if_neg hb) z
end L2

namespace L2
open PySem PySem.Spec PyProof.Rows

/-- the goal that k_head leaves (case hc), from the law's promise. F gives the function object fd (K's own) once, then the promise over every base -/
theorem walk_of {l : PySem.W.OpenLaw} {n k : Nat} {q : Program} {loose : List Str} {XP : (Str → Option Value) → Heap → Prop} {YP : World → Heap → Prop} {d : DefRec} {K : Params → PySem.W.Frag} {CX : World → CXT} {sp : World → Sp} {x : Str}
    (hn : l.most = some n) (hn2 : n ≤ sizeLine) (hdf : d.params.defaults = []) (hr : Room k callerA)
    (hY : ∀ (w : World) (h : Heap), YP w h → (K w.params).In h)
    (F : ∀ (w : World) (mg : Str → Option Value) (fa : Addr) (h : Heap), (K w.params).In h → h.Ns mainGlobals mg → mg d.name = some (.ref fa) →
      ∃ fd : FuncData, (∀ (s : Shared) (u : Value), BindsTo s fd ⟨[u], []⟩ [(x, u)]) ∧
        ∀ base : Heap, (K w.params).In base → base.Ns mainGlobals mg → FnOk l.prog w (K w.params) mg base (CX w) k fa fd [x] (sp w))
    (hsp : ∀ (w : World) (H : Hp) (a : Addr) (ns : List Int), ns.length ≤ n → Only H → SqL (K w.params) H a (ns.map V.int) → sp w [.ref a] H (fun v _ => v = .bl true) fun _ _ _ => False)
    (hCX : ∀ (w : World) (H : Hp) (s : Shared) (e : Value) (s' : Shared), CX w [] H s (fun _ _ _ => False) e s' → False) :
    PySem.W.WalkO q loose XP YP l.row.toRowW d [] (fun f vs => PySem.call f vs) := by
  refine Att.attach_call hn hdf fun w s₀ s₁ mg mb fa o pm cd doc a vs ns G Y ho hd hcd hmg hobj hints hlen hg => ?_
  have KX := hY w _ Y
  obtain ⟨fd, hb, hF⟩ := F w mg fa _ KX G.T.g hmg
  exact law_call KX G.T.g G.T.b G.T.builtins G.T.nolimit hg hobj hints (Nat.le_trans hlen hn2) hr hF hb (fun H hO hS => hsp w H a ns hlen hO hS) fun H e s' => hCX w H s₁ e s'
end L2

/- THE LAST THEOREM (shape; LID, My.* are yours):
   My.Adr: a structure of the addresses that your layer names (classes, functions); My.Txt K t: a structure (Prop) of the equations over K;
   My.txt_mk : {K} {implicit addresses ..} (e1 : nsIn K mainGlobals "law" = some (some (.ref f))) (e2 : K.lookup f = some ⟨oc, od, .func (fnOf "law" "law" params body scope dV kV doc pm an cdv ct), sl⟩) (e3 : codeIn K cdv "law" = true) .. : ∃ t, My.Txt K t

set_option maxRecDepth 100000 in
set_option maxHeartbeats 0 in
theorem PySem.Challenge.cw_LID_holds : PySem.Challenge.rw_LID.Holds := by
  w_on; o_law; k_head; (case hw => w_witness2)
  k_fill
  refine L2.walk_of (l := PySem.Challenge.rw_LID) (n := 63) (k := 40) (x := "script") (CX := fun w => ..) (sp := fun _ => My.sp_law) rfl (by decide) rfl ⟨rfl, by decide, by decide⟩ (fun w h Y => PySem.W.kIn_of Y) ?F ?S ?C
  case F =>
    intro w mg fa h KX G hmg
    have T : ∃ t, My.Txt (L2.KOf KX) t := by
      dsimp only [L2.KOf]                          -- K must stand as «<heap const> w.params» for k_is
      refine' My.txt_mk ?e1 ?e2 ?e3 ..
      (case e1 => PySem.W.k_is)                    -- in the order: a name -> its address -> its object -> its parts
      (case e2 => PySem.W.k_is)
      ..
    obtain ⟨t, T⟩ := T
    have e0 := hmg.symm.trans (PySem.W.mg_of KX G T.law)
    cases e0                                       -- fa is the law's own address
    exact ⟨_, fun s u => .of_eq rfl, fun base kb nb => My.law_fn T kb nb⟩     -- if «.of_eq rfl» comes too early: refine' ⟨_, ?b, fun base kb nb => My.law_fn T kb nb⟩; exact fun s u => .of_eq rfl
  case S => exact fun w H a ns hl hO hS => ..
  case C => exact ..
(the tactic k_is has no namespace: write k_is) -/

/-! SHORT WORDS over the layer: a def of the text, its body, what a loop and a test want. -/
namespace L2
open PySem PySem.Spec PyProof.Rows

/-! ### the text by places -/
def defArgs (s : Stmt) : Arguments := match s with
  | .FunctionDef _ a _ _ _ _ _ _ _ _ => a
  | _ => { posonlyargs := [], args := [], vararg := none, kwonlyargs := [], kw_defaults := [], kwarg := none, defaults := [] }
def defBody (s : Stmt) : List Stmt := match s with
  | .FunctionDef _ _ b _ _ _ _ _ _ _ => b
  | _ => []
def defScope (s : Stmt) : Scope := match s with
  | .FunctionDef _ _ _ _ _ _ sc _ _ _ => sc
  | _ => { kind := .function, names := [], isGenerator := false, isCoroutine := false }

/-! ### no exception leaves a def -/
abbrev CX0 : CXT := fun _ _ _ _ _ _ => False
abbrev E0 : XK := fun _ _ _ => False
theorem pass0 {X : Cx} : Passes CX0 X E0 := fun _ _ _ _ _ _ _ h => h.elim

/-! ### a def (or method) of the text as it stands behind the top -/
structure Fun (K : PySem.W.Frag) (x qual : Str) (st : Stmt) (f : Addr) (fd : FuncData) : Prop where
  ex : ∃ (oc : Value) (od : Option Addr) (kV doc pm : Value) (an : Option Addr) (cdv ct : Value) (osl : Array (Option Value)),
    fd = PySem.W.fnOf x qual (defArgs st) (defBody st) (defScope st) .none kV doc pm an cdv ct ∧ K.lookup f = some ⟨oc, od, .func fd, osl⟩ ∧ PySem.W.codeIn K cdv qual = true
  kp : PySem.W.keepIn K (.ref f) = true
section
variable {P : Program} {w : World} {K : PySem.W.Frag} {mg : Str → Option Value} {base : Heap}
/-- THE RULE for a def: its body as a term of rules, and the reading of that term -/
theorem Fun.ok {x qual : Str} {st : Stmt} {f : Addr} {fd : FuncData} {N ps : List Str} {k : Nat} {sp : Sp} (F : Fun K x qual st f fd) (S : FnScope N ps (defScope st)) (len : ∀ vs H Q E, sp vs H Q E → vs.length = ps.length)
    (hbody : ∀ (cdv : Value) (A : Around) (outer : List Env) (s : Shared) (H : Hp) (vs : List V) (Q : VK) (E : XK), Room k (A.deeper (envOfC qual (defScope st) s.heap.objs.size f cdv)) → sp vs H Q E →
      ∃ t, PSs (cxOf CX0 P w K mg base N qual (defScope st) f cdv A outer s H E).nox (defBody st) t ∧ t { nx := fun _ H' => Q .non H', rt := Q } (start N vs) H) : FnOk P w K mg base CX0 (k + 1) f fd ps sp := by
  obtain ⟨oc, od, kV, doc, pm, an, cdv, ct, osl, rfl, lk, hcd⟩ := F.ex
  refine fn_of lk hcd S len fun A outer s H vs Q E hr hsp => ?_
  obtain ⟨t, h, q⟩ := hbody cdv A outer s H vs Q E hr hsp
  exact ⟨t, h.nox, q⟩
/-- how its arguments bind (no defaults): h is «fun _ _ _ _ _ _ us hl => match us, hl with | [_, _], _ => rfl», one _ a parameter -/
theorem Fun.binds {x qual : Str} {st : Stmt} {f : Addr} {fd : FuncData} {ps : List Str} (F : Fun K x qual st f fd)
    (h : ∀ (kV doc pm : Value) (an : Option Addr) (cdv ct : Value) (us : List Value), us.length = ps.length → bindArgs (PySem.W.fnOf x qual (defArgs st) (defBody st) (defScope st) .none kV doc pm an cdv ct) ⟨us, []⟩ = pure (ps.zip us)) : Binds K fd ps [] := by
  obtain ⟨oc, od, kV, doc, pm, an, cdv, ct, osl, rfl, lk, hcd⟩ := F.ex
  exact .all (h kV doc pm an cdv ct)
theorem fun_mk {x qual : Str} {st : Stmt} {f : Addr} {oc : Value} {od an : Option Addr} {osl : Array (Option Value)} {kV doc pm cdv ct : Value} (l : K.lookup f = some ⟨oc, od, .func (PySem.W.fnOf x qual (defArgs st) (defBody st) (defScope st) .none kV doc pm an cdv ct), osl⟩)
    (c : PySem.W.codeIn K cdv qual = true) (k : PySem.W.keepIn K (.ref f) = true) : Fun K x qual st f (PySem.W.fnOf x qual (defArgs st) (defBody st) (defScope st) .none kV doc pm an cdv ct) := ⟨⟨oc, od, kV, doc, pm, an, cdv, ct, osl, rfl, l, c⟩, k⟩
end
theorem small1000 {n : Nat} (h : n ≤ 1000) : n < sizeLine := Nat.lt_of_le_of_lt h (by decide)

/-! ### expressions in short: the name that stands in the i-th slot -/
section
variable {X : Cx}
theorem pv (i : Nat) {x : Str} {pos : Pos} (hN : X.N[i]? = some x := by rfl) (hv : Vis X.env.scope x := by first | exact Or.inl rfl | exact Or.inr (Or.inl rfl) | exact Or.inr (Or.inr rfl)) (hd : (x == ("__debug__" : Str)) = false := by decide)
    (hcd : (x == ("__classdict__" : Str)) = false := by decide) : PE X (.Name x pos) (tVar i) := pe_var hN hv hd hcd
end

/-! ### tests -/
theorem iteF {A B : Prop} (h : B) : if false = true then A else B := by
  rw [if_neg Bool.false_ne_true]
  exact h
theorem iteT {A B : Prop} (h : A) : if true = true then A else B := by
  rw [if_pos rfl]
  exact h
theorem ite2 {c A B : Prop} [Decidable c] (h1 : c → A) (h2 : ¬ c → B) : if c then A else B := by
  by_cases h : c
  · rw [if_pos h]
    exact h1 h
  · rw [if_neg h]
    exact h2 h
theorem iteNS {c A B : Prop} [Decidable c] (hc : c) (h : B) : if (!decide c) = true then A else B := by
  rw [decide_eq_true hc]
  exact iteF h

end L2

set_option maxRecDepth 100000
set_option maxHeartbeats 4000000
namespace L2
open PySem PySem.Spec PyProof.Rows

/-! ### heaps: what is tracked stays, but for the tables of code, which may grow -/
/-- what is known of a code object that a table names: it is a record with a name -/
def codeP (c : Addr) : Heap → Prop := fun h => ∃ (o : Obj) (vs : Array Value) (q : Str) (t : Nat), h.get? c = some o ∧ o.data = .fields vs ∧ vs[1]? = some (.str q t)
/-- a table of code: all that it names is tracked -/
def TabOk (H : Hp) (P : Addr) : Prop := ∃ ps : Array Value, H P = some (.tbl ps) ∧ TriplesOk ps.toList ∧ ∀ pos : Pos, codeAmong pos ps.toList = none ∨ ∃ c : Addr, codeAmong pos ps.toList = some (.ref c) ∧ H c = some (.ext (codeP c))
def Kp (H H' : Hp) (b : Addr) : HO → Prop
  | .tbl _ => (∃ ps, H' b = some (.tbl ps)) ∧ (TabOk H b → TabOk H' b)
  | o => H' b = some o
/-- all that was tracked is as it was; tables of code may have grown -/
def Same (H H' : Hp) : Prop := ∀ b o, H b = some o → Kp H H' b o
theorem Kp.of {H H' : Hp} {b : Addr} {o : HO} (h : H b = some o) (e : H' b = some o) (hc : ∀ c, H c = some (.ext (codeP c)) → H' c = some (.ext (codeP c))) : Kp H H' b o := by
  cases o
  case tbl ps =>
    refine ⟨⟨ps, e⟩, fun ⟨qs, hq, tr, hp⟩ => ?_⟩
    rw [h] at hq
    cases hq
    exact ⟨_, e, tr, fun pos => (hp pos).imp id fun ⟨c, z1, z2⟩ => ⟨c, z1, hc c z2⟩⟩
  all_goals exact e
theorem same_of {H H' : Hp} (h : ∀ b o, H b = some o → H' b = some o) : Same H H' := fun b o e => Kp.of e (h b o e) fun c z => h c _ z
theorem Same.refl (H : Hp) : Same H H := same_of fun _ _ h => h
theorem Same.trans {H H1 H2 : Hp} (a : Same H H1) (b : Same H1 H2) : Same H H2 := fun c o h => by
  have z := a c o h
  cases o
  case tbl ps =>
    obtain ⟨⟨qs, hq⟩, k⟩ := z
    obtain ⟨q2, k2⟩ := b c _ hq
    exact ⟨q2, fun t => k2 (k t)⟩
  all_goals exact b c _ z
theorem Kp.some {H H' : Hp} {b : Addr} {o : HO} (k : Kp H H' b o) : ∃ u, H' b = some u := by
  cases o
  case tbl ps => exact ⟨_, k.1.choose_spec⟩
  all_goals exact ⟨_, k⟩
theorem Same.free {H H' : Hp} (e : Same H H') {l : Addr} (h : H' l = Option.none) : H l = Option.none := by
  cases q : H l with
  | none => rfl
  | some o =>
    obtain ⟨u, z⟩ := (e l o q).some
    rw [z] at h
    cases h
end L2

set_option maxRecDepth 100000
set_option maxHeartbeats 4000000
namespace L2
open PySem PySem.Spec PyProof.Rows

/-! ### A. List comprehensions of one clause -/
/-- a loop in the machine's monad whose every step is pure -/
theorem forIn_all {α β : Type} (g : α → β → β) {f : α → β → Sem (ForInStep β)} : ∀ (l : List α) (b : β), (∀ x ∈ l, ∀ c, f x c = pure (ForInStep.yield (g x c))) →
    forIn l b f = (pure (l.foldl (fun c x => g x c) b) : Sem β)
  | [], b, _ => by simp only [List.forIn_nil, List.foldl_nil]
  | x :: r, b, h => by
    rw [List.forIn_cons, h x List.mem_cons_self b, pure_bind]
    exact forIn_all g r (g x b) fun y hy c => h y (List.mem_cons_of_mem _ hy) c

/-- the cells that a block takes over from its def -/
def clOf (sc : Scope) (env : Env) : List (Str × Addr) :=
  sc.names.foldl (fun cs y => if (y.2 == NameKind.free) = true then (y.1, (env.cells.lookup y.1).getD 0) :: cs else cs) []
theorem clOf_eq {sc : Scope} {env : Env} (h : ∀ y ∈ sc.names, y.2 = .free → ∃ c, env.cells.lookup y.1 = some c) : closureFor sc env = pure (clOf sc env) := by
  simp only [closureFor]
  rw [forIn_all (fun (y : Str × NameKind) (cs : List (Str × Addr)) => if (y.2 == NameKind.free) = true then (y.1, (env.cells.lookup y.1).getD 0) :: cs else cs) sc.names [] (fun y hy c => by
    obtain ⟨n, k⟩ := y
    by_cases hk : k = .free
    · obtain ⟨a, ha⟩ := h _ hy hk
      subst hk
      simp only [cellOf, ha, beq_self_eq_true, if_true, pure_bind, Option.getD_some]
    · have z : (k == NameKind.free) = false := by simpa using hk
      simp only [z, Bool.false_eq_true, if_false])]
  rfl
theorem foldl_mem {α β : Type} {P : β → Prop} {g : α → List β → List β} : ∀ (l : List α) (b : List β), (∀ p ∈ b, P p) → (∀ x ∈ l, ∀ c, (∀ p ∈ c, P p) → ∀ p ∈ g x c, P p) → ∀ p ∈ l.foldl (fun c x => g x c) b, P p
  | [], b, hb, _ => hb
  | x :: r, b, hb, h => foldl_mem r (g x b) (h x List.mem_cons_self b hb) fun y hy => h y (List.mem_cons_of_mem _ hy)
theorem clOf_mem {sc : Scope} {env : Env} (h : ∀ y ∈ sc.names, y.2 = .free → ∃ c, env.cells.lookup y.1 = some c) : ∀ p ∈ clOf sc env, env.cells.lookup p.1 = some p.2 := by
  refine foldl_mem (P := fun p : Str × Addr => env.cells.lookup p.1 = some p.2) sc.names [] (fun _ z => nomatch z) fun y hy c hc p hp => ?_
  by_cases hk : y.2 = .free
  · have z : (y.2 == NameKind.free) = true := by simpa using hk
    rw [if_pos z] at hp
    rcases List.mem_cons.mp hp with e | hp
    · obtain ⟨a, ha⟩ := h y hy hk
      rw [e]
      show env.cells.lookup y.1 = some ((env.cells.lookup y.1).getD 0)
      rw [ha]
      rfl
    · exact hc p hp
  · have z : ¬ (y.2 == NameKind.free) = true := by simpa using hk
    rw [if_neg z] at hp
    exact hc p hp
theorem foldl_keep {α β : Type} {q : β} {g : α → List β → List β} (hg : ∀ x c, q ∈ c → q ∈ g x c) : ∀ (l : List α) (b : List β), q ∈ b → q ∈ l.foldl (fun c x => g x c) b
  | [], _, hb => hb
  | x :: r, b, hb => foldl_keep hg r (g x b) (hg x b hb)
theorem clOf_has {sc : Scope} {env : Env} {x : Str} {c : Addr} (hx : (x, NameKind.free) ∈ sc.names) (hc : env.cells.lookup x = some c) : (x, c) ∈ clOf sc env := by
  have kp : ∀ (y : Str × NameKind) (cs : List (Str × Addr)), (x, c) ∈ cs → (x, c) ∈ (if (y.2 == NameKind.free) = true then (y.1, (env.cells.lookup y.1).getD 0) :: cs else cs) := fun y cs h => by
    by_cases z : (y.2 == NameKind.free) = true
    · rw [if_pos z]
      exact List.mem_cons_of_mem _ h
    · rw [if_neg z]
      exact h
  unfold clOf
  obtain ⟨l1, l2, e⟩ := List.append_of_mem hx
  rw [e, List.foldl_append, List.foldl_cons]
  refine foldl_keep (g := fun (y : Str × NameKind) (cs : List (Str × Addr)) => if (y.2 == NameKind.free) = true then (y.1, (env.cells.lookup y.1).getD 0) :: cs else cs) kp l2 _ ?_
  rw [if_pos (by simp)]
  rw [hc]
  exact List.mem_cons_self
theorem lookup_some {β : Type} {x : Str} {b : β} : ∀ {l : List (Str × β)}, (x, b) ∈ l → ∃ c, l.lookup x = some c
  | [], h => nomatch h
  | (y, d) :: r, h => by
    by_cases e : x = y
    · subst e
      exact ⟨d, by rw [List.lookup_cons_self]⟩
    · have z : (x == y) = false := by simpa using e
      rcases List.mem_cons.mp h with q | q
      · cases q
        exact absurd rfl e
      · obtain ⟨c, hc⟩ := lookup_some q
        exact ⟨c, by rw [List.lookup_cons, z]; exact hc⟩
theorem clOf_look {sc : Scope} {env : Env} (h : ∀ y ∈ sc.names, y.2 = .free → ∃ c, env.cells.lookup y.1 = some c) {x : Str} {c : Addr} (e : (clOf sc env).lookup x = some c) : env.cells.lookup x = some c :=
  clOf_mem h _ (PySem.mem_of_lookup e)
theorem clOf_at {sc : Scope} {env : Env} (h : ∀ y ∈ sc.names, y.2 = .free → ∃ c, env.cells.lookup y.1 = some c) {x : Str} {c : Addr} (hx : (x, NameKind.free) ∈ sc.names) (hc : env.cells.lookup x = some c) : (clOf sc env).lookup x = some c := by
  obtain ⟨d, hd⟩ := lookup_some (clOf_has hx hc)
  have := clOf_look h hd
  rw [hc] at this
  cases this
  exact hd

/-- a block's scope as it is run, by its def's scope -/
def relS (sc sc0 : Scope) : Scope :=
  { sc with names := sc.names.map fun (n, k) => if (k == .free && sc0.kind == .function && sc0.names.lookup n == some .cell) then (n, .cell) else (n, k) }
/-- what a comprehension's table must be: n of its own names ahead in N', behind them the def's slots kp -/
def lcOk (sc0 sc : Scope) (XN N' : List Str) (n : Nat) (kp : List Nat) : Bool :=
  decide (sc.kind = .function) && sc.names.all (fun y => decide (y.2 ≠ .cell)) && sc.names.all (fun y => decide (y.2 = .local → sc.names.lookup y.1 = some .local)) &&
  sc.names.all (fun y => decide (y.2 = .free → sc0.names.lookup y.1 = some .cell)) && decide (N'.length = n + kp.length) &&
  (List.range kp.length).all (fun i => match N'[n + i]?, kp[i]? with
    | some x, some j => decide (XN[j]? = some x ∧ (x, NameKind.free) ∈ sc.names ∧ ((relS sc sc0).names.lookup x = some .cell ∨ (relS sc sc0).names.lookup x = some .free))
    | _, _ => false)
theorem lcOk_parts {sc0 sc : Scope} {XN N' : List Str} {n : Nat} {kp : List Nat} (h : lcOk sc0 sc XN N' n kp = true) :
    sc.kind = .function ∧ (∀ y ∈ sc.names, y.2 ≠ .cell) ∧ (∀ y ∈ sc.names, y.2 = .local → sc.names.lookup y.1 = some .local) ∧ (∀ y ∈ sc.names, y.2 = .free → sc0.names.lookup y.1 = some .cell) ∧ N'.length = n + kp.length ∧
    ∀ (i : Nat) (x : Str), N'[n + i]? = some x → ∃ j, kp[i]? = some j ∧ XN[j]? = some x ∧ (x, NameKind.free) ∈ sc.names ∧ ((relS sc sc0).names.lookup x = some .cell ∨ (relS sc sc0).names.lookup x = some .free) := by
  unfold lcOk at h
  simp only [Bool.and_eq_true, List.all_eq_true, decide_eq_true_eq] at h
  obtain ⟨⟨⟨⟨⟨h1, h2⟩, h3⟩, h4⟩, h5⟩, h6⟩ := h
  refine ⟨h1, h2, h3, h4, h5, fun i x hx => ?_⟩
  have hi : i < kp.length := by
    have := (List.getElem?_eq_some_iff.mp hx).1
    omega
  have q := h6 i (List.mem_range.mpr hi)
  rw [hx, List.getElem?_eq_getElem hi] at q
  exact ⟨kp[i], List.getElem?_eq_getElem hi, of_decide_eq_true q⟩

abbrev NoX : Value → Shared → Prop := fun _ _ => False
/-- a comprehension's block running, in the context of its def -/
def blk (X : Cx) (N' : List Str) (sc : Scope) (C : Addr) (fp : List Addr) (pins : List (Addr × Obj)) (s : Shared) (H : Hp) : Cx :=
  { X with N := N', s₀ := s, H₀ := H, env := compEnvC sc (clOf sc X.env) C X.env, outer := X.stack, stack := X.stack, ex := fp, fn := fun _ => false, pn := X.pn ++ pins, xe := NoX }
/-- the tests of a clause, one behind another -/
abbrev lcIfs (cs : List Expr) (env : Env) : Sem Bool := forIn cs true fun c r => if r = true then do let ok ← isTrue c env (eval c env); pure (ForInStep.yield ok) else pure (ForInStep.yield r)
def PTs (X : Cx) (cs : List Expr) (t : TT) : Prop :=
  ∀ (pins : List (Addr × Obj)) (s : Shared) (σ : St) (H : Hp) (Q : Bool → Hp → Prop), Inv X pins σ H s → t σ H Q → wpAny (model X.prog X.w) X.A (lcIfs cs X.env) (TP X pins σ Q) X.xe s
def tNoT : TT := fun _ H Q => Q true H
theorem pts_nil {X : Cx} : PTs X [] tNoT := fun _ _ _ H _ I h => wpAny_tests_nil ⟨H, I, h⟩
theorem pts_one {X : Cx} {c : Expr} {t : TT} (hc : PT X c t) : PTs X [c] t := fun pins s σ H Q I h => wpAny_tests_one (hc pins s σ H Q I h)

theorem lc_loop {prog : Program} {w : World} {A : Around} {R : Result → Shared → Prop} {elt tg iter : Expr} {cs : List Expr} {sc : Scope} {pos : Pos} {it acc : Value} {env : Env} (J : Nat → Shared → Prop)
    (turn : ∀ n s, J n s → wpAny (model prog w) A (pyNext it) (fun r s1 => match r with
      | none => R (.ok .next) s1
      | some v => wpAny (model prog w) A (letOwnedTupleGo tg it v) (fun _ s2 => wpAny (model prog w) A (assign tg env v) (fun _ s3 => wpAny (model prog w) A (lcIfs cs env) (fun ok s4 =>
          if ok = true then wpAny (model prog w) A (eval elt env) (fun x s5 => wpAny (model prog w) A (call (.builtin "list.append") [acc, x]) (fun _ s6 => ∃ m, m < n ∧ J m s6) NoX s5) NoX s4
          else ∃ m, m < n ∧ J m s4) NoX s3) NoX s2) NoX s1) NoX s)
    (n : Nat) (s : Shared) (h : J n s) : codeAny (model prog w) A (.compLoop (.ListComp elt [⟨tg, iter, cs, 0⟩] sc pos) 0 it acc env) R s := by
  refine codeAny_loop rfl J (fun n s hJ => ?_) n h
  show wpAny _ A ((compTurn (.ListComp elt [⟨tg, iter, cs, 0⟩] sc pos) 0 it acc env).onRaise (fun x => do noteFrame x env; theTreesLotGoes x)) _ _ s
  refine wpAny_noted ?_
  rw [compTurn_list]
  have no : ∀ {E : Value → Shared → Prop} (e : Value) (z : Shared), NoX e z → E e z := fun _ _ f => f.elim
  refine wpAny_bind (wpAny_standAt (wpAny_bind (wpAny_mono (turn n s hJ) (fun r s1 h1 => ?_) no)))
  cases r with
  | none => exact wpAny_pure h1
  | some v =>
    refine wpAny_bind (wpAny_mono h1 (fun _ s2 h2 => ?_) no)
    refine wpAny_bind (wpAny_mono h2 (fun _ s3 h3 => ?_) no)
    refine wpAny_bind (wpAny_mono h3 (fun ok s4 h4 => ?_) no)
    cases ok with
    | false => exact wpAny_pure ⟨rfl, h4⟩
    | true =>
      exact wpAny_bind (wpAny_bind (wpAny_mono h4 (fun x s5 h5 => wpAny_bind (wpAny_mono h5 (fun _ s6 h6 => wpAny_pure (wpAny_pure ⟨rfl, h6⟩)) no)) no))

/-- a comprehension from its iterator on: W is the invariant, by the turn, a measure, the list so far, the block's slots, the heap -/
def lcGo (J : It) (g : TG) (tc : TT) (te : TE) (σ0 : St) (H1 : Hp) (Q : VK) : Prop := ∃ W : Nat → Nat → List V → St → Hp → Prop,
  (∃ m, W 0 m [] σ0 H1) ∧ ∀ i m ys σ' H', W i m ys σ' H' → ys.length ≤ sizeLine ∧
    ((J.stop i H' ∧ ∀ p, H' p = none → Q (.ref p) (upd H' p (.lst ys))) ∨
     (J.go i H' ∧ ∃ N : List V → St → Hp → Prop, (∀ ys' σ2 H2, N ys' σ2 H2 → ∃ m', m' < m ∧ W (i + 1) m' ys' σ2 H2) ∧ ∀ x H2, J.yld i H' x H2 → g x σ' H2 fun σ3 H3 => tc σ3 H3 fun b H4 =>
       if b = true then te σ3 H4 fun v H5 => N (ys ++ [v]) σ3 H5 else N ys σ3 H4))
/-- the reading of a comprehension -/
def tLc (n : Nat) (kp : List Nat) (wi : TI) (g : TG) (tc : TT) (te : TE) : TE := fun σ H Q => wi σ H fun J H1 => lcGo J g tc te (List.replicate n none ++ kp.map fun j => (σ[j]?).join) H1 Q

/-- a comprehension over a range, by what holds at each turn -/
theorem lc_range {lo : Int} {k : Nat} {σ0 : St} {H : Hp} {g : TG} {tc : TT} {te : TE} {Q : VK} (Pv : Nat → List V → St → Hp → Prop) (h0 : Pv 0 [] σ0 H) (hz : ∀ i ys σ H, i ≤ k → Pv i ys σ H → ys.length ≤ sizeLine)
    (hs : ∀ i ys σ H, i < k → Pv i ys σ H → g (.int (lo + i)) σ H fun σ3 H3 => tc σ3 H3 fun b H4 => if b = true then te σ3 H4 fun v H5 => Pv (i + 1) (ys ++ [v]) σ3 H5 else Pv (i + 1) ys σ3 H4)
    (hd : ∀ ys σ H, Pv k ys σ H → ∀ p, H p = none → Q (.ref p) (upd H p (.lst ys))) :
    lcGo (Itr lo k) g tc te σ0 H Q := by
  refine ⟨fun i m ys σ H => m = k - i ∧ i ≤ k ∧ Pv i ys σ H, ⟨k, by simp, Nat.zero_le _, h0⟩, ?_⟩
  rintro i m ys σ H ⟨rfl, hi, p⟩
  refine ⟨hz i ys σ H hi p, ?_⟩
  by_cases hlt : i < k
  · refine .inr ⟨hlt, Pv (i + 1), fun ys' σ' H' p' => ⟨k - (i + 1), by omega, rfl, hlt, p'⟩, fun x H' y => ?_⟩
    obtain ⟨e1, e2⟩ := y
    subst e1
    subst e2
    exact hs i ys σ _ hlt p
  · have e : i = k := by omega
    subst e
    exact .inl ⟨Nat.le_refl _, hd ys σ H p⟩
/-- .. over a list that stays as it is -/
theorem lc_list {K : PySem.W.Frag} {a : Addr} {xs : List V} {σ0 : St} {H : Hp} {g : TG} {tc : TT} {te : TE} {Q : VK} (Pv : Nat → List V → St → Hp → Prop) (h0 : Pv 0 [] σ0 H) (hz : ∀ i ys σ H, i ≤ xs.length → Pv i ys σ H → ys.length ≤ sizeLine)
    (hl : ∀ i ys σ H, i ≤ xs.length → Pv i ys σ H → SqL K H a xs)
    (hs : ∀ i x ys σ H, xs[i]? = some x → Pv i ys σ H → g x σ H fun σ3 H3 => tc σ3 H3 fun b H4 => if b = true then te σ3 H4 fun v H5 => Pv (i + 1) (ys ++ [v]) σ3 H5 else Pv (i + 1) ys σ3 H4)
    (hd : ∀ ys σ H, Pv xs.length ys σ H → ∀ p, H p = none → Q (.ref p) (upd H p (.lst ys))) :
    lcGo (Itl K a) g tc te σ0 H Q := by
  refine ⟨fun i m ys σ H => m = xs.length - i ∧ i ≤ xs.length ∧ Pv i ys σ H, ⟨xs.length, by simp, Nat.zero_le _, h0⟩, ?_⟩
  rintro i m ys σ H ⟨rfl, hi, p⟩
  refine ⟨hz i ys σ H hi p, ?_⟩
  have q := hl i ys σ H hi p
  by_cases hlt : i < xs.length
  · refine .inr ⟨⟨xs, xs[i], q, by simp [hlt]⟩, Pv (i + 1), fun ys' σ' H' p' => ⟨xs.length - (i + 1), by omega, rfl, hlt, p'⟩, fun x H' y => ?_⟩
    obtain ⟨e, y⟩ := y
    subst e
    exact hs i x ys σ _ (y xs q) p
  · have e : i = xs.length := by omega
    subst e
    exact .inl ⟨⟨xs, q, Nat.le_refl _⟩, hd ys σ H p⟩

/-- .. over a tuple that stays as it is -/
theorem lc_tup {K : PySem.W.Frag} {a : Addr} {xs : List V} {σ0 : St} {H : Hp} {g : TG} {tc : TT} {te : TE} {Q : VK} (Pv : Nat → List V → St → Hp → Prop) (h0 : Pv 0 [] σ0 H) (hz : ∀ i ys σ H, i ≤ xs.length → Pv i ys σ H → ys.length ≤ sizeLine)
    (hl : ∀ i ys σ H, i ≤ xs.length → Pv i ys σ H → SqT K H a xs)
    (hs : ∀ i x ys σ H, xs[i]? = some x → Pv i ys σ H → g x σ H fun σ3 H3 => tc σ3 H3 fun b H4 => if b = true then te σ3 H4 fun v H5 => Pv (i + 1) (ys ++ [v]) σ3 H5 else Pv (i + 1) ys σ3 H4)
    (hd : ∀ ys σ H, Pv xs.length ys σ H → ∀ p, H p = none → Q (.ref p) (upd H p (.lst ys))) :
    lcGo (Itt K a) g tc te σ0 H Q := by
  refine ⟨fun i m ys σ H => m = xs.length - i ∧ i ≤ xs.length ∧ Pv i ys σ H, ⟨xs.length, by simp, Nat.zero_le _, h0⟩, ?_⟩
  rintro i m ys σ H ⟨rfl, hi, p⟩
  refine ⟨hz i ys σ H hi p, ?_⟩
  have q := hl i ys σ H hi p
  by_cases hlt : i < xs.length
  · refine .inr ⟨⟨xs, xs[i], q, by simp [hlt]⟩, Pv (i + 1), fun ys' σ' H' p' => ⟨xs.length - (i + 1), by omega, rfl, hlt, p'⟩, fun x H' y => ?_⟩
    obtain ⟨e, y⟩ := y
    subst e
    exact hs i x ys σ _ (y xs q) p
  · have e : i = xs.length := by omega
    subst e
    exact .inl ⟨⟨xs, q, Nat.le_refl _⟩, hd ys σ H p⟩

section
variable {X : Cx} {tg iter elt : Expr} {cs : List Expr} {sc sc0 : Scope} {pos : Pos} {wi : TI} {g : TG} {tc : TT} {te : TE} {XN N' : List Str} {n : Nat} {kp : List Nat}

theorem blk_ok {pins : List (Addr × Obj)} {σ : St} {H : Hp} {s : Shared} {fp : List Addr} {C : Addr} (I : Inv X pins σ H s) (hk : sc.kind = .function) (hcell : ∀ y ∈ sc.names, y.2 ≠ .cell)
    (hfr : ∀ y ∈ sc.names, y.2 = .free → ∃ c, X.env.cells.lookup y.1 = some c) (hf : ∀ b ∈ fp, FpOk X pins H b) (hl : ∀ b ∈ fp, b < s.heap.objs.size) (hC : s.heap.objs.size ≤ C) : (blk X N' sc C fp pins s H).Ok where
  mod := I.ok.mod
  kind := hk
  glob := I.ok.glob
  blt := I.ok.blt
  above := hC
  inj := fun x y c h1 h2 => I.ok.inj x y c (clOf_look hfr h1) (clOf_look hfr h2)
  has := fun x hx => by
    have q : ∃ k, (x, k) ∈ sc.names ∧ k = .free := by
      have hx' : (relS sc X.env.scope).names.lookup x = some .cell ∨ (relS sc X.env.scope).names.lookup x = some .free := hx
      have go : ∀ k, (relS sc X.env.scope).names.lookup x = some k → (k = .cell ∨ k = .free) → (x, NameKind.free) ∈ sc.names := fun k e hk' => by
        have hm := PySem.mem_of_lookup e
        obtain ⟨⟨y, ky⟩, hy, ey⟩ := List.mem_map.mp hm
        dsimp only at ey
        split at ey
        · rename_i hc
          cases ey
          have z : ky = .free := by
            simp only [Bool.and_eq_true] at hc
            simpa using hc.1.1
          subst z
          exact hy
        · cases ey
          rcases hk' with z | z
          · exact absurd z (hcell _ hy)
          · subst z
            exact hy
      rcases hx' with e | e
      · exact ⟨_, go _ e (.inl rfl), rfl⟩
      · exact ⟨_, go _ e (.inr rfl), rfl⟩
    obtain ⟨k, hm, rfl⟩ := q
    obtain ⟨c, hc⟩ := hfr _ hm rfl
    exact ⟨c, clOf_at hfr hm hc⟩
  cab := fun x c h => absurd h (by simp [blk])
  hd := I.ok.hd
  frames := I.ok.frames
  stk := .inl rfl
  exf := fun b hb => ⟨Nat.ne_of_lt (Nat.lt_of_lt_of_le (hl b hb) hC), fun x c e => (hf b hb).2.2.2.2.1 x c (clOf_look hfr e)⟩
  bs := I.bs
  bsz := Nat.le_trans I.ok.bsz I.sz
  noex := fun b o e hb => by
    rcases (hf b hb).2.2.2.1 with z | z
    · exact I.ok.noex b o e z
    · exact absurd (Nat.lt_of_lt_of_le (Heap.lt_size e) (Nat.le_trans I.ok.bsz z)) (Nat.lt_irrefl _)
  exfs := fun b hb z => by
    rcases List.mem_cons.mp (I.stkSub b z) with q | q
    · exact (hf b hb).2.1 q
    · exact (hf b hb).2.2.1 q
  funs := I.stack
  frf := I.stkFree
end
end L2

set_option maxRecDepth 100000
set_option maxHeartbeats 4000000
namespace L2
open PySem PySem.Spec PyProof.Rows
section
variable {X : Cx} {tg iter elt : Expr} {cs : List Expr} {sc sc0 : Scope} {pos : Pos} {wi : TI} {g : TG} {tc : TT} {te : TE} {XN N' : List Str} {n : Nat} {kp : List Nat}

theorem blk_start {pins : List (Addr × Obj)} {σ : St} {H : Hp} {s : Shared} {fp : List Addr} {C : Addr} {h1 : Heap} {tk : Nat} {m : Str → Option Value} (I : Inv X pins σ H s) (h0 : X.env.scope = sc0) (hN : X.N = XN) (ok : lcOk sc0 sc XN N' n kp = true)
    (hf : ∀ b ∈ fp, FpOk X pins H b) (hl : ∀ b ∈ fp, b < s.heap.objs.size) (hC : s.heap.objs.size ≤ C) (old : ∀ b o, s.heap.get? b = some o → h1.get? b = some o) (ns : h1.Ns C m) :
    Inv (blk X N' sc C fp pins s H) [] (List.replicate n none ++ kp.map fun j => (σ[j]?).join) H { s with heap := h1, toks := tk } := by
  obtain ⟨o1, o2, o3, o4, o5, o6⟩ := lcOk_parts ok
  subst h0
  subst hN
  have hfr : ∀ y ∈ sc.names, y.2 = .free → ∃ c, X.env.cells.lookup y.1 = some c := fun y hy e => I.ok.has y.1 (.inl (o4 y hy e))
  have below : ∀ b, b < s.heap.objs.size → b ≠ C := fun b hb => Nat.ne_of_lt (Nat.lt_of_lt_of_le hb hC)
  refine ⟨blk_ok I o1 o2 hfr hf hl hC, rfl, I.bare, Un.kept old, ⟨m, ns, fun i x v e1 e2 e3 => ?_⟩, fun x c e => ?_, I.hok.fresh hC, fun x c e => ?_, fun p hp => ?_, I.hok.kept old, ?_⟩
  · have hi : n ≤ i := by
      by_cases z : n ≤ i
      · exact z
      · rw [List.getElem?_append_left (by rw [List.length_replicate]; omega), List.getElem?_replicate] at e2
        split at e2 <;> cases e2
    obtain ⟨j, rfl⟩ : ∃ j, i = n + j := ⟨i - n, by omega⟩
    obtain ⟨q, hq, hx, hm, hkd⟩ := o6 j x e1
    rw [List.getElem?_append_right (by rw [List.length_replicate]; omega), List.length_replicate, Nat.add_sub_cancel_left, List.getElem?_map, hq] at e2
    have e4 : (σ[q]?).join = some v := Option.some.inj e2
    have e2' : σ[q]? = some (some v) := by
      cases z : σ[q]? with
      | none => rw [z] at e4; cases e4
      | some w => rw [z] at e4; cases e4; rfl
    obtain ⟨c, hc⟩ := hfr _ hm rfl
    have kx : X.env.kindOf x = some .cell := o4 _ hm rfl
    obtain ⟨m', hn', hl'⟩ := I.loc
    obtain ⟨u, r, lk⟩ := hl' q x v hx e2' (.inr (.inl kx))
    refine ⟨u, r, .inr ⟨hkd, c, clOf_at hfr hm hc, ?_⟩⟩
    rcases lk with ⟨k, _⟩ | ⟨_, c', hc', hv⟩
    · rw [kx] at k
      cases k
    · rw [hc] at hc'
      cases hc'
      exact hv.keeps old
  · obtain ⟨v, hv⟩ := I.cell x c (clOf_look hfr e)
    exact ⟨v, hv.keeps old⟩
  · exact I.freeC x c (clOf_look hfr e)
  · have hp' : p ∈ X.pn ++ pins := by
      have : p ∈ (X.pn ++ pins) ++ ([] : List (Addr × Obj)) := hp
      rw [List.append_nil] at this
      exact this
    obtain ⟨q1, q2, q3, q4, q5⟩ := I.pin p hp'
    refine ⟨old _ _ q1, q2, below _ (Heap.lt_size q1), fun z => ?_, q5⟩
    rcases List.mem_cons.mp (I.stkSub _ z) with r | r
    · exact q3 r
    · exact q4 r
  · show (List.replicate n none ++ kp.map fun j => (σ[j]?).join).length = N'.length
    rw [List.length_append, List.length_replicate, List.length_map, o5]

/-- the run of a comprehension up to its end; what comes then is asked by fin -/
theorem lc_run {pins : List (Addr × Obj)} {s : Shared} {σ : St} {H : Hp} {Q : VK} {use : Option (Value → Sem Unit)} {Qf : Value → Shared → Prop} (hc : X.calm = true) (hi : PI X tg iter wi) (h0 : X.env.scope = sc0) (hN : X.N = XN) (ok : lcOk sc0 sc XN N' n kp = true)
    (hg : ∀ C fp pins s H, PG (blk X N' sc C fp pins s H) tg g) (ht : ∀ C fp pins s H, PTs (blk X N' sc C fp pins s H) cs tc) (he : ∀ C fp pins s H, PE (blk X N' sc C fp pins s H) elt te) (hs : ∀ x, foldedSetIterable iter X.env x = pure x)
    (I : Inv X pins σ H s) (h : tLc n kp wi g tc te σ H Q)
    (fin : ∀ D C ys H' s', Inv X pins σ (upd H' D (.lst ys)) s' → (∃ m, s'.heap.Ns C m) → FpOk X pins (upd H' D (.lst ys)) C → Q (.ref D) (upd H' D (.lst ys)) → compPost (model X.prog X.w) X.A X.xe use Qf (.ref D) C (.ok .next) s') {pos' : Pos} :
    wpAny (model X.prog X.w) X.A (comprehension (.ListComp elt [⟨tg, iter, cs, 0⟩] sc pos) sc X.env pos' (newList []) false (firstIter [⟨tg, iter, cs, 0⟩] X.env) use) Qf X.xe s := by
  obtain ⟨o1, o2, o3, o4, o5, o6⟩ := lcOk_parts ok
  have hfr : ∀ y ∈ sc.names, y.2 = .free → ∃ c, X.env.cells.lookup y.1 = some c := fun y hy e => I.ok.has y.1 (.inl (by rw [Env.kindOf, h0]; exact o4 y hy e))
  refine wpAny_comprehension_free (use := use) rfl hs (clOf_eq hfr) o1 o3 (thn (hi pins s σ H _ I h) fun v s1 h1 => thn h1 fun itv s2 h2 => ?_)
  obtain ⟨it, fp, tn, J, H2, rfl, I2, T, st2, f2, W, ⟨m0, w0⟩, turn⟩ := h2
  have hl : ∀ b ∈ fp, b < s2.heap.objs.size := fun b hb => by
    obtain ⟨o, e, _⟩ := T.obj 0 _ st2 b hb
    exact Heap.lt_size e
  refine wpAny_newObj_type (wpAny_newFunctionEnv o2 (by intro y hy; simp at hy) (fun h1 ns1 sb1 => ?_) o1)
  dsimp only at ns1 sb1 ⊢
  generalize hG : s2.heap.push { cls := .type "list", dict := none, data := .seq ([] : List Value).toArray } = G at ns1 sb1 ⊢
  have hGs : G.objs.size = s2.heap.objs.size + 1 := by rw [← hG, Heap.size_push]
  have hCl : s2.heap.objs.size ≤ G.objs.size := by omega
  have hDC : s2.heap.objs.size ≠ G.objs.size := by omega
  have old : ∀ b o, s2.heap.get? b = some o → h1.get? b = some o := fun b o e => by
    have lt := Heap.lt_size e
    exact sb1.extBut b o (Nat.ne_of_lt (Nat.lt_of_lt_of_le lt hCl)) (Heap.get?_push_of_some _ (hG ▸ Heap.get?_push_of_some _ e))
  have hD1 : h1.get? s2.heap.objs.size = some { cls := .type "list", data := .seq ([] : List Value).toArray 0 } :=
    sb1.extBut _ _ hDC (Heap.get?_push_of_some _ (hG ▸ Heap.get?_push_size _ rfl))
  have nD2 : H2 s2.heap.objs.size = none := I2.hok.fresh (Nat.le_refl _)
  have nC2 : H2 G.objs.size = none := I2.hok.fresh hCl
  -- the loop from any state that the block may begin with
  have loop : ∀ s3 : Shared, s3 = { s2 with heap := h1, toks := s2.toks + ([] : List (Str × Value)).length } →
      codeAny (model X.prog X.w) X.A (.compLoop (.ListComp elt [⟨tg, iter, cs, 0⟩] sc pos) 0 (.ref it) (.ref s2.heap.objs.size) (compEnvC sc (clOf sc X.env) G.objs.size X.env))
        (compPost (model X.prog X.w) X.A X.xe use Qf (.ref s2.heap.objs.size) G.objs.size) s3 := by
    rintro s3 rfl
    have I3 := blk_start (fp := fp) (C := G.objs.size) (h1 := h1) (tk := s2.toks + ([] : List (Str × Value)).length) I2 h0 hN ok f2 hl hCl old ns1
    have stat : ∀ {H' : Hp} {o : Obj}, (∀ b ∈ fp, H' b = none) → ∀ b ∈ fp, FpOk (blk X N' sc G.objs.size fp pins s2 H2) [(s2.heap.objs.size, o)] H' b := fun hn b hb => by
      have lt := hl b hb
      refine ⟨hn b hb, Nat.ne_of_lt (Nat.lt_of_lt_of_le lt hCl), I3.ok.exfs b hb, .inl hb, (I3.ok.exf b hb).2, fun p hp => ?_⟩
      rcases List.mem_append.mp hp with z | z
      · exact (f2 b hb).2.2.2.2.2 p z
      · have e : p.1 = s2.heap.objs.size := by rw [List.mem_singleton.mp z]
        rw [e]
        exact Nat.ne_of_gt lt
    have pinD : ∀ {σ' : St} {H' : Hp} {s' : Shared} {o : Obj}, Inv (blk X N' sc G.objs.size fp pins s2 H2) [] σ' H' s' → s'.heap.get? s2.heap.objs.size = some o → (∀ v, o.data ≠ .cell v) → H' s2.heap.objs.size = none →
        Inv (blk X N' sc G.objs.size fp pins s2 H2) [(s2.heap.objs.size, o)] σ' H' s' := fun {σ' H' s' o} J' e hd hn => J'.pins_of fun p hp => by
      rw [List.mem_singleton.mp hp]
      exact ⟨e, hn, hDC, fun z => by
        rcases List.mem_cons.mp (I2.stkSub _ z) with r | r
        · exact absurd I2.lt (by rw [← r]; exact Nat.lt_irrefl _)
        · exact I2.nofs (Nat.le_refl _) r, hd⟩
    refine lc_loop (fun k s' => ∃ (i : Nat) (ys : List V) (its : List Value) (c : Nat) (σ' : St) (H' : Hp), Inv (blk X N' sc G.objs.size fp pins s2 H2) [] σ' H' s' ∧ tn i s'.heap ∧ (∀ b ∈ fp, H' b = none) ∧
      s'.heap.get? s2.heap.objs.size = some { cls := .type "list", data := .seq its.toArray c } ∧ Vals ys its ∧ H' s2.heap.objs.size = none ∧ W i k ys σ' H') ?_ m0 _
      ⟨0, [], [], 0, _, H2, I3, T.keep _ _ _ st2 fun b _ o e => old b o e, fun b hb => (f2 b hb).1, hD1, .nil, nD2, w0⟩
    rintro k s' ⟨i, ys, its, c, σ', H', I', st', fr', hD', hv, nD, w'⟩
    obtain ⟨hz, cases⟩ := turn i k ys σ' H' w'
    have I'' := pinD I' hD' (fun v => by intro z; cases z) nD
    rcases cases with ⟨stop, q⟩ | ⟨go, N, hN2, step⟩
    · refine thn (T.done (blk X N' sc G.objs.size fp pins s2 H2) rfl rfl rfl hc i _ s' σ' H' NoX I'' (stat fr') st' stop) fun r s4 ⟨hr, I4⟩ => ?_
      subst hr
      obtain ⟨e4, n4, _⟩ := I4.pin (s2.heap.objs.size, { cls := .type "list", data := .seq its.toArray c }) (List.mem_append_right _ (List.mem_singleton.mpr rfl))
      have u4 : Un (frs X.stack) fp H2 H' s2.heap s4.heap := I4.base
      have nC4 : H' G.objs.size = none := I4.free
      obtain ⟨m4, ns4, _⟩ := I4.loc
      have neD : ∀ b o, s2.heap.get? b = some o → b ≠ s2.heap.objs.size := fun b o e => Nat.ne_of_lt (Heap.lt_size e)
      have u5 : Un (frs X.stack) fp H2 (upd H' s2.heap.objs.size (.lst ys)) s2.heap s4.heap :=
        ⟨u4.keep, u4.slot, fun b o e nb hx => by rw [upd_ne (neD b o e)]; exact u4.free b o e nb hx, u4.there, fun b xs e => by rw [upd_ne (ne_of_none e nD2)]; exact u4.tups b xs e,
          fun b o u e => by rw [upd_ne (ne_of_none e nD2)]; exact u4.frzs b o u e, fun b ps e => by rw [upd_ne (ne_of_none e nD2)]; exact u4.tbls b ps e⟩
      have hok5 : HOk X.prog X.w (upd H' s2.heap.objs.size (.lst ys)) s4.heap := fun a o e => by
        by_cases ea : a = s2.heap.objs.size
        · subst ea
          rw [upd_same] at e
          cases e
          exact ⟨hz, its, c, hv, e4⟩
        · rw [upd_ne ea] at e
          exact (I4.hok a o e).stay (fun _ _ _ q => q) (fun b q => by rw [upd_ne (ne_of_none q nD)]; exact q) fun b xs q => by rw [upd_ne (ne_of_none q nD)]; exact q
      have I5 : Inv X pins σ (upd H' s2.heap.objs.size (.lst ys)) s4 := I2.call' I4.os u5 hok5 I4.bare fun b hb => ⟨(f2 b hb).2.2.2.1, (f2 b hb).2.1, (f2 b hb).2.2.2.2.1, (f2 b hb).2.2.2.2.2⟩
      refine fin _ _ ys H' s4 I5 ⟨m4, ns4⟩ (I2.fpOk hCl ?_) (q _ nD)
      rw [upd_ne (Ne.symm hDC)]
      exact nC4
    · refine thn (T.item (blk X N' sc G.objs.size fp pins s2 H2) rfl rfl rfl hc i _ s' σ' H' NoX I'' (stat fr') st' go) fun r s4 ⟨u, hr, h4⟩ => ?_
      subst hr
      refine thn h4 fun _ s5 ⟨x, H5, I5, r5, y5, st5, fr5⟩ => ?_
      have I5' := I5.pinned (stat fr5) (T.obj _ _ st5)
      refine thn (hg _ _ _ _ _ _ s5 σ' H5 x u _ I5' r5 (step x H5 y5)) fun _ s6 ⟨σ6, H6, I6, q6⟩ => ?_
      refine thn (ht _ _ _ _ _ _ s6 σ6 H6 _ I6 q6) fun b s7 ⟨H7, I7, q7⟩ => ?_
      have back : ∀ {s8 : Shared} {H8 : Hp} (m' : Nat), Inv (blk X N' sc G.objs.size fp pins s2 H2) ([(s2.heap.objs.size, { cls := .type "list", data := .seq its.toArray c })] ++ pinsAt fp s5.heap) σ6 H8 s8 →
          tn (i + 1) s8.heap ∧ (∀ b ∈ fp, H8 b = none) ∧ s8.heap.get? s2.heap.objs.size = some { cls := .type "list", data := .seq its.toArray c } ∧ H8 s2.heap.objs.size = none := fun {s8 H8} m' I8 => by
        have pn : ∀ p ∈ [(s2.heap.objs.size, ({ cls := .type "list", data := .seq its.toArray c } : Obj))] ++ pinsAt fp s5.heap, s8.heap.get? p.1 = some p.2 ∧ H8 p.1 = none := fun p hp =>
          let ⟨a, b, _⟩ := I8.pin p (List.mem_append_right _ hp); ⟨a, b⟩
        refine ⟨T.keep _ _ _ st5 fun b hb o e => (pn (b, o) (List.mem_append_right _ (mem_pinsAt hb e))).1, fun b hb => ?_, pn _ (List.mem_append_left _ (List.mem_singleton.mpr rfl))⟩
        obtain ⟨o, e, _⟩ := T.obj _ _ st5 b hb
        exact (pn (b, o) (List.mem_append_right _ (mem_pinsAt hb e))).2
      have bare : ∀ {s8 : Shared} {H8 : Hp} {pl : List (Addr × Obj)}, Inv (blk X N' sc G.objs.size fp pins s2 H2) pl σ6 H8 s8 → Inv (blk X N' sc G.objs.size fp pins s2 H2) [] σ6 H8 s8 := fun I8 => I8.pins_of fun p hp => nomatch hp
      cases b with
      | false =>
        rw [if_neg Bool.false_ne_true] at q7 ⊢
        obtain ⟨m', lt, w7⟩ := hN2 _ _ _ q7
        obtain ⟨b1, b2, b3, b4⟩ := back m' I7
        exact ⟨m', lt, i + 1, ys, its, c, σ6, H7, bare I7, b1, b2, b3, hv, b4, w7⟩
      | true =>
        rw [if_pos rfl] at q7 ⊢
        refine thn (he _ _ _ _ _ _ s7 σ6 H7 _ I7 q7) fun y s8 ⟨yv, H8, I8, r8, q8⟩ => ?_
        obtain ⟨m', lt, w8⟩ := hN2 _ _ _ q8
        obtain ⟨b1, b2, b3, b4⟩ := back m' I8
        have hlen := hv.length
        refine append_at (hsz := by rw [List.size_toArray, ← hlen]; exact hz) b3 fun h9 sb9 e9 => ?_
        have I9 : Inv (blk X N' sc G.objs.size fp pins s2 H2) [] σ6 H8 { s8 with heap := h9 } := (bare I8).turned (t' := s8.toks) (it := s2.heap.objs.size) (fun b o hb e => sb9.extBut b o hb e) b4 hDC (.inr (Nat.le_refl _))
          (fun x c e z => by
            obtain ⟨v, hv⟩ := I2.cell x c (clOf_look hfr e)
            exact absurd hv.lt (by rw [z]; exact Nat.lt_irrefl _))
          fun p hp z => by
            have hp' : p ∈ X.pn ++ pins := by
              have : p ∈ (X.pn ++ pins) ++ ([] : List (Addr × Obj)) := hp
              rw [List.append_nil] at this
              exact this
            exact absurd (Heap.lt_size (I2.pin p hp').1) (by rw [z]; exact Nat.lt_irrefl _)
        refine ⟨m', lt, i + 1, ys ++ [yv], its ++ [y], c + 1, σ6, H8, I9, T.keep _ _ _ b1 fun b hb o e => sb9.extBut b o (Nat.ne_of_lt (hl b hb)) e, b2, ?_, hv.append (.cons r8 .nil), b4, w8⟩
        rw [e9]
        simp
  exact codeAny_compStart_list (loop _ rfl) (T.self _ 0 _ _ _ (T.keep _ _ _ st2 fun b _ o e => old b o e) (loop _ rfl))

/-- a comprehension as a value -/
theorem pe_lc (hc : X.calm = true) (hi : PI X tg iter wi) (h0 : X.env.scope = sc0) (hN : X.N = XN) (ok : lcOk sc0 sc XN N' n kp = true)
    (hg : ∀ C fp pins s H, PG (blk X N' sc C fp pins s H) tg g) (ht : ∀ C fp pins s H, PTs (blk X N' sc C fp pins s H) cs tc) (he : ∀ C fp pins s H, PE (blk X N' sc C fp pins s H) elt te)
    (hs : ∀ x, foldedSetIterable iter X.env x = pure x := by intro _; rfl) : PE X (.ListComp elt [⟨tg, iter, cs, 0⟩] sc pos) (tLc n kp wi g tc te) := by
  intro pins s σ H Q I h
  rw [eval_ListComp]
  refine lc_run hc hi h0 hN ok hg ht he hs I h fun D C ys H' s' I' ns fp q => ?_
  obtain ⟨m, hm⟩ := ns
  refine ⟨m, hm, fun h' sb => ⟨.ref D, _, ?_, rfl, q⟩⟩
  obtain ⟨f1, f2, f3, f4, f5, f6⟩ := fp
  exact I'.turned (t' := s'.toks) (it := C) (fun b o hb e => sb.extBut b o hb e) f1 f2 f4 f5 f6
end
end L2

set_option maxRecDepth 100000
set_option maxHeartbeats 4000000
namespace L2
open PySem PySem.Spec PyProof.Rows
section
variable {X : Cx} {tg iter elt : Expr} {cs : List Expr} {sc sc0 : Scope} {pos : Pos} {wi : TI} {g : TG} {tc : TT} {te : TE} {XN N' : List Str} {n : Nat} {kp : List Nat}
/-- name = [ .. for .. ], where the store is exchanged with the letting go of the block's names -/
theorem ps_setLc {i : Nat} {y : Str} {py spos : Pos} (hNd : X.N.Nodup) (hiy : X.N[i]? = some y) (hy : X.env.scope.names.lookup y = some .local) (hsw : swapsWith (.ListComp elt [⟨tg, iter, cs, 0⟩] sc pos) (some (.Name y py)) spos.line X.env = pure true)
    (hc : X.calm = true) (hi : PI X tg iter wi) (h0 : X.env.scope = sc0) (hN : X.N = XN) (ok : lcOk sc0 sc XN N' n kp = true)
    (hg : ∀ C fp pins s H, PG (blk X N' sc C fp pins s H) tg g) (ht : ∀ C fp pins s H, PTs (blk X N' sc C fp pins s H) cs tc) (he : ∀ C fp pins s H, PE (blk X N' sc C fp pins s H) elt te)
    (hs : ∀ x, foldedSetIterable iter X.env x = pure x := by intro _; rfl) : PS X (.Assign [.Name y py] (.ListComp elt [⟨tg, iter, cs, 0⟩] sc pos) spos) (tAsg (tLc n kp wi g tc te) (gName i)) := by
  intro pins s σ H D I h
  rw [exec_Assign_Name_used _ _ _ _ hsw]
  refine wpAny_bind (wpAny_standAt (wpAny_bind ?_))
  have fin : wpAny (model X.prog X.w) X.A (comprehension (.ListComp elt [⟨tg, iter, cs, 0⟩] sc pos) sc X.env (firstIterPos [⟨tg, iter, cs, 0⟩] pos) (newList []) false (firstIter [⟨tg, iter, cs, 0⟩] X.env) (some (assign (.Name y py) X.env)))
      (fun _ s' => SP X pins D .next s') X.xe s := by
    refine lc_run (Q := fun x H1 => gName i x σ H1 D.nx) hc hi h0 hN ok hg ht he hs I h fun D' C ys H' s' I' ns fp q => ?_
    obtain ⟨m, hm⟩ := ns
    obtain ⟨f1, f2, f3, f4, f5, f6⟩ := fp
    obtain ⟨o, es, ep, ho, rest⟩ := id hm
    have nc : ∀ v, o.data ≠ .cell v := fun v z => by
      rw [rest.1] at z
      cases z
    have I'' : Inv X (pins ++ [(C, o)]) σ (upd H' D' (.lst ys)) s' := I'.pins_of fun p hp => by
      rcases List.mem_append.mp hp with z | z
      · exact I'.pin p (List.mem_append_right _ z)
      · rw [List.mem_singleton.mp z]
        exact ⟨ho, f1, f2, f3, nc⟩
    show wpAny (model X.prog X.w) X.A (assign (.Name y py) X.env (.ref D')) _ X.xe s'
    refine thn (pg_name hNd hiy (.inl hy) (.inr hy) _ s' σ _ (.ref D') (.ref D') D.nx I'' rfl q) fun _ s'' ⟨σ3, H3, I3, q3⟩ => ?_
    obtain ⟨p1, p2, _⟩ := I3.pin (C, o) (List.mem_append_right _ (List.mem_append_right _ (List.mem_singleton.mpr rfl)))
    refine ⟨m, ⟨o, es, ep, p1, rest⟩, fun h' sb => ⟨σ3, H3, ?_, q3⟩⟩
    exact I3.unpinned.turned (t' := s''.toks) (it := C) (fun b o hb e => sb.extBut b o hb e) p2 f2 f4 f5 f6
  show wpAny (model X.prog X.w) X.A (comprehension _ _ _ _ _ _ _ _ >>= _) _ _ s
  exact wpAny_bind (thn fin fun _ s' q => wpAny_pure (wpAny_pure q))
end

/-! ### B. Built-ins that the layer lacks -/
section
variable {X : Cx}
def kitTy (T C : String) : Option Bool := if T = C then some true else if PySem.W.kitMeta C = true then (fastBuiltinMro T).map (·.contains (.type C)) else none
theorem kit_ty {K : PySem.W.Frag} {T C : String} {b : Bool} (h : kitTy T C = some b) : PySem.W.kitOne K (.type T) (.type C) = some b := by
  unfold kitTy at h
  unfold PySem.W.kitOne
  by_cases e : T = C
  · subst e
    rw [if_pos rfl] at h
    rw [if_pos (beq_self_eq_true _)]
    exact h
  · rw [if_neg e] at h
    have z : ¬ (Value.type T == Value.type C) = true := fun q => by
      have q' := eq_of_beq q
      injection q' with q''
      exact e q''
    rw [if_neg z]
    exact h
/-- isinstance(x, T), T a built-in type -/
theorem call_isi : CallR X (.builtin "isinstance") (fun xs H Q => ∃ (x : V) (T C : String) (b : Bool), xs = [x, .ty C] ∧ TyOf X.K H x (.type T) ∧ kitTy T C = some b ∧ Q (.bl b) H) := by
  intro pins s σ H xs us Q I r h
  obtain ⟨x, T, C, b, rfl, ty, e, q⟩ := h
  obtain ⟨u, w', rfl, rx, ry⟩ := vals2 r
  cases (show w' = Value.type C from ry)
  exact isinst_ok I rx ty (kit_ty e) fun tk => ⟨.bl b, H, I.tok tk, rfl, q⟩
theorem isi_int_int : kitTy "int" "int" = some true := by decide +kernel
theorem isi_int_bool : kitTy "int" "bool" = some false := by decide +kernel
theorem isi_list_list : kitTy "list" "list" = some true := by decide +kernel
/-- two lists of ints compared -/
theorem op_ne_ints (hu : X.A.units + 64 < cLine) : OpR X (compareOp .NotEq) (fun x y H Q => ∃ (a b : Addr) (ns ms : List Int), x = .ref a ∧ y = .ref b ∧ SqL X.K H a (ns.map V.int) ∧ SqL X.K H b (ms.map V.int) ∧ Q (.bl (!decide (ns = ms))) H) := by
  intro pins s σ H x y v u Q I rx ry h
  obtain ⟨a, b, ns, ms, rfl, rfl, ha, hb, q⟩ := h
  cases rx
  cases ry
  obtain ⟨xs, rv, p, _⟩ := I.list ha
  obtain ⟨ys, rv', p', _⟩ := I.list hb
  exact PySem.W.ke_ne_ints p.isList p'.isList (intsAre_of rv) (intsAre_of rv') hu ⟨.bl _, H, I, rfl, q⟩
end
end L2

set_option maxRecDepth 100000
set_option maxHeartbeats 4000000
namespace L2
open PySem PySem.Spec PyProof.Rows

/-! ### C. enumerate of a list or a tuple -/
section
variable {prog : Program} {w : World} {A : Around} {E : Value → Shared → Prop} {s : Shared}
open AutoSeq1 (wpAny_loadPart') in
end

section
variable {X : Cx} {pins : List (Addr × Obj)} {σ : St} {H : Hp} {s : Shared}
end
/-! the iterator of enumerate(e) -/
end L2

set_option maxRecDepth 100000
set_option maxHeartbeats 4000000
namespace L2
open PySem PySem.Spec PyProof.Rows
/-! ### D. More built-ins -/
section
variable {X : Cx}
open AutoSeq1 (wpAny_loadPart') in
/-- the sum of a list of ints -/
theorem call_sum_ints (hc : X.calm = true) : CallR X (.builtin "sum") (fun xs H Q => ∃ (p : Addr) (ns : List Int), xs = [.ref p] ∧ SqL X.K H p (ns.map V.int) ∧ Q (.int ns.sum) H) := by
  intro pins s σ H xs us Q I r h
  obtain ⟨p, ns, rfl, hq, q⟩ := h
  obtain ⟨u, rfl, rx⟩ := vals1 r
  cases rx
  obtain ⟨its, rv, pl, hz'⟩ := I.list hq
  have ia := intsAre_of rv
  obtain ⟨ps, hx⟩ := ia.allInts.items
  have hl' : s.heap.IsList p (intItems ps) := hx ▸ pl.isList
  refine sum_intListG (I.ok.hd hc) hl' fun g tk t' hk => ?_
  have e1 : ns = ps.toList.map (·.1) := by
    rw [← nums_intItems, ← hx]
    exact (show numsOf its.toArray.toList = ns from ia.numsOf).symm
  have e2 : preSum (numAt ps) ps.size = ns.sum := by
    rw [preSum_eq, List.take_of_length_le (by simp), e1]
  rw [e2]
  exact ⟨.int _, H, I.kept (t' := tk) hk, ⟨t', rfl⟩, q⟩
end

/-! the layer's rules with the text's heap named (for blocks) -/
section
variable {X : Cx} {K : PySem.W.Frag}
theorem ixT (h : X.K = K := by rfl) : IxR X (rIxT K) := h ▸ ix_tup
theorem ixL (h : X.K = K := by rfl) : IxR X (rIxL K) := h ▸ ix_list
theorem lenS (h : X.K = K := by rfl) : CallR X (.builtin "len") (fun xs H Q => ∃ p ys, xs = [.ref p] ∧ (SqL K H p ys ∨ SqT K H p ys) ∧ Q (.int ys.length) H) := h ▸ call_len_seq
theorem isiK (h : X.K = K := by rfl) : CallR X (.builtin "isinstance") (fun xs H Q => ∃ (x : V) (T C : String) (b : Bool), xs = [x, .ty C] ∧ TyOf K H x (.type T) ∧ kitTy T C = some b ∧ Q (.bl b) H) := h ▸ call_isi
end
/-! ### E. Data: what a value stands for -/
mutual
def Dn (H : Hp) : PyData → V → Prop
  | .none, v => v = .non
  | .bool b, v => v = .bl b
  | .int i, v => v = .int i
  | .str x, v => v = .str x
  | .list ds, v => ∃ a xs, v = .ref a ∧ H a = some (.lst xs) ∧ DnL H ds xs
  | .tuple ds, v => ∃ a xs, v = .ref a ∧ H a = some (.tup xs) ∧ DnL H ds xs
  | .dict kvs, v => kvs = [] ∧ ∃ a, v = .ref a ∧ H a = some (.dK [])
def DnL (H : Hp) : List PyData → List V → Prop
  | [], xs => xs = []
  | d :: ds, xs => ∃ x r, xs = x :: r ∧ Dn H d x ∧ DnL H ds r
end
mutual
theorem Dn.same {H H' : Hp} (h : Same H H') : ∀ (d : PyData) (v : V), Dn H d v → Dn H' d v
  | .none, _, q => q
  | .bool _, _, q => q
  | .int _, _, q => q
  | .str _, _, q => q
  | .list ds, _, ⟨a, xs, e, q, r⟩ => ⟨a, xs, e, h _ _ q, DnL.same h ds xs r⟩
  | .tuple ds, _, ⟨a, xs, e, q, r⟩ => ⟨a, xs, e, h _ _ q, DnL.same h ds xs r⟩
  | .dict _, _, ⟨e, a, q, r⟩ => ⟨e, a, q, h _ _ r⟩
theorem DnL.same {H H' : Hp} (h : Same H H') : ∀ (ds : List PyData) (xs : List V), DnL H ds xs → DnL H' ds xs
  | [], _, q => q
  | d :: ds, _, ⟨x, r, e, q, z⟩ => ⟨x, r, e, Dn.same h d x q, DnL.same h ds r z⟩
end
theorem DnL.length {H : Hp} : ∀ {ds : List PyData} {xs : List V}, DnL H ds xs → ds.length = xs.length
  | [], _, q => by cases (show _ = [] from q); rfl
  | d :: ds, _, ⟨x, r, e, _, z⟩ => by rw [e, List.length_cons, List.length_cons, DnL.length z]
theorem DnL.get {H : Hp} : ∀ {ds : List PyData} {xs : List V} {i : Nat} {x : V}, DnL H ds xs → xs[i]? = some x → ∃ d, ds[i]? = some d ∧ Dn H d x
  | [], _, i, x, q, e => by rw [(show _ = [] from q)] at e; simp at e
  | d :: ds, _, 0, x, ⟨y, r, e, q, z⟩, h => by rw [e] at h; cases h; exact ⟨d, rfl, q⟩
  | d :: ds, _, i + 1, x, ⟨y, r, e, q, z⟩, h => by
    rw [e] at h
    obtain ⟨d', h1, h2⟩ := DnL.get (i := i) z (by simpa using h)
    exact ⟨d', by simpa using h1, h2⟩
theorem DnL.append {H : Hp} : ∀ {ds es : List PyData} {xs ys : List V}, DnL H ds xs → DnL H es ys → DnL H (ds ++ es) (xs ++ ys)
  | [], es, xs, ys, q, r => by rw [(show xs = [] from q)]; exact r
  | d :: ds, es, _, ys, ⟨x, t, e, q, z⟩, r => ⟨x, t ++ ys, by rw [e]; rfl, q, DnL.append z r⟩
mutual
theorem Dn.reads {X : Cx} {pins : List (Addr × Obj)} {σ : St} {H : Hp} {s : Shared} (I : Inv X pins σ H s) : ∀ (d : PyData) (v : V) (u : Value), Dn H d v → d.canLay0 = true → RelV v u → ∃ as, Reads s.heap u d as
  | .none, v, u, q, _, r => by cases (show v = .non from q); cases (show u = Value.none from r); exact ⟨_, .none⟩
  | .bool b, v, u, q, _, r => by cases (show v = .bl b from q); cases (show u = Value.bool b from r); exact ⟨_, .bool b⟩
  | .int i, v, u, q, _, r => by cases (show v = .int i from q); obtain ⟨t, rfl⟩ := (show ∃ t, u = Value.int i t from r); exact ⟨_, .int i t⟩
  | .str x, v, u, q, _, r => by cases (show v = .str x from q); obtain ⟨t, rfl⟩ := (show ∃ t, u = Value.str x t from r); exact ⟨_, .str x t⟩
  | .list ds, _, u, ⟨a, xs, rfl, q, z⟩, c, r => by
    cases (show u = Value.ref a from r)
    obtain ⟨_, its, n, rv, e⟩ := (show ObjOk X.prog X.w H s.heap a (.lst xs) from I.hok a _ q)
    obtain ⟨as, ra⟩ := DnL.reads I ds xs its z (by simpa [PyData.canLay0] using c) rv
    exact ⟨_, .list e rfl rfl (by simpa using ra)⟩
  | .tuple ds, _, u, ⟨a, xs, rfl, q, z⟩, c, r => by
    cases (show u = Value.ref a from r)
    obtain ⟨_, its, rv, o, e, hc, n, hd⟩ := (show ObjOk X.prog X.w H s.heap a (.tup xs) from I.hok a _ q)
    obtain ⟨as, ra⟩ := DnL.reads I ds xs its z (by simpa [PyData.canLay0] using c) rv
    exact ⟨_, .tuple e hc hd (by simpa using ra)⟩
  | .dict k, v, u, _, c, _ => by simp [PyData.canLay0] at c
theorem DnL.reads {X : Cx} {pins : List (Addr × Obj)} {σ : St} {H : Hp} {s : Shared} (I : Inv X pins σ H s) : ∀ (ds : List PyData) (xs : List V) (us : List Value), DnL H ds xs → PyData.canLayAll0 ds = true → Vals xs us → ∃ as, ReadsAll s.heap us ds as
  | [], xs, us, q, _, r => by
    cases (show xs = [] from q)
    cases r
    exact ⟨_, .nil⟩
  | d :: ds, _, us, ⟨x, t, rfl, q, z⟩, c, r => by
    cases r with
    | cons rx rt =>
      have c' : PyData.canLay0 d = true ∧ PyData.canLayAll0 ds = true := by simpa [PyData.canLayAll0] using c
      obtain ⟨a1, r1⟩ := Dn.reads I d x _ q c'.1 rx
      obtain ⟨a2, r2⟩ := DnL.reads I ds t _ z c'.2 rt
      exact ⟨_, .cons r1 r2⟩
end
mutual
theorem eqv_refl : ∀ d : PyData, d.canLay0 = true → PyData.eqv d d = true
  | .none, _ => by simp [PyData.eqv]
  | .bool _, _ => by simp [PyData.eqv]
  | .int _, _ => by simp [PyData.eqv]
  | .str _, _ => by simp [PyData.eqv]
  | .list ds, c => by simpa [PyData.eqv] using eqvAll_refl ds (by simpa [PyData.canLay0] using c)
  | .tuple ds, c => by simpa [PyData.eqv] using eqvAll_refl ds (by simpa [PyData.canLay0] using c)
  | .dict _, c => by simp [PyData.canLay0] at c
theorem eqvAll_refl : ∀ ds : List PyData, PyData.canLayAll0 ds = true → PyData.eqvAll ds ds = true
  | [], _ => by simp [PyData.eqvAll]
  | d :: ds, c => by
    have c' : PyData.canLay0 d = true ∧ PyData.canLayAll0 ds = true := by simpa [PyData.canLayAll0] using c
    simp [PyData.eqvAll, eqv_refl d c'.1, eqvAll_refl ds c'.2]
end
end L2

set_option maxRecDepth 100000
set_option maxHeartbeats 4000000
/-! ### F. Woods as data -/
namespace Wd
open PySem L2
def isW : PyData → Bool
  | .int _ => true
  | _ => false
/-! the program's looks at data, as functions -/
def within (d : PyData) (lo hi : Int) : Bool := match d with
  | .int i => decide (lo ≤ i) && decide (i ≤ hi)
  | _ => false
def tupFull (d : PyData) : Bool := match d with
  | .tuple ds => decide (0 < ds.length)
  | _ => false
def rising (many : Int) : List PyData → Int → Bool
  | [], _ => true
  | .int i :: ds, last => decide (last + 1 ≤ i) && decide (i ≤ many - 1) && rising many ds i
  | _ :: _, _ => false
def risK (many : Int) : PyData → PyData → Bool
  | .int up, .tuple ks => rising many ks up
  | _, _ => false
def highK (h : PyData) : PyData → Bool
  | .tuple ks => within h 1 ks.length
  | _ => false
def lowH (l : PyData) : PyData → Bool
  | .int hi => within l 0 hi
  | _ => false
def isBough (many : Int) (d : PyData) : Bool := match d with
  | .tuple [u, l, h, k] => within u 0 (many - 1) && (tupFull k && (risK many u k && (highK h k && lowH l h)))
  | _ => false
def fstD : PyData → PyData
  | .tuple (x :: _) => x
  | _ => .none
def pairOk : PyData → Bool
  | .tuple [_, n] => isW n
  | _ => false
def arePairs (many : Int) (d : PyData) : Bool := match d with
  | .tuple ds => decide (0 < ds.length) && ds.all pairOk && rising many (ds.map fstD) (-1)
  | _ => false
def neI : PyData → PyData → Bool
  | .int i, .int j => !decide (i = j)
  | _, _ => false
def tieK (many : Int) (s : Str) (x y : PyData) : Bool := if s = ("most" : Str) then isW x && arePairs many y else if s = ("needs" : Str) ∨ s = ("bans" : Str) then within x 0 (many - 1) && (within y 0 (many - 1) && neI x y) else false
def tieD (many : Int) (x y : PyData) : PyData → Bool
  | .str s => tieK many s x y
  | _ => false
def isTie (many : Int) (d : PyData) : Bool := match d with
  | .tuple [k, x, y] => tieD many x y k
  | _ => false
def toI : PyData → Int
  | .int i => i
  | _ => 0
def kidsOf : PyData → List Int
  | .tuple [_, _, _, .tuple ks] => ks.map toI
  | _ => []
/-- the boughs are those of a wood -/
structure GoodB (many : Int) (bs : List PyData) : Prop where
  each : ∀ b ∈ bs, isBough many b = true
  kids : (bs.flatMap kidsOf).Perm ((List.range' 0 (many - 1).toNat).map fun i : Nat => (1 : Int) + i)
theorem same_new {H : Hp} {p : Addr} (h : H p = none) (o : HO) : Same H (upd H p o) := same_of fun b u q => by rw [upd_ne (ne_of_none q h)]; exact q
theorem small {n : Nat} (h : n ≤ 1000) : n ≤ sizeLine := Nat.le_of_lt (small1000 h)
theorem dn_int {H : Hp} {i : Int} {v : V} (h : Dn H (.int i) v) : v = .int i := h
theorem dn_tup {H : Hp} {ds : List PyData} {v : V} (h : Dn H (.tuple ds) v) : ∃ a xs, v = .ref a ∧ H a = some (.tup xs) ∧ DnL H ds xs := h
theorem isW_int {d : PyData} (h : isW d = true) : ∃ i, d = .int i := by
  cases d <;> first | exact ⟨_, rfl⟩ | cases h
theorem sqT {K : PySem.W.Frag} {H : Hp} {a : Addr} {xs : List V} (h : H a = some (.tup xs)) : SqT K H a xs := .inl (.inl h)
theorem at0 {x : V} {r : List V} : atI (x :: r) 0 = some x := atI_nat (j := 0) rfl
theorem at1 {x y : V} {r : List V} : atI (x :: y :: r) 1 = some y := atI_nat (j := 1) rfl
theorem at2 {x y z : V} {r : List V} : atI (x :: y :: z :: r) 2 = some z := atI_nat (j := 2) rfl
theorem at3 {x y z w : V} {r : List V} : atI (x :: y :: z :: w :: r) 3 = some w := atI_nat (j := 3) rfl
theorem within_int {d : PyData} {lo hi : Int} (h : within d lo hi = true) : ∃ i, d = .int i ∧ lo ≤ i ∧ i ≤ hi := by
  cases d with
  | int i =>
    have z : (decide (lo ≤ i) && decide (i ≤ hi)) = true := h
    simp only [Bool.and_eq_true, decide_eq_true_eq] at z
    exact ⟨i, rfl, z.1, z.2⟩
  | _ => cases h
theorem tupFull_tup {d : PyData} (h : tupFull d = true) : ∃ ds, d = .tuple ds ∧ 0 < ds.length := by
  cases d with
  | tuple ds => exact ⟨ds, rfl, of_decide_eq_true h⟩
  | _ => cases h
theorem dnl_ints {H : Hp} : ∀ {ns : List Int} {xs : List V}, DnL H (ns.map PyData.int) xs → xs = ns.map V.int
  | [], xs, h => h
  | n :: r, _, ⟨x, t, rfl, hx, ht⟩ => by rw [dnl_ints ht, dn_int hx]; rfl
theorem ints_dnl {H : Hp} : ∀ (ns : List Int), DnL H (ns.map PyData.int) (ns.map V.int)
  | [] => rfl
  | n :: r => ⟨_, _, rfl, rfl, ints_dnl r⟩
end Wd

set_option maxRecDepth 100000
set_option maxHeartbeats 4000000
namespace Ow
open PySem L2 Wd
-- woods
/-! ### the program's looks -/
-- woods2
-- woods3a
/-- a wood in the heap -/
structure WoodAt (H : Hp) (wd : Addr) (many : Int) (xs ys : List V) : Prop where
  ex : ∃ tb tc, H wd = some (.tup [.int many, .ref tb, .ref tc]) ∧ H tb = some (.tup xs) ∧ H tc = some (.tup ys)
theorem flatMap_take {α β : Type} {f : α → List β} {ds : List α} {i : Nat} {d : α} (h : ds[i]? = some d) : (ds.take (i + 1)).flatMap f = (ds.take i).flatMap f ++ f d := by
  obtain ⟨hi, e⟩ := List.getElem?_eq_some_iff.mp h
  rw [List.take_succ_eq_append_getElem hi, List.flatMap_append, e]
  simp
-- woods3t
-- laws
/-! ### the statement's own helpers -/
/-- data of tuples, texts and ints alone, so deep at most -/
def flatD : Nat → PyData → Bool
  | _, .int _ => true
  | _, .str s => PyData.strOk s
  | n + 1, .tuple ds => decide (ds.length ≤ 1000) && ds.all (flatD n)
  | _, _ => false
/-! a tie made -/
theorem mod_near {many one x : Int} (h1 : 1 < many) (h9 : many ≤ 9) (o0 : 0 ≤ one) (o1 : one < many) (x0 : 0 ≤ x) (x1 : x < many - 1) : 0 ≤ (one + 1 + x) % many ∧ (one + 1 + x) % many < many ∧ one ≠ (one + 1 + x) % many := by
  have e : many = 2 ∨ many = 3 ∨ many = 4 ∨ many = 5 ∨ many = 6 ∨ many = 7 ∨ many = 8 ∨ many = 9 := by omega
  rcases e with rfl | rfl | rfl | rfl | rfl | rfl | rfl | rfl <;> omega
theorem strOk_most : PyData.strOk ("most" : Str) = true := by decide +kernel
theorem strOk_needs : PyData.strOk ("needs" : Str) = true := by decide +kernel
theorem strOk_bans : PyData.strOk ("bans" : Str) = true := by decide +kernel
theorem pow_le {m : Nat} (h : m ≤ 9) : 2 ^ m ≤ 512 := Nat.pow_le_pow_right (by decide) h
/-- the pairs of a most tie so far: options below i, rising -/
structure PairsTo (H : Hp) (i : Nat) (ps : List PyData) (xs : List V) : Prop where
  dn : DnL H ps xs
  ok : ps.all pairOk = true
  flat : ps.all (flatD 1) = true
  ris : rising (i : Int) (ps.map fstD) (-1) = true
  few : ps.length ≤ i
theorem rising_mono {m m' : Int} (h : m ≤ m') : ∀ {ks : List PyData} {u : Int}, rising m ks u = true → rising m' ks u = true
  | [], _, _ => rfl
  | .int i :: ks, u, z => by
    have z' : (decide (u + 1 ≤ i) && decide (i ≤ m - 1) && rising m ks i) = true := z
    show (decide (u + 1 ≤ i) && decide (i ≤ m' - 1) && rising m' ks i) = true
    simp only [Bool.and_eq_true, decide_eq_true_eq] at z' ⊢
    exact ⟨⟨z'.1.1, by omega⟩, rising_mono h z'.2⟩
  | .none :: _, _, z => by cases z
  | .bool _ :: _, _, z => by cases z
  | .str _ :: _, _, z => by cases z
  | .list _ :: _, _, z => by cases z
  | .tuple _ :: _, _, z => by cases z
  | .dict _ :: _, _, z => by cases z
theorem rising_snoc {m j : Int} (h : j < m) : ∀ {ks : List PyData} {u : Int}, rising j ks u = true → u < j → rising m (ks ++ [.int j]) u = true
  | [], u, _, hu => by
    show (decide (u + 1 ≤ j) && decide (j ≤ m - 1) && true) = true
    rw [decide_eq_true (by omega), decide_eq_true (by omega)]
    rfl
  | .int i :: ks, u, z, hu => by
    have z' : (decide (u + 1 ≤ i) && decide (i ≤ j - 1) && rising j ks i) = true := z
    show (decide (u + 1 ≤ i) && decide (i ≤ m - 1) && rising m (ks ++ [.int j]) i) = true
    simp only [Bool.and_eq_true, decide_eq_true_eq] at z' ⊢
    exact ⟨⟨z'.1.1, by omega⟩, rising_snoc h z'.2 (by omega)⟩
  | .none :: _, _, z, _ => by cases z
  | .bool _ :: _, _, z, _ => by cases z
  | .str _ :: _, _, z, _ => by cases z
  | .list _ :: _, _, z, _ => by cases z
  | .tuple _ :: _, _, z, _ => by cases z
  | .dict _ :: _, _, z, _ => by cases z
theorem DnL.keepT {H H' : Hp} {f : PyData → Bool} (k : ∀ d v, f d = true → Dn H d v → Dn H' d v) : ∀ (ds : List PyData) (xs : List V), ds.all f = true → DnL H ds xs → DnL H' ds xs
  | [], _, _, q => q
  | d :: ds, _, c, ⟨x, r, e, q, z⟩ => by
    rw [List.all_cons, Bool.and_eq_true] at c
    exact ⟨x, r, e, k d x c.1 q, DnL.keepT k ds r c.2 z⟩
theorem Dn.keepT {H H' : Hp} (h : ∀ b xs, H b = some (.tup xs) → H' b = some (.tup xs)) : ∀ (n : Nat) (d : PyData) (v : V), flatD n d = true → Dn H d v → Dn H' d v
  | _, .int _, _, _, q => q
  | _, .str _, _, _, q => q
  | n + 1, .tuple ds, _, c, ⟨p, xs, e, q, z⟩ => ⟨p, xs, e, h _ _ q, DnL.keepT (Dn.keepT h n) ds xs ((Bool.and_eq_true _ _).mp c).2 z⟩
  | 0, .tuple ds, _, c, _ => by cases c
  | 0, .none, _, c, _ => by cases c
  | n + 1, .none, _, c, _ => by cases c
  | 0, .bool _, _, c, _ => by cases c
  | n + 1, .bool _, _, c, _ => by cases c
  | 0, .list _, _, c, _ => by cases c
  | n + 1, .list _, _, c, _ => by cases c
  | 0, .dict _, _, c, _ => by cases c
  | n + 1, .dict _, _, c, _ => by cases c
theorem keep_lst {H : Hp} {p : Addr} {xs ys : List V} (h : H p = some (.lst xs)) : ∀ b zs, H b = some (.tup zs) → upd H p (.lst ys) b = some (.tup zs) := fun b zs q => by
  rw [upd_ne (ne_of q h (by intro z; cases z))]
  exact q
-- boughs
/-! ### the boughs made -/
structure Grp where
  t : Addr
  up : Int
  l : Addr
  kids : List Int
/-- the groups stand at g; H0 is the heap at the entry -/
structure GAt (H0 H : Hp) (g : Addr) (gs : List Grp) : Prop where
  at_ : H g = some (.lst (gs.map fun x => V.ref x.t))
  new : H0 g = none
  tup : ∀ x ∈ gs, H x.t = some (.tup [.int x.up, .ref x.l])
  lst : ∀ x ∈ gs, H x.l = some (.lst (x.kids.map V.int)) ∧ H0 x.l = none ∧ g ≠ x.l
  nd : (gs.map (·.l)).Nodup
/-- what holds of the groups when the options below k are dealt out -/
structure GOk (k : Int) (gs : List Grp) : Prop where
  each : ∀ x ∈ gs, 0 ≤ x.up ∧ x.kids ≠ [] ∧ rising k (x.kids.map PyData.int) x.up = true
  perm : (gs.flatMap (·.kids)).Perm ((List.range' 0 (k - 1).toNat).map fun i : Nat => (1 : Int) + i)
theorem GOk.few {k : Int} {gs : List Grp} (G : GOk k gs) : gs.length ≤ (k - 1).toNat := by
  have e := G.perm.length_eq
  rw [List.length_map, List.length_range'] at e
  rw [← e]
  have go : ∀ l : List Grp, (∀ x ∈ l, x.kids ≠ []) → l.length ≤ (l.flatMap (·.kids)).length := by
    intro l
    induction l with
    | nil => intro _; exact Nat.le_refl _
    | cons x r ih =>
      intro h
      rw [List.flatMap_cons, List.length_append, List.length_cons]
      have h1 := List.length_pos_iff.mpr (h x List.mem_cons_self)
      have h2 := ih fun y hy => h y (List.mem_cons_of_mem _ hy)
      omega
  exact go gs fun x hx => (G.each x hx).2.1
theorem range_snoc (k : Nat) : ((List.range' 0 k).map fun i : Nat => (1 : Int) + i) ++ [((k : Int) + 1)] = (List.range' 0 (k + 1)).map fun i : Nat => (1 : Int) + i := by
  rw [List.range'_concat, List.map_append]
  simp
  omega
theorem GOk.new {k : Nat} {gs : List Grp} {t l : Addr} {u : Int} (G : GOk ((k : Int) + 1) gs) (u0 : 0 ≤ u) (u1 : u < (k : Int) + 1) : GOk ((k : Int) + 2) (gs ++ [⟨t, u, l, [(k : Int) + 1]⟩]) where
  each := fun x hx => by
    rcases List.mem_append.mp hx with z | z
    · obtain ⟨a, b, c⟩ := G.each x z
      exact ⟨a, b, rising_mono (by omega) c⟩
    · rw [List.mem_singleton.mp z]
      refine ⟨u0, by simp, ?_⟩
      show (decide (u + 1 ≤ (k : Int) + 1) && decide ((k : Int) + 1 ≤ (k : Int) + 2 - 1) && true) = true
      rw [decide_eq_true (by omega), decide_eq_true (by omega)]
      rfl
  perm := by
    rw [List.flatMap_append]
    have e : ((k : Int) + 2 - 1).toNat = k + 1 := by omega
    have e' : ((k : Int) + 1 - 1).toNat = k := by omega
    have p := G.perm
    rw [e'] at p
    rw [e, ← range_snoc]
    exact p.append (by simp)
theorem GOk.put {k : Nat} {pre post : List Grp} {x : Grp} (G : GOk ((k : Int) + 1) (pre ++ x :: post)) : GOk ((k : Int) + 2) (pre ++ ⟨x.t, x.up, x.l, x.kids ++ [(k : Int) + 1]⟩ :: post) where
  each := fun y hy => by
    have old : ∀ z ∈ pre ++ x :: post, 0 ≤ z.up ∧ z.kids ≠ [] ∧ rising ((k : Int) + 2) (z.kids.map PyData.int) z.up = true := fun z hz => by
      obtain ⟨a, b, c⟩ := G.each z hz
      exact ⟨a, b, rising_mono (by omega) c⟩
    rcases List.mem_append.mp hy with z | z
    · exact old y (List.mem_append_left _ z)
    · rcases List.mem_cons.mp z with z | z
      · subst z
        obtain ⟨a, b, c⟩ := G.each x (by simp)
        refine ⟨a, by simp, ?_⟩
        show rising ((k : Int) + 2) ((x.kids ++ [(k : Int) + 1]).map PyData.int) x.up = true
        rw [List.map_append]
        refine rising_snoc (by omega) c ?_
        cases hk : x.kids with
        | nil => exact absurd hk b
        | cons n r =>
          rw [hk] at c
          have c' : (decide (x.up + 1 ≤ n) && decide (n ≤ (k : Int) + 1 - 1) && rising ((k : Int) + 1) (r.map PyData.int) n) = true := c
          simp only [Bool.and_eq_true, decide_eq_true_eq] at c'
          omega
      · exact old y (by simp [z])
  perm := by
    have e : ((k : Int) + 2 - 1).toNat = k + 1 := by omega
    have e' : ((k : Int) + 1 - 1).toNat = k := by omega
    have p := G.perm
    rw [e'] at p
    rw [e, ← range_snoc]
    refine List.Perm.trans ?_ (p.append (List.Perm.refl [((k : Int) + 1)]))
    rw [List.flatMap_append, List.flatMap_append, List.flatMap_cons, List.flatMap_cons, List.append_assoc, List.append_assoc, List.append_assoc]
    exact (List.Perm.refl _).append ((List.Perm.refl _).append List.perm_append_comm)
theorem GAt.put {H0 H : Hp} {g : Addr} {pre post : List Grp} {x : Grp} {k : Int} (G : GAt H0 H g (pre ++ x :: post)) : GAt H0 (upd H x.l (.lst (x.kids.map V.int ++ [.int k]))) g (pre ++ ⟨x.t, x.up, x.l, x.kids ++ [k]⟩ :: post) := by
  have hx : x ∈ pre ++ x :: post := by simp
  obtain ⟨a, b, c⟩ := G.lst x hx
  have nd := G.nd
  rw [List.map_append, List.map_cons] at nd
  obtain ⟨_, n2, n3⟩ := List.nodup_append.mp nd
  have oth : ∀ y, y ∈ pre ∨ y ∈ post → y.l ≠ x.l := fun y hy e => by
    rcases hy with hy | hy
    · exact n3 y.l (List.mem_map.mpr ⟨y, hy, rfl⟩) x.l (by simp) e
    · exact (List.nodup_cons.mp n2).1 (by rw [← e]; exact List.mem_map.mpr ⟨y, hy, rfl⟩)
  have mem : ∀ y ∈ pre ++ (⟨x.t, x.up, x.l, x.kids ++ [k]⟩ : Grp) :: post, (y ∈ pre ∨ y ∈ post) ∨ y = ⟨x.t, x.up, x.l, x.kids ++ [k]⟩ := fun y hy => by
    rcases List.mem_append.mp hy with z | z
    · exact .inl (.inl z)
    · rcases List.mem_cons.mp z with z | z
      · exact .inr z
      · exact .inl (.inr z)
  have old : ∀ y, y ∈ pre ∨ y ∈ post → y ∈ pre ++ x :: post := fun y hy => by
    rcases hy with z | z <;> simp [z]
  refine ⟨?_, G.new, fun y hy => ?_, fun y hy => ?_, ?_⟩
  · rw [upd_ne c, G.at_, List.map_append, List.map_append, List.map_cons, List.map_cons]
  · rcases mem y hy with z | rfl
    · rw [upd_ne (ne_of (G.tup y (old y z)) a (by intro q; cases q))]
      exact G.tup y (old y z)
    · show upd H x.l _ x.t = _
      rw [upd_ne (ne_of (G.tup x hx) a (by intro q; cases q))]
      exact G.tup x hx
  · rcases mem y hy with z | rfl
    · obtain ⟨a', b', c'⟩ := G.lst y (old y z)
      refine ⟨?_, b', c'⟩
      rw [upd_ne (oth y z)]
      exact a'
    · refine ⟨?_, b, c⟩
      show upd H x.l _ x.l = _
      rw [upd_same, List.map_append]
      rfl
  · have e : (pre ++ (⟨x.t, x.up, x.l, x.kids ++ [k]⟩ : Grp) :: post).map (·.l) = (pre ++ x :: post).map (·.l) := by
      rw [List.map_append, List.map_append, List.map_cons, List.map_cons]
    rw [e]
    exact G.nd
/-- the bough of a group -/
def bghD (u lo hi : Int) (kids : List Int) : PyData := .tuple [.int u, .int lo, .int hi, .tuple (kids.map PyData.int)]
theorem bgh_ok {m u lo hi : Int} {kids : List Int} (u0 : 0 ≤ u) (ne : kids ≠ []) (r : rising m (kids.map PyData.int) u = true) (l0 : 0 ≤ lo) (l1 : lo ≤ hi) (h0 : 1 ≤ hi) (h1 : hi ≤ kids.length) : isBough m (bghD u lo hi kids) = true := by
  have u1 : u ≤ m - 1 := by
    cases hk : kids with
    | nil => exact absurd hk ne
    | cons n t =>
      rw [hk] at r
      have c' : (decide (u + 1 ≤ n) && decide (n ≤ m - 1) && rising m (t.map PyData.int) n) = true := r
      simp only [Bool.and_eq_true, decide_eq_true_eq] at c'
      omega
  show (within (.int u) 0 (m - 1) && (tupFull (.tuple (kids.map PyData.int)) && (rising m (kids.map PyData.int) u && (within (.int hi) 1 ((kids.map PyData.int).length : Nat) && within (.int lo) 0 hi)))) = true
  have e1 : within (.int u) 0 (m - 1) = true := by
    show (decide (0 ≤ u) && decide (u ≤ m - 1)) = true
    rw [decide_eq_true u0, decide_eq_true u1]
    rfl
  have e2 : tupFull (.tuple (kids.map PyData.int)) = true := by
    refine decide_eq_true ?_
    rw [List.length_map]
    exact List.length_pos_iff.mpr ne
  have e3 : within (.int hi) 1 ((kids.map PyData.int).length : Nat) = true := by
    show (decide (1 ≤ hi) && decide (hi ≤ ((kids.map PyData.int).length : Nat))) = true
    rw [List.length_map, decide_eq_true h0, decide_eq_true h1]
    rfl
  have e4 : within (.int lo) 0 hi = true := by
    show (decide (0 ≤ lo) && decide (lo ≤ hi)) = true
    rw [decide_eq_true l0, decide_eq_true l1]
    rfl
  rw [e1, e2, r, e3, e4]
  rfl
theorem flat_ints1 (kids : List Int) : (kids.map PyData.int).all (flatD 1) = true := by
  rw [List.all_eq_true]
  intro x hx
  obtain ⟨i, _, rfl⟩ := List.mem_map.mp hx
  rfl
theorem bgh_flat (u lo hi : Int) (kids : List Int) (h : kids.length ≤ 1000) : flatD 3 (bghD u lo hi kids) = true := by
  show (true && (true && (true && (true && ((decide ((kids.map PyData.int).length ≤ 1000) && (kids.map PyData.int).all (flatD 1)) && true))))) = true
  rw [flat_ints1, List.length_map, decide_eq_true h]
  rfl
theorem bgh_kids (u lo hi : Int) (kids : List Int) : kidsOf (bghD u lo hi kids) = kids := by
  show (kids.map PyData.int).map toI = kids
  rw [List.map_map]
  have : (toI ∘ PyData.int) = id := rfl
  rw [this, List.map_id]

theorem cut_rot {α : Type} (f : α → V) (xs : List α) (t : Nat) (h : t ≤ xs.length) : cutV (xs.map f) (some (t : Int)) none ++ cutV (xs.map f) none (some (t : Int)) = (xs.drop t ++ xs.take t).map f := by
  unfold cutV
  rw [HT.sIx_nat, HT.sIx_nat, HT.sIx_none, HT.sIx_none, List.length_map, Nat.min_eq_left h, List.drop_zero, List.map_append, List.map_drop, List.map_take, Nat.sub_zero]
  congr 1
  rw [List.take_of_length_le]
  rw [List.length_drop, List.length_map]
  exact Nat.le_refl _
end Ow

/-! ### Ties and sets: the mathematics -/
namespace Wd
inductive Tie where
  | bough (u : Nat) (lo hi : Int) (ks : List Nat)
  | needs (a b : Nat)
  | bans (a b : Nat)
  | most (top : Int) (ps : List (Nat × Int))
def cnt (ks : List Nat) (s : Nat) : Nat := (ks.filter fun k => s.testBit k).length
def sumP (ps : List (Nat × Int)) (f : Nat × Int → Bool) : Int := ((ps.filter f).map (·.2)).sum
def Tie.keep : Tie → Nat → Bool
  | .bough u lo hi ks, s => if s.testBit u = true then decide (lo ≤ (cnt ks s : Int)) && decide ((cnt ks s : Int) ≤ hi) else decide (cnt ks s = 0)
  | .needs a b, s => !s.testBit a || s.testBit b
  | .bans a b, s => !s.testBit a || !s.testBit b
  | .most top ps, s => decide (sumP ps (fun p => s.testBit p.1) ≤ top)
structure Tie.BoughOk (m u : Nat) (lo hi : Int) (ks : List Nat) : Prop where
  um : u < m
  ks0 : ks ≠ []
  up : ∀ k ∈ ks, u < k ∧ k < m
  ris : ks.Pairwise (· < ·)
  few : ks.length ≤ m
  lo0 : 0 ≤ lo
  lohi : lo ≤ hi
  hi1 : 1 ≤ hi
  hik : hi ≤ ks.length
def Tie.Ok (m : Nat) : Tie → Prop
  | .bough u lo hi ks => Tie.BoughOk m u lo hi ks
  | .needs a b => a < m ∧ b < m ∧ a ≠ b
  | .bans a b => a < m ∧ b < m ∧ a ≠ b
  | .most _ ps => ps ≠ [] ∧ (∀ p ∈ ps, p.1 < m) ∧ (ps.map (·.1)).Pairwise (· < ·) ∧ ps.length ≤ m
theorem keep_up {u : Nat} {lo hi : Int} {ks : List Nat} {s : Nat} (h : s.testBit u = true) : (Tie.bough u lo hi ks).keep s = (decide (lo ≤ (cnt ks s : Int)) && decide ((cnt ks s : Int) ≤ hi)) := by
  simp only [Tie.keep, h, if_true]
theorem keep_no {u : Nat} {lo hi : Int} {ks : List Nat} {s : Nat} (h : ¬ s.testBit u = true) : (Tie.bough u lo hi ks).keep s = decide (cnt ks s = 0) := by
  simp only [Tie.keep, if_neg h]
theorem cnt_cons (k : Nat) (r : List Nat) (s : Nat) : cnt (k :: r) s = (if s.testBit k = true then 1 else 0) + cnt r s := by
  unfold cnt
  by_cases h : s.testBit k = true
  · rw [List.filter_cons_of_pos (p := fun k => s.testBit k) h, if_pos h, List.length_cons]; omega
  · rw [List.filter_cons_of_neg (p := fun k => s.testBit k) h, if_neg h]; omega
theorem cnt_congr {ks : List Nat} {s t : Nat} (h : ∀ k ∈ ks, s.testBit k = t.testBit k) : cnt ks s = cnt ks t := by
  unfold cnt
  rw [List.filter_congr h]
end Wd

set_option maxRecDepth 100000
set_option maxHeartbeats 4000000
/-! ### H. Ties as data -/
namespace Wd
open PySem L2
def pairD (p : Nat × Int) : PyData := .tuple [.int (p.1 : Int), .int p.2]
def Tie.toD : Tie → PyData
  | .bough u lo hi ks => .tuple [.int (u : Int), .int lo, .int hi, .tuple (ks.map fun k : Nat => PyData.int (k : Int))]
  | .needs a b => .tuple [.str ("needs" : Str), .int (a : Int), .int (b : Int)]
  | .bans a b => .tuple [.str ("bans" : Str), .int (a : Int), .int (b : Int)]
  | .most top ps => .tuple [.str ("most" : Str), .int top, .tuple (ps.map pairD)]
theorem rising_nats {m : Nat} : ∀ {ks : List PyData} {last : Int}, -1 ≤ last → last < m → rising m ks last = true →
    ∃ ns : List Nat, ks = ns.map (fun k : Nat => PyData.int (k : Int)) ∧ ns.Pairwise (· < ·) ∧ (∀ k ∈ ns, last < (k : Int) ∧ k < m) ∧ (ns.length : Int) + last + 1 ≤ m
  | [], last, h0, h1, _ => ⟨[], rfl, List.Pairwise.nil, (fun _ z => nomatch z), by simp; omega⟩
  | .int i :: ks, last, h0, h1, h => by
    have z : (decide (last + 1 ≤ i) && decide (i ≤ (m : Int) - 1) && rising m ks i) = true := h
    simp only [Bool.and_eq_true, decide_eq_true_eq] at z
    obtain ⟨ns, e, pw, ab, ln⟩ := rising_nats (by omega) (by omega) z.2
    obtain ⟨j, rfl⟩ : ∃ j : Nat, i = (j : Int) := ⟨i.toNat, by omega⟩
    refine ⟨j :: ns, by rw [e]; rfl, List.Pairwise.cons (fun k hk => ?_) pw, fun k hk => ?_, ?_⟩
    · have := (ab k hk).1; omega
    · rcases List.mem_cons.mp hk with rfl | hk
      · omega
      · have := ab k hk; omega
    · rw [List.length_cons]; omega
  | .none :: _, _, _, _, h => by cases h
  | .bool _ :: _, _, _, _, h => by cases h
  | .str _ :: _, _, _, _, h => by cases h
  | .list _ :: _, _, _, _, h => by cases h
  | .tuple _ :: _, _, _, _, h => by cases h
  | .dict _ :: _, _, _, _, h => by cases h
theorem tie_of_bough {m : Nat} {d : PyData} (h : isBough m d = true) : ∃ u lo hi ks, d = (Tie.bough u lo hi ks).toD ∧ Tie.BoughOk m u lo hi ks := by
  unfold isBough at h
  split at h
  next u l hd k =>
    simp only [Bool.and_eq_true] at h
    obtain ⟨hu, hk, hr, hh, hl⟩ := h
    obtain ⟨ui, rfl, u0, u1⟩ := within_int hu
    obtain ⟨kd, rfl, k0⟩ := tupFull_tup hk
    obtain ⟨hi, rfl, h0, h1⟩ := within_int (show within hd 1 kd.length = true from hh)
    obtain ⟨lo, rfl, l0, l1⟩ := within_int (show within l 0 hi = true from hl)
    obtain ⟨un, rfl⟩ : ∃ j : Nat, ui = (j : Int) := ⟨ui.toNat, by omega⟩
    obtain ⟨ns, rfl, pw, ab, ln⟩ := rising_nats (by omega) (by omega) (show rising m kd un = true from hr)
    rw [List.length_map] at k0 h1
    exact ⟨un, lo, hi, ns, rfl, ⟨by omega, fun z => by rw [z] at k0; simp at k0, fun k hk => by have := ab k hk; omega, pw, by omega, l0, l1, h0, h1⟩⟩
  next => cases h
/-! what stands in the heap for a tie -/
theorem natsD (ks : List Nat) : (ks.map fun k : Nat => PyData.int (k : Int)) = (ks.map fun k : Nat => (k : Int)).map PyData.int := by rw [List.map_map]; rfl
theorem natsV (ks : List Nat) : (ks.map fun k : Nat => (k : Int)).map V.int = ks.map fun k : Nat => V.int (k : Int) := by rw [List.map_map]; rfl
theorem at_bough {H : Hp} {u : Nat} {lo hi : Int} {ks : List Nat} {v : V} (h : Dn H (Tie.bough u lo hi ks).toD v) : ∃ p pk, v = .ref p ∧ H p = some (.tup [.int (u : Int), .int lo, .int hi, .ref pk]) ∧ H pk = some (.tup (ks.map fun k : Nat => V.int (k : Int))) := by
  obtain ⟨p, xs, rfl, hp, xu, r1, rfl, hu, xl, r2, rfl, hlo, xh, r3, rfl, hh, xk, r4, rfl, hk, hnil⟩ := dn_tup h
  cases (show r4 = [] from hnil)
  cases dn_int hu
  cases dn_int hlo
  cases dn_int hh
  obtain ⟨pk, ys, rfl, hpk, hks⟩ := dn_tup hk
  rw [natsD] at hks
  rw [dnl_ints hks, natsV] at hpk
  exact ⟨p, pk, rfl, hp, hpk⟩
theorem at_word {H : Hp} {w : Str} {a b : Int} {v : V} (h : Dn H (.tuple [.str w, .int a, .int b]) v) : ∃ p, v = .ref p ∧ H p = some (.tup [.str w, .int a, .int b]) := by
  obtain ⟨p, xs, rfl, hp, xu, r1, rfl, hu, xl, r2, rfl, hlo, xh, r3, rfl, hh, hnil⟩ := dn_tup h
  cases (show r3 = [] from hnil)
  cases (show xu = .str w from hu)
  cases dn_int hlo
  cases dn_int hh
  exact ⟨p, rfl, hp⟩
theorem at_most {H : Hp} {top : Int} {ps : List (Nat × Int)} {v : V} (h : Dn H (Tie.most top ps).toD v) : ∃ p q xs, v = .ref p ∧ H p = some (.tup [.str ("most" : Str), .int top, .ref q]) ∧ H q = some (.tup xs) ∧ DnL H (ps.map pairD) xs := by
  obtain ⟨p, xs, rfl, hp, xu, r1, rfl, hu, xl, r2, rfl, hlo, xh, r3, rfl, hh, hnil⟩ := dn_tup h
  cases (show r3 = [] from hnil)
  cases (show xu = .str ("most" : Str) from hu)
  cases dn_int hlo
  obtain ⟨q, ys, rfl, hq, hks⟩ := dn_tup hh
  exact ⟨p, q, ys, rfl, hp, hq, hks⟩
theorem at_pair {H : Hp} {ps : List (Nat × Int)} {xs : List V} (h : DnL H (ps.map pairD) xs) {i : Nat} {x : V} (hx : xs[i]? = some x) : ∃ p r, ps[i]? = some p ∧ x = .ref r ∧ H r = some (.tup [.int (p.1 : Int), .int p.2]) := by
  obtain ⟨d, hd, hx'⟩ := h.get hx
  rw [List.getElem?_map] at hd
  obtain ⟨p, hp, rfl⟩ := Option.map_eq_some_iff.mp hd
  obtain ⟨r, ys, rfl, hr, xa, r1, rfl, ha, xb, r2, rfl, hb, hnil⟩ := dn_tup (show Dn H (.tuple [.int (p.1 : Int), .int p.2]) x from hx')
  cases (show r2 = [] from hnil)
  cases dn_int ha
  cases dn_int hb
  exact ⟨p, r, hp, rfl, hr⟩
/-! sets as ints -/
theorem bitI (n : Int) (k : Nat) : Builtin.bitAnd (n / 2 ^ k) 1 = n / 2 ^ k % 2 := PySem.W.kbt_mask (n / 2 ^ k) 1
/-- some >> k & 1 -/
theorem shr_bit (s k : Nat) : Builtin.bitAnd ((s : Int) / 2 ^ ((k : Nat) : Int).toNat) 1 = if s.testBit k = true then 1 else 0 := by
  rw [bitI, Int.toNat_natCast, Nat.testBit_eq_decide_div_mod_eq]
  have e3 : (2 : Int) ^ k = ((2 ^ k : Nat) : Int) := by rw [Int.natCast_pow]; rfl
  rw [e3]
  by_cases z : s / 2 ^ k % 2 = 1
  · rw [decide_eq_true z, if_pos rfl]
    omega
  · rw [decide_eq_false z, if_neg (by decide)]
    omega
theorem dec_shr1 (s k : Nat) : decide (V.int (Builtin.bitAnd ((s : Int) / 2 ^ ((k : Nat) : Int).toNat) 1) = V.int 1) = s.testBit k := by
  rw [shr_bit]
  cases s.testBit k <;> rfl
theorem dec_shr0 (s k : Nat) : decide (V.int (Builtin.bitAnd ((s : Int) / 2 ^ ((k : Nat) : Int).toNat) 1) = V.int 0) = !s.testBit k := by
  rw [shr_bit]
  cases s.testBit k <;> rfl
end Wd

set_option maxRecDepth 100000
set_option maxHeartbeats 4000000
namespace L2
open PySem PySem.Spec PyProof.Rows
/-- the rest of a body, by a name -/
theorem cutS {X : Cx} {st : List Stmt} {t : TS} (h : PSs X st t) : ∃ t', PSs X st t' ∧ ∀ D σ H, t D σ H → t' D σ H := ⟨t, h, fun _ _ _ x => x⟩
section
variable {X : Cx} {o e : Expr} {es : List Expr} {to : TE} {t : TA} {name : Str} {apos cpos : Pos} {T id : String} {r : V → List V → Hp → VK → Prop}
/-- methods, with the fragment by its own name -/
theorem pe_bmK {K : PySem.W.Frag} (pa : PlainAttrs T) (slot : Slot T name id) (hty : typeOf (.builtin id) = pure (.type "method_descriptor")) (hm : MtR X id r) (ho : PE X o to) (ha : PA X (e :: es) t) (hK : X.K = K := by rfl)
    (hbase : attributeBase o name X.env (eval o X.env) = eval o X.env := by rfl)
    (hfew : ((backTo cpos (starEach (e :: es) X.env)).all (fun x => !x.1) && (backToKw cpos (keywordEach [] X.env)).all (fun x => x.1.isSome) && decide ((e :: es).length + ([] : List Keyword).length + (if ([] : List Keyword).isEmpty then 0 else 1) < 30)) = true := by rfl)
    (hline : (apos.endLine == cpos.line) = true := by rfl) (hs : starEach (e :: es) X.env = (false, eval e X.env) :: starEach es X.env := by rfl) (hplain : (backTo cpos (starEach es X.env)).any (·.1) = false := by rfl) :
    PE X (.Call (.Attribute o name apos) (e :: es) [] cpos) (tBM K T r to t) := hK ▸ pe_bm pa slot hty hm ho ha hbase hfew hline hs hplain
theorem pe_bm0K {K : PySem.W.Frag} (pa : PlainAttrs T) (slot : Slot T name id) (hty : typeOf (.builtin id) = pure (.type "method_descriptor")) (hm : MtR X id r) (ho : PE X o to) (hK : X.K = K := by rfl)
    (hbase : attributeBase o name X.env (eval o X.env) = eval o X.env := by rfl) (hline : (apos.endLine == cpos.line) = true := by rfl) : PE X (.Call (.Attribute o name apos) [] [] cpos) (tBM0 K T r to) := hK ▸ pe_bm0 pa slot hty hm ho hbase hline
end
end L2

set_option maxRecDepth 100000
set_option maxHeartbeats 4000000
namespace L2
open PySem PySem.Spec PyProof.Rows
section
variable {X : Cx}
/-- a tuple of targets, with the text's heap named (for blocks) -/
theorem pgT {K : PySem.W.Frag} {pos : Pos} {es : List Expr} {k : Nat} {t : TGs} {n : Nat} (hc : X.calm = true) (h : PGs X es t) (hn : (assignEach es X.env).length = n := by rfl) (hst : (assignEach es X.env).findIdx? (·.1) = none := by rfl) (hK : X.K = K := by rfl) : PG X (.Tuple es k pos) (gTup K n t) := hK ▸ pg_tup hc h hn hst
end
end L2
namespace Wd
open PySem L2
/-- a tie and a set, told whether the set keeps it -/
def spKeeps : Sp := fun vs H Q _ => ∃ (t : Tie) (m n : Nat) (v : V), vs = [v, .int n] ∧ Dn H t.toD v ∧ t.Ok m ∧ m ≤ 1000 ∧ ∀ H', Same H H' → Q (.bl (t.keep n)) H'
def spLaw (K : PySem.W.Frag) : Sp := fun vs H Q _ => ∃ (p : Addr) (ns : List Int), vs = [.ref p] ∧ SqL K H p (ns.map V.int) ∧ ns.length ≤ 63 ∧ ∀ H', Q (.bl true) H'
theorem dec_cnt0 (k : Nat) : decide (V.int (k : Int) = V.int 0) = decide (k = 0) := by
  rw [dec_int]
  by_cases z : k = 0
  · rw [z]; rfl
  · rw [decide_eq_false z]
    simpa using z
theorem iteD {c A B : Prop} [Decidable c] (hc : c) (h : A) : if decide c = true then A else B := by
  rw [decide_eq_true hc]
  exact iteT h
theorem iteDN {c A B : Prop} [Decidable c] (hc : ¬ c) (h : B) : if decide c = true then A else B := by
  rw [decide_eq_false hc]
  exact iteF h
theorem iteNN {c A B : Prop} [Decidable c] (hc : ¬ c) (h : A) : if (!decide c) = true then A else B := by
  rw [decide_eq_false hc]
  exact iteT h
theorem iteB {b : Bool} {A B : Prop} (hc : b = true) (h : A) : if b = true then A else B := by
  rw [if_pos hc]; exact h
theorem iteBN {b : Bool} {A B : Prop} (hc : b = false) (h : B) : if b = true then A else B := by
  rw [hc]; exact iteF h
theorem vs_ne {x y : Str} (h : ¬ x = y) : ¬ V.str x = V.str y := fun z => by injection z with z; exact h z
theorem bans_needs : ¬ V.str ("bans" : Str) = V.str ("needs" : Str) := vs_ne (by decide +kernel)
theorem most_needs : ¬ V.str ("most" : Str) = V.str ("needs" : Str) := vs_ne (by decide +kernel)
theorem most_bans : ¬ V.str ("most" : Str) = V.str ("bans" : Str) := vs_ne (by decide +kernel)
theorem int_str {i : Int} {x : Str} : ¬ V.int i = V.str x := fun z => by cases z
end Wd

set_option maxRecDepth 100000
set_option maxHeartbeats 4000000
/-! ### I. Woods by their ties -/
namespace Wd
open PySem L2 Ow
theorem WoodAt.same {H H' : Hp} {wd : Addr} {m : Int} {xs ys : List V} (s : Same H H') (h : WoodAt H wd m xs ys) : WoodAt H' wd m xs ys := by
  obtain ⟨tb, tc, h1, h2, h3⟩ := h.ex
  exact ⟨tb, tc, s _ _ h1, s _ _ h2, s _ _ h3⟩
end Wd

/-! ### Bits: sums and differences of sets -/
namespace Wd
theorem add_bits : ∀ (k a b : Nat), (∀ j, a.testBit j = true → b.testBit j = false) → (a + b).testBit k = (a.testBit k || b.testBit k)
  | k, a, b, h => by
    have h0 := h 0
    rw [Nat.testBit_zero, Nat.testBit_zero] at h0
    have p : a % 2 + b % 2 ≤ 1 := by
      by_cases z : a % 2 = 1
      · have := h0 (decide_eq_true z)
        have := of_decide_eq_false this
        omega
      · omega
    cases k with
    | zero =>
      rw [Nat.testBit_zero, Nat.testBit_zero, Nat.testBit_zero]
      by_cases z : a % 2 = 1
      · rw [decide_eq_true z, decide_eq_true (by omega), Bool.true_or]
      · rw [decide_eq_false z, Bool.false_or]
        by_cases y : b % 2 = 1
        · rw [decide_eq_true y, decide_eq_true (by omega)]
        · rw [decide_eq_false y, decide_eq_false (by omega)]
    | succ k =>
      rw [Nat.testBit_add_one, Nat.testBit_add_one, Nat.testBit_add_one]
      have e : (a + b) / 2 = a / 2 + b / 2 := by omega
      rw [e]
      refine add_bits k (a / 2) (b / 2) fun j hj => ?_
      have := h (j + 1)
      rw [Nat.testBit_add_one, Nat.testBit_add_one] at this
      exact this hj
theorem add_or {a b : Nat} (h : ∀ j, a.testBit j = true → b.testBit j = false) : a + b = a ||| b :=
  Nat.eq_of_testBit_eq fun k => by rw [add_bits k a b h, Nat.testBit_or]
theorem sub_bits : ∀ (k y a : Nat), (∀ j, a.testBit j = true → y.testBit j = true) → (y - a).testBit k = (y.testBit k && !a.testBit k)
  | k, y, a, h => by
    have le : a ≤ y := by
      have e : a = a &&& y := Nat.eq_of_testBit_eq fun j => by
        rw [Nat.testBit_and]
        cases e : a.testBit j with
        | false => rfl
        | true => rw [h j e]; rfl
      rw [e]
      exact Nat.and_le_right
    have h0 := h 0
    rw [Nat.testBit_zero, Nat.testBit_zero] at h0
    have p : a % 2 ≤ y % 2 := by
      by_cases z : a % 2 = 1
      · have := of_decide_eq_true (h0 (decide_eq_true z))
        omega
      · omega
    cases k with
    | zero =>
      rw [Nat.testBit_zero, Nat.testBit_zero, Nat.testBit_zero]
      by_cases z : a % 2 = 1
      · rw [decide_eq_true z, decide_eq_false (by omega)]; simp
      · rw [decide_eq_false z]
        by_cases x : y % 2 = 1
        · rw [decide_eq_true x, decide_eq_true (by omega)]; rfl
        · rw [decide_eq_false x, decide_eq_false (by omega)]; rfl
    | succ k =>
      rw [Nat.testBit_add_one, Nat.testBit_add_one, Nat.testBit_add_one]
      have e : (y - a) / 2 = y / 2 - a / 2 := by omega
      rw [e]
      refine sub_bits k (y / 2) (a / 2) fun j hj => ?_
      have := h (j + 1)
      rw [Nat.testBit_add_one, Nat.testBit_add_one] at this
      exact this hj
theorem or_as_sum (a b : Nat) : a ||| b = a + (b - (a &&& b)) := by
  have hb : ∀ j, (b - (a &&& b)).testBit j = (b.testBit j && !(a &&& b).testBit j) := fun j => sub_bits j b (a &&& b) fun i hi => by
    rw [Nat.testBit_and, Bool.and_eq_true] at hi
    exact hi.2
  rw [add_or fun j hj => by rw [hb, Nat.testBit_and, hj]; cases b.testBit j <;> rfl]
  refine Nat.eq_of_testBit_eq fun j => ?_
  rw [Nat.testBit_or, Nat.testBit_or, hb, Nat.testBit_and]
  cases a.testBit j <;> cases b.testBit j <;> rfl
theorem bit_lt {s n k : Nat} (h : s < 2 ^ n) (hk : s.testBit k = true) : k < n := by
  by_cases z : k < n
  · exact z
  · have := Nat.testBit_lt_two_pow (Nat.lt_of_lt_of_le h (Nat.pow_le_pow_right (by decide) (Nat.le_of_not_lt z)))
    rw [this] at hk
    cases hk
theorem cnt_sum (s : Nat) : ∀ ks : List Nat, (ks.map fun k => if s.testBit k = true then (1 : Int) else 0).sum = (cnt ks s : Nat)
  | [] => rfl
  | k :: r => by
    rw [List.map_cons, List.sum_cons, cnt_sum s r, cnt_cons]
    split <;> omega
/-! stands made finer -/
end Wd

set_option maxRecDepth 100000
set_option maxHeartbeats 4000000
/-! ### J. More forms of loops; bits of ints -/
namespace L2
open PySem
theorem op_eq_ints {X : Cx} (hu : X.A.units + 64 < cLine) : OpR X (compareOp .Eq) (fun x y H Q => ∃ (a b : Addr) (ns ms : List Int), x = .ref a ∧ y = .ref b ∧ SqL X.K H a (ns.map V.int) ∧ SqL X.K H b (ms.map V.int) ∧ Q (.bl (decide (ns = ms))) H) := by
  intro pins s σ H x y v u Q I rx ry h
  obtain ⟨a, b, ns, ms, rfl, rfl, ha, hb, q⟩ := h
  cases rx
  cases ry
  obtain ⟨xs, rv, p, _⟩ := I.list ha
  obtain ⟨ys, rv', p', _⟩ := I.list hb
  exact PySem.W.ke_eq_ints p.isList p'.isList (intsAre_of rv) (intsAre_of rv') hu ⟨.bl _, H, I, rfl, q⟩
theorem lc_range0 {k : Nat} {σ0 : St} {H : Hp} {g : TG} {tc : TT} {te : TE} {Q : VK} (Pv : Nat → List V → St → Hp → Prop) (h0 : Pv 0 [] σ0 H) (hz : ∀ i ys σ H, i ≤ k → Pv i ys σ H → ys.length ≤ sizeLine)
    (hs : ∀ i ys σ H, i < k → Pv i ys σ H → g (.int (i : Int)) σ H fun σ3 H3 => tc σ3 H3 fun b H4 => if b = true then te σ3 H4 fun v H5 => Pv (i + 1) (ys ++ [v]) σ3 H5 else Pv (i + 1) ys σ3 H4)
    (hd : ∀ ys σ H, Pv k ys σ H → ∀ p, H p = none → Q (.ref p) (upd H p (.lst ys))) :
    lcGo (Itr 0 k) g tc te σ0 H Q :=
  lc_range (lo := 0) Pv h0 hz (fun i ys σ H hi p => by rw [Int.zero_add]; exact hs i ys σ H hi p) hd
theorem for_range0 {n : Nat} {g : TG} {tb : TS} {D : Ends} {σ : St} {H : Hp} (Pv : Nat → St → Hp → Prop) (h0 : Pv 0 σ H)
    (hs : ∀ i σ H, i < n → Pv i σ H → g (.int (i : Int)) σ H fun σ2 H2 => tb { D with nx := Pv (i + 1), ct := Pv (i + 1), bk := D.nx } σ2 H2) (hd : ∀ σ H, Pv n σ H → D.nx σ H) :
    ∃ W : Nat → Nat → St → Hp → Prop, (∃ m, W 0 m σ H) ∧ ∀ i m σ H, W i m σ H →
      ((Itr 0 n).stop i H ∧ D.nx σ H) ∨ ((Itr 0 n).go i H ∧ ∃ N : St → Hp → Prop, (∀ σ' H', N σ' H' → ∃ m', m' < m ∧ W (i + 1) m' σ' H') ∧ ∀ x H', (Itr 0 n).yld i H x H' → g x σ H' fun σ2 H2 => tb { D with nx := N, ct := N, bk := D.nx } σ2 H2) :=
  for_range (lo := 0) Pv h0 (fun i σ H hi p => by rw [Int.zero_add]; exact hs i σ H hi p) hd
end L2
namespace Wd
open PySem L2 Ow
theorem land_nat (a b : Nat) : Builtin.bitAnd (a : Int) (b : Int) = ((a &&& b : Nat) : Int) := by
  rw [PyProof.Rows.bitAnd_pp (by omega) (by omega), Int.toNat_natCast, Int.toNat_natCast]
theorem lor_nat (a b : Nat) : Builtin.bitOr (a : Int) (b : Int) = ((a ||| b : Nat) : Int) := by
  have le : a &&& b ≤ b := Nat.and_le_right
  rw [PyProof.Rows.bitOr_and, PyProof.Rows.bitAnd_pp (by omega) (by omega), Int.toNat_natCast, Int.toNat_natCast, or_as_sum]
  omega
theorem shl1 (k : Nat) : 1 * (2 : Int) ^ ((k : Nat) : Int).toNat = ((2 ^ k : Nat) : Int) := by
  rw [Int.one_mul, Int.toNat_natCast, Int.natCast_pow]
  rfl
theorem pow_pos2 (k : Nat) : 0 < 2 ^ k := Nat.pow_pos (by decide)
end Wd

set_option maxRecDepth 100000
set_option maxHeartbeats 4000000
/-! ### K. Ranges with a step -/
namespace L2
open PySem PySem.Spec PyProof.Rows
def Its (lo st : Int) (n : Nat) : It := ⟨fun i _ => i < n, fun i H x H' => H' = H ∧ x = .int (lo + i * st), fun i _ => n ≤ i⟩
theorem turn_rangeS {P : Program} {w : World} {K : PySem.W.Frag} {tg : Expr} (it : Addr) (lo st : Int) (n : Nat) : Turn P w K tg (Its lo st n) [it] it (fun i h => IsRangeIter h it (lo + (i : Nat) * st) ((n : Int) - (i : Nat)) st) where
  mem := by simp
  obj := fun i h st b hb => by
    have e : b = it := by simpa using hb
    subst e
    exact ⟨_, st, fun v z => by
      have z' : Data.fields _ = Data.cell v := z
      cases z'⟩
  keep := fun i h h' st k => k it (by simp) _ st
  item := by
    intro X hP hw hK hc i pins s σ H E I hf st' hg
    subst hP hw hK
    obtain ⟨f0, f1, f2, f3, f4, f5⟩ := hf it (by simp)
    have W := Walks.range (prog := X.prog) (w := X.w) (I.ok.hd hc) it lo st n
    refine W.item i s _ _ hg st' fun v h' tk hv st'' kk => ?_
    obtain ⟨t, rfl⟩ := hv
    have I1 : Inv X pins σ H { s with heap := h', toks := tk } := I.turned (fun b o hb e => kk b o (by simpa using hb) e) f0 f1 f3 f4 f5
    exact ⟨_, rfl, go_of (s := { s with heap := h', toks := tk }) (n := "range_iterator") st'' rfl rfl (by decide) ⟨.int (lo + i * st), H, I1, ⟨t, rfl⟩, ⟨rfl, rfl⟩, st'', fun b hb => (hf b hb).1⟩⟩
  done := by
    intro X hP hw hK hc i pins s σ H E I hf st' hg
    subst hP hw hK
    obtain ⟨f0, f1, f2, f3, f4, f5⟩ := hf it (by simp)
    exact wpAny_pyNext_range_end (I.ok.hd hc) st' (by have : n ≤ i := hg; omega) fun h' eb => ⟨rfl, I.turned (t' := s.toks) (fun b o hb e => eb b o hb e) f0 f1 f3 f4 f5⟩
  self := fun _ _ _ _ _ st h => wpAny_pyIter_rangeiter st h
/-- // by a positive divisor of up to 9,000 bits -/
theorem op_fdivB {X : Cx} : OpR X (binaryOp .FloorDiv) (rI (fun _ j => 0 < j ∧ j.natAbs.log2 < 9000) fun i j => .int (i / j)) := opI fun i j _ _ _ _ _ hc q => by
  have h1 : (0 : Int) < j := hc.1
  exact floordiv_int (by omega) (by rw [Int.fdiv_eq_ediv_of_nonneg i (by omega)]; exact q) (.inl (PyProof.noPylong_of_log2 hc.2))
section
variable {X : Cx} {tg : Expr}
def iRng3 (ta : TA) : TI := fun σ H R => ta σ H fun vs H1 => ∃ (i j c : Int) (n : Nat), vs = [.int i, .int j, .int c] ∧ c ≠ 0 ∧ c.natAbs < 1073741824 ∧ Builtin.Range.small i j c = true ∧ Builtin.Range.rangeSize i j c = (n : Int) ∧ R (Its i c n) H1
theorem range_itS {pins : List (Addr × Obj)} {σ : St} {H : Hp} {s : Shared} {R : It → Hp → Prop} {E : Value → Shared → Prop} {lo hi st : Int} {n : Nat} {t u v : Tok} {tk : Nat} (I : Inv X pins σ H s) (h1 : Builtin.Range.small lo hi st = true) (h2 : Builtin.Range.rangeSize lo hi st = (n : Int))
    (q : R (Its lo st n) H) : wpAny (model X.prog X.w) X.A (pyIter (.ref s.heap.objs.size)) (PIE X pins σ tg R) E { s with heap := s.heap.push { cls := .type "range", data := .fields #[.int lo t, .int hi u, .int st v] }, toks := tk } := by
  refine wpAny_pyIter_range (IsRange.new ..) h1 ?_
  have I1 : Inv X pins σ H { s with heap := s.heap.push { cls := .type "range", data := .fields #[.int lo t, .int hi u, .int st v] }, toks := tk } := I.kept fun b o e => Heap.get?_push_of_some _ e
  refine ⟨(s.heap.push { cls := .type "range", data := .fields #[.int lo t, .int hi u, .int st v] }).objs.size, [(s.heap.push { cls := .type "range", data := .fields #[.int lo t, .int hi u, .int st v] }).objs.size], _, _, H, rfl,
    I1.kept (t' := tk) fun b o e => Heap.get?_push_of_some _ e, turn_rangeS _ lo st n, ?_, fun b hb => ?_, q⟩
  · have e1 : lo + ((0 : Nat) : Int) * st = lo := by simp
    have e2 : ((n : Nat) : Int) - ((0 : Nat) : Int) = Builtin.Range.rangeSize lo hi st := by rw [h2]; omega
    show IsRangeIter _ _ (lo + ((0 : Nat) : Int) * st) (((n : Nat) : Int) - ((0 : Nat) : Int)) st
    rw [e1, e2]
    exact Heap.get?_push_size _ rfl
  · have e : b = (s.heap.push { cls := .type "range", data := .fields #[.int lo t, .int hi u, .int st v] }).objs.size := by simpa using hb
    subst e
    exact I1.fpOk (Nat.le_refl _) (I1.hok.fresh (Nat.le_refl _))
theorem pi_range3 {a b c : Expr} {ta : TA} {p pos : Pos} (hg : Gl X "range") (hm : X.mg "range" = none) (ha : PA X [a, b, c] ta) (hs : starEach [a, b, c] X.env = [(false, eval a X.env), (false, eval b X.env), (false, eval c X.env)] := by rfl) (hs2 : starEach [b, c] X.env = [(false, eval b X.env), (false, eval c X.env)] := by rfl) :
    PI X tg (.Call (.Name "range" p) [a, b, c] [] pos) (iRng3 ta) := by
  intro pins s σ H R I h
  refine Call_ (ld_blt I hg hm boot_range (PyProof.Rows.callWith_type1 (thn (ha pos pins s σ H _ I h) fun us s1 ⟨vs, H1, I1, r1, q1⟩ => ?_) (by rw [hs, hs2]) (by rw [hs2]; rfl)))
  obtain ⟨i, j, c, n, e, c0, c1, q1, q2, q⟩ := q1
  subst e
  cases r1 with
  | cons r rr =>
    cases rr with
    | cons r' rr =>
      cases rr with
      | cons r'' rr =>
        cases rr
        obtain ⟨t, rfl⟩ := r
        obtain ⟨t', rfl⟩ := r'
        obtain ⟨t'', rfl⟩ := r''
        exact PySem.call_range_3 c0 (range_itS I1 q1 q2 q) (.inl (PyProof.noPylong_small c1))
end
theorem for_rangeS {lo st : Int} {n : Nat} {g : TG} {tb : TS} {D : Ends} {σ : St} {H : Hp} (Pv : Nat → St → Hp → Prop) (h0 : Pv 0 σ H)
    (hs : ∀ i σ H, i < n → Pv i σ H → g (.int (lo + i * st)) σ H fun σ2 H2 => tb { D with nx := Pv (i + 1), ct := Pv (i + 1), bk := D.nx } σ2 H2) (hd : ∀ σ H, Pv n σ H → D.nx σ H) :
    ∃ W : Nat → Nat → St → Hp → Prop, (∃ m, W 0 m σ H) ∧ ∀ i m σ H, W i m σ H →
      ((Its lo st n).stop i H ∧ D.nx σ H) ∨ ((Its lo st n).go i H ∧ ∃ N : St → Hp → Prop, (∀ σ' H', N σ' H' → ∃ m', m' < m ∧ W (i + 1) m' σ' H') ∧ ∀ x H', (Its lo st n).yld i H x H' → g x σ H' fun σ2 H2 => tb { D with nx := N, ct := N, bk := D.nx } σ2 H2) := by
  refine ⟨fun i m σ H => m = n - i ∧ i ≤ n ∧ Pv i σ H, ⟨n, by simp, Nat.zero_le _, h0⟩, ?_⟩
  rintro i m σ H ⟨rfl, hi, p⟩
  by_cases hlt : i < n
  · refine .inr ⟨hlt, Pv (i + 1), fun σ' H' p' => ⟨n - (i + 1), by omega, rfl, hlt, p'⟩, fun x H' y => ?_⟩
    obtain ⟨e, y⟩ := y
    subst e y
    exact hs i σ _ hlt p
  · have e : i = n := by omega
    subst e
    exact .inl ⟨Nat.le_refl _, hd σ H p⟩
end L2
namespace Wd
open PySem L2
theorem fits {i : Int} (h1 : -1000000000 ≤ i) (h2 : i ≤ 1000000000) : Builtin.Range.rangeFitsLong i = true := by
  unfold Builtin.Range.rangeFitsLong
  have p : (2 : Int) ^ 63 = 9223372036854775808 := by decide
  simp only [Bool.and_eq_true, decide_eq_true_eq]
  rw [p]
  omega
/-- range(m - 1, -1, -1) -/
theorem down_small {m : Nat} (hb : m ≤ 100000) : Builtin.Range.small ((m : Int) - 1) (-1) (-1) = true ∧ Builtin.Range.rangeSize ((m : Int) - 1) (-1) (-1) = ((m : Nat) : Int) := by
  have e : Builtin.Range.rangeSize ((m : Int) - 1) (-1) (-1) = ((m : Nat) : Int) := by
    unfold Builtin.Range.rangeSize
    rw [if_neg (show ¬ (-1 : Int) > 0 by decide), show -(-1 : Int) = 1 from rfl, Int.ediv_one]
    split <;> omega
  refine ⟨?_, e⟩
  unfold Builtin.Range.small
  rw [e, fits (i := (m : Int) - 1) (by omega) (by omega), fits (i := -1) (by decide) (by decide), fits (i := ((m : Nat) : Int)) (by omega) (by omega), if_neg (show ¬ (-1 : Int) > 0 by decide), fits (i := (-1 : Int) + (-1 + 1)) (by decide) (by decide)]
  simp
end Wd

set_option maxRecDepth 100000
set_option maxHeartbeats 4000000
/-! ### L. A pen that turns: a list of the script and a place -/
namespace Wd
open PySem L2 Ow
/-- all but the object at one address stays -/
def KpX (pen : Addr) (H H' : Hp) (b : Addr) : HO → Prop
  | .tbl _ => (∃ ps, H' b = some (.tbl ps)) ∧ (TabOk H b → (∃ ys, H pen = some (.lst ys)) → TabOk H' b ∧ ∃ ys, H' pen = some (.lst ys))
  | o => H' b = some o
/-- all but the pen is as it was; tables of code may have grown -/
def SameX (pen : Addr) (H H' : Hp) : Prop := ∀ b o, b ≠ pen → H b = some o → KpX pen H H' b o
theorem KpX.some {pen : Addr} {H H' : Hp} {b : Addr} {o : HO} (k : KpX pen H H' b o) : ∃ u, H' b = some u := by
  cases o
  case tbl ps => exact ⟨_, k.1.choose_spec⟩
  all_goals exact ⟨_, k⟩
theorem SameX.refl (pen : Addr) (H : Hp) : SameX pen H H := fun _ o _ h => by
  cases o
  case tbl ps => exact ⟨⟨_, h⟩, fun a b => ⟨a, b⟩⟩
  all_goals exact h
theorem SameX.trans {pen : Addr} {H H1 H2 : Hp} (a : SameX pen H H1) (b : SameX pen H1 H2) : SameX pen H H2 := fun c o n h => by
  have z := a c o n h
  cases o
  case tbl ps =>
    obtain ⟨⟨qs, hq⟩, k⟩ := z
    obtain ⟨q2, k2⟩ := b c _ n hq
    exact ⟨q2, fun t y => k2 (k t y).1 (k t y).2⟩
  all_goals exact b c _ n z
theorem Same.x {pen : Addr} {H H' : Hp} (s : Same H H') : SameX pen H H' := fun b o _ h => by
  have z := s b o h
  cases o
  case tbl ps => exact ⟨z.1, fun t ⟨ys, y⟩ => ⟨z.2 t, ys, s pen _ y⟩⟩
  all_goals exact z
theorem sameX_pen {pen : Addr} {H : Hp} (o : HO) (ho : ∃ ys, o = .lst ys := by exact ⟨_, rfl⟩) : SameX pen H (upd H pen o) := fun b u n h => by
  cases u
  case tbl ps =>
    refine ⟨⟨ps, by rw [upd_ne n]; exact h⟩, ?_⟩
    rintro ⟨qs, hq, tr, hp⟩ ⟨ys, hy⟩
    obtain ⟨zs, rfl⟩ := ho
    refine ⟨⟨qs, by rw [upd_ne n]; exact hq, tr, fun pos => ?_⟩, ⟨zs, upd_same⟩⟩
    rcases hp pos with z | ⟨c, z1, z2⟩
    · exact .inl z
    · refine .inr ⟨c, z1, ?_⟩
      rw [upd_ne fun z => by rw [z, hy] at z2; cases z2]
      exact z2
  all_goals (show upd H pen o b = _; rw [upd_ne n]; exact h)
/-- a list that is new is written -/
theorem Same.put {H H1 : Hp} {p : Addr} {xs : List V} {o : HO} (s : Same H H1) (n : H p = none) (e : H1 p = some (.lst xs)) : Same H (upd H1 p o) := fun b u hb => by
  have ne : b ≠ p := ne_of_none hb n
  have z := s b u hb
  cases u
  case tbl ps =>
    refine ⟨⟨z.1.choose, by rw [upd_ne ne]; exact z.1.choose_spec⟩, fun t => ?_⟩
    obtain ⟨qs, hq, tr, hp⟩ := z.2 t
    refine ⟨qs, by rw [upd_ne ne]; exact hq, tr, fun pos => ?_⟩
    rcases hp pos with y | ⟨c, y1, y2⟩
    · exact .inl y
    · refine .inr ⟨c, y1, ?_⟩
      rw [upd_ne fun z => by rw [z, e] at y2; cases y2]
      exact y2
  all_goals (show upd H1 p o b = _; rw [upd_ne ne]; exact z)
theorem SameX.put {pen : Addr} {H H1 : Hp} {p : Addr} {xs : List V} {o : HO} (s : SameX pen H H1) (n : H p = none) (np : p ≠ pen) (e : H1 p = some (.lst xs)) : SameX pen H (upd H1 p o) := fun b u nb hb => by
  have ne : b ≠ p := ne_of_none hb n
  have z := s b u nb hb
  cases u
  case tbl ps =>
    refine ⟨⟨z.1.choose, by rw [upd_ne ne]; exact z.1.choose_spec⟩, fun t y => ?_⟩
    obtain ⟨⟨qs, hq, tr, hp⟩, ys, hy⟩ := z.2 t y
    refine ⟨⟨qs, by rw [upd_ne ne]; exact hq, tr, fun pos => ?_⟩, ys, by rw [upd_ne (Ne.symm np)]; exact hy⟩
    rcases hp pos with y | ⟨c, y1, y2⟩
    · exact .inl y
    · refine .inr ⟨c, y1, ?_⟩
      rw [upd_ne fun z => by rw [z, e] at y2; cases y2]
      exact y2
  all_goals (show upd H1 p o b = _; rw [upd_ne ne]; exact z)
theorem SameX.free {pen l : Addr} {H H' : Hp} (s : SameX pen H H') (hp : ∃ o, H' pen = some o) (h : H' l = none) : H l = none := by
  cases q : H l with
  | none => rfl
  | some o =>
    obtain ⟨o', e⟩ := hp
    have n : l ≠ pen := fun z => by rw [z, e] at h; cases h
    obtain ⟨u, z⟩ := (s l o n q).some
    rw [z] at h
    cases h
structure Pen (K : PySem.W.Frag) (H : Hp) (pen sp : Addr) (ns : List Int) (k : Int) : Prop where
  at_ : H pen = some (.lst [.ref sp, .int k])
  len : ns.length ≤ 63
  scr : ∀ H', SameX pen H H' → SqL K H' sp (ns.map V.int)
theorem Pen.to {K : PySem.W.Frag} {H H' : Hp} {pen sp : Addr} {ns : List Int} {k k' : Int} (p : Pen K H pen sp ns k) (s : SameX pen H H') (e : H' pen = some (.lst [.ref sp, .int k'])) : Pen K H' pen sp ns k' :=
  ⟨e, p.len, fun H2 s2 => p.scr H2 (s.trans s2)⟩
theorem DnL.pen {H : Hp} {p : Addr} {xs ys : List V} (h : H p = some (.lst xs)) {n : Nat} {ds : List PyData} {vs : List V} (f : ds.all (flatD n) = true) (q : DnL H ds vs) : DnL (upd H p (.lst ys)) ds vs := DnL.keepT (Dn.keepT (keep_lst h) n) ds vs f q
/-- tuples of H stay in H' -/
def TupS (H H' : Hp) : Prop := ∀ b xs, H b = some (.tup xs) → H' b = some (.tup xs)
theorem SameX.tup {pen : Addr} {H H' : Hp} {ys : List V} (e : H pen = some (.lst ys)) (s : SameX pen H H') : TupS H H' := fun b xs h => s b _ (fun z => by rw [z, e] at h; cases h) h
theorem DnL.tupS {H H' : Hp} (t : TupS H H') {n : Nat} {ds : List PyData} {vs : List V} (f : ds.all (flatD n) = true) (q : DnL H ds vs) : DnL H' ds vs := DnL.keepT (Dn.keepT t n) ds vs f q
def spCellP (K : PySem.W.Frag) : Sp := fun vs H Q _ => ∃ (sp : Addr) (ns : List Int) (k : Int), vs = [.ref sp, .int k] ∧ SqL K H sp (ns.map V.int) ∧ ns.length ≤ 63 ∧ 0 ≤ k ∧ k ≤ 1000000 ∧ ∀ c : Int, Q (.int c) H
def spNext (K : PySem.W.Frag) : Sp := fun vs H Q _ => ∃ (pen sp : Addr) (ns : List Int) (most k : Int), vs = [.ref pen, .int most] ∧ Pen K H pen sp ns k ∧ 0 ≤ k ∧ k ≤ 1000000 ∧ 0 < most ∧ ∀ c : Int, 0 ≤ c → c < most → Q (.int c) (L2.upd H pen (.lst [.ref sp, .int (k + 1)]))
theorem emod_le' {a b : Int} (ha : 0 ≤ a) (hb : 0 < b) : a % b ≤ a := by
  obtain ⟨n, rfl⟩ := Int.eq_ofNat_of_zero_le ha
  obtain ⟨m, rfl⟩ := Int.eq_ofNat_of_zero_le (Int.le_of_lt hb)
  rw [← Int.natCast_emod]
  exact Int.ofNat_le.mpr (Nat.mod_le n m)
theorem cut_rotV (xs : List V) (t : Nat) (h : t ≤ xs.length) : cutV xs (some (t : Int)) none ++ cutV xs none (some (t : Int)) = xs.drop t ++ xs.take t := by
  have := cut_rot (fun x : V => x) xs t h
  simpa using this
theorem DnL.drop {H : Hp} : ∀ {ds : List PyData} {xs : List V} (t : Nat), DnL H ds xs → DnL H (ds.drop t) (xs.drop t)
  | _, _, 0, h => h
  | [], xs, t + 1, h => by rw [(show xs = [] from h)]; exact rfl
  | d :: ds, _, t + 1, ⟨x, r, e, q, z⟩ => by rw [e]; exact DnL.drop t z
theorem DnL.take {H : Hp} : ∀ {ds : List PyData} {xs : List V} (t : Nat), DnL H ds xs → DnL H (ds.take t) (xs.take t)
  | _, _, 0, h => by rw [List.take_zero, List.take_zero]; exact rfl
  | [], xs, t + 1, h => by rw [(show xs = [] from h)]; exact rfl
  | d :: ds, _, t + 1, ⟨x, r, e, q, z⟩ => by rw [e]; exact ⟨x, _, rfl, q, DnL.take t z⟩
theorem rot_mem {α : Type} {l : List α} {t : Nat} {x : α} (h : x ∈ l.drop t ++ l.take t) : x ∈ l := by
  rcases List.mem_append.mp h with z | z
  · exact List.mem_of_mem_drop z
  · exact List.mem_of_mem_take z
theorem rot_perm {α : Type} (l : List α) (t : Nat) : (l.drop t ++ l.take t).Perm l := by
  have e : l = l.take t ++ l.drop t := (List.take_append_drop t l).symm
  exact List.Perm.trans List.perm_append_comm (by rw [← e])
theorem GoodB.rot {m : Int} {bs : List PyData} (G : GoodB m bs) (t : Nat) : GoodB m (bs.drop t ++ bs.take t) :=
  ⟨fun b hb => G.each b (rot_mem hb), (List.Perm.flatMap_right _ (rot_perm bs t)).trans G.kids⟩
def spKidsP (K : PySem.W.Frag) : Sp := fun vs H Q _ => ∃ (pen sp : Addr) (ns : List Int) (m : Nat) (k : Int), vs = [.ref pen, .int m] ∧ Pen K H pen sp ns k ∧ 0 ≤ k ∧ k ≤ 900000 ∧ 1 ≤ m ∧ m ≤ 9 ∧
  ∀ (g : Addr) (gs : List Grp) (k' : Int) (H' : Hp), SameX pen H H' → H' pen = some (.lst [.ref sp, .int k']) → k ≤ k' → k' ≤ k + 30 → GAt H H' g gs → GOk (m : Int) gs → Q (.ref g) H'
def spBoughP (K : PySem.W.Frag) : Sp := fun vs H Q _ => ∃ (pen sp : Addr) (ns : List Int) (l : Addr) (u : Int) (kids : List Int) (m : Int) (k : Int), vs = [.ref pen, .int u, .ref l] ∧ Pen K H pen sp ns k ∧ 0 ≤ k ∧ k ≤ 900000 ∧ H l = some (.lst (kids.map V.int)) ∧ l ≠ pen ∧ kids.length ≤ 9 ∧ 0 ≤ u ∧ kids ≠ [] ∧ rising m (kids.map PyData.int) u = true ∧
  ∀ (d : PyData) (v : V) (k' : Int) (H' : Hp), SameX pen H H' → H' pen = some (.lst [.ref sp, .int k']) → k ≤ k' → k' ≤ k + 3 → Dn H' d v → isBough m d = true → flatD 3 d = true → kidsOf d = kids → Q v H'
def spCrossP (K : PySem.W.Frag) : Sp := fun vs H Q _ => ∃ (pen sp : Addr) (ns : List Int) (m : Nat) (k : Int), vs = [.ref pen, .int m] ∧ Pen K H pen sp ns k ∧ 0 ≤ k ∧ k ≤ 900000 ∧ 1 ≤ m ∧ m ≤ 9 ∧
  ∀ (d : PyData) (v : V) (k' : Int) (H' : Hp), SameX pen H H' → H' pen = some (.lst [.ref sp, .int k']) → k ≤ k' → k' ≤ k + 6 → Dn H' d v → isTie m d = true → flatD 3 d = true → Q v H'
/-- a wood laid as data -/
structure WoodX (H : Hp) (wd : Addr) (m : Nat) (bs cs : List PyData) : Prop where
  ex : ∃ xs ys, WoodAt H wd m xs ys ∧ DnL H bs xs ∧ DnL H cs ys
  gb : GoodB m bs
  gc : ∀ c ∈ cs, isTie m c = true
  b8 : bs.length ≤ 9
  c8 : cs.length ≤ 20
  fb : bs.all (flatD 3) = true
  fc : cs.all (flatD 3) = true
  m1 : 1 ≤ m
  m9 : m ≤ 9
theorem WoodX.tupS {H H' : Hp} {wd : Addr} {m : Nat} {bs cs : List PyData} (t : TupS H H') (h : WoodX H wd m bs cs) : WoodX H' wd m bs cs := by
  obtain ⟨xs, ys, ⟨tb, tc, h1, h2, h3⟩, db, dc⟩ := h.ex
  exact ⟨⟨xs, ys, ⟨tb, tc, t _ _ h1, t _ _ h2, t _ _ h3⟩, DnL.tupS t h.fb db, DnL.tupS t h.fc dc⟩, h.gb, h.gc, h.b8, h.c8, h.fb, h.fc, h.m1, h.m9⟩
def spWoodP (K : PySem.W.Frag) : Sp := fun vs H Q _ => ∃ (pen sp : Addr) (ns : List Int) (m : Nat) (most k : Int), vs = [.ref pen, .int m, .int most] ∧ Pen K H pen sp ns k ∧ 0 ≤ k ∧ k ≤ 800000 ∧ 1 ≤ m ∧ m ≤ 9 ∧ 0 ≤ most ∧ most ≤ 8 ∧
  ∀ (wd : Addr) (bs cs : List PyData) (k' : Int) (H' : Hp), SameX pen H H' → H' pen = some (.lst [.ref sp, .int k']) → k ≤ k' → k' ≤ k + 300 → WoodX H' wd m bs cs → (cs.length : Int) ≤ most → Q (.ref wd) H'
theorem _root_.Ow.GAt.add2 {H0 H : Hp} {g l t : Addr} {gs : List Grp} {u k : Int} (G : GAt H0 H g gs) (hf : H0 l = none) (hl : H l = none) (ht : upd H l (.lst [.int k]) t = none) :
    GAt H0 (upd (upd (upd H l (.lst [.int k])) t (.tup [.int u, .ref l])) g (.lst ((gs.map fun x => V.ref x.t) ++ [.ref t]))) g (gs ++ [⟨t, u, l, [k]⟩]) := by
  have ngl : g ≠ l := ne_of_none G.at_ hl
  have s1 := same_new hl (.lst [.int k])
  have s2 := s1.trans (same_new ht (.tup [.int u, .ref l]))
  have ntl : t ≠ l := fun z => by rw [z, upd_same] at ht; cases ht
  have ngt : g ≠ t := ne_of_none (s1 _ _ G.at_) ht
  refine ⟨?_, G.new, fun x hx => ?_, fun x hx => ?_, ?_⟩
  · rw [upd_same, List.map_append]
    rfl
  · rcases List.mem_append.mp hx with z | z
    · rw [upd_ne (ne_of (G.tup x z) G.at_ (by intro q; cases q))]
      exact s2 _ _ (G.tup x z)
    · rw [List.mem_singleton.mp z]
      show L2.upd _ g _ t = _
      rw [upd_ne (Ne.symm ngt), upd_same]
  · rcases List.mem_append.mp hx with z | z
    · obtain ⟨a, b, c⟩ := G.lst x z
      refine ⟨?_, b, c⟩
      rw [upd_ne (Ne.symm c)]
      exact s2 _ _ a
    · rw [List.mem_singleton.mp z]
      refine ⟨?_, hf, ngl⟩
      show L2.upd _ g _ l = _
      rw [upd_ne (Ne.symm ngl), upd_ne (Ne.symm ntl), upd_same]
      rfl
  · rw [List.map_append]
    refine List.nodup_append.mpr ⟨G.nd, by simp, fun x hx y hy => ?_⟩
    obtain ⟨z, hz, rfl⟩ := List.mem_map.mp hx
    have e : y = l := by simpa using hy
    rw [e]
    exact ne_of_none (G.lst z hz).1 hl
/-- the groups stay when the pen turns -/
theorem _root_.Ow.GAt.pen {H0 H : Hp} {g pen : Addr} {gs : List Grp} {xs ys : List V} (G : GAt H0 H g gs) (h0 : ∃ o, H0 pen = some o) (h : H pen = some (.lst xs)) : GAt H0 (L2.upd H pen (.lst ys)) g gs := by
  obtain ⟨o, e0⟩ := h0
  refine ⟨?_, G.new, fun x hx => ?_, fun x hx => ?_, G.nd⟩
  · rw [upd_ne (fun z => by rw [← z, G.new] at e0; cases e0)]
    exact G.at_
  · rw [upd_ne (ne_of (G.tup x hx) h (by intro q; cases q))]
    exact G.tup x hx
  · obtain ⟨a, b, c⟩ := G.lst x hx
    refine ⟨?_, b, c⟩
    rw [upd_ne (fun z => by rw [← z, b] at e0; cases e0)]
    exact a
end Wd

/-! ### Trees of cases and first sets: the mathematics -/
namespace Wd
/-! first sets -/
/-! trees of cases -/
end Wd

set_option maxRecDepth 100000
set_option maxHeartbeats 4000000
/-! ### M. Tuples joined, woods by named ties, trees as data -/
namespace L2
open PySem PySem.Spec PyProof.Rows
section
variable {X : Cx}
end
end L2
namespace Wd
open PySem L2 Ow
abbrev natsL (l : List Nat) : List V := l.map fun k : Nat => V.int (k : Int)
end Wd

set_option maxRecDepth 100000
set_option maxHeartbeats 4000000
/-! ### N. min of a list, a list against [] -/
namespace L2
open PySem PySem.Spec PyProof.Rows
section
variable {X : Cx}
/-- a list against an empty one -/
theorem op_eq_nil (hu : X.A.units + 64 < cLine) : OpR X (compareOp .Eq) (fun x y H Q => ∃ (a b : Addr) (xs : List V), x = .ref a ∧ y = .ref b ∧ H a = some (.lst xs) ∧ H b = some (.lst []) ∧ Q (.bl (decide (xs = []))) H) := by
  intro pins s σ H x y v u Q I rx ry h
  obtain ⟨a, b, xs, rfl, rfl, ha, hb, q⟩ := h
  by_cases hx : xs = []
  · subst hx
    refine op_eq_ints hu pins s σ H _ _ v u Q I rx ry ⟨a, b, [], [], rfl, rfl, SqL.of ha, SqL.of hb, ?_⟩
    exact q
  · cases rx
    cases ry
    obtain ⟨its, n, r1, e1, _⟩ := I.lst ha
    obtain ⟨its2, n2, r2, e2, _⟩ := I.lst hb
    cases r2
    have hl := r1.length
    rw [decide_eq_false hx] at q
    refine PySem.P.eq_list_lengths e1 e2 ?_ (by omega) ⟨.bl false, H, I, rfl, q⟩
    cases its with
    | nil => cases r1; exact absurd rfl hx
    | cons c r => simp
end
end L2
namespace Wd
open PySem L2 Ow
theorem scr_of {K : PySem.W.Frag} {H : Hp} {pen a : Addr} {xs : List V} {o : HO} (h : SqL K H a xs) (hp : H pen = none) : ∀ H', SameX pen (L2.upd H pen o) H' → SqL K H' a xs := fun H' s => by
  have keep : ∀ u, H a = some u → KpX pen (L2.upd H pen o) H' a u := fun u e => s a u (ne_of_none e hp) (by rw [upd_ne (ne_of_none e hp)]; exact e)
  rcases h with (h | ⟨u, h⟩) | h
  · exact .inl (.inl (keep _ h))
  · exact .inl (.inr ⟨u, keep _ h⟩)
  · exact .inr h
theorem pen_new {K : PySem.W.Frag} {H : Hp} {pen sp : Addr} {ns : List Int} (h : SqL K H sp (ns.map V.int)) (hl : ns.length ≤ 63) (hp : H pen = none) : Pen K (L2.upd H pen (.lst [.ref sp, .int 0])) pen sp ns 0 := ⟨upd_same, hl, scr_of h hp⟩
end Wd

set_option maxRecDepth 100000
set_option maxHeartbeats 4000000
/-! ### Comprehensions with cells of their own: an inner one reads their names -/
namespace L2
open PySem PySem.Spec PyProof.Rows
section
variable {X : Cx} {tg iter elt : Expr} {cs : List Expr} {sc sc0 : Scope} {pos : Pos} {wi : TI} {g : TG} {tc : TT} {te : TE} {XN N' : List Str} {n : Nat} {kp : List Nat}

theorem piL {K : PySem.W.Frag} {l : Expr} {tl : TE} (hl : PE X l tl) (h : X.K = K := by rfl) : PI X tg l (iList K tl) := h ▸ pi_list hl
theorem piT {K : PySem.W.Frag} {l : Expr} {tl : TE} (hl : PE X l tl) (h : X.K = K := by rfl) : PI X tg l (iTup K tl) := h ▸ pi_tup hl
end
end L2

set_option maxRecDepth 100000
set_option maxHeartbeats 4000000
/-! ### O. What each tie's sets are, told in lists; bars -/
namespace Wd
open PySem L2 Ow
end Wd

set_option maxRecDepth 100000
set_option maxHeartbeats 4000000
/-! ### P. Ties left out; ties broken in every set of a stand, told by lists; trees of cases told so -/
namespace Wd
open PySem L2 Ow
end Wd

set_option maxRecDepth 100000
set_option maxHeartbeats 4000000
namespace L2
open PySem PySem.Spec PyProof.Rows

/-! ### lambdas -/
section
variable {X : Cx} {params : Arguments} {body : Expr} {scope : Scope} {pos : Pos} {c P : Addr}
end
/-! ### a call with a base that holds all that is untracked now -/
section
variable {X : Cx} {pins : List (Addr × Obj)} {σ : St} {H : Hp} {s : Shared}
end
section
variable {X : Cx} {k : Nat} {f : Addr} {fd : FuncData} {ps : List Str} {x : Str} {p pos : Pos} {e : Expr} {es : List Expr} {t : TA}
end

/-! ### a lambda keeps its promise -/
/-! ### a def that makes lambdas: its code object is known -/
/-! ### the head of a law that comes to lambdas: the tables of their defs are tracked -/
end L2

set_option maxRecDepth 100000
set_option maxHeartbeats 4000000
namespace Wd
open PySem L2 Ow
/-! ### trees told with leaves of a function -/
section
variable {ts : List Tie} {il : List Nat} {m f y n : Nat} {leaf : Nat → Nat → Option PyData}
end
end Wd

set_option maxRecDepth 100000
set_option maxHeartbeats 4000000
namespace L2
open PySem PySem.Spec PyProof.Rows

/-! ### zip of two tuples -/
section
variable {prog : Program} {w : World} {A : Around} {E : Value → Shared → Prop} {s : Shared}
end
/-- some records have turned, a pair is laid -/
theorem Inv.turnedL {X : Cx} {pins : List (Addr × Obj)} {σ : St} {H : Hp} {s : Shared} {h' : Heap} {t' : Nat} {ch : List Addr} {T : Addr} {v v2 : V} {u u2 : Value} (I : Inv X pins σ H s) (fc : ∀ c ∈ ch, FpOk X pins H c) (hT : s.heap.objs.size ≤ T) (rv : RelV v u) (rv2 : RelV v2 u2)
    (k : ∀ b o, b ∉ ch → s.heap.get? b = some o → h'.get? b = some o) (eT : h'.get? T = some { cls := .type "tuple", data := .seq #[u, u2] }) :
    Inv X pins σ (upd H T (.tup [v, v2])) { s with heap := h', toks := t' } := by
  have nT : H T = none := I.hok.fresh hT
  have ne : ∀ b o, H b = some o → b ∉ ch := fun b o q hb => by rw [(fc b hb).1] at q; cases q
  have un : Un (frs X.stack) ch H (upd H T (.tup [v, v2])) s.heap h' := by
    have lt : ∀ b o, s.heap.get? b = some o → b ≠ T := fun b o q => Nat.ne_of_lt (Nat.lt_of_lt_of_le (Heap.lt_size q) hT)
    exact ⟨fun b o q _ _ hx => k b o hx q, fun b o q _ _ hx => ⟨o.slots, k b o hx q⟩, fun b o q n _ => by rw [upd_ne (lt b o q)]; exact n, fun b o q hx => ⟨o, k b o hx q⟩,
      fun b xs q => by rw [upd_ne (ne_of_none q nT)]; exact q, fun b o xs q => by rw [upd_ne (ne_of_none q nT)]; exact q, fun b ps q => ⟨#[], by rw [upd_ne (ne_of_none q nT), q]; simp⟩⟩
  refine I.call (g' := s.gens) (d' := s.drawn) (ch := ch) un (fun a o q => ?_) I.bare fun b hb => ⟨(fc b hb).2.2.2.1, (fc b hb).2.1, (fc b hb).2.2.2.2.1, (fc b hb).2.2.2.2.2⟩
  by_cases ea : a = T
  · subst ea
    rw [upd_same] at q
    cases q
    exact ⟨Nat.le_of_lt (small1000 (by show 2 ≤ 1000; decide)), [u, u2], .cons rv (.cons rv2 .nil), ⟨_, eT, rfl, _, rfl⟩⟩
  · rw [upd_ne ea] at q
    refine (I.hok a o q).stay (fun b z hb r => k b z ?_ r) (fun b r => by rw [upd_ne (ne_of_none r nT)]; exact r) fun b xs r => by rw [upd_ne (ne_of_none r nT)]; exact r
    rcases hb with rfl | hb
    · exact ne _ _ q
    · exact ne _ _ hb
/-- .. and nothing is laid -/
theorem Inv.turnedE {X : Cx} {pins : List (Addr × Obj)} {σ : St} {H : Hp} {s : Shared} {h' : Heap} {t' : Nat} {ch : List Addr} (I : Inv X pins σ H s) (fc : ∀ c ∈ ch, FpOk X pins H c) (k : ∀ b o, b ∉ ch → s.heap.get? b = some o → h'.get? b = some o) :
    Inv X pins σ H { s with heap := h', toks := t' } := by
  have ne : ∀ b o, H b = some o → b ∉ ch := fun b o q hb => by rw [(fc b hb).1] at q; cases q
  have un : Un (frs X.stack) ch H H s.heap h' := ⟨fun b o q _ _ hx => k b o hx q, fun b o q _ _ hx => ⟨o.slots, k b o hx q⟩, fun b o q n _ => n, fun b o q hx => ⟨o, k b o hx q⟩, fun b xs q => q, fun b o xs q => q, fun b ps q => ⟨#[], by rw [q]; simp⟩⟩
  refine I.call (g' := s.gens) (d' := s.drawn) (ch := ch) un (fun a o q => ?_) I.bare fun b hb => ⟨(fc b hb).2.2.2.1, (fc b hb).2.1, (fc b hb).2.2.2.2.1, (fc b hb).2.2.2.2.2⟩
  refine (I.hok a o q).stay (fun b z hb r => k b z ?_ r) (fun b r => r) fun b xs r => r
  rcases hb with rfl | hb
  · exact ne _ _ q
  · exact ne _ _ hb
theorem zip_apart (n ca cb : Nat) (la : ca < n) (lb : cb < n) : ZipApart (n + 4) (n + 2) (n + 3) n (n + 1) ca cb :=
  have g : ∀ {i j : Nat}, i < j → i ≠ j := fun h => Nat.ne_of_lt h
  have u : ∀ {i j : Nat}, j < i → i ≠ j := fun h => Nat.ne_of_gt h
  ⟨g (by omega), g (by omega), g (by omega), g (by omega), g (by omega), u (by omega), u (by omega), u (by omega), u (by omega), g (by omega), g (by omega), g (by omega), g (by omega), g (by omega), g (by omega), g (by omega), g (by omega), g (by omega)⟩
end L2
namespace Wd
open PySem L2 Ow
end Wd

set_option maxRecDepth 100000
set_option maxHeartbeats 4000000
namespace Wd
open PySem L2 Ow
/-! ### the wares of a wood, in their order -/
/-- two lists of numbers that are held side by side -/
def spSameN : Sp := fun vs H Q _ => ∃ (l l' : Addr) (L M : List Nat), vs = [.ref l, .ref l'] ∧ H l = some (.lst (natsL L)) ∧ H l' = some (.lst (natsL M)) ∧ L.length ≤ 1000 ∧ ∀ H', Same H H' → Q (.bl (decide (L = M))) H'
theorem castL_inj : ∀ {L M : List Nat}, (L.map fun k : Nat => (k : Int)) = (M.map fun k : Nat => (k : Int)) → L = M
  | [], [], _ => rfl
  | [], _ :: _, h => by cases h
  | _ :: _, [], h => by cases h
  | a :: L, b :: M, h => by
    rw [List.map_cons, List.map_cons] at h
    obtain ⟨h1, h2⟩ := List.cons.inj h
    rw [castL_inj h2, Int.ofNat.inj h1]
end Wd

set_option maxRecDepth 100000
set_option maxHeartbeats 4000000
namespace Wd
open PySem L2 Ow
/-! ### sets counted by how many of some options they have, weighed -/
structure Bg where
  u : Nat
  lo : Int
  hi : Int
  ks : List Nat
def Bg.tie (b : Bg) : Tie := .bough b.u b.lo b.hi b.ks
def Bg.ind (b : Bg) (j : Nat) : Nat := if decide (b.lo ≤ (j : Int)) && decide ((j : Int) ≤ b.hi) then 1 else 0
/-- over all choices of some of ks: what g says of how many, times the weights -/
def selS (w : Nat → Nat) : List Nat → (Nat → Nat) → Nat
  | [], g => g 0
  | c :: cs, g => selS w cs g + w c * selS w cs fun j => g (j + 1)
def Bg.F (b : Bg) (w : Nat → Nat) : Nat := selS w b.ks b.ind
def dot : List Nat → (Nat → Nat) → Nat
  | [], _ => 0
  | x :: l, g => x * g 0 + dot l fun j => g (j + 1)
def withKid (l : List Nat) (x : Nat) : List Nat := List.zipWith (· + ·) (l ++ [0]) (0 :: l.map (· * x))
def byCount (w : Nat → Nat) (ks : List Nat) (l : List Nat) : List Nat := ks.foldl (fun l k => withKid l (w k)) l
theorem dot_with (x : Nat) : ∀ (l : List Nat) (a : Nat) (g : Nat → Nat), dot (List.zipWith (· + ·) (l ++ [0]) (a :: l.map (· * x))) g = a * g 0 + dot l g + x * dot l fun j => g (j + 1)
  | [], a, g => by simp [dot]
  | y :: l, a, g => by
    show (y + a) * g 0 + dot (List.zipWith (· + ·) (l ++ [0]) (y * x :: l.map (· * x))) (fun j => g (j + 1)) = _
    rw [dot_with x l (y * x) fun j => g (j + 1)]
    show _ = a * g 0 + (y * g 0 + dot l fun j => g (j + 1)) + x * (y * g 1 + dot l fun j => g (j + 1 + 1))
    have e1 : (y + a) * g 0 = y * g 0 + a * g 0 := Nat.add_mul _ _ _
    have e2 : x * (y * g 1 + dot l fun j => g (j + 1 + 1)) = y * x * g 1 + x * dot l fun j => g (j + 1 + 1) := by rw [Nat.mul_add, ← Nat.mul_assoc, Nat.mul_comm x y]
    rw [e1, e2]
    show y * g 0 + a * g 0 + (y * x * g (0 + 1) + dot l (fun j => g (j + 1)) + x * dot l fun j => g (j + 1 + 1)) = _
    simp only [Nat.zero_add]
    omega
theorem dot_add : ∀ (l : List Nat) (f g : Nat → Nat) (c : Nat), dot l (fun j => f j + c * g j) = dot l f + c * dot l g
  | [], _, _, _ => by simp [dot]
  | x :: l, f, g, c => by
    show x * (f 0 + c * g 0) + dot l (fun j => f (j + 1) + c * g (j + 1)) = x * f 0 + dot l (fun j => f (j + 1)) + c * (x * g 0 + dot l fun j => g (j + 1))
    rw [dot_add l (fun j => f (j + 1)) (fun j => g (j + 1)) c, Nat.mul_add, Nat.mul_add, show x * (c * g 0) = c * (x * g 0) from Nat.mul_left_comm _ _ _]
    omega
theorem dot_by (w : Nat → Nat) : ∀ (ks l : List Nat) (g : Nat → Nat), dot (byCount w ks l) g = dot l fun j => selS w ks fun i => g (j + i)
  | [], l, g => rfl
  | c :: ks, l, g => by
    show dot (byCount w ks (withKid l (w c))) g = _
    rw [dot_by w ks _ g]
    unfold withKid
    rw [dot_with, Nat.zero_mul, Nat.zero_add]
    show dot l (fun j => selS w ks fun i => g (j + i)) + w c * dot l (fun j => selS w ks fun i => g (j + 1 + i)) = dot l fun j => (selS w ks fun i => g (j + i)) + w c * selS w ks fun i => g (j + (i + 1))
    rw [dot_add]
    have e : (fun j => selS w ks fun i => g (j + 1 + i)) = fun j => selS w ks fun i => g (j + (i + 1)) := by
      funext j
      congr 1
      funext i
      congr 1
      omega
    rw [e]
theorem by_one (w : Nat → Nat) (ks : List Nat) (g : Nat → Nat) : dot (byCount w ks [1]) g = selS w ks g := by
  rw [dot_by]
  show 1 * (selS w ks fun i => g (0 + i)) + 0 = _
  simp
theorem by_len (w : Nat → Nat) : ∀ (ks l : List Nat), (byCount w ks l).length = l.length + ks.length
  | [], l => rfl
  | c :: ks, l => by
    show (byCount w ks (withKid l (w c))).length = _
    rw [by_len w ks]
    unfold withKid
    simp
    omega
/-- the sum of a slice -/
theorem dot_slice : ∀ (l : List Nat) (lo n : Nat), ((l.drop lo).take n).sum = dot l fun j => if lo ≤ j ∧ j < lo + n then 1 else 0
  | [], lo, n => by simp [dot]
  | x :: l, 0, 0 => by
    have e : ∀ l : List Nat, dot l (fun _ => 0) = 0 := fun l => by
      induction l with
      | nil => rfl
      | cons y l ih => show y * 0 + dot l (fun _ => 0) = 0; rw [ih, Nat.mul_zero]
    have e2 : (fun j : Nat => if 0 ≤ j ∧ j < 0 + 0 then 1 else 0) = fun _ => 0 := by funext j; simp
    rw [e2, e]
    simp
  | x :: l, 0, n + 1 => by
    show x + _ = x * (if 0 ≤ 0 ∧ 0 < 0 + (n + 1) then 1 else 0) + dot l fun j => if 0 ≤ j + 1 ∧ j + 1 < 0 + (n + 1) then 1 else 0
    have ih := dot_slice l 0 n
    rw [List.drop_zero] at ih
    have e : (fun j : Nat => if 0 ≤ j + 1 ∧ j + 1 < 0 + (n + 1) then 1 else 0) = fun j : Nat => if 0 ≤ j ∧ j < 0 + n then 1 else 0 := by
      funext j
      by_cases h : j < n
      · rw [if_pos (by omega), if_pos (by omega)]
      · rw [if_neg (by omega), if_neg (by omega)]
    rw [e, ← ih, if_pos (by omega), Nat.mul_one]
    rfl
  | x :: l, lo + 1, n => by
    show ((l.drop lo).take n).sum = x * (if lo + 1 ≤ 0 ∧ 0 < lo + 1 + n then 1 else 0) + dot l fun j => if lo + 1 ≤ j + 1 ∧ j + 1 < lo + 1 + n then 1 else 0
    rw [dot_slice l lo n, if_neg (by omega), Nat.mul_zero, Nat.zero_add]
    congr 1
    funext j
    by_cases h : lo ≤ j ∧ j < lo + n
    · rw [if_pos h, if_pos (by omega)]
    · rw [if_neg h, if_neg (by omega)]
theorem bough_sum (b : Bg) (w : Nat → Nat) (lo hi : Nat) (e1 : b.lo = lo) (e2 : b.hi = hi) (h : lo ≤ hi + 1) : (((byCount w b.ks [1]).drop lo).take (hi + 1 - lo)).sum = b.F w := by
  rw [dot_slice, by_one]
  unfold Bg.F
  congr 1
  funext j
  unfold Bg.ind
  rw [e1, e2]
  by_cases z : lo ≤ j ∧ j < lo + (hi + 1 - lo)
  · rw [if_pos z, decide_eq_true (by omega), decide_eq_true (by omega)]; rfl
  · rw [if_neg z]
    by_cases y : lo ≤ j
    · rw [decide_eq_false (show ¬ ((j : Nat) : Int) ≤ hi by omega), Bool.and_false]; rfl
    · rw [decide_eq_false (show ¬ ((lo : Nat) : Int) ≤ j by omega), Bool.false_and]; rfl
theorem sel_congr {w w' : Nat → Nat} : ∀ {ks : List Nat} {g : Nat → Nat}, (∀ k ∈ ks, w k = w' k) → selS w ks g = selS w' ks g
  | [], _, _ => rfl
  | c :: cs, g, h => by
    show selS w cs g + w c * selS w cs _ = selS w' cs g + w' c * selS w' cs _
    rw [sel_congr fun k hk => h k (List.mem_cons_of_mem _ hk), sel_congr (g := fun j => g (j + 1)) fun k hk => h k (List.mem_cons_of_mem _ hk), h c List.mem_cons_self]
theorem sel_none (w : Nat → Nat) : ∀ (ks : List Nat) (g : Nat → Nat), (∀ j, g (j + 1) = 0) → selS w ks g = g 0
  | [], _, _ => rfl
  | c :: cs, g, h => by
    show selS w cs g + w c * selS w cs (fun j => g (j + 1)) = g 0
    rw [sel_none w cs g h, sel_none w cs _ fun j => h (j + 1), h 0, Nat.mul_zero, Nat.add_zero]
/-- the product of the weights, each and one -/
def prod1 (w : Nat → Nat) : List Nat → Nat
  | [] => 1
  | c :: cs => (1 + w c) * prod1 w cs
theorem sel_le (w : Nat → Nat) : ∀ (ks : List Nat) (g : Nat → Nat), (∀ j, g j ≤ 1) → selS w ks g ≤ prod1 w ks
  | [], g, h => h 0
  | c :: cs, g, h => by
    show selS w cs g + w c * selS w cs (fun j => g (j + 1)) ≤ (1 + w c) * prod1 w cs
    rw [Nat.add_mul, Nat.one_mul]
    exact Nat.add_le_add (sel_le w cs g h) (Nat.mul_le_mul_left _ (sel_le w cs _ fun j => h (j + 1)))
theorem prod1_app (w : Nat → Nat) : ∀ (a b : List Nat), prod1 w (a ++ b) = prod1 w a * prod1 w b
  | [], b => (Nat.one_mul _).symm
  | c :: cs, b => by
    show (1 + w c) * prod1 w (cs ++ b) = (1 + w c) * prod1 w cs * prod1 w b
    rw [prod1_app w cs b, Nat.mul_assoc]
theorem prod1_pos (w : Nat → Nat) : ∀ (a : List Nat), 1 ≤ prod1 w a
  | [] => Nat.le_refl _
  | c :: cs => Nat.le_trans (Nat.le_of_eq (Nat.one_mul 1).symm) (Nat.mul_le_mul (Nat.le_add_right 1 _) (prod1_pos w cs))
theorem prod1_mem {w : Nat → Nat} {k : Nat} : ∀ {a : List Nat}, k ∈ a → w k ≤ prod1 w a
  | c :: cs, h => by
    show w k ≤ (1 + w c) * prod1 w cs
    rcases List.mem_cons.mp h with rfl | h
    · exact Nat.le_trans (Nat.le_add_left _ 1) (Nat.le_mul_of_pos_right _ (prod1_pos w cs))
    · exact Nat.le_trans (prod1_mem h) (Nat.le_mul_of_pos_left _ (by omega))
theorem prod1_congr {w w' : Nat → Nat} : ∀ {a : List Nat}, (∀ k ∈ a, w k = w' k) → prod1 w a = prod1 w' a
  | [], _ => rfl
  | c :: cs, h => by
    show (1 + w c) * prod1 w cs = (1 + w' c) * prod1 w' cs
    rw [h c List.mem_cons_self, prod1_congr fun k hk => h k (List.mem_cons_of_mem _ hk)]
theorem prod1_ones {w : Nat → Nat} (h : ∀ k, w k = 1) : ∀ (a : List Nat), prod1 w a = 2 ^ a.length
  | [] => rfl
  | c :: cs => by
    show (1 + w c) * prod1 w cs = 2 ^ (cs.length + 1)
    rw [h c, prod1_ones h cs, Nat.pow_succ, Nat.mul_comm]
/-- a bough is taken: its up weighs so many times more -/
def stepW (w : Nat → Nat) (b : Bg) : Nat → Nat := fun k => if k = b.u then w k * b.F w else w k
theorem stepW_ne {w : Nat → Nat} {b : Bg} {k : Nat} (h : k ≠ b.u) : stepW w b k = w k := if_neg h
theorem stepW_eq {w : Nat → Nat} {b : Bg} : stepW w b b.u = w b.u * b.F w := if_pos rfl
theorem prod1_step {w : Nat → Nat} {b : Bg} {x : Nat} (x1 : 1 ≤ x) (hx : b.F w ≤ x) : ∀ {a : List Nat}, a.Nodup → prod1 (stepW w b) a ≤ x * prod1 w a
  | [], _ => by show 1 ≤ x * 1; omega
  | c :: cs, nd => by
    obtain ⟨n1, n2⟩ := List.nodup_cons.mp nd
    show (1 + stepW w b c) * prod1 (stepW w b) cs ≤ x * ((1 + w c) * prod1 w cs)
    by_cases e : c = b.u
    · subst e
      rw [prod1_congr (w := stepW w b) (w' := w) fun k hk => stepW_ne fun z => n1 (z ▸ hk), stepW_eq, ← Nat.mul_assoc]
      refine Nat.mul_le_mul_right _ ?_
      rw [Nat.mul_add, Nat.mul_one, Nat.mul_comm x]
      exact Nat.add_le_add x1 (Nat.mul_le_mul_left _ hx)
    · rw [stepW_ne e, ← Nat.mul_assoc, Nat.mul_comm x, Nat.mul_assoc]
      exact Nat.mul_le_mul_left _ (prod1_step x1 hx n2)
/-! ### all sets of some options -/
def sub : List Nat → Nat → (Nat → Nat) → Nat
  | [], m, f => f m
  | k :: ks, m, f => sub ks m f + sub ks (m ||| 2 ^ k) f
theorem sub_app : ∀ (a b : List Nat) (m : Nat) (f : Nat → Nat), sub (a ++ b) m f = sub a m fun m' => sub b m' f
  | [], _, _, _ => rfl
  | k :: ks, b, m, f => by
    show sub (ks ++ b) m f + sub (ks ++ b) _ f = _
    rw [sub_app ks b, sub_app ks b]
    rfl
theorem sub_congr : ∀ {V : List Nat} {m : Nat} {f g : Nat → Nat}, (∀ s, (∀ k, k ∉ V → s.testBit k = m.testBit k) → f s = g s) → sub V m f = sub V m g
  | [], m, f, g, h => h m fun _ _ => rfl
  | c :: cs, m, f, g, h => by
    show sub cs m f + sub cs _ f = sub cs m g + sub cs _ g
    congr 1
    · exact sub_congr fun s hs => h s fun k hk => hs k fun z => hk (List.mem_cons_of_mem _ z)
    · refine sub_congr fun s hs => h s fun k hk => ?_
      rw [hs k fun z => hk (List.mem_cons_of_mem _ z), Nat.testBit_or, Nat.testBit_two_pow]
      rw [decide_eq_false (fun z : c = k => hk (z ▸ List.mem_cons_self)), Bool.or_false]
theorem sub_mul (x : Nat) : ∀ (V : List Nat) (m : Nat) (f : Nat → Nat), sub V m (fun s => x * f s) = x * sub V m f
  | [], _, _ => rfl
  | c :: cs, m, f => by
    show sub cs m _ + sub cs _ _ = x * (sub cs m f + sub cs _ f)
    rw [sub_mul x cs, sub_mul x cs, Nat.mul_add]
theorem sub_perm {a b : List Nat} (p : a.Perm b) : ∀ (m : Nat) (f : Nat → Nat), sub a m f = sub b m f := by
  induction p with
  | nil => intro m f; rfl
  | cons x _ ih => intro m f; show sub _ m f + sub _ _ f = sub _ m f + sub _ _ f; rw [ih, ih]
  | swap x y l =>
    intro m f
    show sub l m f + sub l (m ||| 2 ^ x) f + (sub l (m ||| 2 ^ y) f + sub l (m ||| 2 ^ y ||| 2 ^ x) f) = sub l m f + sub l (m ||| 2 ^ y) f + (sub l (m ||| 2 ^ x) f + sub l (m ||| 2 ^ x ||| 2 ^ y) f)
    rw [show m ||| 2 ^ y ||| 2 ^ x = m ||| 2 ^ x ||| 2 ^ y by rw [Nat.or_assoc, Nat.or_comm (2 ^ y), ← Nat.or_assoc]]
    omega
  | trans _ _ h1 h2 => intro m f; rw [h1, h2]
/-- the weights of those that a set has -/
def wt (w : Nat → Nat) : List Nat → Nat → Nat
  | [], _ => 1
  | c :: cs, s => (if s.testBit c = true then w c else 1) * wt w cs s
theorem wt_app (w : Nat → Nat) : ∀ (a b : List Nat) (s : Nat), wt w (a ++ b) s = wt w a s * wt w b s
  | [], b, s => (Nat.one_mul _).symm
  | c :: cs, b, s => by
    show _ * wt w (cs ++ b) s = _ * wt w cs s * wt w b s
    rw [wt_app w cs b s, Nat.mul_assoc]
theorem wt_congr {w w' : Nat → Nat} {s s' : Nat} : ∀ {a : List Nat}, (∀ k ∈ a, s.testBit k = s'.testBit k ∧ w k = w' k) → wt w a s = wt w' a s'
  | [], _ => rfl
  | c :: cs, h => by
    show _ * wt w cs s = _ * wt w' cs s'
    rw [wt_congr fun k hk => h k (List.mem_cons_of_mem _ hk), (h c List.mem_cons_self).1, (h c List.mem_cons_self).2]
theorem wt_step {w : Nat → Nat} {b : Bg} {s : Nat} : ∀ {a : List Nat}, a.Nodup → b.u ∈ a → wt (stepW w b) a s = wt w a s * (if s.testBit b.u = true then b.F w else 1)
  | c :: cs, nd, h => by
    obtain ⟨n1, n2⟩ := List.nodup_cons.mp nd
    show (if s.testBit c = true then stepW w b c else 1) * wt (stepW w b) cs s = (if s.testBit c = true then w c else 1) * wt w cs s * _
    by_cases e : c = b.u
    · rw [wt_congr (w := stepW w b) (w' := w) (s := s) (s' := s) fun k hk => ⟨rfl, stepW_ne fun z => n1 (e ▸ z ▸ hk)⟩, e, stepW_eq]
      by_cases t : s.testBit b.u = true
      · rw [if_pos t, if_pos t, if_pos t, Nat.mul_assoc, Nat.mul_comm (b.F w), ← Nat.mul_assoc]
      · rw [if_neg t, if_neg t, if_neg t, Nat.mul_one]
    · rw [stepW_ne e, wt_step n2 ((List.mem_cons.mp h).resolve_left (Ne.symm e)), Nat.mul_assoc]
theorem wt_ones {w : Nat → Nat} (h : ∀ k, w k = 1) (s : Nat) : ∀ (a : List Nat), wt w a s = 1
  | [] => rfl
  | c :: cs => by
    show _ * wt w cs s = 1
    rw [wt_ones h s cs, h c, ite_self, Nat.mul_one]
theorem sub_sel (w : Nat → Nat) : ∀ {ks : List Nat} {m : Nat} {g : Nat → Nat}, ks.Nodup → (∀ k ∈ ks, m.testBit k = false) → sub ks m (fun s => g (cnt ks s) * wt w ks s) = selS w ks g
  | [], m, g, _, _ => Nat.mul_one _
  | c :: cs, m, g, nd, h => by
    obtain ⟨n1, n2⟩ := List.nodup_cons.mp nd
    have hc := h c List.mem_cons_self
    show sub cs m _ + sub cs (m ||| 2 ^ c) _ = selS w cs g + w c * selS w cs _
    congr 1
    · rw [← sub_sel w (m := m) (g := g) n2 fun k hk => h k (List.mem_cons_of_mem _ hk)]
      refine sub_congr fun s hs => ?_
      have e := hs c n1
      rw [hc] at e
      have e2 : wt w (c :: cs) s = 1 * wt w cs s := by
        show (if s.testBit c = true then w c else 1) * wt w cs s = _
        rw [e]; rfl
      rw [cnt_cons, e, e2, Nat.one_mul, if_neg Bool.false_ne_true, Nat.zero_add]
    · rw [← sub_sel w (m := m ||| 2 ^ c) (g := fun j => g (j + 1)) n2 fun k hk => ?_, ← sub_mul]
      · refine sub_congr fun s hs => ?_
        have e := hs c n1
        rw [Nat.testBit_or, Nat.testBit_two_pow_self, Bool.or_true] at e
        have e2 : wt w (c :: cs) s = w c * wt w cs s := by
          show (if s.testBit c = true then w c else 1) * wt w cs s = _
          rw [e]; rfl
        rw [cnt_cons, e, e2, if_pos rfl, Nat.add_comm 1, Nat.mul_left_comm]
      · rw [Nat.testBit_or, h k (List.mem_cons_of_mem _ hk), Nat.testBit_two_pow, decide_eq_false (fun z : c = k => n1 (z ▸ hk))]; rfl
/-! ### boughs taken one by one -/
def kidsB (L : List Bg) : List Nat := L.flatMap (·.ks)
def Fit (r : Nat) : List Bg → Prop
  | [] => True
  | b :: R => b.u ∈ r :: kidsB R ∧ (∀ k ∈ b.ks, k ≠ b.u ∧ ∀ b' ∈ R, b'.u ≠ k) ∧ Fit r R
def allB (L : List Bg) (s : Nat) : Bool := L.all fun b => b.tie.keep s
def bit (p : Bool) : Nat := if p then 1 else 0
/-- the sets with r that keep the boughs, weighed -/
def zSum (r : Nat) (L : List Bg) (w : Nat → Nat) : Nat := sub (r :: kidsB L) 0 fun s => bit (s.testBit r && allB L s) * wt w (r :: kidsB L) s
theorem keep_bg {b : Bg} {s s' : Nat} (h1 : s.testBit b.u = s'.testBit b.u) (h2 : ∀ k ∈ b.ks, s.testBit k = s'.testBit k) : b.tie.keep s = b.tie.keep s' := by
  show Tie.keep (.bough _ _ _ _) s = Tie.keep (.bough _ _ _ _) s'
  simp only [Tie.keep]
  rw [h1, cnt_congr h2]
theorem zSum_step {r : Nat} {b : Bg} {R : List Bg} {w : Nat → Nat} (nd : (r :: kidsB (b :: R)).Nodup) (ft : Fit r (b :: R)) : zSum r (b :: R) w = zSum r R (stepW w b) := by
  obtain ⟨hu, hk, _⟩ := ft
  have eV : kidsB (b :: R) = b.ks ++ kidsB R := List.flatMap_cons
  have pV : (r :: kidsB (b :: R)).Perm ((r :: kidsB R) ++ b.ks) := by
    rw [eV]
    show (r :: (b.ks ++ kidsB R)).Perm (r :: (kidsB R ++ b.ks))
    exact List.Perm.cons _ List.perm_append_comm
  have nd2 := (pV.nodup_iff).mp nd
  obtain ⟨ndV, ndK, dis⟩ := List.nodup_append.mp nd2
  unfold zSum
  rw [sub_perm pV, sub_app]
  refine sub_congr fun m hm => ?_
  have off : ∀ k ∈ b.ks, m.testBit k = false := fun k hk' => by rw [hm k fun z => dis k z k hk' rfl, Nat.zero_testBit]
  have perW : ∀ s, wt w (r :: kidsB (b :: R)) s = wt w (r :: kidsB R) s * wt w b.ks s := fun s => by
    rw [eV]
    show _ * wt w (b.ks ++ kidsB R) s = _ * wt w (kidsB R) s * wt w b.ks s
    rw [wt_app, Nat.mul_comm (wt w b.ks s), Nat.mul_assoc]
  have un : b.u ∉ b.ks := fun z => (hk b.u z).1 rfl
  have rn : r ∉ b.ks := fun z => dis r List.mem_cons_self r z rfl
  have key : sub b.ks m (fun s => bit (s.testBit r && allB (b :: R) s) * wt w (r :: kidsB (b :: R)) s) = sub b.ks m fun s => (bit (m.testBit r && allB R m) * wt w (r :: kidsB R) m) * ((fun j => if m.testBit b.u = true then b.ind j else bit (decide (j = 0))) (cnt b.ks s) * wt w b.ks s) := by
    refine sub_congr fun s hs => ?_
    rw [perW, hs r rn]
    have e1 : wt w (r :: kidsB R) s = wt w (r :: kidsB R) m := wt_congr fun k hk' => ⟨hs k fun z => dis k hk' k z rfl, rfl⟩
    have e2 : allB R s = allB R m := by
      unfold allB
      rw [Bool.eq_iff_iff, List.all_eq_true, List.all_eq_true]
      have ee : ∀ b' ∈ R, b'.tie.keep s = b'.tie.keep m := fun b' hb' => keep_bg (hs _ fun z => (hk _ z).2 b' hb' rfl) fun k hk' => hs k fun z => dis k (List.mem_cons_of_mem _ (List.mem_flatMap.mpr ⟨b', hb', hk'⟩)) k z rfl
      exact ⟨fun h x hx => by rw [← ee x hx]; exact h x hx, fun h x hx => by rw [ee x hx]; exact h x hx⟩
    have e3 : allB (b :: R) s = (b.tie.keep s && allB R m) := by rw [← e2]; rfl
    have e4 : bit (b.tie.keep s) = (fun j => if m.testBit b.u = true then b.ind j else bit (decide (j = 0))) (cnt b.ks s) := by
      have hu' := hs b.u un
      show bit (Tie.keep (.bough _ _ _ _) s) = _
      simp only [Tie.keep]
      rw [hu']
      by_cases t : m.testBit b.u = true
      · rw [if_pos t, if_pos t]; rfl
      · rw [if_neg t, if_neg t]
    have bm : ∀ p q : Bool, bit (p && q) = bit p * bit q := fun p q => by cases p <;> cases q <;> rfl
    rw [e1, e3, ← e4, bm, bm, bm]
    simp only [Nat.mul_assoc, Nat.mul_comm, Nat.mul_left_comm]
  rw [key, sub_mul, sub_sel w (g := fun j => if m.testBit b.u = true then b.ind j else bit (decide (j = 0))) ndK off, wt_step ndV hu, Nat.mul_assoc]
  congr 1
  congr 1
  by_cases t : m.testBit b.u = true
  · simp only [if_pos t]; rfl
  · simp only [if_neg t]
    exact sel_none w b.ks _ fun j => rfl
theorem zSum_all {r : Nat} : ∀ {L : List Bg} {w : Nat → Nat}, (r :: kidsB L).Nodup → Fit r L → zSum r L w = L.foldl stepW w r
  | [], w, _, _ => by
    show sub [r] 0 (fun s => bit (s.testBit r && true) * ((if s.testBit r = true then w r else 1) * 1)) = w r
    show bit ((0 : Nat).testBit r && true) * ((if (0 : Nat).testBit r = true then w r else 1) * 1) + bit ((0 ||| 2 ^ r).testBit r && true) * ((if (0 ||| 2 ^ r).testBit r = true then w r else 1) * 1) = w r
    rw [Nat.zero_testBit, Nat.zero_or, Nat.testBit_two_pow_self]
    simp [bit]
  | b :: R, w, nd, ft => by
    have nd' : (r :: kidsB R).Nodup := by
      rw [show kidsB (b :: R) = b.ks ++ kidsB R from List.flatMap_cons] at nd
      obtain ⟨n1, n2⟩ := List.nodup_cons.mp nd
      exact List.nodup_cons.mpr ⟨fun z => n1 (List.mem_append_right _ z), (List.nodup_append.mp n2).2.1⟩
    rw [zSum_step nd ft, zSum_all nd' ft.2.2]
    rfl
/-- no weight grows beyond what the sets are -/
theorem fold_le {r B : Nat} : ∀ {L : List Bg} {w : Nat → Nat}, (r :: kidsB L).Nodup → Fit r L → prod1 w (r :: kidsB L) ≤ B → (∀ k, w k ≤ B) → ∀ (i : Nat), (∀ k, (L.take i).foldl stepW w k ≤ B) ∧ ∀ b, L[i]? = some b → b.F ((L.take i).foldl stepW w) ≤ B
  | [], w, _, _, _, h, i => by
    rw [List.take_nil]
    exact ⟨h, fun b hb => by rw [List.getElem?_nil] at hb; cases hb⟩
  | b :: R, w, nd, ft, hB, h, i => by
    have eV : kidsB (b :: R) = b.ks ++ kidsB R := List.flatMap_cons
    rw [eV] at nd hB
    obtain ⟨n1, n2⟩ := List.nodup_cons.mp nd
    have ndV : (r :: kidsB R).Nodup := List.nodup_cons.mpr ⟨fun z => n1 (List.mem_append_right _ z), (List.nodup_append.mp n2).2.1⟩
    have hx : b.F w ≤ prod1 w b.ks := sel_le w b.ks b.ind fun j => by unfold Bg.ind; split <;> omega
    have e : prod1 w (r :: (b.ks ++ kidsB R)) = prod1 w b.ks * prod1 w (r :: kidsB R) := by
      show (1 + w r) * prod1 w (b.ks ++ kidsB R) = _ * ((1 + w r) * prod1 w (kidsB R))
      rw [prod1_app, Nat.mul_left_comm]
    rw [e] at hB
    have hF : b.F w ≤ B := Nat.le_trans hx (Nat.le_trans (Nat.le_mul_of_pos_right _ (prod1_pos w _)) hB)
    have hB2 : prod1 (stepW w b) (r :: kidsB R) ≤ B := Nat.le_trans (prod1_step (prod1_pos w b.ks) hx ndV) hB
    have h2 : ∀ k, stepW w b k ≤ B := fun k => by
      by_cases z : k = b.u
      · rw [z]
        exact Nat.le_trans (prod1_mem ft.1) hB2
      · rw [stepW_ne z]; exact h k
    cases i with
    | zero => exact ⟨h, fun b' hb' => by cases hb'; exact hF⟩
    | succ i => exact fold_le ndV ft.2.2 hB2 h2 i
end Wd

set_option maxRecDepth 100000
set_option maxHeartbeats 4000000
namespace L2
open PySem PySem.Spec PyProof.Rows

/-! ### zip of two lists -/
def ItzL (K : PySem.W.Frag) (a b : Addr) : It :=
  ⟨fun i H => ∃ xs ys x y, SqL K H a xs ∧ SqL K H b ys ∧ xs[i]? = some x ∧ ys[i]? = some y,
   fun i H v H' => ∃ T x y, v = .ref T ∧ H T = none ∧ H' = upd H T (.tup [x, y]) ∧ ∀ xs ys, SqL K H a xs → SqL K H b ys → xs[i]? = some x ∧ ys[i]? = some y,
   fun i H => ∃ xs ys, SqL K H a xs ∧ SqL K H b ys ∧ xs.length = i⟩
theorem turn_zipL {P : Program} {w : World} {K : PySem.W.Frag} {elts : List Expr} {k : Nat} {pos : Pos} {z ti to j1 j2 a b : Addr} (D : ZipApart z ti to j1 j2 a b) :
    Turn P w K (.Tuple elts k pos) (ItzL K a b) [z, ti, to, j1, j2] z (fun i h => (∃ old, IsZip h z ti to old ∧ old = .none) ∧ IsPair h ti (.ref j1) (.ref j2) ∧ (∃ u u2, IsPair h to u u2) ∧ h.IsListIter j1 a i ∧ h.IsListIter j2 b i) where
  mem := by simp
  obj := fun i h st c hc => by
    obtain ⟨⟨_, e1, _⟩, e2, ⟨u, u2, e3⟩, e4, e5⟩ := st
    simp only [List.mem_cons, List.not_mem_nil, or_false] at hc
    rcases hc with rfl | rfl | rfl | rfl | rfl
    · exact ⟨_, e1, fun v y => by cases (show Data.fields _ = Data.cell v from y)⟩
    · exact ⟨_, e2, fun v y => by cases (show Data.seq _ _ = Data.cell v from y)⟩
    · exact ⟨_, e3, fun v y => by cases (show Data.seq _ _ = Data.cell v from y)⟩
    · obtain ⟨o, e, _, d⟩ := e4
      exact ⟨o, e, fun v y => by rw [d] at y; cases y⟩
    · obtain ⟨o, e, _, d⟩ := e5
      exact ⟨o, e, fun v y => by rw [d] at y; cases y⟩
  keep := fun i h h' st kk => by
    obtain ⟨⟨o, e1, e1'⟩, e2, ⟨u, u2, e3⟩, e4, e5⟩ := st
    exact ⟨⟨o, kk z (by simp) _ e1, e1'⟩, kk ti (by simp) _ e2, ⟨u, u2, kk to (by simp) _ e3⟩, e4.at fun o q => kk j1 (by simp) o q, e5.at fun o q => kk j2 (by simp) o q⟩
  item := by
    intro X hP hw hK hc i pins s σ H E I hf st hg
    subst hP hw hK
    obtain ⟨⟨_, e1, rfl⟩, e2, ⟨u, u2, e3⟩, e4, e5⟩ := st
    obtain ⟨xs, ys, x, y, hx, hy, gx, gy⟩ := hg
    obtain ⟨ix, rx, px, _⟩ := I.list hx
    obtain ⟨iy, ry, py, _⟩ := I.list hy
    obtain ⟨ux, hux, rux⟩ := rx.get gx
    obtain ⟨uy, huy, ruy⟩ := ry.get gy
    have lz : z < s.heap.objs.size := Heap.lt_size e1
    refine wpAny_pyNext_zip_item D e1 e2 e3 e4 e5 px.isList py.isList (by rw [List.getElem?_toArray]; exact hux) (by rw [List.getElem?_toArray]; exact huy) fun g z1 t1 k1 k2 pT _ kk => ?_
    refine ⟨_, rfl, wpAny_letOwnedTupleGo_zip z1 fun g2 z2 sb => ?_⟩
    have I2 := I.turnedL (h' := g2) (t' := s.toks) (ch := [z, ti, to, j1, j2]) (T := s.heap.objs.size) hf (Nat.le_refl _) rux ruy (fun c o hc' q => by
      simp only [List.mem_cons, List.not_mem_nil, or_false, not_or] at hc'
      exact (sb.2 c hc'.1).trans (kk c o hc'.1 hc'.2.2.1 hc'.2.2.2.1 hc'.2.2.2.2 q)) ((sb.2 _ (Nat.ne_of_gt lz)).trans pT)
    refine ⟨.ref s.heap.objs.size, _, I2, rfl, ⟨_, x, y, rfl, I.hok.fresh (Nat.le_refl _), rfl, fun xs' ys' hx' hy' => by rw [I.list_inj hx' hx, I.list_inj hy' hy]; exact ⟨gx, gy⟩⟩, ?_, fun c hc' => ?_⟩
    · have at2 : ∀ {c o}, c ≠ z → g.get? c = some o → g2.get? c = some o := fun {c o} n q => (sb.2 c n).trans q
      exact ⟨⟨_, z2, rfl⟩, at2 D.TIz (kk _ _ D.TIz D.TITO D.TIi1 D.TIi2 e2), ⟨_, _, at2 D.TOz t1⟩, k1.at fun o q => at2 D.i1z q, k2.at fun o q => at2 D.i2z q⟩
    · have nz : H c = none := (hf c hc').1
      have cl : c < s.heap.objs.size := by
        simp only [List.mem_cons, List.not_mem_nil, or_false] at hc'
        rcases hc' with rfl | rfl | rfl | rfl | rfl
        · exact lz
        · exact Heap.lt_size e2
        · exact Heap.lt_size e3
        · obtain ⟨o, q, _⟩ := e4
          exact Heap.lt_size q
        · obtain ⟨o, q, _⟩ := e5
          exact Heap.lt_size q
      rw [upd_ne (Nat.ne_of_lt cl)]
      exact nz
  done := by
    intro X hP hw hK hc i pins s σ H E I hf st hg
    subst hP hw hK
    obtain ⟨⟨_, e1, rfl⟩, e2, ⟨u, u2, e3⟩, e4, e5⟩ := st
    obtain ⟨xs, ys, hx, hy, hi⟩ := hg
    obtain ⟨ix, rx, px, _⟩ := I.list hx
    obtain ⟨iy, ry, py, _⟩ := I.list hy
    have hl := rx.length
    refine wpAny_pyNext_zip_end (I.ok.hd hc) D e1 e2 e3 e4 e5 px.isList py.isList (.inl (by rw [List.getElem?_toArray]; exact List.getElem?_eq_none (by omega))) fun g kk => ⟨rfl, I.turnedE (t' := s.toks) (ch := [z, ti, to, j1, j2]) hf fun c o hc' q => ?_⟩
    simp only [List.mem_cons, List.not_mem_nil, or_false, not_or] at hc'
    exact kk c o hc'.1 hc'.2.2.1 hc'.2.2.2.1 hc'.2.2.2.2 q
  self := fun _ _ _ _ _ st h => by
    obtain ⟨⟨_, e1, _⟩, _⟩ := st
    exact wpAny_pyIter_zip e1 h
def iZipL (K : PySem.W.Frag) (ta : TA) : TI := fun σ H R => ta σ H fun vs H1 => ∃ a b : Addr, vs = [.ref a, .ref b] ∧ (∃ xs, SqL K H1 a xs) ∧ (∃ ys, SqL K H1 b ys) ∧ R (ItzL K a b) H1
theorem pi_zipL {X : Cx} {elts : List Expr} {k : Nat} {pos p pos' : Pos} {a b : Expr} {ta : TA} (hg : Gl X "zip") (hm : X.mg "zip" = none) (ha : PA X [a, b] ta) (hs : starEach [a, b] X.env = (false, eval a X.env) :: starEach [b] X.env := by rfl) (hpl : (backTo pos' (starEach [b] X.env)).any (·.1) = false := by rfl) :
    PI X (.Tuple elts k pos) (.Call (.Name "zip" p) [a, b] [] pos') (iZipL X.K ta) := by
  intro pins s σ H R I h
  refine Call_ (ld_blt I hg hm PyProof.Rows.boot_zip (PyProof.Rows.callWith_type1 (thn (ha pos' pins s σ H _ I h) fun us s1 ⟨vs, H1, I1, r1, q1⟩ => ?_) hs hpl))
  obtain ⟨ca, cb, rfl, ⟨xs, hx⟩, ⟨ys, hy⟩, q⟩ := q1
  cases r1 with
  | cons ra rb =>
    cases rb with
    | cons rb r0 =>
      cases r0
      cases ra
      cases rb
      obtain ⟨ix, rx, px, _⟩ := I1.list hx
      obtain ⟨iy, ry, py, _⟩ := I1.list hy
      have la : ca < s1.heap.objs.size := by obtain ⟨o, e, _⟩ := px.isList; exact Heap.lt_size e
      have lb : cb < s1.heap.objs.size := by obtain ⟨o, e, _⟩ := py.isList; exact Heap.lt_size e
      refine call_zip_2 px.isList py.isList fun g z1 t1 t2 k1 k2 _ kk => ?_
      refine wpAny_pyIter_zip z1 ?_
      generalize hn : s1.heap.objs.size = n at *
      have D := zip_apart n ca cb la lb
      refine ⟨n + 4, [n + 4, n + 2, n + 3, n, n + 1], _, _, H1, rfl, I1.kept (t' := s1.toks) kk, turn_zipL D, ⟨⟨_, z1, rfl⟩, t1, ⟨_, _, t2⟩, k1, k2⟩, fun d hd => ?_, q⟩
      have le : s1.heap.objs.size ≤ d := by
        rw [hn]
        simp only [List.mem_cons, List.not_mem_nil, or_false] at hd
        rcases hd with rfl | rfl | rfl | rfl | rfl
        · exact Nat.le_add_right _ _
        · exact Nat.le_add_right _ _
        · exact Nat.le_add_right _ _
        · exact Nat.le_refl _
        · exact Nat.le_add_right _ _
      exact I1.fpOk le (I1.hok.fresh le)
/-- a comprehension over zip of two lists of one length -/
theorem lc_zipL {K : PySem.W.Frag} {a b : Addr} {xs ys : List V} {σ0 : St} {H : Hp} {g : TG} {tc : TT} {te : TE} {Q : VK} (Pv : Nat → List V → St → Hp → Prop) (hlen : xs.length = ys.length) (h0 : Pv 0 [] σ0 H) (hz : ∀ i zs σ H, i ≤ xs.length → Pv i zs σ H → zs.length ≤ sizeLine)
    (hl : ∀ i zs σ H, i ≤ xs.length → Pv i zs σ H → SqL K H a xs ∧ SqL K H b ys)
    (hs : ∀ i x y zs σ H, xs[i]? = some x → ys[i]? = some y → Pv i zs σ H → ∀ T, H T = none → g (.ref T) σ (upd H T (.tup [x, y])) fun σ3 H3 => tc σ3 H3 fun b H4 => if b = true then te σ3 H4 fun v H5 => Pv (i + 1) (zs ++ [v]) σ3 H5 else Pv (i + 1) zs σ3 H4)
    (hd : ∀ zs σ H, Pv xs.length zs σ H → ∀ p, H p = none → Q (.ref p) (upd H p (.lst zs))) :
    lcGo (ItzL K a b) g tc te σ0 H Q := by
  refine ⟨fun i m zs σ H => m = xs.length - i ∧ i ≤ xs.length ∧ Pv i zs σ H, ⟨xs.length, by simp, Nat.zero_le _, h0⟩, ?_⟩
  rintro i m zs σ H ⟨rfl, hi, p⟩
  refine ⟨hz i zs σ H hi p, ?_⟩
  obtain ⟨q1, q2⟩ := hl i zs σ H hi p
  by_cases hlt : i < xs.length
  · refine .inr ⟨⟨xs, ys, xs[i], ys[i], q1, q2, by simp [hlt], List.getElem?_eq_getElem (by omega)⟩, Pv (i + 1), fun ys' σ' H' p' => ⟨xs.length - (i + 1), by omega, rfl, hlt, p'⟩, fun v H' y => ?_⟩
    obtain ⟨T, x, y, rfl, hT, rfl, hv⟩ := y
    obtain ⟨v1, v2⟩ := hv xs ys q1 q2
    exact hs i x y zs σ H v1 v2 p T hT
  · have e : i = xs.length := by omega
    subst e
    exact .inl ⟨⟨xs, ys, q1, q2, rfl⟩, hd zs σ H p⟩
end L2

set_option maxRecDepth 100000
set_option maxHeartbeats 4000000
namespace Wd
open PySem L2 Ow
/-! ### the boughs in the order in which they are taken -/
def atUp (L : List Bg) (k : Nat) : List Bg := L.filter fun b => b.u == k
def ordL (m : Nat) (L : List Bg) : List Bg := (List.range m).reverse.flatMap (atUp L)
theorem mem_atUp {L : List Bg} {k : Nat} {b : Bg} : b ∈ atUp L k ↔ b ∈ L ∧ b.u = k := by
  unfold atUp
  rw [List.mem_filter, beq_iff_eq]
theorem mem_ordL {m : Nat} {L : List Bg} (ok : ∀ b ∈ L, b.u < m) {b : Bg} : b ∈ ordL m L ↔ b ∈ L := by
  unfold ordL
  rw [List.mem_flatMap]
  constructor
  · rintro ⟨k, _, h⟩
    exact (mem_atUp.mp h).1
  · intro h
    exact ⟨b.u, List.mem_reverse.mpr (List.mem_range.mpr (ok b h)), mem_atUp.mpr ⟨h, rfl⟩⟩
theorem ord_succ (m : Nat) (L : List Bg) : ordL (m + 1) L = atUp L m ++ ordL m L := by
  unfold ordL
  rw [List.range_succ, List.reverse_append]
  rfl
/-- all boughs below m, in another order -/
theorem ord_perm (L : List Bg) : ∀ (m : Nat), (ordL m L).Perm (L.filter fun b => decide (b.u < m))
  | 0 => by
    have e : (L.filter fun b => decide (b.u < 0)) = [] := List.filter_eq_nil_iff.mpr fun b hb => by simp
    rw [e]
    exact List.Perm.refl _
  | m + 1 => by
    rw [ord_succ]
    refine (List.Perm.append_left _ (ord_perm L m)).trans ?_
    induction L with
    | nil => exact List.Perm.refl _
    | cons b L ih =>
      unfold atUp at ih ⊢
      by_cases h1 : b.u = m
      · rw [List.filter_cons_of_pos (by simpa using h1), List.filter_cons_of_neg (by simp; omega), List.filter_cons_of_pos (by simp; omega)]
        exact List.Perm.cons _ ih
      · rw [List.filter_cons_of_neg (by simpa using h1)]
        by_cases h2 : b.u < m
        · rw [List.filter_cons_of_pos (by simpa using h2), List.filter_cons_of_pos (by simp; omega)]
          exact List.perm_middle.trans (List.Perm.cons _ ih)
        · rw [List.filter_cons_of_neg (by simpa using h2), List.filter_cons_of_neg (by simp; omega)]
          exact ih
theorem ord_perm_all {m : Nat} {L : List Bg} (ok : ∀ b ∈ L, b.u < m) : (ordL m L).Perm L := by
  have e : (L.filter fun b => decide (b.u < m)) = L := List.filter_eq_self.mpr fun b hb => by simpa using ok b hb
  have := ord_perm L m
  rwa [e] at this
theorem ord_down {L : List Bg} : ∀ {m : Nat}, (ordL m L).Pairwise fun b b' => b'.u ≤ b.u
  | 0 => List.Pairwise.nil
  | m + 1 => by
    rw [ord_succ, List.pairwise_append]
    refine ⟨?_, ord_down, fun b hb b' hb' => ?_⟩
    · exact List.Pairwise.imp_of_mem (R := fun _ _ => True) (fun {a b} ha hb _ => by rw [(mem_atUp.mp ha).2, (mem_atUp.mp hb).2]; exact Nat.le_refl _) (List.pairwise_of_forall fun _ _ => trivial)
    · rw [(mem_atUp.mp hb).2]
      unfold ordL at hb'
      obtain ⟨k, hk, hk'⟩ := List.mem_flatMap.mp hb'
      rw [(mem_atUp.mp hk').2]
      exact Nat.le_of_lt (List.mem_range.mp (List.mem_reverse.mp hk))
structure TreeB (m : Nat) (L : List Bg) : Prop where
  ok : ∀ b ∈ L, Tie.BoughOk m b.u b.lo b.hi b.ks
  kids : (kidsB L).Perm (List.range' 1 (m - 1))
  m1 : 1 ≤ m
/-- a list of boughs, each later one no deeper, is fit where each up is a kid of a later one -/
theorem fit_of {m : Nat} : ∀ {L : List Bg}, (∀ b ∈ L, Tie.BoughOk m b.u b.lo b.hi b.ks) → (L.Pairwise fun b b' => b'.u ≤ b.u) → (∀ b ∈ L, b.u = 0 ∨ b.u ∈ kidsB L) → Fit 0 L
  | [], _, _, _ => trivial
  | b :: R, ok, pw, ups => by
    obtain ⟨p1, p2⟩ := List.pairwise_cons.mp pw
    have okb := ok b List.mem_cons_self
    have eV : kidsB (b :: R) = b.ks ++ kidsB R := List.flatMap_cons
    have upR : ∀ b' ∈ b :: R, b'.u = 0 ∨ b'.u ∈ kidsB R := fun b' hb' => by
      rcases ups b' hb' with z | z
      · exact .inl z
      · rw [eV] at z
        rcases List.mem_append.mp z with z | z
        · have h1 := (okb.up _ z).1
          rcases List.mem_cons.mp hb' with e | e
          · subst e; omega
          · have := p1 b' e; omega
        · exact .inr z
    refine ⟨?_, fun k hk => ⟨?_, fun b' hb' => ?_⟩, fit_of (fun b' hb' => ok b' (List.mem_cons_of_mem _ hb')) p2 fun b' hb' => upR b' (List.mem_cons_of_mem _ hb')⟩
    · rcases upR b List.mem_cons_self with z | z
      · rw [z]; exact List.mem_cons_self
      · exact List.mem_cons_of_mem _ z
    · have := (okb.up k hk).1; omega
    · have h1 := (okb.up k hk).1
      have h2 := p1 b' hb'
      omega
theorem kids_perm {A B : List Bg} (p : A.Perm B) : (kidsB A).Perm (kidsB B) := List.Perm.flatMap_right _ p
theorem TreeB.lt {m : Nat} {L : List Bg} (T : TreeB m L) : ∀ b ∈ L, b.u < m := fun b hb => (T.ok b hb).um
theorem TreeB.perm0 {m : Nat} {L : List Bg} (T : TreeB m L) : (0 :: kidsB (ordL m L)).Perm (List.range m) := by
  have h1 := (kids_perm (ord_perm_all T.lt)).trans T.kids
  have m1 := T.m1
  have e : List.range m = 0 :: List.range' 1 (m - 1) := by
    rw [List.range_eq_range']
    obtain ⟨n, rfl⟩ : ∃ n, m = n + 1 := ⟨m - 1, by omega⟩
    rfl
  rw [e]
  exact List.Perm.cons _ h1
theorem TreeB.nd {m : Nat} {L : List Bg} (T : TreeB m L) : (0 :: kidsB (ordL m L)).Nodup := (T.perm0.nodup_iff).mpr List.nodup_range
theorem TreeB.fit {m : Nat} {L : List Bg} (T : TreeB m L) : Fit 0 (ordL m L) := by
  refine fit_of (m := m) (fun b hb => T.ok b ((mem_ordL T.lt).mp hb)) ord_down fun b hb => ?_
  have h1 := T.lt b ((mem_ordL T.lt).mp hb)
  have h2 : b.u ∈ 0 :: kidsB (ordL m L) := T.perm0.mem_iff.mpr (List.mem_range.mpr h1)
  rcases List.mem_cons.mp h2 with z | z
  · exact .inl z
  · exact .inr z
def ones : Nat → Nat := fun _ => 1
/-- what is told of each option -/
def waysW (m : Nat) (L : List Bg) : Nat → Nat := (ordL m L).foldl stepW ones
theorem TreeB.le {m : Nat} {L : List Bg} (T : TreeB m L) (m9 : m ≤ 9) {P R : List Bg} (e : P ++ R = ordL m L) : (∀ k, P.foldl stepW ones k ≤ 512) ∧ ∀ b R', R = b :: R' → b.F (P.foldl stepW ones) ≤ 512 := by
  have h0 : prod1 ones (0 :: kidsB (ordL m L)) ≤ 512 := by
    rw [prod1_ones (w := ones) (fun _ => rfl), T.perm0.length_eq, List.length_range]
    exact Nat.le_trans (Nat.pow_le_pow_right (by decide) m9) (by decide : 2 ^ 9 ≤ 512)
  have h := fold_le (B := 512) T.nd T.fit h0 (fun _ => by show 1 ≤ 512; decide) P.length
  rw [← e, List.take_left] at h
  refine ⟨h.1, fun b R' eR => h.2 b ?_⟩
  rw [eR, List.getElem?_append_right (Nat.le_refl _), Nat.sub_self]
  rfl
/-! ### all sets, by their numbers -/
theorem sum_split (f : Nat → Nat) (n : Nat) : ((List.range (n + n)).map f).sum = ((List.range n).map fun s => f s + f (n + s)).sum := by
  rw [List.range_add, List.map_append, List.sum_append, List.map_map]
  have h : ∀ (l : List Nat) (f g : Nat → Nat), (l.map f).sum + (l.map g).sum = (l.map fun s => f s + g s).sum := fun l f g => by
    induction l with
    | nil => rfl
    | cons x l ih => simp only [List.map_cons, List.sum_cons]; rw [← ih]; omega
  exact h _ _ _
theorem sub_range (f : Nat → Nat) : ∀ (m : Nat) (g : Nat → Nat), (∀ s, s < 2 ^ m → f s = g s) → sub (List.range m) 0 f = ((List.range (2 ^ m)).map g).sum
  | 0, g, h => by
    show f 0 = g 0 + 0
    rw [h 0 (by decide)]; rfl
  | m + 1, g, h => by
    rw [List.range_succ, sub_app, Nat.pow_succ, Nat.mul_two, sum_split]
    refine sub_range _ m _ fun s hs => ?_
    show f s + f (s ||| 2 ^ m) = g s + g (2 ^ m + s)
    have e : s ||| 2 ^ m = 2 ^ m + s := by
      rw [Nat.or_comm]
      have := Nat.two_pow_add_eq_or_of_lt hs 1
      simpa using this.symm
    have p : 2 ^ (m + 1) = 2 ^ m + 2 ^ m := by rw [Nat.pow_succ, Nat.mul_two]
    rw [e, h s (by omega), h (2 ^ m + s) (by omega)]
end Wd

set_option maxRecDepth 100000
set_option maxHeartbeats 4000000
namespace L2
open PySem PySem.Spec PyProof.Rows
/-! ### set(l) of a list of unlike whole numbers, and how many it has -/
section
variable {X : Cx}
end
end L2

set_option maxRecDepth 100000
set_option maxHeartbeats 4000000
namespace Wd
open PySem L2 Ow
structure WoodB (H : Hp) (wd : Addr) (m : Nat) (L : List Bg) : Prop where
  ex : ∃ xs, WoodAt H wd m xs [] ∧ DnL H (L.map fun b => b.tie.toD) xs
  T : TreeB m L
  few : L.length ≤ 9
  m9 : m ≤ 9
theorem WoodB.same {H H' : Hp} {wd : Addr} {m : Nat} {L : List Bg} (s : Same H H') (h : WoodB H wd m L) : WoodB H' wd m L := by
  obtain ⟨xs, h1, h2⟩ := h.ex
  exact ⟨⟨xs, WoodAt.same s h1, DnL.same s _ _ h2⟩, h.T, h.few, h.m9⟩
theorem bgs_of {m : Nat} : ∀ {bs : List PyData}, (∀ b ∈ bs, isBough m b = true) → ∃ L : List Bg, bs = L.map (fun b => b.tie.toD) ∧ ∀ b ∈ L, Tie.BoughOk m b.u b.lo b.hi b.ks
  | [], _ => ⟨[], rfl, fun _ h => nomatch h⟩
  | b :: bs, h => by
    obtain ⟨u, lo, hi, ks, e, ok⟩ := tie_of_bough (h b List.mem_cons_self)
    obtain ⟨L, e2, ok2⟩ := bgs_of fun x hx => h x (List.mem_cons_of_mem _ hx)
    refine ⟨⟨u, lo, hi, ks⟩ :: L, ?_, fun x hx => ?_⟩
    · rw [e, e2]; rfl
    · rcases List.mem_cons.mp hx with rfl | hx
      · exact ok
      · exact ok2 x hx
theorem kids_bg (b : Bg) : kidsOf b.tie.toD = b.ks.map fun k : Nat => (k : Int) := by
  show List.map toI (b.ks.map fun k : Nat => PyData.int (k : Int)) = _
  rw [List.map_map]
  rfl
theorem perm_cast : ∀ {A B : List Nat}, (A.map fun k : Nat => (k : Int)).Perm (B.map fun k : Nat => (k : Int)) → A.Perm B := fun {A B} h => by
  have := h.map Int.toNat
  rw [List.map_map, List.map_map] at this
  have e : ∀ l : List Nat, l.map (Int.toNat ∘ fun k : Nat => (k : Int)) = l := fun l => by
    induction l with
    | nil => rfl
    | cons x l ih => rw [List.map_cons, ih]; rfl
  rwa [e, e] at this
theorem woodB_of {H : Hp} {wd : Addr} {m : Nat} {bs cs : List PyData} (h : WoodX H wd m bs cs) (hc : cs = []) : ∃ L : List Bg, bs = L.map (fun b => b.tie.toD) ∧ ∀ H', TupS H H' → WoodB H' wd m L := by
  subst hc
  obtain ⟨L, e, ok⟩ := bgs_of h.gb.each
  have m1 := h.m1
  have b8 := h.b8
  refine ⟨L, e, fun H' t => ?_⟩
  obtain ⟨xs, ys, WA, db, dc⟩ := (h.tupS t).ex
  cases (show ys = [] from dc)
  refine ⟨⟨xs, WA, by rw [← e]; exact db⟩, ⟨ok, perm_cast ?_, m1⟩, by rw [e, List.length_map] at b8; exact b8, h.m9⟩
  have k := h.gb.kids
  have e1 : bs.flatMap kidsOf = (kidsB L).map fun k : Nat => (k : Int) := by
    rw [e]
    unfold kidsB
    rw [List.map_flatMap, List.flatMap_map]
    congr 1
    funext b
    exact kids_bg b
  have e2 : ((List.range' 0 ((m : Int) - 1).toNat).map fun i : Nat => (1 : Int) + i) = (List.range' 1 (m - 1)).map fun k : Nat => (k : Int) := by
    rw [show ((m : Int) - 1).toNat = m - 1 by omega]
    apply List.ext_getElem
    · rw [List.length_map, List.length_map, List.length_range', List.length_range']
    · intro i h1 h2
      rw [List.getElem_map, List.getElem_map, List.getElem_range', List.getElem_range']
      omega
  rw [e1, e2] at k
  exact k
def spWithKid : Sp := fun vs H Q _ => ∃ (l : Addr) (L : List Nat) (x : Nat), vs = [.ref l, .int x] ∧ H l = some (.lst (natsL L)) ∧ L.length ≤ 100 ∧ x ≤ 1000 ∧ ∀ (p : Addr) (H' : Hp), Same H H' → H p = none → H' p = some (.lst (natsL (withKid L x))) → Q (.ref p) H'
/-- of a bough and what is told of each option -/
def spBoughW : Sp := fun vs H Q _ => ∃ (v : V) (l : Addr) (b : Bg) (m : Nat) (f : Nat → Nat), vs = [v, .ref l] ∧ Dn H b.tie.toD v ∧ Tie.BoughOk m b.u b.lo b.hi b.ks ∧ m ≤ 9 ∧ H l = some (.lst (natsL ((List.range m).map f))) ∧ (∀ k, f k ≤ 512) ∧ ∀ H', Same H H' → Q (.int (b.F f : Int)) H'
def spWays : Sp := fun vs H Q _ => ∃ (wd : Addr) (m : Nat) (L : List Bg), vs = [.ref wd] ∧ WoodB H wd m L ∧ ∀ (l : Addr) (H' : Hp), Same H H' → H l = none → H' l = some (.lst (natsL ((List.range m).map (waysW m L)))) → Q (.ref l) H'
theorem told_at {m k : Nat} {f : Nat → Nat} (h : k < m) : atI (natsL ((List.range m).map f)) (k : Int) = some (.int (f k : Int)) := atI_nat (by rw [List.getElem?_map, List.getElem?_map, List.getElem?_range h]; rfl)
theorem take_map_succ {α β : Type} {g : α → β} {l : List α} {i : Nat} {x : α} (h : l[i]? = some x) : (l.take (i + 1)).map g = (l.take i).map g ++ [g x] := by
  rw [List.take_add_one, h, Option.toList_some, List.map_append]
  rfl
theorem natsL_app (A B : List Nat) : natsL (A ++ B) = natsL A ++ natsL B := List.map_append
theorem natsL_succ {l : List Nat} {i x : Nat} (h : l[i]? = some x) : natsL (l.take (i + 1)) = natsL (l.take i) ++ [.int (x : Int)] := take_map_succ h
theorem with_len (L : List Nat) (x : Nat) : (withKid L x).length = L.length + 1 := by
  unfold withKid
  simp
theorem sum_nats (l : List Nat) : (l.map fun k : Nat => (k : Int)).sum = ((l.sum : Nat) : Int) := by
  induction l with
  | nil => rfl
  | cons x l ih => rw [List.map_cons, List.sum_cons, List.sum_cons, ih]; push_cast; rfl
theorem cut_nats (A : List Nat) {lo hi : Nat} (h : hi ≤ A.length) : cutV (natsL A) (some (lo : Int)) (some (hi : Int)) = natsL ((A.drop lo).take (hi - lo)) := by
  unfold cutV
  rw [HT.sIx_nat, HT.sIx_nat, List.length_map, Nat.min_eq_left h]
  by_cases z : lo ≤ A.length
  · rw [Nat.min_eq_left z]
    show _ = List.map _ (List.take _ (List.drop _ _))
    rw [List.map_take, List.map_drop]
  · rw [Nat.min_eq_right (by omega), List.drop_of_length_le (by rw [List.length_map]; exact Nat.le_refl _), List.drop_of_length_le (by omega), List.take_nil, List.take_nil]
    rfl
theorem set_told {m k : Nat} {f g : Nat → Nat} (e : ∀ j, g j = if j = k then g k else f j) (h : k < m) : (natsL ((List.range m).map f)).set k (.int (g k : Int)) = natsL ((List.range m).map g) := by
  apply List.ext_getElem
  · simp
  · intro i h1 h2
    rw [List.getElem_set]
    simp only [List.getElem_map, List.getElem_range]
    by_cases z : k = i
    · subst z
      rw [if_pos rfl]
    · rw [if_neg z, e i, if_neg (Ne.symm z)]
end Wd
namespace Wd
open PySem L2 Ow
/-! ### choices by the bits of a number -/
end Wd
namespace Wd
open PySem L2 Ow
end Wd

set_option maxRecDepth 100000
set_option maxHeartbeats 4000000
namespace L2
open PySem PySem.Spec PyProof.Rows
/-! ### a, b = a list -/
section
variable {prog : Program} {w : World} {A : Around} {E : Value → Shared → Prop} {s : Shared}
end
section
variable {X : Cx} {pos : Pos}
end
section
variable {X : Cx}
/-! ### list.insert at a place within -/
end
end L2

set_option maxRecDepth 100000
set_option maxHeartbeats 4000000
namespace Wd
open PySem L2 Ow
/-! ### woods drawn by a state (the laws from k50 on) -/
end Wd

set_option maxRecDepth 100000
set_option maxHeartbeats 4000000
namespace Wd
open PySem L2 Ow
end Wd

set_option maxRecDepth 100000
set_option maxHeartbeats 4000000
namespace HT
open PySem PySem.Spec PyProof.Rows
section
variable {prog : Program} {w : World} {A : Around} {E : Value → Shared → Prop} {s : Shared}
end
end HT
namespace HT
open PySem PySem.Spec PyProof.Rows
section
variable {prog : Program} {w : World} {A : Around} {E : Value → Shared → Prop} {s : Shared}
end
end HT
namespace L2
open PySem PySem.Spec PyProof.Rows
section
variable {X : Cx} {e st : Expr} {te tst : TE} {pos p2 : Pos}
end
end L2
namespace L2
open PySem PySem.Spec PyProof.Rows
section
variable {X : Cx}
end
end L2
namespace Wd
open PySem L2 Ow
mutual
theorem flat_lay : ∀ (n : Nat) (d : PyData), flatD n d = true → PyData.canLay0 d = true ∧ PyData.depth d ≤ n + 1
  | _, .int i, _ => ⟨by simp [PyData.canLay0], by simp only [PyData.depth]; omega⟩
  | n, .str s, h => ⟨by cases n <;> simpa [PyData.canLay0] using (show PyData.strOk s = true from h), by simp only [PyData.depth]; omega⟩
  | n + 1, .tuple ds, h => by
    have z : (decide (ds.length ≤ 1000) && ds.all (flatD n)) = true := h
    rw [Bool.and_eq_true] at z
    obtain ⟨a, b⟩ := flat_layAll n ds z.2
    exact ⟨by simpa [PyData.canLay0] using a, by simp only [PyData.depth]; omega⟩
  | 0, .tuple _, h => by cases h
  | 0, .none, h => by cases h
  | n + 1, .none, h => by cases h
  | 0, .bool _, h => by cases h
  | n + 1, .bool _, h => by cases h
  | 0, .list _, h => by cases h
  | n + 1, .list _, h => by cases h
  | 0, .dict _, h => by cases h
  | n + 1, .dict _, h => by cases h
theorem flat_layAll : ∀ (n : Nat) (ds : List PyData), ds.all (flatD n) = true → PyData.canLayAll0 ds = true ∧ PyData.depthAll ds ≤ n + 1
  | _, [], _ => ⟨by simp [PyData.canLayAll0], by simp only [PyData.depthAll]; omega⟩
  | n, d :: ds, h => by
    rw [List.all_cons, Bool.and_eq_true] at h
    obtain ⟨a1, b1⟩ := flat_lay n d h.1
    obtain ⟨a2, b2⟩ := flat_layAll n ds h.2
    exact ⟨by simp [PyData.canLayAll0, a1, a2], by simp only [PyData.depthAll]; omega⟩
end
end Wd

set_option maxRecDepth 100000
set_option maxHeartbeats 4000000
namespace Wd
open PySem L2 Ow
/-! ### which ties a set breaks -/
end Wd

set_option maxRecDepth 100000
set_option maxHeartbeats 4000000
namespace Wd
open PySem L2 Ow
end Wd

set_option maxRecDepth 100000
set_option maxHeartbeats 4000000
namespace Wd
open PySem L2 Ow
/-! ### the sets of a stand, one by one -/
end Wd

set_option maxRecDepth 100000
namespace L2
open PySem PySem.Spec PyProof.Rows

/-! ### lists of pairs as tables -/
section
variable {κ : Type} [DecidableEq κ]
end


/-! ### a tracked dict, its keys ints and texts or tuples of these -/
section
variable {P : Program} {w : World} {H : Hp} {h : Heap} {a : Addr}
end

section
variable {X : Cx} {pins : List (Addr × Obj)} {σ : St} {H : Hp} {s : Shared} {a : Addr} {y v : V} {u r : Value} {o : Option V} {A : Around} {E : Value → Shared → Prop}

end

section
variable {X : Cx} {pins : List (Addr × Obj)} {σ : St} {H : Hp} {s : Shared} {a : Addr} {kvs : List (Key × V)} {k : Key} {u : Value} {A : Around} {E : Value → Shared → Prop}
end


/-! ### readings and rules -/
section
variable {X : Cx} {o i e value : Expr} {pos pos' tpos : Pos} {td ty tv : TE}
end


/-! ### displays -/
section
variable {X : Cx} {pos : Pos}
end

/-! ### methods -/
section
variable {X : Cx} {pins : List (Addr × Obj)} {σ : St} {H : Hp} {s : Shared} {a : Addr} {y d : V} {u r : Value} {o : Option V} {A : Around} {E : Value → Shared → Prop}
end

section
variable {X : Cx} {o e f : Expr} {apos cpos : Pos} {td ty tx : TE}
end

/-! ### dict(d): a copy -/
section
variable {X : Cx} {pins : List (Addr × Obj)} {σ : St} {H : Hp} {s : Shared} {a : Addr} {kvs : List (Key × V)} {A : Around} {E : Value → Shared → Prop}
end


section
variable {X : Cx} {pins : List (Addr × Obj)} {σ : St} {H : Hp} {s : Shared} {a : Addr} {y : V} {u : Value} {A : Around} {E : Value → Shared → Prop}
end
end L2
namespace L2
open PySem PySem.Spec PyProof.Rows
section
variable {X : Cx}
end

/-! ### a dict's pairs: keys that differ -/
section
variable {κ : Type} [DecidableEq κ]
end
end L2

set_option maxRecDepth 100000
set_option maxHeartbeats 4000000
namespace L2
open PySem PySem.Spec
/-- PE as a word that the elaborator doesn't unfold (a display's run is long) -/
@[irreducible] def PEi (X : Cx) (e : Expr) (t : TE) : Prop := PE X e t
@[irreducible] def PSi (X : Cx) (e : Stmt) (t : TS) : Prop := PS X e t
@[irreducible] def PLi (X : Cx) (l : List Stmt) (t : TS) : Prop := PSs X l t
end L2
namespace Wd
open PySem L2 Ow
end Wd

set_option maxRecDepth 100000
set_option maxHeartbeats 4000000
namespace Wd
open PySem L2 Ow
end Wd

set_option maxRecDepth 100000
set_option maxHeartbeats 4000000
namespace L2
open PySem PySem.Spec PyProof.Rows
end L2
namespace Wd
open PySem L2 Ow
/-! ### trees that are looked at -/
end Wd

set_option maxRecDepth 100000
set_option maxHeartbeats 4000000
namespace Wd
open PySem L2 Ow
section
variable {t1 t2 : List Tie} {m f y n : Nat}
end
end Wd

set_option maxRecDepth 100000
set_option maxHeartbeats 4000000
namespace L2
open PySem PySem.Spec PyProof.Rows
end L2
namespace Wd
open PySem L2 Ow
/-! ### trees of one wood within another that are looked at -/
end Wd

set_option maxRecDepth 100000
set_option maxHeartbeats 4000000
namespace L2
open PySem PySem.Spec PyProof.Rows
/-! ### own exceptions: their classes -/
abbrev bmVE : List Value := [.type "ValueError", .type "Exception", .type "BaseException", .type "object"]
abbrev nwVE : String := "ValueError.__new__"
/-- the class of an own exception, as it stands in the heap; bm: what stands above it -/
structure XCls (h : Heap) (C : Addr) (bm : List Value) : Prop where
  ex : ∃ N nm qn bs hd sn sub ab col dd k0 k1 k2 k3 k5 mN, h.get? C = some (excClassObj nm qn C N bs bm hd sn sub ab col dd k0 k1 k2 k3 k5 nwVE) ∧ h.Ns N mN ∧ mN "__init__" = none ∧ OwnTail h bmVE bm
theorem XCls.mk' {K : PySem.W.Frag} {h : Heap} {C : Addr} (X : K.In h) (q : PySem.W.excIn K C bmVE nwVE = true) : ∃ bm, XCls h C bm := by
  unfold PySem.W.excIn at q
  split at q
  case h_2 => cases q
  case h_1 od cd sl hl =>
    split at q
    case h_2 => cases q
    case h_1 C2 bm a0 a1 a2 a3 nw a5 hm hs =>
      rw [Bool.and_eq_true, Bool.and_eq_true, Bool.and_eq_true, Bool.and_eq_true, Bool.and_eq_true, beq_iff_eq, beq_iff_eq, beq_iff_eq, Bool.not_eq_true'] at q
      obtain ⟨⟨⟨⟨⟨q1, q2⟩, q3⟩, q4⟩, q5⟩, q6⟩ := q
      subst q1 q2
      obtain ⟨f1, f2, f3, f4, f5, f6, f7, f8, f9, fa, fb⟩ := cd
      replace hm : f3 = .ref C2 :: bm := hm
      replace q3 : fb = false := q3
      subst hm q3
      obtain ⟨ls⟩ := sl
      replace hs : ls = [a0, a1, a2, a3, some (.builtin nwVE), a5] := hs
      subst hs
      exact ⟨bm, ⟨_, _, _, _, _, _, _, _, _, _, _, _, _, _, _, _, X _ _ hl, .of_isNs (PySem.W.isNs_of_in X q5), PySem.W.nsMap_none_of_in X q5 q6, PySem.W.tail_of_in X q4⟩⟩
/-- an exception's class is beneath the clause's -/
theorem matches_own {M : Model} {A : Around} {E : Value → Shared → Prop} {s : Shared} {C D e : Addr} {bC bD : List Value} {oe : Obj} {Q : Bool → Shared → Prop} (xC : XCls s.heap C bC) (xD : XCls s.heap D bD)
    (he : s.heap.get? e = some oe) (hcls : oe.cls = .ref D) (hin : (Value.ref D :: bD).contains (.ref C) = true) (hq : Q true s) : wpAny M A (excMatches (.ref e) (.ref C)) Q E s := by
  obtain ⟨N, nm, qn, bs, hd, sn, sub, ab, col, dd, k0, k1, k2, k3, k5, mN, hC, _, _, tC⟩ := xC.ex
  obtain ⟨N', nm', qn', bs', hd', sn', sub', ab', col', dd', k0', k1', k2', k3', k5', mN', hD, _, _, tD⟩ := xD.ex
  obtain ⟨h, g, d, t, os⟩ := s
  have hB : (Value.ref C :: bC).contains (.type "BaseException") = true := by rw [List.contains_cons, tC.hasType (b := true) (by decide), Bool.or_true]
  have f := tc_notTuple
  unfold excMatches
  repeat (first | (with_reducible refine wpAny_loadPart_at he ?_; rw [hcls]) | with_reducible refine wpAny_loadPart_at hC ?_ | (with_reducible refine wpAny_isSubtype_exc hC ?_; rw [hB]) | (with_reducible refine wpAny_isSubtype_exc hD ?_; rw [hin]) | wp_step)
  exact hq
/-! ### what stays when an exception passes: all but the frames that run -/
section
variable {X : Cx} {pins : List (Addr × Obj)} {σ : St} {H H' : Hp} {s s' : Shared} {h2 : Heap}
theorem cell_up {h h' : Heap} {c : Addr} {v : Option Value} (u : h.UpToSlots h') (x : h.IsCell c v) : h'.IsCell c v := by
  obtain ⟨o, e, d⟩ := x
  obtain ⟨sl, e'⟩ := u c o e fun vs q => by rw [d] at q; cases q
  exact ⟨_, e', d⟩
/-- I0: the state ahead of a call, I1: behind it; then only the slots of frames have changed, and things that are neither tracked nor were there -/
theorem Inv.upto (I0 : Inv X pins σ H s) (I1 : Inv X pins σ H' s') (k : ∀ b o, s'.heap.get? b = some o → b ∉ frs X.stack → (H' b ≠ none ∨ ∃ u, s.heap.get? b = some u) → h2.get? b = some o) (u : s'.heap.UpToSlots h2) : Inv X pins σ H' { s' with heap := h2 } where
  ok := I1.ok
  os := I1.os
  bare := I1.bare
  base := by
    have nst : ∀ b o, X.s₀.heap.get? b = some o → b ∉ X.fs → b ∉ frs X.stack := fun b o e n z => by
      rcases List.mem_cons.mp (I1.stkSub b z) with r | r
      · have h1 := Heap.lt_size e
        have h2 := I1.ok.above
        rw [r] at h1
        exact absurd (Nat.lt_of_lt_of_le h1 h2) (Nat.lt_irrefl _)
      · exact n r
    refine ⟨fun b o e n hf hx => ?_, fun b o e n hf hx => ?_, I1.base.free, fun b o e hx => ?_, I1.base.tups, I1.base.frzs, I1.base.tbls⟩
    · exact k b o (I1.base.keep b o e n hf hx) (nst b o e hf) (.inr ⟨_, I0.base.keep b o e n hf hx⟩)
    · obtain ⟨sl, e1⟩ := I1.base.slot b o e n hf hx
      obtain ⟨_, o2, e2, d2⟩ := I1.funs.mem hf
      rw [e1] at e2
      cases e2
      obtain ⟨sl', e3⟩ := u b _ e1 d2
      exact ⟨sl', e3⟩
    · obtain ⟨o1, e1⟩ := I1.base.there b o e hx
      by_cases hb : b ∈ frs X.stack
      · obtain ⟨_, o2, e2, d2⟩ := I1.stack.mem hb
        obtain ⟨sl, e3⟩ := u b o2 e2 d2
        exact ⟨_, e3⟩
      · obtain ⟨o0, e0⟩ := I0.base.there b o e hx
        exact ⟨o1, k b o1 e1 hb (.inr ⟨_, e0⟩)⟩
  loc := by
    obtain ⟨m, hn, hl⟩ := I1.loc
    refine ⟨m, u.ns hn, fun i x v h1 h2 h3 => ?_⟩
    obtain ⟨w, r, l⟩ := hl i x v h1 h2 h3
    refine ⟨w, r, ?_⟩
    rcases l with l | ⟨l, c, h4, h5⟩
    · exact .inl l
    · exact .inr ⟨l, c, h4, cell_up u h5⟩
  cell := fun x c e => let ⟨v, h⟩ := I1.cell x c e; ⟨v, cell_up u h⟩
  free := I1.free
  freeC := I1.freeC
  pin := fun p hp => by
    obtain ⟨h1, h2, h3, h4, h5⟩ := I1.pin p hp
    have nst : p.1 ∉ frs X.stack := fun z => by
      rcases List.mem_cons.mp (I1.stkSub _ z) with r | r
      · exact h3 r
      · exact h4 r
    exact ⟨k _ _ h1 nst (.inr ⟨_, (I0.pin p hp).1⟩), h2, h3, h4, h5⟩
  hok := fun a o e => by
    refine (I1.hok a o e).stay (fun b w hb q => ?_) (fun _ q => q) fun _ _ q => q
    have hn : H' b ≠ none := by
      rcases hb with rfl | hb
      · rw [e]; exact Option.some_ne_none _
      · rw [hb]; exact Option.some_ne_none _
    exact k b w q (fun z => hn (I1.stkFree b z)) (.inl hn)
  len := I1.len
end
/-! ### how an exception lies behind a call -/
/-- B: all that stays as it is -/
def CXR (P : Program) (w : World) : CXT := fun outer H s E e s' => ∃ (ea D : Addr) (a0 : Value) (H' : Hp) (B : Heap), e = .ref ea ∧ s'.os = s.os ∧ AllBare s'.gens ∧ Un (frs outer) [] H H' s.heap s'.heap ∧ HOk P w H' s'.heap ∧
  Heap.FlyingW B outer ea (.ref D) a0 s'.heap ∧ (∀ b o, s'.heap.get? b = some o → b ∉ frs outer → (H' b ≠ none ∨ ∃ u, s.heap.get? b = some u) → B.get? b = some o) ∧ H' ea = none ∧ E (.ref D) none H'
theorem obj_is {P : Program} {w : World} {H : Hp} {h : Heap} {a : Addr} {o : HO} (x : ObjOk P w H h a o) : ∃ u, h.get? a = some u := by
  cases o with
  | lst xs => obtain ⟨_, _, _, _, e⟩ := x; exact ⟨_, e⟩
  | tup xs => obtain ⟨_, _, _, ob, e, _⟩ := x; exact ⟨_, e⟩
  | dK kvs => obtain ⟨_, _, _, _, ob, _, _, e, _⟩ := x; exact ⟨_, e⟩
  | dT kvs => obtain ⟨_, _, _, _, ob, _, _, e, _⟩ := x; exact ⟨_, e⟩
  | set S n => obtain ⟨ob, _, _, _, e, _⟩ := x; exact ⟨_, e⟩
  | ins C dx fs => obtain ⟨_, _, _, e, _⟩ := x; exact ⟨_, e⟩
  | own y => exact x
  | xd fs => obtain ⟨_, ⟨_, _, _, e, _⟩, _⟩ := x; exact ⟨_, e⟩
  | rng lo hi => obtain ⟨_, _, _, e⟩ := x; exact ⟨_, e⟩
  | frz ob u => obtain ⟨e, _⟩ := x; exact ⟨_, e⟩
  | tbl ps => exact ⟨_, (show h.get? a = some _ from x)⟩
  | met f y => exact ⟨_, (show h.get? a = some _ from x)⟩
  | ext φ => obtain ⟨_, e, _⟩ := x; exact e
theorem mem_frs {l : List Env} : ∀ env ∈ l, ∀ b, env.frame = some b → b ∈ frs l := fun env he b hb => List.mem_filterMap.mpr ⟨env, he, hb⟩
/-- a new exception leaves the def -/
theorem xe_made {P : Program} {w : World} {K : PySem.W.Frag} {mg : Str → Option Value} {base : Heap} {N : List Str} {qual : Str} {scope : Scope} {f : Addr} {cd : Value} {A : Around} {outer : List Env} {s0 : Shared} {H0 : Hp} {E : XK}
    {pins : List (Addr × Obj)} {σ : St} {H : Hp} {s : Shared} (I : Inv (cxOf (CXR P w) P w K mg base N qual scope f cd A outer s0 H0 E) pins σ H s) {h1 : Heap} {e D : Addr} {vs : List Value} (hx : Heap.MadeExcOf s.heap h1 e (.ref D) vs) (hE : E (.ref D) none H) :
    (cxOf (CXR P w) P w K mg base N qual scope f cd A outer s0 H0 E).xe (.ref e) { s with heap := h1 } := by
  have nst : ∀ b o, s0.heap.get? b = some o → b ∉ frs outer → b ∉ frs (envOfC qual scope s0.heap.objs.size f cd :: outer) := fun b o e n z => by
    rcases List.mem_cons.mp (I.stkSub b z) with r | r
    · have h1 := Heap.lt_size e
      rw [r] at h1
      exact absurd h1 (Nat.lt_irrefl _)
    · exact n r
  have hB : ∀ b o, s.heap.get? b = some o → b ∉ frs (envOfC qual scope s0.heap.objs.size f cd :: outer) → (PySem.W.hideAll s.heap (frs (envOfC qual scope s0.heap.objs.size f cd :: outer))).get? b = some o := fun b o e n => PySem.W.hideAll_get _ e n
  refine wpAny_leaves_madeW (base := PySem.W.hideAll s.heap (frs (envOfC qual scope s0.heap.objs.size f cd :: outer))) (h := s.heap) (L := s0.heap.objs.size) I.ok.frames rfl (fun b o q => PySem.W.of_hideAll _ q) (PySem.W.funFrames_hide I.stack mem_frs) hx fun h2 t x1 x2 x3 x4 => ?_
  have tr : ∀ b o, H b = some o → ∃ u, s.heap.get? b = some u ∧ (PySem.W.hideAll s.heap (frs (envOfC qual scope s0.heap.objs.size f cd :: outer))).get? b = some u := fun b o q => by
    obtain ⟨u, hu⟩ := obj_is (I.hok b o q)
    exact ⟨u, hu, hB b u hu fun z => by have := I.stkFree b z; rw [q] at this; cases this⟩
  refine ⟨e, D, .ref t, H, _, rfl, I.os, I.bare, ⟨fun b o q n hf hx => ?_, fun b o q n hf hx' => ?_, fun b o q n hx => I.base.free b o q n hx, fun b o q hx' => ?_, I.base.tups, I.base.frzs, I.base.tbls⟩, fun a o q => ?_, x1, fun b o q hf hb => ?_, ?_, hE⟩
  · exact x1.1 _ _ (hB b o (I.base.keep b o q n hf hx) (nst b o q hf))
  · obtain ⟨sl, e1⟩ := I.base.slot b o q n hf hx'
    obtain ⟨_, o2, e2, d2⟩ := I.funs.mem hf
    rw [e1] at e2
    cases e2
    obtain ⟨sl', e3⟩ := x4 b _ (hx.keeps _ _ e1) d2
    exact ⟨sl', e3⟩
  · obtain ⟨o1, e1⟩ := I.base.there b o q hx'
    by_cases hb : b ∈ frs (envOfC qual scope s0.heap.objs.size f cd :: outer)
    · obtain ⟨_, o2, e2, d2⟩ := I.stack.mem hb
      obtain ⟨sl, e3⟩ := x4 b o2 (hx.keeps _ _ e2) d2
      exact ⟨_, e3⟩
    · exact ⟨o1, x1.1 _ _ (hB b o1 e1 hb)⟩
  · refine (I.hok a o q).stay (fun b u hb r => ?_) (fun _ r => r) fun _ _ r => r
    have hn : b ∉ frs (envOfC qual scope s0.heap.objs.size f cd :: outer) := fun z => by
      have fr := I.stkFree b z
      rcases hb with rfl | hb
      · rw [q] at fr; cases fr
      · rw [hb] at fr; cases fr
    exact x1.1 _ _ (hB b u r hn)
  · rcases hb with hb | ⟨u, hu⟩
    · cases hq : H b with
      | none => exact absurd hq hb
      | some ho =>
        obtain ⟨u, _, h2'⟩ := tr b ho hq
        have := x1.1 _ _ h2'
        rw [q] at this
        cases this
        exact h2'
    · obtain ⟨o1, e1⟩ := I.base.there b u hu (by intro z; cases z)
      have h2' := hB b o1 e1 (nst b u hu hf)
      have := x1.1 _ _ h2'
      rw [q] at this
      cases this
      exact h2'
  · cases hq : H e with
    | none => rfl
    | some ho =>
      obtain ⟨u, hu, _⟩ := tr e ho hq
      rw [hx.new] at hu
      cases hu
/-- THE RULE for a def that an exception may leave -/
theorem Fun.okR {P : Program} {w : World} {K : PySem.W.Frag} {mg : Str → Option Value} {base : Heap} {x qual : Str} {st : Stmt} {f : Addr} {fd : FuncData} {N ps : List Str} {k : Nat} {sp : Sp} (F : Fun K x qual st f fd) (S : FnScope N ps (defScope st)) (len : ∀ vs H Q E, sp vs H Q E → vs.length = ps.length)
    (hb : ∀ (cdv : Value) (A : Around) (outer : List Env) (s : Shared) (H : Hp) (vs : List V) (Q : VK) (E : XK), Room k (A.deeper (envOfC qual (defScope st) s.heap.objs.size f cdv)) → sp vs H Q E →
      ∃ t, PSs (cxOf (CXR P w) P w K mg base N qual (defScope st) f cdv A outer s H E) (defBody st) t ∧ t { nx := fun _ H' => Q .non H', rt := Q } (start N vs) H) : FnOk P w K mg base (CXR P w) (k + 1) f fd ps sp := by
  obtain ⟨_, _, _, _, _, _, cdv, _, _, rfl, lk, hcd⟩ := F.ex
  refine fn_of lk hcd S len fun A outer s H vs Q E hr hsp => ?_
  exact hb cdv A outer s H vs Q E hr hsp
/-- raise C(..) -/
def tRaise (D : Addr) (W : XK) (t : TA) : TS := fun _ σ H => t σ H fun vs H1 => vs.length ≤ 1000 ∧ W (.ref D) none H1
theorem ps_raise {X : Cx} {x : Str} {D : Addr} {np cpos pos : Pos} {e : Expr} {es : List Expr} {ta : TA} {W : XK} (hc : X.calm = true) (hg : Gl X x) (hm : X.mg x = some (.ref D)) (hD : PySem.W.excIn X.K D bmVE nwVE = true) (ha : PA X (e :: es) ta)
    (hxe : ∀ (pins : List (Addr × Obj)) (σ : St) (H : Hp) (s : Shared) (h1 : Heap) (ea : Addr) (vs : List Value), Inv X pins σ H s → Heap.MadeExcOf s.heap h1 ea (.ref D) vs → W (.ref D) none H → X.xe (.ref ea) { s with heap := h1 })
    (he : starEach (e :: es) X.env = (false, eval e X.env) :: starEach es X.env := by rfl) (hplain : (backTo cpos (starEach es X.env)).any (·.1) = false := by rfl) (hd : (x == ("__debug__" : Str)) = false := by decide) :
    PS X (.Raise (some (.Call (.Name x np) (e :: es) [] cpos)) none pos) (tRaise D W ta) := by
  intro pins s σ H Dn I h
  obtain ⟨bm, xc⟩ := XCls.mk' I.mod.kin hD
  obtain ⟨N, nm, qn, bs, hdd, sn, sub, ab, col, dd, k0, k1, k2, k3, k5, mN, eC, eN, ei, eT⟩ := xc.ex
  have hs := ha cpos pins s σ H _ I h
  refine wpAny_Raise_call_subT (C := D) (nm := nm) (q := qn) (N := N) (bs := bs) (bm := bm) (hdct := hdd) (sn := sn) (sub := sub) (ab := ab) (col := col) (dd := dd) (k0 := k0) (k1 := k1) (k2 := k2) (k3 := k3) (k5 := k5) PySem.F.excBase_ValueError (mN := mN) (eT.hasType (b := true) (by decide)) (I.ok.hd hc)
    (by rw [he]; show (false || (backTo cpos (starEach es X.env)).any (·.1)) = false; rw [hplain]; rfl) ei (ld_glob I hg hm ⟨rfl, ?_⟩ hd)
  rw [he] at hs ⊢
  refine Calls.evalArgs_plain (wpAny_mono hs (fun us s2 ⟨vs, H1, I1, r, q1, q2⟩ => ?_) fun _ _ z => z)
  refine ⟨rfl, ?_, I1.bk _ _ eC, eN.keeps I1.bk, eT.keeps I1.bk, fun h1 ea hx => hxe pins σ H1 s2 h1 ea _ I1 hx q2⟩
  rw [← r.length]
  exact Nat.le_of_lt (small1000 q1)
/-! ### try .. except C as n -/
section
variable {X : Cx} {pins : List (Addr × Obj)} {σ : St} {H H' : Hp} {s s' : Shared} {h2 : Heap}
/-- what is wanted where an exception comes to the frame: W its class, the heap behind it -/
def XE (X : Cx) (pins : List (Addr × Obj)) (W : XK) : Value → Shared → Prop := fun e s' => ∃ (σ : St) (H : Hp) (s : Shared) (H' : Hp) (ea D : Addr) (a0 : Value) (B : Heap), e = .ref ea ∧ Inv X pins σ H s ∧ Inv X pins σ H' s' ∧ Heap.FlyingW B X.stack ea (.ref D) a0 s'.heap ∧
  (∀ b o, s'.heap.get? b = some o → b ∉ frs X.stack → (H' b ≠ none ∨ ∃ u, s.heap.get? b = some u) → B.get? b = some o) ∧ H' ea = none ∧ W (.ref D) none H'
/-- the body of a try -/
abbrev Cx.tryX (X : Cx) (pins : List (Addr × Obj)) (W : XK) : Cx := { X with pn := X.pn ++ pins, xe := XE X pins W }
/-- an except suite -/
abbrev Cx.markX (X : Cx) (ea : Addr) : Cx := { X with A := X.A.mark (some (.ref ea)), calm := false, xe := fun _ _ => False }
theorem Inv.toTry (I : Inv X pins σ H s) (W : XK) : Inv (X.tryX pins W) [] σ H s :=
  ⟨⟨I.ok.mod, I.ok.kind, I.ok.glob, I.ok.blt, I.ok.above, I.ok.inj, I.ok.has, I.ok.cab, I.ok.hd, I.ok.frames, I.ok.stk, I.ok.exf, I.ok.bs, I.ok.bsz, I.ok.noex, I.ok.exfs, I.ok.funs, I.ok.frf⟩, I.os, I.bare, I.base, I.loc, I.cell, I.free, I.freeC, fun p hp => I.pin p (by rw [List.append_nil] at hp; exact hp), I.hok, I.len⟩
theorem Inv.ofTry {W : XK} {pins' : List (Addr × Obj)} (I : Inv (X.tryX pins W) pins' σ H s) : Inv X pins σ H s :=
  ⟨⟨I.ok.mod, I.ok.kind, I.ok.glob, I.ok.blt, I.ok.above, I.ok.inj, I.ok.has, I.ok.cab, I.ok.hd, I.ok.frames, I.ok.stk, I.ok.exf, I.ok.bs, I.ok.bsz, I.ok.noex, I.ok.exfs, I.ok.funs, I.ok.frf⟩, I.os, I.bare, I.base, I.loc, I.cell, I.free, I.freeC, fun p hp => I.pin p (List.mem_append_left _ hp), I.hok, I.len⟩
theorem Inv.toMark (I : Inv X pins σ H s) (ea : Addr) : Inv (X.markX ea) pins σ H s :=
  ⟨⟨I.ok.mod, I.ok.kind, I.ok.glob, I.ok.blt, I.ok.above, I.ok.inj, I.ok.has, I.ok.cab, fun z => (by cases z), I.ok.frames, I.ok.stk, I.ok.exf, I.ok.bs, I.ok.bsz, I.ok.noex, I.ok.exfs, I.ok.funs, I.ok.frf⟩, I.os, I.bare, I.base, I.loc, I.cell, I.free, I.freeC, I.pin, I.hok, I.len⟩
theorem Inv.ofMark {ea : Addr} (I : Inv (X.markX ea) pins σ H s) (hd : X.calm = true → X.A.handled = none) : Inv X pins σ H s :=
  ⟨⟨I.ok.mod, I.ok.kind, I.ok.glob, I.ok.blt, I.ok.above, I.ok.inj, I.ok.has, I.ok.cab, hd, I.ok.frames, I.ok.stk, I.ok.exf, I.ok.bs, I.ok.bsz, I.ok.noex, I.ok.exfs, I.ok.funs, I.ok.frf⟩, I.os, I.bare, I.base, I.loc, I.cell, I.free, I.freeC, I.pin, I.hok, I.len⟩
theorem SP.ofTry {W : XK} {D : Ends} {f : Flow} (h : SP (X.tryX pins W) [] D f s') : SP X pins D f s' := by
  cases f with
  | next => obtain ⟨a, b, I, q⟩ := h; exact ⟨a, b, I.ofTry, q⟩
  | brk => obtain ⟨a, b, I, q⟩ := h; exact ⟨a, b, I.ofTry, q⟩
  | cont => obtain ⟨a, b, I, q⟩ := h; exact ⟨a, b, I.ofTry, q⟩
  | ret u => obtain ⟨v, a, b, I, r, q⟩ := h; exact ⟨v, a, b, I.ofTry, r, q⟩
/-- an exception of a callee comes to the try -/
theorem passR {W : XK} : Passes (CXR X.prog X.w) (X.tryX pins W) W := fun pins' σ H s e s' I h => by
  obtain ⟨ea, D, a0, H', B, rfl, os, bare, un, hok, fl, kB, hn, hW⟩ := h
  exact ⟨σ, H, s, H', ea, D, a0, B, rfl, I.ofTry, I.ofTry.call' os un hok bare (fun b z => by cases z), fl, kB, hn, hW⟩
/-- an object that is not told of yet is tracked -/
theorem Inv.track {ea : Addr} {o : HO} (I0 : Inv X pins σ H s) (I1 : Inv X pins σ H' s') (hn : H' ea = none) (hp : s.heap.get? ea = none) (new : ObjOk X.prog X.w (upd H' ea o) s'.heap ea o) : Inv X pins σ (upd H' ea o) s' where
  ok := I1.ok
  os := I1.os
  bare := I1.bare
  base := ⟨I1.base.keep, I1.base.slot, fun b u e n hx => by
    rw [upd_ne fun z => by
      obtain ⟨u', e'⟩ := I0.base.there b u e hx
      rw [z, hp] at e'
      cases e']
    exact I1.base.free b u e n hx, I1.base.there, fun b xs q => by
      have := I1.base.tups b xs q
      rw [upd_ne (ne_of_none this hn)]; exact this, fun b u xs q => by
      have := I1.base.frzs b u xs q
      rw [upd_ne (ne_of_none this hn)]; exact this, fun b ps q => by
      obtain ⟨more, e⟩ := I1.base.tbls b ps q
      exact ⟨more, by rw [upd_ne (ne_of_none e hn)]; exact e⟩⟩
  loc := I1.loc
  cell := I1.cell
  free := by
    rw [upd_ne fun z => by
      obtain ⟨m, ⟨u, _, _, e, _⟩, _⟩ := I0.loc
      rw [z, hp] at e
      cases e]
    exact I1.free
  freeC := fun x c e => by
    rw [upd_ne fun z => by
      obtain ⟨v, u, e', _⟩ := I0.cell x c e
      rw [z, hp] at e'
      cases e']
    exact I1.freeC x c e
  pin := fun p hq => by
    obtain ⟨h1, h2, h3⟩ := I1.pin p hq
    refine ⟨h1, ?_, h3⟩
    rw [upd_ne fun z => by
      have := (I0.pin p hq).1
      rw [z, hp] at this
      cases this]
    exact h2
  hok := fun b u e => by
    by_cases hb : b = ea
    · subst hb; rw [upd_same] at e; cases e; exact new
    · rw [upd_ne hb] at e
      exact (I1.hok b u e).stay (fun _ _ _ q => q) (fun c q => by rw [upd_ne (ne_of_none q hn)]; exact q) fun c xs q => by rw [upd_ne (ne_of_none q hn)]; exact q
  len := I1.len
/-- a name has gone -/
theorem Inv.gone {i t : Nat} {n : Str} {v : Option Value} (I : Inv X pins σ H s) (hN : X.N.Nodup) (hi : X.N[i]? = some n) (hk : X.env.kindOf n = some .local) {m : Str → Option Value} (hm : s.heap.Ns X.env.locals m) (hn : h2.Ns X.env.locals (fun x => if x = n then v else m x)) (hs : Heap.SameBut X.env.locals s.heap h2) : Inv X pins (σ.set i none) H { s with heap := h2, toks := t } := by
  obtain ⟨m', hm', hl⟩ := I.loc
  have em : m' = m := by
    obtain ⟨o1, es1, ep1, e1, d1, _, f1⟩ := hm'
    obtain ⟨o2, es2, ep2, e2, d2, _, f2⟩ := hm
    rw [e1] at e2
    cases e2
    rw [d1] at d2
    cases d2
    funext x
    rw [← f1 x, f2 x]
  subst em
  obtain ⟨oL, _, _, hoL, _⟩ := id hm
  have lt : ∀ b o, X.s₀.heap.get? b = some o → b ≠ X.env.locals := fun b o e => Nat.ne_of_lt (Nat.lt_of_lt_of_le (Heap.lt_size e) I.ok.above)
  refine ⟨I.ok, I.os, I.bare, ⟨fun b o e n hb hx => (hs.2 b (lt b o e)).trans (I.base.keep b o e n hb hx), fun b o e n hb hx => ?_, I.base.free, fun b o e hx => ?_, I.base.tups, I.base.frzs, I.base.tbls⟩, ⟨_, hn, fun j y v' e1 e2 e3 => ?_⟩, fun y c e => ?_, I.free, I.freeC, fun p hp => ?_, fun b ob e => ?_, by rw [List.length_set]; exact I.len⟩
  · obtain ⟨sl, e1⟩ := I.base.slot b o e n hb hx
    exact ⟨sl, (hs.2 b (lt b o e)).trans e1⟩
  · obtain ⟨o', e1⟩ := I.base.there b o e hx
    exact ⟨o', (hs.2 b (lt b o e)).trans e1⟩
  · have hj : j ≠ i := fun z => by
      rw [z, List.getElem?_set_self (by rw [I.len]; exact (List.getElem?_eq_some_iff.mp hi).1)] at e2
      cases e2
    rw [List.getElem?_set_ne (Ne.symm hj)] at e2
    obtain ⟨u', r', q⟩ := hl j y v' e1 e2 e3
    refine ⟨u', r', ?_⟩
    rcases q with ⟨k, e⟩ | ⟨k, c, e, z⟩
    · refine .inl ⟨k, ?_⟩
      have : y ≠ n := fun e => hj (nodup_ix hN e1 (e ▸ hi))
      show (if y = n then v else m' y) = some u'
      rw [if_neg this]
      exact e
    · exact .inr ⟨k, c, e, z.sameBut hs (I.cne y c e)⟩
  · obtain ⟨w', z⟩ := I.cell y c e
    exact ⟨w', z.sameBut hs (I.cne y c e)⟩
  · obtain ⟨e, n', ne, nf, d⟩ := I.pin p hp
    exact ⟨(hs.2 p.1 ne).trans e, n', ne, nf, d⟩
  · refine (I.hok b ob e).stay (fun c w' hc q => (hs.2 c ?_).trans q) (fun _ q => q) fun _ _ q => q
    rintro rfl
    have fr := I.free
    rcases hc with rfl | hc
    · rw [fr] at e; cases e
    · rw [fr] at hc; cases hc
end
/-- the class at D has the class at C above it, or is it -/
def xsub (K : PySem.W.Frag) (D C : Addr) : Bool := match K.lookup D with
  | some ⟨_, _, .cls cd, _⟩ => cd.mro.contains (.ref C)
  | _ => false
theorem xsub_in {K : PySem.W.Frag} {h : Heap} {D C : Addr} {bD : List Value} (X : K.In h) (x : XCls h D bD) (q : xsub K D C = true) : (Value.ref D :: bD).contains (.ref C) = true := by
  unfold xsub at q
  split at q
  case h_2 => cases q
  case h_1 oc od cd sl hl =>
    obtain ⟨_, _, _, _, _, _, _, _, _, _, _, _, _, _, _, _, e, _⟩ := x.ex
    have := X _ _ hl
    rw [e] at this
    cases this
    exact q
/-- an exception, by its class -/
def excP (ea D : Addr) : Heap → Prop := fun h => ∃ ob, h.get? ea = some ob ∧ ob.cls = .ref D
def tTryAs (i : Nat) (W : XK) (K : PySem.W.Frag) (C : Addr) (tb ts : TS) : TS := fun D σ H => tb D σ H ∧ ∀ (σ' : St) (H' : Hp) (ea Dc : Addr), σ'.length = σ.length → W (.ref Dc) none H' → H' ea = none →
  PySem.W.excIn K Dc bmVE nwVE = true ∧ xsub K Dc C = true ∧ ts { nx := fun σ2 H2 => D.nx (σ2.set i none) H2, rt := fun _ _ => False } (σ'.set i (some (.ref ea))) (upd H' ea (.ext (excP ea Dc)))
theorem ps_tryAs {X : Cx} {body suite : List Stmt} {b0 : Stmt} {x n : Str} {i : Nat} {C : Addr} {tb ts : TS} {W : XK} {np hpos pos : Pos} (hst : X.stack = X.env :: X.outer) (hfr : X.env.frame = some X.env.locals) (hb : ∀ pins, PSs (X.tryX pins W) body tb) (hg : Gl X x) (hm : X.mg x = some (.ref C)) (hC : PySem.W.excIn X.K C bmVE nwVE = true)
    (hN : X.N.Nodup) (hi : X.N[i]? = some n) (hk : X.env.kindOf n = some .local) (hl : Loc X.env.scope n) (hs : ∀ ea, PSs (X.markX ea) (b0 :: suite) ts) (hf : X.fn n = true ∨ X.env.scope.names.lookup n = some .local := by first | exact .inl rfl | exact .inr rfl | assumption) (hd : (x == ("__debug__" : Str)) = false := by decide) :
    PS X (.Try body [.ExceptHandler (some (.Name x np)) (some n) (b0 :: suite) hpos] [] [] pos) (tTryAs i W X.K C tb ts) := by
  intro pins s σ H D I h
  refine wpAny_Try_except (wpAny_mono (hb pins [] s σ H D (I.toTry W) h.1) (fun f s1 q => ?_) fun e s1 q => ?_)
  · cases f with
    | next => exact wpAny_execs_nil (SP.ofTry q)
    | brk => exact SP.ofTry q
    | cont => exact SP.ofTry q
    | ret u => exact SP.ofTry q
  obtain ⟨σ1, H0, s0, H1, ea, Dc, a0, B, rfl, I0, I1, fl, kB, hea, hW⟩ := q
  obtain ⟨r1, r2, r3⟩ := h.2 σ1 H1 ea Dc (I1.len.trans I.len.symm) hW hea
  rw [hst] at fl
  have hp0 : s0.heap.get? ea = none := by
    cases hq : s0.heap.get? ea with
    | none => rfl
    | some u =>
      obtain ⟨oe, vs, _, _, _, he, _, hdt, _⟩ := fl.2.2.2
      have nst : ea ∉ frs X.stack := fun z => by
        obtain ⟨_, o2, e2, d2⟩ := I1.stack.mem z
        rw [he] at e2
        cases e2
        exact d2 vs hdt
      have := kB ea oe he nst (.inr ⟨u, hq⟩)
      rw [fl.2.1] at this
      cases this
  refine wpAny_looks_onW (by rw [← hst]; exact I.ok.frames) hfr fl fun h2 hh2 u2 => ?_
  refine wpAny_landsW hh2 fun h3 fl3 u3 => ?_
  have I3 := I0.upto I1 (fun b o e n hb => fl3.1 _ _ (kB b o e n hb)) (u2.trans u3)
  obtain ⟨bC, xC⟩ := XCls.mk' I3.kIn hC
  obtain ⟨bD, xD⟩ := XCls.mk' I3.kIn r1
  obtain ⟨oe, he, hcls⟩ := fl3.there
  refine wpAny_handleBy_cons (codeAny_handlers_test (ld_glob (I3.toMark ea) hg hm ?_ hd)) (by intro q; cases q)
  refine matches_own xC xD he hcls (xsub_in I3.kIn xD r2) ?_
  refine codeAny_handlers_suite_as ?_
  refine lands_againW fl3 fun h4 fl4 u4 => ?_
  have I4 := I0.upto I1 (fun b o e n hb => fl4.1 _ _ (kB b o e n hb)) ((u2.trans u3).trans u4)
  obtain ⟨oe4, he4, hcls4⟩ := fl4.there
  have I5 := I0.track (o := .ext (excP ea Dc)) I4 hea hp0 ⟨⟨oe4, he4, hcls4⟩, ⟨oe4, he4⟩, fun g1 g2 ⟨ob, e1, e2⟩ k => ⟨ob, k ob e1, e2⟩⟩
  refine store_ok I5 hN hi hl (show RelV (.ref ea) (.ref ea) from rfl) (fun s5 I6 => ?_) hf
  refine wpAny_mono (hs ea pins s5 _ _ _ (I6.toMark ea) r3) (fun f s6 q => ?_) fun _ _ z => False.elim z
  cases f with
  | next =>
    obtain ⟨σ7, H7, I7, q7⟩ := q
    obtain ⟨m, hnm, _⟩ := id I7.loc
    exact wpAny_nameGoes_keeps hk hnm (by rw [I.ok.kind]; rfl) fun h8 v hn8 hs8 => ⟨_, H7, (I7.ofMark I.ok.hd).gone hN hi hk hnm hn8 hs8, q7⟩
  | brk => obtain ⟨_, _, _, q7⟩ := q; exact False.elim q7
  | cont => obtain ⟨_, _, _, q7⟩ := q; exact False.elim q7
  | ret u => obtain ⟨_, _, _, _, _, q7⟩ := q; exact False.elim q7
end L2

set_option maxRecDepth 100000
set_option maxHeartbeats 4000000
namespace L2
open PySem PySem.Spec PyProof.Rows
/-! ### isinstance of an own exception -/
/-- what the words of an exception's class answer -/
structure XGet (K : PySem.W.Frag) (D : Addr) : Prop where
  cl : PySem.W.excIn K D bmVE nwVE = true
  ga : PySem.W.findIn K (.ref D) "__getattribute__" = some (some (.builtin "BaseException.__getattribute__"))
  gt : PySem.W.findIn K (.ref D) "__getattr__" = some none
  ck : PySem.W.findIn K (.ref D) "__class__" = some (some (.builtin "object.__class__"))
section
variable {prog : Program} {w : World} {A : Around} {E : Value → Shared → Prop} {h : Heap} {g : Array GenState} {d : Drawn} {t : Nat} {os : OsState} {a D : Addr} {o : Obj} {K : PySem.W.Frag} {bD : List Value}
theorem xc_get {R : Result → Shared → Prop} (xD : XCls h D bD) (hx : h.get? a = some o) (hc : o.cls = .ref D) (hq : R (.ok (.ret (.ref D))) ⟨h, g, d, t, os⟩) :
    codeAny (model prog w) A (.call (.builtin "getset_descriptor.__get__") ⟨[.builtin "object.__class__", .ref a, .ref D], []⟩) R ⟨h, g, d, t, os⟩ := by
  obtain ⟨_, _, _, _, _, _, _, _, _, _, _, _, _, _, _, _, hD, _, _, tD⟩ := xD.ex
  have hb : (Value.ref D :: bD).contains (.type (".".intercalate ("object.__class__".cutAt '.').dropLast)) = true := by
    rw [PySem.F.owner_object_class, List.contains_cons, tD.hasType (b := true) (by decide)]; rfl
  refine codeAny_call_builtin PySem.F.slot_gs_get.plain PySem.F.entry_gs_get (PySem.F.slot_gs_get.check _ _ _ _ _ _ _ _ (show (⟨h, g, d, t, os⟩ : Shared).TypeIs (.builtin "object.__class__") "getset_descriptor" from PySem.F.typeOf_object_class) (PySem.F.args_gs_get _ _ _) ?_)
  repeat (any_goals (first | assumption | (with_reducible refine wpAny_loadPart_at hx ?_; rw [hc]) | (with_reducible refine wpAny_isSubtype_exc hD ?_; rw [hb]) | wp_step))
  refine ⟨Code.quiet_builtin _ (by decide +kernel), codeAny_builtin PySem.F.entry_object_class ?_⟩
  repeat (any_goals (first | assumption | (with_reducible refine wpAny_loadPart_at hx ?_; rw [hc]) | wp_step))
theorem xc_entry {tk : Tok} {Q : Fin → Shared → Prop} (X : K.In h) (G : XGet K D) (xD : XCls h D bD) (hx : h.get? a = some o) (hc : o.cls = .ref D) (hq : Q (.done (.ret (.ref D))) ⟨h, g, d, t, os⟩) :
    wpAny (model prog w) A (Builtin.«object.__getattribute__» ⟨[.ref a, .str "__class__" tk], []⟩) Q E ⟨h, g, d, t, os⟩ := by
  have hT5 : (⟨h, g, d, t, os⟩ : Shared).TypeIs (.builtin "object.__class__") "getset_descriptor" := PySem.F.typeOf_object_class
  have f5 := PySem.F.typeOf_object_class
  have f6 := PySem.F.slot_gs_get.lookup
  have f7 := PySem.F.slot_gs_set.lookup
  repeat (any_goals (first | assumption | (with_reducible refine wpAny_loadPart_at hx ?_; rw [hc]) | (with_reducible refine (PySem.W.looks_findIn X G.ck).at ?_) | wp_step))
  refine xc_get xD hx hc ?_
  repeat (any_goals (first | assumption | wp_step | done))
theorem xc_check {M : Model} {v : Value} {Q : Unit → Shared → Prop} (xD : XCls h D bD) (hx : h.get? a = some o) (hc : o.cls = .ref D) (hq : Q () ⟨h, g, d, t, os⟩) : wpAny M A (checkBuiltinCall "BaseException.__getattribute__" ⟨[.ref a, v], []⟩) Q E ⟨h, g, d, t, os⟩ := by
  obtain ⟨_, _, _, _, _, _, _, _, _, _, _, _, _, _, _, _, hD, _, _, tD⟩ := xD.ex
  have h1 : builtinKind "BaseException.__getattribute__" = some .slot := by decide +kernel
  have h2 : splitId "BaseException.__getattribute__" = some ("BaseException", "__getattribute__") := by decide +kernel
  have hb : (Value.ref D :: bD).contains (.type "BaseException") = true := by rw [List.contains_cons, tD.hasType (b := true) (by decide), Bool.or_true]
  have ha := PySem.F.args_bexc_ga (.ref a) v
  simp only [checkBuiltinCall, h1, h2]
  refine wpAny_bind ?_
  unfold isInstance
  repeat (first | (with_reducible refine wpAny_loadPart_at hx ?_; rw [hc]) | (with_reducible refine wpAny_isSubtype_exc hD ?_; rw [hb]) | wp_step)
  exact hq
theorem xc_by {tk : Tok} {Q : Value → Shared → Prop} (X : K.In h) (G : XGet K D) (xD : XCls h D bD) (FG : Slot "ValueError" "__getattribute__" "BaseException.__getattribute__") (hx : h.get? a = some o) (hc : o.cls = .ref D) (hq : Q (.ref D) ⟨h, g, d, t, os⟩) :
    wpAny (model prog w) A (getAttrBy (.ref a) (.str "__class__" tk) false) Q E ⟨h, g, d, t, os⟩ := by
  have f3 := FG.bind (.ref a)
  have hx2 : (Value.builtin "BaseException.__getattribute__" == Value.builtin "object.__getattribute__") = false := by decide +kernel
  have hx1 : (onTheHeap (Value.ref D) && Value.builtin "BaseException.__getattribute__" == Value.builtin "object.__getattribute__") = false := by rw [hx2]; rfl
  repeat (any_goals (first | assumption | (with_reducible refine wpAny_loadPart_at hx ?_; rw [hc]) | (with_reducible refine (PySem.W.looks_findIn X G.ga).at ?_) | (with_reducible refine (PySem.W.looks_findIn X G.gt).at ?_) | wp_step))
  refine codeAny_call_builtin FG.plain PySem.F.entry_bexc_ga (xc_check xD hx hc (xc_entry X G xD hx hc ?_))
  repeat (any_goals (first | assumption | wp_step | done))
theorem xc_attr {Q : Option Value → Shared → Prop} (X : K.In h) (G : XGet K D) (xD : XCls h D bD) (FG : Slot "ValueError" "__getattribute__" "BaseException.__getattribute__") (hx : h.get? a = some o) (hc : o.cls = .ref D) (hq : Q (some (.ref D)) ⟨h, g, d, t + 1, os⟩) :
    wpAny (model prog w) A (getAttr? (.ref a) "__class__") Q E ⟨h, g, d, t, os⟩ := by
  unfold getAttr? getAttrBy?
  repeat (any_goals (first | assumption | with_reducible apply xc_by X G xD FG hx hc | wp_step))
end
theorem kitx_exc {K : PySem.W.Frag} {a D : Addr} (G : XGet K D) : PySem.W.KitX K (.ref a) (.ref D) (excP a D) where
  ty := fun M h _ ⟨_, h1, h2⟩ => h2 ▸ (PySem.W.Looks.ld h1).andThen .now
  it := fun _ h X _ => by
    obtain ⟨_, xD⟩ := XCls.mk' X G.cl
    obtain ⟨_, _, _, _, _, _, _, _, _, _, _, _, _, _, _, _, hD, _⟩ := xD.ex
    intro A' Q' E' s' k q
    unfold isType loadHead
    exact wpAny_bind (wpAny_loadPart (k _ _ hD) (wpAny_pure q))
  ne := fun h tp dd its n sl X htp => Bool.eq_false_iff.mpr fun q => by
    cases Value.ref.inj (beq_iff_eq.mp q)
    obtain ⟨_, xD⟩ := XCls.mk' X G.cl
    obtain ⟨_, _, _, _, _, _, _, _, _, _, _, _, _, _, _, _, hD, _⟩ := xD.ex
    have z := congrArg Obj.data (Option.some.inj (hD.symm.trans htp))
    cases z
  ca := fun {_ _ _ _ _ s} X p k => by
    obtain ⟨_, xD⟩ := XCls.mk' X G.cl
    obtain ⟨o, h1, h2⟩ := p
    obtain ⟨h, g, d, t, os⟩ := s
    exact xc_attr X G xD PySem.F.attr_ValueError.ga h1 h2 k
/-- isinstance(e, C): e an own exception of the class at D -/
theorem isiX {X : Cx} {K : PySem.W.Frag} (hK : X.K = K := by rfl) : CallR X (.builtin "isinstance") (fun xs H Q => ∃ (a D : Addr) (c : V) (b : Bool), xs = [.ref a, c] ∧ H a = some (.ext (excP a D)) ∧ XGet K D ∧
    ((∃ C, c = .ref C ∧ PySem.W.kitOne K (.ref D) (.ref C) = some b) ∨ ∃ T, c = .ty T ∧ PySem.W.kitOne K (.ref D) (.type T) = some b) ∧ Q (.bl b) H) := by
  subst hK
  intro pins s σ H xs us Q I r h
  obtain ⟨a, D, c, b, rfl, ha, G, hc, q⟩ := h
  obtain ⟨u, w', rfl, rx, ry⟩ := vals2 r
  cases (show u = Value.ref a from rx)
  have p : excP a D s.heap := (show ObjOk X.prog X.w H s.heap a (.ext (excP a D)) from I.hok a _ ha).1
  rcases hc with ⟨C, rfl, e⟩ | ⟨T, rfl, e⟩
  · cases (show w' = Value.ref C from ry)
    exact PySem.W.kia_one (kitx_exc G) I.kIn p e (fun z => nomatch z) fun tk => ⟨.bl b, H, I.tok tk, rfl, q⟩
  · cases (show w' = Value.type T from ry)
    exact PySem.W.kia_one (kitx_exc G) I.kIn p e (fun z => nomatch z) fun tk => ⟨.bl b, H, I.tok tk, rfl, q⟩
theorem any_range (bs : List Bool) : ((List.range bs.length).any fun i => (bs[i]?).getD false) = bs.any id := by
  rw [Bool.eq_iff_iff, List.any_eq_true, List.any_eq_true]
  constructor
  · rintro ⟨i, hi, h⟩
    have hl := List.mem_range.mp hi
    rw [List.getElem?_eq_getElem hl] at h
    exact ⟨_, List.getElem_mem hl, h⟩
  · rintro ⟨b, hb, h⟩
    obtain ⟨i, hi, e⟩ := List.mem_iff_getElem.mp hb
    exact ⟨i, List.mem_range.mpr hi, by rw [List.getElem?_eq_getElem hi, e]; exact h⟩
/-- any of a list of truths -/
theorem call_any_bl {X : Cx} {K : PySem.W.Frag} (hc : X.calm = true) (hK : X.K = K := by rfl) : CallR X (.builtin "any") (fun xs H Q => ∃ (p : Addr) (bs : List Bool), xs = [.ref p] ∧ SqL K H p (bs.map V.bl) ∧ Q (.bl (bs.any id)) H) := by
  subst hK
  intro pins s σ H xs us Q I r h
  obtain ⟨p, bs, rfl, hq, q⟩ := h
  obtain ⟨u, rfl, rx⟩ := vals1 r
  cases rx
  obtain ⟨its, rv, pl, hz⟩ := I.list hq
  have hl := pl.isList
  have hlt : p < s.heap.objs.size := by obtain ⟨_, e, _⟩ := hl; exact Heap.lt_size e
  have hlen := rv.length
  rw [List.length_map] at hlen
  refine call_any_walk (wpAny_pyIter_list hl ?_)
  refine ⟨s.heap.objs.size, [s.heap.objs.size, p], [s.heap.objs.size], its.toArray.size, _, _, fun i => (bs[i]?).getD false, rfl, Walks.list (A := X.A.in1) (I.ok.hd hc) _ p (Nat.ne_of_lt hlt) its.toArray,
    ⟨⟨_, Heap.get?_push_size _ rfl, rfl, rfl⟩, hl.push _⟩, fun i v s' Q' E' hP hQ => ?_, fun h' tk hk => ?_⟩
  · have e : its[i]? = some v := by simpa using hP
    have hi : i < bs.length := by
      have := (List.getElem?_eq_some_iff.mp e).1
      omega
    obtain ⟨u, hu, ru⟩ := rv.get (i := i) (x := .bl bs[i]) (by rw [List.getElem?_map, List.getElem?_eq_getElem hi]; rfl)
    rw [e] at hu
    cases hu
    cases (show v = Value.bool bs[i] from ru)
    dsimp only at hQ
    rw [List.getElem?_eq_getElem hi] at hQ
    exact wpAny_truthy_bool hQ
  · have e : ((List.range its.toArray.size).any fun i => (bs[i]?).getD false) = bs.any id := by
      rw [List.size_toArray, ← hlen]
      exact any_range bs
    rw [e]
    refine ⟨.bl _, H, I.kept (t' := tk) fun b o eb => hk b o (fun hm => ?_) (Heap.get?_push_of_some _ eb), rfl, q⟩
    rw [List.mem_singleton.mp hm] at eb
    exact Nat.lt_irrefl _ (Heap.lt_size eb)
theorem boot_VE : bootBuiltins "ValueError" = some (.type "ValueError") := by decide +kernel
end L2
namespace Wd
open PySem L2 Ow
/-- a def that refuses a wood: the class of what it raises -/
def spRaiseW (D : Addr) : Sp := fun vs H _ E => ∃ (wd : Addr) (m : Int) (xs ys : List V), vs = [.ref wd] ∧ WoodAt H wd m xs ys ∧ ys ≠ [] ∧ E (.ref D) none H
def spRefusedW : Sp := fun vs H Q _ => ∃ (wd : Addr) (m : Int) (xs ys : List V), vs = [.ref wd] ∧ WoodAt H wd m xs ys ∧ ys ≠ [] ∧ ∀ H', Same H H' → Q (.bl true) H'
theorem len4 {α : Type} : ∀ {l : List α}, l.length = 4 → ∃ a b c d, l = [a, b, c, d]
  | [a, b, c, d], _ => ⟨a, b, c, d, rfl⟩
end Wd

set_option maxRecDepth 100000
set_option maxHeartbeats 4000000
namespace Wd
open PySem L2 Ow
/-! ### what lies beneath an option -/
structure BelowK (m : Nat) (L : List Bg) (k B : Nat) : Prop where
  has : B.testBit k = true
  cl : ∀ b ∈ L, B.testBit b.u = true → ∀ j ∈ b.ks, B.testBit j = true
  mn : ∀ j, B.testBit j = true → j = k ∨ ∃ b ∈ L, j ∈ b.ks ∧ B.testBit b.u = true
  lt : B < 2 ^ m
theorem BelowK.ltm {m : Nat} {L : List Bg} {k B : Nat} (h : BelowK m L k B) {j : Nat} (hj : B.testBit j = true) : j < m := by
  by_cases z : j < m
  · exact z
  · have := Nat.testBit_lt_two_pow (Nat.lt_of_lt_of_le h.lt (Nat.pow_le_pow_right (by decide) (Nat.le_of_not_lt z)))
    rw [this] at hj
    cases hj
theorem BelowK.ge {m : Nat} {L : List Bg} {k B : Nat} (T : TreeB m L) (h : BelowK m L k B) : ∀ n j, j < n → B.testBit j = true → k ≤ j
  | 0, j, hj, _ => absurd hj (Nat.not_lt_zero _)
  | n + 1, j, hj, hb => by
    rcases h.mn j hb with z | ⟨b, hbl, z, hu⟩
    · omega
    · have h1 := ((T.ok b hbl).up j z).1
      have h2 := BelowK.ge T h n b.u (by omega) hu
      omega
theorem fit_ofR {m r : Nat} : ∀ {L : List Bg}, (∀ b ∈ L, Tie.BoughOk m b.u b.lo b.hi b.ks) → (L.Pairwise fun b b' => b'.u ≤ b.u) → (∀ b ∈ L, b.u = r ∨ b.u ∈ kidsB L) → Fit r L
  | [], _, _, _ => trivial
  | b :: R, ok, pw, ups => by
    obtain ⟨p1, p2⟩ := List.pairwise_cons.mp pw
    have okb := ok b List.mem_cons_self
    have eV : kidsB (b :: R) = b.ks ++ kidsB R := List.flatMap_cons
    have upR : ∀ b' ∈ b :: R, b'.u = r ∨ b'.u ∈ kidsB R := fun b' hb' => by
      rcases ups b' hb' with z | z
      · exact .inl z
      · rw [eV] at z
        rcases List.mem_append.mp z with z | z
        · have h1 := (okb.up _ z).1
          rcases List.mem_cons.mp hb' with e | e
          · subst e; omega
          · have := p1 b' e; omega
        · exact .inr z
    refine ⟨?_, fun k hk => ⟨?_, fun b' hb' => ?_⟩, fit_ofR (fun b' hb' => ok b' (List.mem_cons_of_mem _ hb')) p2 fun b' hb' => upR b' (List.mem_cons_of_mem _ hb')⟩
    · rcases upR b List.mem_cons_self with z | z
      · rw [z]; exact List.mem_cons_self
      · exact List.mem_cons_of_mem _ z
    · have := (okb.up k hk).1; omega
    · have h1 := (okb.up k hk).1
      have h2 := p1 b' hb'
      omega
def inB (B : Nat) (L : List Bg) : List Bg := L.filter fun b => B.testBit b.u
theorem mem_inB {B : Nat} {L : List Bg} {b : Bg} : b ∈ inB B L ↔ b ∈ L ∧ B.testBit b.u = true := List.mem_filter
theorem kids_sub {B : Nat} : ∀ {L : List Bg}, (kidsB (inB B L)).Sublist (kidsB L)
  | [] => List.Sublist.refl _
  | b :: L => by
    have e : kidsB (b :: L) = b.ks ++ kidsB L := List.flatMap_cons
    rw [e]
    unfold inB
    by_cases h : B.testBit b.u = true
    · rw [List.filter_cons_of_pos (p := fun b : Bg => B.testBit b.u) (a := b) h, show kidsB (b :: List.filter (fun b => B.testBit b.u) L) = b.ks ++ kidsB (inB B L) from List.flatMap_cons]
      exact List.Sublist.append (List.Sublist.refl _) kids_sub
    · rw [List.filter_cons_of_neg (p := fun b : Bg => B.testBit b.u) (a := b) h]
      exact kids_sub.trans (List.sublist_append_right _ _)
theorem BelowK.perm {m : Nat} {L : List Bg} {k B : Nat} (T : TreeB m L) (h : BelowK m L k B) : (k :: kidsB (inB B (ordL m L))).Perm ((List.range m).filter fun j => B.testBit j) := by
  have nd := (List.nodup_cons.mp T.nd).2
  have hin : ∀ j, j ∈ kidsB (inB B (ordL m L)) ↔ ∃ b ∈ L, B.testBit b.u = true ∧ j ∈ b.ks := fun j => by
    unfold kidsB
    rw [List.mem_flatMap]
    constructor
    · rintro ⟨b, hb, hj⟩
      obtain ⟨h1, h2⟩ := mem_inB.mp hb
      exact ⟨b, (mem_ordL T.lt).mp h1, h2, hj⟩
    · rintro ⟨b, hb, h2, hj⟩
      exact ⟨b, mem_inB.mpr ⟨(mem_ordL T.lt).mpr hb, h2⟩, hj⟩
  have nd1 : (k :: kidsB (inB B (ordL m L))).Nodup := by
    refine List.nodup_cons.mpr ⟨fun z => ?_, nd.sublist kids_sub⟩
    obtain ⟨b, hb, h2, hj⟩ := (hin k).mp z
    have h1 := ((T.ok b hb).up k hj).1
    have h3 := h.ge T (b.u + 1) b.u (by omega) h2
    omega
  refine (List.perm_ext_iff_of_nodup nd1 (List.nodup_range.filter _)).mpr fun j => ?_
  rw [List.mem_cons, List.mem_filter, List.mem_range, hin]
  constructor
  · rintro (rfl | ⟨b, hb, h2, hj⟩)
    · exact ⟨h.ltm h.has, h.has⟩
    · have := h.cl b hb h2 j hj
      exact ⟨h.ltm this, this⟩
  · rintro ⟨_, hj⟩
    rcases h.mn j hj with z | ⟨b, hb, z, hu⟩
    · exact .inl z
    · exact .inr ⟨b, hb, hu, z⟩
theorem BelowK.fit {m : Nat} {L : List Bg} {k B : Nat} (T : TreeB m L) (h : BelowK m L k B) : Fit k (inB B (ordL m L)) := by
  refine fit_ofR (m := m) (fun b hb => T.ok b ((mem_ordL T.lt).mp (mem_inB.mp hb).1)) (ord_down.filter _) fun b hb => ?_
  obtain ⟨_, h2⟩ := mem_inB.mp hb
  have h3 : b.u ∈ k :: kidsB (inB B (ordL m L)) := (h.perm T).mem_iff.mpr (List.mem_filter.mpr ⟨List.mem_range.mpr (h.ltm h2), h2⟩)
  exact List.mem_cons.mp h3
theorem fold_in {B : Nat} : ∀ {M : List Bg} {w w' : Nat → Nat}, (∀ b ∈ M, B.testBit b.u = true → ∀ j ∈ b.ks, B.testBit j = true) → (∀ j, B.testBit j = true → w j = w' j) → ∀ j, B.testBit j = true → M.foldl stepW w j = (inB B M).foldl stepW w' j
  | [], _, _, _, h, j, hj => h j hj
  | b :: M, w, w', cl, h, j, hj => by
    have cl' : ∀ b ∈ M, B.testBit b.u = true → ∀ j ∈ b.ks, B.testBit j = true := fun x hx => cl x (List.mem_cons_of_mem _ hx)
    show M.foldl stepW (stepW w b) j = _
    unfold inB
    by_cases z : B.testBit b.u = true
    · rw [List.filter_cons_of_pos (p := fun b : Bg => B.testBit b.u) (a := b) z]
      refine fold_in cl' (fun i hi => ?_) j hj
      by_cases e : i = b.u
      · rw [e, stepW_eq, stepW_eq, h b.u z]
        congr 1
        exact sel_congr fun c hc => h c (cl b List.mem_cons_self z c hc)
      · rw [stepW_ne e, stepW_ne e]
        exact h i hi
    · rw [List.filter_cons_of_neg (p := fun b : Bg => B.testBit b.u) (a := b) z]
      refine fold_in cl' (fun i hi => ?_) j hj
      rw [stepW_ne fun e => z (e ▸ hi)]
      exact h i hi
theorem sub_zero : ∀ {V : List Nat} {m : Nat} {g : Nat → Nat}, (∀ s, (∀ k, m.testBit k = true → s.testBit k = true) → g s = 0) → sub V m g = 0
  | [], m, g, h => h m fun _ z => z
  | c :: cs, m, g, h => by
    show sub cs m g + sub cs _ g = 0
    rw [sub_zero h, sub_zero fun s hs => h s fun k hk => hs k (by rw [Nat.testBit_or, hk]; rfl)]
theorem and_iff {s B : Nat} : s &&& B = s ↔ ∀ k, s.testBit k = true → B.testBit k = true := by
  constructor
  · intro e k hk
    rw [← e, Nat.testBit_and] at hk
    exact (Bool.and_eq_true_iff.mp hk).2
  · intro h
    apply Nat.eq_of_testBit_eq
    intro k
    rw [Nat.testBit_and]
    cases e : s.testBit k
    · rfl
    · rw [h k e]; rfl
theorem sub_in {B : Nat} {f : Nat → Nat} : ∀ {V : List Nat} {m : Nat}, m &&& B = m → sub (V.filter fun j => B.testBit j) m f = sub V m fun s => bit (decide (s &&& B = s)) * f s
  | [], m, h => by
    show f m = bit (decide (m &&& B = m)) * f m
    rw [decide_eq_true h]
    exact (Nat.one_mul _).symm
  | c :: cs, m, h => by
    show _ = sub cs m _ + sub cs (m ||| 2 ^ c) _
    by_cases z : B.testBit c = true
    · rw [List.filter_cons_of_pos z]
      show sub _ m f + sub _ (m ||| 2 ^ c) f = _
      rw [sub_in h, sub_in (and_iff.mpr fun k hk => ?_)]
      rw [Nat.testBit_or, Nat.testBit_two_pow] at hk
      rcases Bool.or_eq_true_iff.mp hk with y | y
      · exact and_iff.mp h k y
      · exact of_decide_eq_true y ▸ z
    · rw [List.filter_cons_of_neg z, sub_in h, sub_zero (m := m ||| 2 ^ c) fun s hs => ?_]
      · rfl
      · have e : ¬ s &&& B = s := fun y => z (and_iff.mp y c (hs c (by rw [Nat.testBit_or, Nat.testBit_two_pow_self, Bool.or_true])))
        rw [decide_eq_false e]
        exact Nat.zero_mul _
/-- of a set: it has k, lies beneath it, and keeps the boughs there -/
def belB (L : List Bg) (k B s : Nat) : Bool := decide (s &&& B = s) && s.testBit k && allB (inB B L) s
theorem below_ways {m : Nat} {L : List Bg} {k B : Nat} (T : TreeB m L) (h : BelowK m L k B) : ((List.range (2 ^ m)).map fun s => bit (belB L k B s)).sum = waysW m L k := by
  have cl : ∀ b ∈ ordL m L, B.testBit b.u = true → ∀ j ∈ b.ks, B.testBit j = true := fun b hb => h.cl b ((mem_ordL T.lt).mp hb)
  unfold waysW
  rw [fold_in cl (fun _ _ => rfl) k h.has, ← zSum_all (((h.perm T).nodup_iff).mpr (List.nodup_range.filter _)) (h.fit T)]
  unfold zSum
  rw [sub_perm (h.perm T), sub_in (show 0 &&& B = 0 from Nat.zero_and B), sub_range _ m (fun s => bit (belB L k B s)) fun s hs => ?_]
  rw [wt_ones (w := ones) (fun _ => rfl), Nat.mul_one]
  have bm : ∀ p q : Bool, bit (p && q) = bit p * bit q := fun p q => by cases p <;> cases q <;> rfl
  unfold belB
  have e : allB (inB B (ordL m L)) s = allB (inB B L) s := by
    unfold allB
    rw [Bool.eq_iff_iff, List.all_eq_true, List.all_eq_true]
    exact ⟨fun h b hb => h b (mem_inB.mpr ⟨(mem_ordL T.lt).mpr (mem_inB.mp hb).1, (mem_inB.mp hb).2⟩), fun h b hb => h b (mem_inB.mpr ⟨(mem_ordL T.lt).mp (mem_inB.mp hb).1, (mem_inB.mp hb).2⟩)⟩
  rw [e, bm, bm, bm, Nat.mul_assoc]
/-! ### how it is found: turn by turn -/
structure Turn (m : Nat) (L : List Bg) (k t F : Nat) : Prop where
  has : F.testBit k = true
  cl : ∀ b ∈ L, b.u < t → F.testBit b.u = true → ∀ j ∈ b.ks, F.testBit j = true
  mn : ∀ j, F.testBit j = true → j = k ∨ ∃ b ∈ L, j ∈ b.ks ∧ F.testBit b.u = true
  lt : F < 2 ^ m
/-- in a turn: the boughs up to i are done, by what was found ahead of it -/
structure TurnI (m : Nat) (L : List Bg) (k F0 i F : Nat) : Prop where
  ge : ∀ j, F0.testBit j = true → F.testBit j = true
  dn : ∀ b ∈ L.take i, F0.testBit b.u = true → ∀ j ∈ b.ks, F.testBit j = true
  mn : ∀ j, F.testBit j = true → j = k ∨ ∃ b ∈ L, j ∈ b.ks ∧ F.testBit b.u = true
  lt : F < 2 ^ m
theorem Turn.start {m : Nat} {L : List Bg} {k : Nat} (h : k < m) : Turn m L k 0 (2 ^ k) := ⟨Nat.testBit_two_pow_self, fun b _ h => absurd h (Nat.not_lt_zero _), fun j hj => by rw [Nat.testBit_two_pow] at hj; exact .inl (of_decide_eq_true hj).symm, Nat.pow_lt_pow_right (by decide) h⟩
theorem Turn.begin {m : Nat} {L : List Bg} {k t F : Nat} (h : Turn m L k t F) : TurnI m L k F 0 F := ⟨fun _ z => z, fun b hb => (by rw [List.take_zero] at hb; cases hb), h.mn, h.lt⟩
theorem Turn.done {m : Nat} {L : List Bg} {k t F0 F : Nat} (T : TreeB m L) (h : Turn m L k t F0) (g : TurnI m L k F0 L.length F) : Turn m L k (t + 1) F := by
  have dn : ∀ b ∈ L, F0.testBit b.u = true → ∀ j ∈ b.ks, F.testBit j = true := by
    have := g.dn
    rwa [List.take_length] at this
  have old : ∀ n j, j < n → j ≤ t → F.testBit j = true → F0.testBit j = true := fun n => by
    induction n with
    | zero => exact fun j hj => absurd hj (Nat.not_lt_zero _)
    | succ n ih =>
      intro j hj ht hf
      rcases g.mn j hf with rfl | ⟨b, hb, hjb, hu⟩
      · exact h.has
      · have h1 := ((T.ok b hb).up j hjb).1
        exact h.cl b hb (by omega) (ih b.u (by omega) (by omega) hu) j hjb
  exact ⟨g.ge k h.has, fun b hb ht hu j hj => dn b hb (old (b.u + 1) b.u (by omega) (by omega) hu) j hj, g.mn, g.lt⟩
theorem Turn.last {m : Nat} {L : List Bg} {k B : Nat} (T : TreeB m L) (h : Turn m L k m B) : BelowK m L k B := ⟨h.has, fun b hb => h.cl b hb (T.lt b hb), h.mn, h.lt⟩
theorem TurnI.skip {m : Nat} {L : List Bg} {k F0 i F : Nat} {b : Bg} (h : TurnI m L k F0 i F) (hb : L[i]? = some b) (off : F.testBit b.u = false) : TurnI m L k F0 (i + 1) F := by
  refine ⟨h.ge, fun b' hb' hu => ?_, h.mn, h.lt⟩
  rw [List.take_add_one, hb, Option.toList_some] at hb'
  rcases List.mem_append.mp hb' with z | z
  · exact h.dn b' z hu
  · rw [List.mem_singleton.mp z] at hu
    rw [h.ge _ hu] at off
    cases off
/-- the kids of a bough, the first n put in -/
structure TurnK (F1 : Nat) (ks : List Nat) (n F : Nat) : Prop where
  iff : ∀ j, F.testBit j = true ↔ F1.testBit j = true ∨ j ∈ ks.take n
theorem TurnK.start {F1 : Nat} {ks : List Nat} : TurnK F1 ks 0 F1 := ⟨fun j => by rw [List.take_zero]; exact ⟨.inl, fun z => z.elim id fun z => nomatch z⟩⟩
theorem TurnK.step {F1 n F c : Nat} {ks : List Nat} (h : TurnK F1 ks n F) (hc : ks[n]? = some c) : TurnK F1 ks (n + 1) (F ||| 2 ^ c) := ⟨fun j => by
  rw [Nat.testBit_or, Bool.or_eq_true_iff, h.iff j, Nat.testBit_two_pow, decide_eq_true_iff, List.take_add_one, hc, Option.toList_some, List.mem_append, List.mem_singleton, or_assoc]
  constructor
  · rintro (z | z | z)
    · exact .inl z
    · exact .inr (.inl z)
    · exact .inr (.inr z.symm)
  · rintro (z | z | z)
    · exact .inl z
    · exact .inr (.inl z)
    · exact .inr (.inr z.symm)⟩
theorem TurnK.lt {F1 n F m : Nat} {ks : List Nat} (h : TurnK F1 ks n F) (h1 : F1 < 2 ^ m) (hk : ∀ j ∈ ks, j < m) : F < 2 ^ m := by
  refine Nat.lt_pow_two_of_testBit F fun i hi => ?_
  rw [Bool.eq_false_iff]
  intro z
  rcases (h.iff i).mp z with y | y
  · rw [Nat.testBit_lt_two_pow (Nat.lt_of_lt_of_le h1 (Nat.pow_le_pow_right (by decide) hi))] at y
    cases y
  · have := hk i (List.mem_of_mem_take y)
    omega
theorem TurnI.put {m : Nat} {L : List Bg} {k F0 i F1 F : Nat} {b : Bg} (h : TurnI m L k F0 i F1) (hb : L[i]? = some b) (on : F1.testBit b.u = true) (g : TurnK F1 b.ks b.ks.length F) (hl : F < 2 ^ m) : TurnI m L k F0 (i + 1) F := by
  have gi := g.iff
  rw [List.take_length] at gi
  have up : ∀ j, F1.testBit j = true → F.testBit j = true := fun j z => (gi j).mpr (.inl z)
  refine ⟨fun j z => up j (h.ge j z), fun b' hb' hu j hj => ?_, fun j hj => ?_, hl⟩
  · rw [List.take_add_one, hb, Option.toList_some] at hb'
    rcases List.mem_append.mp hb' with z | z
    · exact up j (h.dn b' z hu j hj)
    · cases List.mem_singleton.mp z
      exact (gi j).mpr (.inr hj)
  · rcases (gi j).mp hj with z | z
    · rcases h.mn j z with y | ⟨b', h1, h2, h3⟩
      · exact .inl y
      · exact .inr ⟨b', h1, h2, up _ h3⟩
    · exact .inr ⟨b, List.mem_of_getElem? hb, z, up _ on⟩
def spBeneathB : Sp := fun vs H Q _ => ∃ (wd : Addr) (m : Nat) (L : List Bg) (k : Nat), vs = [.ref wd, .int k] ∧ WoodB H wd m L ∧ k < m ∧ ∀ (B : Nat) (H' : Hp), Same H H' → BelowK m L k B → Q (.int B) H'
def spWaysB : Sp := fun vs H Q _ => ∃ (wd : Addr) (m : Nat) (L : List Bg) (k : Nat), vs = [.ref wd, .int k] ∧ WoodB H wd m L ∧ k < m ∧ ∀ (H' : Hp), Same H H' → Q (.int (waysW m L k)) H'
end Wd

set_option maxRecDepth 100000
set_option maxHeartbeats 4000000
namespace Ow
open PySem L2 Wd
def top (i : Nat) : Stmt := PySem.Challenge.pw_optionwood_k24_ways_of_options.main.body.getD i (.Pass ⟨0, 0, 0, 0⟩)
abbrev s_ways : Stmt := top 11
abbrev s_bough_ways : Stmt := top 12
abbrev s_with_kid : Stmt := top 13
abbrev s_law_cell : Stmt := top 15
abbrev s_law_next : Stmt := top 16
abbrev s_law_kids : Stmt := top 17
abbrev s_law_bough : Stmt := top 18
abbrev s_law_cross : Stmt := top 19
abbrev s_law_wood : Stmt := top 20
abbrev s_law_keeps : Stmt := top 21
abbrev s_law_beneath : Stmt := top 23
abbrev s_law_ways : Stmt := top 24
abbrev s_law_same : Stmt := top 25
abbrev s_law_refused : Stmt := top 26
abbrev s_law : Stmt := top 27
set_option genInjectivity false
set_option genSizeOfSpec false
set_option genSizeOf false
structure Adr where
  f_ways : Addr
  f_bough_ways : Addr
  f_with_kid : Addr
  f_law_cell : Addr
  f_law_next : Addr
  f_law_kids : Addr
  f_law_bough : Addr
  f_law_cross : Addr
  f_law_wood : Addr
  f_law_keeps : Addr
  f_law_beneath : Addr
  f_law_ways : Addr
  f_law_same : Addr
  f_law_refused : Addr
  f_law : Addr
  x_WoodError : Addr
  x_NoWood : Addr
  x_NoCount : Addr
  x_NoWares : Addr
  x_NoOffer : Addr
  x_Unlike : Addr
  x_NoText : Addr
  x_NoRow : Addr
  x_NoName : Addr
structure Fds where
  f_ways : FuncData
  f_bough_ways : FuncData
  f_with_kid : FuncData
  f_law_cell : FuncData
  f_law_next : FuncData
  f_law_kids : FuncData
  f_law_bough : FuncData
  f_law_cross : FuncData
  f_law_wood : FuncData
  f_law_keeps : FuncData
  f_law_beneath : FuncData
  f_law_ways : FuncData
  f_law_same : FuncData
  f_law_refused : FuncData
  f_law : FuncData
structure Txt (K : PySem.W.Frag) (mg : Str → Option Value) (a : Adr) (d : Fds) : Prop where
  m_ValueError : mg "ValueError" = none
  m_range : mg "range" = none
  m_len : mg "len" = none
  m_isinstance : mg "isinstance" = none
  m_max : mg "max" = none
  m_int : mg "int" = none
  m_bool : mg "bool" = none
  m_list : mg "list" = none
  m_tuple : mg "tuple" = none
  m_sum : mg "sum" = none
  m_any : mg "any" = none
  m_zip : mg "zip" = none
  g_ways : mg "ways" = some (.ref a.f_ways)
  K_ways : Fun K "ways" "ways" s_ways a.f_ways d.f_ways
  B_ways : Binds K d.f_ways ["wood"] []
  g_bough_ways : mg "bough_ways" = some (.ref a.f_bough_ways)
  K_bough_ways : Fun K "bough_ways" "bough_ways" s_bough_ways a.f_bough_ways d.f_bough_ways
  B_bough_ways : Binds K d.f_bough_ways ["bough", "option_ways"] []
  g_with_kid : mg "with_kid" = some (.ref a.f_with_kid)
  K_with_kid : Fun K "with_kid" "with_kid" s_with_kid a.f_with_kid d.f_with_kid
  B_with_kid : Binds K d.f_with_kid ["by_count", "kid_ways"] []
  g_law_cell : mg "_law_cell" = some (.ref a.f_law_cell)
  K_law_cell : Fun K "_law_cell" "_law_cell" s_law_cell a.f_law_cell d.f_law_cell
  B_law_cell : Binds K d.f_law_cell ["_law_script", "_law_k"] []
  g_law_next : mg "_law_next" = some (.ref a.f_law_next)
  K_law_next : Fun K "_law_next" "_law_next" s_law_next a.f_law_next d.f_law_next
  B_law_next : Binds K d.f_law_next ["_law_pen", "_law_most"] []
  g_law_kids : mg "_law_kids" = some (.ref a.f_law_kids)
  K_law_kids : Fun K "_law_kids" "_law_kids" s_law_kids a.f_law_kids d.f_law_kids
  B_law_kids : Binds K d.f_law_kids ["_law_pen", "_law_many"] []
  g_law_bough : mg "_law_bough" = some (.ref a.f_law_bough)
  K_law_bough : Fun K "_law_bough" "_law_bough" s_law_bough a.f_law_bough d.f_law_bough
  B_law_bough : Binds K d.f_law_bough ["_law_pen", "_law_up", "_law_kids_here"] []
  g_law_cross : mg "_law_cross" = some (.ref a.f_law_cross)
  K_law_cross : Fun K "_law_cross" "_law_cross" s_law_cross a.f_law_cross d.f_law_cross
  B_law_cross : Binds K d.f_law_cross ["_law_pen", "_law_many"] []
  g_law_wood : mg "_law_wood" = some (.ref a.f_law_wood)
  K_law_wood : Fun K "_law_wood" "_law_wood" s_law_wood a.f_law_wood d.f_law_wood
  B_law_wood : Binds K d.f_law_wood ["_law_pen", "_law_many", "_law_most"] []
  g_law_keeps : mg "_law_keeps" = some (.ref a.f_law_keeps)
  K_law_keeps : Fun K "_law_keeps" "_law_keeps" s_law_keeps a.f_law_keeps d.f_law_keeps
  B_law_keeps : Binds K d.f_law_keeps ["_law_tie", "_law_some"] []
  g_law_beneath : mg "_law_beneath" = some (.ref a.f_law_beneath)
  K_law_beneath : Fun K "_law_beneath" "_law_beneath" s_law_beneath a.f_law_beneath d.f_law_beneath
  B_law_beneath : Binds K d.f_law_beneath ["_law_wood_here", "_law_k"] []
  g_law_ways : mg "_law_ways" = some (.ref a.f_law_ways)
  K_law_ways : Fun K "_law_ways" "_law_ways" s_law_ways a.f_law_ways d.f_law_ways
  B_law_ways : Binds K d.f_law_ways ["_law_wood_here", "_law_k"] []
  g_law_same : mg "_law_same" = some (.ref a.f_law_same)
  K_law_same : Fun K "_law_same" "_law_same" s_law_same a.f_law_same d.f_law_same
  B_law_same : Binds K d.f_law_same ["_law_found", "_law_due"] []
  g_law_refused : mg "_law_refused" = some (.ref a.f_law_refused)
  K_law_refused : Fun K "_law_refused" "_law_refused" s_law_refused a.f_law_refused d.f_law_refused
  B_law_refused : Binds K d.f_law_refused ["_law_wood_here"] []
  g_law : mg "law" = some (.ref a.f_law)
  K_law : Fun K "law" "law" s_law a.f_law d.f_law
  B_law : Binds K d.f_law ["_law_script"] []
  g_WoodError : mg "WoodError" = some (.ref a.x_WoodError)
  g_NoWood : mg "NoWood" = some (.ref a.x_NoWood)
  g_NoCount : mg "NoCount" = some (.ref a.x_NoCount)
  g_NoWares : mg "NoWares" = some (.ref a.x_NoWares)
  g_NoOffer : mg "NoOffer" = some (.ref a.x_NoOffer)
  g_Unlike : mg "Unlike" = some (.ref a.x_Unlike)
  g_NoText : mg "NoText" = some (.ref a.x_NoText)
  g_NoRow : mg "NoRow" = some (.ref a.x_NoRow)
  g_NoName : mg "NoName" = some (.ref a.x_NoName)
  x_WoodError : XGet K a.x_WoodError
  x_NoWood : XGet K a.x_NoWood
  x_NoCount : XGet K a.x_NoCount
  x_NoWares : XGet K a.x_NoWares
  x_NoOffer : XGet K a.x_NoOffer
  x_Unlike : XGet K a.x_Unlike
  x_NoText : XGet K a.x_NoText
  x_NoRow : XGet K a.x_NoRow
  x_NoName : XGet K a.x_NoName
  k_NoCount_WoodError : PySem.W.kitOne K (.ref a.x_NoCount) (.ref a.x_WoodError) = some true
  k_NoCount_NoWood : PySem.W.kitOne K (.ref a.x_NoCount) (.ref a.x_NoWood) = some false
  k_NoCount_NoCount : PySem.W.kitOne K (.ref a.x_NoCount) (.ref a.x_NoCount) = some true
  k_NoCount_NoWares : PySem.W.kitOne K (.ref a.x_NoCount) (.ref a.x_NoWares) = some false
  k_NoCount_NoOffer : PySem.W.kitOne K (.ref a.x_NoCount) (.ref a.x_NoOffer) = some false
  k_NoCount_Unlike : PySem.W.kitOne K (.ref a.x_NoCount) (.ref a.x_Unlike) = some false
  k_NoCount_NoText : PySem.W.kitOne K (.ref a.x_NoCount) (.ref a.x_NoText) = some false
  k_NoCount_NoRow : PySem.W.kitOne K (.ref a.x_NoCount) (.ref a.x_NoRow) = some false
  k_NoCount_NoName : PySem.W.kitOne K (.ref a.x_NoCount) (.ref a.x_NoName) = some false
  v_NoCount : PySem.W.kitOne K (.ref a.x_NoCount) (.type "ValueError") = some true
  s_NoCount_WoodError : xsub K a.x_NoCount a.x_WoodError = true
theorem sc_ways : FnScope ["wood", "told", "k", "bough"] ["wood"] (defScope s_ways) := ⟨rfl, rfl, rfl, by decide +kernel, rfl, by decide +kernel, by decide +kernel⟩
theorem sc_bough_ways : FnScope ["bough", "option_ways", "by_count", "kid"] ["bough", "option_ways"] (defScope s_bough_ways) := ⟨rfl, rfl, rfl, by decide +kernel, rfl, by decide +kernel, by decide +kernel⟩
theorem sc_with_kid : FnScope ["by_count", "kid_ways", "without", "having"] ["by_count", "kid_ways"] (defScope s_with_kid) := ⟨rfl, rfl, rfl, by decide +kernel, rfl, by decide +kernel, by decide +kernel⟩
theorem sc_law_cell : FnScope ["_law_script", "_law_k", "_law_number", "_law_spot"] ["_law_script", "_law_k"] (defScope s_law_cell) := ⟨rfl, rfl, rfl, by decide +kernel, rfl, by decide +kernel, by decide +kernel⟩
theorem sc_law_next : FnScope ["_law_pen", "_law_most", "_law_cell_here"] ["_law_pen", "_law_most"] (defScope s_law_next) := ⟨rfl, rfl, rfl, by decide +kernel, rfl, by decide +kernel, by decide +kernel⟩
theorem sc_law_kids : FnScope ["_law_pen", "_law_many", "_law_rows", "_law_k"] ["_law_pen", "_law_many"] (defScope s_law_kids) := ⟨rfl, rfl, rfl, by decide +kernel, rfl, by decide +kernel, by decide +kernel⟩
theorem sc_law_bough : FnScope ["_law_pen", "_law_up", "_law_kids_here", "_law_size", "_law_low", "_law_high", "_law_way"] ["_law_pen", "_law_up", "_law_kids_here"] (defScope s_law_bough) := ⟨rfl, rfl, rfl, by decide +kernel, rfl, by decide +kernel, by decide +kernel⟩
theorem sc_law_cross : FnScope ["_law_pen", "_law_many", "_law_way", "_law_a", "_law_some", "_law_by", "_law_numbers", "_law_pairs", "_law_k", "_law_most"] ["_law_pen", "_law_many"] (defScope s_law_cross) := ⟨rfl, rfl, rfl, by decide +kernel, rfl, by decide +kernel, by decide +kernel⟩
theorem sc_law_wood : FnScope ["_law_pen", "_law_many", "_law_most", "_law_rows", "_law_boughs", "_law_turn", "_law_cross_here"] ["_law_pen", "_law_many", "_law_most"] (defScope s_law_wood) := ⟨rfl, rfl, rfl, by decide +kernel, rfl, by decide +kernel, by decide +kernel⟩
theorem sc_law_keeps : FnScope ["_law_tie", "_law_some", "_law_up", "_law_low", "_law_high", "_law_kids_here", "_law_many"] ["_law_tie", "_law_some"] (defScope s_law_keeps) := ⟨rfl, rfl, rfl, by decide +kernel, rfl, by decide +kernel, by decide +kernel⟩
theorem sc_law_beneath : FnScope ["_law_wood_here", "_law_k", "_law_found", "_law_turn", "_law_up", "_law_low", "_law_high", "_law_kids_here", "_law_kid"] ["_law_wood_here", "_law_k"] (defScope s_law_beneath) := ⟨rfl, rfl, rfl, by decide +kernel, rfl, by decide +kernel, by decide +kernel⟩
theorem sc_law_ways : FnScope ["_law_wood_here", "_law_k", "_law_below", "_law_boughs", "_law_many", "_law_some"] ["_law_wood_here", "_law_k"] (defScope s_law_ways) := ⟨rfl, rfl, rfl, by decide +kernel, rfl, by decide +kernel, by decide +kernel⟩
theorem sc_law_same : FnScope ["_law_found", "_law_due"] ["_law_found", "_law_due"] (defScope s_law_same) := ⟨rfl, rfl, rfl, by decide +kernel, rfl, by decide +kernel, by decide +kernel⟩
theorem sc_law_refused : FnScope ["_law_wood_here", "_law_caught", "error", "_law_others"] ["_law_wood_here"] (defScope s_law_refused) := ⟨rfl, rfl, rfl, by decide +kernel, rfl, by decide +kernel, by decide +kernel⟩
theorem sc_law : FnScope ["_law_script", "_law_pen", "_law_many", "_law_wood_here", "_law_crossed", "_law_due", "_law_found"] ["_law_script"] (defScope s_law) := ⟨rfl, rfl, rfl, by decide +kernel, rfl, by decide +kernel, by decide +kernel⟩
end Ow

namespace Ow
open PySem L2 Wd
section
variable {P : Program} {w : World} {K : PySem.W.Frag} {mg : Str → Option Value} {base : Heap} {a : Adr} {d : Fds}
theorem ok_with_kid (T : Txt K mg a d) : FnOk P w K mg base CX0 1 a.f_with_kid d.f_with_kid ["by_count", "kid_ways"] spWithKid := by
  refine T.K_with_kid.ok sc_with_kid (fun vs H Q E h => ?_) (fun cdv A outer s H vs Q E hr h => ?_)
  · obtain ⟨l, L, x, rfl, _⟩ := h
    rfl
  obtain ⟨l, L, x, rfl, hl, few, hx, q⟩ := h
  have lL : (natsL L).length = L.length := List.length_map _
  refine ⟨_, (pss_cons (ps_set (i := 2) sc_with_kid.nd rfl (Or.inl rfl) (pe_op op_cat (pv 0) (pe_lst (pa_cons pe_int pa_nil))))
      (pss_cons (ps_set (i := 3) sc_with_kid.nd rfl (Or.inl rfl) (pe_op op_cat (pe_lst (pa_cons pe_int pa_nil)) (pe_lc (sc0 := defScope s_with_kid) (XN := ["by_count", "kid_ways", "without", "having"]) (N' := ["count", "kid_ways"]) (n := 1) (kp := [1]) rfl (piL (K := K) (pv 0)) rfl rfl (by decide +kernel) (fun _ _ _ _ _ => (pg_name (i := 0) (by show List.Nodup (["count", "kid_ways"] : List Str); decide +kernel) rfl (Or.inl rfl))) (fun _ _ _ _ _ => pts_nil) (fun _ _ _ _ _ => (pe_op op_mul (pv 0) (pv 1))))))
      (pss_one (ps_ret (pe_lc (sc0 := defScope s_with_kid) (XN := ["by_count", "kid_ways", "without", "having"]) (N' := ["one", "other"]) (n := 2) (kp := []) rfl (pi_zipL rfl T.m_zip (pa_cons (pv 2) (pa_cons (pv 3) pa_nil))) rfl rfl (by decide +kernel) (fun _ _ _ _ _ => (pgT (K := K) (n := 2) rfl (pgs_cons (pg_name (i := 0) (by show List.Nodup (["one", "other"] : List Str); decide +kernel) rfl (Or.inl rfl)) (pgs_cons (pg_name (i := 1) (by show List.Nodup (["one", "other"] : List Str); decide +kernel) rfl (Or.inl rfl)) pgs_nil)))) (fun _ _ _ _ _ => pts_nil) (fun _ _ _ _ _ => (pe_op op_add (pv 0) (pv 1)))))))), ?_⟩
  refine ⟨_, rfl, small (by show 1 ≤ 1000; decide), fun z1 hz1 => ?_⟩
  have s1 := same_new hz1 (.lst [.int 0])
  refine ⟨l, z1, _, _, rfl, rfl, s1 _ _ hl, upd_same, small (by rw [lL]; show L.length + 1 ≤ 1000; omega), fun p1 hp1 => ?_⟩
  have s2 := s1.trans (same_new hp1 (.lst (natsL L ++ [.int 0])))
  generalize hH2 : L2.upd (L2.upd H z1 (.lst [.int 0])) p1 (.lst (natsL L ++ [.int 0])) = H2 at *
  have hp12 : H2 p1 = some (.lst (natsL (L ++ [0]))) := by rw [← hH2, upd_same, natsL_app]; rfl
  refine ⟨small (by show 1 ≤ 1000; decide), fun z2 hz2 => ?_⟩
  have s3 := same_new hz2 (.lst [.int 0])
  generalize hH3 : L2.upd H2 z2 (.lst [.int 0]) = H3 at *
  have hz23 : H3 z2 = some (.lst [.int 0]) := by rw [← hH3]; exact upd_same
  have hl3 := (s2.trans s3) _ _ hl
  refine ⟨_, rfl, l, rfl, ⟨_, SqL.of hl3⟩, ?_⟩
  refine lc_list (K := K) (a := l) (xs := natsL L) (fun i ys σ H4 => (∃ v, σ = [v, some (.int (x : Int))]) ∧ H4 = H3 ∧ ys = natsL ((L.take i).map (· * x))) ⟨⟨none, rfl⟩, rfl, rfl⟩ (fun i ys σ H4 hi pv => ?_) (fun i ys σ H4 hi pv => ?_) (fun i y ys σ H4 hy pv => ?_) (fun ys σ H4 pv p2 hp2 => ?_)
  · obtain ⟨_, _, rfl⟩ := pv
    rw [List.length_map, List.length_map, List.length_take]
    exact small (by omega)
  · rw [pv.2.1]
    exact SqL.of hl3
  · obtain ⟨⟨v, rfl⟩, rfl, rfl⟩ := pv
    rw [List.getElem?_map] at hy
    obtain ⟨k, hk, rfl⟩ := Option.map_eq_some_iff.mp hy
    refine ⟨_, rfl, _, rfl, _, _, rfl, rfl, .inr ⟨by omega, by omega⟩, ⟨_, rfl⟩, rfl, ?_⟩
    rw [take_map_succ hk]
    show _ = List.map _ (_ ++ _)
    rw [List.map_append]
    show _ ++ [V.int ((k : Int) * (x : Int))] = _ ++ [V.int ((k * x : Nat) : Int)]
    rw [Int.natCast_mul]
  obtain ⟨_, rfl, rfl⟩ := pv
  rw [List.length_map, List.take_length] at *
  have s4 := same_new hp2 (.lst (natsL (L.map (· * x))))
  refine ⟨z2, p2, _, _, rfl, rfl, s4 _ _ hz23, upd_same, small (by rw [List.length_map, List.length_map]; show 1 + L.length ≤ 1000; omega), fun p3 hp3 => ?_⟩
  have s5 := same_new hp3 (.lst ([.int 0] ++ natsL (L.map (· * x))))
  have s25 := s3.trans (s4.trans s5)
  generalize hH5 : L2.upd (L2.upd H4 p2 (.lst (natsL (L.map (· * x))))) p3 (.lst ([.int 0] ++ natsL (L.map (· * x)))) = H5 at *
  have hp35 : H5 p3 = some (.lst (natsL (0 :: L.map (· * x)))) := by rw [← hH5, upd_same]; rfl
  have hp15 := s25 _ _ hp12
  have s05 := s2.trans s25
  refine ⟨_, rfl, _, rfl, p1, p3, rfl, ⟨_, SqL.of hp15⟩, ⟨_, SqL.of hp35⟩, ?_⟩
  have l1 : (L ++ [0]).length = L.length + 1 := by rw [List.length_append]; rfl
  have l2 : (0 :: L.map (· * x)).length = L.length + 1 := by rw [List.length_cons, List.length_map]
  refine lc_zipL (K := K) (a := p1) (b := p3) (xs := natsL (L ++ [0])) (ys := natsL (0 :: L.map (· * x))) (fun i zs σ H6 => (∃ v v', σ = [v, v']) ∧ Same H5 H6 ∧ zs = natsL ((withKid L x).take i)) (by rw [List.length_map, List.length_map, l1, l2]) ⟨⟨none, none, rfl⟩, Same.refl _, rfl⟩ (fun i zs σ H6 hi pv => ?_) (fun i zs σ H6 hi pv => ?_) (fun i y y' zs σ H6 hy hy' pv t ht => ?_) (fun zs σ H6 pv p hp => ?_)
  · obtain ⟨_, _, rfl⟩ := pv
    rw [List.length_map, List.length_take, with_len]
    exact small (by omega)
  · exact ⟨SqL.of (pv.2.1 _ _ hp15), SqL.of (pv.2.1 _ _ hp35)⟩
  · obtain ⟨⟨v, v', rfl⟩, s6, rfl⟩ := pv
    rw [List.getElem?_map] at hy hy'
    obtain ⟨k, hk, rfl⟩ := Option.map_eq_some_iff.mp hy
    obtain ⟨k', hk', rfl⟩ := Option.map_eq_some_iff.mp hy'
    have s7 := same_new ht (.tup [.int (k : Int), .int (k' : Int)])
    refine ⟨t, _, rfl, sqT upd_same, rfl, _, _, rfl, _, _, rfl, rfl, ?_⟩
    refine ⟨_, rfl, _, rfl, _, _, rfl, rfl, ⟨_, _, rfl⟩, s6.trans s7, ?_⟩
    have hw : (withKid L x)[i]? = some (k + k') := by
      unfold withKid
      rw [List.getElem?_zipWith, hk, hk']
    rw [natsL_succ hw, Int.natCast_add]
  obtain ⟨_, s6, rfl⟩ := pv
  rw [List.length_map, l1] at *
  rw [List.take_of_length_le (by rw [with_len]; exact Nat.le_refl _)] at *
  have s8 := same_new hp (.lst (natsL (withKid L x)))
  exact q p _ ((s05.trans s6).trans s8) ((s05.trans s6).free hp) upd_same

end
section
variable {P : Program} {w : World} {K : PySem.W.Frag} {mg : Str → Option Value} {base : Heap} {a : Adr} {d : Fds}
theorem ok_bough_ways (T : Txt K mg a d) : FnOk P w K mg base CX0 2 a.f_bough_ways d.f_bough_ways ["bough", "option_ways"] spBoughW := by
  have G_with_kid := ok_with_kid (P := P) (w := w) (base := base) T
  refine T.K_bough_ways.ok sc_bough_ways (fun vs H Q E h => ?_) (fun cdv A outer s H vs Q E hr h => ?_)
  · obtain ⟨v, l, b, m, f, rfl, _⟩ := h
    rfl
  obtain ⟨v, l, b, m, f, rfl, hd, ok, m9, hl, fb, q⟩ := h
  obtain ⟨p, pk, rfl, hp, hpk⟩ := at_bough hd
  have few := ok.few
  have lo0 := ok.lo0
  have lohi := ok.lohi
  have hik := ok.hik
  obtain ⟨lo, elo⟩ : ∃ j : Nat, b.lo = (j : Int) := ⟨b.lo.toNat, by omega⟩
  obtain ⟨hi, ehi⟩ : ∃ j : Nat, b.hi = (j : Int) := ⟨b.hi.toNat, by omega⟩
  refine ⟨_, (pss_cons (ps_set (i := 2) sc_bough_ways.nd rfl (Or.inl rfl) (pe_lst (pa_cons pe_int pa_nil)))
      (pss_cons (ps_for PassesOwn.never rfl (piT (K := K) (pe_ix (ixT (K := K)) (pv 0) pe_int (fun _ _ => rfl))) (pg_name (i := 3) sc_bough_ways.nd rfl (Or.inl rfl)) (pss_one (ps_set (i := 2) sc_bough_ways.nd rfl (Or.inl rfl) (pe_call G_with_kid (hr.mono (by first | decide | omega)) rfl T.g_with_kid T.K_with_kid.kp T.B_with_kid .nil pass0 (pa_cons (pv 2) (pa_cons (pe_ix (ixL (K := K)) (pv 1) (pv 3) (fun _ _ => rfl)) pa_nil))))))
      (pss_one (ps_ret (pe_callB (call_sum_ints rfl) rfl T.m_sum PyProof.Rows.boot_sum (pa_cons (pe_slice sl_list (pv 2) (po_some (pe_ix (ixT (K := K)) (pv 0) pe_int (fun _ _ => rfl))) (po_some (pe_op op_add (pe_ix (ixT (K := K)) (pv 0) pe_int (fun _ _ => rfl)) pe_int))) pa_nil)))))), ?_⟩
  refine ⟨small (by show 1 ≤ 1000; decide), fun b0 hb0 => ?_⟩
  have s1 := same_new hb0 (.lst [.int 1])
  generalize hH1 : L2.upd H b0 (.lst [.int 1]) = H1 at *
  have hb01 : H1 b0 = some (.lst (natsL [1])) := by rw [← hH1]; exact upd_same
  refine ⟨_, rfl, p, _, _, _, rfl, rfl, sqT (s1 _ _ hp), at3, pk, rfl, ⟨_, sqT (s1 _ _ hpk)⟩, ?_⟩
  refine for_tup (K := K) (a := pk) (xs := b.ks.map fun k : Nat => V.int (k : Int)) (fun i σ H2 => ∃ (bl : Addr) (v3 : Option V), σ = [some (.ref p), some (.ref l), some (.ref bl), v3] ∧ Same H1 H2 ∧ H2 bl = some (.lst (natsL (byCount f (b.ks.take i) [1])))) ⟨b0, none, rfl, Same.refl _, hb01⟩ (fun i σ H2 _ z => ?_) ?_ ?_
  · obtain ⟨_, _, _, s2, _⟩ := z
    exact sqT (s2 _ _ (s1 _ _ hpk))
  · rintro i x σ H2 hx ⟨bl, v3, rfl, s2, hbl⟩
    rw [List.getElem?_map] at hx
    obtain ⟨k, hk, rfl⟩ := Option.map_eq_some_iff.mp hx
    have km := (ok.up k (List.mem_of_getElem? hk)).2
    have hi' : i < b.ks.length := (List.getElem?_eq_some_iff.mp hk).1
    have s12 := s1.trans s2
    refine ⟨_, rfl, _, rfl, _, rfl, l, _, _, _, rfl, rfl, SqL.of (s12 _ _ hl), told_at km, ?_⟩
    refine ⟨bl, byCount f (b.ks.take i) [1], f k, rfl, hbl, ?_, Nat.le_trans (fb k) (by decide), fun p' H3 s3 hp' hp3 => ?_⟩
    · rw [by_len, List.length_take]
      show 1 + _ ≤ 100
      omega
    · refine ⟨p', _, rfl, s2.trans s3, ?_⟩
      rw [hp3, List.take_add_one, hk, Option.toList_some]
      unfold byCount
      rw [List.foldl_append]
      rfl
  · rintro σ H2 ⟨bl, v3, rfl, s2, hbl⟩
    rw [List.length_map, List.take_length] at hbl
    have s12 := s1.trans s2
    have lb : (byCount f b.ks [1]).length = 1 + b.ks.length := by rw [by_len]; rfl
    refine ⟨_, rfl, _, rfl, p, _, _, _, rfl, rfl, sqT (s12 _ _ hp), at1, _, rfl, _, rfl, p, _, _, _, rfl, rfl, sqT (s12 _ _ hp), at2, _, _, rfl, rfl, _, rfl, bl, _, rfl, SqL.of hbl, fun c hc => ?_⟩
    have ec : cutV (natsL (byCount f b.ks [1])) (some b.lo) (some (b.hi + 1)) = natsL (((byCount f b.ks [1]).drop lo).take (hi + 1 - lo)) := by
      rw [elo, ehi]
      exact cut_nats _ (lo := lo) (hi := hi + 1) (by omega)
    dsimp only
    rw [ec]
    refine ⟨c, (((byCount f b.ks [1]).drop lo).take (hi + 1 - lo)).map (fun k : Nat => (k : Int)), rfl, SqL.of (by rw [upd_same, natsV]), ?_⟩
    rw [sum_nats, bough_sum b f lo hi elo ehi (by omega)]
    exact q _ (s12.trans (same_new hc _))

end
section
variable {P : Program} {w : World} {K : PySem.W.Frag} {mg : Str → Option Value} {base : Heap} {a : Adr} {d : Fds}
theorem rep_ones (m : Nat) : (List.replicate m [V.int 1]).flatten = natsL ((List.range m).map ones) := by
  induction m with
  | zero => rfl
  | succ m ih =>
    rw [List.replicate_succ', List.flatten_append, ih, List.range_succ, List.map_append]
    show _ ++ [V.int 1] = List.map _ (_ ++ _)
    rw [List.map_append]
    rfl
theorem ok_ways (T : Txt K mg a d) : FnOk P w K mg base CX0 3 a.f_ways d.f_ways ["wood"] spWays := by
  have G_bough_ways := ok_bough_ways (P := P) (w := w) (base := base) T
  refine T.K_ways.ok sc_ways (fun vs H Q E h => ?_) (fun cdv A outer s H vs Q E hr h => ?_)
  · obtain ⟨wd, m, L, rfl, _⟩ := h
    rfl
  obtain ⟨wd, m, L, rfl, W, q⟩ := h
  obtain ⟨xs, ⟨tb, tc, hw, hb, hc⟩, dn⟩ := W.ex
  have m9 := W.m9
  have m1 := W.T.m1
  have few := W.few
  have lx := dn.length
  rw [List.length_map] at lx
  have p63 : (2 : Int) ^ 63 = 9223372036854775808 := by decide
  refine ⟨_, (pss_cons (ps_if (pt_cmpR op_gt (pe_callB (lenS (K := K)) rfl T.m_len PySem.boot_len (pa_cons (pe_ix (ixT (K := K)) (pv 0) pe_int (fun _ _ => rfl)) pa_nil)) pe_int (nomark _)) (pss_one ps_never) pss_nil)
      (pss_cons (ps_set (i := 1) sc_ways.nd rfl (Or.inl rfl) (pe_op op_rep (pe_lst (pa_cons pe_int pa_nil)) (pe_ix (ixT (K := K)) (pv 0) pe_int (fun _ _ => rfl))))
      (pss_cons (ps_for PassesOwn.never rfl (pi_range3 rfl T.m_range (pa_cons (pe_op op_sub (pe_ix (ixT (K := K)) (pv 0) pe_int (fun _ _ => rfl)) pe_int) (pa_cons (pe_un un_neg pe_int) (pa_cons (pe_un un_neg pe_int) pa_nil)))) (pg_name (i := 2) sc_ways.nd rfl (Or.inl rfl)) (pss_one (ps_for PassesOwn.never rfl (piT (K := K) (pe_ix (ixT (K := K)) (pv 0) pe_int (fun _ _ => rfl))) (pg_name (i := 3) sc_ways.nd rfl (Or.inl rfl)) (pss_one (ps_if (pt_cmpR op_eq (pe_ix (ixT (K := K)) (pv 3) pe_int (fun _ _ => rfl)) (pv 2) (nomark _)) (pss_one (ps_asg (pe_op op_mul (pe_ix (ixL (K := K)) (pv 1) (pv 2) (fun _ _ => rfl)) (pe_call G_bough_ways (hr.mono (by first | decide | omega)) rfl T.g_bough_ways T.K_bough_ways.kp T.B_bough_ways .nil pass0 (pa_cons (pv 3) (pa_cons (pv 1) pa_nil)))) (pg_sub (pv 1) (pv 2) set_list))) pss_nil)))))
      (pss_one (ps_ret (pv 1)))))), ?_⟩
  refine ⟨_, rfl, wd, _, _, _, rfl, rfl, sqT hw, at2, tc, _, rfl, .inr (sqT hc), _, _, rfl, rfl, _, rfl, ?_⟩
  refine iteBN (by decide) ?_
  refine ⟨small (by show 1 ≤ 1000; decide), fun z hz => ?_⟩
  have s1 := same_new hz (.lst [.int 1])
  refine ⟨_, rfl, wd, _, _, _, rfl, rfl, sqT (s1 _ _ hw), at0, z, _, _, rfl, rfl, upd_same, by rw [p63]; omega, by rw [p63]; omega, small (by rw [Int.toNat_natCast]; show 1 * m ≤ 1000; omega), fun t0 ht0 => ?_⟩
  rw [Int.toNat_natCast, rep_ones]
  have s2 := s1.trans (same_new ht0 (.lst (natsL ((List.range m).map ones))))
  have nt0 : H t0 = none := s1.free ht0
  generalize hH2 : L2.upd (L2.upd H z (.lst [.int 1])) t0 (.lst (natsL ((List.range m).map ones))) = H2 at *
  have ht02 : H2 t0 = some (.lst (natsL ((List.range m).map ones))) := by rw [← hH2]; exact upd_same
  have ds := down_small (m := m) (by omega)
  refine ⟨_, rfl, wd, _, _, _, rfl, rfl, sqT (s2 _ _ hw), at0, _, _, rfl, rfl, _, rfl, _, rfl, (m : Int) - 1, -1, -1, m, rfl, by decide, by decide, ds.1, ds.2, ?_⟩
  refine for_rangeS (n := m) (fun i σ H3 => ∃ (v2 v3 : Option V), σ = [some (.ref wd), some (.ref t0), v2, v3] ∧ Same H H3 ∧ H3 t0 = some (.lst (natsL ((List.range m).map ((((List.range m).reverse.take i).flatMap (atUp L)).foldl stepW ones))))) ⟨none, none, rfl, s2, ht02⟩ ?_ ?_
  · rintro i σ H3 hi ⟨v2, v3, rfl, s3, ht3⟩
    have ek : ((m : Int) - 1) + (i : Int) * -1 = ((m - 1 - i : Nat) : Int) := by omega
    rw [ek]
    generalize hk : m - 1 - i = k at *
    have km : k < m := by omega
    have er : (List.range m).reverse[i]? = some k := by
      rw [List.getElem?_reverse (by rw [List.length_range]; exact hi), List.length_range, List.getElem?_range (by omega), hk]
    have er2 : (List.range m).reverse = (List.range m).reverse.take i ++ k :: (List.range m).reverse.drop (i + 1) := by
      rw [← List.take_append_drop i (List.range m).reverse]
      congr 1
      · rw [List.take_append_drop]
      · rw [List.take_append_drop]
        exact List.drop_eq_getElem_cons (by rw [List.length_reverse, List.length_range]; exact hi) |>.trans (by congr 1; exact Option.some.inj ((List.getElem?_eq_getElem _).symm.trans er))
    refine ⟨_, rfl, wd, _, _, _, rfl, rfl, sqT (s3 _ _ hw), at1, tb, rfl, ⟨_, sqT (s3 _ _ hb)⟩, ?_⟩
    refine for_tup (K := K) (a := tb) (xs := xs) (fun j σ H4 => ∃ (v3 : Option V), σ = [some (.ref wd), some (.ref t0), some (.int (k : Int)), v3] ∧ Same H H4 ∧ H4 t0 = some (.lst (natsL ((List.range m).map ((((List.range m).reverse.take i).flatMap (atUp L) ++ atUp (L.take j) k).foldl stepW ones))))) ⟨v3, rfl, s3, by rw [ht3]; unfold atUp; rw [List.take_zero, List.filter_nil, List.append_nil]⟩ (fun j σ H4 _ z' => ?_) ?_ ?_
    · obtain ⟨_, _, s4, _⟩ := z'
      exact sqT (s4 _ _ hb)
    · rintro j x σ H4 hx ⟨v3, rfl, s4, ht4⟩
      obtain ⟨dd, hdd, hx'⟩ := dn.get hx
      rw [List.getElem?_map] at hdd
      obtain ⟨b, hb', rfl⟩ := Option.map_eq_some_iff.mp hdd
      have ok := W.T.ok b (List.mem_of_getElem? hb')
      have dx := Dn.same s4 _ _ hx'
      obtain ⟨p, pk, rfl, hp, hpk⟩ := at_bough dx
      have et : L.take (j + 1) = L.take j ++ [b] := by rw [List.take_add_one, hb', Option.toList_some]
      refine ⟨_, rfl, p, _, _, _, rfl, rfl, sqT hp, at0, _, rfl, rfl, _, rfl, ?_⟩
      by_cases c : b.u = k
      · refine iteD (by rw [c]) ?_
        generalize hw' : (((List.range m).reverse.take i).flatMap (atUp L) ++ atUp (L.take j) k) = PP at *
        have epre : ∃ R, PP ++ b :: R = ordL m L := by
          refine ⟨(L.drop (j + 1)).filter (fun b => b.u == k) ++ ((List.range m).reverse.drop (i + 1)).flatMap (atUp L), ?_⟩
          have e1 : atUp L k = atUp (L.take j) k ++ b :: (L.drop (j + 1)).filter (fun b => b.u == k) := by
            have : L = L.take j ++ b :: L.drop (j + 1) := by
              rw [← List.take_append_drop j L]
              congr 1
              · rw [List.take_append_drop]
              · rw [List.take_append_drop]
                have jl : j < L.length := (List.getElem?_eq_some_iff.mp hb').1
                rw [List.drop_eq_getElem_cons jl]
                congr 1
                exact (List.getElem?_eq_some_iff.mp hb').2
            unfold atUp
            conv => lhs; rw [this]
            rw [List.filter_append, List.filter_cons_of_pos (by simpa using c)]
          unfold ordL
          conv => rhs; rw [er2]
          rw [List.flatMap_append, List.flatMap_cons, e1, ← hw']
          simp only [List.append_assoc, List.cons_append]
        obtain ⟨R, eR⟩ := epre
        obtain ⟨le1, le2⟩ := W.T.le m9 eR
        have le3 := le2 b R rfl
        generalize hf : PP.foldl stepW ones = f at *
        have le4 := le1 k
        refine ⟨_, rfl, _, rfl, t0, _, _, _, rfl, rfl, SqL.of ht4, told_at km, ?_⟩
        refine ⟨_, rfl, _, rfl, .ref p, t0, b, m, f, rfl, dx, ok, m9, ht4, le1, fun H5 s5 => ?_⟩
        refine ⟨_, _, rfl, rfl, .inl ⟨by omega, by omega⟩, ?_⟩
        refine ⟨_, rfl, _, rfl, t0, _, _, k, rfl, rfl, s5 _ _ ht4, ?_, ?_⟩
        · unfold ixN
          rw [List.length_map, List.length_map, List.length_range, if_pos (by omega), if_pos (by omega), Int.toNat_natCast]
        · have e2 : ((f k : Nat) : Int) * ((b.F f : Nat) : Int) = ((stepW f b k : Nat) : Int) := by
            rw [← c, stepW_eq, Int.natCast_mul]
          dsimp only
          rw [e2, set_told (f := f) (g := stepW f b) (fun j => by
            by_cases z : j = k
            · rw [if_pos z, z]
            · rw [if_neg z, stepW_ne (by rw [c]; exact z)]) km]
          refine ⟨_, rfl, Same.put (s4.trans s5) nt0 (s5 _ _ ht4), ?_⟩
          rw [upd_same]
          have e3 : atUp (L.take (j + 1)) k = atUp (L.take j) k ++ [b] := by
            rw [et]
            unfold atUp
            rw [List.filter_append, List.filter_cons_of_pos (by simpa using c)]
            rfl
          rw [e3, ← List.append_assoc, hw', List.foldl_append, hf]
          rfl
      · refine iteDN (fun z' => c (by injection z' with z'; omega)) ?_
        refine ⟨_, rfl, s4, ?_⟩
        have e3 : atUp (L.take (j + 1)) k = atUp (L.take j) k := by
          rw [et]
          unfold atUp
          rw [List.filter_append, List.filter_cons_of_neg (by simpa using c), List.filter_nil, List.append_nil]
        rw [e3]
        exact ht4
    · rintro σ H4 ⟨v3, rfl, s4, ht4⟩
      refine ⟨_, _, rfl, s4, ?_⟩
      rw [← lx, List.take_length] at ht4
      rw [ht4, List.take_add_one, er, Option.toList_some, List.flatMap_append, List.flatMap_cons, List.flatMap_nil, List.append_nil]
  · rintro σ H3 ⟨v2, v3, rfl, s3, ht3⟩
    refine ⟨_, rfl, q t0 _ s3 nt0 ?_⟩
    rw [ht3, List.take_of_length_le (by rw [List.length_reverse, List.length_range]; exact Nat.le_refl _)]
    rfl

end
section
variable {P : Program} {w : World} {K : PySem.W.Frag} {mg : Str → Option Value} {base : Heap} {a : Adr} {d : Fds}
theorem ok_law_cell (T : Txt K mg a d) : FnOk P w K mg base CX0 1 a.f_law_cell d.f_law_cell ["_law_script", "_law_k"] (spCellP K) := by
  refine T.K_law_cell.ok sc_law_cell (fun vs H Q E h => ?_) (fun cdv A outer s H vs Q E hr h => ?_)
  · obtain ⟨p, ns, k, rfl, _⟩ := h
    rfl
  obtain ⟨p, ns, k, rfl, hS, hl, k0, k1, q⟩ := h
  have el : (ns.map V.int).length = ns.length := List.length_map _
  have item : ∀ j : Int, 0 ≤ j → j < ns.length → ∃ v : Int, atI (ns.map V.int) j = some (.int v) := fun j j0 j1 => by
    obtain ⟨m, rfl⟩ : ∃ m : Nat, j = (m : Int) := ⟨j.toNat, by omega⟩
    have hj : m < ns.length := by omega
    refine ⟨ns[m], atI_nat ?_⟩
    rw [List.getElem?_map, List.getElem?_eq_getElem hj]
    rfl
  refine ⟨_, (pss_cons (ps_if (pt_cmpR op_lt (pv 1) (pe_callB (lenS (K := K)) rfl T.m_len PySem.boot_len (pa_cons (pv 0) pa_nil)) (nomark _)) (pss_one (ps_ret (pe_ix (ixL (K := K)) (pv 0) (pv 1) (fun _ _ => rfl)))) pss_nil)
      (pss_cons (ps_set (i := 2) sc_law_cell.nd rfl (Or.inl rfl) (pe_op op_add (pe_op op_mul (pv 1) pe_int) pe_int))
      (pss_cons (ps_if (pt_cmpR op_gt (pe_callB (lenS (K := K)) rfl T.m_len PySem.boot_len (pa_cons (pv 0) pa_nil)) pe_int (nomark _)) (pss_cons (ps_set (i := 3) sc_law_cell.nd rfl (Or.inl rfl) (pe_ix (ixL (K := K)) (pv 0) (pe_op op_mod (pe_op op_mul (pv 1) pe_int) (pe_callB (lenS (K := K)) rfl T.m_len PySem.boot_len (pa_cons (pv 0) pa_nil))) (fun _ _ => rfl)))
      (pss_one (ps_set (i := 2) sc_law_cell.nd rfl (Or.inl rfl) (pe_op op_mod (pe_op op_add (pe_op op_add (pe_op op_mul (pv 3) pe_int) (pe_op op_mul (pe_op op_mul (pv 1) (pv 1)) pe_int)) (pv 1)) pe_int)))) pss_nil)
      (pss_one (ps_ret (pe_op op_mod (pe_op op_mul (pv 2) (pv 2)) pe_int)))))), ?_⟩
  refine ⟨_, rfl, _, rfl, p, _, rfl, .inl hS, _, _, rfl, rfl, _, rfl, ?_⟩
  refine ite2 (fun c => ?_) (fun c => ?_)
  · have c' : k < ((ns.map V.int).length : Nat) := of_decide_eq_true c
    rw [el] at c'
    obtain ⟨v, hv⟩ := item k k0 c'
    exact ⟨_, rfl, _, rfl, p, _, _, _, rfl, rfl, hS, hv, q v⟩
  · refine ⟨_, rfl, _, _, rfl, rfl, .inr ⟨by decide, by decide⟩, _, _, rfl, rfl, ?_⟩
    refine ⟨_, rfl, p, _, rfl, .inl hS, _, _, rfl, rfl, _, rfl, ?_⟩
    refine ite2 (fun c2 => ?_) (fun c2 => ?_)
    · have c2' : (0 : Int) < ((ns.map V.int).length : Nat) := of_decide_eq_true c2
      rw [el] at c2'
      have m0 : 0 ≤ k * 7 % (ns.length : Int) := Int.emod_nonneg _ (by omega)
      have m1 : k * 7 % (ns.length : Int) < ns.length := Int.emod_lt_of_pos _ c2'
      obtain ⟨v, hv⟩ := item _ m0 m1
      refine ⟨_, rfl, _, rfl, _, _, rfl, rfl, .inr ⟨by decide, by decide⟩, _, rfl, p, _, rfl, .inl hS, _, _, rfl, rfl, (by rw [el]; exact c2'), p, _, _, _, rfl, rfl, hS, (by rw [el]; exact hv), ?_⟩
      refine ⟨_, rfl, _, _, rfl, rfl, .inr ⟨by decide, by decide⟩, _, rfl, _, rfl, _, _, rfl, rfl, (by unfold CMul; omega), _, _, rfl, rfl, .inr ⟨by decide, by decide⟩, _, _, rfl, rfl, _, rfl, _, _, rfl, rfl, _, _, rfl, rfl, (by show (0 : Int) < 2147483647; decide), ?_⟩
      have n0 : 0 ≤ (v * 48271 + k * k * 7919 + k) % 2147483647 := Int.emod_nonneg _ (by decide)
      have n1 : (v * 48271 + k * k * 7919 + k) % 2147483647 < 2147483647 := Int.emod_lt_of_pos _ (by decide)
      exact ⟨_, rfl, _, rfl, _, _, rfl, rfl, (by unfold CMul; omega), _, _, rfl, rfl, (by show (0 : Int) < 2147483629; decide), q _⟩
    · exact ⟨_, rfl, _, rfl, _, _, rfl, rfl, (by unfold CMul; omega), _, _, rfl, rfl, (by show (0 : Int) < 2147483629; decide), q _⟩

end
section
variable {P : Program} {w : World} {K : PySem.W.Frag} {mg : Str → Option Value} {base : Heap} {a : Adr} {d : Fds}
theorem ok_law_next (T : Txt K mg a d) : FnOk P w K mg base CX0 2 a.f_law_next d.f_law_next ["_law_pen", "_law_most"] (spNext K) := by
  have G_law_cell := ok_law_cell (P := P) (w := w) (base := base) T
  refine T.K_law_next.ok sc_law_next (fun vs H Q E h => ?_) (fun cdv A outer s H vs Q E hr h => ?_)
  · obtain ⟨pen, sp, ns, most, k, rfl, _⟩ := h
    rfl
  obtain ⟨pen, sp, ns, most, k, rfl, pn, k0, k1, m0, q⟩ := h
  have hp := pn.at_
  refine ⟨_, (pss_cons (ps_set (i := 2) sc_law_next.nd rfl (Or.inl rfl) (pe_op op_mod (pe_call G_law_cell (hr.mono (by first | decide | omega)) rfl T.g_law_cell T.K_law_cell.kp T.B_law_cell .nil pass0 (pa_cons (pe_ix (ixL (K := K)) (pv 0) pe_int (fun _ _ => rfl)) (pa_cons (pe_ix (ixL (K := K)) (pv 0) pe_int (fun _ _ => rfl)) pa_nil))) (pv 1)))
      (pss_cons (ps_asg (pe_op op_add (pe_ix (ixL (K := K)) (pv 0) pe_int (fun _ _ => rfl)) pe_int) (pg_sub (pv 0) pe_int set_list))
      (pss_one (ps_ret (pv 2))))), ?_⟩
  refine ⟨_, rfl, pen, _, _, _, rfl, rfl, SqL.of hp, at0, _, rfl, pen, _, _, _, rfl, rfl, SqL.of hp, at1, sp, ns, k, rfl, pn.scr H (SameX.refl _ _), pn.len, k0, k1, fun c => ?_⟩
  refine ⟨_, rfl, _, _, rfl, rfl, m0, ?_⟩
  refine ⟨_, rfl, pen, _, _, _, rfl, rfl, SqL.of hp, at1, _, _, rfl, rfl, _, rfl, pen, _, _, _, rfl, rfl, hp, rfl, ?_⟩
  exact ⟨_, rfl, q _ (Int.emod_nonneg _ (by omega)) (Int.emod_lt_of_pos _ m0)⟩

end
section
variable {P : Program} {w : World} {K : PySem.W.Frag} {mg : Str → Option Value} {base : Heap} {a : Adr} {d : Fds}
theorem ok_law_kids (T : Txt K mg a d) : FnOk P w K mg base CX0 3 a.f_law_kids d.f_law_kids ["_law_pen", "_law_many"] (spKidsP K) := by
  have G_law_next := ok_law_next (P := P) (w := w) (base := base) T
  refine T.K_law_kids.ok sc_law_kids (fun vs H Q E h => ?_) (fun cdv A outer s H vs Q E hr h => ?_)
  · obtain ⟨pen, sp, ns, m, k, rfl, _⟩ := h
    rfl
  obtain ⟨pen, sp, ns, m, k, rfl, pn, k0, k1, m1, m9, q⟩ := h
  have p62 : (2 : Int) ^ 62 = 4611686018427387904 := by decide
  refine ⟨_, (pss_cons (ps_set (i := 2) sc_law_kids.nd rfl (Or.inl rfl) (pe_lst pa_nil))
      (pss_cons (ps_for PassesOwn.never rfl (pi_range2 rfl T.m_range (pa_cons pe_int (pa_cons (pv 1) pa_nil))) (pg_name (i := 3) sc_law_kids.nd rfl (Or.inl rfl)) (pss_one (ps_if (PW.pt (pw_or (pt_cmpR op_eq (pe_callB (lenS (K := K)) rfl T.m_len PySem.boot_len (pa_cons (pv 2) pa_nil)) pe_int (nomark _)) (pw_or1 (pt_cmpR op_eq (pe_call G_law_next (hr.mono (by first | decide | omega)) rfl T.g_law_next T.K_law_next.kp T.B_law_next .nil pass0 (pa_cons (pv 0) (pa_cons pe_int pa_nil))) pe_int (nomark _))))) (pss_one (ps_expr (pe_bmK (K := K) PySem.F.plainAttrs_list PySem.F.slot_list_append PySem.F.type_list_append mt_append (pv 2) (pa_cons (pe_tup (pa_cons (pe_call G_law_next (hr.mono (by first | decide | omega)) rfl T.g_law_next T.K_law_next.kp T.B_law_next .nil pass0 (pa_cons (pv 0) (pa_cons (pv 3) pa_nil))) (pa_cons (pe_lst (pa_cons (pv 3) pa_nil)) pa_nil))) pa_nil)))) (pss_one (ps_expr (pe_bmK (K := K) PySem.F.plainAttrs_list PySem.F.slot_list_append PySem.F.type_list_append mt_append (pe_ix (ixT (K := K)) (pe_ix (ixL (K := K)) (pv 2) (pe_call G_law_next (hr.mono (by first | decide | omega)) rfl T.g_law_next T.K_law_next.kp T.B_law_next .nil pass0 (pa_cons (pv 0) (pa_cons (pe_callB (lenS (K := K)) rfl T.m_len PySem.boot_len (pa_cons (pv 2) pa_nil)) pa_nil))) (fun _ _ => rfl)) pe_int (fun _ _ => rfl)) (pa_cons (pv 3) pa_nil)))))))
      (pss_one (ps_ret (pv 2))))), ?_⟩
  refine ⟨small (by decide), fun g hg => ?_⟩
  have ngp : pen ≠ g := ne_of_none pn.at_ hg
  refine ⟨_, rfl, _, _, rfl, ⟨by rw [p62]; omega, by rw [p62]; omega, by rw [p62]; omega, by rw [p62]; omega⟩, ?_⟩
  refine for_range (lo := 1) (n := ((m : Int) - 1).toNat) (fun i σ H2 => ∃ (v3 : Option V) (gs : List Grp) (kk : Int), σ = [some (.ref pen), some (.int m), some (.ref g), v3] ∧ SameX pen H H2 ∧ H2 pen = some (.lst [.ref sp, .int kk]) ∧ k ≤ kk ∧ kk ≤ k + 2 * i ∧ GAt H H2 g gs ∧ GOk ((i : Int) + 1) gs)
    ⟨none, [], k, rfl, Same.x (same_new hg _), (same_new hg _) _ _ pn.at_, Int.le_refl _, by omega, ⟨upd_same, hg, (fun _ z => nomatch z), (fun _ z => nomatch z), List.nodup_nil⟩, ⟨(fun _ z => nomatch z), List.Perm.refl _⟩⟩ ?_ ?_
  · rintro i σ H2 hi ⟨v3, gs, kk, rfl, sx, hp2, kk0, kk1, GA, GK⟩
    have few := GK.few
    have i9 : (i : Int) < 9 := by omega
    have el : (gs.map fun x => V.ref x.t).length = gs.length := List.length_map _
    have e1 : 1 + (i : Int) = (i : Int) + 1 := by omega
    have e2 : ((i + 1 : Nat) : Int) + 1 = (i : Int) + 2 := by omega
    refine ⟨_, rfl, g, _, rfl, .inl (SqL.of GA.at_), rfl, _, rfl, ?_⟩
    rw [dec_cnt0, el]
    refine ite2 (fun c => ?h1) (fun c => ?h2)
    case' h1 => refine iteT ?_
    case' h1 => obtain ⟨k3, k30, k31, hp3⟩ : ∃ k3, k ≤ k3 ∧ k3 ≤ k + 2 * i + 1 ∧ H2 pen = some (.lst [.ref sp, .int k3]) := ⟨kk, kk0, by omega, hp2⟩
    case' h1 => have GA3 : GAt H H2 g gs := GA
    case' h1 => have sx3 : SameX pen H H2 := sx
    case' h1 => generalize H2 = H3 at hp3 GA3 sx3 ⊢
    case' h2 => refine ⟨_, rfl, pen, sp, ns, 3, kk, rfl, pn.to sx hp2, by omega, by omega, by decide, fun c2 c20 c21 => ?_⟩
    case' h2 => obtain ⟨k3, k30, k31, hp3⟩ : ∃ k3, k ≤ k3 ∧ k3 ≤ k + 2 * i + 1 ∧ L2.upd H2 pen (.lst [.ref sp, .int (kk + 1)]) pen = some (.lst [.ref sp, .int k3]) := ⟨kk + 1, by omega, by omega, upd_same⟩
    case' h2 => have GA3 : GAt H (L2.upd H2 pen (.lst [.ref sp, .int (kk + 1)])) g gs := GA.pen ⟨_, pn.at_⟩ hp2
    case' h2 => have sx3 : SameX pen H (L2.upd H2 pen (.lst [.ref sp, .int (kk + 1)])) := sx.trans (sameX_pen _)
    case' h2 => generalize L2.upd H2 pen (.lst [.ref sp, .int (kk + 1)]) = H3 at hp3 GA3 sx3 ⊢
    case' h2 => refine ⟨rfl, _, rfl, ?_⟩
    case' h2 => refine ite2 (fun c3 => ?h3) (fun c3 => ?h4)
    case h4 =>
      have glen : ¬ gs.length = 0 := fun z => c (decide_eq_true z)
      refine ⟨_, rfl, _, rfl, _, rfl, g, _, rfl, .inl (SqL.of GA3.at_), pen, sp, ns, _, k3, rfl, pn.to sx3 hp3, by omega, by omega, (by rw [el]; omega), fun j j0 j1 => ?_⟩
      rw [el] at j1
      obtain ⟨jn, rfl⟩ : ∃ jn : Nat, j = (jn : Int) := ⟨j.toNat, by omega⟩
      have GA4 := GA3.pen (ys := [.ref sp, .int (k3 + 1)]) ⟨_, pn.at_⟩ hp3
      have sx4 := sx3.trans (sameX_pen (H := H3) (.lst [.ref sp, .int (k3 + 1)]))
      have jl : jn < gs.length := by omega
      have hx : gs[jn] ∈ gs := List.getElem_mem jl
      have egs : gs = gs.take jn ++ gs[jn] :: gs.drop (jn + 1) := by
        rw [List.getElem_cons_drop, List.take_append_drop]
      generalize hxx : gs[jn] = x at *
      have ty := GA4.tup x hx
      have ly := GA4.lst x hx
      refine ⟨g, _, _, .ref x.t, rfl, rfl, SqL.of GA4.at_, atI_nat (by rw [List.getElem?_map, List.getElem?_eq_getElem jl, hxx]; rfl), x.t, _, _, _, rfl, rfl, sqT ty, at1, .inl ⟨rfl, _, SqL.of ly.1⟩, _, rfl, x.l, _, _, rfl, rfl, ly.1, ?_, ?_⟩
      · have h1 := GK.perm.length_eq
        rw [List.length_map, List.length_range', egs, List.flatMap_append, List.flatMap_cons, List.length_append, List.length_append] at h1
        rw [List.length_map]
        exact small1000 (by omega)
      have G5 : GAt H _ g _ := GAt.put (k := 1 + (i : Int)) (pre := gs.take jn) (post := gs.drop (jn + 1)) (x := x) (by rw [← egs]; exact GA4)
      refine ⟨_, _, k3 + 1, rfl, SameX.put sx4 ly.2.1 (fun z => by have := pn.at_; rw [← z, ly.2.1] at this; cases this) ly.1, ?_, by omega, by push_cast; omega, G5, ?_⟩
      · rw [upd_ne (fun z => by have := pn.at_; rw [z, ly.2.1] at this; cases this)]
        exact upd_same
      · rw [e2, e1]
        exact GOk.put (k := i) (by rw [← egs]; exact GK)
    all_goals
      refine ⟨_, rfl, .inl ⟨rfl, _, SqL.of GA3.at_⟩, _, rfl, _, rfl, pen, sp, ns, _, k3, rfl, pn.to sx3 hp3, by omega, by omega, by omega, fun u u0 u1 => ?_⟩
      have GA4 := GA3.pen (ys := [.ref sp, .int (k3 + 1)]) ⟨_, pn.at_⟩ hp3
      have sx4 := sx3.trans (sameX_pen (H := H3) (.lst [.ref sp, .int (k3 + 1)]))
      refine ⟨_, rfl, small (by show 1 ≤ 1000; decide), fun nl hnl => ?_⟩
      refine ⟨small (by show 2 ≤ 1000; decide), fun nt hnt => ?_⟩
      have s6 := (same_new hnl (.lst [.int (1 + (i : Int))])).trans (same_new hnt (.tup [.int u, .ref nl]))
      refine ⟨g, _, _, rfl, rfl, s6 _ _ GA4.at_, (by rw [el]; exact small1000 (by omega)), ?_⟩
      have G5 := GA4.add2 (u := u) (k := 1 + (i : Int)) (sx4.free ⟨_, upd_same⟩ hnl) hnl hnt
      refine ⟨_, gs ++ [⟨nt, u, nl, [1 + (i : Int)]⟩], k3 + 1, rfl, SameX.put (sx4.trans (Same.x s6)) hg (Ne.symm ngp) (s6 _ _ GA4.at_), ?_, by omega, by push_cast; omega, G5, ?_⟩
      · rw [upd_ne ngp]
        exact s6 _ _ upd_same
      · rw [e2, e1]
        exact GOk.new (k := i) GK u0 (by omega)
  · rintro σ H2 ⟨v3, gs, kk, rfl, sx, hp2, kk0, kk1, GA, GK⟩
    have em : (((m : Int) - 1).toNat : Int) + 1 = (m : Int) := by omega
    rw [em] at GK
    exact ⟨_, rfl, q g gs kk H2 sx hp2 kk0 (by omega) GA GK⟩

end
section
variable {P : Program} {w : World} {K : PySem.W.Frag} {mg : Str → Option Value} {base : Heap} {a : Adr} {d : Fds}
theorem ok_law_bough (T : Txt K mg a d) : FnOk P w K mg base CX0 3 a.f_law_bough d.f_law_bough ["_law_pen", "_law_up", "_law_kids_here"] (spBoughP K) := by
  have G_law_next := ok_law_next (P := P) (w := w) (base := base) T
  refine T.K_law_bough.ok sc_law_bough (fun vs H Q E h => ?_) (fun cdv A outer s H vs Q E hr h => ?_)
  · obtain ⟨pen, sp, ns, l, u, kids, m, k, rfl, _⟩ := h
    rfl
  obtain ⟨pen, sp, ns, l, u, kids, m, k, rfl, pn, k0, k1, hl, nl, kl, u0, kne, ris, q⟩ := h
  have el : (kids.map V.int).length = kids.length := List.length_map _
  have kp := List.length_pos_iff.mpr kne
  have rest5 : ∃ t, PSs (cxOf CX0 P w K mg base ["_law_pen", "_law_up", "_law_kids_here", "_law_size", "_law_low", "_law_high", "_law_way"] "_law_bough" (defScope s_law_bough) a.f_law_bough cdv A outer s H E).nox ((defBody s_law_bough).drop 5) t ∧ ∀ (v3 v6 : Option V) (lo hi k' : Int) (H1 : Hp), SameX pen H H1 → H1 pen = some (.lst [.ref sp, .int k']) → k ≤ k' → k' ≤ k + 3 → 0 ≤ lo → lo ≤ hi → 1 ≤ hi → hi ≤ kids.length →
      t { nx := fun _ H' => Q .non H', rt := Q } [some (.ref pen), some (.int u), some (.ref l), v3, some (.int lo), some (.int hi), v6] H1 := by
    refine ⟨_, (pss_one (ps_ret (pe_tup (pa_cons (pv 1) (pa_cons (pv 4) (pa_cons (pv 5) (pa_cons (pe_callTy call_tuple_of rfl T.m_tuple PyProof.Rows.boot_tuple (pa_cons (pv 2) pa_nil)) pa_nil))))))), ?_⟩
    intro v3 v6 lo hi k' H1 sx hp kk0 kk1 l0 l1 h1 h2
    have hl1 := sx _ _ nl hl
    refine ⟨_, rfl, _, rfl, _, rfl, _, rfl, l, _, rfl, .inl ⟨SqL.of hl1, fun tk htk => ?_⟩⟩
    refine ⟨small (by show 4 ≤ 1000; decide), fun tb htb => ?_⟩
    have s1 := (same_new htk (.tup (kids.map V.int))).trans (same_new htb (.tup [.int u, .int lo, .int hi, .ref tk]))
    refine q (bghD u lo hi kids) _ k' _ (sx.trans (Same.x s1)) (s1 _ _ hp) kk0 kk1 ?_ (bgh_ok u0 kne ris l0 l1 h1 h2) (bgh_flat _ _ _ _ (by omega)) (bgh_kids _ _ _ _)
    exact ⟨tb, _, rfl, upd_same, _, _, rfl, rfl, _, _, rfl, rfl, _, _, rfl, rfl, _, _, rfl, ⟨tk, _, rfl, (same_new htb _) _ _ upd_same, ints_dnl kids⟩, rfl⟩
  obtain ⟨t5, h5, r5⟩ := rest5
  refine ⟨_, (pss_cons (ps_set (i := 3) sc_law_bough.nd rfl (Or.inl rfl) (pe_callB (lenS (K := K)) rfl T.m_len PySem.boot_len (pa_cons (pv 2) pa_nil)))
      (pss_cons (ps_set (i := 4) sc_law_bough.nd rfl (Or.inl rfl) (pe_call G_law_next (hr.mono (by first | decide | omega)) rfl T.g_law_next T.K_law_next.kp T.B_law_next .nil pass0 (pa_cons (pv 0) (pa_cons (pe_op op_add (pv 3) pe_int) pa_nil))))
      (pss_cons (ps_set (i := 5) sc_law_bough.nd rfl (Or.inl rfl) (pe_callB (call_max2 rfl) rfl T.m_max PyProof.Rows.boot_max (pa_cons pe_int (pa_cons (pe_op op_add (pv 4) (pe_call G_law_next (hr.mono (by first | decide | omega)) rfl T.g_law_next T.K_law_next.kp T.B_law_next .nil pass0 (pa_cons (pv 0) (pa_cons (pe_op op_add (pe_op op_sub (pv 3) (pv 4)) pe_int) pa_nil)))) pa_nil))))
      (pss_cons (ps_set (i := 6) sc_law_bough.nd rfl (Or.inl rfl) (pe_call G_law_next (hr.mono (by first | decide | omega)) rfl T.g_law_next T.K_law_next.kp T.B_law_next .nil pass0 (pa_cons (pv 0) (pa_cons pe_int pa_nil))))
      (pss_cons (ps_if (pt_cmpR op_lt (pv 6) pe_int (nomark _)) (pss_one (ps_asg (pe_ix (ixL (K := K)) (pe_lst (pa_cons (pe_tup (pa_cons (pv 3) (pa_cons (pv 3) pa_nil))) (pa_cons (pe_tup (pa_cons pe_int (pa_cons (pv 3) pa_nil))) (pa_cons (pe_tup (pa_cons pe_int (pa_cons pe_int pa_nil))) (pa_cons (pe_tup (pa_cons pe_int (pa_cons pe_int pa_nil))) pa_nil))))) (pv 6) (fun _ _ => rfl)) (pgT (K := K) (n := 2) rfl (pgs_cons (pg_name (i := 4) sc_law_bough.nd rfl (Or.inl rfl)) (pgs_cons (pg_name (i := 5) sc_law_bough.nd rfl (Or.inl rfl)) pgs_nil))))) pss_nil)
      h5))))), ?_⟩
  refine ⟨_, rfl, l, _, rfl, .inl (SqL.of hl), ?_⟩
  rw [el]
  refine ⟨_, rfl, _, rfl, _, _, rfl, rfl, pen, sp, ns, _, k, rfl, pn, by omega, by omega, by omega, fun lo lo0 lo1 => ?_⟩
  have sx1 := sameX_pen (pen := pen) (H := H) (.lst [.ref sp, .int (k + 1)])
  refine ⟨_, rfl, _, rfl, _, rfl, _, rfl, _, _, rfl, rfl, _, _, rfl, rfl, pen, sp, ns, _, k + 1, rfl, pn.to sx1 upd_same, by omega, by omega, by omega, fun x x0 x1 => ?_⟩
  have sx2 := sx1.trans (sameX_pen (pen := pen) (.lst [.ref sp, .int (k + 1 + 1)]))
  refine ⟨_, _, rfl, rfl, _, _, rfl, ?_⟩
  refine ⟨_, rfl, pen, sp, ns, 6, k + 1 + 1, rfl, pn.to sx2 upd_same, by omega, by omega, by decide, fun y y0 y1 => ?_⟩
  have sx3 := sx2.trans (sameX_pen (pen := pen) (.lst [.ref sp, .int (k + 1 + 1 + 1)]))
  generalize hH3 : L2.upd (L2.upd (L2.upd H pen (.lst [.ref sp, .int (k + 1)])) pen (.lst [.ref sp, .int (k + 1 + 1)])) pen (.lst [.ref sp, .int (k + 1 + 1 + 1)]) = H3 at *
  have hp3 : H3 pen = some (.lst [.ref sp, .int (k + 1 + 1 + 1)]) := by rw [← hH3]; exact upd_same
  refine ⟨_, rfl, _, _, rfl, rfl, _, rfl, ?_⟩
  refine ite2 (fun c => ?_) (fun c => ?_)
  · have c' : y < 4 := of_decide_eq_true c
    refine ⟨_, rfl, _, rfl, small (by show 2 ≤ 1000; decide), fun t1 ht1 => ?_⟩
    refine ⟨_, rfl, small (by show 2 ≤ 1000; decide), fun t2 ht2 => ?_⟩
    refine ⟨small (by show 2 ≤ 1000; decide), fun t3 ht3 => ?_⟩
    refine ⟨small (by show 2 ≤ 1000; decide), fun t4 ht4 => ?_⟩
    refine ⟨small (by show 4 ≤ 1000; decide), fun tl htl => ?_⟩
    have s1 := same_new ht1 (.tup [.int (kids.length : Nat), .int (kids.length : Nat)])
    have s2 := same_new ht2 (.tup [.int 0, .int (kids.length : Nat)])
    have s3 := same_new ht3 (.tup [.int 1, .int 1])
    have s4 := same_new ht4 (.tup [.int 0, .int 1])
    have s5 := same_new htl (.lst [.ref t1, .ref t2, .ref t3, .ref t4])
    have sA := (((s1.trans s2).trans s3).trans s4).trans s5
    obtain ⟨tt, lo', hi', hat, ht, q1, q2, q3, q4⟩ : ∃ (tt : Addr) (lo' hi' : Int), atI [V.ref t1, V.ref t2, V.ref t3, V.ref t4] y = some (.ref tt) ∧ L2.upd (L2.upd (L2.upd (L2.upd (L2.upd H3 t1 (.tup [.int (kids.length : Nat), .int (kids.length : Nat)])) t2 (.tup [.int 0, .int (kids.length : Nat)])) t3 (.tup [.int 1, .int 1])) t4 (.tup [.int 0, .int 1])) tl (.lst [.ref t1, .ref t2, .ref t3, .ref t4]) tt = some (.tup [.int lo', .int hi']) ∧ 0 ≤ lo' ∧ lo' ≤ hi' ∧ 1 ≤ hi' ∧ hi' ≤ kids.length := by
      have e : y = 0 ∨ y = 1 ∨ y = 2 ∨ y = 3 := by omega
      rcases e with e | e | e | e <;> rw [e]
      · exact ⟨t1, _, _, rfl, s5 _ _ (s4 _ _ (s3 _ _ (s2 _ _ upd_same))), by omega, by omega, by omega, by omega⟩
      · exact ⟨t2, _, _, rfl, s5 _ _ (s4 _ _ (s3 _ _ upd_same)), by omega, by omega, by omega, by omega⟩
      · exact ⟨t3, _, _, rfl, s5 _ _ (s4 _ _ upd_same), by omega, by omega, by omega, by omega⟩
      · exact ⟨t4, _, _, rfl, s5 _ _ upd_same, by omega, by omega, by omega, by omega⟩
    refine ⟨_, rfl, tl, _, _, _, rfl, rfl, SqL.of upd_same, hat, ?_⟩
    refine ⟨tt, _, rfl, sqT ht, rfl, _, _, rfl, _, _, rfl, rfl, ?_⟩
    exact r5 _ _ lo' hi' (k + 1 + 1 + 1) _ (sx3.trans (Same.x sA)) (sA _ _ hp3) (by omega) (by omega) q1 q2 q3 q4
  · refine r5 _ _ lo _ (k + 1 + 1 + 1) _ sx3 hp3 (by omega) (by omega) lo0 ?_ ?_ ?_
    all_goals split <;> omega

end
section
variable {P : Program} {w : World} {K : PySem.W.Frag} {mg : Str → Option Value} {base : Heap} {a : Adr} {d : Fds}
theorem ok_law_cross (T : Txt K mg a d) : FnOk P w K mg base CX0 3 a.f_law_cross d.f_law_cross ["_law_pen", "_law_many"] (spCrossP K) := by
  have G_law_next := ok_law_next (P := P) (w := w) (base := base) T
  refine T.K_law_cross.ok sc_law_cross (fun vs H Q E h => ?_) (fun cdv A outer s H vs Q E hr h => ?_)
  · obtain ⟨pen, sp, ns, m, k, rfl, _⟩ := h
    rfl
  obtain ⟨pen, sp, ns, m, k, rfl, pn, k0, k1, m1, m9, q⟩ := h
  have p62 : (2 : Int) ^ 62 = 4611686018427387904 := by decide
  have rest3 : ∃ t, PSs (cxOf CX0 P w K mg base ["_law_pen", "_law_many", "_law_way", "_law_a", "_law_some", "_law_by", "_law_numbers", "_law_pairs", "_law_k", "_law_most"] "_law_cross" (defScope s_law_cross) a.f_law_cross cdv A outer s H E).nox ((defBody s_law_cross).drop 3) t ∧ ∀ (way : Int) (v3 : Option V) (H1 : Hp), SameX pen H H1 → H1 pen = some (.lst [.ref sp, .int (k + 1 + 1)]) →
      t { nx := fun _ H' => Q .non H', rt := Q } [some (.ref pen), some (.int m), some (.int way), v3, none, none, none, none, none, none] H1 := by
    obtain ⟨ct8, ch8, cu8⟩ := cutS (X := (cxOf CX0 P w K mg base ["_law_pen", "_law_many", "_law_way", "_law_a", "_law_some", "_law_by", "_law_numbers", "_law_pairs", "_law_k", "_law_most"] "_law_cross" (defScope s_law_cross) a.f_law_cross cdv A outer s H E).nox) (st := (defBody s_law_cross).drop 8) (pss_cons (ps_set (i := 9) sc_law_cross.nd rfl (Or.inl rfl) (pe_callB (call_sum_ints rfl) rfl T.m_sum PyProof.Rows.boot_sum (pa_cons (pe_lc (sc0 := defScope s_law_cross) (XN := ["_law_pen", "_law_many", "_law_way", "_law_a", "_law_some", "_law_by", "_law_numbers", "_law_pairs", "_law_k", "_law_most"]) (N' := ["_law_k", "_law_number"]) (n := 2) (kp := []) rfl (piL (K := K) (pv 7)) rfl rfl (by decide +kernel) (fun _ _ _ _ _ => (pgT (K := K) (n := 2) rfl (pgs_cons (pg_name (i := 0) (by show List.Nodup (["_law_k", "_law_number"] : List Str); decide +kernel) rfl (Or.inl rfl)) (pgs_cons (pg_name (i := 1) (by show List.Nodup (["_law_k", "_law_number"] : List Str); decide +kernel) rfl (Or.inl rfl)) pgs_nil)))) (fun _ _ _ _ _ => pts_nil) (fun _ _ _ _ _ => (pe_callB (call_max2 rfl) rfl T.m_max PyProof.Rows.boot_max (pa_cons pe_int (pa_cons (pv 1) pa_nil))))) pa_nil)))
      (pss_one (ps_ret (pe_tup (pa_cons pe_str (pa_cons (pe_op op_sub (pe_op op_mul (pe_op op_mod (pe_call G_law_next (hr.mono (by first | decide | omega)) rfl T.g_law_next T.K_law_next.kp T.B_law_next .nil pass0 (pa_cons (pv 0) (pa_cons (pe_op op_pow pe_int pe_int) pa_nil))) (pe_op op_add (pe_op op_fdivB (pv 9) (pv 5)) pe_int)) (pv 5)) (pe_op op_mul (pv 5) (pe_callTy call_int1 rfl T.m_int PyProof.Rows.boot_int (pa_cons (pe_cmpR op_eq (pv 2) pe_int (nomark _)) pa_nil)))) (pa_cons (pe_callTy call_tuple_of rfl T.m_tuple PyProof.Rows.boot_tuple (pa_cons (pv 7) pa_nil)) pa_nil)))))))
    obtain ⟨ct6, ch6, cu6⟩ := cutS (X := (cxOf CX0 P w K mg base ["_law_pen", "_law_many", "_law_way", "_law_a", "_law_some", "_law_by", "_law_numbers", "_law_pairs", "_law_k", "_law_most"] "_law_cross" (defScope s_law_cross) a.f_law_cross cdv A outer s H E).nox) (st := (defBody s_law_cross).drop 6) (pss_cons (ps_set (i := 7) sc_law_cross.nd rfl (Or.inl rfl) (pe_lst pa_nil))
      (pss_cons (ps_for PassesOwn.never rfl (pi_range1 rfl T.m_range (pa_cons (pv 1) pa_nil)) (pg_name (i := 8) sc_law_cross.nd rfl (Or.inl rfl)) (pss_cons (ps_if (pt_cmpR op_eq (pe_op op_and (pe_op op_shr (pv 4) (pv 8)) pe_int) pe_int (nomark _)) (pss_one (ps_expr (pe_bmK (K := K) PySem.F.plainAttrs_list PySem.F.slot_list_append PySem.F.type_list_append mt_append (pv 7) (pa_cons (pe_tup (pa_cons (pv 8) (pa_cons (pe_op op_mul (pe_op op_sub (pe_op op_mod (pv 6) pe_int) pe_int) (pv 5)) pa_nil))) pa_nil)))) pss_nil)
      (pss_one (ps_set (i := 6) sc_law_cross.nd rfl (Or.inl rfl) (pe_op op_add (pe_op op_fdiv (pv 6) pe_int) (pe_op op_mul pe_int (pv 8)))))))
      ch8))
    obtain ⟨ct4, ch4, cu4⟩ := cutS (X := (cxOf CX0 P w K mg base ["_law_pen", "_law_many", "_law_way", "_law_a", "_law_some", "_law_by", "_law_numbers", "_law_pairs", "_law_k", "_law_most"] "_law_cross" (defScope s_law_cross) a.f_law_cross cdv A outer s H E).nox) (st := (defBody s_law_cross).drop 4) (pss_cons (ps_set (i := 5) sc_law_cross.nd rfl (Or.inl rfl) (pe_ix (ixL (K := K)) (pe_lst (pa_cons pe_int (pa_cons pe_int (pa_cons pe_int (pa_cons (pe_op op_pow pe_int pe_int) pa_nil))))) (pe_call G_law_next (hr.mono (by first | decide | omega)) rfl T.g_law_next T.K_law_next.kp T.B_law_next .nil pass0 (pa_cons (pv 0) (pa_cons pe_int pa_nil))) (fun _ _ => rfl)))
      (pss_cons (ps_set (i := 6) sc_law_cross.nd rfl (Or.inl rfl) (pe_call G_law_next (hr.mono (by first | decide | omega)) rfl T.g_law_next T.K_law_next.kp T.B_law_next .nil pass0 (pa_cons (pv 0) (pa_cons (pe_op op_pow pe_int pe_int) pa_nil))))
      ch6))
    refine ⟨_, (pss_cons (ps_set (i := 4) sc_law_cross.nd rfl (Or.inl rfl) (pe_op op_add pe_int (pe_call G_law_next (hr.mono (by first | decide | omega)) rfl T.g_law_next T.K_law_next.kp T.B_law_next .nil pass0 (pa_cons (pv 0) (pa_cons (pe_op op_sub (pe_op op_shl pe_int (pv 1)) pe_int) pa_nil)))))
      ch4), ?_⟩
    intro way v3 H1 sx hp
    have pm := pow_pos2 m
    have pm2 : 2 ≤ 2 ^ m := Nat.le_trans (by decide) (Nat.pow_le_pow_right (by decide) m1)
    have e1 : 1 * (2 : Int) ^ ((m : Nat) : Int).toNat - 1 = ((2 ^ m - 1 : Nat) : Int) := by
      rw [shl1]
      omega
    refine ⟨_, rfl, _, rfl, _, _, rfl, rfl, ⟨by omega, by omega, by decide⟩, _, _, rfl, rfl, pen, sp, ns, _, k + 1 + 1, rfl, pn.to sx hp, by omega, by omega, (by rw [e1]; omega), fun x x0 x1 => ?_⟩
    rw [e1] at x1
    refine ⟨_, _, rfl, rfl, ?_⟩
    obtain ⟨S, eS⟩ : ∃ S : Nat, 1 + x = (S : Int) := ⟨(1 + x).toNat, by omega⟩
    dsimp only
    rw [eS]
    have s0 : 0 < S := by omega
    have s1 : S < 2 ^ m := by omega
    have sx2 := sx.trans (sameX_pen (pen := pen) (.lst [.ref sp, .int (k + 1 + 1 + 1)]))
    refine cu4 _ _ _ ?_
    refine ⟨_, _, rfl, rfl, ⟨by decide, by decide, by decide⟩, small (by show 4 ≤ 1000; decide), fun bl hbl => ?_⟩
    have sn := same_new hbl (.lst [.int 1, .int 1, .int 1, .int (10 ^ (50 : Int).toNat)])
    have sx3 := sx2.trans (Same.x sn)
    refine ⟨_, rfl, pen, sp, ns, 4, k + 1 + 1 + 1, rfl, pn.to sx3 (sn _ _ upd_same), by omega, by omega, by decide, fun y y0 y1 => ?_⟩
    have sx4 := sx3.trans (sameX_pen (pen := pen) (.lst [.ref sp, .int (k + 1 + 1 + 1 + 1)]))
    have nbp : bl ≠ pen := fun z => by rw [z, upd_same] at hbl; cases hbl
    obtain ⟨by', hat, b0, bl2⟩ : ∃ by' : Int, atI [V.int 1, V.int 1, V.int 1, V.int (10 ^ (50 : Int).toNat)] y = some (.int by') ∧ 0 < by' ∧ by'.natAbs.log2 < 9000 := by
      have e : y = 0 ∨ y = 1 ∨ y = 2 ∨ y = 3 := by omega
      rcases e with e | e | e | e <;> rw [e]
      · exact ⟨_, rfl, by decide, by decide +kernel⟩
      · exact ⟨_, rfl, by decide, by decide +kernel⟩
      · exact ⟨_, rfl, by decide, by decide +kernel⟩
      · exact ⟨_, rfl, by decide +kernel, by decide +kernel⟩
    refine ⟨bl, _, _, _, rfl, rfl, SqL.of (by rw [upd_ne nbp]; exact upd_same), hat, ?_⟩
    refine ⟨_, rfl, _, _, rfl, rfl, ⟨by decide, by decide, by decide⟩, pen, sp, ns, _, k + 1 + 1 + 1 + 1, rfl, pn.to sx4 upd_same, by omega, by omega, by decide, fun z z0 z1 => ?_⟩
    have sx5 := sx4.trans (sameX_pen (pen := pen) (.lst [.ref sp, .int (k + 1 + 1 + 1 + 1 + 1)]))
    generalize hH5 : L2.upd (L2.upd (L2.upd (L2.upd H1 pen (.lst [.ref sp, .int (k + 1 + 1 + 1)])) bl (.lst [.int 1, .int 1, .int 1, .int (10 ^ (50 : Int).toNat)])) pen (.lst [.ref sp, .int (k + 1 + 1 + 1 + 1)])) pen (.lst [.ref sp, .int (k + 1 + 1 + 1 + 1 + 1)]) = H5 at *
    have hp5 : H5 pen = some (.lst [.ref sp, .int (k + 1 + 1 + 1 + 1 + 1)]) := by rw [← hH5]; exact upd_same
    refine cu6 _ _ _ ?_
    refine ⟨small (by decide), fun pl hpl => ?_⟩
    have npp : pen ≠ pl := ne_of_none hp5 hpl
    have hplH : H pl = none := sx5.free ⟨_, hp5⟩ hpl
    refine ⟨_, rfl, _, rfl, by rw [p62]; omega, by rw [p62]; omega, ?_⟩
    rw [Int.toNat_natCast]
    refine for_range0 (n := m) (fun i σ H6 => ∃ (nn : Int) (v8 v9 : Option V) (ps : List PyData) (xs : List V), σ = [some (.ref pen), some (.int m), some (.int way), v3, some (.int (S : Int)), some (.int by'), some (.int nn), some (.ref pl), v8, v9] ∧ Same H5 H6 ∧ H6 pl = some (.lst xs) ∧ PairsTo H6 i ps xs ∧ i ≤ m ∧ ((∃ j, j < i ∧ S.testBit j = true) → 0 < ps.length))
      ⟨z, none, none, [], [], rfl, same_new hpl _, upd_same, ⟨rfl, rfl, rfl, rfl, Nat.le_refl _⟩, Nat.zero_le _, fun ⟨j, hj, _⟩ => absurd hj (Nat.not_lt_zero j)⟩ ?_ ?_
    · rintro i σ H6 hi ⟨nn, v8, v9, ps, xs, rfl, s6, hp6, pt, hile, hne⟩
      have few := pt.few
      have lx := pt.dn.length
      refine ⟨_, rfl, _, rfl, _, _, rfl, rfl, by omega, _, _, rfl, rfl, rfl, _, rfl, ?_⟩
      rw [dec_shr1]
      refine ite2 (fun b => ?_) (fun b => ?_)
      · have n0 : 0 ≤ nn % 8 := Int.emod_nonneg _ (by decide)
        have n1 : nn % 8 < 8 := Int.emod_lt_of_pos _ (by decide)
        refine ⟨_, rfl, .inl ⟨rfl, _, SqL.of hp6⟩, _, rfl, _, rfl, _, _, rfl, rfl, (by show (0 : Int) < 8; decide), _, _, rfl, rfl, _, rfl, _, _, rfl, rfl, .inl ⟨by omega, by omega⟩, small (by show 2 ≤ 1000; decide), fun tp htp => ?_⟩
        have s7 := same_new htp (.tup [.int (i : Int), .int ((nn % 8 - 2) * by')])
        have hp7 := s7 _ _ hp6
        refine ⟨pl, _, _, rfl, rfl, hp7, small1000 (by omega), ?_⟩
        refine ⟨_, rfl, _, _, rfl, rfl, ⟨by decide, by decide⟩, _, rfl, _, _, rfl, rfl, .inl ⟨by decide, by decide⟩, _, _, rfl, rfl, ?_⟩
        have pd7 := DnL.same s7 _ _ pt.dn
        refine ⟨_, _, _, ps ++ [.tuple [.int (i : Int), .int ((nn % 8 - 2) * by')]], xs ++ [.ref tp], rfl, Same.put (s6.trans s7) hpl hp7, upd_same, ⟨?_, ?_, ?_, ?_, ?_⟩, hi, fun _ => ?_⟩
        · refine DnL.append (DnL.keepT (Dn.keepT (keep_lst hp7) 1) _ _ pt.flat pd7) ⟨_, [], rfl, ⟨tp, _, rfl, keep_lst hp7 _ _ upd_same, _, _, rfl, rfl, _, _, rfl, rfl, rfl⟩, rfl⟩
        · rw [List.all_append, pt.ok]
          rfl
        · rw [List.all_append, pt.flat]
          rfl
        · rw [List.map_append]
          show rising ((i + 1 : Nat) : Int) (ps.map fstD ++ [.int (i : Int)]) (-1) = true
          exact rising_snoc (by omega) pt.ris (by omega)
        · rw [List.length_append, List.length_singleton]
          omega
        · rw [List.length_append, List.length_singleton]
          omega
      · refine ⟨_, rfl, _, _, rfl, rfl, ⟨by decide, by decide⟩, _, rfl, _, _, rfl, rfl, .inl ⟨by decide, by decide⟩, _, _, rfl, rfl, ?_⟩
        refine ⟨_, _, _, ps, xs, rfl, s6, hp6, ⟨pt.dn, pt.ok, pt.flat, rising_mono (by omega) pt.ris, by omega⟩, hi, fun ⟨j, hj, hb⟩ => ?_⟩
        by_cases ej : j = i
        · subst ej
          exact absurd hb b
        · exact hne ⟨j, by omega, hb⟩
    · rintro σ H6 ⟨nn, v8, v9, ps, xs, rfl, s6, hp6, pt, hile, hne⟩
      refine cu8 _ _ _ ?_
      have few := pt.few
      have lx := pt.dn.length
      have p0 : 0 < ps.length := by
        refine hne ?_
        obtain ⟨j, hj⟩ := Nat.exists_testBit_of_ne_zero (show S ≠ 0 by omega)
        exact ⟨j, bit_lt s1 hj, hj⟩
      refine ⟨_, rfl, pl, rfl, ⟨_, SqL.of hp6⟩, ?_⟩
      refine lc_list (K := K) (a := pl) (xs := xs) (fun i ys σ H7 => (∃ v v', σ = [v, v']) ∧ H7 = H6 ∧ ∃ nl : List Int, ys = nl.map V.int ∧ 0 ≤ nl.sum ∧ nl.length = i) ⟨⟨none, none, rfl⟩, rfl, [], rfl, Int.le_refl _, rfl⟩ (fun i ys σ H7 hi pv => ?_) (fun i ys σ H7 hi pv => ?_) (fun i x ys σ H7 hx pv => ?_) (fun ys σ H7 pv l hl => ?_)
      · obtain ⟨_, _, nl, rfl, _, h1⟩ := pv
        rw [List.length_map]
        exact small (by omega)
      · rw [pv.2.1]
        exact SqL.of hp6
      · obtain ⟨⟨v, v', rfl⟩, rfl, nl, rfl, h0, h1⟩ := pv
        obtain ⟨dd, hdd, hx'⟩ := pt.dn.get hx
        have pk := (List.all_eq_true.mp pt.ok) dd (List.mem_of_getElem? hdd)
        obtain ⟨r, xa, nb, rfl, hr'⟩ : ∃ (r : Addr) (xa : V) (nb : Int), x = .ref r ∧ H7 r = some (.tup [xa, .int nb]) := by
          unfold pairOk at pk
          split at pk
          next dx dy =>
            obtain ⟨iy, rfl⟩ := isW_int pk
            obtain ⟨r, ys, rfl, hr2, xa, r1, rfl, ha, xb, r2, rfl, hb, hnil⟩ := dn_tup hx'
            cases (show r2 = [] from hnil)
            cases dn_int hb
            exact ⟨r, xa, iy, rfl, hr2⟩
          next => cases pk
        refine ⟨r, _, rfl, sqT hr', rfl, _, _, rfl, _, _, rfl, rfl, ?_⟩
        refine ⟨_, rfl, _, _, rfl, ⟨_, _, rfl⟩, rfl, nl ++ [if nb > 0 then nb else 0], ?_, ?_, ?_⟩
        · rw [List.map_append]
          rfl
        · rw [List.sum_append]
          have : 0 ≤ (if nb > 0 then nb else 0) := by split <;> omega
          simp only [List.sum_cons, List.sum_nil]
          omega
        · rw [List.length_append, List.length_singleton, h1]
      · obtain ⟨_, rfl, nl, rfl, h0, _⟩ := pv
        have s7 := same_new hl (.lst (nl.map V.int))
        have hp7 : L2.upd H7 l (.lst (nl.map V.int)) pen = some (.lst [.ref sp, .int (k + 1 + 1 + 1 + 1 + 1)]) := s7 _ _ (s6 _ _ hp5)
        have sx7 := sx5.trans (Same.x (s6.trans s7))
        refine ⟨l, nl, rfl, SqL.of upd_same, ?_⟩
        have d0 : 0 ≤ nl.sum / by' := Int.ediv_nonneg h0 (by omega)
        refine ⟨_, rfl, _, _, rfl, rfl, ⟨by decide, by decide, by decide⟩, pen, sp, ns, _, k + 1 + 1 + 1 + 1 + 1, rfl, pn.to sx7 hp7, by omega, by omega, by decide, fun xx xx0 xx1 => ?_⟩
        have sx8 := sx7.trans (sameX_pen (pen := pen) (.lst [.ref sp, .int (k + 1 + 1 + 1 + 1 + 1 + 1)]))
        have xx2 : xx < 1000000 := xx1
        have r0 : 0 ≤ xx % (nl.sum / by' + 2) := Int.emod_nonneg _ (by omega)
        have r1 : xx % (nl.sum / by' + 2) ≤ xx := emod_le' xx0 (by omega)
        refine ⟨_, rfl, _, rfl, _, _, rfl, rfl, ⟨b0, bl2⟩, _, _, rfl, rfl, _, _, rfl, rfl, (by show (0 : Int) < nl.sum / by' + 2; omega), _, rfl, _, _, rfl, rfl, .inl ⟨by omega, by omega⟩, ?_⟩
        refine ⟨_, rfl, _, rfl, rfl, .inr ⟨_, rfl, ?_⟩⟩
        refine ⟨_, _, rfl, rfl, .inr ⟨by split <;> decide, by split <;> decide⟩, _, _, rfl, rfl, ?_⟩
        have hpl8 : L2.upd (L2.upd H7 l (.lst (nl.map V.int))) pen (.lst [.ref sp, .int (k + 1 + 1 + 1 + 1 + 1 + 1)]) pl = some (.lst xs) := by
          rw [upd_ne (Ne.symm npp)]
          exact s7 _ _ hp6
        refine ⟨_, rfl, pl, _, rfl, .inl ⟨SqL.of hpl8, fun tk htk => ?_⟩⟩
        dsimp only
        refine ⟨small (by show 3 ≤ 1000; decide), fun tt htt => ?_⟩
        generalize hv : xx % (nl.sum / by' + 2) * by' - by' * (if decide (V.int way = V.int 3) = true then 1 else 0) = top at *
        have s9 := (same_new htk (.tup xs)).trans (same_new htt (.tup [.str ("most" : Str), .int top, .ref tk]))
        have tS : TupS H7 (L2.upd (L2.upd (L2.upd (L2.upd H7 l (.lst (nl.map V.int))) pen (.lst [.ref sp, .int (k + 1 + 1 + 1 + 1 + 1 + 1)])) tk (.tup xs)) tt (.tup [.str ("most" : Str), .int top, .ref tk])) := fun b zs hb => s9 b (.tup zs) (by rw [upd_ne (ne_of (s7 _ _ hb) hp7 (by intro q; cases q))]; exact s7 _ _ hb)
        refine q (.tuple [.str ("most" : Str), .int top, .tuple ps]) _ (k + 1 + 1 + 1 + 1 + 1 + 1) _ (sx8.trans (Same.x s9)) (s9 _ _ upd_same) (by omega) (by omega) ⟨tt, _, rfl, upd_same, _, _, rfl, rfl, _, _, rfl, rfl, _, _, rfl, ⟨tk, _, rfl, (same_new htt _) _ _ upd_same, DnL.tupS tS pt.flat pt.dn⟩, rfl⟩ ?_ ?_
        · show tieK m ("most" : Str) (.int top) (.tuple ps) = true
          unfold tieK
          rw [if_pos rfl]
          show (true && (decide (0 < ps.length) && ps.all pairOk && rising m (ps.map fstD) (-1))) = true
          rw [decide_eq_true p0, pt.ok, pt.ris]
          rfl
        · have f2 : flatD 2 (.tuple ps) = true := by
            show (decide (ps.length ≤ 1000) && ps.all (flatD 1)) = true
            rw [decide_eq_true (by omega), pt.flat]
            rfl
          show (true && (flatD 2 (.str ("most" : Str)) && (flatD 2 (.int top) && (flatD 2 (.tuple ps) && true)))) = true
          rw [show flatD 2 (.str ("most" : Str)) = true from strOk_most, f2]
          rfl
  obtain ⟨t3, h3, r3⟩ := rest3
  refine ⟨_, (pss_cons (ps_set (i := 2) sc_law_cross.nd rfl (Or.inl rfl) (pe_call G_law_next (hr.mono (by first | decide | omega)) rfl T.g_law_next T.K_law_next.kp T.B_law_next .nil pass0 (pa_cons (pv 0) (pa_cons pe_int pa_nil))))
      (pss_cons (ps_set (i := 3) sc_law_cross.nd rfl (Or.inl rfl) (pe_call G_law_next (hr.mono (by first | decide | omega)) rfl T.g_law_next T.K_law_next.kp T.B_law_next .nil pass0 (pa_cons (pv 0) (pa_cons (pv 1) pa_nil))))
      (pss_cons (ps_if (PW.pt (pw_and (pt_cmpR op_lt (pv 2) pe_int (nomark _)) (pw_and1 (pt_cmpR op_gt (pv 1) pe_int (nomark _))))) (pss_one (ps_ret (pe_tup (pa_cons (pe_ix (ixL (K := K)) (pe_lst (pa_cons pe_str (pa_cons pe_str pa_nil))) (pv 2) (fun _ _ => rfl)) (pa_cons (pv 3) (pa_cons (pe_op op_mod (pe_op op_add (pe_op op_add (pv 3) pe_int) (pe_call G_law_next (hr.mono (by first | decide | omega)) rfl T.g_law_next T.K_law_next.kp T.B_law_next .nil pass0 (pa_cons (pv 0) (pa_cons (pe_op op_sub (pv 1) pe_int) pa_nil)))) (pv 1)) pa_nil)))))) pss_nil)
      h3))), ?_⟩
  refine ⟨_, rfl, pen, sp, ns, 4, k, rfl, pn, by omega, by omega, by decide, fun way w0 w1 => ?_⟩
  have sx1 := sameX_pen (pen := pen) (H := H) (.lst [.ref sp, .int (k + 1)])
  refine ⟨_, rfl, _, rfl, pen, sp, ns, _, k + 1, rfl, pn.to sx1 upd_same, by omega, by omega, by omega, fun one o0 o1 => ?_⟩
  have sx2 := sx1.trans (sameX_pen (pen := pen) (.lst [.ref sp, .int (k + 1 + 1)]))
  refine ⟨_, rfl, _, _, rfl, rfl, _, rfl, ?_⟩
  refine ite2 (fun c => ?_) (fun c => ?_)
  · refine ⟨_, rfl, _, _, rfl, rfl, _, rfl, ?_⟩
    refine ite2 (fun m2 => ?_) (fun m2 => ?_)
    · have c' : way < 2 := of_decide_eq_true c
      have m2' : (1 : Int) < m := of_decide_eq_true m2
      refine ⟨small (by show 2 ≤ 1000; decide), fun lp hlp => ?_⟩
      have sn := same_new hlp (.lst [.str ("needs" : Str), .str ("bans" : Str)])
      have item : ∃ sN : Str, (sN = ("needs" : Str) ∨ sN = ("bans" : Str)) ∧ ¬ sN = ("most" : Str) ∧ PyData.strOk sN = true ∧ atI ([.str ("needs" : Str), .str ("bans" : Str)] : List V) way = some (.str sN) := by
        have e : way = 0 ∨ way = 1 := by omega
        rcases e with e | e <;> rw [e]
        · exact ⟨_, .inl rfl, by decide +kernel, strOk_needs, rfl⟩
        · exact ⟨_, .inr rfl, by decide +kernel, strOk_bans, rfl⟩
      obtain ⟨sN, sk, snm, sok, hat⟩ := item
      have sx3 := sx2.trans (Same.x sn)
      refine ⟨_, rfl, lp, _, _, _, rfl, rfl, SqL.of upd_same, hat, _, rfl, _, rfl, _, _, rfl, rfl, _, rfl, _, rfl, _, _, rfl, rfl, pen, sp, ns, _, k + 1 + 1, rfl, pn.to sx3 (sn _ _ upd_same), by omega, by omega, by omega, fun x x0 x1 => ?_⟩
      have sx4 := sx3.trans (sameX_pen (pen := pen) (.lst [.ref sp, .int (k + 1 + 1 + 1)]))
      refine ⟨_, _, rfl, rfl, _, rfl, _, _, rfl, rfl, (by show (0 : Int) < m; omega), small (by show 3 ≤ 1000; decide), fun tp htp => ?_⟩
      obtain ⟨n0, n1, n2⟩ := mod_near (many := m) m2' (by omega) o0 o1 x0 x1
      have st := same_new htp (.tup [.str sN, .int one, .int ((one + 1 + x) % (m : Int))])
      refine q (.tuple [.str sN, .int one, .int ((one + 1 + x) % (m : Int))]) _ (k + 1 + 1 + 1) _ (sx4.trans (Same.x st)) (st _ _ upd_same) (by omega) (by omega) ⟨tp, _, rfl, upd_same, _, _, rfl, rfl, _, _, rfl, rfl, _, _, rfl, rfl, rfl⟩ ?_ ?_
      · show tieK m sN _ _ = true
        unfold tieK
        rw [if_neg snm, if_pos sk]
        show ((decide ((0 : Int) ≤ _) && decide (_ ≤ (m : Int) - 1)) && ((decide ((0 : Int) ≤ _) && decide (_ ≤ (m : Int) - 1)) && !decide (_ = _))) = true
        rw [decide_eq_true o0, decide_eq_true (by omega), decide_eq_true n0, decide_eq_true (by omega), decide_eq_false n2]
        rfl
      · show (true && (flatD 2 (.str sN) && (true && (true && true)))) = true
        rw [show flatD 2 (.str sN) = true from sok]
        rfl
    · exact r3 _ _ _ sx2 upd_same
  · refine iteF ?_
    exact r3 _ _ _ sx2 upd_same

end
section
variable {P : Program} {w : World} {K : PySem.W.Frag} {mg : Str → Option Value} {base : Heap} {a : Adr} {d : Fds}
theorem ok_law_wood (T : Txt K mg a d) : FnOk P w K mg base CX0 4 a.f_law_wood d.f_law_wood ["_law_pen", "_law_many", "_law_most"] (spWoodP K) := by
  have G_law_next := ok_law_next (P := P) (w := w) (base := base) T
  have G_law_kids := ok_law_kids (P := P) (w := w) (base := base) T
  have G_law_bough := ok_law_bough (P := P) (w := w) (base := base) T
  have G_law_cross := ok_law_cross (P := P) (w := w) (base := base) T
  refine T.K_law_wood.ok sc_law_wood (fun vs H Q E h => ?_) (fun cdv A outer s H vs Q E hr h => ?_)
  · obtain ⟨pen, sp, ns, m, most, k, rfl, _⟩ := h
    rfl
  obtain ⟨pen, sp, ns, m, most, k, rfl, pn, k0, k1, m1, m9, mo0, mo1, q⟩ := h
  have p62 : (2 : Int) ^ 62 = 4611686018427387904 := by decide
  obtain ⟨ct4, ch4, cu4⟩ := cutS (X := (cxOf CX0 P w K mg base ["_law_pen", "_law_many", "_law_most", "_law_rows", "_law_boughs", "_law_turn", "_law_cross_here"] "_law_wood" (defScope s_law_wood) a.f_law_wood cdv A outer s H E).nox) (st := (defBody s_law_wood).drop 4) (pss_one (ps_ret (pe_tup (pa_cons (pv 1) (pa_cons (pe_callTy call_tuple_of rfl T.m_tuple PyProof.Rows.boot_tuple (pa_cons (pe_op op_cat (pe_slice sl_list (pv 4) (po_some (pv 5)) po_none) (pe_slice sl_list (pv 4) po_none (po_some (pv 5)))) pa_nil)) (pa_cons (pe_callTy call_tuple_of rfl T.m_tuple PyProof.Rows.boot_tuple (pa_cons (pv 6) pa_nil)) pa_nil))))))
  obtain ⟨ct2, ch2, cu2⟩ := cutS (X := (cxOf CX0 P w K mg base ["_law_pen", "_law_many", "_law_most", "_law_rows", "_law_boughs", "_law_turn", "_law_cross_here"] "_law_wood" (defScope s_law_wood) a.f_law_wood cdv A outer s H E).nox) (st := (defBody s_law_wood).drop 2) (pss_cons (ps_set (i := 5) sc_law_wood.nd rfl (Or.inl rfl) (pe_call G_law_next (hr.mono (by first | decide | omega)) rfl T.g_law_next T.K_law_next.kp T.B_law_next .nil pass0 (pa_cons (pv 0) (pa_cons (pe_op op_add (pe_callB (lenS (K := K)) rfl T.m_len PySem.boot_len (pa_cons (pv 4) pa_nil)) pe_int) pa_nil))))
      (pss_cons (ps_setLc (i := 6) sc_law_wood.nd rfl rfl rfl (sc0 := defScope s_law_wood) (XN := ["_law_pen", "_law_many", "_law_most", "_law_rows", "_law_boughs", "_law_turn", "_law_cross_here"]) (N' := ["_law_k", "_law_pen", "_law_many"]) (n := 1) (kp := [0, 1]) rfl (pi_range1 rfl T.m_range (pa_cons (pe_call G_law_next (hr.mono (by first | decide | omega)) rfl T.g_law_next T.K_law_next.kp T.B_law_next .nil pass0 (pa_cons (pv 0) (pa_cons (pe_op op_add (pv 2) pe_int) pa_nil))) pa_nil)) rfl rfl (by decide +kernel) (fun _ _ _ _ _ => (pg_name (i := 0) (by show List.Nodup (["_law_k", "_law_pen", "_law_many"] : List Str); decide +kernel) rfl (Or.inl rfl))) (fun _ _ _ _ _ => pts_nil) (fun _ _ _ _ _ => (pe_call G_law_cross (hr.mono (by first | decide | omega)) rfl T.g_law_cross T.K_law_cross.kp T.B_law_cross .nil pass0 (pa_cons (pv 1) (pa_cons (pv 2) pa_nil)))))
      ch4))
  refine ⟨_, (pss_cons (ps_set (i := 3) sc_law_wood.nd rfl (Or.inl rfl) (pe_call G_law_kids (hr.mono (by first | decide | omega)) rfl T.g_law_kids T.K_law_kids.kp T.B_law_kids .nil pass0 (pa_cons (pv 0) (pa_cons (pv 1) pa_nil))))
      (pss_cons (ps_setLc (i := 4) sc_law_wood.nd rfl rfl rfl (sc0 := defScope s_law_wood) (XN := ["_law_pen", "_law_many", "_law_most", "_law_rows", "_law_boughs", "_law_turn", "_law_cross_here"]) (N' := ["_law_up", "_law_kids_here", "_law_pen"]) (n := 2) (kp := [0]) rfl (piL (K := K) (pv 3)) rfl rfl (by decide +kernel) (fun _ _ _ _ _ => (pgT (K := K) (n := 2) rfl (pgs_cons (pg_name (i := 0) (by show List.Nodup (["_law_up", "_law_kids_here", "_law_pen"] : List Str); decide +kernel) rfl (Or.inl rfl)) (pgs_cons (pg_name (i := 1) (by show List.Nodup (["_law_up", "_law_kids_here", "_law_pen"] : List Str); decide +kernel) rfl (Or.inl rfl)) pgs_nil)))) (fun _ _ _ _ _ => pts_nil) (fun _ _ _ _ _ => (pe_call G_law_bough (hr.mono (by first | decide | omega)) rfl T.g_law_bough T.K_law_bough.kp T.B_law_bough .nil pass0 (pa_cons (pv 2) (pa_cons (pv 0) (pa_cons (pv 1) pa_nil))))))
      ch2)), ?_⟩
  refine ⟨_, rfl, _, rfl, pen, sp, ns, m, k, rfl, pn, k0, by omega, m1, m9, fun g gs ka H1 sx1 hp1 ka0 ka1 GA GK => ?_⟩
  have ngp : g ≠ pen := fun z => by have := pn.at_; rw [← z, GA.new] at this; cases this
  have few := GK.few
  have pk := GK.perm.length_eq
  rw [List.length_map, List.length_range'] at pk
  refine ⟨_, rfl, g, rfl, ⟨_, SqL.of GA.at_⟩, ?_⟩
  refine lc_list (K := K) (a := g) (xs := gs.map fun x => V.ref x.t) (fun i ys σ H2 => (∃ v v', σ = [v, v', some (.ref pen)]) ∧ SameX pen H1 H2 ∧ ∃ (kk : Int) (bs : List PyData), H2 pen = some (.lst [.ref sp, .int kk]) ∧ ka ≤ kk ∧ kk ≤ ka + 3 * i ∧ DnL H2 bs ys ∧ bs.length = i ∧ (∀ b ∈ bs, isBough m b = true) ∧ bs.flatMap kidsOf = (gs.take i).flatMap (·.kids) ∧ bs.all (flatD 3) = true)
    ⟨⟨none, none, rfl⟩, SameX.refl _ _, ka, [], hp1, Int.le_refl _, by omega, rfl, rfl, (fun _ z => nomatch z), rfl, rfl⟩ (fun i ys σ H2 hi pv => ?_) (fun i ys σ H2 hi pv => ?_) (fun i x ys σ H2 hx pv => ?_) (fun ys σ H2 pv bl hbl => ?_)
  · obtain ⟨_, _, kk, bs, _, _, _, dn, ln, _⟩ := pv
    have := dn.length
    rw [List.length_map] at hi
    exact small (by omega)
  · exact SqL.of (pv.2.1 _ _ ngp GA.at_)
  · obtain ⟨⟨v, v', rfl⟩, sx2, kk, bs, hp2, kk0, kk1, dn, ln, ok, ki, fl⟩ := pv
    rw [List.getElem?_map] at hx
    obtain ⟨x, hx', rfl⟩ := Option.map_eq_some_iff.mp hx
    have hil : i < gs.length := (List.getElem?_eq_some_iff.mp hx').1
    have hm := List.mem_of_getElem? hx'
    have ty : H2 x.t = some (.tup [.int x.up, .ref x.l]) := (SameX.tup hp1 sx2) _ _ (GA.tup x hm)
    have lx := GA.lst x hm
    have nlp : x.l ≠ pen := fun z => by have := pn.at_; rw [← z, lx.2.1] at this; cases this
    have gx := GK.each x hm
    have kl : x.kids.length ≤ 9 := by
      have : x.kids.length ≤ (gs.flatMap (·.kids)).length := by
        obtain ⟨l1, l2, e⟩ := List.append_of_mem hm
        rw [e, List.flatMap_append, List.flatMap_cons, List.length_append, List.length_append]
        omega
      omega
    refine ⟨x.t, _, rfl, sqT ty, rfl, _, _, rfl, _, _, rfl, rfl, ?_⟩
    refine ⟨_, rfl, _, rfl, _, rfl, pen, sp, ns, x.l, x.up, x.kids, m, kk, rfl, pn.to (sx1.trans sx2) hp2, by omega, by omega, sx2 _ _ nlp lx.1, nlp, kl, gx.1, gx.2.1, gx.2.2, fun dd vv kb H3 sx3 hp3 kb0 kb1 hd hb hf hk => ?_⟩
    refine ⟨⟨_, _, rfl⟩, sx2.trans sx3, kb, bs ++ [dd], hp3, by omega, by push_cast; omega, (DnL.tupS (SameX.tup hp2 sx3) fl dn).append ⟨vv, [], rfl, hd, rfl⟩, by rw [List.length_append, List.length_singleton, ln], fun b hb' => ?_, ?_, ?_⟩
    · rcases List.mem_append.mp hb' with z | z
      · exact ok b z
      · rw [List.mem_singleton.mp z]
        exact hb
    · rw [List.flatMap_append, ki, flatMap_take hx']
      simp [hk]
    · rw [List.all_append, fl]
      simp [hf]
  obtain ⟨_, sx2, kk, bs, hp2, kk0, kk1, dn, ln, okb, ki, fl⟩ := pv
  rw [List.length_map] at ln ki kk1
  rw [List.take_length] at ki
  have lys := dn.length
  have s2 := same_new hbl (.lst ys)
  have gb : GoodB m bs := ⟨okb, by rw [ki]; exact GK.perm⟩
  have sxB := (sx1.trans sx2).trans (Same.x s2)
  have hpB := s2 _ _ hp2
  have nbp : bl ≠ pen := fun z => by rw [z, hp2] at hbl; cases hbl
  refine cu2 _ _ _ ?_
  refine ⟨_, rfl, _, rfl, bl, _, rfl, .inl (SqL.of upd_same), _, _, rfl, rfl, pen, sp, ns, _, kk, rfl, pn.to sxB hpB, by omega, by omega, by omega, fun tn tn0 tn1 => ?_⟩
  obtain ⟨tt, rfl⟩ : ∃ tt : Nat, tn = (tt : Int) := ⟨tn.toNat, by omega⟩
  have sxC := sxB.trans (sameX_pen (pen := pen) (.lst [.ref sp, .int (kk + 1)]))
  refine ⟨_, rfl, _, rfl, _, _, rfl, rfl, pen, sp, ns, _, kk + 1, rfl, pn.to sxC upd_same, by omega, by omega, by omega, fun cn cn0 cn1 => ?_⟩
  have sxD := sxC.trans (sameX_pen (pen := pen) (.lst [.ref sp, .int (kk + 1 + 1)]))
  generalize hHD : L2.upd (L2.upd (L2.upd H2 bl (.lst ys)) pen (.lst [.ref sp, .int (kk + 1)])) pen (.lst [.ref sp, .int (kk + 1 + 1)]) = HD at *
  have hpD : HD pen = some (.lst [.ref sp, .int (kk + 1 + 1)]) := by rw [← hHD]; exact upd_same
  have hblD : HD bl = some (.lst ys) := by rw [← hHD, upd_ne nbp, upd_ne nbp]; exact upd_same
  have dnD : DnL HD bs ys := by
    rw [← hHD]
    exact DnL.pen upd_same fl (DnL.pen hpB fl (DnL.same s2 _ _ dn))
  refine ⟨_, rfl, by rw [p62]; omega, by rw [p62]; omega, ?_⟩
  refine lc_range0 (k := cn.toNat) (fun i zs σ H3 => (∃ v, σ = [v, some (.ref pen), some (.int m)]) ∧ SameX pen HD H3 ∧ ∃ (kc : Int) (cs : List PyData), H3 pen = some (.lst [.ref sp, .int kc]) ∧ kk + 2 ≤ kc ∧ kc ≤ kk + 2 + 6 * i ∧ DnL H3 cs zs ∧ cs.length = i ∧ (∀ c ∈ cs, isTie m c = true) ∧ cs.all (flatD 3) = true)
    ⟨⟨none, rfl⟩, SameX.refl _ _, kk + 1 + 1, [], hpD, by omega, by omega, rfl, rfl, (fun _ z => nomatch z), rfl⟩ (fun i zs σ H3 hi pv => ?_) (fun i zs σ H3 hi pv => ?_) (fun zs σ H3 pv cl hcl => ?_)
  · obtain ⟨_, _, kc, cs, _, _, _, dc, lc, _⟩ := pv
    have := dc.length
    exact small (by omega)
  · obtain ⟨⟨v, rfl⟩, sx3, kc, cs, hp3, kc0, kc1, dc, lc, okc, fc⟩ := pv
    refine ⟨_, rfl, _, rfl, pen, sp, ns, m, kc, rfl, pn.to (sxD.trans sx3) hp3, by omega, by omega, m1, m9, fun dd vv kd H4 sx4 hp4 kd0 kd1 hd ht hf => ?_⟩
    refine ⟨⟨_, rfl⟩, sx3.trans sx4, kd, cs ++ [dd], hp4, by omega, by push_cast; omega, (DnL.tupS (SameX.tup hp3 sx4) fc dc).append ⟨vv, [], rfl, hd, rfl⟩, by rw [List.length_append, List.length_singleton, lc], fun b hb' => ?_, ?_⟩
    · rcases List.mem_append.mp hb' with z | z
      · exact okc b z
      · rw [List.mem_singleton.mp z]
        exact ht
    · rw [List.all_append, fc]
      simp [hf]
  obtain ⟨_, sx3, kc, cs, hp3, kc0, kc1, dc, lc, okc, fc⟩ := pv
  have lzs := dc.length
  have s4 := same_new hcl (.lst zs)
  have hbl4 := s4 _ _ (sx3 _ _ nbp hblD)
  have dn3 := DnL.tupS (SameX.tup hpD sx3) fl dnD
  refine cu4 _ _ _ ?_
  refine ⟨_, rfl, _, rfl, _, rfl, _, rfl, bl, _, rfl, SqL.of hbl4, fun p1 hp1' => ?_⟩
  have s5 := same_new hp1' (.lst (cutV ys (some (tt : Int)) none))
  refine ⟨_, rfl, _, rfl, _, rfl, bl, _, rfl, SqL.of (s5 _ _ hbl4), fun p2 hp2' => ?_⟩
  have s6 := same_new hp2' (.lst (cutV ys none (some (tt : Int))))
  have l1 := cutV_length ys (some (tt : Int)) none
  have l2 := cutV_length ys none (some (tt : Int))
  refine ⟨p1, p2, _, _, rfl, rfl, s6 _ _ upd_same, upd_same, small (by omega), fun p3 hp3' => ?_⟩
  rw [cut_rotV ys tt (by omega)] at *
  have s7 := same_new hp3' (.lst (ys.drop tt ++ ys.take tt))
  refine ⟨p3, _, rfl, .inl ⟨SqL.of upd_same, fun t1 ht1 => ?_⟩⟩
  have s8 := same_new ht1 (.tup (ys.drop tt ++ ys.take tt))
  have s48 := (((s5.trans s6).trans s7).trans s8)
  refine ⟨_, rfl, cl, _, rfl, .inl ⟨SqL.of (s48 _ _ upd_same), fun t2 ht2 => ?_⟩⟩
  have s9 := same_new ht2 (.tup zs)
  refine ⟨small (by show 3 ≤ 1000; decide), fun wd hwd => ?_⟩
  have s10 := same_new hwd (.tup [.int m, .ref t1, .ref t2])
  have sE := (((s4.trans s48).trans s9).trans s10)
  refine q wd (bs.drop tt ++ bs.take tt) cs kc _ ((sxD.trans sx3).trans (Same.x sE)) (sE _ _ hp3) (by omega) (by omega) ⟨⟨ys.drop tt ++ ys.take tt, zs, ⟨t1, t2, upd_same, s10 _ _ (s9 _ _ upd_same), s10 _ _ upd_same⟩, (DnL.same sE _ _ ((DnL.drop tt dn3).append (DnL.take tt dn3))), DnL.same sE _ _ dc⟩, gb.rot tt, okc, ?_, by omega, ?_, fc, m1, m9⟩ (by omega)
  · rw [List.length_append, List.length_drop, List.length_take]
    omega
  · rw [List.all_eq_true]
    intro b hb'
    exact (List.all_eq_true.mp fl) b (rot_mem hb')

end
section
variable {P : Program} {w : World} {K : PySem.W.Frag} {mg : Str → Option Value} {base : Heap} {a : Adr} {d : Fds}
theorem ok_law_keeps (T : Txt K mg a d) : FnOk P w K mg base CX0 1 a.f_law_keeps d.f_law_keeps ["_law_tie", "_law_some"] spKeeps := by
  refine T.K_law_keeps.ok sc_law_keeps (fun vs H Q E h => ?_) (fun cdv A outer s H vs Q E hr h => ?_)
  · obtain ⟨t, m, n, v, rfl, _⟩ := h
    rfl
  obtain ⟨t, m, n, v, rfl, hd, ok, hm, q⟩ := h
  have q0 := q H (Same.refl H)
  obtain ⟨ct5, ch5, cu5⟩ := cutS (X := (cxOf CX0 P w K mg base ["_law_tie", "_law_some", "_law_up", "_law_low", "_law_high", "_law_kids_here", "_law_many"] "_law_keeps" (defScope s_law_keeps) a.f_law_keeps cdv A outer s H E).nox) (st := (defBody s_law_keeps).drop 5) (pss_cons (ps_if (pt_cmpR op_eq (pe_op op_and (pe_op op_shr (pv 1) (pv 2)) pe_int) pe_int (nomark _)) (pss_one (ps_ret (pe_cmpR op_eq (pv 6) pe_int (nomark _)))) pss_nil)
      (pss_one (ps_ret (pe_chain op_le op_le (pv 3) (pv 6) (pv 4)))))
  obtain ⟨ct3, ch3, cu3⟩ := cutS (X := (cxOf CX0 P w K mg base ["_law_tie", "_law_some", "_law_up", "_law_low", "_law_high", "_law_kids_here", "_law_many"] "_law_keeps" (defScope s_law_keeps) a.f_law_keeps cdv A outer s H E).nox) (st := (defBody s_law_keeps).drop 3) (pss_cons (ps_asg (pv 0) (pgT (K := K) (n := 4) rfl (pgs_cons (pg_name (i := 2) sc_law_keeps.nd rfl (Or.inl rfl)) (pgs_cons (pg_name (i := 3) sc_law_keeps.nd rfl (Or.inl rfl)) (pgs_cons (pg_name (i := 4) sc_law_keeps.nd rfl (Or.inl rfl)) (pgs_cons (pg_name (i := 5) sc_law_keeps.nd rfl (Or.inl rfl)) pgs_nil))))))
      (pss_cons (ps_set (i := 6) sc_law_keeps.nd rfl (Or.inl rfl) (pe_callB (call_sum_ints rfl) rfl T.m_sum PyProof.Rows.boot_sum (pa_cons (pe_lc (sc0 := defScope s_law_keeps) (XN := ["_law_tie", "_law_some", "_law_up", "_law_low", "_law_high", "_law_kids_here", "_law_many"]) (N' := ["_law_k", "_law_some"]) (n := 1) (kp := [1]) rfl (piT (K := K) (pv 5)) rfl rfl (by decide +kernel) (fun _ _ _ _ _ => (pg_name (i := 0) (by show List.Nodup (["_law_k", "_law_some"] : List Str); decide +kernel) rfl (Or.inl rfl))) (fun _ _ _ _ _ => pts_nil) (fun _ _ _ _ _ => (pe_op op_and (pe_op op_shr (pv 1) (pv 0)) pe_int))) pa_nil)))
      ch5))
  obtain ⟨ct2, ch2, cu2⟩ := cutS (X := (cxOf CX0 P w K mg base ["_law_tie", "_law_some", "_law_up", "_law_low", "_law_high", "_law_kids_here", "_law_many"] "_law_keeps" (defScope s_law_keeps) a.f_law_keeps cdv A outer s H E).nox) (st := (defBody s_law_keeps).drop 2) (pss_cons (ps_if (pt_cmpR op_eq (pe_ix (ixT (K := K)) (pv 0) pe_int (fun _ _ => rfl)) pe_str (nomark _)) (pss_one (ps_ret (pe_cmpR op_le (pe_callB (call_sum_ints rfl) rfl T.m_sum PyProof.Rows.boot_sum (pa_cons (pe_lc (sc0 := defScope s_law_keeps) (XN := ["_law_tie", "_law_some", "_law_up", "_law_low", "_law_high", "_law_kids_here", "_law_many"]) (N' := ["_law_k", "_law_number", "_law_some"]) (n := 2) (kp := [1]) rfl (piT (K := K) (pe_ix (ixT (K := K)) (pv 0) pe_int (fun _ _ => rfl))) rfl rfl (by decide +kernel) (fun _ _ _ _ _ => (pgT (K := K) (n := 2) rfl (pgs_cons (pg_name (i := 0) (by show List.Nodup (["_law_k", "_law_number", "_law_some"] : List Str); decide +kernel) rfl (Or.inl rfl)) (pgs_cons (pg_name (i := 1) (by show List.Nodup (["_law_k", "_law_number", "_law_some"] : List Str); decide +kernel) rfl (Or.inl rfl)) pgs_nil)))) (fun _ _ _ _ _ => (pts_one (pt_cmpR op_eq (pe_op op_and (pe_op op_shr (pv 2) (pv 0)) pe_int) pe_int (nomark _)))) (fun _ _ _ _ _ => (pv 1))) pa_nil)) (pe_ix (ixT (K := K)) (pv 0) pe_int (fun _ _ => rfl)) (nomark _)))) pss_nil)
      ch3)
  obtain ⟨ct1, ch1, cu1⟩ := cutS (X := (cxOf CX0 P w K mg base ["_law_tie", "_law_some", "_law_up", "_law_low", "_law_high", "_law_kids_here", "_law_many"] "_law_keeps" (defScope s_law_keeps) a.f_law_keeps cdv A outer s H E).nox) (st := (defBody s_law_keeps).drop 1) (pss_cons (ps_if (pt_cmpR op_eq (pe_ix (ixT (K := K)) (pv 0) pe_int (fun _ _ => rfl)) pe_str (nomark _)) (pss_one (ps_ret (pe_or (pe_cmpR op_eq (pe_op op_and (pe_op op_shr (pv 1) (pe_ix (ixT (K := K)) (pv 0) pe_int (fun _ _ => rfl))) pe_int) pe_int (nomark _)) (pe_one (pe_cmpR op_eq (pe_op op_and (pe_op op_shr (pv 1) (pe_ix (ixT (K := K)) (pv 0) pe_int (fun _ _ => rfl))) pe_int) pe_int (nomark _)))))) pss_nil)
      ch2)
  refine ⟨_, (pss_cons (ps_if (pt_cmpR op_eq (pe_ix (ixT (K := K)) (pv 0) pe_int (fun _ _ => rfl)) pe_str (nomark _)) (pss_one (ps_ret (pe_or (pe_cmpR op_eq (pe_op op_and (pe_op op_shr (pv 1) (pe_ix (ixT (K := K)) (pv 0) pe_int (fun _ _ => rfl))) pe_int) pe_int (nomark _)) (pe_one (pe_cmpR op_eq (pe_op op_and (pe_op op_shr (pv 1) (pe_ix (ixT (K := K)) (pv 0) pe_int (fun _ _ => rfl))) pe_int) pe_int (nomark _)))))) pss_nil)
      ch1), ?_⟩
  cases t with
  | needs x y =>
    obtain ⟨p, rfl, hp⟩ := at_word hd
    refine ⟨_, rfl, p, _, _, _, rfl, rfl, sqT hp, at0, rfl, _, rfl, ?_⟩
    refine iteD rfl ?_
    refine ⟨_, rfl, _, rfl, p, _, _, _, rfl, rfl, sqT hp, at1, _, _, rfl, rfl, by omega, _, _, rfl, rfl, rfl, _, rfl, ?_⟩
    rw [dec_shr0]
    have q1 : Q (.bl (!n.testBit x || n.testBit y)) H := q0
    refine ite2 (fun c => ?_) (fun c => ?_)
    · rw [c, Bool.true_or] at q1
      exact q1
    · refine ⟨_, rfl, _, rfl, p, _, _, _, rfl, rfl, sqT hp, at2, _, _, rfl, rfl, by omega, _, _, rfl, rfl, rfl, ?_⟩
      rw [Bool.eq_false_iff.mpr c, Bool.false_or, ← dec_shr1] at q1
      exact q1
  | bans x y =>
    obtain ⟨p, rfl, hp⟩ := at_word hd
    refine ⟨_, rfl, p, _, _, _, rfl, rfl, sqT hp, at0, rfl, _, rfl, ?_⟩
    refine iteDN bans_needs ?_
    refine cu1 _ _ _ ?_
    refine ⟨_, rfl, p, _, _, _, rfl, rfl, sqT hp, at0, rfl, _, rfl, ?_⟩
    refine iteD rfl ?_
    refine ⟨_, rfl, _, rfl, p, _, _, _, rfl, rfl, sqT hp, at1, _, _, rfl, rfl, by omega, _, _, rfl, rfl, rfl, _, rfl, ?_⟩
    rw [dec_shr0]
    have q1 : Q (.bl (!n.testBit x || !n.testBit y)) H := q0
    refine ite2 (fun c => ?_) (fun c => ?_)
    · rw [c, Bool.true_or] at q1
      exact q1
    · refine ⟨_, rfl, _, rfl, p, _, _, _, rfl, rfl, sqT hp, at2, _, _, rfl, rfl, by omega, _, _, rfl, rfl, rfl, ?_⟩
      rw [Bool.eq_false_iff.mpr c, Bool.false_or, ← dec_shr0] at q1
      exact q1
  | most top ps =>
    obtain ⟨p, pq, xs, rfl, hp, hq, hps⟩ := at_most hd
    have lx : xs.length = ps.length := by rw [← hps.length, List.length_map]
    have few : ps.length ≤ m := ok.2.2.2
    refine ⟨_, rfl, p, _, _, _, rfl, rfl, sqT hp, at0, rfl, _, rfl, ?_⟩
    refine iteDN most_needs ?_
    refine cu1 _ _ _ ?_
    refine ⟨_, rfl, p, _, _, _, rfl, rfl, sqT hp, at0, rfl, _, rfl, ?_⟩
    refine iteDN most_bans ?_
    refine cu2 _ _ _ ?_
    refine ⟨_, rfl, p, _, _, _, rfl, rfl, sqT hp, at0, rfl, _, rfl, ?_⟩
    refine iteD rfl ?_
    refine ⟨_, rfl, p, _, _, _, rfl, rfl, sqT hp, at2, pq, rfl, ⟨_, sqT hq⟩, ?_⟩
    refine lc_tup (K := K) (a := pq) (xs := xs) (fun i ys σ H2 => (∃ v v', σ = [v, v', some (.int n)]) ∧ H2 = H ∧ i ≤ ps.length ∧ ys = (((ps.take i).filter fun p => n.testBit p.1).map (·.2)).map V.int) ⟨⟨none, none, rfl⟩, rfl, Nat.zero_le _, rfl⟩ (fun i ys σ H2 hi pv => ?_) (fun i ys σ H2 hi pv => ?_) (fun i x ys σ H2 hx pv => ?_) (fun ys σ H2 pv l hl => ?_)
    · obtain ⟨_, _, h1, rfl⟩ := pv
      rw [List.length_map, List.length_map]
      refine small (Nat.le_trans (List.length_filter_le _ _) ?_)
      rw [List.length_take]
      omega
    · rw [pv.2.1]
      exact sqT hq
    · obtain ⟨⟨v, v', rfl⟩, rfl, h1, rfl⟩ := pv
      obtain ⟨pr, r, hpr, rfl, hr'⟩ := at_pair hps hx
      have hj : i < ps.length := (List.getElem?_eq_some_iff.mp hpr).1
      have ee := PySem.take_succ_filter (fun p : Nat × Int => n.testBit p.1) ps i pr hpr
      refine ⟨r, _, rfl, sqT hr', rfl, _, _, rfl, _, _, rfl, rfl, ?_⟩
      refine ⟨_, rfl, _, rfl, _, _, rfl, rfl, by omega, _, _, rfl, rfl, rfl, _, rfl, ?_⟩
      rw [dec_shr1]
      refine ite2 (fun c => ?_) (fun c => ?_)
      · refine ⟨_, rfl, ⟨_, _, rfl⟩, rfl, hj, ?_⟩
        rw [ee, if_pos c, List.map_append, List.map_append]
        rfl
      · refine ⟨⟨_, _, rfl⟩, rfl, hj, ?_⟩
        rw [ee, if_neg c, List.append_nil]
    · obtain ⟨_, rfl, _, rfl⟩ := pv
      have sm := same_new hl (.lst ((((ps.take xs.length).filter fun p => n.testBit p.1).map (·.2)).map V.int))
      refine ⟨l, _, rfl, SqL.of upd_same, _, rfl, p, _, _, _, rfl, rfl, sqT (sm _ _ hp), at1, _, _, rfl, rfl, ?_⟩
      have q1 := q _ sm
      have e : (Tie.most top ps).keep n = decide ((((ps.take xs.length).filter fun p => n.testBit p.1).map (·.2)).sum ≤ top) := by
        rw [lx, List.take_length]
        rfl
      rw [e] at q1
      exact q1
  | bough u lo hi ks =>
    obtain ⟨p, pk, rfl, hp, hpk⟩ := at_bough hd
    have ok' : Tie.BoughOk m u lo hi ks := ok
    have few := ok'.few
    refine ⟨_, rfl, p, _, _, _, rfl, rfl, sqT hp, at0, rfl, _, rfl, ?_⟩
    refine iteDN int_str ?_
    refine cu1 _ _ _ ?_
    refine ⟨_, rfl, p, _, _, _, rfl, rfl, sqT hp, at0, rfl, _, rfl, ?_⟩
    refine iteDN int_str ?_
    refine cu2 _ _ _ ?_
    refine ⟨_, rfl, p, _, _, _, rfl, rfl, sqT hp, at0, rfl, _, rfl, ?_⟩
    refine iteDN int_str ?_
    refine cu3 _ _ _ ?_
    refine ⟨_, rfl, p, _, rfl, sqT hp, rfl, _, _, rfl, _, _, rfl, _, _, rfl, _, _, rfl, rfl, ?_⟩
    refine ⟨_, rfl, pk, rfl, ⟨_, sqT hpk⟩, ?_⟩
    refine lc_tup (K := K) (a := pk) (xs := ks.map fun k : Nat => V.int (k : Int)) (fun i ys σ H2 => (∃ v, σ = [v, some (.int n)]) ∧ H2 = H ∧ i ≤ ks.length ∧ ys = ((ks.take i).map fun k => if n.testBit k = true then (1 : Int) else 0).map V.int) ⟨⟨none, rfl⟩, rfl, Nat.zero_le _, rfl⟩ (fun i ys σ H2 hi pv => ?_) (fun i ys σ H2 hi pv => ?_) (fun i x ys σ H2 hx pv => ?_) (fun ys σ H2 pv l hl => ?_)
    · obtain ⟨_, _, h1, rfl⟩ := pv
      rw [List.length_map, List.length_map, List.length_take]
      exact small (by omega)
    · rw [pv.2.1]
      exact sqT hpk
    · obtain ⟨⟨v, rfl⟩, rfl, h1, rfl⟩ := pv
      rw [List.getElem?_map] at hx
      obtain ⟨k, hk', rfl⟩ := Option.map_eq_some_iff.mp hx
      have hj : i < ks.length := (List.getElem?_eq_some_iff.mp hk').1
      refine ⟨_, rfl, _, rfl, _, _, rfl, rfl, by omega, _, _, rfl, rfl, ⟨_, rfl⟩, rfl, hj, ?_⟩
      rw [List.take_add_one, hk', Option.toList_some, List.map_append, List.map_append]
      show _ ++ [V.int (Builtin.bitAnd ((n : Int) / 2 ^ ((k : Nat) : Int).toNat) 1)] = _
      rw [shr_bit]
      rfl
    · obtain ⟨_, rfl, _, rfl⟩ := pv
      rw [List.length_map, List.take_length] at *
      have sm := same_new hl (.lst ((ks.map fun k => if n.testBit k = true then (1 : Int) else 0).map V.int))
      refine ⟨l, _, rfl, SqL.of upd_same, ?_⟩
      rw [cnt_sum]
      refine cu5 _ _ _ ?_
      have q1 := q _ sm
      refine ⟨_, rfl, _, rfl, _, _, rfl, rfl, by omega, _, _, rfl, rfl, rfl, _, rfl, ?_⟩
      rw [dec_shr0]
      refine ite2 (fun c => ?_) (fun c => ?_)
      · have c' : ¬ n.testBit u = true := by simpa using c
        rw [keep_no c', ← dec_cnt0] at q1
        exact ⟨_, rfl, rfl, q1⟩
      · have c' : n.testBit u = true := by simpa using c
        rw [keep_up c'] at q1
        refine ⟨_, rfl, _, rfl, _, _, rfl, rfl, _, rfl, ?_⟩
        refine ite2 (fun c2 => ?_) (fun c2 => ?_)
        · rw [c2, Bool.true_and] at q1
          exact ⟨_, rfl, _, _, rfl, rfl, q1⟩
        · rw [Bool.eq_false_iff.mpr c2, Bool.false_and] at q1
          exact q1

end
section
variable {P : Program} {w : World} {K : PySem.W.Frag} {mg : Str → Option Value} {base : Heap} {a : Adr} {d : Fds}
theorem ok_law_beneath (T : Txt K mg a d) : FnOk P w K mg base CX0 1 a.f_law_beneath d.f_law_beneath ["_law_wood_here", "_law_k"] spBeneathB := by
  refine T.K_law_beneath.ok sc_law_beneath (fun vs H Q E h => ?_) (fun cdv A outer s H vs Q E hr h => ?_)
  · obtain ⟨wd, m, L, k, rfl, _⟩ := h
    rfl
  obtain ⟨wd, m, L, k, rfl, W, km, q⟩ := h
  obtain ⟨xs, ⟨tb, tc, hw, hb, hc⟩, dn⟩ := W.ex
  have m9 := W.m9
  have TR := W.T
  have few := W.few
  have lx := dn.length
  rw [List.length_map] at lx
  have p62 : (2 : Int) ^ 62 = 4611686018427387904 := by decide
  have hp : ∀ F, F < 2 ^ m → F < 512 := fun F h => Nat.lt_of_lt_of_le h (pow_le m9)
  refine ⟨_, (pss_cons (ps_set (i := 2) sc_law_beneath.nd rfl (Or.inl rfl) (pe_op op_shl pe_int (pv 1)))
      (pss_cons (ps_for PassesOwn.never rfl (pi_range1 rfl T.m_range (pa_cons (pe_ix (ixT (K := K)) (pv 0) pe_int (fun _ _ => rfl)) pa_nil)) (pg_name (i := 3) sc_law_beneath.nd rfl (Or.inl rfl)) (pss_one (ps_for PassesOwn.never rfl (piT (K := K) (pe_ix (ixT (K := K)) (pv 0) pe_int (fun _ _ => rfl))) (pgT (K := K) (n := 4) rfl (pgs_cons (pg_name (i := 4) sc_law_beneath.nd rfl (Or.inl rfl)) (pgs_cons (pg_name (i := 5) sc_law_beneath.nd rfl (Or.inl rfl)) (pgs_cons (pg_name (i := 6) sc_law_beneath.nd rfl (Or.inl rfl)) (pgs_cons (pg_name (i := 7) sc_law_beneath.nd rfl (Or.inl rfl)) pgs_nil))))) (pss_one (ps_if (pt_cmpR op_eq (pe_op op_and (pe_op op_shr (pv 2) (pv 4)) pe_int) pe_int (nomark _)) (pss_one (ps_for PassesOwn.never rfl (piT (K := K) (pv 7)) (pg_name (i := 8) sc_law_beneath.nd rfl (Or.inl rfl)) (pss_one (ps_set (i := 2) sc_law_beneath.nd rfl (Or.inl rfl) (pe_op op_or (pv 2) (pe_op op_shl pe_int (pv 8))))))) pss_nil)))))
      (pss_one (ps_ret (pv 2))))), ?_⟩
  refine ⟨_, rfl, _, _, rfl, rfl, ⟨by omega, by omega, by decide⟩, ?_⟩
  refine ⟨_, rfl, wd, _, _, _, rfl, rfl, sqT hw, at0, _, rfl, by rw [p62]; omega, by rw [p62]; omega, ?_⟩
  rw [Int.toNat_natCast]
  refine for_range0 (n := m) (fun t σ H2 => ∃ (F : Nat) (v3 v4 v5 v6 v7 v8 : Option V), σ = [some (.ref wd), some (.int (k : Int)), some (.int (F : Int)), v3, v4, v5, v6, v7, v8] ∧ Same H H2 ∧ Wd.Turn m L k t F) ⟨2 ^ k, none, none, none, none, none, none, by rw [← shl1]; rfl, Same.refl _, Turn.start km⟩ ?_ ?_
  · rintro t σ H2 ht ⟨F0, v3, v4, v5, v6, v7, v8, rfl, s2, T0⟩
    refine ⟨_, rfl, wd, _, _, _, rfl, rfl, sqT (s2 _ _ hw), at1, tb, rfl, ⟨_, sqT (s2 _ _ hb)⟩, ?_⟩
    refine for_tup (K := K) (a := tb) (xs := xs) (fun i σ H3 => ∃ (F : Nat) (v4 v5 v6 v7 v8 : Option V), σ = [some (.ref wd), some (.int (k : Int)), some (.int (F : Int)), some (.int (t : Int)), v4, v5, v6, v7, v8] ∧ Same H H3 ∧ TurnI m L k F0 i F) ⟨_, _, _, _, _, _, rfl, s2, T0.begin⟩ (fun i σ H3 _ z' => ?_) ?_ ?_
    · obtain ⟨_, _, _, _, _, _, _, s3, _⟩ := z'
      exact sqT (s3 _ _ hb)
    · rintro i x σ H3 hx ⟨F1, v4, v5, v6, v7, v8, rfl, s3, T1⟩
      obtain ⟨dd, hdd, hx'⟩ := dn.get hx
      rw [List.getElem?_map] at hdd
      obtain ⟨b, hb', rfl⟩ := Option.map_eq_some_iff.mp hdd
      have ok := TR.ok b (List.mem_of_getElem? hb')
      have dx := Dn.same s3 _ _ hx'
      obtain ⟨p, pk, rfl, hp', hpk⟩ := at_bough dx
      refine ⟨p, _, rfl, sqT hp', rfl, _, _, rfl, _, _, rfl, _, _, rfl, _, _, rfl, rfl, ?_⟩
      refine ⟨_, rfl, _, rfl, _, _, rfl, rfl, by omega, _, _, rfl, rfl, rfl, _, rfl, ?_⟩
      rw [dec_shr1]
      refine ite2 (fun c => ?_) (fun c => ?_)
      · refine ⟨_, rfl, pk, rfl, ⟨_, sqT hpk⟩, ?_⟩
        refine for_tup (K := K) (a := pk) (xs := natsL b.ks) (fun n σ H4 => ∃ (F : Nat) (v8 : Option V), σ = [some (.ref wd), some (.int (k : Int)), some (.int (F : Int)), some (.int (t : Int)), some (.int (b.u : Int)), some (.int b.lo), some (.int b.hi), some (.ref pk), v8] ∧ H4 = H3 ∧ TurnK F1 b.ks n F) ⟨_, _, rfl, rfl, TurnK.start⟩ (fun n σ H4 _ z' => ?_) ?_ ?_
        · obtain ⟨_, _, _, rfl, _⟩ := z'
          exact sqT hpk
        · rintro n x σ H4 hx2 ⟨F, v8, rfl, rfl, T2⟩
          rw [List.getElem?_map] at hx2
          obtain ⟨j, hj, rfl⟩ := Option.map_eq_some_iff.mp hx2
          have jm := (ok.up j (List.mem_of_getElem? hj)).2
          refine ⟨_, rfl, _, rfl, _, _, rfl, rfl, ⟨by omega, by omega, by decide⟩, ?_⟩
          refine ⟨_, _, rfl, rfl, ?_⟩
          exact ⟨F ||| 2 ^ j, _, by rw [← lor_nat, ← shl1]; rfl, rfl, T2.step hj⟩
        · rintro σ H4 ⟨F, v8, rfl, rfl, T2⟩
          rw [show (natsL b.ks).length = b.ks.length from List.length_map _] at T2
          exact ⟨F, _, _, _, _, _, rfl, s3, T1.put hb' c T2 (T2.lt T1.lt fun j hj => (ok.up j hj).2)⟩
      · exact ⟨F1, _, _, _, _, _, rfl, s3, T1.skip hb' (Bool.eq_false_iff.mpr c)⟩
    · rintro σ H3 ⟨F, v4, v5, v6, v7, v8, rfl, s3, T1⟩
      rw [← lx] at T1
      exact ⟨F, _, _, _, _, _, _, rfl, s3, T0.done TR T1⟩
  · rintro σ H2 ⟨F, v3, v4, v5, v6, v7, v8, rfl, s2, T0⟩
    refine ⟨_, rfl, ?_⟩
    exact q F _ s2 (T0.last TR)

end
section
variable {P : Program} {w : World} {K : PySem.W.Frag} {mg : Str → Option Value} {base : Heap} {a : Adr} {d : Fds}
theorem ok_law_ways (T : Txt K mg a d) : FnOk P w K mg base CX0 2 a.f_law_ways d.f_law_ways ["_law_wood_here", "_law_k"] spWaysB := by
  have G_law_beneath := ok_law_beneath (P := P) (w := w) (base := base) T
  have G_law_keeps := ok_law_keeps (P := P) (w := w) (base := base) T
  refine T.K_law_ways.ok sc_law_ways (fun vs H Q E h => ?_) (fun cdv A outer s H vs Q E hr h => ?_)
  · obtain ⟨wd, m, L, k, rfl, _⟩ := h
    rfl
  obtain ⟨wd, m, L, k, rfl, W, km, q⟩ := h
  have m9 := W.m9
  have TR := W.T
  have few := W.few
  have p62 : (2 : Int) ^ 62 = 4611686018427387904 := by decide
  have pw : 2 ^ m ≤ 512 := pow_le m9
  have pwi : ((2 ^ m : Nat) : Int) ≤ 512 := Int.ofNat_le.mpr pw
  have pwn : (0 : Int) ≤ ((2 ^ m : Nat) : Int) := Int.natCast_nonneg _
  refine ⟨_, (pss_cons (ps_set (i := 2) sc_law_ways.nd rfl (Or.inr rfl) (pe_call G_law_beneath (hr.mono (by first | decide | omega)) rfl T.g_law_beneath T.K_law_beneath.kp T.B_law_beneath .nil pass0 (pa_cons (pv 0) (pa_cons (pv 1) pa_nil))))
      (pss_cons (ps_setLc (i := 3) sc_law_ways.nd rfl rfl rfl (sc0 := defScope s_law_ways) (XN := ["_law_wood_here", "_law_k", "_law_below", "_law_boughs", "_law_many", "_law_some"]) (N' := ["_law_bough_here", "_law_below"]) (n := 1) (kp := [2]) rfl (piT (K := K) (pe_ix (ixT (K := K)) (pv 0) pe_int (fun _ _ => rfl))) rfl rfl (by decide +kernel) (fun _ _ _ _ _ => (pg_name (i := 0) (by show List.Nodup (["_law_bough_here", "_law_below"] : List Str); decide +kernel) rfl (Or.inl rfl))) (fun _ _ _ _ _ => (pts_one (pt_cmpR op_eq (pe_op op_and (pe_op op_shr (pv 1) (pe_ix (ixT (K := K)) (pv 0) pe_int (fun _ _ => rfl))) pe_int) pe_int (nomark _)))) (fun _ _ _ _ _ => (pv 0)))
      (pss_cons (ps_set (i := 4) sc_law_ways.nd rfl (Or.inl rfl) pe_int)
      (pss_cons (ps_for PassesOwn.never rfl (pi_range1 rfl T.m_range (pa_cons (pe_op op_shl pe_int (pe_ix (ixT (K := K)) (pv 0) pe_int (fun _ _ => rfl))) pa_nil)) (pg_name (i := 5) sc_law_ways.nd rfl (Or.inr rfl)) (pss_one (ps_if (PW.pt (pw_and (pt_cmpR op_eq (pe_op op_and (pv 5) (pv 2)) (pv 5) (nomark _)) (pw_and1 (pt_cmpR op_eq (pe_op op_and (pe_op op_shr (pv 5) (pv 1)) pe_int) pe_int (nomark _))))) (pss_one (ps_set (i := 4) sc_law_ways.nd rfl (Or.inl rfl) (pe_op op_add (pv 4) (pe_callTy call_int1 rfl T.m_int PyProof.Rows.boot_int (pa_cons (pe_cmpR (op_eq_nil hr.units) (pe_lc (sc0 := defScope s_law_ways) (XN := ["_law_wood_here", "_law_k", "_law_below", "_law_boughs", "_law_many", "_law_some"]) (N' := ["_law_bough_here", "_law_some"]) (n := 1) (kp := [5]) rfl (piL (K := K) (pv 3)) rfl rfl (by decide +kernel) (fun _ _ _ _ _ => (pg_name (i := 0) (by show List.Nodup (["_law_bough_here", "_law_some"] : List Str); decide +kernel) rfl (Or.inl rfl))) (fun _ _ _ _ _ => (pts_one (pt_not (pt_val (pe_call G_law_keeps (hr.mono (by first | decide | omega)) rfl T.g_law_keeps T.K_law_keeps.kp T.B_law_keeps .nil pass0 (pa_cons (pv 0) (pa_cons (pv 1) pa_nil))))))) (fun _ _ _ _ _ => (pv 0))) (pe_lst pa_nil) (nomark _)) pa_nil))))) pss_nil)))
      (pss_one (ps_ret (pv 4))))))), ?_⟩
  refine ⟨_, rfl, _, rfl, wd, m, L, k, rfl, W, km, fun B H1 s1 BK => ?_⟩
  obtain ⟨xs, ⟨tb, tc, hw, hb, hc⟩, dn⟩ := (W.same s1).ex
  have lx := dn.length
  rw [List.length_map] at lx
  have Bl := BK.lt
  refine ⟨_, rfl, wd, _, _, _, rfl, rfl, sqT hw, at1, tb, rfl, ⟨_, sqT hb⟩, ?_⟩
  refine lc_tup (K := K) (a := tb) (xs := xs) (fun i ys σ H2 => (∃ v, σ = [v, some (.int (B : Int))]) ∧ H2 = H1 ∧ ys.length ≤ i ∧ DnL H1 ((inB B (L.take i)).map fun b => b.tie.toD) ys) ⟨⟨none, rfl⟩, rfl, Nat.le_refl _, rfl⟩ (fun i ys σ H2 hi pv => ?_) (fun i ys σ H2 hi pv => ?_) (fun i x ys σ H2 hx pv => ?_) (fun ys σ H2 pv lb hlb => ?_)
  · exact small (by have := pv.2.2.1; omega)
  · rw [pv.2.1]
    exact sqT hb
  · obtain ⟨⟨v, rfl⟩, rfl, h1, h2⟩ := pv
    obtain ⟨dd, hdd, hx'⟩ := dn.get hx
    rw [List.getElem?_map] at hdd
    obtain ⟨b, hb', rfl⟩ := Option.map_eq_some_iff.mp hdd
    obtain ⟨p, pk, rfl, hp', hpk⟩ := at_bough hx'
    have ei : inB B (L.take (i + 1)) = inB B (L.take i) ++ (if B.testBit b.u = true then [b] else []) := by
      unfold inB
      rw [List.take_add_one, hb', Option.toList_some, List.filter_append]
      cases e : B.testBit b.u
      · rw [List.filter_cons_of_neg (p := fun b : Bg => B.testBit b.u) (a := b) (by rw [e]; decide)]; rfl
      · rw [List.filter_cons_of_pos (p := fun b : Bg => B.testBit b.u) (a := b) e]; rfl
    refine ⟨_, rfl, _, rfl, p, _, _, _, rfl, rfl, sqT hp', at0, _, _, rfl, rfl, by omega, _, _, rfl, rfl, rfl, _, rfl, ?_⟩
    rw [dec_shr1]
    refine ite2 (fun c => ?_) (fun c => ?_)
    · refine ⟨_, rfl, ⟨_, rfl⟩, rfl, by rw [List.length_append, List.length_singleton]; omega, ?_⟩
      rw [ei, if_pos c, List.map_append]
      exact DnL.append h2 ⟨_, _, rfl, hx', rfl⟩
    · refine ⟨⟨_, rfl⟩, rfl, by omega, ?_⟩
      rw [ei, if_neg c, List.append_nil]
      exact h2
  obtain ⟨_, rfl, h1, h2⟩ := pv
  rw [← lx, List.take_length] at h2
  have s2 := same_new hlb (.lst ys)
  have hl2 : L2.upd H2 lb (.lst ys) lb = some (.lst ys) := upd_same
  generalize L2.upd H2 lb (.lst ys) = H3 at s2 hl2 ⊢
  have dny := DnL.same s2 _ _ h2
  have ly := dny.length
  rw [List.length_map] at ly
  refine ⟨_, rfl, wd, _, _, _, rfl, rfl, sqT (s2 _ _ hw), at0, _, _, rfl, rfl, ⟨by omega, by omega, by decide⟩, _, rfl, by rw [shl1, p62]; omega, by rw [shl1, p62]; omega, ?_⟩
  rw [shl1, Int.toNat_natCast]
  refine for_range0 (n := 2 ^ m) (fun i σ H4 => (∃ v5, σ = [some (.ref wd), some (.int (k : Int)), some (.int (B : Int)), some (.ref lb), some (.int ((((List.range i).map fun s => bit (belB L k B s)).sum : Nat) : Int)), v5]) ∧ Same H3 H4) ⟨⟨_, rfl⟩, Same.refl _⟩ ?_ ?_
  · rintro i σ H4 hi ⟨⟨v5, rfl⟩, s4⟩
    have eb : ((List.range (i + 1)).map fun s => bit (belB L k B s)).sum = ((List.range i).map fun s => bit (belB L k B s)).sum + bit (belB L k B i) := by
      rw [List.range_succ, List.map_append, List.sum_append]
      rfl
    refine ⟨_, rfl, _, rfl, _, _, rfl, rfl, _, rfl, rfl, _, rfl, ?_⟩
    by_cases c : i &&& B = i
    · refine iteD (show V.int (Builtin.bitAnd (i : Int) (B : Int)) = V.int (i : Int) by rw [land_nat, c]) ?_
      refine ⟨_, rfl, _, rfl, _, _, rfl, rfl, by omega, _, _, rfl, rfl, rfl, _, rfl, ?_⟩
      rw [dec_shr1]
      refine ite2 (fun c' => ?_) (fun c' => ?_)
      · refine ⟨_, rfl, _, rfl, lb, rfl, ⟨_, SqL.of (s4 _ _ hl2)⟩, ?_⟩
        refine lc_list (K := K) (a := lb) (xs := ys) (fun j zs σ H5 => (∃ v, σ = [v, some (.int (i : Int))]) ∧ Same H4 H5 ∧ zs.length ≤ j ∧ (zs = [] ↔ ∀ b ∈ (inB B L).take j, b.tie.keep i = true)) ⟨⟨none, rfl⟩, Same.refl _, Nat.le_refl _, ⟨fun _ t ht => by simp at ht, fun _ => rfl⟩⟩ (fun j zs σ H5 hj pv => ?_) (fun j zs σ H5 hj pv => ?_) (fun j x zs σ H5 hx pv => ?_) (fun zs σ H5 pv l3 hl3 => ?_)
        · exact small (by have := pv.2.2.1; omega)
        · exact SqL.of (pv.2.1 _ _ (s4 _ _ hl2))
        · obtain ⟨⟨v, rfl⟩, s5, h3, h4⟩ := pv
          obtain ⟨dd, hdd, hx'⟩ := dny.get hx
          rw [List.getElem?_map] at hdd
          obtain ⟨b, hb', rfl⟩ := Option.map_eq_some_iff.mp hdd
          have bm := (mem_inB.mp (List.mem_of_getElem? hb')).1
          have et : (inB B L).take (j + 1) = (inB B L).take j ++ [b] := by rw [List.take_add_one, hb', Option.toList_some]
          refine ⟨_, rfl, _, rfl, b.tie, m, i, x, rfl, Dn.same (s4.trans s5) _ _ hx', TR.ok b bm, by omega, fun H6 s6 => ?_⟩
          refine ⟨_, rfl, ?_⟩
          refine ite2 (fun c3 => ?_) (fun c3 => ?_)
          · have k3 : b.tie.keep i = false := by simpa using c3
            refine ⟨_, rfl, ⟨_, rfl⟩, s5.trans s6, by rw [List.length_append, List.length_singleton]; omega, ⟨fun z => by simp at z, fun z => ?_⟩⟩
            have := z b (by rw [et]; simp)
            rw [k3] at this
            cases this
          · have k3 : b.tie.keep i = true := by simpa using c3
            refine ⟨⟨_, rfl⟩, s5.trans s6, by omega, ⟨fun z u hu => ?_, fun z => h4.mpr fun u hu => z u (by rw [et]; exact List.mem_append_left _ hu)⟩⟩
            rw [et] at hu
            rcases List.mem_append.mp hu with a | a
            · exact h4.mp z u a
            · rw [List.mem_singleton.mp a]
              exact k3
        · obtain ⟨_, s5, _, h4⟩ := pv
          have s6 := same_new hl3 (.lst zs)
          refine ⟨small (by decide), fun el hel => ?_⟩
          have s7 := same_new hel (.lst [])
          rw [← ly, List.take_length] at h4
          refine ⟨l3, el, zs, rfl, rfl, s7 _ _ upd_same, upd_same, ?_⟩
          have eB : bit (belB L k B i) = bit (decide (zs = [])) := by
            unfold belB
            rw [decide_eq_true c, c', Bool.true_and, Bool.true_and]
            congr 1
            rw [Bool.eq_iff_iff, decide_eq_true_iff, h4]
            unfold allB
            rw [List.all_eq_true]
          refine .inr ⟨_, rfl, ?_⟩
          refine ⟨_, _, rfl, rfl, ?_⟩
          refine ⟨⟨some (.int (i : Int)), ?_⟩, s4.trans (s5.trans (s6.trans s7))⟩
          rw [eb, eB]
          cases decide (zs = []) <;> rfl
      · have eB : bit (belB L k B i) = 0 := by
          unfold belB
          rw [Bool.eq_false_iff.mpr c', Bool.and_false, Bool.false_and]
          rfl
        refine ⟨⟨some (.int (i : Int)), ?_⟩, s4⟩
        rw [eb, eB]
        rfl
    · refine iteDN (fun z : V.int (Builtin.bitAnd (i : Int) (B : Int)) = V.int (i : Int) => by
        injection z with z
        rw [land_nat] at z
        exact c (by omega)) ?_
      refine iteF ?_
      have eB : bit (belB L k B i) = 0 := by
        unfold belB
        rw [decide_eq_false c, Bool.false_and, Bool.false_and]
        rfl
      refine ⟨⟨some (.int (i : Int)), ?_⟩, s4⟩
      rw [eb, eB]
      rfl
  · rintro σ H4 ⟨⟨v5, rfl⟩, s4⟩
    refine ⟨_, rfl, ?_⟩
    rw [below_ways TR BK]
    exact q _ ((s1.trans s2).trans s4)

end
section
variable {P : Program} {w : World} {K : PySem.W.Frag} {mg : Str → Option Value} {base : Heap} {a : Adr} {d : Fds}
theorem ok_law_same (T : Txt K mg a d) : FnOk P w K mg base CX0 1 a.f_law_same d.f_law_same ["_law_found", "_law_due"] spSameN := by
  refine T.K_law_same.ok sc_law_same (fun vs H Q E h => ?_) (fun cdv A outer s H vs Q E hr h => ?_)
  · obtain ⟨l, l', L, M, rfl, _⟩ := h
    rfl
  obtain ⟨l, l', L, M, rfl, hl, hl', few, q⟩ := h
  have eL : (L.map fun k : Nat => (k : Int)).map V.int = natsL L := natsV L
  have eM : (M.map fun k : Nat => (k : Int)).map V.int = natsL M := natsV M
  refine ⟨_, (pss_cons (ps_if (PW.pt (pw_or (pt_not (pt_val (pe_callB (isiK (K := K)) rfl T.m_isinstance PyProof.Rows.boot_isinstance (pa_cons (pv 0) (pa_cons (pe_bltn (v := .ty "list") rfl T.m_list PyProof.Rows.boot_list rfl) pa_nil))))) (pw_or1 (pt_cmpR (op_ne_ints hr.units) (pv 0) (pv 1) (nomark _))))) (pss_one (ps_ret pe_bl)) pss_nil)
      (pss_one (ps_ret (pe_cmpR op_eq (pe_callB (lenS (K := K)) rfl T.m_len PySem.boot_len (pa_cons (pe_lc (sc0 := defScope s_law_same) (XN := ["_law_found", "_law_due"]) (N' := ["_law_one"]) (n := 1) (kp := []) rfl (piL (K := K) (pv 0)) rfl rfl (by decide +kernel) (fun _ _ _ _ _ => (pg_name (i := 0) (by show List.Nodup (["_law_one"] : List Str); decide +kernel) rfl (Or.inl rfl))) (fun _ _ _ _ _ => (pts_one (PW.pt (pw_and (pt_val (pe_callB (isiK (K := K)) rfl T.m_isinstance PyProof.Rows.boot_isinstance (pa_cons (pv 0) (pa_cons (pe_bltn (v := .ty "int") rfl T.m_int PyProof.Rows.boot_int rfl) pa_nil)))) (pw_and1 (pt_not (pt_val (pe_callB (isiK (K := K)) rfl T.m_isinstance PyProof.Rows.boot_isinstance (pa_cons (pv 0) (pa_cons (pe_bltn (v := .ty "bool") rfl T.m_bool PyProof.Rows.boot_bool rfl) pa_nil)))))))))) (fun _ _ _ _ _ => (pv 0))) pa_nil)) (pe_callB (lenS (K := K)) rfl T.m_len PySem.boot_len (pa_cons (pv 1) pa_nil)) (nomark _))))), ?_⟩
  refine ⟨_, rfl, .ref l, "list", "list", true, rfl, TyOf.lst hl, isi_list_list, _, rfl, ?_⟩
  refine iteF ?_
  refine ⟨_, rfl, _, rfl, l, l', L.map (fun k : Nat => (k : Int)), M.map (fun k : Nat => (k : Int)), rfl, rfl, (by rw [eL]; exact SqL.of hl), (by rw [eM]; exact SqL.of hl'), _, rfl, ?_⟩
  by_cases c : L = M
  · subst c
    refine iteNS rfl ?_
    rw [decide_eq_true rfl] at q
    refine ⟨_, rfl, l, rfl, ⟨_, SqL.of hl⟩, ?_⟩
    refine lc_list (K := K) (a := l) (xs := natsL L) (fun j zs σ H4 => (∃ v, σ = [v]) ∧ H4 = H ∧ zs.length = j) ⟨⟨none, rfl⟩, rfl, rfl⟩ (fun j zs σ H4 hj pv => ?_) (fun j zs σ H4 hj pv => ?_) (fun j x zs σ H4 hx pv => ?_) (fun zs σ H4 pv l4 hl4 => ?_)
    · obtain ⟨_, _, h1⟩ := pv
      rw [List.length_map] at hj
      exact small (by omega)
    · rw [pv.2.1]; exact SqL.of hl
    · obtain ⟨⟨v, rfl⟩, rfl, h1⟩ := pv
      obtain ⟨k, _, rfl⟩ : ∃ k : Nat, k ∈ L ∧ x = V.int (k : Int) := by
        obtain ⟨k, hk, rfl⟩ := List.mem_map.mp (List.mem_of_getElem? hx)
        exact ⟨k, hk, rfl⟩
      refine ⟨_, rfl, _, "int", "int", true, rfl, TyOf.int _, isi_int_int, _, rfl, ?_⟩
      refine iteT ?_
      refine ⟨_, rfl, _, "int", "bool", false, rfl, TyOf.int _, isi_int_bool, _, rfl, ?_⟩
      refine iteT ?_
      refine ⟨_, rfl, ⟨_, rfl⟩, rfl, ?_⟩
      rw [List.length_append, h1]
      rfl
    · obtain ⟨_, rfl, h1⟩ := pv
      have sm := same_new hl4 (.lst zs)
      refine ⟨l4, _, rfl, .inl (SqL.of upd_same), _, rfl, l', _, rfl, .inl (SqL.of (sm _ _ hl')), rfl, ?_⟩
      have e : decide (V.int ((zs.length : Nat) : Int) = V.int (((natsL L).length : Nat) : Int)) = true := decide_eq_true (by rw [h1])
      rw [e]
      exact q _ sm
  · refine iteNN (fun z => c (castL_inj z)) ?_
    rw [decide_eq_false c] at q
    exact q H (Same.refl H)

end
section
variable {P : Program} {w : World} {K : PySem.W.Frag} {mg : Str → Option Value} {base : Heap} {a : Adr} {d : Fds}
theorem ok_waysX (T : Txt K mg a d) : FnOk P w K mg base (CXR P w) 1 a.f_ways d.f_ways ["wood"] (spRaiseW a.x_NoCount) := by
  refine T.K_ways.okR sc_ways (fun vs H Q E h => ?_) (fun cdv A outer s H vs Q E hr h => ?_)
  · obtain ⟨wd, m, xs, ys, rfl, _⟩ := h
    rfl
  obtain ⟨wd, m, xs, ys, rfl, ⟨tb, tc, hw, hb, hc⟩, ne, hE⟩ := h
  have rest : PSs (cxOf (CXR P w) P w K mg base ["wood", "told", "k", "bough"] "ways" (defScope s_ways) a.f_ways cdv A outer s H E) ((defBody s_ways).drop 1) (fun _ _ _ => False) := fun _ _ _ _ _ _ h => h.elim
  refine ⟨_, pss_cons (ps_if (pt_cmpR op_gt (pe_callB (lenS (K := K)) rfl T.m_len PySem.boot_len (pa_cons (pe_ix (ixT (K := K)) (pv 0) pe_int (fun _ _ => rfl)) pa_nil)) pe_int (nomark _)) (pss_one (ps_raise rfl rfl T.g_NoCount T.x_NoCount.cl (pa_cons pe_str pa_nil) (fun _ _ _ _ _ _ _ I hx hW => xe_made I hx hW))) pss_nil) rest, ?_⟩
  refine ⟨_, rfl, wd, _, _, _, rfl, rfl, sqT hw, at2, tc, _, rfl, .inr (sqT hc), _, _, rfl, rfl, _, rfl, ?_⟩
  refine iteB (decide_eq_true ?_) ?_
  · have := List.length_pos_iff.mpr ne
    omega
  · exact ⟨by show 1 ≤ 1000; decide, hE⟩
theorem ok_law_refused (T : Txt K mg a d) : FnOk P w K mg base CX0 2 a.f_law_refused d.f_law_refused ["_law_wood_here"] spRefusedW := by
  have X_ways := ok_waysX (P := P) (w := w) (base := base) T
  refine T.K_law_refused.ok sc_law_refused (fun vs H Q E h => ?_) (fun cdv A outer s H vs Q E hr h => ?_)
  · obtain ⟨wd, m, xs, ys, rfl, _⟩ := h
    rfl
  obtain ⟨wd, m, xs, ys, rfl, WA, ne, q⟩ := h
  obtain ⟨W, hW⟩ : ∃ W : XK, W = fun cls _ H' => cls = .ref a.x_NoCount ∧ H' = H := ⟨_, rfl⟩
  refine ⟨_, (pss_cons (ps_set (i := 1) sc_law_refused.nd rfl (Or.inl rfl) pe_non)
      (pss_cons (ps_tryAs (i := 2) (W := W) rfl rfl (fun _ => (pss_one (ps_expr (pe_call X_ways (hr.mono (by first | decide | omega)) rfl T.g_ways T.K_ways.kp T.B_ways .nil passR (pa_cons (pv 0) pa_nil))))) rfl T.g_WoodError T.x_WoodError.cl sc_law_refused.nd rfl rfl (Or.inl rfl) (fun _ => (pss_one (ps_set (i := 1) sc_law_refused.nd rfl (Or.inl rfl) (pv 2)))))
      (pss_cons (ps_set (i := 3) sc_law_refused.nd rfl (Or.inl rfl) (pe_lst (pa_cons (pe_callB (isiX (K := K)) rfl T.m_isinstance PyProof.Rows.boot_isinstance (pa_cons (pv 1) (pa_cons (pe_glob (v := .ref a.x_NoName) rfl T.g_NoName rfl) pa_nil))) (pa_cons (pe_callB (isiX (K := K)) rfl T.m_isinstance PyProof.Rows.boot_isinstance (pa_cons (pv 1) (pa_cons (pe_glob (v := .ref a.x_NoOffer) rfl T.g_NoOffer rfl) pa_nil))) (pa_cons (pe_callB (isiX (K := K)) rfl T.m_isinstance PyProof.Rows.boot_isinstance (pa_cons (pv 1) (pa_cons (pe_glob (v := .ref a.x_NoRow) rfl T.g_NoRow rfl) pa_nil))) pa_nil)))))
      (pss_cons (ps_set (i := 3) sc_law_refused.nd rfl (Or.inl rfl) (pe_op op_cat (pv 3) (pe_lst (pa_cons (pe_callB (isiX (K := K)) rfl T.m_isinstance PyProof.Rows.boot_isinstance (pa_cons (pv 1) (pa_cons (pe_glob (v := .ref a.x_NoText) rfl T.g_NoText rfl) pa_nil))) (pa_cons (pe_callB (isiX (K := K)) rfl T.m_isinstance PyProof.Rows.boot_isinstance (pa_cons (pv 1) (pa_cons (pe_glob (v := .ref a.x_NoWares) rfl T.g_NoWares rfl) pa_nil))) (pa_cons (pe_callB (isiX (K := K)) rfl T.m_isinstance PyProof.Rows.boot_isinstance (pa_cons (pv 1) (pa_cons (pe_glob (v := .ref a.x_NoWood) rfl T.g_NoWood rfl) pa_nil))) pa_nil))))))
      (pss_cons (ps_set (i := 3) sc_law_refused.nd rfl (Or.inl rfl) (pe_op op_cat (pv 3) (pe_lst (pa_cons (pe_callB (isiX (K := K)) rfl T.m_isinstance PyProof.Rows.boot_isinstance (pa_cons (pv 1) (pa_cons (pe_glob (v := .ref a.x_Unlike) rfl T.g_Unlike rfl) pa_nil))) (pa_cons (pe_not (pe_callB (isiX (K := K)) rfl T.m_isinstance PyProof.Rows.boot_isinstance (pa_cons (pv 1) (pa_cons (pe_bltn (v := .ty "ValueError") rfl T.m_ValueError boot_VE rfl) pa_nil)))) pa_nil)))))
      (pss_one (ps_ret (pe_and (pe_callB (isiX (K := K)) rfl T.m_isinstance PyProof.Rows.boot_isinstance (pa_cons (pv 1) (pa_cons (pe_glob (v := .ref a.x_NoCount) rfl T.g_NoCount rfl) pa_nil))) (pe_one (pe_not (pe_callB (call_any_bl (K := K) rfl) rfl T.m_any PyProof.Rows.boot_any (pa_cons (pv 3) pa_nil)))))))))))), ?_⟩
  refine ⟨⟨_, rfl, wd, m, xs, ys, rfl, WA, ne, by rw [hW]; exact ⟨rfl, rfl⟩⟩, ?_⟩
  intro σ' H' ea Dc hl w1 hea
  rw [hW] at w1
  obtain ⟨ec, rfl⟩ := w1
  cases Value.ref.inj ec
  obtain ⟨v0, v1, v2, v3, rfl⟩ := len4 hl
  refine ⟨T.x_NoCount.cl, T.s_NoCount_WoodError, ?_⟩
  have s1 := same_new hea (.ext (excP ea a.x_NoCount))
  have h1 : L2.upd H' ea (.ext (excP ea a.x_NoCount)) ea = some (.ext (excP ea a.x_NoCount)) := upd_same
  generalize L2.upd H' ea (.ext (excP ea a.x_NoCount)) = H1 at s1 h1 ⊢
  refine ⟨_, rfl, ?_⟩
  refine ⟨_, rfl, ea, _, _, _, rfl, h1, T.x_NoCount, .inl ⟨_, rfl, T.k_NoCount_NoName⟩, _, rfl, ea, _, _, _, rfl, h1, T.x_NoCount, .inl ⟨_, rfl, T.k_NoCount_NoOffer⟩, _, rfl, ea, _, _, _, rfl, h1, T.x_NoCount, .inl ⟨_, rfl, T.k_NoCount_NoRow⟩, small (by show 3 ≤ 1000; decide), fun l1 hl1 => ?_⟩
  have s2 := same_new hl1 (.lst [.bl false, .bl false, .bl false])
  have h2 : L2.upd H1 l1 (.lst [.bl false, .bl false, .bl false]) l1 = some (.lst [.bl false, .bl false, .bl false]) := upd_same
  generalize L2.upd H1 l1 (.lst [.bl false, .bl false, .bl false]) = H2 at s2 h2 ⊢
  have e2 := s2 _ _ h1
  refine ⟨_, rfl, _, rfl, ea, _, _, _, rfl, e2, T.x_NoCount, .inl ⟨_, rfl, T.k_NoCount_NoText⟩, _, rfl, ea, _, _, _, rfl, e2, T.x_NoCount, .inl ⟨_, rfl, T.k_NoCount_NoWares⟩, _, rfl, ea, _, _, _, rfl, e2, T.x_NoCount, .inl ⟨_, rfl, T.k_NoCount_NoWood⟩, small (by show 3 ≤ 1000; decide), fun l2 hl2 => ?_⟩
  have s3 := same_new hl2 (.lst [.bl false, .bl false, .bl false])
  have h3 : L2.upd H2 l2 (.lst [.bl false, .bl false, .bl false]) l2 = some (.lst [.bl false, .bl false, .bl false]) := upd_same
  generalize L2.upd H2 l2 (.lst [.bl false, .bl false, .bl false]) = H3 at s3 h3 ⊢
  refine ⟨l1, l2, _, _, rfl, rfl, s3 _ _ h2, h3, small (by show 3 + 3 ≤ 1000; decide), fun l3 hl3 => ?_⟩
  have s4 := same_new hl3 (.lst ([.bl false, .bl false, .bl false] ++ [.bl false, .bl false, .bl false]))
  have h4 : L2.upd H3 l3 (.lst ([.bl false, .bl false, .bl false] ++ [.bl false, .bl false, .bl false])) l3 = some (.lst ([.bl false, .bl false, .bl false] ++ [.bl false, .bl false, .bl false])) := upd_same
  generalize L2.upd H3 l3 (.lst ([.bl false, .bl false, .bl false] ++ [.bl false, .bl false, .bl false])) = H4 at s4 h4 ⊢
  have e4 := (s3.trans s4) _ _ e2
  refine ⟨_, rfl, _, rfl, ea, _, _, _, rfl, e4, T.x_NoCount, .inl ⟨_, rfl, T.k_NoCount_Unlike⟩, _, rfl, ea, _, _, _, rfl, e4, T.x_NoCount, .inr ⟨_, rfl, T.v_NoCount⟩, _, rfl, small (by show 2 ≤ 1000; decide), fun l4 hl4 => ?_⟩
  have s5 := same_new hl4 (.lst [.bl false, .bl false])
  have h5 : L2.upd H4 l4 (.lst [.bl false, .bl false]) l4 = some (.lst [.bl false, .bl false]) := upd_same
  have h45 := s5 _ _ h4
  have e5 := s5 _ _ e4
  refine ⟨l3, l4, _, _, rfl, rfl, h45, h5, small (by show 6 + 2 ≤ 1000; decide), fun l5 hl5 => ?_⟩
  have s6 := same_new hl5 (.lst (([.bl false, .bl false, .bl false] ++ [.bl false, .bl false, .bl false]) ++ [.bl false, .bl false]))
  refine ⟨_, rfl, ea, _, _, _, rfl, s6 _ _ e5, T.x_NoCount, .inl ⟨_, rfl, T.k_NoCount_NoCount⟩, _, rfl, ?_⟩
  refine iteT ?_
  refine ⟨_, rfl, l5, List.replicate 8 false, rfl, SqL.of upd_same, _, rfl, ?_⟩
  exact q _ (((((s1.trans s2).trans s3).trans s4).trans s5).trans s6)

end
section
variable {P : Program} {w : World} {K : PySem.W.Frag} {mg : Str → Option Value} {base : Heap} {a : Adr} {d : Fds}
theorem ok_law (T : Txt K mg a d) : FnOk P w K mg base CX0 5 a.f_law d.f_law ["_law_script"] (spLaw K) := by
  have G_law_next := ok_law_next (P := P) (w := w) (base := base) T
  have G_law_wood := ok_law_wood (P := P) (w := w) (base := base) T
  have G_law_cross := ok_law_cross (P := P) (w := w) (base := base) T
  have G_law_ways := ok_law_ways (P := P) (w := w) (base := base) T
  have G_law_same := ok_law_same (P := P) (w := w) (base := base) T
  have G_law_refused := ok_law_refused (P := P) (w := w) (base := base) T
  have G_ways := ok_ways (P := P) (w := w) (base := base) T
  refine T.K_law.ok sc_law (fun vs H Q E h => ?_) (fun cdv A outer s H vs Q E hr h => ?_)
  · obtain ⟨p, ns, rfl, _⟩ := h
    rfl
  obtain ⟨sp, ns, rfl, hS, hl, q⟩ := h
  have p62 : (2 : Int) ^ 62 = 4611686018427387904 := by decide
  refine ⟨_, (pss_cons (ps_set (i := 1) sc_law.nd rfl (Or.inl rfl) (pe_lst (pa_cons (pv 0) (pa_cons pe_int pa_nil))))
      (pss_cons (ps_set (i := 2) sc_law.nd rfl (Or.inl rfl) (pe_ix (ixL (K := K)) (pe_lst (pa_cons pe_int (pa_cons pe_int (pa_cons pe_int (pa_cons pe_int (pa_cons pe_int (pa_cons pe_int (pa_cons pe_int (pa_cons pe_int pa_nil))))))))) (pe_call G_law_next (hr.mono (by first | decide | omega)) rfl T.g_law_next T.K_law_next.kp T.B_law_next .nil pass0 (pa_cons (pv 1) (pa_cons pe_int pa_nil))) (fun _ _ => rfl)))
      (pss_cons (ps_set (i := 3) sc_law.nd rfl (Or.inr rfl) (pe_call G_law_wood (hr.mono (by first | decide | omega)) rfl T.g_law_wood T.K_law_wood.kp T.B_law_wood .nil pass0 (pa_cons (pv 1) (pa_cons (pv 2) (pa_cons pe_int pa_nil)))))
      (pss_cons (ps_set (i := 4) sc_law.nd rfl (Or.inl rfl) (pe_tup (pa_cons (pe_ix (ixT (K := K)) (pv 3) pe_int (fun _ _ => rfl)) (pa_cons (pe_ix (ixT (K := K)) (pv 3) pe_int (fun _ _ => rfl)) (pa_cons (pe_tup (pa_cons (pe_call G_law_cross (hr.mono (by first | decide | omega)) rfl T.g_law_cross T.K_law_cross.kp T.B_law_cross .nil pass0 (pa_cons (pv 1) (pa_cons (pv 2) pa_nil))) pa_nil)) pa_nil)))))
      (pss_cons (ps_setLc (i := 5) sc_law.nd rfl rfl rfl (sc0 := defScope s_law) (XN := ["_law_script", "_law_pen", "_law_many", "_law_wood_here", "_law_crossed", "_law_due", "_law_found"]) (N' := ["_law_k", "_law_wood_here"]) (n := 1) (kp := [3]) rfl (pi_range1 rfl T.m_range (pa_cons (pv 2) pa_nil)) rfl rfl (by decide +kernel) (fun _ _ _ _ _ => (pg_name (i := 0) (by show List.Nodup (["_law_k", "_law_wood_here"] : List Str); decide +kernel) rfl (Or.inl rfl))) (fun _ _ _ _ _ => pts_nil) (fun _ _ _ _ _ => (pe_call G_law_ways (hr.mono (by first | decide | omega)) rfl T.g_law_ways T.K_law_ways.kp T.B_law_ways .nil pass0 (pa_cons (pv 1) (pa_cons (pv 0) pa_nil)))))
      (pss_cons (ps_set (i := 6) sc_law.nd rfl (Or.inl rfl) (pe_call G_ways (hr.mono (by first | decide | omega)) rfl T.g_ways T.K_ways.kp T.B_ways .nil pass0 (pa_cons (pv 3) pa_nil)))
      (pss_cons (ps_if (PW.pt (pw_or (pt_not (pt_val (pe_call G_law_same (hr.mono (by first | decide | omega)) rfl T.g_law_same T.K_law_same.kp T.B_law_same .nil pass0 (pa_cons (pv 6) (pa_cons (pv 5) pa_nil))))) (pw_or1 (pt_not (pt_val (pe_call G_law_refused (hr.mono (by first | decide | omega)) rfl T.g_law_refused T.K_law_refused.kp T.B_law_refused .nil pass0 (pa_cons (pv 4) pa_nil))))))) (pss_one (ps_ret pe_bl)) pss_nil)
      (pss_cons (ps_expr (pe_bmK (K := K) PySem.F.plainAttrs_list PySem.F.slot_list_append PySem.F.type_list_append mt_append (pv 6) (pa_cons pe_int pa_nil)))
      (pss_cons (ps_expr (pe_bm0K (K := K) PySem.F.plainAttrs_list PySem.F.slot_list_reverse PySem.F.type_list_reverse mt_reverse (pv 6)))
      (pss_one (ps_ret (pe_call G_law_same (hr.mono (by first | decide | omega)) rfl T.g_law_same T.K_law_same.kp T.B_law_same .nil pass0 (pa_cons (pe_call G_ways (hr.mono (by first | decide | omega)) rfl T.g_ways T.K_ways.kp T.B_ways .nil pass0 (pa_cons (pv 3) pa_nil)) (pa_cons (pv 5) pa_nil)))))))))))))), ?_⟩
  refine ⟨_, rfl, small (by show 2 ≤ 1000; decide), fun pen hpen => ?_⟩
  have pn := pen_new hS hl hpen
  generalize hH1 : L2.upd H pen (.lst [.ref sp, .int 0]) = H1 at pn ⊢
  refine ⟨small (by show 8 ≤ 1000; decide), fun tl htl => ?_⟩
  have s2 := same_new htl (.lst [.int 4, .int 3, .int 5, .int 2, .int 4, .int 6, .int 1, .int 5])
  have ntp : tl ≠ pen := fun z => by have := pn.at_; rw [← z, htl] at this; cases this
  refine ⟨_, rfl, pen, sp, ns, 8, 0, rfl, pn.to (Same.x s2) (s2 _ _ pn.at_), by decide, by decide, by decide, fun c c0 c1 => ?_⟩
  have sx3 := SameX.trans (Same.x (pen := pen) s2) (sameX_pen (pen := pen) (.lst [.ref sp, .int (0 + 1)]))
  obtain ⟨m, hat, m1, m9⟩ : ∃ m : Nat, atI [V.int 4, V.int 3, V.int 5, V.int 2, V.int 4, V.int 6, V.int 1, V.int 5] c = some (.int (m : Int)) ∧ 1 ≤ m ∧ m ≤ 9 := by
    have e : c = 0 ∨ c = 1 ∨ c = 2 ∨ c = 3 ∨ c = 4 ∨ c = 5 ∨ c = 6 ∨ c = 7 := by omega
    rcases e with e | e | e | e | e | e | e | e <;> rw [e]
    · exact ⟨4, rfl, by decide, by decide⟩
    · exact ⟨3, rfl, by decide, by decide⟩
    · exact ⟨5, rfl, by decide, by decide⟩
    · exact ⟨2, rfl, by decide, by decide⟩
    · exact ⟨4, rfl, by decide, by decide⟩
    · exact ⟨6, rfl, by decide, by decide⟩
    · exact ⟨1, rfl, by decide, by decide⟩
    · exact ⟨5, rfl, by decide, by decide⟩
  refine ⟨tl, _, _, _, rfl, rfl, SqL.of (by rw [upd_ne ntp]; exact upd_same), hat, ?_⟩
  generalize hH3 : L2.upd (L2.upd H1 tl (.lst [.int 4, .int 3, .int 5, .int 2, .int 4, .int 6, .int 1, .int 5])) pen (.lst [.ref sp, .int (0 + 1)]) = H3 at sx3 ⊢
  have hp3 : H3 pen = some (.lst [.ref sp, .int (0 + 1)]) := by rw [← hH3]; exact upd_same
  refine ⟨_, rfl, _, rfl, pen, sp, ns, m, 0, 0 + 1, rfl, pn.to sx3 hp3, by decide, by decide, m1, m9, by decide, by decide, fun wd bs cs k5 H5 sx5 hp5 k50 k51 W5 lc5 => ?_⟩
  obtain ⟨L, eL, WB⟩ := woodB_of W5 (List.eq_nil_of_length_eq_zero (by omega))
  have B5 := WB H5 fun _ _ h => h
  have TR := B5.T
  obtain ⟨xs, ⟨tb, tc, hw, hb, hc⟩, dn⟩ := B5.ex
  refine ⟨_, rfl, wd, _, _, _, rfl, rfl, sqT hw, at0, ?_⟩
  refine ⟨_, rfl, wd, _, _, _, rfl, rfl, sqT hw, at1, ?_⟩
  refine ⟨_, rfl, _, rfl, pen, sp, ns, m, k5, rfl, pn.to (sx3.trans sx5) hp5, by omega, by omega, m1, m9, fun dd vd k6 H6 sx6 hp6 k60 k61 hd6 it6 fl6 => ?_⟩
  have t6 : TupS H5 H6 := SameX.tup hp5 sx6
  refine ⟨small (by show 1 ≤ 1000; decide), fun ta hta => ?_⟩
  have s7 := same_new hta (.tup [vd])
  have ht7 : L2.upd H6 ta (.tup [vd]) ta = some (.tup [vd]) := upd_same
  generalize L2.upd H6 ta (.tup [vd]) = H7 at s7 ht7 ⊢
  refine ⟨small (by show 3 ≤ 1000; decide), fun tw htw => ?_⟩
  have s8 := same_new htw (.tup [.int (m : Int), .ref tb, .ref ta])
  have ht8 : L2.upd H7 tw (.tup [.int (m : Int), .ref tb, .ref ta]) tw = some (.tup [.int (m : Int), .ref tb, .ref ta]) := upd_same
  generalize L2.upd H7 tw (.tup [.int (m : Int), .ref tb, .ref ta]) = H8 at s8 ht8 ⊢
  have s68 := s7.trans s8
  have t8 : TupS H5 H8 := fun b xs hb => s68 _ _ (t6 b xs hb)
  have WC : WoodAt H8 tw m xs [vd] := ⟨tb, ta, ht8, t8 _ _ hb, s8 _ _ ht7⟩
  have B8 := WB H8 t8
  refine ⟨_, rfl, _, rfl, by rw [p62]; omega, by rw [p62]; omega, ?_⟩
  rw [Int.toNat_natCast]
  refine lc_range0 (k := m) (fun i ys σ H9 => (∃ v, σ = [v, some (.ref wd)]) ∧ Same H8 H9 ∧ ys = natsL ((List.range i).map (waysW m L))) ⟨⟨none, rfl⟩, Same.refl _, rfl⟩ (fun i ys σ H9 hi pv => ?_) (fun i ys σ H9 hi pv => ?_) (fun ys σ H9 pv ld hld => ?_)
  · obtain ⟨_, _, rfl⟩ := pv
    rw [List.length_map, List.length_map, List.length_range]
    exact small (by omega)
  · obtain ⟨⟨v, rfl⟩, s9, rfl⟩ := pv
    refine ⟨_, rfl, _, rfl, wd, m, L, i, rfl, B8.same s9, hi, fun HA sA => ?_⟩
    refine ⟨⟨_, rfl⟩, s9.trans sA, ?_⟩
    rw [List.range_succ, List.map_append, natsL_app]
    rfl
  obtain ⟨_, s9, rfl⟩ := pv
  have sA := s9.trans (same_new hld (.lst (natsL ((List.range m).map (waysW m L)))))
  have hA : L2.upd H9 ld (.lst (natsL ((List.range m).map (waysW m L)))) ld = some (.lst (natsL ((List.range m).map (waysW m L)))) := upd_same
  generalize L2.upd H9 ld (.lst (natsL ((List.range m).map (waysW m L)))) = HA at sA hA ⊢
  have BA := B8.same sA
  have fw : ((List.range m).map (waysW m L)).length ≤ 9 := by rw [List.length_map, List.length_range]; exact m9
  refine ⟨_, rfl, wd, m, L, rfl, BA, fun lf HB sB nlf hB => ?_⟩
  refine ⟨_, rfl, _, rfl, lf, ld, _, _, rfl, hB, sB _ _ hA, by omega, fun HC sC => ?_⟩
  rw [decide_eq_true rfl]
  refine ⟨_, rfl, ?_⟩
  refine iteF ?_
  have s8C := sA.trans (sB.trans sC)
  refine ⟨_, rfl, tw, m, xs, [vd], rfl, WoodAt.same s8C WC, (fun z => nomatch z), fun HD sD => ?_⟩
  refine ⟨_, rfl, ?_⟩
  refine iteF ?_
  have sAD := sB.trans (sC.trans sD)
  have hfD : HD lf = _ := sD _ _ (sC _ _ hB)
  have hdD := sAD _ _ hA
  have ndf : ld ≠ lf := fun z => by rw [← z, hA] at nlf; cases nlf
  refine ⟨_, rfl, .inl ⟨rfl, _, SqL.of hfD⟩, lf, _, _, rfl, rfl, hfD, (by rw [List.length_map]; exact small1000 (by omega)), ?_⟩
  generalize hX : natsL ((List.range m).map (waysW m L)) ++ [V.int 0] = LX
  have sxF := sameX_pen (pen := lf) (H := HD) (.lst LX)
  have h2F : (L2.upd HD lf (.lst LX)) lf = some (.lst LX) := upd_same
  generalize L2.upd HD lf (.lst LX) = HF at sxF h2F ⊢
  refine ⟨_, rfl, .inl ⟨rfl, _, SqL.of h2F⟩, lf, _, rfl, rfl, h2F, ?_⟩
  have sxG := sxF.trans (sameX_pen (pen := lf) (H := HF) (.lst LX.reverse))
  generalize L2.upd HF lf (.lst LX.reverse) = HG at sxG ⊢
  have hdG : HG ld = _ := sxG _ _ ndf hdD
  have WG := WB HG (fun b xs hb => (SameX.tup hfD sxG) b xs ((sA.trans sAD) _ _ (t8 b xs hb)))
  refine ⟨_, rfl, wd, m, L, rfl, WG, fun l5 HH sH nl5 h5 => ?_⟩
  refine ⟨_, rfl, l5, ld, _, _, rfl, h5, sH _ _ hdG, by omega, fun HI sI => ?_⟩
  rw [decide_eq_true rfl]
  exact q _

end

-- FOOT
@[elab_as_elim] theorem len1 {α : Type} {R : List α → Prop} : ∀ us : List α, us.length = 1 → (∀ x0, R [x0]) → R us | [x0], _, h => h x0
@[elab_as_elim] theorem len2 {α : Type} {R : List α → Prop} : ∀ us : List α, us.length = 2 → (∀ x0 x1, R [x0, x1]) → R us | [x0, x1], _, h => h x0 x1
@[elab_as_elim] theorem len3 {α : Type} {R : List α → Prop} : ∀ us : List α, us.length = 3 → (∀ x0 x1 x2, R [x0, x1, x2]) → R us | [x0, x1, x2], _, h => h x0 x1 x2
theorem all_mk {l : PySem.W.OpenLaw} {w : World} {K : PySem.W.Frag} {h : Heap} {mg : Str → Option Value} {fa f1 f2 f3 f4 f5 f6 f7 f8 f9 f10 f11 f12 f13 f14 f15 y_WoodError y_NoWood y_NoCount y_NoWares y_NoOffer y_Unlike y_NoText y_NoRow y_NoName : Addr} (X : K.In h) (G : h.Ns mainGlobals mg) (hfa : mg "law" = some (.ref fa))
    {od1 an1 od2 an2 od3 an3 od4 an4 od5 an5 od6 an6 od7 an7 od8 an8 od9 an9 od10 an10 od11 an11 od12 an12 od13 an13 od14 an14 od15 an15 : Option Addr} {sl1 sl2 sl3 sl4 sl5 sl6 sl7 sl8 sl9 sl10 sl11 sl12 sl13 sl14 sl15 : Array (Option Value)} {kV1 dc1 pm1 ct1 oc1 cd1 kV2 dc2 pm2 ct2 oc2 cd2 kV3 dc3 pm3 ct3 oc3 cd3 kV4 dc4 pm4 ct4 oc4 cd4 kV5 dc5 pm5 ct5 oc5 cd5 kV6 dc6 pm6 ct6 oc6 cd6 kV7 dc7 pm7 ct7 oc7 cd7 kV8 dc8 pm8 ct8 oc8 cd8 kV9 dc9 pm9 ct9 oc9 cd9 kV10 dc10 pm10 ct10 oc10 cd10 kV11 dc11 pm11 ct11 oc11 cd11 kV12 dc12 pm12 ct12 oc12 cd12 kV13 dc13 pm13 ct13 oc13 cd13 kV14 dc14 pm14 ct14 oc14 cd14 kV15 dc15 pm15 ct15 oc15 cd15 : Value}
    (a1 : PySem.W.nsIn K mainGlobals "ways" = some (some (.ref f1))) (l1 : K.lookup f1 = some ⟨oc1, od1, .func (PySem.W.fnOf "ways" "ways" (defArgs s_ways) (defBody s_ways) (defScope s_ways) .none kV1 dc1 pm1 an1 cd1 ct1), sl1⟩) (c1 : PySem.W.codeIn K cd1 "ways" = true) (k1 : PySem.W.keepIn K (.ref f1) = true)
    (a2 : PySem.W.nsIn K mainGlobals "bough_ways" = some (some (.ref f2))) (l2 : K.lookup f2 = some ⟨oc2, od2, .func (PySem.W.fnOf "bough_ways" "bough_ways" (defArgs s_bough_ways) (defBody s_bough_ways) (defScope s_bough_ways) .none kV2 dc2 pm2 an2 cd2 ct2), sl2⟩) (c2 : PySem.W.codeIn K cd2 "bough_ways" = true) (k2 : PySem.W.keepIn K (.ref f2) = true)
    (a3 : PySem.W.nsIn K mainGlobals "with_kid" = some (some (.ref f3))) (l3 : K.lookup f3 = some ⟨oc3, od3, .func (PySem.W.fnOf "with_kid" "with_kid" (defArgs s_with_kid) (defBody s_with_kid) (defScope s_with_kid) .none kV3 dc3 pm3 an3 cd3 ct3), sl3⟩) (c3 : PySem.W.codeIn K cd3 "with_kid" = true) (k3 : PySem.W.keepIn K (.ref f3) = true)
    (a4 : PySem.W.nsIn K mainGlobals "_law_cell" = some (some (.ref f4))) (l4 : K.lookup f4 = some ⟨oc4, od4, .func (PySem.W.fnOf "_law_cell" "_law_cell" (defArgs s_law_cell) (defBody s_law_cell) (defScope s_law_cell) .none kV4 dc4 pm4 an4 cd4 ct4), sl4⟩) (c4 : PySem.W.codeIn K cd4 "_law_cell" = true) (k4 : PySem.W.keepIn K (.ref f4) = true)
    (a5 : PySem.W.nsIn K mainGlobals "_law_next" = some (some (.ref f5))) (l5 : K.lookup f5 = some ⟨oc5, od5, .func (PySem.W.fnOf "_law_next" "_law_next" (defArgs s_law_next) (defBody s_law_next) (defScope s_law_next) .none kV5 dc5 pm5 an5 cd5 ct5), sl5⟩) (c5 : PySem.W.codeIn K cd5 "_law_next" = true) (k5 : PySem.W.keepIn K (.ref f5) = true)
    (a6 : PySem.W.nsIn K mainGlobals "_law_kids" = some (some (.ref f6))) (l6 : K.lookup f6 = some ⟨oc6, od6, .func (PySem.W.fnOf "_law_kids" "_law_kids" (defArgs s_law_kids) (defBody s_law_kids) (defScope s_law_kids) .none kV6 dc6 pm6 an6 cd6 ct6), sl6⟩) (c6 : PySem.W.codeIn K cd6 "_law_kids" = true) (k6 : PySem.W.keepIn K (.ref f6) = true)
    (a7 : PySem.W.nsIn K mainGlobals "_law_bough" = some (some (.ref f7))) (l7 : K.lookup f7 = some ⟨oc7, od7, .func (PySem.W.fnOf "_law_bough" "_law_bough" (defArgs s_law_bough) (defBody s_law_bough) (defScope s_law_bough) .none kV7 dc7 pm7 an7 cd7 ct7), sl7⟩) (c7 : PySem.W.codeIn K cd7 "_law_bough" = true) (k7 : PySem.W.keepIn K (.ref f7) = true)
    (a8 : PySem.W.nsIn K mainGlobals "_law_cross" = some (some (.ref f8))) (l8 : K.lookup f8 = some ⟨oc8, od8, .func (PySem.W.fnOf "_law_cross" "_law_cross" (defArgs s_law_cross) (defBody s_law_cross) (defScope s_law_cross) .none kV8 dc8 pm8 an8 cd8 ct8), sl8⟩) (c8 : PySem.W.codeIn K cd8 "_law_cross" = true) (k8 : PySem.W.keepIn K (.ref f8) = true)
    (a9 : PySem.W.nsIn K mainGlobals "_law_wood" = some (some (.ref f9))) (l9 : K.lookup f9 = some ⟨oc9, od9, .func (PySem.W.fnOf "_law_wood" "_law_wood" (defArgs s_law_wood) (defBody s_law_wood) (defScope s_law_wood) .none kV9 dc9 pm9 an9 cd9 ct9), sl9⟩) (c9 : PySem.W.codeIn K cd9 "_law_wood" = true) (k9 : PySem.W.keepIn K (.ref f9) = true)
    (a10 : PySem.W.nsIn K mainGlobals "_law_keeps" = some (some (.ref f10))) (l10 : K.lookup f10 = some ⟨oc10, od10, .func (PySem.W.fnOf "_law_keeps" "_law_keeps" (defArgs s_law_keeps) (defBody s_law_keeps) (defScope s_law_keeps) .none kV10 dc10 pm10 an10 cd10 ct10), sl10⟩) (c10 : PySem.W.codeIn K cd10 "_law_keeps" = true) (k10 : PySem.W.keepIn K (.ref f10) = true)
    (a11 : PySem.W.nsIn K mainGlobals "_law_beneath" = some (some (.ref f11))) (l11 : K.lookup f11 = some ⟨oc11, od11, .func (PySem.W.fnOf "_law_beneath" "_law_beneath" (defArgs s_law_beneath) (defBody s_law_beneath) (defScope s_law_beneath) .none kV11 dc11 pm11 an11 cd11 ct11), sl11⟩) (c11 : PySem.W.codeIn K cd11 "_law_beneath" = true) (k11 : PySem.W.keepIn K (.ref f11) = true)
    (a12 : PySem.W.nsIn K mainGlobals "_law_ways" = some (some (.ref f12))) (l12 : K.lookup f12 = some ⟨oc12, od12, .func (PySem.W.fnOf "_law_ways" "_law_ways" (defArgs s_law_ways) (defBody s_law_ways) (defScope s_law_ways) .none kV12 dc12 pm12 an12 cd12 ct12), sl12⟩) (c12 : PySem.W.codeIn K cd12 "_law_ways" = true) (k12 : PySem.W.keepIn K (.ref f12) = true)
    (a13 : PySem.W.nsIn K mainGlobals "_law_same" = some (some (.ref f13))) (l13 : K.lookup f13 = some ⟨oc13, od13, .func (PySem.W.fnOf "_law_same" "_law_same" (defArgs s_law_same) (defBody s_law_same) (defScope s_law_same) .none kV13 dc13 pm13 an13 cd13 ct13), sl13⟩) (c13 : PySem.W.codeIn K cd13 "_law_same" = true) (k13 : PySem.W.keepIn K (.ref f13) = true)
    (a14 : PySem.W.nsIn K mainGlobals "_law_refused" = some (some (.ref f14))) (l14 : K.lookup f14 = some ⟨oc14, od14, .func (PySem.W.fnOf "_law_refused" "_law_refused" (defArgs s_law_refused) (defBody s_law_refused) (defScope s_law_refused) .none kV14 dc14 pm14 an14 cd14 ct14), sl14⟩) (c14 : PySem.W.codeIn K cd14 "_law_refused" = true) (k14 : PySem.W.keepIn K (.ref f14) = true)
    (a15 : PySem.W.nsIn K mainGlobals "law" = some (some (.ref f15))) (l15 : K.lookup f15 = some ⟨oc15, od15, .func (PySem.W.fnOf "law" "law" (defArgs s_law) (defBody s_law) (defScope s_law) .none kV15 dc15 pm15 an15 cd15 ct15), sl15⟩) (c15 : PySem.W.codeIn K cd15 "law" = true) (k15 : PySem.W.keepIn K (.ref f15) = true)
    (z1 : PySem.W.nsIn K mainGlobals "ValueError" = some none)
    (z2 : PySem.W.nsIn K mainGlobals "range" = some none)
    (z3 : PySem.W.nsIn K mainGlobals "len" = some none)
    (z4 : PySem.W.nsIn K mainGlobals "isinstance" = some none)
    (z5 : PySem.W.nsIn K mainGlobals "max" = some none)
    (z6 : PySem.W.nsIn K mainGlobals "int" = some none)
    (z7 : PySem.W.nsIn K mainGlobals "bool" = some none)
    (z8 : PySem.W.nsIn K mainGlobals "list" = some none)
    (z9 : PySem.W.nsIn K mainGlobals "tuple" = some none)
    (z10 : PySem.W.nsIn K mainGlobals "sum" = some none)
    (z11 : PySem.W.nsIn K mainGlobals "any" = some none)
    (z12 : PySem.W.nsIn K mainGlobals "zip" = some none)
    (g_WoodError : PySem.W.nsIn K mainGlobals "WoodError" = some (some (.ref y_WoodError)))
    (g_NoWood : PySem.W.nsIn K mainGlobals "NoWood" = some (some (.ref y_NoWood)))
    (g_NoCount : PySem.W.nsIn K mainGlobals "NoCount" = some (some (.ref y_NoCount)))
    (g_NoWares : PySem.W.nsIn K mainGlobals "NoWares" = some (some (.ref y_NoWares)))
    (g_NoOffer : PySem.W.nsIn K mainGlobals "NoOffer" = some (some (.ref y_NoOffer)))
    (g_Unlike : PySem.W.nsIn K mainGlobals "Unlike" = some (some (.ref y_Unlike)))
    (g_NoText : PySem.W.nsIn K mainGlobals "NoText" = some (some (.ref y_NoText)))
    (g_NoRow : PySem.W.nsIn K mainGlobals "NoRow" = some (some (.ref y_NoRow)))
    (g_NoName : PySem.W.nsIn K mainGlobals "NoName" = some (some (.ref y_NoName)))
    (xa_WoodError : PySem.W.excIn K y_WoodError bmVE nwVE = true) (xb_WoodError : PySem.W.findIn K (.ref y_WoodError) "__getattribute__" = some (some (.builtin "BaseException.__getattribute__"))) (xc_WoodError : PySem.W.findIn K (.ref y_WoodError) "__getattr__" = some none) (xd_WoodError : PySem.W.findIn K (.ref y_WoodError) "__class__" = some (some (.builtin "object.__class__")))
    (xa_NoWood : PySem.W.excIn K y_NoWood bmVE nwVE = true) (xb_NoWood : PySem.W.findIn K (.ref y_NoWood) "__getattribute__" = some (some (.builtin "BaseException.__getattribute__"))) (xc_NoWood : PySem.W.findIn K (.ref y_NoWood) "__getattr__" = some none) (xd_NoWood : PySem.W.findIn K (.ref y_NoWood) "__class__" = some (some (.builtin "object.__class__")))
    (xa_NoCount : PySem.W.excIn K y_NoCount bmVE nwVE = true) (xb_NoCount : PySem.W.findIn K (.ref y_NoCount) "__getattribute__" = some (some (.builtin "BaseException.__getattribute__"))) (xc_NoCount : PySem.W.findIn K (.ref y_NoCount) "__getattr__" = some none) (xd_NoCount : PySem.W.findIn K (.ref y_NoCount) "__class__" = some (some (.builtin "object.__class__")))
    (xa_NoWares : PySem.W.excIn K y_NoWares bmVE nwVE = true) (xb_NoWares : PySem.W.findIn K (.ref y_NoWares) "__getattribute__" = some (some (.builtin "BaseException.__getattribute__"))) (xc_NoWares : PySem.W.findIn K (.ref y_NoWares) "__getattr__" = some none) (xd_NoWares : PySem.W.findIn K (.ref y_NoWares) "__class__" = some (some (.builtin "object.__class__")))
    (xa_NoOffer : PySem.W.excIn K y_NoOffer bmVE nwVE = true) (xb_NoOffer : PySem.W.findIn K (.ref y_NoOffer) "__getattribute__" = some (some (.builtin "BaseException.__getattribute__"))) (xc_NoOffer : PySem.W.findIn K (.ref y_NoOffer) "__getattr__" = some none) (xd_NoOffer : PySem.W.findIn K (.ref y_NoOffer) "__class__" = some (some (.builtin "object.__class__")))
    (xa_Unlike : PySem.W.excIn K y_Unlike bmVE nwVE = true) (xb_Unlike : PySem.W.findIn K (.ref y_Unlike) "__getattribute__" = some (some (.builtin "BaseException.__getattribute__"))) (xc_Unlike : PySem.W.findIn K (.ref y_Unlike) "__getattr__" = some none) (xd_Unlike : PySem.W.findIn K (.ref y_Unlike) "__class__" = some (some (.builtin "object.__class__")))
    (xa_NoText : PySem.W.excIn K y_NoText bmVE nwVE = true) (xb_NoText : PySem.W.findIn K (.ref y_NoText) "__getattribute__" = some (some (.builtin "BaseException.__getattribute__"))) (xc_NoText : PySem.W.findIn K (.ref y_NoText) "__getattr__" = some none) (xd_NoText : PySem.W.findIn K (.ref y_NoText) "__class__" = some (some (.builtin "object.__class__")))
    (xa_NoRow : PySem.W.excIn K y_NoRow bmVE nwVE = true) (xb_NoRow : PySem.W.findIn K (.ref y_NoRow) "__getattribute__" = some (some (.builtin "BaseException.__getattribute__"))) (xc_NoRow : PySem.W.findIn K (.ref y_NoRow) "__getattr__" = some none) (xd_NoRow : PySem.W.findIn K (.ref y_NoRow) "__class__" = some (some (.builtin "object.__class__")))
    (xa_NoName : PySem.W.excIn K y_NoName bmVE nwVE = true) (xb_NoName : PySem.W.findIn K (.ref y_NoName) "__getattribute__" = some (some (.builtin "BaseException.__getattribute__"))) (xc_NoName : PySem.W.findIn K (.ref y_NoName) "__getattr__" = some none) (xd_NoName : PySem.W.findIn K (.ref y_NoName) "__class__" = some (some (.builtin "object.__class__")))
    (k_NoCount_WoodError : PySem.W.kitOne K (.ref y_NoCount) (.ref y_WoodError) = some true)
    (k_NoCount_NoWood : PySem.W.kitOne K (.ref y_NoCount) (.ref y_NoWood) = some false)
    (k_NoCount_NoCount : PySem.W.kitOne K (.ref y_NoCount) (.ref y_NoCount) = some true)
    (k_NoCount_NoWares : PySem.W.kitOne K (.ref y_NoCount) (.ref y_NoWares) = some false)
    (k_NoCount_NoOffer : PySem.W.kitOne K (.ref y_NoCount) (.ref y_NoOffer) = some false)
    (k_NoCount_Unlike : PySem.W.kitOne K (.ref y_NoCount) (.ref y_Unlike) = some false)
    (k_NoCount_NoText : PySem.W.kitOne K (.ref y_NoCount) (.ref y_NoText) = some false)
    (k_NoCount_NoRow : PySem.W.kitOne K (.ref y_NoCount) (.ref y_NoRow) = some false)
    (k_NoCount_NoName : PySem.W.kitOne K (.ref y_NoCount) (.ref y_NoName) = some false)
    (v_NoCount : PySem.W.kitOne K (.ref y_NoCount) (.type "ValueError") = some true)
    (s_NoCount_WoodError : xsub K y_NoCount y_WoodError = true)
    : (∃ fd : FuncData, (∀ (s : Shared) (v : Value), BindsTo s fd ⟨[v], []⟩ [("_law_script", v)]) ∧ ∀ base : Heap, K.In base → base.Ns mainGlobals mg → FnOk l.prog w K mg base CX0 5 fa fd ["_law_script"] (spLaw K)) := by
  have e := hfa.symm.trans (PySem.W.mg_of X G a15)
  cases e
  have F1 := fun_mk (st := s_ways) l1 c1 k1
  have F2 := fun_mk (st := s_bough_ways) l2 c2 k2
  have F3 := fun_mk (st := s_with_kid) l3 c3 k3
  have F4 := fun_mk (st := s_law_cell) l4 c4 k4
  have F5 := fun_mk (st := s_law_next) l5 c5 k5
  have F6 := fun_mk (st := s_law_kids) l6 c6 k6
  have F7 := fun_mk (st := s_law_bough) l7 c7 k7
  have F8 := fun_mk (st := s_law_cross) l8 c8 k8
  have F9 := fun_mk (st := s_law_wood) l9 c9 k9
  have F10 := fun_mk (st := s_law_keeps) l10 c10 k10
  have F11 := fun_mk (st := s_law_beneath) l11 c11 k11
  have F12 := fun_mk (st := s_law_ways) l12 c12 k12
  have F13 := fun_mk (st := s_law_same) l13 c13 k13
  have F14 := fun_mk (st := s_law_refused) l14 c14 k14
  have F15 := fun_mk (st := s_law) l15 c15 k15
  have b1 := F1.binds (ps := ["wood"]) fun _ _ _ _ _ _ us hl => len1 us hl fun _ => rfl
  have b2 := F2.binds (ps := ["bough", "option_ways"]) fun _ _ _ _ _ _ us hl => len2 us hl fun _ _ => rfl
  have b3 := F3.binds (ps := ["by_count", "kid_ways"]) fun _ _ _ _ _ _ us hl => len2 us hl fun _ _ => rfl
  have b4 := F4.binds (ps := ["_law_script", "_law_k"]) fun _ _ _ _ _ _ us hl => len2 us hl fun _ _ => rfl
  have b5 := F5.binds (ps := ["_law_pen", "_law_most"]) fun _ _ _ _ _ _ us hl => len2 us hl fun _ _ => rfl
  have b6 := F6.binds (ps := ["_law_pen", "_law_many"]) fun _ _ _ _ _ _ us hl => len2 us hl fun _ _ => rfl
  have b7 := F7.binds (ps := ["_law_pen", "_law_up", "_law_kids_here"]) fun _ _ _ _ _ _ us hl => len3 us hl fun _ _ _ => rfl
  have b8 := F8.binds (ps := ["_law_pen", "_law_many"]) fun _ _ _ _ _ _ us hl => len2 us hl fun _ _ => rfl
  have b9 := F9.binds (ps := ["_law_pen", "_law_many", "_law_most"]) fun _ _ _ _ _ _ us hl => len3 us hl fun _ _ _ => rfl
  have b10 := F10.binds (ps := ["_law_tie", "_law_some"]) fun _ _ _ _ _ _ us hl => len2 us hl fun _ _ => rfl
  have b11 := F11.binds (ps := ["_law_wood_here", "_law_k"]) fun _ _ _ _ _ _ us hl => len2 us hl fun _ _ => rfl
  have b12 := F12.binds (ps := ["_law_wood_here", "_law_k"]) fun _ _ _ _ _ _ us hl => len2 us hl fun _ _ => rfl
  have b13 := F13.binds (ps := ["_law_found", "_law_due"]) fun _ _ _ _ _ _ us hl => len2 us hl fun _ _ => rfl
  have b14 := F14.binds (ps := ["_law_wood_here"]) fun _ _ _ _ _ _ us hl => len1 us hl fun _ => rfl
  have b15 := F15.binds (ps := ["_law_script"]) fun _ _ _ _ _ _ us hl => len1 us hl fun _ => rfl
  have T : Txt K mg ⟨f1, f2, f3, f4, f5, f6, f7, f8, f9, f10, f11, f12, f13, f14, fa, y_WoodError, y_NoWood, y_NoCount, y_NoWares, y_NoOffer, y_Unlike, y_NoText, y_NoRow, y_NoName⟩ ⟨PySem.W.fnOf "ways" "ways" (defArgs s_ways) (defBody s_ways) (defScope s_ways) .none kV1 dc1 pm1 an1 cd1 ct1, PySem.W.fnOf "bough_ways" "bough_ways" (defArgs s_bough_ways) (defBody s_bough_ways) (defScope s_bough_ways) .none kV2 dc2 pm2 an2 cd2 ct2, PySem.W.fnOf "with_kid" "with_kid" (defArgs s_with_kid) (defBody s_with_kid) (defScope s_with_kid) .none kV3 dc3 pm3 an3 cd3 ct3, PySem.W.fnOf "_law_cell" "_law_cell" (defArgs s_law_cell) (defBody s_law_cell) (defScope s_law_cell) .none kV4 dc4 pm4 an4 cd4 ct4, PySem.W.fnOf "_law_next" "_law_next" (defArgs s_law_next) (defBody s_law_next) (defScope s_law_next) .none kV5 dc5 pm5 an5 cd5 ct5, PySem.W.fnOf "_law_kids" "_law_kids" (defArgs s_law_kids) (defBody s_law_kids) (defScope s_law_kids) .none kV6 dc6 pm6 an6 cd6 ct6, PySem.W.fnOf "_law_bough" "_law_bough" (defArgs s_law_bough) (defBody s_law_bough) (defScope s_law_bough) .none kV7 dc7 pm7 an7 cd7 ct7, PySem.W.fnOf "_law_cross" "_law_cross" (defArgs s_law_cross) (defBody s_law_cross) (defScope s_law_cross) .none kV8 dc8 pm8 an8 cd8 ct8, PySem.W.fnOf "_law_wood" "_law_wood" (defArgs s_law_wood) (defBody s_law_wood) (defScope s_law_wood) .none kV9 dc9 pm9 an9 cd9 ct9, PySem.W.fnOf "_law_keeps" "_law_keeps" (defArgs s_law_keeps) (defBody s_law_keeps) (defScope s_law_keeps) .none kV10 dc10 pm10 an10 cd10 ct10, PySem.W.fnOf "_law_beneath" "_law_beneath" (defArgs s_law_beneath) (defBody s_law_beneath) (defScope s_law_beneath) .none kV11 dc11 pm11 an11 cd11 ct11, PySem.W.fnOf "_law_ways" "_law_ways" (defArgs s_law_ways) (defBody s_law_ways) (defScope s_law_ways) .none kV12 dc12 pm12 an12 cd12 ct12, PySem.W.fnOf "_law_same" "_law_same" (defArgs s_law_same) (defBody s_law_same) (defScope s_law_same) .none kV13 dc13 pm13 an13 cd13 ct13, PySem.W.fnOf "_law_refused" "_law_refused" (defArgs s_law_refused) (defBody s_law_refused) (defScope s_law_refused) .none kV14 dc14 pm14 an14 cd14 ct14, PySem.W.fnOf "law" "law" (defArgs s_law) (defBody s_law) (defScope s_law) .none kV15 dc15 pm15 an15 cd15 ct15⟩ := ⟨PySem.W.mg_none_of X G z1, PySem.W.mg_none_of X G z2, PySem.W.mg_none_of X G z3, PySem.W.mg_none_of X G z4, PySem.W.mg_none_of X G z5, PySem.W.mg_none_of X G z6, PySem.W.mg_none_of X G z7, PySem.W.mg_none_of X G z8, PySem.W.mg_none_of X G z9, PySem.W.mg_none_of X G z10, PySem.W.mg_none_of X G z11, PySem.W.mg_none_of X G z12, PySem.W.mg_of X G a1, F1, b1, PySem.W.mg_of X G a2, F2, b2, PySem.W.mg_of X G a3, F3, b3, PySem.W.mg_of X G a4, F4, b4, PySem.W.mg_of X G a5, F5, b5, PySem.W.mg_of X G a6, F6, b6, PySem.W.mg_of X G a7, F7, b7, PySem.W.mg_of X G a8, F8, b8, PySem.W.mg_of X G a9, F9, b9, PySem.W.mg_of X G a10, F10, b10, PySem.W.mg_of X G a11, F11, b11, PySem.W.mg_of X G a12, F12, b12, PySem.W.mg_of X G a13, F13, b13, PySem.W.mg_of X G a14, F14, b14, PySem.W.mg_of X G a15, F15, b15, PySem.W.mg_of X G g_WoodError, PySem.W.mg_of X G g_NoWood, PySem.W.mg_of X G g_NoCount, PySem.W.mg_of X G g_NoWares, PySem.W.mg_of X G g_NoOffer, PySem.W.mg_of X G g_Unlike, PySem.W.mg_of X G g_NoText, PySem.W.mg_of X G g_NoRow, PySem.W.mg_of X G g_NoName, ⟨xa_WoodError, xb_WoodError, xc_WoodError, xd_WoodError⟩, ⟨xa_NoWood, xb_NoWood, xc_NoWood, xd_NoWood⟩, ⟨xa_NoCount, xb_NoCount, xc_NoCount, xd_NoCount⟩, ⟨xa_NoWares, xb_NoWares, xc_NoWares, xd_NoWares⟩, ⟨xa_NoOffer, xb_NoOffer, xc_NoOffer, xd_NoOffer⟩, ⟨xa_Unlike, xb_Unlike, xc_Unlike, xd_Unlike⟩, ⟨xa_NoText, xb_NoText, xc_NoText, xd_NoText⟩, ⟨xa_NoRow, xb_NoRow, xc_NoRow, xd_NoRow⟩, ⟨xa_NoName, xb_NoName, xc_NoName, xd_NoName⟩, k_NoCount_WoodError, k_NoCount_NoWood, k_NoCount_NoCount, k_NoCount_NoWares, k_NoCount_NoOffer, k_NoCount_Unlike, k_NoCount_NoText, k_NoCount_NoRow, k_NoCount_NoName, v_NoCount, s_NoCount_WoodError⟩
  exact ⟨PySem.W.fnOf "law" "law" (defArgs s_law) (defBody s_law) (defScope s_law) .none kV15 dc15 pm15 an15 cd15 ct15, fun s v => .of_eq rfl, fun base _ _ => ok_law T⟩
theorem walk {l : PySem.W.OpenLaw} {q : Program} {loose : List Str} {XP : (Str → Option Value) → Heap → Prop} {YP : World → Heap → Prop} {d : DefRec} {K : Params → PySem.W.Frag} (hn : l.most = some 63) (hdf : d.params.defaults = [])
    (hY : ∀ (w : World) (h : Heap), YP w h → (K w.params).In h)
    (F : ∀ (w : World) (mg : Str → Option Value) (fa : Addr) (h : Heap), (K w.params).In h → h.Ns mainGlobals mg → mg d.name = some (.ref fa) →
      ∃ fd : FuncData, (∀ (s : Shared) (u : Value), BindsTo s fd ⟨[u], []⟩ [("_law_script", u)]) ∧ ∀ base : Heap, (K w.params).In base → base.Ns mainGlobals mg → FnOk l.prog w (K w.params) mg base CX0 5 fa fd ["_law_script"] (spLaw (K w.params))) :
    PySem.W.WalkO q loose XP YP l.row.toRowW d [] (fun f vs => PySem.call f vs) :=
  
  L2.walk_of (n := 63) (k := 5) (x := "_law_script") (CX := fun _ => CX0) (sp := fun w => (spLaw (K w.params))) hn (by decide) hdf ⟨rfl, by decide, by decide⟩ hY F (fun _ _ a ns hl _ hS => ⟨a, ns, rfl, hS, hl, fun _ => rfl⟩) fun _ _ _ _ _ z => z
end Ow
namespace PySem.W.Fast
def tw11592336284427911246 : Unit := ()
def tw2652867809230095459 : Unit := ()
def tw6899484412580868100 : Unit := ()
def tw12985372586688079695 : Unit := ()
def tw15006192416102425809 : Unit := ()
def tw3591854108152846330 : Unit := ()
def tw16909929407547429224 : Unit := ()
def tw5201100121409369771 : Unit := ()
def tw14931776129821288099 : Unit := ()
def tw3076310459510563349 : Unit := ()
def tw8477142955210474117 : Unit := ()
def tw11299959459522062485 : Unit := ()
def tw15745199470057983036 : Unit := ()
def tw13827364129879625328 : Unit := ()
def tw12253566381447607344 : Unit := ()
def tw3811261806832174827 : Unit := ()
def tw17918296091135540508 : Unit := ()
def tw1587397291478862692 : Unit := ()
def tw16454888431195664610 : Unit := ()
def tw603231131575869125 : Unit := ()
def tw4712053271025172803 : Unit := ()
def tw11378870246796961019 : Unit := ()
def tw5923808508877298894 : Unit := ()
def tw3121171121013450301 : Unit := ()
def tw2649903094150228306 : Unit := ()
def tw11930485857287883365 : Unit := ()
def tw11217222573996616065 : Unit := ()
def tw846424070079395333 : Unit := ()
def tw10134232909188053379 : Unit := ()
def tw4274961899304543970 : Unit := ()
def tw13937989649929591466 : Unit := ()
def tw11237542797456686750 : Unit := ()
def tw12338775801214507341 : Unit := ()
def tw2782735271504932520 : Unit := ()
def tw1082144742873082996 : Unit := ()
def tw260761588787131760 : Unit := ()
def tw13091206581124642883 : Unit := ()
def tw3541557879286442847 : Unit := ()
def tw4547842110212529263 : Unit := ()
def tw15343523216952061807 : Unit := ()
def tw12209737330994790566 : Unit := ()
def tw1034677737884006494 : Unit := ()
def tw3953099283807665308 : Unit := ()
def tw1034186153498171093 : Unit := ()
def tw17747198368065676209 : Unit := ()
def tw2840828528424266655 : Unit := ()
def tw12206105247254907907 : Unit := ()
def tw803592265912636215 : Unit := ()
def tw12256116130211718728 : Unit := ()
def tw7354018067475474907 : Unit := ()
def tw12469342822064806046 : Unit := ()
def tw2506087928396938301 : Unit := ()
def tw7109775464578823326 : Unit := ()
def tw5227587236358739874 : Unit := ()
def tw10348701589493348140 : Unit := ()
def tw16659973603674728681 : Unit := ()
def tw7574833518902019470 : Unit := ()
def tw1107015865362471541 : Unit := ()
def tw16390605421489710963 : Unit := ()
def tw13974944283814165171 : Unit := ()
def tw12241031492319302060 : Unit := ()
def tw7016379423671429389 : Unit := ()
def tw11760648100443354916 : Unit := ()
def tw3585194358974082604 : Unit := ()
def tw17874415113832803632 : Unit := ()
def tw5565452817035389426 : Unit := ()
def tw2968017614428291623 : Unit := ()
def tw14634304019373621782 : Unit := ()
def tw4771554491993565024 : Unit := ()
def tw16505164939306445261 : Unit := ()
def tw15890297797599532892 : Unit := ()
def tw5016364007996383402 : Unit := ()
def tw14544548480930226400 : Unit := ()
def tw15880483816730001433 : Unit := ()
def tw9272706370004592578 : Unit := ()
def tw9223657613171600445 : Unit := ()
def tw13891134481870685947 : Unit := ()
def tw8155513088910620095 : Unit := ()
def tw17061023101271312230 : Unit := ()
def tw8081092194968588757 : Unit := ()
def tw12197158910913657163 : Unit := ()
def tw16290116853175699273 : Unit := ()
def tw3190717866195071163 : Unit := ()
def tw3066413489371426348 : Unit := ()
def tw1912779487483952403 : Unit := ()
def tw9418733052751973557 : Unit := ()
def tw4467494497963503260 : Unit := ()
def tw10766948514713723071 : Unit := ()
def tw13314907113353128374 : Unit := ()
def tw953407999936003763 : Unit := ()
def tw13077246619143541146 : Unit := ()
def tw1636442781558821472 : Unit := ()
def tw10563486025349545037 : Unit := ()
def tw15491912146970722151 : Unit := ()
def tw7980453770783707503 : Unit := ()
def tw8187785241034978395 : Unit := ()
def tw7703435456250401711 : Unit := ()
def tw13986912753461041833 : Unit := ()
def tw15469905039687028483 : Unit := ()
def tw3191740469454160261 : Unit := ()
def tw14345443006206119701 : Unit := ()
def tw507189023684944251 : Unit := ()
def tw10902406963863128269 : Unit := ()
def tw8332279408884218945 : Unit := ()
def tw6090209525623406464 : Unit := ()
def tw646350105018322576 : Unit := ()
def tw10134715345070140688 : Unit := ()
def tw1854086875480493146 : Unit := ()
def tw10083390364694161133 : Unit := ()
def tw15816044444291888847 : Unit := ()
def tw2822383635252227684 : Unit := ()
def tw2889790629734364304 : Unit := ()
def tw14988819364374787638 : Unit := ()
def tw15186970606622834529 : Unit := ()
def tw9381292505869636453 : Unit := ()
def tw10288598971139547057 : Unit := ()
def tw9822190323190574851 : Unit := ()
def tw2663688902785630556 : Unit := ()
def tw9304751648725561392 : Unit := ()
def tw6469035136225529463 : Unit := ()
def tw291366231943343858 : Unit := ()
def tw2310029319103187843 : Unit := ()
def tw9143096538036887659 : Unit := ()
def tw16033688341635942008 : Unit := ()
def tw508062397807145045 : Unit := ()
def tw13455854134235204180 : Unit := ()
def tw9720250118635627093 : Unit := ()
def tw16519368418636558607 : Unit := ()
def tw981480606266286328 : Unit := ()
def tw1666314354760347275 : Unit := ()
def tw10196349977607200918 : Unit := ()
def tw9138455785883677130 : Unit := ()
def tw4885601726647674069 : Unit := ()
def tw12186162645821039214 : Unit := ()
def tw12228693771423396594 : Unit := ()
def tw1921440045937146654 : Unit := ()
def tw12455525717973995157 : Unit := ()
def tw16637432896513720386 : Unit := ()
def tw6095694756559660670 : Unit := ()
def tw2895095112785388281 : Unit := ()
def tw3436216305536958136 : Unit := ()
def tw11106307648662127689 : Unit := ()
def tw12766401230064641254 : Unit := ()
def tw18588934980499599 : Unit := ()
def tw1595120845224491793 : Unit := ()
def tw3145858081664416183 : Unit := ()
def tw16979675686016745665 : Unit := ()
def tw11992215228645788914 : Unit := ()
def tw8384647763265604823 : Unit := ()
def tw11883796604761000969 : Unit := ()
def tw13101490875765473790 : Unit := ()
def tw17464236497190642599 : Unit := ()
def tw4358086873398610379 : Unit := ()
def tw2617815978227102226 : Unit := ()
def tw15697079145345782902 : Unit := ()
def tw10754427323863027022 : Unit := ()
def tw10957226025651045060 : Unit := ()
def tw18097306498286030250 : Unit := ()
def tw13126624356202956685 : Unit := ()
def tw5432403453793095856 : Unit := ()
def tw9903945696834305766 : Unit := ()
def tw11055063504437445259 : Unit := ()
def tw4299488456644169422 : Unit := ()
def tw15729131850976454277 : Unit := ()
def tw5313568823093503736 : Unit := ()
def tw71736939173649349 : Unit := ()
def tw11386340235906692068 : Unit := ()
def tw505142401585061210 : Unit := ()
def tw11550020973024107132 : Unit := ()
def tw5863775013261923142 : Unit := ()
def tw3824438336323640292 : Unit := ()
def tw11122465771887592849 : Unit := ()
def tw16642848962045968720 : Unit := ()
def tw5543344093638970128 : Unit := ()
def tw414351003840639269 : Unit := ()
def tw581108145564659025 : Unit := ()
def tw17574662211549158683 : Unit := ()
def tw10498095865954134668 : Unit := ()
def tw48205085109593818 : Unit := ()
def tw1268052049904971419 : Unit := ()
def tw6713706114836171889 : Unit := ()
def tw16643082029617547107 : Unit := ()
def tw16656818110764817086 : Unit := ()
def tw2291233238695398479 : Unit := ()
def tw13437364879949672082 : Unit := ()
def tw14734604986083411188 : Unit := ()
def tw467285935345182088 : Unit := ()
def tw6039275461281126291 : Unit := ()
def tw9031450317218263669 : Unit := ()
def tw9799100103581199768 : Unit := ()
def tw17946428162477695510 : Unit := ()
def tw2343919263413592018 : Unit := ()
def tw10512177674891058801 : Unit := ()
def tw16421645759783455120 : Unit := ()
def tw16905567162363418334 : Unit := ()
def tw2592496383587065115 : Unit := ()
def tw8381491546234624140 : Unit := ()
def tw3533534958536843156 : Unit := ()
def tw7479812960231779759 : Unit := ()
def tw16349551631007525913 : Unit := ()
def tw11117124655270698458 : Unit := ()
def tw17979834367057938677 : Unit := ()
def tw2777961400178427075 : Unit := ()
def tw12403766370660042370 : Unit := ()
def tw7160523241812877806 : Unit := ()
def tw2336601208105541542 : Unit := ()
def tw17786744664535705827 : Unit := ()
def tw13315221871517201685 : Unit := ()
def tw7117354317281526942 : Unit := ()
def tw16733737497399939640 : Unit := ()
def tw13361481229214268643 : Unit := ()
def tw18150495859337640395 : Unit := ()
def tw15582575292936055344 : Unit := ()
def tw6246543724231771579 : Unit := ()
def tw5794834238730569850 : Unit := ()
def tw4669313200475384489 : Unit := ()
def tw6442635339265084608 : Unit := ()
def tw5701442765678106703 : Unit := ()
def tw18008190138628401828 : Unit := ()
def tw10679996857368814136 : Unit := ()
def tw16223467180001810174 : Unit := ()
def tw12421063197167546205 : Unit := ()
def tw14814004357881073496 : Unit := ()
def tw6460429968672676031 : Unit := ()
def tw12494358831308757524 : Unit := ()
def tw12518639613336918503 : Unit := ()
def tw5972589205193856232 : Unit := ()
def tw2266613197014792785 : Unit := ()
def tw13341655488130665273 : Unit := ()
def tw18148970926679525698 : Unit := ()
def tw7540928674200766429 : Unit := ()
end PySem.W.Fast
namespace Ow
end Ow
open PySem PySem.W PyProof.Rows
set_option maxRecDepth 100000 in
set_option maxHeartbeats 0 in
theorem PySem.Challenge.cw_optionwood_k24_ways_of_options_holds : PySem.Challenge.rw_optionwood_k24_ways_of_options.Holds := by
  w_on; o_law; k_head; (case hw => w_witness2)
  k_fill
  refine Ow.walk (l := PySem.Challenge.rw_optionwood_k24_ways_of_options) rfl rfl (fun w h Y => PySem.W.kIn_of Y) ?F
  case F =>
    intro w mg fa h KX G hmg
    refine' Ow.all_mk KX G hmg ?a1 ?l1 ?c1 ?k1 ?a2 ?l2 ?c2 ?k2 ?a3 ?l3 ?c3 ?k3 ?a4 ?l4 ?c4 ?k4 ?a5 ?l5 ?c5 ?k5 ?a6 ?l6 ?c6 ?k6 ?a7 ?l7 ?c7 ?k7 ?a8 ?l8 ?c8 ?k8 ?a9 ?l9 ?c9 ?k9 ?a10 ?l10 ?c10 ?k10 ?a11 ?l11 ?c11 ?k11 ?a12 ?l12 ?c12 ?k12 ?a13 ?l13 ?c13 ?k13 ?a14 ?l14 ?c14 ?k14 ?a15 ?l15 ?c15 ?k15 ?z1 ?z2 ?z3 ?z4 ?z5 ?z6 ?z7 ?z8 ?z9 ?z10 ?z11 ?z12 ?g_WoodError ?g_NoWood ?g_NoCount ?g_NoWares ?g_NoOffer ?g_Unlike ?g_NoText ?g_NoRow ?g_NoName ?xa_WoodError ?xb_WoodError ?xc_WoodError ?xd_WoodError ?xa_NoWood ?xb_NoWood ?xc_NoWood ?xd_NoWood ?xa_NoCount ?xb_NoCount ?xc_NoCount ?xd_NoCount ?xa_NoWares ?xb_NoWares ?xc_NoWares ?xd_NoWares ?xa_NoOffer ?xb_NoOffer ?xc_NoOffer ?xd_NoOffer ?xa_Unlike ?xb_Unlike ?xc_Unlike ?xd_Unlike ?xa_NoText ?xb_NoText ?xc_NoText ?xd_NoText ?xa_NoRow ?xb_NoRow ?xc_NoRow ?xd_NoRow ?xa_NoName ?xb_NoName ?xc_NoName ?xd_NoName ?k_NoCount_WoodError ?k_NoCount_NoWood ?k_NoCount_NoCount ?k_NoCount_NoWares ?k_NoCount_NoOffer ?k_NoCount_Unlike ?k_NoCount_NoText ?k_NoCount_NoRow ?k_NoCount_NoName ?v_NoCount ?s_NoCount_WoodError
    (case a1 => k_is)
    (case l1 => k_is)
    (case c1 => k_is)
    (case k1 => k_is)
    (case a2 => k_is)
    (case l2 => k_is)
    (case c2 => k_is)
    (case k2 => k_is)
    (case a3 => k_is)
    (case l3 => k_is)
    (case c3 => k_is)
    (case k3 => k_is)
    (case a4 => k_is)
    (case l4 => k_is)
    (case c4 => k_is)
    (case k4 => k_is)
    (case a5 => k_is)
    (case l5 => k_is)
    (case c5 => k_is)
    (case k5 => k_is)
    (case a6 => k_is)
    (case l6 => k_is)
    (case c6 => k_is)
    (case k6 => k_is)
    (case a7 => k_is)
    (case l7 => k_is)
    (case c7 => k_is)
    (case k7 => k_is)
    (case a8 => k_is)
    (case l8 => k_is)
    (case c8 => k_is)
    (case k8 => k_is)
    (case a9 => k_is)
    (case l9 => k_is)
    (case c9 => k_is)
    (case k9 => k_is)
    (case a10 => k_is)
    (case l10 => k_is)
    (case c10 => k_is)
    (case k10 => k_is)
    (case a11 => k_is)
    (case l11 => k_is)
    (case c11 => k_is)
    (case k11 => k_is)
    (case a12 => k_is)
    (case l12 => k_is)
    (case c12 => k_is)
    (case k12 => k_is)
    (case a13 => k_is)
    (case l13 => k_is)
    (case c13 => k_is)
    (case k13 => k_is)
    (case a14 => k_is)
    (case l14 => k_is)
    (case c14 => k_is)
    (case k14 => k_is)
    (case a15 => k_is)
    (case l15 => k_is)
    (case c15 => k_is)
    (case k15 => k_is)
    (case z1 => k_is)
    (case z2 => k_is)
    (case z3 => k_is)
    (case z4 => k_is)
    (case z5 => k_is)
    (case z6 => k_is)
    (case z7 => k_is)
    (case z8 => k_is)
    (case z9 => k_is)
    (case z10 => k_is)
    (case z11 => k_is)
    (case z12 => k_is)
    (case g_WoodError => k_is)
    (case g_NoWood => k_is)
    (case g_NoCount => k_is)
    (case g_NoWares => k_is)
    (case g_NoOffer => k_is)
    (case g_Unlike => k_is)
    (case g_NoText => k_is)
    (case g_NoRow => k_is)
    (case g_NoName => k_is)
    (case xa_WoodError => first | k_is | kernel_rfl)
    (case xb_WoodError => first | k_is | kernel_rfl)
    (case xc_WoodError => first | k_is | kernel_rfl)
    (case xd_WoodError => first | k_is | kernel_rfl)
    (case xa_NoWood => first | k_is | kernel_rfl)
    (case xb_NoWood => first | k_is | kernel_rfl)
    (case xc_NoWood => first | k_is | kernel_rfl)
    (case xd_NoWood => first | k_is | kernel_rfl)
    (case xa_NoCount => first | k_is | kernel_rfl)
    (case xb_NoCount => first | k_is | kernel_rfl)
    (case xc_NoCount => first | k_is | kernel_rfl)
    (case xd_NoCount => first | k_is | kernel_rfl)
    (case xa_NoWares => first | k_is | kernel_rfl)
    (case xb_NoWares => first | k_is | kernel_rfl)
    (case xc_NoWares => first | k_is | kernel_rfl)
    (case xd_NoWares => first | k_is | kernel_rfl)
    (case xa_NoOffer => first | k_is | kernel_rfl)
    (case xb_NoOffer => first | k_is | kernel_rfl)
    (case xc_NoOffer => first | k_is | kernel_rfl)
    (case xd_NoOffer => first | k_is | kernel_rfl)
    (case xa_Unlike => first | k_is | kernel_rfl)
    (case xb_Unlike => first | k_is | kernel_rfl)
    (case xc_Unlike => first | k_is | kernel_rfl)
    (case xd_Unlike => first | k_is | kernel_rfl)
    (case xa_NoText => first | k_is | kernel_rfl)
    (case xb_NoText => first | k_is | kernel_rfl)
    (case xc_NoText => first | k_is | kernel_rfl)
    (case xd_NoText => first | k_is | kernel_rfl)
    (case xa_NoRow => first | k_is | kernel_rfl)
    (case xb_NoRow => first | k_is | kernel_rfl)
    (case xc_NoRow => first | k_is | kernel_rfl)
    (case xd_NoRow => first | k_is | kernel_rfl)
    (case xa_NoName => first | k_is | kernel_rfl)
    (case xb_NoName => first | k_is | kernel_rfl)
    (case xc_NoName => first | k_is | kernel_rfl)
    (case xd_NoName => first | k_is | kernel_rfl)
    (case k_NoCount_WoodError => first | k_is | kernel_rfl)
    (case k_NoCount_NoWood => first | k_is | kernel_rfl)
    (case k_NoCount_NoCount => first | k_is | kernel_rfl)
    (case k_NoCount_NoWares => first | k_is | kernel_rfl)
    (case k_NoCount_NoOffer => first | k_is | kernel_rfl)
    (case k_NoCount_Unlike => first | k_is | kernel_rfl)
    (case k_NoCount_NoText => first | k_is | kernel_rfl)
    (case k_NoCount_NoRow => first | k_is | kernel_rfl)
    (case k_NoCount_NoName => first | k_is | kernel_rfl)
    (case v_NoCount => first | k_is | kernel_rfl)
    (case s_NoCount_WoodError => first | k_is | kernel_rfl)
#print axioms PySem.Challenge.cw_optionwood_k24_ways_of_options_holds
