import PyProof.Rows.All
import Wide.All
import OpenK.AllK
import Wide.FinOn
import Lean
import PyProof.EqAt
import PyProof.EqKinds
import PyProof.TupleCall
import PySem.Challenge.RW_optionwood_k41_deeds_of_a_choice

set_option Elab.async false
set_option linter.all false
set_option maxRecDepth 100000
/-! THE HAND LAYER, for ints, bools, texts, own classes, LISTS and tuples (index, slices, in, append, pop ..), calls, loops. Paste it whole ahead of your own text; what your proof does not reach may be deleted. -/
namespace L2
open PySem PySem.Spec PyProof.Rows

/-- a key: an int or a str -/
abbrev Key := Sum Int Str
def keyIs : Key → Value → Bool
  | .inl k, v => Value.isInt k v
  | .inr x, v => Value.isStrOf x v
def keyH (w : World) : Key → Int
  | .inl k => hashInt k
  | .inr x => hashStr w x
theorem keyIs_shape : ∀ {k : Key} {v : Value}, keyIs k v = true → (∃ i t, k = Sum.inl i ∧ v = Value.int i t) ∨ (∃ x t, k = Sum.inr x ∧ v = Value.str x t)
  | .inl i, v, h => by
    obtain ⟨t, e⟩ := Value.isInt_shape (k := i) (v := v) h
    exact .inl ⟨i, t, rfl, e⟩
  | .inr x, v, h => by
    obtain ⟨t, e⟩ := Value.isStrOf_shape (x := x) (v := v) h
    exact .inr ⟨x, t, rfl, e⟩
theorem key_ll (a b : Int) : decide ((Sum.inl a : Key) = Sum.inl b) = (a == b) := by
  by_cases e : a = b
  · subst e; simp
  · have h : ¬ (Sum.inl a : Key) = Sum.inl b := fun q => e (Sum.inl.inj q)
    rw [decide_eq_false h]
    exact (beq_eq_false_iff_ne.mpr e).symm
theorem key_rr (a b : Str) : decide ((Sum.inr a : Key) = Sum.inr b) = decide (a = b) := by
  by_cases e : a = b
  · subst e; simp
  · have h : ¬ (Sum.inr a : Key) = Sum.inr b := fun q => e (Sum.inr.inj q)
    rw [decide_eq_false h, decide_eq_false e]
theorem key_lr (a : Int) (b : Str) : decide ((Sum.inl a : Key) = Sum.inr b) = false := decide_eq_false (fun q => nomatch q)
theorem key_rl (a : Str) (b : Int) : decide ((Sum.inr a : Key) = Sum.inl b) = false := decide_eq_false (fun q => nomatch q)

def mixKind (prog : Program) (w : World) : PySem.KeyKind prog w Key where
  is := keyIs
  hash := keyH w
  inj := fun v a b ha hb => by
    rcases keyIs_shape ha with ⟨i, t, rfl, rfl⟩ | ⟨x, t, rfl, rfl⟩
    · rcases keyIs_shape hb with ⟨j, u, rfl, e⟩ | ⟨y, u, rfl, e⟩
      · injection e with e1 _; rw [e1]
      · exact nomatch e
    · rcases keyIs_shape hb with ⟨j, u, rfl, e⟩ | ⟨y, u, rfl, e⟩
      · exact nomatch e
      · injection e with e1 _; rw [e1]
  byValue := fun k v h => by
    rcases keyIs_shape h with ⟨i, t, rfl, rfl⟩ | ⟨x, t, rfl, rfl⟩ <;> rfl
  pyHash := fun hv h => by
    rcases keyIs_shape hv with ⟨i, t, rfl, rfl⟩ | ⟨x, t, rfl, rfl⟩
    · exact wpAny_pyHash_int h
    · exact wpAny_pyHash_str h
  eqBool := fun hu hv h => by
    rcases keyIs_shape hu with ⟨i, t, rfl, rfl⟩ | ⟨x, t, rfl, rfl⟩
    · rcases keyIs_shape hv with ⟨j, u, rfl, rfl⟩ | ⟨y, u, rfl, rfl⟩
      · rw [key_ll] at h; exact wpAny_eqBool_int h
      · rw [key_lr] at h; exact SeqAt.EqAt.int_str i t y u _ _ _ _ h
    · rcases keyIs_shape hv with ⟨j, u, rfl, rfl⟩ | ⟨y, u, rfl, rfl⟩
      · rw [key_rl] at h; exact SeqAt.EqAt.str_int x t j u _ _ _ _ h
      · rw [key_rr] at h; exact wpAny_eqBool_str h
  «strs» := fun k x t v h => by
    rcases keyIs_shape h with ⟨i, u, rfl, e⟩ | ⟨y, u, rfl, e⟩
    · exact nomatch e
    · injection e with e1 _
      subst e1
      cases v <;> rfl

end L2

namespace L2
open PySem PySem.Spec PyProof.Rows

/-- a value, without the heap -/
inductive V where
  | non | bl (b : Bool) | int (i : Int) | str (x : Str) | byt (b : Array UInt8) | flt (b : UInt64) | ref (a : Addr) | ty (n : String)
  deriving DecidableEq

def RelV : V → Value → Prop
  | .non, u => u = Value.none
  | .bl b, u => u = Value.bool b
  | .int i, u => ∃ t, u = Value.int i t
  | .str x, u => ∃ t, u = Value.str x t
  | .byt b, u => ∃ t, u = Value.bytes b t
  | .flt b, u => ∃ t, u = Value.float b t
  | .ref a, u => u = Value.ref a
  | .ty n, u => u = Value.type n

abbrev Vals : List V → List Value → Prop := Paired RelV
theorem Vals.length {xs : List V} {us : List Value} (r : Vals xs us) : xs.length = us.length := Paired.length r
theorem Vals.get : ∀ {xs : List V} {us : List Value} {i : Nat} {x : V}, Vals xs us → xs[i]? = some x → ∃ u, us[i]? = some u ∧ RelV x u
  | _, _, _, _, .nil, e => by simp at e
  | _, _, 0, _, .cons r _, e => by simp at e; subst e; exact ⟨_, rfl, r⟩
  | _, _, i + 1, x, .cons _ t, e => by
    obtain ⟨u, h1, h2⟩ := Vals.get (i := i) (x := x) t (by simpa using e)
    exact ⟨u, by simpa using h1, h2⟩
theorem Vals.set {x : V} {u : Value} (r : RelV x u) : ∀ {xs : List V} {us : List Value} (i : Nat), Vals xs us → Vals (xs.set i x) (us.set i u)
  | _, _, _, .nil => .nil
  | _, _, 0, .cons _ t => .cons r t
  | _, _, i + 1, .cons q t => .cons q (Vals.set r i t)
theorem Vals.append : ∀ {xs ys : List V} {us ws : List Value}, Vals xs us → Vals ys ws → Vals (xs ++ ys) (us ++ ws)
  | _, _, _, _, .nil, s => s
  | _, _, _, _, .cons r t, s => .cons r (Vals.append t s)
theorem Vals.take : ∀ {xs : List V} {us : List Value} (n : Nat), Vals xs us → Vals (xs.take n) (us.take n)
  | _, _, 0, _ => .nil
  | _, _, _ + 1, .nil => .nil
  | _, _, n + 1, .cons r t => .cons r (Vals.take n t)
theorem Vals.drop : ∀ {xs : List V} {us : List Value} (n : Nat), Vals xs us → Vals (xs.drop n) (us.drop n)
  | _, _, 0, r => r
  | _, _, _ + 1, .nil => .nil
  | _, _, n + 1, .cons _ t => Vals.drop n t
def RelO : Option V → Option Value → Prop
  | some v, some u => RelV v u
  | none, none => True
  | _, _ => False
def KV {κ : Type} : List (κ × V) → List (κ × Value) → Prop := Paired fun (p : κ × V) (q : κ × Value) => p.1 = q.1 ∧ RelV p.2 q.2

/-- a key of a dict (00_mix): an int or a text -/
def kV : Key → V
  | .inl i => .int i
  | .inr x => .str x

/-- what stands at a tracked address -/
inductive HO where
  /-- a list -/
  | lst (xs : List V)
  /-- a tuple (never changes) -/
  | tup (xs : List V)
  /-- a dict whose keys are ints and texts; one whose keys are tuples of ints and texts (the empty one is both) -/
  | dK (kvs : List (Key × V)) | dT (kvs : List (List Key × V))
  /-- a set of ints: its members, its size -/
  | set (S : Int → Bool) (n : Nat)
  /-- an instance of the class at C, its dict at dx, its attributes -/
  | ins (C dx : Addr) (fs : List (Str × V))
  /-- the dict of the instance at x -/
  | own (x : Addr)
  /-- the dict of an exception -/
  | xd (fs : List (Str × V))
  /-- a bound method, f of x -/
  | met (f x : Addr)
  /-- a range object lo, lo + 1, .. below hi -/
  | rng (lo hi : Int)
  /-- a thing that is known to the object (the script; a dict while a loop walks it): read, never written while it is so -/
  | frz (o : Obj) (u : HO)
  /-- a code object's table -/
  | tbl (ps : Array Value)
  /-- any other thing, by what is true of its one object (a def of one's own: SetO a S n := HO.ext fun h => ..) -/
  | ext (φ : Heap → Prop)

abbrev Hp := Addr → Option HO
def upd (H : Hp) (a : Addr) (o : HO) : Hp := fun b => if b = a then some o else H b
theorem upd_same {H : Hp} {a : Addr} {o : HO} : upd H a o a = some o := by unfold upd; rw [if_pos rfl]
theorem upd_ne {H : Hp} {a b : Addr} {o : HO} (h : b ≠ a) : upd H a o b = H b := by unfold upd; rw [if_neg h]
/-- two objects of different content stand apart -/
theorem ne_of {H : Hp} {a b : Addr} {o u : HO} (h : H a = some o) (h' : H b = some u) (d : o ≠ u) : a ≠ b := by
  intro e; subst e; rw [h] at h'; exact d (Option.some.inj h')
theorem ne_of_none {H : Hp} {a b : Addr} {o : HO} (h : H a = some o) (h' : H b = none) : a ≠ b := by
  intro e; subst e; rw [h] at h'; cases h'

section
variable (P : Program) (w : World)
def ObjOk (H : Hp) (h : Heap) (a : Addr) : HO → Prop
  | .lst xs => xs.length ≤ sizeLine ∧ ∃ (its : List Value) (n : Nat), Vals xs its ∧ h.get? a = some { cls := .type "list", data := .seq its.toArray n }
  | .tup xs => xs.length ≤ sizeLine ∧ ∃ its : List Value, Vals xs its ∧ IsTup h a its.toArray
  | .dK kvs => kvs.length ≤ sizeLine ∧ (a == sysModules) = false ∧ ∃ vs, KV kvs vs ∧ h.DictOf (mixKind P w) a vs
  | .dT kvs => kvs.length ≤ sizeLine ∧ (a == sysModules) = false ∧ ∃ xs : List (List Key × Addr × Value),
      Paired (fun (p : List Key × V) (q : List Key × Addr × Value) => p.1 = q.1 ∧ H q.2.1 = some (.tup (p.1.map kV)) ∧ RelV p.2 q.2.2) kvs xs ∧
      ∃ o es ep, h.get? a = some o ∧ o.ExactDict ∧ o.data = .dict es ep ∧ es.toList = xs.map (entryOfKey (tupleKind (mixKind P w))) ∧ (xs.map (·.1)).Nodup
  | .set S n => h.SetOf (intKind P w) a S n
  | .ins C dx fs => H dx = some (.own a) ∧ fs.length ≤ 1000 ∧ dx ≠ a ∧ h.get? a = some (PySem.W.instObj C dx) ∧
      ∃ mA, h.Ns1 dx mA ∧ (∀ f, RelO (fs.lookup f) (mA f)) ∧ PySem.Within mA (fs.map (·.1))
  | .own _ => ∃ o, h.get? a = some o
  | .xd fs => ∃ mA, h.Ns1 a mA ∧ ∀ f, RelO (fs.lookup f) (mA f)
  | .rng lo hi => ∃ t u v, h.get? a = some { cls := .type "range", data := .fields #[.int lo t, .int hi u, .int 1 v] }
  | .frz o u => h.get? a = some o ∧ ObjOk H h a u
  | .tbl ps => h.get? a = some { cls := .none, data := .fields ps }
  | .met f x => h.get? a = some (PySem.W.methodObj (.ref f) (.ref x))
  | .ext φ => φ h ∧ (∃ o, h.get? a = some o) ∧ ∀ h1 h2 : Heap, φ h1 → (∀ o, h1.get? a = some o → h2.get? a = some o) → φ h2
/-- the abstract heap is held -/
def HOk (H : Hp) (h : Heap) : Prop := ∀ a o, H a = some o → ObjOk P w H h a o
end

section
variable {P : Program} {w : World} {H H' : Hp} {h h' : Heap} {a : Addr} {o : HO}
theorem ObjOk.lt (x : ObjOk P w H h a o) : a < h.objs.size := by
  cases o with
  | lst xs => obtain ⟨_, _, _, _, e⟩ := x; exact Heap.lt_size e
  | tup xs => obtain ⟨_, _, _, p⟩ := x; exact p.lt
  | dK kvs => obtain ⟨_, _, _, _, o, _, _, e, _⟩ := x; exact Heap.lt_size e
  | dT kvs => obtain ⟨_, _, _, _, o, _, _, e, _⟩ := x; exact Heap.lt_size e
  | set S n => obtain ⟨o, _, _, _, e, _⟩ := x; exact Heap.lt_size e
  | ins C dx fs => obtain ⟨_, _, _, e, _⟩ := x; exact Heap.lt_size e
  | own y => obtain ⟨_, e⟩ := x; exact Heap.lt_size e
  | xd fs => obtain ⟨_, ⟨_, _, _, e, _⟩, _⟩ := x; exact Heap.lt_size e
  | rng lo hi => obtain ⟨_, _, _, e⟩ := x; exact Heap.lt_size e
  | frz ob u => obtain ⟨e, _⟩ := x; exact Heap.lt_size e
  | tbl ps => exact Heap.lt_size (show h.get? a = some _ from x)
  | met f y => exact Heap.lt_size (show h.get? a = some _ from x)
  | ext φ => obtain ⟨_, ⟨_, e⟩, _⟩ := x; exact Heap.lt_size e
theorem Paired.mapP {α β : Type} {F G : α → β → Prop} : ∀ {l₁ : List α} {l₂ : List β}, Paired F l₁ l₂ → (∀ a b, F a b → G a b) → Paired G l₁ l₂
  | _, _, .nil, _ => .nil
  | _, _, .cons r t, f => .cons (f _ _ r) (Paired.mapP t f)
/-- what an object's description leans on: its own object, its own dict, the tuples -/
theorem ObjOk.stay (x : ObjOk P w H h a o) (k : ∀ b u, (b = a ∨ H b = some (.own a)) → h.get? b = some u → h'.get? b = some u)
    (ho : ∀ b, H b = some (.own a) → H' b = some (.own a)) (ht : ∀ b xs, H b = some (.tup xs) → H' b = some (.tup xs)) : ObjOk P w H' h' a o := by
  induction o with
  | lst xs => obtain ⟨z, its, n, r, e⟩ := x; exact ⟨z, its, n, r, k _ _ (.inl rfl) e⟩
  | tup xs => obtain ⟨z, its, r, ob, e, c⟩ := x; exact ⟨z, its, r, ob, k _ _ (.inl rfl) e, c⟩
  | dK kvs => obtain ⟨z, y, vs, r, ob, es, ep, e, c⟩ := x; exact ⟨z, y, vs, r, ob, es, ep, k _ _ (.inl rfl) e, c⟩
  | dT kvs =>
    obtain ⟨z, y, xs, r, ob, es, ep, e, c⟩ := x
    exact ⟨z, y, xs, Paired.mapP r fun p q z => ⟨z.1, ht _ _ z.2.1, z.2.2⟩, ob, es, ep, k _ _ (.inl rfl) e, c⟩
  | set S n => obtain ⟨ob, es, ep, t, e, c⟩ := x; exact ⟨ob, es, ep, t, k _ _ (.inl rfl) e, c⟩
  | ins C dx fs =>
    obtain ⟨d, z, ne, e, mA, ⟨od, es, ep, e2, c⟩, r⟩ := x
    exact ⟨ho _ d, z, ne, k _ _ (.inl rfl) e, mA, ⟨od, es, ep, k _ _ (.inr d) e2, c⟩, r⟩
  | own y => obtain ⟨ob, e⟩ := x; exact ⟨ob, k _ _ (.inl rfl) e⟩
  | xd fs => obtain ⟨mA, ⟨od, es, ep, e, c⟩, r⟩ := x; exact ⟨mA, ⟨od, es, ep, k _ _ (.inl rfl) e, c⟩, r⟩
  | rng lo hi => obtain ⟨t, u, v, e⟩ := x; exact ⟨t, u, v, k _ _ (.inl rfl) e⟩
  | frz ob u ih => obtain ⟨e, q⟩ := x; exact ⟨k _ _ (.inl rfl) e, ih q⟩
  | tbl ps =>
    have e : h.get? a = some { cls := .none, data := .fields ps } := x
    show h'.get? a = some { cls := .none, data := .fields ps }
    exact k a _ (.inl rfl) e
  | met f y =>
    have e : h.get? a = some (PySem.W.methodObj (.ref f) (.ref y)) := x
    show h'.get? a = some (PySem.W.methodObj (.ref f) (.ref y))
    exact k a _ (.inl rfl) e
  | ext φ => obtain ⟨p, ⟨o, e⟩, st⟩ := x; exact ⟨st _ _ p fun o q => k _ _ (.inl rfl) q, ⟨o, k _ _ (.inl rfl) e⟩, st⟩
theorem HOk.lt (x : HOk P w H h) (e : H a = some o) : a < h.objs.size := (x a o e).lt
theorem HOk.fresh (x : HOk P w H h) (e : h.objs.size ≤ a) : H a = none := by
  cases q : H a with
  | none => rfl
  | some u => exact absurd (Nat.lt_of_lt_of_le (x.lt q) e) (Nat.lt_irrefl _)
/-- every object of the heap is kept -/
theorem HOk.kept (x : HOk P w H h) (k : ∀ b u, h.get? b = some u → h'.get? b = some u) : HOk P w H h' := fun a o e =>
  (x a o e).stay (fun b u _ q => k b u q) (fun _ q => q) fun _ _ q => q
/-- a new object is laid and tracked -/
theorem HOk.laid (x : HOk P w H h) (k : ∀ b u, h.get? b = some u → h'.get? b = some u) (hp : h.objs.size ≤ a) (new : ObjOk P w (upd H a o) h' a o) : HOk P w (upd H a o) h' := fun b u e => by
  have hn := x.fresh hp
  by_cases hb : b = a
  · subst hb; rw [upd_same] at e; cases e; exact new
  · rw [upd_ne hb] at e
    exact (x b u e).stay (fun c v _ q => k c v q) (fun c q => by rw [upd_ne (ne_of_none q hn)]; exact q) fun c xs q => by rw [upd_ne (ne_of_none q hn)]; exact q
end

/-- what may be read as u: it is u, or a known u -/
def Rd (H : Hp) (a : Addr) (u : HO) : Prop := H a = some u ∨ ∃ o, H a = some (.frz o u)
theorem Rd.ok {P : Program} {w : World} {H : Hp} {h : Heap} {a : Addr} {u : HO} (r : Rd H a u) (x : HOk P w H h) : ObjOk P w H h a u := by
  rcases r with r | ⟨o, r⟩
  · exact x a u r
  · obtain ⟨_, q⟩ := x a _ r
    exact q
/-- what may be written -/
def Mut : Option HO → Prop
  | some (.lst _) => True
  | some (.dK _) => True
  | some (.dT _) => True
  | some (.set _ _) => True
  | some (.ins _ _ _) => True
  | some (.ext _) => True
  | _ => False
section
variable {P : Program} {w : World} {H : Hp} {h h' : Heap} {x e : Addr} {o' : HO}
/-- the object at e is changed: x itself, or the dict of the instance x -/
theorem HOk.write (ok : HOk P w H h) (mu : Mut (H x)) (he : e = x ∨ H e = some (.own x)) (k : ∀ b u, b ≠ e → h.get? b = some u → h'.get? b = some u) (heo : ∃ u, h'.get? e = some u)
    (new : ObjOk P w (upd H x o') h' x o') : HOk P w (upd H x o') h' := fun b u q => by
  have nown : ∀ c y, H c = some (.own y) → c ≠ x := fun c y r z => by subst z; rw [r] at mu; exact mu
  have ntup : ∀ c xs, H c = some (.tup xs) → c ≠ x := fun c xs r z => by subst z; rw [r] at mu; exact mu
  by_cases hb : b = x
  · subst hb; rw [upd_same] at q; cases q; exact new
  · rw [upd_ne hb] at q
    by_cases hbe : b = e
    · have q' : H b = some (.own x) := by
        rcases he with z | z
        · exact absurd (hbe.trans z) hb
        · rw [hbe]; exact z
      rw [q] at q'; cases q'
      obtain ⟨v, hv⟩ := heo
      exact ⟨v, by rw [hbe]; exact hv⟩
    · refine (ok b u q).stay (fun c v hc r => k c v ?_ r) (fun c r => by rw [upd_ne (nown c b r)]; exact r) fun c xs r => by rw [upd_ne (ntup c xs r)]; exact r
      rcases hc with rfl | hc
      · exact hbe
      · rintro rfl
        rcases he with z | z
        · exact nown c b hc z
        · rw [hc] at z; cases z; exact hb rfl
end

/-! ### kept unless tracked; of the frames at fs (the callers') the slots may change (an exception that passes writes there); of the records at ex (iterators) nothing is said -/
structure Un (fs ex : List Addr) (H H' : Hp) (h h' : Heap) : Prop where
  keep : ∀ b o, h.get? b = some o → H b = none → b ∉ fs → b ∉ ex → h'.get? b = some o
  slot : ∀ b o, h.get? b = some o → H b = none → b ∈ fs → b ∉ ex → ∃ sl, h'.get? b = some { o with slots := sl }
  free : ∀ b o, h.get? b = some o → H b = none → b ∉ ex → H' b = none
  there : ∀ b o, h.get? b = some o → b ∉ ex → ∃ o', h'.get? b = some o'
  tups : ∀ b xs, H b = some (.tup xs) → H' b = some (.tup xs)
  frzs : ∀ b o u, H b = some (.frz o u) → H' b = some (.frz o u)
  tbls : ∀ b ps, H b = some (.tbl ps) → ∃ more, H' b = some (.tbl (ps ++ more))
section
variable {fs fs' ex ex' : List Addr} {H H1 H2 : Hp} {h h1 h2 h' : Heap} {a x e : Addr} {o : HO}
theorem Un.any (u : Un fs ex H H1 h h1) {b : Addr} {ob : Obj} (q : h.get? b = some ob) (n : H b = none) (hx : b ∉ ex) : ∃ sl, h1.get? b = some { ob with slots := sl } := by
  by_cases hb : b ∈ fs
  · exact u.slot b ob q n hb hx
  · exact ⟨ob.slots, u.keep b ob q n hb hx⟩
theorem Un.kept (k : ∀ b u, h.get? b = some u → h'.get? b = some u) : Un fs ex H H h h' :=
  ⟨fun b ob q _ _ _ => k b ob q, fun b ob q _ _ _ => ⟨ob.slots, k b ob q⟩, fun _ _ _ n _ => n, fun b ob q _ => ⟨ob, k b ob q⟩, fun _ _ q => q, fun _ _ _ q => q, fun _ ps q => ⟨#[], by rw [q]; simp⟩⟩
theorem Un.refl : Un fs ex H H h h := Un.kept fun _ _ q => q
theorem Un.laid (k : ∀ b u, h.get? b = some u → h'.get? b = some u) (hp : h.objs.size ≤ a) (hn : H a = none) : Un fs ex H (upd H a o) h h' where
  keep := fun b u q _ _ _ => k b u q
  slot := fun b u q _ _ _ => ⟨u.slots, k b u q⟩
  free := fun b u q n _ => by rw [upd_ne (Nat.ne_of_lt (Nat.lt_of_lt_of_le (Heap.lt_size q) hp))]; exact n
  there := fun b u q _ => ⟨u, k b u q⟩
  tups := fun b xs q => by rw [upd_ne (ne_of_none q hn)]; exact q
  frzs := fun b u xs q => by rw [upd_ne (ne_of_none q hn)]; exact q
  tbls := fun b ps q => ⟨#[], by rw [upd_ne (ne_of_none q hn), q]; simp⟩
theorem Un.write (mu : Mut (H x)) (he : e = x ∨ H e = some (.own x)) (k : ∀ b u, b ≠ e → h.get? b = some u → h'.get? b = some u) (heo : ∃ u, h'.get? e = some u) : Un fs ex H (upd H x o) h h' := by
  have hx : ∀ b, H b = none → b ≠ x := fun b n z => by subst z; rw [n] at mu; exact mu
  have hb : ∀ b, H b = none → b ≠ e := fun b n z => by
    subst z
    rcases he with r | r
    · exact hx b n r
    · rw [n] at r; cases r
  have hm : ∀ b u, H b = some u → ¬ Mut (some u) → b ≠ x := fun b u q nm z => by subst z; rw [q] at mu; exact nm mu
  refine ⟨fun b u q n _ _ => k b u (hb b n) q, fun b u q n _ _ => ⟨u.slots, k b u (hb b n) q⟩, fun b u q n _ => by rw [upd_ne (hx b n)]; exact n, fun b u q _ => ?_,
    fun b xs q => by rw [upd_ne (hm b _ q fun z => z)]; exact q, fun b u xs q => by rw [upd_ne (hm b _ q fun z => z)]; exact q, fun b ps q => ⟨#[], by rw [upd_ne (hm b _ q fun z => z), q]; simp⟩⟩
  by_cases hbe : b = e
  · subst hbe; exact heo
  · exact ⟨u, k b u hbe q⟩
end

/-! ### the heap without what is tracked -/
def trk (h : Heap) (H : Hp) : List Addr := (List.range h.objs.size).filter fun a => (H a).isSome
def hidT (h : Heap) (H : Hp) : Heap := PySem.W.hideAll h (trk h H)
theorem hidT_size (h : Heap) (H : Hp) : (hidT h H).objs.size = h.objs.size := PySem.W.hideAll_size _ _
theorem hidT_get {h : Heap} {H : Hp} {b : Addr} {o : Obj} (e : h.get? b = some o) (n : H b = none) : (hidT h H).get? b = some o :=
  PySem.W.hideAll_get _ e fun hm => by
    have q : (H b).isSome = true := (List.mem_filter.mp hm).2
    rw [n] at q; simp at q
theorem of_hidT {h : Heap} {H : Hp} {b : Addr} {o : Obj} (e : (hidT h H).get? b = some o) : h.get? b = some o ∧ H b = none := by
  have e' : h.get? b = some o := PySem.W.of_hideAll (trk h H) e
  refine ⟨e', ?_⟩
  cases q : H b with
  | none => rfl
  | some x =>
    have hm : b ∈ trk h H := List.mem_filter.mpr ⟨List.mem_range.mpr (Heap.lt_size e'), by simp [q]⟩
    have z : (hidT h H).get? b = none := PySem.W.hideAll_none (trk h H) hm
    rw [z] at e; cases e

/-! ### OpenK's ledger, filled with every new object but one -/
end L2

namespace L2
open PySem PySem.Spec PyProof.Rows

/-- the module's facts, over the base: the heap at the law's entry without what is tracked there -/
structure Mod (K : PySem.W.Frag) (mg : Str → Option Value) (base : Heap) : Prop where
  kin : K.In base
  glob : base.Ns mainGlobals mg
  blt : ∃ mb, base.Ns builtinsNs mb ∧ ∀ x : Str, x ≠ "__name__" → mb x = bootBuiltins x
  nolimit : base.NoLimit

/-- the context: a def's body (or a comprehension's block) running. base: fixed through the whole law; s₀, H₀: the entry; outer: the frames whose slots others may change (a def's callers); stack: all frames that run;
   ex: iterators that were made ahead of the entry and are walked here (a comprehension's); fn: the names whose cells were made at the entry (a def: all; a comprehension's block: its own); calm: not within an except suite; pn: pins that every state bears; xe: what is wanted of an exception that leaves the code -/
structure Cx where
  prog : Program
  w : World
  K : PySem.W.Frag
  mg : Str → Option Value
  base : Heap
  A : Around
  N : List Str
  s₀ : Shared
  H₀ : Hp
  env : Env
  outer : List Env
  stack : List Env
  ex : List Addr
  fn : Str → Bool
  calm : Bool
  pn : List (Addr × Obj)
  xe : Value → Shared → Prop
/-- the callers' frames -/
def frs (l : List Env) : List Addr := l.filterMap (·.frame)
abbrev Cx.fs (X : Cx) : List Addr := frs X.outer

def Vis (sc : Scope) (x : Str) : Prop := sc.names.lookup x = some .local ∨ sc.names.lookup x = some .cell ∨ sc.names.lookup x = some .free
def Loc (sc : Scope) (x : Str) : Prop := sc.names.lookup x = some .local ∨ sc.names.lookup x = some .cell
def Look (env : Env) (h : Heap) (m : Str → Option Value) (x : Str) (u : Value) : Prop :=
  (env.kindOf x = some .local ∧ m x = some u) ∨ ((env.kindOf x = some .cell ∨ env.kindOf x = some .free) ∧ ∃ c, env.cells.lookup x = some c ∧ h.IsCell c (some u))

structure Cx.Ok (X : Cx) : Prop where
  mod : Mod X.K X.mg X.base
  kind : X.env.scope.kind = .function
  glob : X.env.globals = mainGlobals
  blt : X.env.builtins = builtinsNs
  above : X.s₀.heap.objs.size ≤ X.env.locals
  inj : ∀ x y c, X.env.cells.lookup x = some c → X.env.cells.lookup y = some c → x = y
  has : ∀ x, (X.env.kindOf x = some .cell ∨ X.env.kindOf x = some .free) → ∃ c, X.env.cells.lookup x = some c
  cab : ∀ x c, X.fn x = true → X.env.cells.lookup x = some c → X.s₀.heap.objs.size ≤ c
  hd : X.calm = true → X.A.handled = none
  frames : X.A.frames = some X.stack
  stk : X.stack = X.outer ∨ (X.stack = X.env :: X.outer ∧ X.env.frame = some X.env.locals)
  exf : ∀ b ∈ X.ex, b ≠ X.env.locals ∧ ∀ x c, X.env.cells.lookup x = some c → c ≠ b
  bs : ∀ b o, X.base.get? b = some o → X.s₀.heap.get? b = some o ∧ X.H₀ b = none
  bsz : X.base.objs.size ≤ X.s₀.heap.objs.size
  noex : ∀ b o, X.base.get? b = some o → b ∉ X.ex
  exfs : ∀ b ∈ X.ex, b ∉ X.fs
  funs : X.s₀.heap.FunFrames X.base X.outer
  frf : ∀ b ∈ X.fs, X.H₀ b = none

structure Inv (X : Cx) (pins : List (Addr × Obj)) (σ : List (Option V)) (H : Hp) (s : Shared) : Prop where
  ok : X.Ok
  os : s.os = X.s₀.os
  bare : AllBare s.gens
  base : Un X.fs X.ex X.H₀ H X.s₀.heap s.heap
  loc : ∃ m, s.heap.Ns X.env.locals m ∧ ∀ (i : Nat) (x : Str) (v : V), X.N[i]? = some x → σ[i]? = some (some v) → Vis X.env.scope x → ∃ u, RelV v u ∧ Look X.env s.heap m x u
  cell : ∀ x c, X.env.cells.lookup x = some c → ∃ v, s.heap.IsCell c v
  free : H X.env.locals = none
  freeC : ∀ x c, X.env.cells.lookup x = some c → H c = none
  pin : ∀ p ∈ X.pn ++ pins, s.heap.get? p.1 = some p.2 ∧ H p.1 = none ∧ p.1 ≠ X.env.locals ∧ p.1 ∉ X.fs ∧ ∀ v, p.2.data ≠ .cell v
  hok : HOk X.prog X.w H s.heap
  len : σ.length = X.N.length

section
variable {X : Cx} {pins : List (Addr × Obj)} {σ : List (Option V)} {H H' : Hp} {s : Shared} {h' : Heap}

theorem Cx.Ok.nofr (ok : X.Ok) {b : Addr} {o : Obj} (e : X.base.get? b = some o) : b ∉ X.fs := fun hb => by
  have := (ok.funs.mem hb).1
  rw [e] at this; cases this
theorem Inv.bs (I : Inv X pins σ H s) : ∀ b o, X.base.get? b = some o → s.heap.get? b = some o ∧ H b = none := fun b o e =>
  ⟨I.base.keep b o (I.ok.bs b o e).1 (I.ok.bs b o e).2 (I.ok.nofr e) (I.ok.noex b o e), I.base.free b o (I.ok.bs b o e).1 (I.ok.bs b o e).2 (I.ok.noex b o e)⟩
theorem Inv.bk (I : Inv X pins σ H s) : ∀ b o, X.base.get? b = some o → s.heap.get? b = some o := fun b o e => (I.bs b o e).1
theorem Inv.mod (I : Inv X pins σ H s) : Mod X.K X.mg X.base := I.ok.mod
theorem Inv.kIn (I : Inv X pins σ H s) : X.K.In s.heap := I.ok.mod.kin.keeps I.bk
theorem Inv.lt (I : Inv X pins σ H s) : X.env.locals < s.heap.objs.size := let ⟨_, hn, _⟩ := I.loc; hn.lt
theorem Inv.sz (I : Inv X pins σ H s) : X.s₀.heap.objs.size ≤ s.heap.objs.size := Nat.le_trans I.ok.above (Nat.le_of_lt I.lt)
theorem Inv.nofs (I : Inv X pins σ H s) {a : Addr} (h : s.heap.objs.size ≤ a) : a ∉ X.fs := fun hb => by
  obtain ⟨_, o, ho, _⟩ := I.ok.funs.mem hb
  exact absurd (Nat.lt_of_lt_of_le (Heap.lt_size ho) (Nat.le_trans I.sz h)) (Nat.lt_irrefl _)
theorem Inv.cne (I : Inv X pins σ H s) : ∀ x c, X.env.cells.lookup x = some c → c ≠ X.env.locals := fun x c e z => by
  obtain ⟨v, o, ho, hd⟩ := I.cell x c e
  obtain ⟨m, ⟨o', es, ep, ho', hd', _⟩, _⟩ := I.loc
  rw [z, ho'] at ho; cases ho; rw [hd'] at hd; cases hd
theorem Inv.funs (I : Inv X pins σ H s) : s.heap.FunFrames X.base X.outer := by
  have all : ∀ (l : List Env), (∀ b ∈ frs l, b ∈ X.fs) → X.s₀.heap.FunFrames X.base l → s.heap.FunFrames X.base l := by
    intro l
    induction l with
    | nil => intro _ _; trivial
    | cons env r ih =>
      intro hs hl
      obtain ⟨hk, ⟨L, o, hf, hn, ho, hd⟩, hr⟩ := hl
      have hL : L ∈ X.fs := hs L (by unfold frs; rw [List.filterMap_cons, hf]; exact List.mem_cons_self)
      obtain ⟨sl, e⟩ := I.base.slot L o ho (I.ok.frf L hL) hL fun z => I.ok.exfs L z hL
      exact ⟨hk, ⟨L, _, hf, hn, e, hd⟩, ih (fun b hb => hs b (by unfold frs; rw [List.filterMap_cons, hf]; exact List.mem_cons_of_mem _ hb)) hr⟩
  exact all X.outer (fun _ hb => hb) I.ok.funs

/-- the frames that run, for a call -/
theorem Inv.stack (I : Inv X pins σ H s) : s.heap.FunFrames X.base X.stack := by
  rcases I.ok.stk with e | ⟨e, hf⟩
  · rw [e]; exact I.funs
  · rw [e]
    obtain ⟨m, hn, _⟩ := I.loc
    refine .cons (by rw [I.ok.kind]; decide) hf hn ?_ I.funs
    exact Heap.get?_none_of_le (Nat.le_trans I.ok.bsz I.ok.above)
theorem Inv.stkSub (I : Inv X pins σ H s) : ∀ b ∈ frs X.stack, b ∈ X.env.locals :: X.fs := fun b hb => by
  rcases I.ok.stk with e | ⟨e, hf⟩
  · rw [e] at hb; exact List.mem_cons_of_mem _ hb
  · rw [e] at hb
    unfold frs at hb
    rw [List.filterMap_cons, hf] at hb
    exact hb
theorem Inv.stkFree (I : Inv X pins σ H s) : ∀ b ∈ frs X.stack, H b = none := fun b hb => by
  rcases List.mem_cons.mp (I.stkSub b hb) with e | hb
  · rw [e]; exact I.free
  · obtain ⟨_, o, ho, _⟩ := I.ok.funs.mem hb
    exact I.base.free b o ho (I.ok.frf b hb) fun z => I.ok.exfs b z hb

/-- THE STEP: the untracked objects but the frame and the records at ch are kept (the callers' frames up to slots), the frame's map is kept, the new abstract heap is held -/
theorem Inv.step {g' : Array GenState} {t' : Nat} {d' : Drawn} {ch : List Addr} (I : Inv X pins σ H s)
    (hch : ∀ b ∈ ch, (b ∈ X.ex ∨ X.s₀.heap.objs.size ≤ b) ∧ b ≠ X.env.locals ∧ (∀ x c, X.env.cells.lookup x = some c → c ≠ b) ∧ ∀ p ∈ X.pn ++ pins, p.1 ≠ b)
    (keep : ∀ b o, b ≠ X.env.locals → b ∉ X.fs → b ∉ ch → s.heap.get? b = some o → H b = none → h'.get? b = some o)
    (slot : ∀ b o, b ≠ X.env.locals → b ∈ X.fs → b ∉ ch → s.heap.get? b = some o → H b = none → ∃ sl, h'.get? b = some { o with slots := sl }) (free : ∀ b o, b ∉ ch → s.heap.get? b = some o → H b = none → H' b = none)
    (there : ∀ b o, b ∉ ch → s.heap.get? b = some o → ∃ o', h'.get? b = some o')
    (tups : ∀ b xs, H b = some (.tup xs) → H' b = some (.tup xs)) (frzs : ∀ b o u, H b = some (.frz o u) → H' b = some (.frz o u)) (tbls : ∀ b ps, H b = some (.tbl ps) → ∃ more, H' b = some (.tbl (ps ++ more)))
    (ns : ∀ m, s.heap.Ns X.env.locals m → h'.Ns X.env.locals m) (hok : HOk X.prog X.w H' h') (hg : AllBare g') :
    Inv X pins σ H' { s with heap := h', gens := g', drawn := d', toks := t' } := by
  have neL : ∀ b o, X.s₀.heap.get? b = some o → b ≠ X.env.locals := fun b o e => Nat.ne_of_lt (Nat.lt_of_lt_of_le (Heap.lt_size e) I.ok.above)
  have neC : ∀ b o, X.s₀.heap.get? b = some o → b ∉ X.ex → b ∉ ch := fun b o e hx hb => by
    rcases (hch b hb).1 with z | z
    · exact hx z
    · exact absurd (Nat.lt_of_lt_of_le (Heap.lt_size e) z) (Nat.lt_irrefl _)
  have cellK : ∀ x c, X.env.cells.lookup x = some c → ∀ v, s.heap.IsCell c v → h'.IsCell c v := fun x c e v ⟨o, ho, hd⟩ => by
    have nch : c ∉ ch := fun z => (hch c z).2.2.1 x c e rfl
    by_cases hc : c ∈ X.fs
    · obtain ⟨sl, q⟩ := slot c o (I.cne x c e) hc nch ho (I.freeC x c e)
      exact ⟨_, q, hd⟩
    · exact ⟨o, keep c o (I.cne x c e) hc nch ho (I.freeC x c e), hd⟩
  refine ⟨I.ok, I.os, hg, ⟨fun b o e n hb hx => ?_, fun b o e n hb hx => ?_, fun b o e n hx => ?_, fun b o e hx => ?_, fun b xs e => tups b xs (I.base.tups b xs e), fun b o xs e => frzs b o xs (I.base.frzs b o xs e), fun b ps e => ?_⟩, ?_, fun x c e => ?_, ?_, fun x c e => ?_, fun p hp => ?_, hok, I.len⟩
  · exact keep b o (neL b o e) hb (neC b o e hx) (I.base.keep b o e n hb hx) (I.base.free b o e n hx)
  · obtain ⟨sl, e1⟩ := I.base.slot b o e n hb hx
    obtain ⟨sl', e2⟩ := slot b _ (neL b o e) hb (neC b o e hx) e1 (I.base.free b o e n hx)
    exact ⟨sl', e2⟩
  · obtain ⟨o', e1⟩ := I.base.there b o e hx
    exact free b o' (neC b o e hx) e1 (I.base.free b o e n hx)
  · obtain ⟨o', e1⟩ := I.base.there b o e hx
    exact there b o' (neC b o e hx) e1
  · obtain ⟨m1, e1⟩ := I.base.tbls b ps e
    obtain ⟨m2, e2⟩ := tbls b _ e1
    exact ⟨m1 ++ m2, by rw [e2, Array.append_assoc]⟩
  · obtain ⟨m, hn, hl⟩ := I.loc
    refine ⟨m, ns m hn, fun i x v e1 e2 e3 => ?_⟩
    obtain ⟨u, r, l⟩ := hl i x v e1 e2 e3
    refine ⟨u, r, ?_⟩
    rcases l with l | ⟨k, c, e, z⟩
    · exact .inl l
    · exact .inr ⟨k, c, e, cellK x c e _ z⟩
  · obtain ⟨v, z⟩ := I.cell x c e
    exact ⟨v, cellK x c e v z⟩
  · obtain ⟨m, ⟨o, _, _, ho, _⟩, _⟩ := I.loc
    exact free _ o (fun z => (hch _ z).2.1 rfl) ho I.free
  · obtain ⟨v, o, ho, hd⟩ := I.cell x c e
    exact free c o (fun z => (hch c z).2.2.1 x c e rfl) ho (I.freeC x c e)
  · obtain ⟨e, n, ne, nf, d⟩ := I.pin p hp
    have nch : p.1 ∉ ch := fun z => (hch p.1 z).2.2.2 p hp rfl
    exact ⟨keep p.1 p.2 ne nf nch e n, free p.1 p.2 nch e n, ne, nf, d⟩
/-- .. where the frame's own object is kept too -/
theorem Inv.un {t' : Nat} (I : Inv X pins σ H s) (u : Un X.fs [] H H' s.heap h') (hok : HOk X.prog X.w H' h') : Inv X pins σ H' { s with heap := h', toks := t' } := by
  obtain ⟨m, ⟨o, es, ep, ho, r⟩, _⟩ := id I.loc
  obtain ⟨sl, hL⟩ := u.any ho I.free (by simp)
  exact I.step (g' := s.gens) (d' := s.drawn) (ch := []) (fun _ z => nomatch z) (fun b o _ hb _ e n => u.keep b o e n hb (by simp)) (fun b o _ hb _ e n => u.slot b o e n hb (by simp)) (fun b o _ e n => u.free b o e n (by simp)) (fun b o _ e => u.there b o e (by simp)) u.tups u.frzs u.tbls (fun m' hm => by
    obtain ⟨o', es', ep', ho', r'⟩ := hm
    rw [ho] at ho'; cases ho'
    exact ⟨_, es', ep', hL, r'⟩) hok I.bare
/-- behind a call (or a comprehension's block): the slots of this frame may have changed too, the records at ch may have turned -/
theorem Inv.call {g' : Array GenState} {t' : Nat} {d' : Drawn} {ch : List Addr} (I : Inv X pins σ H s) (u : Un (frs X.stack) ch H H' s.heap h') (hok : HOk X.prog X.w H' h') (hg : AllBare g')
    (hch : ∀ b ∈ ch, (b ∈ X.ex ∨ X.s₀.heap.objs.size ≤ b) ∧ b ≠ X.env.locals ∧ (∀ x c, X.env.cells.lookup x = some c → c ≠ b) ∧ ∀ p ∈ X.pn ++ pins, p.1 ≠ b) :
    Inv X pins σ H' { s with heap := h', gens := g', drawn := d', toks := t' } := by
  obtain ⟨m, ⟨o, es, ep, ho, r⟩, _⟩ := id I.loc
  obtain ⟨sl, hL⟩ := u.any ho I.free fun z => (hch _ z).2.1 rfl
  exact I.step (ch := ch) hch (fun b o hL hb hc e n => u.keep b o e n (fun z => (List.mem_cons.mp (I.stkSub b z)).elim hL hb) hc) (fun b o _ _ hc e n => u.any e n hc) (fun b o hc e n => u.free b o e n hc) (fun b o hc e => u.there b o e hc) u.tups u.frzs u.tbls (fun m' hm => by
    obtain ⟨o', es', ep', ho', r'⟩ := hm
    rw [ho] at ho'; cases ho'
    exact ⟨_, es', ep', hL, r'⟩) hok hg
/-- an untracked record of ours (an iterator) has turned -/
theorem Inv.turned {t' : Nat} {it : Addr} (I : Inv X pins σ H s) (k : ∀ b o, b ≠ it → s.heap.get? b = some o → h'.get? b = some o) (hn : H it = none) (hL : it ≠ X.env.locals)
    (h1 : it ∈ X.ex ∨ X.s₀.heap.objs.size ≤ it) (h2 : ∀ x c, X.env.cells.lookup x = some c → c ≠ it) (h3 : ∀ p ∈ X.pn ++ pins, p.1 ≠ it) : Inv X pins σ H { s with heap := h', toks := t' } := by
  have nit : ∀ b u, H b = some u → b ≠ it := fun b u e z => by rw [z, hn] at e; cases e
  refine I.step (g' := s.gens) (d' := s.drawn) (ch := [it]) (fun b hb => ?_) (fun b o _ _ hc e _ => k b o (fun z => hc (by simp [z])) e) (fun b o _ _ hc e _ => ⟨o.slots, k b o (fun z => hc (by simp [z])) e⟩) (fun _ _ _ _ n => n)
    (fun b o hc e => ⟨o, k b o (fun z => hc (by simp [z])) e⟩) (fun _ _ e => e) (fun _ _ _ e => e) (fun b ps e => ⟨#[], by rw [e]; simp⟩) (fun m hm => ?_) (fun b u e => ?_) I.bare
  · have e : b = it := by simpa using hb
    subst e
    exact ⟨h1, hL, h2, h3⟩
  · obtain ⟨o, es, ep, ho, r⟩ := hm
    exact ⟨o, es, ep, k _ o (Ne.symm hL) ho, r⟩
  · refine (I.hok b u e).stay (fun c v hc q => k c v ?_ q) (fun _ q => q) fun _ _ q => q
    rcases hc with z | z
    · rw [z]; exact nit b u e
    · exact nit c _ z
theorem Inv.tok (I : Inv X pins σ H s) (t : Nat) : Inv X pins σ H { s with toks := t } := I.un (h' := s.heap) (t' := t) Un.refl I.hok
/-- all objects kept -/
theorem Inv.kept {t' : Nat} (I : Inv X pins σ H s) (k : ∀ b u, s.heap.get? b = some u → h'.get? b = some u) : Inv X pins σ H { s with heap := h', toks := t' } := I.un (Un.kept k) (I.hok.kept k)
/-- a new object laid and tracked -/
theorem Inv.laid {a : Addr} {o : HO} {t' : Nat} (I : Inv X pins σ H s) (k : ∀ b u, s.heap.get? b = some u → h'.get? b = some u) (hp : s.heap.objs.size ≤ a) (new : ObjOk X.prog X.w (upd H a o) h' a o) :
    Inv X pins σ (upd H a o) { s with heap := h', toks := t' } := I.un (Un.laid k hp (I.hok.fresh hp)) (I.hok.laid k hp new)
/-- an object written -/
theorem Inv.write {x e : Addr} {o : HO} {t' : Nat} (I : Inv X pins σ H s) (mu : Mut (H x)) (he : e = x ∨ H e = some (.own x)) (k : ∀ b u, b ≠ e → s.heap.get? b = some u → h'.get? b = some u) (heo : ∃ u, h'.get? e = some u)
    (new : ObjOk X.prog X.w (upd H x o) h' x o) : Inv X pins σ (upd H x o) { s with heap := h', toks := t' } := I.un (Un.write mu he k heo) (I.hok.write mu he k heo new)
theorem Inv.pins_of {pins' : List (Addr × Obj)} (I : Inv X pins σ H s) (h : ∀ p ∈ pins', s.heap.get? p.1 = some p.2 ∧ H p.1 = none ∧ p.1 ≠ X.env.locals ∧ p.1 ∉ X.fs ∧ ∀ v, p.2.data ≠ .cell v) : Inv X pins' σ H s :=
  ⟨I.ok, I.os, I.bare, I.base, I.loc, I.cell, I.free, I.freeC, fun p hp => (List.mem_append.mp hp).elim (fun z => I.pin p (List.mem_append_left _ z)) (h p), I.hok, I.len⟩

theorem nodup_ix {N : List Str} (hN : N.Nodup) {i j : Nat} {x : Str} (a : N[i]? = some x) (b : N[j]? = some x) : i = j := by
  obtain ⟨h1, e1⟩ := List.getElem?_eq_some_iff.mp a
  obtain ⟨h2, e2⟩ := List.getElem?_eq_some_iff.mp b
  exact (List.getElem_inj hN).mp (e1.trans e2.symm)

/-- a name is stored; what changed -/
theorem store_ok2 {M : Model} {A : Around} {E : Value → Shared → Prop} {i : Nat} {x : Str} {v : V} {u : Value} {Q : Unit → Shared → Prop} (I : Inv X pins σ H s) (hN : X.N.Nodup) (hi : X.N[i]? = some x) (hx : Loc X.env.scope x) (r : RelV v u)
    (h : ∀ s', Inv X pins (σ.set i (some v)) H s' → (∃ a, Heap.SameBut a s.heap s'.heap ∧ (a = X.env.locals ∨ X.env.cells.lookup x = some a)) → Q () s') (hf : X.fn x = true ∨ X.env.scope.names.lookup x = some .local := by first | exact .inl rfl | exact .inr rfl | assumption) : wpAny M A (storeName X.env x u) Q E s := by
  obtain ⟨m, hn, hl⟩ := id I.loc
  have hcls : (X.env.scope.kind == .class || (X.env.scope.kind == .module && X.env.locals != X.env.globals)) = false := by rw [I.ok.kind]; rfl
  have hiσ : i < σ.length := by rw [I.len]; exact (List.getElem?_eq_some_iff.mp hi).1
  have cne := I.cne
  have tracked : ∀ {a : Addr} {h' : Heap}, (∃ o, s.heap.get? a = some o ∧ H a = none) → Heap.SameBut a s.heap h' → HOk X.prog X.w H h' := fun {a h'} ha hs b ob e => by
    obtain ⟨_, _, hfree⟩ := ha
    refine (I.hok b ob e).stay (fun c w' hc q => (hs.2 c ?_).trans q) (fun _ q => q) fun _ _ q => q
    rintro rfl
    rcases hc with rfl | hc
    · rw [hfree] at e; cases e
    · rw [hfree] at hc; cases hc
  rcases hx with hk | hk
  · refine wpAny_storeName_local hk hn (fun h' hn' hs => ?_) hcls
    obtain ⟨oL, _, _, hoL, _⟩ := id hn
    refine h _ ⟨I.ok, I.os, I.bare, ⟨fun b o e n hb hx => ?_, fun b o e n hb hx => ?_, I.base.free, fun b o e hx => ?_, I.base.tups, I.base.frzs, I.base.tbls⟩, ⟨_, hn', fun j y v' e1 e2 e3 => ?_⟩, fun y c e => ?_, I.free, I.freeC, fun p hp => ?_, tracked ⟨oL, hoL, I.free⟩ hs, by simpa using I.len⟩ ⟨_, hs, .inl rfl⟩
    · exact (hs.2 b (Nat.ne_of_lt (Nat.lt_of_lt_of_le (Heap.lt_size e) I.ok.above))).trans (I.base.keep b o e n hb hx)
    · obtain ⟨sl, e1⟩ := I.base.slot b o e n hb hx
      exact ⟨sl, (hs.2 b (Nat.ne_of_lt (Nat.lt_of_lt_of_le (Heap.lt_size e) I.ok.above))).trans e1⟩
    · obtain ⟨o', e1⟩ := I.base.there b o e hx
      exact ⟨o', (hs.2 b (Nat.ne_of_lt (Nat.lt_of_lt_of_le (Heap.lt_size e) I.ok.above))).trans e1⟩
    · by_cases hj : j = i
      · subst hj
        rw [hi] at e1; cases e1
        rw [List.getElem?_set_self hiσ] at e2
        cases e2
        exact ⟨u, r, .inl ⟨hk, by simp⟩⟩
      · rw [List.getElem?_set_ne (Ne.symm hj)] at e2
        obtain ⟨u', r', q⟩ := hl j y v' e1 e2 e3
        refine ⟨u', r', ?_⟩
        rcases q with ⟨k, e⟩ | ⟨k, c, e, z⟩
        · refine .inl ⟨k, ?_⟩
          have : y ≠ x := fun e => hj (nodup_ix hN e1 (e ▸ hi))
          simp [this, e]
        · exact .inr ⟨k, c, e, z.sameBut hs (cne y c e)⟩
    · obtain ⟨w', z⟩ := I.cell y c e
      exact ⟨w', z.sameBut hs (cne y c e)⟩
    · obtain ⟨e, n, ne, nf, d⟩ := I.pin p hp
      exact ⟨(hs.2 p.1 ne).trans e, n, ne, nf, d⟩
  · have hfn : X.fn x = true := by
      rcases hf with z | z
      · exact z
      · rw [z] at hk; cases hk
    obtain ⟨c, hc⟩ := I.ok.has x (.inl hk)
    obtain ⟨w', z⟩ := I.cell x c hc
    refine wpAny_storeName_cell I.ok.kind hk hc z (fun h' hc' hs => ?_)
    obtain ⟨oc, hoc, hocd⟩ := id z
    refine h { s with heap := h' } ⟨I.ok, I.os, I.bare, ⟨fun b o e n hb hx => ?_, fun b o e n hb hx => ?_, I.base.free, fun b o e hx => ?_, I.base.tups, I.base.frzs, I.base.tbls⟩, ⟨m, hn.sameBut hs (Ne.symm (cne x c hc)), fun j y v' e1 e2 e3 => ?_⟩, fun y c' e => ?_, I.free, I.freeC, fun p hp => ?_, tracked ⟨oc, hoc, I.freeC x c hc⟩ hs, by simpa using I.len⟩ ⟨c, hs, .inr hc⟩
    · exact (hs.2 b (Nat.ne_of_lt (Nat.lt_of_lt_of_le (Heap.lt_size e) (I.ok.cab x c hfn hc)))).trans (I.base.keep b o e n hb hx)
    · obtain ⟨sl, e1⟩ := I.base.slot b o e n hb hx
      exact ⟨sl, (hs.2 b (Nat.ne_of_lt (Nat.lt_of_lt_of_le (Heap.lt_size e) (I.ok.cab x c hfn hc)))).trans e1⟩
    · obtain ⟨o', e1⟩ := I.base.there b o e hx
      exact ⟨o', (hs.2 b (Nat.ne_of_lt (Nat.lt_of_lt_of_le (Heap.lt_size e) (I.ok.cab x c hfn hc)))).trans e1⟩
    · by_cases hj : j = i
      · subst hj
        rw [hi] at e1; cases e1
        rw [List.getElem?_set_self hiσ] at e2
        cases e2
        exact ⟨u, r, .inr ⟨.inl hk, c, hc, hc'⟩⟩
      · rw [List.getElem?_set_ne (Ne.symm hj)] at e2
        obtain ⟨u', r', q⟩ := hl j y v' e1 e2 e3
        refine ⟨u', r', ?_⟩
        rcases q with q | ⟨k, c', e, z'⟩
        · exact .inl q
        · refine .inr ⟨k, c', e, z'.sameBut hs ?_⟩
          rintro rfl
          exact hj (nodup_ix hN e1 (I.ok.inj _ _ _ e hc ▸ hi))
    · by_cases hcc : c' = c
      · subst hcc; exact ⟨_, hc'⟩
      · obtain ⟨w2, z2⟩ := I.cell y c' e
        exact ⟨w2, z2.sameBut hs hcc⟩
    · obtain ⟨e, n, ne, nf, d⟩ := I.pin p hp
      refine ⟨(hs.2 p.1 ?_).trans e, n, ne, nf, d⟩
      intro q
      rw [q, hoc] at e
      have q' : oc = p.2 := Option.some.inj e
      exact d w' (by rw [← q']; exact hocd)
theorem store_ok {M : Model} {A : Around} {E : Value → Shared → Prop} {i : Nat} {x : Str} {v : V} {u : Value} {Q : Unit → Shared → Prop} (I : Inv X pins σ H s) (hN : X.N.Nodup) (hi : X.N[i]? = some x) (hx : Loc X.env.scope x) (r : RelV v u)
    (h : ∀ s', Inv X pins (σ.set i (some v)) H s' → Q () s') (hf : X.fn x = true ∨ X.env.scope.names.lookup x = some .local := by first | exact .inl rfl | exact .inr rfl | assumption) : wpAny M A (storeName X.env x u) Q E s :=
  store_ok2 I hN hi hx r (fun s' I' _ => h s' I') hf
/-- behind a call or a block, the state as it is -/
theorem Inv.call' {s' : Shared} {ch : List Addr} (I : Inv X pins σ H s) (ho : s'.os = s.os) (u : Un (frs X.stack) ch H H' s.heap s'.heap) (hok : HOk X.prog X.w H' s'.heap) (hg : AllBare s'.gens)
    (hch : ∀ b ∈ ch, (b ∈ X.ex ∨ X.s₀.heap.objs.size ≤ b) ∧ b ≠ X.env.locals ∧ (∀ x c, X.env.cells.lookup x = some c → c ≠ b) ∧ ∀ p ∈ X.pn ++ pins, p.1 ≠ b) : Inv X pins σ H' s' := by
  obtain ⟨h', g', d', t', o'⟩ := s'
  have e : o' = s.os := ho
  subst e
  exact I.call (g' := g') (t' := t') (d' := d') u hok hg hch
end

/-! ### the judgements -/
/-- an exception: its class, its own dict's address (where it has one), the abstract heap behind it -/
abbrev XK := Value → Option Addr → Hp → Prop
abbrev St := List (Option V)
abbrev VK := V → Hp → Prop
/-- an expression's reading; a test's; an argument list's -/
abbrev TE := St → Hp → VK → Prop
abbrev TT := St → Hp → (Bool → Hp → Prop) → Prop
abbrev TA := St → Hp → (List V → Hp → Prop) → Prop
/-- what is wanted behind a statement -/
structure Ends where
  nx : St → Hp → Prop
  rt : VK
  bk : St → Hp → Prop := fun _ _ => False
  ct : St → Hp → Prop := fun _ _ => False
abbrev TS := Ends → St → Hp → Prop

def EP (X : Cx) (pins : List (Addr × Obj)) (σ : St) (Q : VK) (u : Value) (s' : Shared) : Prop := ∃ v H', Inv X pins σ H' s' ∧ RelV v u ∧ Q v H'
def TP (X : Cx) (pins : List (Addr × Obj)) (σ : St) (Q : Bool → Hp → Prop) (b : Bool) (s' : Shared) : Prop := ∃ H', Inv X pins σ H' s' ∧ Q b H'
def AP (X : Cx) (pins : List (Addr × Obj)) (σ : St) (Q : List V → Hp → Prop) (us : List Value) (s' : Shared) : Prop := ∃ vs H', Inv X pins σ H' s' ∧ Vals vs us ∧ Q vs H'
def SP (X : Cx) (pins : List (Addr × Obj)) (D : Ends) (f : Flow) (s' : Shared) : Prop :=
  match f with
  | .next => ∃ σ' H', Inv X pins σ' H' s' ∧ D.nx σ' H'
  | .brk => ∃ σ' H', Inv X pins σ' H' s' ∧ D.bk σ' H'
  | .cont => ∃ σ' H', Inv X pins σ' H' s' ∧ D.ct σ' H'
  | .ret u => ∃ v σ' H', Inv X pins σ' H' s' ∧ RelV v u ∧ D.rt v H'

def PE (X : Cx) (e : Expr) (t : TE) : Prop :=
  ∀ (pins : List (Addr × Obj)) (s : Shared) (σ : St) (H : Hp) (Q : VK), Inv X pins σ H s → t σ H Q → wpAny (model X.prog X.w) X.A (eval e X.env) (EP X pins σ Q) X.xe s
def PT (X : Cx) (e : Expr) (t : TT) : Prop :=
  ∀ (pins : List (Addr × Obj)) (s : Shared) (σ : St) (H : Hp) (Q : Bool → Hp → Prop), Inv X pins σ H s → t σ H Q → wpAny (model X.prog X.w) X.A (isTrue e X.env (eval e X.env)) (TP X pins σ Q) X.xe s
/-- a test whatever its 'whole' is (and, or) -/
def PW (X : Cx) (e : Expr) (t : TT) : Prop :=
  ∀ (whole : Sem Value) (pins : List (Addr × Obj)) (s : Shared) (σ : St) (H : Hp) (Q : Bool → Hp → Prop), Inv X pins σ H s → t σ H Q → wpAny (model X.prog X.w) X.A (isTrue e X.env whole) (TP X pins σ Q) X.xe s
theorem PW.pt {X : Cx} {e : Expr} {t : TT} (h : PW X e t) : PT X e t := h _
/-- an argument list (no star), from the left -/
def PA (X : Cx) (es : List Expr) (t : TA) : Prop :=
  ∀ (pos : Pos) (pins : List (Addr × Obj)) (s : Shared) (σ : St) (H : Hp) (Q : List V → Hp → Prop), Inv X pins σ H s → t σ H Q → wpAny (model X.prog X.w) X.A (spliced (backTo pos (starEach es X.env))) (AP X pins σ Q) X.xe s
def PS (X : Cx) (st : Stmt) (t : TS) : Prop :=
  ∀ (pins : List (Addr × Obj)) (s : Shared) (σ : St) (H : Hp) (D : Ends), Inv X pins σ H s → t D σ H → wpAny (model X.prog X.w) X.A (exec st X.env) (SP X pins D) X.xe s
def PSs (X : Cx) (st : List Stmt) (t : TS) : Prop :=
  ∀ (pins : List (Addr × Obj)) (s : Shared) (σ : St) (H : Hp) (D : Ends), Inv X pins σ H s → t D σ H → wpAny (model X.prog X.w) X.A (execs st X.env) (SP X pins D) X.xe s
/-- weaken the end -/
theorem thn {α : Type} {t : Sem α} {Q Q' : α → Shared → Prop} {M : Model} {A : Around} {E : Value → Shared → Prop} {s : Shared} (h : wpAny M A t Q E s) (hQ : ∀ a s, Q a s → Q' a s) : wpAny M A t Q' E s := wpAny_mono h hQ fun _ _ x => x
end L2

namespace L2
open PySem PySem.Spec PyProof.Rows
section
variable {X : Cx}

/-! ### names and constants -/
def tVar (i : Nat) : TE := fun σ H Q => ∃ v, σ[i]? = some (some v) ∧ Q v H
def tC (v : V) : TE := fun _ H Q => Q v H
theorem pe_var {i : Nat} {x : Str} {pos : Pos} (hN : X.N[i]? = some x) (hv : Vis X.env.scope x) (hd : (x == ("__debug__" : Str)) = false := by decide) (hcd : (x == ("__classdict__" : Str)) = false := by decide) : PE X (.Name x pos) (tVar i) := by
  intro pins s σ H Q I h
  obtain ⟨v, e, h⟩ := h
  obtain ⟨m, hn, hl⟩ := I.loc
  obtain ⟨u, r, l⟩ := hl i x v hN e hv
  have fin : EP X pins σ Q u s := ⟨v, H, I, r, h⟩
  rcases l with ⟨hk, hm⟩ | ⟨hk, c, hc, hcell⟩
  · exact wpAny_Name (wpAny_loadName_local I.ok.kind hk hn hm fin) hd
  · rcases hk with hk | hk
    · exact wpAny_Name (wpAny_loadName_cell I.ok.kind hk hc hcell fin) hd
    · exact wpAny_Name (wpAny_loadName_free I.ok.kind hk hc hcell fin hcd) hd
theorem pe_int {i j pos} : PE X (.Constant (.int i) j pos) (tC (.int i)) := fun _ _ _ H _ I h => wpAny_Constant_int ⟨.int i, H, I.tok _, ⟨_, rfl⟩, h⟩
theorem pe_bl {b j pos} : PE X (.Constant (.bool b) j pos) (tC (.bl b)) := fun _ _ _ H _ I h => Constant_bool ⟨.bl b, H, I, rfl, h⟩
theorem pe_non {j pos} : PE X (.Constant .none j pos) (tC .non) := fun _ _ _ H _ I h => Constant_none ⟨.non, H, I, rfl, h⟩
theorem pe_str {x j pos} : PE X (.Constant (.str x) j pos) (tC (.str x)) := fun _ _ _ H _ I h => Calls.Constant_str ⟨.str x, H, I.tok _, ⟨_, rfl⟩, h⟩

/-- a global name of the def -/
def Gl (X : Cx) (x : Str) : Prop := X.env.kindOf x = some .globalImplicit
theorem ld_glob {E : Value → Shared → Prop} {pins : List (Addr × Obj)} {s : Shared} {σ : St} {H : Hp} {x : Str} {u : Value} {pos : Pos} {Q : Value → Shared → Prop} (I : Inv X pins σ H s) (hg : Gl X x) (hm : X.mg x = some u) (h : Q u s)
    (hd : (x == ("__debug__" : Str)) = false := by decide) : wpAny (model X.prog X.w) X.A (eval (.Name x pos) X.env) Q E s :=
  Calls.Name_function_global I.ok.kind hg (Calls.loadGlobal_global (by rw [I.ok.glob]; exact I.mod.glob.keeps I.bk) hm h) hd
theorem ld_blt {E : Value → Shared → Prop} {pins : List (Addr × Obj)} {s : Shared} {σ : St} {H : Hp} {x : Str} {u : Value} {pos : Pos} {Q : Value → Shared → Prop} (I : Inv X pins σ H s) (hg : Gl X x) (hm : X.mg x = none) (hv : bootBuiltins x = some u) (h : Q u s)
    (hn : x ≠ "__name__" := by decide) (hd : (x == ("__debug__" : Str)) = false := by decide) : wpAny (model X.prog X.w) X.A (eval (.Name x pos) X.env) Q E s := by
  obtain ⟨mb, h1, h2⟩ := I.mod.blt
  exact Calls.Name_function_global I.ok.kind hg (Calls.loadGlobal_builtin (by rw [I.ok.glob]; exact I.mod.glob.keeps I.bk) hm (by rw [I.ok.blt]; exact h1.keeps I.bk) ((h2 x hn).trans hv) h) hd
/-- a module's constant, a class, a function, as a value -/
theorem pe_glob {x : Str} {v : V} {u : Value} {pos : Pos} (hg : Gl X x) (hm : X.mg x = some u) (r : RelV v u) (hd : (x == ("__debug__" : Str)) = false := by decide) : PE X (.Name x pos) (tC v) :=
  fun _ _ _ H _ I h => ld_glob I hg hm ⟨v, H, I, r, h⟩ hd
theorem pe_bltn {x : Str} {v : V} {u : Value} {pos : Pos} (hg : Gl X x) (hm : X.mg x = none) (hv : bootBuiltins x = some u) (r : RelV v u) (hn : x ≠ "__name__" := by decide) (hd : (x == ("__debug__" : Str)) = false := by decide) : PE X (.Name x pos) (tC v) :=
  fun _ _ _ H _ I h => ld_blt I hg hm hv ⟨v, H, I, r, h⟩ hn hd

/-! ### arithmetic -/
variable {a b : Expr} {ta tb : TE} {pos : Pos}
/-! ### comparisons -/
/-- a comparison as a value, as a test -/
def tB (t : TE) : TT := fun σ H Q => t σ H fun x H1 => ∃ c, x = .bl c ∧ Q c H1
/-- an expression whose value is a bool, as a test -/
theorem pt_val {e : Expr} {t : TE} (h : PE X e t) (he : ∀ whole, isTrue e X.env whole = (do let v ← whole; standAt e.pos; holding [v] (truthy v)) := by intro _; rfl) : PT X e (tB t) := by
  intro pins s σ H Q I hw
  refine isTrue_plain (thn (h pins s σ H _ I hw) fun v s1 ⟨x, H1, I1, r1, q1⟩ => ?_) (he _)
  obtain ⟨d, rfl, q⟩ := q1
  cases r1
  exact wpAny_truthy_bool ⟨H1, I1, q⟩

/-! ### and, or, not -/
variable {tA tB' : TT} {rest : List Expr}
def tAnd (t u : TT) : TT := fun σ H Q => t σ H fun c H1 => if c = true then u σ H1 Q else Q false H1
def tOr (t u : TT) : TT := fun σ H Q => t σ H fun c H1 => if c = true then Q true H1 else u σ H1 Q
def tNot (t : TT) : TT := fun σ H Q => t σ H fun c H1 => Q (!c) H1
theorem pw_and1 (ha : PT X a tA) : PW X (.BoolOp .And [a] pos) tA := by
  intro wh pins s σ H Q I h
  refine isTrue_and (thn (ha pins s σ H Q I h) fun c s1 e => ?_)
  cases c with
  | true => exact isTrue_and_nil e
  | false => exact e
theorem pw_or1 (ha : PT X a tA) : PW X (.BoolOp .Or [a] pos) tA := by
  intro wh pins s σ H Q I h
  refine isTrue_or (thn (ha pins s σ H Q I h) fun c s1 e => ?_)
  cases c with
  | false => exact isTrue_or_nil e
  | true => exact e
theorem pw_and (ha : PT X a tA) (hb : PW X (.BoolOp .And (b :: rest) pos) tB') : PW X (.BoolOp .And (a :: b :: rest) pos) (tAnd tA tB') := by
  intro wh pins s σ H Q I h
  refine isTrue_and (thn (ha pins s σ H _ I h) fun c s1 ⟨H1, I1, q1⟩ => ?_)
  cases c with
  | true => exact hb wh pins s1 σ H1 Q I1 q1
  | false => exact ⟨H1, I1, q1⟩
theorem pw_or (ha : PT X a tA) (hb : PW X (.BoolOp .Or (b :: rest) pos) tB') : PW X (.BoolOp .Or (a :: b :: rest) pos) (tOr tA tB') := by
  intro wh pins s σ H Q I h
  refine isTrue_or (thn (ha pins s σ H _ I h) fun c s1 ⟨H1, I1, q1⟩ => ?_)
  cases c with
  | true => exact ⟨H1, I1, q1⟩
  | false => exact hb wh pins s1 σ H1 Q I1 q1
theorem pt_not (ha : PT X a tA) : PT X (.UnaryOp .Not a pos) (tNot tA) := by
  intro pins s σ H Q I h
  exact isTrue_not (ha pins s σ H (fun c H1 => Q (!c) H1) I h)
/-- .. as values (bools) -/
def tAndV (ta tb : TE) : TE := fun σ H Q => ta σ H fun x H1 => ∃ c, x = .bl c ∧ if c = true then tb σ H1 Q else Q (.bl false) H1
def tNotV (ta : TE) : TE := fun σ H Q => ta σ H fun x H1 => ∃ c, x = .bl c ∧ Q (.bl (!c)) H1
theorem pe_one {op} {t : TE} (h : PE X a t) : PE X (.BoolOp op [a] pos) t := fun pins s σ H Q I hw => BoolOp_one (h pins s σ H Q I hw)
theorem pe_and (ha : PE X a ta) (hb : PE X (.BoolOp .And (b :: rest) pos) tb) : PE X (.BoolOp .And (a :: b :: rest) pos) (tAndV ta tb) := by
  intro pins s σ H Q I h
  refine BoolOp_and (thn (ha pins s σ H _ I h) fun v s1 ⟨x, H1, I1, r1, q1⟩ => ?_)
  obtain ⟨c, rfl, q1⟩ := q1
  cases r1
  refine wpAny_truthy_bool ?_
  cases c with
  | true => exact hb pins s1 σ H1 Q I1 q1
  | false => exact ⟨.bl false, H1, I1, rfl, q1⟩
theorem pe_not (ha : PE X a ta) : PE X (.UnaryOp .Not a pos) (tNotV ta) := by
  intro pins s σ H Q I h
  refine UnaryOp_ (thn (ha pins s σ H _ I h) fun v s1 ⟨x, H1, I1, r1, q1⟩ => ?_)
  obtain ⟨c, rfl, q1⟩ := q1
  cases r1
  exact not_of (wpAny_truthy_bool ⟨.bl (!c), H1, I1, rfl, q1⟩)
end
end L2

namespace L2
open PySem PySem.Spec PyProof.Rows

/-! ### a list, a tuple that is read: tracked, frozen, or an object of the module -/
def SqL (K : PySem.W.Frag) (H : Hp) (a : Addr) (xs : List V) : Prop :=
  Rd H a (.lst xs) ∨
    ∃ (o : Obj) (its : Array Value) (n : Nat), K.lookup a = some o ∧ o.cls = .type "list" ∧ o.dict = none ∧ o.data = .seq its n ∧ its.size ≤ sizeLine ∧ Vals xs its.toList
def SqT (K : PySem.W.Frag) (H : Hp) (a : Addr) (xs : List V) : Prop :=
  Rd H a (.tup xs) ∨
    ∃ (o : Obj) (its : Array Value) (n : Nat), K.lookup a = some o ∧ o.cls = .type "tuple" ∧ o.data = .seq its n ∧ its.size ≤ sizeLine ∧ Vals xs its.toList
def absV : Value → Option V
  | .none => some .non
  | .bool b => some (.bl b)
  | .int i _ => some (.int i)
  | .str x _ => some (.str x)
  | .bytes b _ => some (.byt b)
  | .float b _ => some (.flt b)
  | .ref a => some (.ref a)
  | .type n => some (.ty n)
  | _ => none
theorem RelV.abs {x : V} {u : Value} (r : RelV x u) : absV u = some x := by
  cases x with
  | non => cases r; rfl
  | bl _ => cases r; rfl
  | int _ => obtain ⟨t, rfl⟩ := r; rfl
  | str _ => obtain ⟨t, rfl⟩ := r; rfl
  | byt _ => obtain ⟨t, rfl⟩ := r; rfl
  | flt _ => obtain ⟨t, rfl⟩ := r; rfl
  | ref _ => cases r; rfl
  | ty _ => cases r; rfl
theorem RelV.inj {x y : V} {u : Value} (r : RelV x u) (q : RelV y u) : x = y := Option.some.inj (r.abs.symm.trans q.abs)
theorem Vals.inj : ∀ {xs ys : List V} {us : List Value}, Vals xs us → Vals ys us → xs = ys
  | _, _, _, .nil, .nil => rfl
  | _, _, _, .cons r t, .cons r' t' => by rw [r.inj r', Vals.inj t t']
section
variable {X : Cx} {pins : List (Addr × Obj)} {σ : St} {H : Hp} {s : Shared} {a : Addr} {xs ys : List V}
theorem SqL.of {K : PySem.W.Frag} (h : H a = some (.lst xs)) : SqL K H a xs := .inl (.inl h)
theorem Inv.list (I : Inv X pins σ H s) (h : SqL X.K H a xs) : ∃ its : List Value, Vals xs its ∧ PlainL s.heap a its.toArray ∧ xs.length ≤ sizeLine := by
  rcases h with h | ⟨o, its, n, hk, hc, hd, hs, hz, r⟩
  · obtain ⟨z, its, n, r, e⟩ := h.ok I.hok
    exact ⟨its, r, ⟨_, n, e, rfl, rfl, rfl⟩, z⟩
  · refine ⟨its.toList, r, ⟨o, n, I.kIn a o hk, hc, hd, by simpa using hs⟩, ?_⟩
    have e := r.length
    simp only [Array.length_toList] at e
    omega
theorem Inv.tuple (I : Inv X pins σ H s) (h : SqT X.K H a xs) : ∃ its : List Value, Vals xs its ∧ IsTup s.heap a its.toArray ∧ xs.length ≤ sizeLine := by
  rcases h with h | ⟨o, its, n, hk, hc, hs, hz, r⟩
  · obtain ⟨z, its, r, p⟩ := h.ok I.hok
    exact ⟨its, r, p, z⟩
  · refine ⟨its.toList, r, ⟨o, I.kIn a o hk, hc, n, by simpa using hs⟩, ?_⟩
    have e := r.length
    simp only [Array.length_toList] at e
    omega
theorem Inv.list_inj (I : Inv X pins σ H s) (h : SqL X.K H a xs) (h' : SqL X.K H a ys) : xs = ys := by
  obtain ⟨its, r, ⟨o, n, e, _, _, d⟩, _⟩ := I.list h
  obtain ⟨its', r', ⟨o', n', e', _, _, d'⟩, _⟩ := I.list h'
  rw [e] at e'; cases e'
  rw [d] at d'
  injection d' with d1 _
  have : its = its' := by simpa using congrArg Array.toList d1
  subst this
  exact r.inj r'
theorem Inv.tuple_inj (I : Inv X pins σ H s) (h : SqT X.K H a xs) (h' : SqT X.K H a ys) : xs = ys := by
  obtain ⟨its, r, ⟨o, e, _, n, d⟩, _⟩ := I.tuple h
  obtain ⟨its', r', ⟨o', e', _, n', d'⟩, _⟩ := I.tuple h'
  rw [e] at e'; cases e'
  rw [d] at d'
  injection d' with d1 _
  have : its = its' := by simpa using congrArg Array.toList d1
  subst this
  exact r.inj r'
end

/-! ### another wish about exceptions -/
abbrev Cx.wish (X : Cx) (E : Value → Shared → Prop) : Cx := { X with xe := E }
/-- no exception leaves -/
abbrev Cx.nox (X : Cx) : Cx := X.wish fun _ _ => False
theorem Cx.Ok.wish {X : Cx} (ok : X.Ok) (E : Value → Shared → Prop) : (X.wish E).Ok :=
  ⟨ok.mod, ok.kind, ok.glob, ok.blt, ok.above, ok.inj, ok.has, ok.cab, ok.hd, ok.frames, ok.stk, ok.exf, ok.bs, ok.bsz, ok.noex, ok.exfs, ok.funs, ok.frf⟩
theorem Cx.Ok.unwish {X : Cx} {E : Value → Shared → Prop} (ok : (X.wish E).Ok) : X.Ok :=
  ⟨ok.mod, ok.kind, ok.glob, ok.blt, ok.above, ok.inj, ok.has, ok.cab, ok.hd, ok.frames, ok.stk, ok.exf, ok.bs, ok.bsz, ok.noex, ok.exfs, ok.funs, ok.frf⟩
section
variable {X : Cx} {pins : List (Addr × Obj)} {σ : St} {H : Hp} {s : Shared} {E : Value → Shared → Prop}
theorem Inv.wish (I : Inv X pins σ H s) (E : Value → Shared → Prop) : Inv (X.wish E) pins σ H s := ⟨I.ok.wish E, I.os, I.bare, I.base, I.loc, I.cell, I.free, I.freeC, I.pin, I.hok, I.len⟩
theorem Inv.unwish (I : Inv (X.wish E) pins σ H s) : Inv X pins σ H s := ⟨I.ok.unwish, I.os, I.bare, I.base, I.loc, I.cell, I.free, I.freeC, I.pin, I.hok, I.len⟩
theorem SP.unwish {D : Ends} {f : Flow} {s' : Shared} (h : SP (X.wish E) pins D f s') : SP X pins D f s' := by
  cases f with
  | next => obtain ⟨σ', H', I, q⟩ := h; exact ⟨σ', H', I.unwish, q⟩
  | brk => obtain ⟨σ', H', I, q⟩ := h; exact ⟨σ', H', I.unwish, q⟩
  | cont => obtain ⟨σ', H', I, q⟩ := h; exact ⟨σ', H', I.unwish, q⟩
  | ret u => obtain ⟨v, σ', H', I, r, q⟩ := h; exact ⟨v, σ', H', I.unwish, r, q⟩
theorem PSs.nox {st : List Stmt} {t : TS} (h : PSs X.nox st t) : PSs X st t := fun pins s σ H D I hw =>
  wpAny_mono (h pins s σ H D (I.wish _) hw) (fun _ _ q => q.unwish) fun _ _ z => False.elim z
end

/-! ### blocks and small statements -/
section
variable {X : Cx} {st : Stmt} {rest : List Stmt} {t u : TS} {e : Expr} {te : TE} {pos : Pos}
def tNext : TS := fun D σ H => D.nx σ H
def tSeq (t u : TS) : TS := fun D σ H => t { D with nx := u D } σ H
theorem pss_nil : PSs X [] tNext := fun _ _ σ H _ I h => wpAny_execs_nil ⟨σ, H, I, h⟩
theorem pss_cons (h1 : PS X st t) (h2 : PSs X rest u) : PSs X (st :: rest) (tSeq t u) := by
  intro pins s σ H D I h
  refine wpAny_execs_cons (thn (h1 pins s σ H { D with nx := u D } I h) fun f s1 q => ?_)
  cases f with
  | next =>
    obtain ⟨σ', H', I', q⟩ := q
    exact h2 pins s1 σ' H' D I' q
  | ret v => exact q
  | brk => exact q
  | cont => exact q
theorem pss_one (h1 : PS X st t) : PSs X [st] t := by
  intro pins s σ H D I h
  refine wpAny_execs_cons (thn (h1 pins s σ H D I h) fun f s1 q => ?_)
  cases f with
  | next => exact wpAny_execs_nil q
  | ret v => exact q
  | brk => exact q
  | cont => exact q
/-- in a def's body nothing is shown -/
theorem Inv.quiet {pins : List (Addr × Obj)} {σ : St} {H : Hp} {s : Shared} (I : Inv X pins σ H s) : interactive X.env = false := by simp [interactive, I.ok.kind]
/-- an expression whose value is dropped -/
def tDrop (te : TE) : TS := fun D σ H => te σ H fun _ H1 => D.nx σ H1
theorem ps_expr (he : PE X e te) (hs : swapsWith e none pos.line X.env = pure false := by rfl) : PS X (.Expr e pos) (tDrop te) := by
  intro pins s σ H D I h
  exact wpAny_Expr_any (thn (he pins s σ H _ I h) fun v s1 ⟨x, H1, I1, r1, q1⟩ => ⟨σ, H1, I1, q1⟩) I.quiet hs
def tRet (te : TE) : TS := fun D σ H => te σ H D.rt
theorem ps_ret (he : PE X e te) : PS X (.Return (some e) pos) (tRet te) := by
  intro pins s σ H D I h
  exact wpAny_Return_some (thn (he pins s σ H _ I h) fun v s1 ⟨x, H1, I1, r1, q1⟩ => ⟨x, σ, H1, I1, r1, q1⟩)
def tIfS (c : TT) (t u : TS) : TS := fun D σ H => c σ H fun b H1 => if b = true then t D σ H1 else u D σ H1
theorem ps_if {c : Expr} {a b : List Stmt} {tc : TT} (hc : PT X c tc) (ha : PSs X a t) (hb : PSs X b u) : PS X (.If c a b pos) (tIfS tc t u) := by
  intro pins s σ H D I h
  refine wpAny_If (thn (hc pins s σ H _ I h) fun d s1 ⟨H1, I1, q1⟩ => ?_)
  cases d with
  | true => exact ha pins s1 σ H1 D I1 q1
  | false => exact hb pins s1 σ H1 D I1 q1
/-- code that the proof never comes to -/
def tNever : TS := fun _ _ _ => False
theorem ps_never : PS X st tNever := fun _ _ _ _ _ _ h => h.elim
theorem pss_never {sts : List Stmt} : PSs X sts tNever := fun _ _ _ _ _ _ h => h.elim
end

/-! ### targets -/
abbrev TG := V → St → Hp → (St → Hp → Prop) → Prop
abbrev TGs := List V → St → Hp → (St → Hp → Prop) → Prop
def PG (X : Cx) (target : Expr) (t : TG) : Prop :=
  ∀ (pins : List (Addr × Obj)) (s : Shared) (σ : St) (H : Hp) (v : V) (u : Value) (Q : St → Hp → Prop), Inv X pins σ H s → RelV v u → t v σ H Q →
    wpAny (model X.prog X.w) X.A (assign target X.env u) (fun _ s' => ∃ σ' H', Inv X pins σ' H' s' ∧ Q σ' H') X.xe s
/-- several targets, one after another -/
def PGs (X : Cx) (ts : List Expr) (t : TGs) : Prop :=
  ∀ (pins : List (Addr × Obj)) (s : Shared) (σ : St) (H : Hp) (vs : List V) (us : List Value) (Q : St → Hp → Prop), Inv X pins σ H s → Vals vs us → t vs σ H Q →
    wpAny (model X.prog X.w) X.A (assignInOrder ((assignEach ts X.env).map (·.2)) us) (fun _ s' => ∃ σ' H', Inv X pins σ' H' s' ∧ Q σ' H') X.xe s
/-- o[i] = v, by values -/
abbrev TSet := V → V → V → Hp → (Hp → Prop) → Prop
def PSet (X : Cx) (t : TSet) : Prop :=
  ∀ (pins : List (Addr × Obj)) (s : Shared) (σ : St) (H : Hp) (o i v : V) (ov iv u : Value) (Q : Hp → Prop), Inv X pins σ H s → RelV o ov → RelV i iv → RelV v u → t o i v H Q →
    wpAny (model X.prog X.w) X.A (setItem ov iv u) (fun _ s' => ∃ H', Inv X pins σ H' s' ∧ Q H') X.xe s
section
variable {X : Cx} {pos : Pos}
def gName (i : Nat) : TG := fun v σ H Q => Q (σ.set i (some v)) H
theorem pg_name {i : Nat} {x : Str} (hN : X.N.Nodup) (hi : X.N[i]? = some x) (hx : Loc X.env.scope x) (hf : X.fn x = true ∨ X.env.scope.names.lookup x = some .local := by first | exact .inl rfl | exact .inr rfl | assumption) : PG X (.Name x pos) (gName i) := by
  intro pins s σ H v u Q I r h
  exact wpAny_assign_Name (store_ok I hN hi hx r (fun s' I' => ⟨_, H, I', h⟩) hf)
def gNil : TGs := fun vs σ H Q => vs = [] ∧ Q σ H
def gCons (t : TG) (u : TGs) : TGs := fun vs σ H Q => ∃ v r, vs = v :: r ∧ t v σ H fun σ' H' => u r σ' H' Q
theorem pgs_nil : PGs X [] gNil := by
  intro pins s σ H vs us Q I r h
  obtain ⟨e, h⟩ := h
  subst e
  cases r
  exact assignInOrder_nil ⟨σ, H, I, h⟩
theorem pgs_cons {e : Expr} {es : List Expr} {t : TG} {u : TGs} (h1 : PG X e t) (h2 : PGs X es u)
    (hs : (assignEach (e :: es) X.env).map (·.2) = assign e X.env :: (assignEach es X.env).map (·.2) := by rfl) : PGs X (e :: es) (gCons t u) := by
  intro pins s σ H vs us Q I r h
  obtain ⟨v, vr, e1, h⟩ := h
  subst e1
  cases r with
  | cons r rr =>
    rw [hs]
    refine assignInOrder_cons (thn (h1 pins s σ H _ _ _ I r h) fun _ s1 ⟨σ1, H1, I1, q1⟩ => ?_)
    exact h2 pins s1 σ1 H1 _ _ Q I1 rr q1
/-- (a, b, ..) = a tuple of that length -/
def gTup (K : PySem.W.Frag) (n : Nat) (t : TGs) : TG := fun v σ H Q => ∃ a xs, v = .ref a ∧ SqT K H a xs ∧ xs.length = n ∧ t xs σ H Q
theorem pg_tup {es : List Expr} {k : Nat} {t : TGs} {n : Nat} (hc : X.calm = true) (h : PGs X es t)
    (hn : (assignEach es X.env).length = n := by rfl) (hst : (assignEach es X.env).findIdx? (·.1) = none := by rfl) : PG X (.Tuple es k pos) (gTup X.K n t) := by
  intro pins s σ H v u Q I r hw
  obtain ⟨a, xs, e1, hq, hl, hw⟩ := hw
  subst e1
  cases r
  obtain ⟨its, rv, ht, hz⟩ := I.tuple hq
  refine assign_Tuple_tuple (I.ok.hd hc) ht (by simp [hn, ← hl, rv.length]) hst fun h' hx => ?_
  have I1 : Inv X pins σ H { s with heap := h' } := I.kept (t' := s.toks) fun b o e => hx b o (Nat.ne_of_lt (Heap.lt_size e)) e
  exact h pins _ σ H xs _ Q I1 (by simpa using rv) hw
/-- o[i] = .. -/
def gSub (to ti : TE) (t : TSet) : TG := fun v σ H Q => to σ H fun o H1 => ti σ H1 fun i H2 => t o i v H2 fun H3 => Q σ H3
theorem pg_sub {o i : Expr} {to ti : TE} {t : TSet} (ho : PE X o to) (hi : PE X i ti) (hs : PSet X t)
    (ha : ∀ v, assign (.Subscript o i pos) X.env v = (do
      let ov ← holding [v] (eval o X.env)
      let iv ← holding [v, ov] (eval i X.env)
      standAt pos
      holding [v, ov, iv] (setItem ov iv v)
      release [v, ov, iv] []) := by intro _; rfl) : PG X (.Subscript o i pos) (gSub to ti t) := by
  intro pins s σ H v u Q I r h
  rw [ha]
  refine wpAny_bind (wpAny_holding (thn (ho pins s σ H _ I h) fun ov s1 ⟨x, H1, I1, r1, q1⟩ => ?_))
  refine wpAny_bind (wpAny_holding (thn (hi pins s1 σ H1 _ I1 q1) fun iv s2 ⟨y, H2, I2, r2, q2⟩ => ?_))
  refine wpAny_bind (wpAny_standAt (wpAny_bind (wpAny_holding (thn (hs pins s2 σ H2 x y v ov iv u _ I2 r1 r2 r q2) fun _ s3 ⟨H3, I3, q3⟩ => ?_))))
  exact wpAny_release ⟨σ, H3, I3, q3⟩
/-- target = value -/
def tAsg (te : TE) (g : TG) : TS := fun D σ H => te σ H fun x H1 => g x σ H1 D.nx
theorem ps_asg {tg e : Expr} {te : TE} {g : TG} (he : PE X e te) (hg : PG X tg g) (hs : swapsWithSole [tg] e pos.line X.env = pure false := by rfl) (hw : swappedStores [tg] e X.env = pure none := by rfl)
    (h1 : (assignEach [tg] X.env).map (·.2) = [assign tg X.env] := by rfl) : PS X (.Assign [tg] e pos) (tAsg te g) := by
  intro pins s σ H D I h
  refine wpAny_Assign_stores (thn (he pins s σ H _ I h) fun v s1 ⟨x, H1, I1, r1, q1⟩ => ?_) hs hw
  rw [h1]
  exact thn (hg pins s1 σ H1 x v _ I1 r1 q1) fun _ s2 q => q
/-- name = value -/
theorem ps_set {i : Nat} {x : Str} {e : Expr} {te : TE} {pos' : Pos} (hN : X.N.Nodup) (hi : X.N[i]? = some x) (hx : Loc X.env.scope x) (he : PE X e te) (hs : swapsWith e (some (.Name x pos')) pos.line X.env = pure false := by rfl) (hf : X.fn x = true ∨ X.env.scope.names.lookup x = some .local := by first | exact .inl rfl | exact .inr rfl | assumption) :
    PS X (.Assign [.Name x pos'] e pos) (tAsg te (gName i)) := by
  intro pins s σ H D I h
  refine wpAny_Assign_Name (thn (he pins s σ H _ I h) fun v s1 ⟨y, H1, I1, r1, q1⟩ => ?_) hs
  exact store_ok I1 hN hi hx r1 (fun s2 I2 => ⟨_, H1, I2, q1⟩) hf
end

/-! ### while -/
section
variable {X : Cx} {pos : Pos}
end

/-! ### what a loop or a comprehension walks -/
/-- at turn i: it yields x (the heap may grow), or it stops -/
structure It where
  go : Nat → Hp → Prop
  yld : Nat → Hp → V → Hp → Prop
  stop : Nat → Hp → Prop
/-- the iterator's own objects may turn: they are not the frame's, not pinned, younger than the entry (or a comprehension's own) -/
def FpOk (X : Cx) (pins : List (Addr × Obj)) (H : Hp) (b : Addr) : Prop :=
  H b = none ∧ b ≠ X.env.locals ∧ b ∉ X.fs ∧ (b ∈ X.ex ∨ X.s₀.heap.objs.size ≤ b) ∧ (∀ x c, X.env.cells.lookup x = some c → c ≠ b) ∧ ∀ p ∈ X.pn ++ pins, p.1 ≠ b
theorem Inv.fpOk {X : Cx} {pins : List (Addr × Obj)} {σ : St} {H H' : Hp} {s : Shared} {b : Addr} (I : Inv X pins σ H s) (hb : s.heap.objs.size ≤ b) (hn : H' b = none) : FpOk X pins H' b := by
  refine ⟨hn, Nat.ne_of_gt (Nat.lt_of_lt_of_le I.lt hb), I.nofs hb, .inr (Nat.le_trans I.sz hb), fun x c e z => ?_, fun p hp z => ?_⟩
  · obtain ⟨v, q⟩ := I.cell x c e
    exact absurd (Nat.lt_of_lt_of_le q.lt (by rw [z]; exact hb)) (Nat.lt_irrefl _)
  · exact absurd (Nat.lt_of_lt_of_le (Heap.lt_size (I.pin p hp).1) (by rw [z]; exact hb)) (Nat.lt_irrefl _)
structure Turn (P : Program) (w : World) (K : PySem.W.Frag) (tg : Expr) (J : It) (fp : List Addr) (it : Addr) (tn : Nat → Heap → Prop) : Prop where
  mem : it ∈ fp
  obj : ∀ i h, tn i h → ∀ b ∈ fp, ∃ o, h.get? b = some o ∧ ∀ v, o.data ≠ .cell v
  keep : ∀ i h h', tn i h → (∀ b ∈ fp, ∀ o, h.get? b = some o → h'.get? b = some o) → tn i h'
  item : ∀ (X : Cx), X.prog = P → X.w = w → X.K = K → X.calm = true → ∀ (i : Nat) (pins : List (Addr × Obj)) (s : Shared) (σ : St) (H : Hp) (E : Value → Shared → Prop), Inv X pins σ H s → (∀ b ∈ fp, FpOk X pins H b) → tn i s.heap → J.go i H →
    wpAny (model P w) X.A (pyNext (.ref it)) (fun r s1 => ∃ u, r = some u ∧
      wpAny (model P w) X.A (letOwnedTupleGo tg (.ref it) u) (fun _ s2 => ∃ x H', Inv X pins σ H' s2 ∧ RelV x u ∧ J.yld i H x H' ∧ tn (i + 1) s2.heap ∧ ∀ b ∈ fp, H' b = none) E s1) E s
  done : ∀ (X : Cx), X.prog = P → X.w = w → X.K = K → X.calm = true → ∀ (i : Nat) (pins : List (Addr × Obj)) (s : Shared) (σ : St) (H : Hp) (E : Value → Shared → Prop), Inv X pins σ H s → (∀ b ∈ fp, FpOk X pins H b) → tn i s.heap → J.stop i H →
    wpAny (model P w) X.A (pyNext (.ref it)) (fun r s1 => r = none ∧ Inv X pins σ H s1) E s
  self : ∀ (A : Around) (i : Nat) (s : Shared) (Q : Value → Shared → Prop) (E : Value → Shared → Prop), tn i s.heap → Q (.ref it) s → wpAny (model P w) A (pyIter (.ref it)) Q E s
abbrev TI := St → Hp → (It → Hp → Prop) → Prop
/-- an iterator has come -/
def PIE (X : Cx) (pins : List (Addr × Obj)) (σ : St) (tg : Expr) (R : It → Hp → Prop) (itv : Value) (s2 : Shared) : Prop :=
  ∃ (it : Addr) (fp : List Addr) (tn : Nat → Heap → Prop) (J : It) (H' : Hp), itv = .ref it ∧ Inv X pins σ H' s2 ∧ Turn X.prog X.w X.K tg J fp it tn ∧ tn 0 s2.heap ∧ (∀ b ∈ fp, FpOk X pins H' b) ∧ R J H'
def PI (X : Cx) (tg iter : Expr) (wi : TI) : Prop :=
  ∀ (pins : List (Addr × Obj)) (s : Shared) (σ : St) (H : Hp) (R : It → Hp → Prop), Inv X pins σ H s → wi σ H R →
    wpAny (model X.prog X.w) X.A (eval iter X.env) (fun v s1 => wpAny (model X.prog X.w) X.A (pyIter v) (PIE X pins σ tg R) X.xe s1) X.xe s

/-- the step ahead of the store is nothing for an iterator that keeps no tuple -/
theorem go_of {M : Model} {A : Around} {E : Value → Shared → Prop} {s : Shared} {tg : Expr} {it : Addr} {u : Value} {o : Obj} {n : String} {vs : Array Value} {Q : Unit → Shared → Prop} (ho : s.heap.get? it = some o) (hc : o.cls = .type n) (hd : o.data = .fields vs)
    (hn : ["enumerate", "zip", "dict_itemiterator", "dict_reverseitemiterator", "odict_iterator", "itertools.zip_longest", "itertools.pairwise"].contains n = false) (hQ : Q () s) : wpAny M A (letOwnedTupleGo tg (.ref it) u) Q E s := by
  unfold letOwnedTupleGo
  cases tg <;> first
    | exact wpAny_pure hQ
    | (cases u <;> first
        | exact wpAny_pure hQ
        | (refine wpAny_bind (wpAny_load ho ?_)
           rw [hc, hd]
           show wpAny M A (if (["enumerate", "zip", "dict_itemiterator", "dict_reverseitemiterator", "odict_iterator", "itertools.zip_longest", "itertools.pairwise"].contains n && vs[0]? == some (rawInt _)) = true then _ else _) Q E s
           rw [if_neg (by intro h; rw [hn, Bool.false_and] at h; cases h)]
           exact wpAny_pure hQ))

/-- the list at a, as it stands at each turn (a loop may append to it) -/
def Itl (K : PySem.W.Frag) (a : Addr) : It :=
  ⟨fun i H => ∃ xs x, SqL K H a xs ∧ xs[i]? = some x, fun i H x H' => H' = H ∧ ∀ xs, SqL K H a xs → xs[i]? = some x, fun i H => ∃ xs, SqL K H a xs ∧ xs.length ≤ i⟩
def Itt (K : PySem.W.Frag) (a : Addr) : It :=
  ⟨fun i H => ∃ xs x, SqT K H a xs ∧ xs[i]? = some x, fun i H x H' => H' = H ∧ ∀ xs, SqT K H a xs → xs[i]? = some x, fun i H => ∃ xs, SqT K H a xs ∧ xs.length ≤ i⟩
/-- lo, lo + 1, .. (n of them) -/
def Itr (lo : Int) (n : Nat) : It := ⟨fun i _ => i < n, fun i H x H' => H' = H ∧ x = .int (lo + i), fun i _ => n ≤ i⟩
theorem turn_list {P : Program} {w : World} {K : PySem.W.Frag} {tg : Expr} (a it : Addr) : Turn P w K tg (Itl K a) [it] it (fun i h => h.IsListIter it a i) where
  mem := by simp
  obj := fun i h st b hb => by
    have e : b = it := by simpa using hb
    subst e
    obtain ⟨o, e, c, d⟩ := st
    exact ⟨o, e, fun v z => by rw [d] at z; cases z⟩
  keep := fun i h h' st k => st.at fun o e => k it (by simp) o e
  item := by
    intro X hP hw hK hc i pins s σ H E I hf st hg
    subst hP hw hK
    obtain ⟨xs, x, hq, hx⟩ := hg
    obtain ⟨its, rv, p, hz⟩ := I.list hq
    obtain ⟨u, hu, ru⟩ := rv.get hx
    obtain ⟨f0, f1, f2, f3, f4, f5⟩ := hf it (by simp)
    refine wpAny_pyNext_list_item st p.isList (x := u) (by simpa using hu) fun h' st' sb => ?_
    have I1 : Inv X pins σ H { s with heap := h' } := I.turned (t' := s.toks) (fun b o hb e => (sb.2 b hb).trans e) f0 f1 f3 f4 f5
    obtain ⟨o, e, c, d⟩ := id st'
    exact ⟨u, rfl, go_of (s := { s with heap := h' }) e c d (by decide) ⟨x, H, I1, ru, ⟨rfl, fun ys hy => by rw [I.list_inj hy hq]; exact hx⟩, st', fun b hb => (hf b hb).1⟩⟩
  done := by
    intro X hP hw hK hc i pins s σ H E I hf st hg
    subst hP hw hK
    obtain ⟨xs, hq, hx⟩ := hg
    obtain ⟨its, rv, p, hz⟩ := I.list hq
    obtain ⟨f0, f1, f2, f3, f4, f5⟩ := hf it (by simp)
    have hl := rv.length
    exact wpAny_pyNext_list_end (I.ok.hd hc) st p.isList (by simp; omega) fun h' eb => ⟨rfl, I.turned (t' := s.toks) (fun b o hb e => eb b o hb e) f0 f1 f3 f4 f5⟩
  self := fun _ _ _ _ _ st h => wpAny_pyIter_listiter st h
theorem turn_tuple {P : Program} {w : World} {K : PySem.W.Frag} {tg : Expr} (a it : Addr) : Turn P w K tg (Itt K a) [it] it (fun i h => h.IsTupleIter it a i) where
  mem := by simp
  obj := fun i h st b hb => by
    have e : b = it := by simpa using hb
    subst e
    obtain ⟨o, e, c, d⟩ := st
    exact ⟨o, e, fun v z => by rw [d] at z; cases z⟩
  keep := fun i h h' st k => st.at fun o e => k it (by simp) o e
  item := by
    intro X hP hw hK hc i pins s σ H E I hf st hg
    subst hP hw hK
    obtain ⟨xs, x, hq, hx⟩ := hg
    obtain ⟨its, rv, p, hz⟩ := I.tuple hq
    obtain ⟨u, hu, ru⟩ := rv.get hx
    obtain ⟨f0, f1, f2, f3, f4, f5⟩ := hf it (by simp)
    refine wpAny_pyNext_tuple_item st (show s.heap.IsTuple a its.toArray from p) (x := u) (by simpa using hu) fun h' st' sb => ?_
    have I1 : Inv X pins σ H { s with heap := h' } := I.turned (t' := s.toks) (fun b o hb e => (sb.2 b hb).trans e) f0 f1 f3 f4 f5
    obtain ⟨o, e, c, d⟩ := id st'
    exact ⟨u, rfl, go_of (s := { s with heap := h' }) e c d (by decide) ⟨x, H, I1, ru, ⟨rfl, fun ys hy => by rw [I.tuple_inj hy hq]; exact hx⟩, st', fun b hb => (hf b hb).1⟩⟩
  done := by
    intro X hP hw hK hc i pins s σ H E I hf st hg
    subst hP hw hK
    obtain ⟨xs, hq, hx⟩ := hg
    obtain ⟨its, rv, p, hz⟩ := I.tuple hq
    obtain ⟨f0, f1, f2, f3, f4, f5⟩ := hf it (by simp)
    have hl := rv.length
    exact wpAny_pyNext_tuple_end (I.ok.hd hc) st (show s.heap.IsTuple a its.toArray from p) (by simp; omega) fun h' eb => ⟨rfl, I.turned (t' := s.toks) (fun b o hb e => eb b o hb e) f0 f1 f3 f4 f5⟩
  self := fun _ _ _ _ _ st h => wpAny_pyIter_tupleiter st h
theorem turn_range {P : Program} {w : World} {K : PySem.W.Frag} {tg : Expr} (it : Addr) (lo : Int) (n : Nat) : Turn P w K tg (Itr lo n) [it] it (fun i h => IsRangeIter h it (lo + (i : Nat) * 1) ((n : Int) - (i : Nat)) 1) where
  mem := by simp
  obj := fun i h st b hb => by
    have e : b = it := by simpa using hb
    subst e
    exact ⟨_, st, fun v z => by
      have z' : Data.fields _ = Data.cell v := z
      cases z'⟩
  keep := fun i h h' st k => k it (by simp) _ st
  item := by
    intro X hP hw hK hc i pins s σ H E I hf st hg
    subst hP hw hK
    obtain ⟨f0, f1, f2, f3, f4, f5⟩ := hf it (by simp)
    have W := Walks.range (prog := X.prog) (w := X.w) (I.ok.hd hc) it lo 1 n
    refine W.item i s _ _ hg st fun v h' tk hv st' kk => ?_
    obtain ⟨t, rfl⟩ := hv
    have I1 : Inv X pins σ H { s with heap := h', toks := tk } := I.turned (fun b o hb e => kk b o (by simpa using hb) e) f0 f1 f3 f4 f5
    refine ⟨_, rfl, go_of (s := { s with heap := h', toks := tk }) (n := "range_iterator") st' rfl rfl (by decide) ⟨.int (lo + i), H, I1, ⟨t, ?_⟩, ⟨rfl, rfl⟩, st', fun b hb => (hf b hb).1⟩⟩
    rw [Int.mul_one]
  done := by
    intro X hP hw hK hc i pins s σ H E I hf st hg
    subst hP hw hK
    obtain ⟨f0, f1, f2, f3, f4, f5⟩ := hf it (by simp)
    exact wpAny_pyNext_range_end (I.ok.hd hc) st (by have : n ≤ i := hg; omega) fun h' eb => ⟨rfl, I.turned (t' := s.toks) (fun b o hb e => eb b o hb e) f0 f1 f3 f4 f5⟩
  self := fun _ _ _ _ _ st h => wpAny_pyIter_rangeiter st h
end L2

namespace L2
open PySem PySem.Spec PyProof.Rows
section
variable {X : Cx} {tg : Expr}
def iList (K : PySem.W.Frag) (tl : TE) : TI := fun σ H R => tl σ H fun x H1 => ∃ a, x = .ref a ∧ (∃ xs, SqL K H1 a xs) ∧ R (Itl K a) H1
def iTup (K : PySem.W.Frag) (tl : TE) : TI := fun σ H R => tl σ H fun x H1 => ∃ a, x = .ref a ∧ (∃ xs, SqT K H1 a xs) ∧ R (Itt K a) H1
theorem pi_list {l : Expr} {tl : TE} (hl : PE X l tl) : PI X tg l (iList X.K tl) := by
  intro pins s σ H R I h
  refine thn (hl pins s σ H _ I h) fun v s1 ⟨x, H1, I1, r1, q1⟩ => ?_
  obtain ⟨a, e, ⟨xs, hq⟩, q⟩ := q1
  subst e
  cases r1
  obtain ⟨its, rv, p, hz⟩ := I1.list hq
  refine wpAny_pyIter_list p.isList ?_
  refine ⟨s1.heap.objs.size, [s1.heap.objs.size], _, _, H1, rfl, I1.kept (t' := s1.toks) fun b o e => Heap.get?_push_of_some _ e, turn_list a _, ⟨_, Heap.get?_push_size _ rfl, rfl, rfl⟩, fun b hb => ?_, q⟩
  have e : b = s1.heap.objs.size := by simpa using hb
  subst e
  exact I1.fpOk (Nat.le_refl _) (I1.hok.fresh (Nat.le_refl _))
theorem pi_tup {l : Expr} {tl : TE} (hl : PE X l tl) : PI X tg l (iTup X.K tl) := by
  intro pins s σ H R I h
  refine thn (hl pins s σ H _ I h) fun v s1 ⟨x, H1, I1, r1, q1⟩ => ?_
  obtain ⟨a, e, ⟨xs, hq⟩, q⟩ := q1
  subst e
  cases r1
  obtain ⟨its, rv, p, hz⟩ := I1.tuple hq
  refine wpAny_pyIter_tuple (show s1.heap.IsTuple a its.toArray from p) ?_
  refine ⟨s1.heap.objs.size, [s1.heap.objs.size], _, _, H1, rfl, I1.kept (t' := s1.toks) fun b o e => Heap.get?_push_of_some _ e, turn_tuple a _, ⟨_, Heap.get?_push_size _ rfl, rfl, rfl⟩, fun b hb => ?_, q⟩
  have e : b = s1.heap.objs.size := by simpa using hb
  subst e
  exact I1.fpOk (Nat.le_refl _) (I1.hok.fresh (Nat.le_refl _))
/-- a range object just made, walked -/
theorem range_it {pins : List (Addr × Obj)} {σ : St} {H : Hp} {s : Shared} {R : It → Hp → Prop} {E : Value → Shared → Prop} {lo hi : Int} {t u v : Tok} {tk : Nat} (I : Inv X pins σ H s) (h1 : -(2 ^ 62) ≤ lo) (h2 : lo < 2 ^ 62) (h3 : -(2 ^ 62) ≤ hi) (h4 : hi < 2 ^ 62)
    (q : R (Itr lo (hi - lo).toNat) H) : wpAny (model X.prog X.w) X.A (pyIter (.ref s.heap.objs.size)) (PIE X pins σ tg R) E { s with heap := s.heap.push { cls := .type "range", data := .fields #[.int lo t, .int hi u, .int 1 v] }, toks := tk } := by
  refine wpAny_pyIter_range (IsRange.new ..) (small_one h1 h2 h3 h4) ?_
  have I1 : Inv X pins σ H { s with heap := s.heap.push { cls := .type "range", data := .fields #[.int lo t, .int hi u, .int 1 v] }, toks := tk } := I.kept fun b o e => Heap.get?_push_of_some _ e
  refine ⟨(s.heap.push { cls := .type "range", data := .fields #[.int lo t, .int hi u, .int 1 v] }).objs.size, [(s.heap.push { cls := .type "range", data := .fields #[.int lo t, .int hi u, .int 1 v] }).objs.size], _, _, H, rfl,
    I1.kept (t' := tk) fun b o e => Heap.get?_push_of_some _ e, turn_range _ lo (hi - lo).toNat, ?_, fun b hb => ?_, q⟩
  · have e1 : lo + ((0 : Nat) : Int) * 1 = lo := by simp
    have e2 : (((hi - lo).toNat : Nat) : Int) - ((0 : Nat) : Int) = Builtin.Range.rangeSize lo hi 1 := by rw [rangeSize_one]; split <;> omega
    show IsRangeIter _ _ (lo + ((0 : Nat) : Int) * 1) ((((hi - lo).toNat : Nat) : Int) - ((0 : Nat) : Int)) 1
    rw [e1, e2]
    exact Heap.get?_push_size _ rfl
  · have e : b = (s.heap.push { cls := .type "range", data := .fields #[.int lo t, .int hi u, .int 1 v] }).objs.size := by simpa using hb
    subst e
    exact I1.fpOk (Nat.le_refl _) (I1.hok.fresh (Nat.le_refl _))
def iRng1 (ta : TA) : TI := fun σ H R => ta σ H fun vs H1 => ∃ j : Int, vs = [.int j] ∧ -(2 ^ 62) ≤ j ∧ j < 2 ^ 62 ∧ R (Itr 0 j.toNat) H1
def iRng2 (ta : TA) : TI := fun σ H R => ta σ H fun vs H1 => ∃ i j : Int, vs = [.int i, .int j] ∧ (-(2 ^ 62) ≤ i ∧ i < 2 ^ 62 ∧ -(2 ^ 62) ≤ j ∧ j < 2 ^ 62) ∧ R (Itr i (j - i).toNat) H1
theorem pi_range1 {a : Expr} {ta : TA} {p pos : Pos} (hg : Gl X "range") (hm : X.mg "range" = none) (ha : PA X [a] ta) (hs : starEach [a] X.env = [(false, eval a X.env)] := by rfl) : PI X tg (.Call (.Name "range" p) [a] [] pos) (iRng1 ta) := by
  intro pins s σ H R I h
  refine Call_ (ld_blt I hg hm boot_range (PyProof.Rows.callWith_type1 (thn (ha pos pins s σ H _ I h) fun us s1 ⟨vs, H1, I1, r1, q1⟩ => ?_) hs rfl))
  obtain ⟨j, e, q1, q2, q⟩ := q1
  subst e
  cases r1 with
  | cons r rr =>
    cases rr
    obtain ⟨t, rfl⟩ := r
    exact call_range_1 (range_it I1 (by omega) (by omega) q1 q2 (by simpa using q))
theorem pi_range2 {a b : Expr} {ta : TA} {p pos : Pos} (hg : Gl X "range") (hm : X.mg "range" = none) (ha : PA X [a, b] ta) (hs : starEach [a, b] X.env = [(false, eval a X.env), (false, eval b X.env)] := by rfl) (hs2 : starEach [b] X.env = [(false, eval b X.env)] := by rfl) :
    PI X tg (.Call (.Name "range" p) [a, b] [] pos) (iRng2 ta) := by
  intro pins s σ H R I h
  refine Call_ (ld_blt I hg hm boot_range (PyProof.Rows.callWith_type1 (thn (ha pos pins s σ H _ I h) fun us s1 ⟨vs, H1, I1, r1, q1⟩ => ?_) (by rw [hs, hs2]) (by rw [hs2]; rfl)))
  obtain ⟨i, j, e, ⟨q1, q2, q3, q4⟩, q⟩ := q1
  subst e
  cases r1 with
  | cons r rr =>
    cases rr with
    | cons r' rr =>
      cases rr
      obtain ⟨t, rfl⟩ := r
      obtain ⟨t', rfl⟩ := r'
      exact call_range_2 (range_it I1 q1 q2 q3 q4 q)

/-! ### for -/
/-- W: the invariant by the turn and a measure; N: what the body is to reach -/
def tFor (wi : TI) (g : TG) (tb : TS) : TS := fun D σ H => wi σ H fun J H1 => ∃ W : Nat → Nat → St → Hp → Prop, (∃ m, W 0 m σ H1) ∧ ∀ i m σ H, W i m σ H →
  (J.stop i H ∧ D.nx σ H) ∨ (J.go i H ∧ ∃ N : St → Hp → Prop, (∀ σ' H', N σ' H' → ∃ m', m' < m ∧ W (i + 1) m' σ' H') ∧ ∀ x H', J.yld i H x H' → g x σ H' fun σ2 H2 => tb { D with nx := N, ct := N, bk := D.nx } σ2 H2)
/-- the records at fp as they stand -/
def pinsAt (fp : List Addr) (h : Heap) : List (Addr × Obj) := fp.filterMap fun b => (h.get? b).map fun o => (b, o)
theorem mem_pinsAt {fp : List Addr} {h : Heap} {b : Addr} {o : Obj} (hb : b ∈ fp) (e : h.get? b = some o) : (b, o) ∈ pinsAt fp h := List.mem_filterMap.mpr ⟨b, hb, by rw [e]; rfl⟩
theorem of_pinsAt {fp : List Addr} {h : Heap} {p : Addr × Obj} (hp : p ∈ pinsAt fp h) : p.1 ∈ fp ∧ h.get? p.1 = some p.2 := by
  obtain ⟨b, hb, e⟩ := List.mem_filterMap.mp hp
  cases q : h.get? b with
  | none => rw [q] at e; cases e
  | some o =>
    rw [q] at e
    have e' : (b, o) = p := Option.some.inj e
    subst e'
    exact ⟨hb, q⟩
theorem Inv.pinned {pins : List (Addr × Obj)} {σ : St} {H : Hp} {s : Shared} {fp : List Addr} (I : Inv X pins σ H s) (hf : ∀ b ∈ fp, FpOk X pins H b) (ho : ∀ b ∈ fp, ∃ o, s.heap.get? b = some o ∧ ∀ v, o.data ≠ .cell v) : Inv X (pins ++ pinsAt fp s.heap) σ H s :=
  I.pins_of fun p hp => (List.mem_append.mp hp).elim (fun z => I.pin p (List.mem_append_right _ z)) fun z => by
    obtain ⟨hb, e⟩ := of_pinsAt z
    obtain ⟨f0, f1, f2, _⟩ := hf p.1 hb
    obtain ⟨o, e', d⟩ := ho p.1 hb
    rw [e] at e'; cases e'
    exact ⟨e, f0, f1, f2, d⟩
theorem Inv.unpinned {pins pl : List (Addr × Obj)} {σ : St} {H : Hp} {s : Shared} (I : Inv X (pins ++ pl) σ H s) : Inv X pins σ H s := I.pins_of fun p hp => I.pin p (List.mem_append_right _ (List.mem_append_left _ hp))
theorem ps_for {iter : Expr} {body : List Stmt} {wi : TI} {g : TG} {tb : TS} {pos : Pos} (hp : PassesOwn (model X.prog X.w) X.A X.env X.xe) (hc : X.calm = true) (hi : PI X tg iter wi) (hg : PG X tg g) (hb : PSs X body tb)
    (hs : ∀ x, foldedSetIterable iter X.env x = pure x := by intro _; rfl) : PS X (.For tg iter body [] pos) (tFor wi g tb) := by
  intro pins s σ H D I h
  refine wpAny_For (thn (hi pins s σ H _ I h) fun v s1 h1 => thn h1 fun itv s2 h2 => ?_) hs
  obtain ⟨it, fp, tn, J, H2, e, I2, T, st2, f2, W, ⟨m0, w0⟩, turn⟩ := h2
  subst e
  -- what stays true of the iterator's objects through the loop
  have stat : ∀ {H' : Hp}, (∀ b ∈ fp, H' b = none) → ∀ b ∈ fp, FpOk X pins H' b := fun hn b hb => ⟨hn b hb, (f2 b hb).2⟩
  refine codeAny_forLoop_any (fun n s' => ∃ i σ' H', Inv X pins σ' H' s' ∧ tn i s'.heap ∧ (∀ b ∈ fp, H' b = none) ∧ W i n σ' H') ?_ m0 ⟨0, σ, H2, I2, st2, fun b hb => (f2 b hb).1, w0⟩
  rintro n s3 ⟨i, σ3, H3, I3, st3, fr3, w3⟩
  rcases turn i n σ3 H3 w3 with ⟨stop, qn⟩ | ⟨go, N, hN, step⟩
  · refine wpAny_passesOwn hp (thn (T.done X rfl rfl rfl hc i pins s3 σ3 H3 X.xe I3 (stat fr3) st3 stop) fun r s4 ⟨hr, I4⟩ => ?_)
    subst hr
    exact wpAny_execs_nil ⟨σ3, H3, I4, qn⟩
  · refine wpAny_passesOwn hp (thn (T.item X rfl rfl rfl hc i pins s3 σ3 H3 X.xe I3 (stat fr3) st3 go) fun r s4 ⟨u, hr, h4⟩ => ?_)
    subst hr
    refine wpAny_passesOwn hp (thn h4 fun _ s5 ⟨x, H5, I5, r5, y5, st5, fr5⟩ => ?_)
    have I5' := I5.pinned (stat fr5) (T.obj _ _ st5)
    refine wpAny_passesOwn hp (thn (hg _ s5 σ3 H5 x u _ I5' r5 (step x H5 y5)) fun _ s6 ⟨σ6, H6, I6, q6⟩ => ?_)
    refine wpAny_passesOwn hp (thn (hb _ s6 σ6 H6 _ I6 q6) fun f s7 q7 => ?_)
    have again : ∀ {σ7 : St} {H7 : Hp}, Inv X (pins ++ pinsAt fp s5.heap) σ7 H7 s7 → N σ7 H7 → ∃ m, m < n ∧ ∃ i σ' H', Inv X pins σ' H' s7 ∧ tn i s7.heap ∧ (∀ b ∈ fp, H' b = none) ∧ W i m σ' H' := fun {σ7 H7} I7 n7 => by
      obtain ⟨m', hm, w7⟩ := hN σ7 H7 n7
      refine ⟨m', hm, i + 1, σ7, H7, I7.unpinned, T.keep _ _ _ st5 fun b hb o e => (I7.pin (b, o) (List.mem_append_right _ (List.mem_append_right _ (mem_pinsAt hb e)))).1, fun b hb => ?_, w7⟩
      obtain ⟨o, e, d⟩ := T.obj _ _ st5 b hb
      exact (I7.pin (b, o) (List.mem_append_right _ (List.mem_append_right _ (mem_pinsAt hb e)))).2.1
    cases f with
    | next => obtain ⟨σ7, H7, I7, n7⟩ := q7; exact again I7 n7
    | cont => obtain ⟨σ7, H7, I7, n7⟩ := q7; exact again I7 n7
    | brk => obtain ⟨σ7, H7, I7, q7⟩ := q7; exact ⟨σ7, H7, I7.unpinned, q7⟩
    | ret v => obtain ⟨x7, σ7, H7, I7, r7, q7⟩ := q7; exact ⟨x7, σ7, H7, I7.unpinned, r7, q7⟩
end

/-! ### the forms one uses -/
/-- over a list that the body leaves as it is -/
theorem for_list {K : PySem.W.Frag} {a : Addr} {xs : List V} {g : TG} {tb : TS} {D : Ends} {σ : St} {H : Hp} (Pv : Nat → St → Hp → Prop) (h0 : Pv 0 σ H) (hl : ∀ i σ H, i ≤ xs.length → Pv i σ H → SqL K H a xs)
    (hs : ∀ i x σ H, xs[i]? = some x → Pv i σ H → g x σ H fun σ2 H2 => tb { D with nx := Pv (i + 1), ct := Pv (i + 1), bk := D.nx } σ2 H2) (hd : ∀ σ H, Pv xs.length σ H → D.nx σ H) :
    ∃ W : Nat → Nat → St → Hp → Prop, (∃ m, W 0 m σ H) ∧ ∀ i m σ H, W i m σ H →
      ((Itl K a).stop i H ∧ D.nx σ H) ∨ ((Itl K a).go i H ∧ ∃ N : St → Hp → Prop, (∀ σ' H', N σ' H' → ∃ m', m' < m ∧ W (i + 1) m' σ' H') ∧ ∀ x H', (Itl K a).yld i H x H' → g x σ H' fun σ2 H2 => tb { D with nx := N, ct := N, bk := D.nx } σ2 H2) := by
  refine ⟨fun i m σ H => m = xs.length - i ∧ i ≤ xs.length ∧ Pv i σ H, ⟨xs.length, by simp, Nat.zero_le _, h0⟩, ?_⟩
  rintro i m σ H ⟨rfl, hi, p⟩
  have q := hl i σ H hi p
  by_cases hlt : i < xs.length
  · refine .inr ⟨⟨xs, xs[i], q, by simp [hlt]⟩, Pv (i + 1), fun σ' H' p' => ⟨xs.length - (i + 1), by omega, rfl, hlt, p'⟩, fun x H' y => ?_⟩
    obtain ⟨e, y⟩ := y
    subst e
    exact hs i x σ _ (y xs q) p
  · have e : i = xs.length := by omega
    subst e
    exact .inl ⟨⟨xs, q, Nat.le_refl _⟩, hd σ H p⟩
theorem for_range {lo : Int} {n : Nat} {g : TG} {tb : TS} {D : Ends} {σ : St} {H : Hp} (Pv : Nat → St → Hp → Prop) (h0 : Pv 0 σ H)
    (hs : ∀ i σ H, i < n → Pv i σ H → g (.int (lo + i)) σ H fun σ2 H2 => tb { D with nx := Pv (i + 1), ct := Pv (i + 1), bk := D.nx } σ2 H2) (hd : ∀ σ H, Pv n σ H → D.nx σ H) :
    ∃ W : Nat → Nat → St → Hp → Prop, (∃ m, W 0 m σ H) ∧ ∀ i m σ H, W i m σ H →
      ((Itr lo n).stop i H ∧ D.nx σ H) ∨ ((Itr lo n).go i H ∧ ∃ N : St → Hp → Prop, (∀ σ' H', N σ' H' → ∃ m', m' < m ∧ W (i + 1) m' σ' H') ∧ ∀ x H', (Itr lo n).yld i H x H' → g x σ H' fun σ2 H2 => tb { D with nx := N, ct := N, bk := D.nx } σ2 H2) := by
  refine ⟨fun i m σ H => m = n - i ∧ i ≤ n ∧ Pv i σ H, ⟨n, by simp, Nat.zero_le _, h0⟩, ?_⟩
  rintro i m σ H ⟨rfl, hi, p⟩
  by_cases hlt : i < n
  · refine .inr ⟨hlt, Pv (i + 1), fun σ' H' p' => ⟨n - (i + 1), by omega, rfl, hlt, p'⟩, fun x H' y => ?_⟩
    obtain ⟨e, y⟩ := y
    subst e y
    exact hs i σ _ hlt p
  · have e : i = n := by omega
    subst e
    exact .inl ⟨Nat.le_refl _, hd σ H p⟩
end L2

namespace L2
open PySem PySem.Spec PyProof.Rows

abbrev R2 := V → V → Hp → VK → Prop
/-- a two-place operation on values: f is binaryOp op, inplaceOp op or compareOp op -/
def OpR (X : Cx) (f : Value → Value → Sem Value) (r : R2) : Prop :=
  ∀ (pins : List (Addr × Obj)) (s : Shared) (σ : St) (H : Hp) (x y : V) (v u : Value) (Q : VK), Inv X pins σ H s → RelV x v → RelV y u → r x y H Q →
    wpAny (model X.prog X.w) X.A (f v u) (EP X pins σ Q) X.xe s
/-- a one-place operation -/
def UnR (X : Cx) (f : Value → Sem Value) (r : V → Hp → VK → Prop) : Prop :=
  ∀ (pins : List (Addr × Obj)) (s : Shared) (σ : St) (H : Hp) (x : V) (v : Value) (Q : VK), Inv X pins σ H s → RelV x v → r x H Q →
    wpAny (model X.prog X.w) X.A (f v) (EP X pins σ Q) X.xe s
/-- a call of a value that is known (a builtin, a type) with values -/
def CallR (X : Cx) (f : Value) (r : List V → Hp → VK → Prop) : Prop :=
  ∀ (pins : List (Addr × Obj)) (s : Shared) (σ : St) (H : Hp) (xs : List V) (us : List Value) (Q : VK), Inv X pins σ H s → Vals xs us → r xs H Q →
    wpAny (model X.prog X.w) X.A (call f us) (EP X pins σ Q) X.xe s
def tOp (r : R2) (ta tb : TE) : TE := fun σ H Q => ta σ H fun x H1 => tb σ H1 fun y H2 => r x y H2 Q
def tUn (r : V → Hp → VK → Prop) (ta : TE) : TE := fun σ H Q => ta σ H fun x H1 => r x H1 Q
/-- ints in, under C, and a value out -/
def rI (C : Int → Int → Prop) (g : Int → Int → V) : R2 := fun x y H Q => ∃ i j, x = .int i ∧ y = .int j ∧ C i j ∧ Q (g i j) H
def rI0 (g : Int → Int → V) : R2 := fun x y H Q => ∃ i j, x = .int i ∧ y = .int j ∧ Q (g i j) H
def rU (g : Int → V) : V → Hp → VK → Prop := fun x H Q => ∃ i, x = .int i ∧ Q (g i) H

section
variable {X : Cx} {a b c : Expr} {ta tb tc : TE} {pos : Pos}

theorem binT (ha : PE X a ta) (hb : PE X b tb) {pins : List (Addr × Obj)} {s : Shared} {σ : St} {H : Hp} {R : V → V → Hp → Prop} (I : Inv X pins σ H s)
    (h : ta σ H fun x H1 => tb σ H1 fun y H2 => R x y H2) {Q : Value → Shared → Prop} {f : Value → Value → Sem Value}
    (hf : ∀ v u s2 x y H2, Inv X pins σ H2 s2 → RelV x v → RelV y u → R x y H2 → wpAny (model X.prog X.w) X.A (f v u) Q X.xe s2) :
    wpAny (model X.prog X.w) X.A (eval a X.env) (fun v s₁ => wpAny (model X.prog X.w) X.A (eval b X.env) (fun u s₂ => wpAny (model X.prog X.w) X.A (f v u) Q X.xe s₂) X.xe s₁) X.xe s := by
  refine thn (ha pins s σ H _ I h) fun v s1 ⟨x, H1, I1, r1, q1⟩ => ?_
  refine thn (hb pins s1 σ H1 _ I1 q1) fun u s2 ⟨y, H2, I2, r2, q2⟩ => ?_
  exact hf v u s2 x y H2 I2 r1 r2 q2

theorem pe_op {op : Operator} {r : R2} (ho : OpR X (binaryOp op) r) (ha : PE X a ta) (hb : PE X b tb) : PE X (.BinOp a op b pos) (tOp r ta tb) := by
  intro pins s σ H Q I h
  exact wpAny_BinOp (binT ha hb I h fun v u s2 x y H2 I2 rx ry q => ho pins s2 σ H2 x y v u Q I2 rx ry q)
theorem pe_un {op : UnaryOp} {r : V → Hp → VK → Prop} (ho : UnR X (unaryOp op) r) (ha : PE X a ta) : PE X (.UnaryOp op a pos) (tUn r ta) := by
  intro pins s σ H Q I h
  exact UnaryOp_ (thn (ha pins s σ H _ I h) fun v s1 ⟨x, H1, I1, r1, q1⟩ => ho pins s1 σ H1 x v Q I1 r1 q1)
/-! ### ints -/
theorem opI {f : Value → Value → Sem Value} {C : Int → Int → Prop} {g : Int → Int → Int}
    (rule : ∀ (i j : Int) (t u : Tok) (s : Shared) (Q : Value → Shared → Prop) (E : Value → Shared → Prop), C i j → Q (.int (g i j) s.toks) { s with toks := s.toks + 1 } → wpAny (model X.prog X.w) X.A (f (.int i t) (.int j u)) Q E s) :
    OpR X f (rI C fun i j => .int (g i j)) := by
  intro pins s σ H x y v u Q I rx ry h
  obtain ⟨i, j, rfl, rfl, hc, q⟩ := h
  obtain ⟨t, rfl⟩ := rx
  obtain ⟨t', rfl⟩ := ry
  exact rule i j t t' s _ _ hc ⟨.int (g i j), H, I.tok _, ⟨_, rfl⟩, q⟩
theorem opI0 {f : Value → Value → Sem Value} {g : Int → Int → Int}
    (rule : ∀ (i j : Int) (t u : Tok) (s : Shared) (Q : Value → Shared → Prop) (E : Value → Shared → Prop), Q (.int (g i j) s.toks) { s with toks := s.toks + 1 } → wpAny (model X.prog X.w) X.A (f (.int i t) (.int j u)) Q E s) :
    OpR X f (rI0 fun i j => .int (g i j)) := by
  intro pins s σ H x y v u Q I rx ry h
  obtain ⟨i, j, rfl, rfl, q⟩ := h
  obtain ⟨t, rfl⟩ := rx
  obtain ⟨t', rfl⟩ := ry
  exact rule i j t t' s _ _ ⟨.int (g i j), H, I.tok _, ⟨_, rfl⟩, q⟩
theorem opB0 {f : Value → Value → Sem Value} {g : Int → Int → Bool}
    (rule : ∀ (i j : Int) (t u : Tok) (s : Shared) (Q : Value → Shared → Prop) (E : Value → Shared → Prop), Q (.bool (g i j)) s → wpAny (model X.prog X.w) X.A (f (.int i t) (.int j u)) Q E s) :
    OpR X f (rI0 fun i j => .bl (g i j)) := by
  intro pins s σ H x y v u Q I rx ry h
  obtain ⟨i, j, rfl, rfl, q⟩ := h
  obtain ⟨t, rfl⟩ := rx
  obtain ⟨t', rfl⟩ := ry
  exact rule i j t t' s _ _ ⟨.bl (g i j), H, I, rfl, q⟩

def CDiv (i j : Int) : Prop := 0 < j ∧ j < 1073741824
def CPow (i j : Int) : Prop := 0 ≤ j ∧ j ≤ 1000000 ∧ i.natAbs < 2 ^ 64
def CMul (i j : Int) : Prop := (-(2 ^ 64) < i ∧ i < 2 ^ 64) ∨ (-(2 ^ 64) < j ∧ j < 2 ^ 64)
theorem CMul.ok {i j : Int} (h : CMul i j) : IntMulOk i j := by
  rcases h with ⟨h1, h2⟩ | ⟨h1, h2⟩
  · exact .of_left (intBits_le_64 h1 h2)
  · exact .of_right (intBits_le_64 h1 h2)
theorem two_pow_nn (k : Nat) : (0 : Int) ≤ 2 ^ k := by
  rw [two_pow_cast]
  exact Int.natCast_nonneg _

theorem op_add : OpR X (binaryOp .Add) (rI0 fun i j => .int (i + j)) := opI0 fun _ _ _ _ _ _ _ q => add_int q
theorem op_sub : OpR X (binaryOp .Sub) (rI0 fun i j => .int (i - j)) := opI0 fun _ _ _ _ _ _ _ q => sub_int q
theorem op_mul : OpR X (binaryOp .Mult) (rI CMul fun i j => .int (i * j)) := opI fun _ _ _ _ _ _ _ hc q => mul_int q hc.ok
/-- // by a positive divisor -/
theorem op_fdiv : OpR X (binaryOp .FloorDiv) (rI CDiv fun i j => .int (i / j)) := opI fun i j _ _ _ _ _ hc q => by
  have h1 : (0 : Int) < j := hc.1
  have h2 : j < 1073741824 := hc.2
  exact floordiv_int (by omega) (by rw [Int.fdiv_eq_ediv_of_nonneg i (by omega)]; exact q) (.inl (PyProof.noPylong_small (by omega)))
/-- % by a positive divisor of any size -/
theorem op_mod : OpR X (binaryOp .Mod) (rI (fun _ j => 0 < j) fun i j => .int (i % j)) := opI fun i j _ _ _ _ _ hc q => by
  have h1 : (0 : Int) < j := hc
  exact mod_int' (by omega) (by rw [Int.fmod_eq_emod_of_nonneg i (by omega)]; exact q)
theorem op_pow : OpR X (binaryOp .Pow) (rI CPow fun i j => .int (i ^ j.toNat)) := opI fun _ _ _ _ _ _ _ hc q => pow_int_small hc.1 hc.2.1 hc.2.2 q
theorem op_shl : OpR X (binaryOp .LShift) (rI CPow fun i j => .int (i * 2 ^ j.toNat)) := opI fun _ _ _ _ _ _ _ hc q => lshift_int_small hc.1 hc.2.1 hc.2.2 q
theorem op_shr : OpR X (binaryOp .RShift) (rI (fun _ j => 0 ≤ j) fun i j => .int (i / 2 ^ j.toNat)) := opI fun i j _ _ _ _ _ hc q =>
  rshift_int hc (by rw [Int.fdiv_eq_ediv_of_nonneg i (two_pow_nn _)]; exact q)
theorem op_and : OpR X (binaryOp .BitAnd) (rI0 fun i j => .int (Builtin.bitAnd i j)) := opI0 fun _ _ _ _ _ _ _ q => and_int q
theorem op_or : OpR X (binaryOp .BitOr) (rI0 fun i j => .int (Builtin.bitOr i j)) := opI0 fun _ _ _ _ _ _ _ q => or_int q
theorem unI {f : Value → Sem Value} {g : Int → Int}
    (rule : ∀ (i : Int) (t : Tok) (s : Shared) (Q : Value → Shared → Prop) (E : Value → Shared → Prop), Q (.int (g i) s.toks) { s with toks := s.toks + 1 } → wpAny (model X.prog X.w) X.A (f (.int i t)) Q E s) :
    UnR X f (rU fun i => .int (g i)) := by
  intro pins s σ H x v Q I rx h
  obtain ⟨i, rfl, q⟩ := h
  obtain ⟨t, rfl⟩ := rx
  exact rule i t s _ _ ⟨.int (g i), H, I.tok _, ⟨_, rfl⟩, q⟩
theorem un_neg : UnR X (unaryOp .USub) (rU fun i => .int (-i)) := unI fun _ _ _ _ _ q => neg_int q
/-! ### bools among ints: n += (a < b) -/
end

/-! ### comparisons -/
/-- the scalars that == tells apart as data does -/
def scal : V → V → Bool
  | .non, .non => true | .non, .int _ => true | .int _, .non => true | .non, .bl _ => true | .bl _, .non => true | .non, .str _ => true | .str _, .non => true
  | .int _, .int _ => true | .bl _, .bl _ => true | .str _, .str _ => true | .byt _, .byt _ => true
  | .int _, .str _ => true | .str _, .int _ => true | .bl _, .str _ => true | .str _, .bl _ => true
  | _, _ => false
def rEq : R2 := fun x y H Q => scal x y = true ∧ Q (.bl (decide (x = y))) H
def rNe : R2 := fun x y H Q => scal x y = true ∧ Q (.bl (!decide (x = y))) H

theorem dec_int {i j : Int} : decide (V.int i = V.int j) = (i == j) := by
  rw [Bool.eq_iff_iff]
  simp
theorem dec_bl {i j : Bool} : decide (V.bl i = V.bl j) = (i == j) := by
  rw [Bool.eq_iff_iff]
  simp
theorem dec_str {i j : Str} : decide (V.str i = V.str j) = (i == j) := by
  rw [Bool.eq_iff_iff]
  simp
theorem dec_byt {i j : Array UInt8} : decide (V.byt i = V.byt j) = (i.toList == j.toList) := by
  rw [Bool.eq_iff_iff]
  cases i
  cases j
  simp

section
variable {X : Cx} {a b c : Expr} {ta tb tc : TE} {pos : Pos}
theorem fin_bl {pins : List (Addr × Obj)} {σ : St} {H : Hp} {s : Shared} {Q : VK} {k k' : Bool} (I : Inv X pins σ H s) (q : Q (.bl k) H) (e : k = k') : EP X pins σ Q (.bool k') s := by
  subst e
  exact ⟨.bl k, H, I, rfl, q⟩
theorem op_eq : OpR X (compareOp .Eq) rEq := by
  intro pins s σ H x y v u Q I rx ry h
  obtain ⟨hs, q⟩ := h
  cases x with
  | non =>
    cases rx
    cases y with
    | non => cases ry; exact PySem.EqNone.eq_none_none (fin_bl I q (by simp))
    | bl j => cases ry; exact PySem.EqNone.eq_none_bool (fin_bl I q (by simp))
    | int j => obtain ⟨t', rfl⟩ := ry; exact PySem.EqNone.eq_none_int (fin_bl I q (by simp))
    | str j => obtain ⟨t', rfl⟩ := ry; exact PySem.EqNone.eq_none_str (fin_bl I q (by simp))
    | _ => exact absurd (show false = true from hs) Bool.false_ne_true
  | bl i =>
    cases rx
    cases y with
    | non => cases ry; exact PySem.EqNone.eq_bool_none (fin_bl I q (by simp))
    | bl j => cases ry; exact eq_bool (fin_bl I q dec_bl)
    | str j => obtain ⟨t', rfl⟩ := ry; exact PySem.EqMixed.eq_bool_str (fin_bl I q (by simp))
    | _ => exact absurd (show false = true from hs) Bool.false_ne_true
  | int i =>
    obtain ⟨t, rfl⟩ := rx
    cases y with
    | non => cases ry; exact PySem.EqNone.eq_int_none (fin_bl I q (by simp))
    | int j => obtain ⟨t', rfl⟩ := ry; exact eq_int (fin_bl I q dec_int)
    | str j => obtain ⟨t', rfl⟩ := ry; exact PySem.EqMixed.eq_int_str (fin_bl I q (by simp))
    | _ => exact absurd (show false = true from hs) Bool.false_ne_true
  | str i =>
    obtain ⟨t, rfl⟩ := rx
    cases y with
    | non => cases ry; exact PySem.EqNone.eq_str_none (fin_bl I q (by simp))
    | bl j => cases ry; exact PySem.EqMixed.eq_str_bool (fin_bl I q (by simp))
    | int j => obtain ⟨t', rfl⟩ := ry; exact PySem.EqMixed.eq_str_int (fin_bl I q (by simp))
    | str j => obtain ⟨t', rfl⟩ := ry; exact eq_str (fin_bl I q dec_str)
    | _ => exact absurd (show false = true from hs) Bool.false_ne_true
  | byt i =>
    obtain ⟨t, rfl⟩ := rx
    cases y with
    | byt j => obtain ⟨t', rfl⟩ := ry; exact PySem.W.eq_bytes (fin_bl I q dec_byt)
    | _ => exact absurd (show false = true from hs) Bool.false_ne_true
  | _ => cases y <;> exact absurd (show false = true from hs) Bool.false_ne_true
theorem op_ne : OpR X (compareOp .NotEq) rNe := by
  intro pins s σ H x y v u Q I rx ry h
  obtain ⟨hs, q⟩ := h
  cases x with
  | non =>
    cases rx
    cases y with
    | non => cases ry; exact PySem.EqNone.ne_none_none (fin_bl I q (by simp))
    | bl j => cases ry; exact PySem.EqNone.ne_none_bool (fin_bl I q (by simp))
    | int j => obtain ⟨t', rfl⟩ := ry; exact PySem.EqNone.ne_none_int (fin_bl I q (by simp))
    | str j => obtain ⟨t', rfl⟩ := ry; exact PySem.EqNone.ne_none_str (fin_bl I q (by simp))
    | _ => exact absurd (show false = true from hs) Bool.false_ne_true
  | bl i =>
    cases rx
    cases y with
    | non => cases ry; exact PySem.EqNone.ne_bool_none (fin_bl I q (by simp))
    | bl j => cases ry; exact ne_bool (fin_bl I q (congrArg not dec_bl))
    | str j => obtain ⟨t', rfl⟩ := ry; exact PySem.EqMixed.ne_bool_str (fin_bl I q (by simp))
    | _ => exact absurd (show false = true from hs) Bool.false_ne_true
  | int i =>
    obtain ⟨t, rfl⟩ := rx
    cases y with
    | non => cases ry; exact PySem.EqNone.ne_int_none (fin_bl I q (by simp))
    | int j => obtain ⟨t', rfl⟩ := ry; exact ne_int (fin_bl I q (congrArg not dec_int))
    | str j => obtain ⟨t', rfl⟩ := ry; exact PySem.EqMixed.ne_int_str (fin_bl I q (by simp))
    | _ => exact absurd (show false = true from hs) Bool.false_ne_true
  | str i =>
    obtain ⟨t, rfl⟩ := rx
    cases y with
    | non => cases ry; exact PySem.EqNone.ne_str_none (fin_bl I q (by simp))
    | bl j => cases ry; exact PySem.EqMixed.ne_str_bool (fin_bl I q (by simp))
    | int j => obtain ⟨t', rfl⟩ := ry; exact PySem.EqMixed.ne_str_int (fin_bl I q (by simp))
    | str j => obtain ⟨t', rfl⟩ := ry; exact ne_str (fin_bl I q (congrArg not dec_str))
    | _ => exact absurd (show false = true from hs) Bool.false_ne_true
  | byt i =>
    obtain ⟨t, rfl⟩ := rx
    cases y with
    | byt j => obtain ⟨t', rfl⟩ := ry; exact PySem.W.ne_bytes (fin_bl I q (congrArg not dec_byt))
    | _ => exact absurd (show false = true from hs) Bool.false_ne_true
  | _ => cases y <;> exact absurd (show false = true from hs) Bool.false_ne_true

theorem op_lt : OpR X (compareOp .Lt) (rI0 fun i j => .bl (decide (i < j))) := opB0 fun _ _ _ _ _ _ _ q => lt_int q
theorem op_le : OpR X (compareOp .LtE) (rI0 fun i j => .bl (decide (i ≤ j))) := opB0 fun _ _ _ _ _ _ _ q => le_int q
theorem op_gt : OpR X (compareOp .Gt) (rI0 fun i j => .bl (decide (j < i))) := opB0 fun _ _ _ _ _ _ _ q => gt_int q
theorem op_ge : OpR X (compareOp .GtE) (rI0 fun i j => .bl (decide (j ≤ i))) := opB0 fun _ _ _ _ _ _ _ q => ge_int q
/-- is None, is not None: the right side a value none -/
theorem op_isN : OpR X (compareOp .Is) (fun x y H Q => y = .non ∧ Q (.bl (decide (x = .non))) H) := by
  intro pins s σ H x y v u Q I rx ry h
  obtain ⟨rfl, q⟩ := h
  cases ry
  refine is_none_gen (fin_bl I q ?_)
  cases x <;> first
    | (cases rx; rfl)
    | (obtain ⟨t, rfl⟩ := rx; rfl)
theorem op_notN : OpR X (compareOp .IsNot) (fun x y H Q => y = .non ∧ Q (.bl (!decide (x = .non))) H) := by
  intro pins s σ H x y v u Q I rx ry h
  obtain ⟨rfl, q⟩ := h
  cases ry
  refine isnot_none_gen (fin_bl I q ?_)
  cases x <;> first
    | (cases rx; rfl)
    | (obtain ⟨t, rfl⟩ := rx; rfl)

theorem nomark (b : Expr) {op : CmpOp} (h : op ≠ .In := by decide) (h2 : op ≠ .NotIn := by decide) : behindInMarks op b = false := by
  have e1 : (op == CmpOp.In) = false := by cases op <;> first | rfl | exact absurd rfl h
  have e2 : (op == CmpOp.NotIn) = false := by cases op <;> first | rfl | exact absurd rfl h2
  cases b <;> simp [behindInMarks, e1, e2]
/-- a comparison as a value; hm: nomark b, or (for in, not in) by with_unfolding_all rfl -/
theorem pe_cmpR {op : CmpOp} {r : R2} (ho : OpR X (compareOp op) r) (ha : PE X a ta) (hb : PE X b tb) (hm : behindInMarks op b = false) : PE X (.Compare a [op] [b] pos) (tOp r ta tb) := by
  intro pins s σ H Q I h
  exact wpAny_Compare1 (binT ha hb I h fun v u s2 x y H2 I2 rx ry q => ho pins s2 σ H2 x y v u Q I2 rx ry q) hm
/-- a reading of a value as a test -/
def tTest (t : TE) : TT := fun σ H Q => t σ H fun x H' => ∃ k, x = .bl k ∧ Q k H'
theorem pt_cmpR {op : CmpOp} {r : R2} (ho : OpR X (compareOp op) r) (ha : PE X a ta) (hb : PE X b tb) (hm : behindInMarks op b = false) : PT X (.Compare a [op] [b] pos) (tTest (tOp r ta tb)) := by
  intro pins s σ H Q I h
  refine wpAny_isTrue_Compare1 (thn (ha pins s σ H _ I h) fun v s1 ⟨x, H1, I1, r1, q1⟩ => thn (hb pins s1 σ H1 _ I1 q1) fun u s2 ⟨y, H2, I2, r2, q2⟩ =>
    thn (ho pins s2 σ H2 x y v u _ I2 r1 r2 q2) fun c s3 ⟨z, H3, I3, r3, k, e, q3⟩ => ?_) hm
  subst e
  cases r3
  exact wpAny_truthy_bool ⟨H3, I3, q3⟩
/-- a op1 b op2 c -/
def tChain (r r' : R2) (ta tb tc : TE) : TE := fun σ H Q => ta σ H fun x H1 => tb σ H1 fun y H2 => r x y H2 fun z H3 => ∃ k, z = .bl k ∧
  (if k = true then tc σ H3 fun w' H4 => r' y w' H4 Q else Q (.bl false) H3)
theorem pe_chain {op op' : CmpOp} {r r' : R2} (ho : OpR X (compareOp op) r) (ho' : OpR X (compareOp op') r') (ha : PE X a ta) (hb : PE X b tb) (hc : PE X c tc)
    (hm : lastMarks [op, op'] [b, c] = false := by with_unfolding_all rfl) : PE X (.Compare a [op, op'] [b, c] pos) (tChain r r' ta tb tc) := by
  intro pins s σ H Q I h
  refine Compare_chain (thn (ha pins s σ H _ I h) fun v s1 ⟨x, H1, I1, r1, q1⟩ => chain_link (thn (hb pins s1 σ H1 _ I1 q1) fun u s2 ⟨y, H2, I2, r2, q2⟩ =>
    thn (ho pins s2 σ H2 x y v u _ I2 r1 r2 q2) fun d s3 ⟨z, H3, I3, r3, k, e, q3⟩ => ?_)) hm
  subst e
  cases r3
  refine wpAny_truthy_bool ?_
  cases k with
  | false => exact ite_ff ⟨.bl false, H3, I3, rfl, q3⟩
  | true => exact ite_tt (chain_last (thn (hc pins s3 σ H3 _ I3 q3) fun w' s4 ⟨z', H4, I4, r4, q4⟩ => ho' pins s4 σ H4 y z' u w' Q I4 r2 r4 q4))
/-! ### truth -/
theorem line63 : (sizeLine : Nat) < 2 ^ 63 := by rw [sizeLine_eq]; decide
/-! ### strs and bytes -/
/-! ### scalar builtins, by CallR -/
theorem vals1 {x : V} {us : List Value} (r : Vals [x] us) : ∃ u, us = [u] ∧ RelV x u := by
  cases r with
  | cons r1 r2 => cases r2; exact ⟨_, rfl, r1⟩
theorem vals2 {x y : V} {us : List Value} (r : Vals [x, y] us) : ∃ u w', us = [u, w'] ∧ RelV x u ∧ RelV y w' := by
  cases r with
  | cons r1 r2 =>
    cases r2 with
    | cons r3 r4 => cases r4; exact ⟨_, _, rfl, r1, r3⟩
theorem call_max2 (hc : X.calm = true) : CallR X (.builtin "max") (fun xs H Q => ∃ i j, xs = [.int i, .int j] ∧ Q (.int (if j > i then j else i)) H) := by
  intro pins s σ H xs us Q I r h
  obtain ⟨i, j, rfl, q⟩ := h
  obtain ⟨u, w', rfl, ⟨t, rfl⟩, ⟨t', rfl⟩⟩ := vals2 r
  refine max_two_ints (I.ok.hd hc) fun h' tk k => ⟨_, H, I.kept k, ?_, q⟩
  by_cases hj : j > i
  · rw [if_pos hj, if_pos hj]; exact ⟨_, rfl⟩
  · rw [if_neg hj, if_neg hj]; exact ⟨_, rfl⟩
theorem call_int1 : CallR X (.type "int") (fun xs H Q => (∃ i, xs = [.int i] ∧ Q (.int i) H) ∨ ∃ k, xs = [.bl k] ∧ Q (.int (if k then 1 else 0)) H) := by
  intro pins s σ H xs us Q I r h
  rcases h with ⟨i, rfl, q⟩ | ⟨k, rfl, q⟩
  · obtain ⟨u, rfl, t, rfl⟩ := vals1 r
    exact call_int_int ⟨.int i, H, I, ⟨_, rfl⟩, q⟩
  · obtain ⟨u, rfl, r1⟩ := vals1 r
    cases r1
    exact call_int_bool ⟨.int (if k then 1 else 0), H, I.tok _, ⟨_, rfl⟩, q⟩
end
end L2

namespace L2
open PySem PySem.Spec PyProof.Rows

/-! ### an instance, its attributes a map -/
structure ObjM (h : Heap) (x dx C : Addr) (mA : Str → Option Value) : Prop where
  obj : h.get? x = some (PySem.W.instObj C dx)
  ns : h.Ns1 dx mA
  ne : dx ≠ x

theorem lookIn_ns {h : Heap} {dx : Addr} {mA : Str → Option Value} (n : h.Ns1 dx mA) : ∃ od, h.get? dx = some od ∧ ∀ name, PySem.W.lookIn name od = some (mA name) := by
  obtain ⟨o, es, ep, ho, hd, hk, _, hm⟩ := n
  refine ⟨o, ho, fun name => ?_⟩
  have e := hm name
  unfold nsFind findBy at e
  rw [← Array.find?_toList] at e
  unfold PySem.W.lookIn
  rw [hd]
  dsimp only
  split
  · rename_i y q
    rw [q] at e
    exact congrArg some e
  · rename_i q
    rw [q] at e
    have a : es.toList.any (·.refKey) = false := by
      rw [List.any_eq_false]
      intro y hy
      obtain ⟨z, t, hkey⟩ := hk y (Array.mem_toList_iff.mp hy)
      simp [DictEntry.refKey, hkey]
    have a' : ¬ es.toList.any (·.refKey) = true := by rw [a]; exact Bool.false_ne_true
    rw [if_neg a']
    exact congrArg some e

theorem ObjM.look {h : Heap} {x dx C : Addr} {mA : Str → Option Value} (I : ObjM h x dx C mA) : ∃ od, PySem.W.InstAt h x (PySem.W.instObj C dx) C (some od) ∧ ∀ name, PySem.W.lookIn name od = some (mA name) :=
  let ⟨od, ho, hl⟩ := lookIn_ns I.ns
  ⟨od, ⟨I.obj, rfl, rfl, ho⟩, hl⟩

section
variable {prog : Program} {w : World} {A : Around} {E : Value → Shared → Prop} {s : Shared} {K : PySem.W.Frag} {x dx C f : Addr} {mA : Str → Option Value} {name : Str} {v : Value}

theorem get_map {expr : Bool} {Q : Value → Shared → Prop} (X : K.In s.heap) (I : ObjM s.heap x dx C mA) (hg : PySem.W.plainGet K C name = true) (hh : PySem.W.hasDictIn K C = true)
    (ha : PySem.W.findIn K (.ref C) name = some none) (hv : mA name = some v) (hv' : PySem.W.handedIn v = true) (h : Q v { s with toks := s.toks + 1 }) :
    wpAny (model prog w) A (getAttr (.ref x) name expr) Q E s := by
  obtain ⟨od, J, hl⟩ := I.look
  exact PySem.W.get_value X J (PySem.W.plainGet_of hg).1 (PySem.W.findObj_own hh ha rfl (by rw [hl, hv])) hv' h

theorem get_meth {pl : Sem Bool} {Q : Value × List Value → Shared → Prop} (X : K.In s.heap) (I : ObjM s.heap x dx C mA) (hg : PySem.W.plainGet K C name = true)
    (hf : PySem.W.findIn K (.ref C) name = some (some (.ref f))) (ht : PySem.W.isFn K (.ref f) = true) (hv : mA name = none) (h : Q (.ref f, [.ref x]) s) :
    wpAny (model prog w) A (getMethod (.ref x) name pl) Q E s := by
  obtain ⟨od, J, hl⟩ := I.look
  exact PySem.W.method_fn X J (PySem.W.plainGet_of hg).1 (PySem.W.plainGet_of hg).2 hf (beq_iff_eq.mp ht) (by show (PySem.W.lookIn name od).map (·.isSome) = some false; rw [hl, hv]; rfl) h

theorem set_map {ns : List Str} {Q : Unit → Shared → Prop} (X : K.In s.heap) (I : ObjM s.heap x dx C mA)
    (hs : PySem.W.findIn K (.ref C) "__setattr__" = some (some (.builtin "object.__setattr__"))) (hp : PySem.W.plainOver K C = true) (ht : PySem.W.takerIn K C name = some none) (hh : PySem.W.hasDictIn K C = true)
    (hw : PySem.Within mA ns) (hsz : ns.length ≤ sizeLine)
    (h : ∀ h', ObjM h' x dx C (fun y => if y = name then some v else mA y) → Heap.SameBut dx s.heap h' → Q () { s with heap := h', toks := s.toks + 2 }) :
    wpAny (model prog w) A (setAttr (.ref x) name v) Q E s := by
  obtain ⟨od, J, hl⟩ := I.look
  refine PySem.W.set_plain X J hs (PySem.W.osa_open (s := { s with toks := s.toks + 1 }) (r := none) X J hp ht fun b => ?_)
  obtain ⟨cd, hc, hd'⟩ := PySem.W.any_some hh
  have hx : s.heap.get? x = some ⟨.ref C, some dx, .plain, #[]⟩ := I.obj
  refine wpAny_bind (wpAny_pure (wpAny_bind (wpAny_bind (wpAny_loadPart hx (wpAny_bind (PySem.W.Looks.here (s := { s with toks := s.toks + 1 }) (PySem.W.looks_clsIn X hc) ?_))))))
  rw [hd']
  refine wpAny_pure (a := some dx) (wpAny_bind (wpAny_pure (wpAny_bind ?_)))
  refine wpAny_nsSet1 (s := { s with toks := s.toks + 1 }) I.ns fun h' hn2 hs2 => ?_
  obtain ⟨oD, esD, epD, hoD, hdD, hcD⟩ := hn2.count (PySem.Within.cons name v hw)
  refine wpAny_bind (wpAny_lookBehind hoD (by rw [hdD]; exact pastItsLine_dict (Nat.le_trans hcD (by rw [List.length_cons]; omega))) ?_)
  exact wpAny_pure (h _ ⟨(hs2.2 _ (Ne.symm I.ne)).trans I.obj, hn2, I.ne⟩ hs2)

/-- C(..): the dict at the heap's end, the instance behind it; then its __init__ -/
theorem make_map {R : Result → Shared → Prop} {vs : List Value} {kw : List (Str × Value)} (X : K.In s.heap) (hm : PySem.W.makesIn K C = true)
    (hi : PySem.W.findIn K (.ref C) "__init__" = some (some (.ref f))) (hf : PySem.W.typeIn K (.ref f) = some (.type "function"))
    (h : codeAny (model prog w) (A.under (.builtin "type.__call__" ⟨.ref C :: vs, kw⟩)) (.call (.ref f) ⟨.ref (s.heap.objs.size + 1) :: vs, kw⟩) (PySem.W.InitBack (s.heap.objs.size + 1) R)
      { s with heap := (s.heap.push PySem.W.emptyDict).push (PySem.W.instObj C s.heap.objs.size) }) :
    codeAny (model prog w) A (.call (.ref C) ⟨vs, kw⟩) R s := by
  obtain ⟨hh, g, d, t, os⟩ := s
  exact PySem.W.make_core (PySem.W.makes_of X hm) (PySem.W.looks_findIn X hi) (fun self => PySem.W.bind_fn X self hf) (.inl rfl) h
end

/-! ### the attributes as a list of pairs -/
def putF (f : Str) (v : V) : List (Str × V) → List (Str × V)
  | [] => [(f, v)]
  | (g, x) :: r => if g = f then (g, v) :: r else (g, x) :: putF f v r
theorem lookup_putF (f g : Str) (v : V) : ∀ fs : List (Str × V), (putF f v fs).lookup g = if g = f then some v else fs.lookup g
  | [] => by
    show List.lookup g [(f, v)] = _
    by_cases h : g = f
    · have hb : (g == f) = true := beq_iff_eq.mpr h
      simp only [List.lookup, hb, if_pos h]
    · have hb : (g == f) = false := beq_eq_false_iff_ne.mpr h
      simp only [List.lookup, hb, if_neg h]
  | (k, x) :: r => by
    have ih := lookup_putF f g v r
    rw [show putF f v ((k, x) :: r) = (if k = f then (k, v) :: r else (k, x) :: putF f v r) from rfl]
    by_cases hk : k = f
    · rw [if_pos hk]
      by_cases h : g = k
      · have hb : (g == k) = true := beq_iff_eq.mpr h
        simp only [List.lookup, hb, if_pos (h.trans hk)]
      · have hb : (g == k) = false := beq_eq_false_iff_ne.mpr h
        simp only [List.lookup, hb, if_neg (fun e : g = f => h (e.trans hk.symm))]
    · rw [if_neg hk]
      by_cases h : g = k
      · have hb : (g == k) = true := beq_iff_eq.mpr h
        simp only [List.lookup, hb, if_neg (fun e : g = f => hk (h.symm.trans e))]
      · have hb : (g == k) = false := beq_eq_false_iff_ne.mpr h
        simp only [List.lookup, hb]
        exact ih
theorem keys_putF (f : Str) (v : V) : ∀ fs : List (Str × V), f ∈ (putF f v fs).map (·.1) ∧ ∀ g, g ∈ fs.map (·.1) → g ∈ (putF f v fs).map (·.1)
  | [] => ⟨by simp [putF], fun g h => by simp at h⟩
  | (k, x) :: r => by
    obtain ⟨i1, i2⟩ := keys_putF f v r
    rw [show putF f v ((k, x) :: r) = (if k = f then (k, v) :: r else (k, x) :: putF f v r) from rfl]
    by_cases hk : k = f
    · rw [if_pos hk]
      subst hk
      exact ⟨by simp, fun g h => by simpa using h⟩
    · rw [if_neg hk]
      refine ⟨?_, fun g h => ?_⟩
      · rw [List.map_cons]
        exact List.mem_cons_of_mem _ i1
      · rw [List.map_cons] at h ⊢
        rcases List.mem_cons.mp h with e | e
        · exact List.mem_cons.mpr (.inl e)
        · exact List.mem_cons_of_mem _ (i2 g e)
theorem length_putF (f : Str) (v : V) : ∀ fs : List (Str × V), (putF f v fs).length ≤ fs.length + 1
  | [] => by simp [putF]
  | (k, x) :: r => by
    have ih := length_putF f v r
    rw [show putF f v ((k, x) :: r) = (if k = f then (k, v) :: r else (k, x) :: putF f v r) from rfl]
    by_cases hk : k = f
    · rw [if_pos hk, List.length_cons, List.length_cons]; omega
    · rw [if_neg hk, List.length_cons, List.length_cons]; omega

theorem RelO.some_of {v : V} {o : Option Value} (r : RelO (some v) o) : ∃ u, o = some u ∧ RelV v u := by
  cases o with
  | none => exact (show False from r).elim
  | some u => exact ⟨u, rfl, r⟩
theorem RelO.none_of {o : Option Value} (r : RelO none o) : o = none := by
  cases o with
  | none => rfl
  | some u => exact (show False from r).elim
theorem handed_of {v : V} {u : Value} (r : RelV v u) : PySem.W.handedIn u = true := by
  cases v with
  | non => cases (show u = Value.none from r); rfl
  | bl b => cases (show u = Value.bool b from r); rfl
  | int i => obtain ⟨t, e⟩ := (show ∃ t, u = Value.int i t from r); cases e; rfl
  | str x => obtain ⟨t, e⟩ := (show ∃ t, u = Value.str x t from r); cases e; rfl
  | byt b => obtain ⟨t, e⟩ := (show ∃ t, u = Value.bytes b t from r); cases e; rfl
  | flt b => obtain ⟨t, e⟩ := (show ∃ t, u = Value.float b t from r); cases e; rfl
  | ref a => cases (show u = Value.ref a from r); rfl
  | ty n => cases (show u = Value.type n from r); rfl

section
variable {P : Program} {w : World} {H H' : Hp} {h h' : Heap} {a C dx : Addr} {fs fs' : List (Str × V)}
theorem ins_get (hok : HOk P w H h) (e : H a = some (.ins C dx fs)) : ∃ mA, ObjM h a dx C mA ∧ (∀ f, RelO (fs.lookup f) (mA f)) ∧ PySem.Within mA (fs.map (·.1)) ∧ fs.length ≤ 1000 ∧ H dx = some (.own a) := by
  obtain ⟨d, z, ne, ob, mA, n, r, q⟩ := (show ObjOk P w H h a (.ins C dx fs) from hok a _ e)
  exact ⟨mA, ⟨ob, n, ne⟩, r, q, z, d⟩
end

/-! ### what of the text a class must have -/
structure Cls (K : PySem.W.Frag) (C : Addr) : Prop where
  pg : PySem.W.plainGet K C Str.empty = true
  hd : PySem.W.hasDictIn K C = true
  po : PySem.W.plainOver K C = true
  sa : PySem.W.findIn K (.ref C) "__setattr__" = some (some (.builtin "object.__setattr__"))
theorem Cls.get {K : PySem.W.Frag} {C : Addr} (c : Cls K C) (f : Str) : PySem.W.plainGet K C f = true := c.pg
/-- no class of it has the name -/
def NoAttr (K : PySem.W.Frag) (C : Addr) (f : Str) : Prop := PySem.W.findIn K (.ref C) f = some none
theorem NoAttr.taker {K : PySem.W.Frag} {C : Addr} {f : Str} (n : NoAttr K C f) : PySem.W.takerIn K C f = some none := by
  unfold PySem.W.takerIn
  rw [show PySem.W.findIn K (.ref C) f = some none from n]
  rfl
/-- a method: a plain def of the class or of one above it -/
structure Meth (K : PySem.W.Frag) (C : Addr) (m : Str) (f : Addr) : Prop where
  at_ : PySem.W.findIn K (.ref C) m = some (some (.ref f))
  fn : PySem.W.isFn K (.ref f) = true
  kp : PySem.W.keepIn K (.ref f) = true

section
variable {X : Cx} {pins : List (Addr × Obj)} {σ : St} {H : Hp} {s : Shared} {a C dx : Addr} {fs : List (Str × V)} {f : Str} {v : V} {A : Around} {E : Value → Shared → Prop}

theorem getattr_ok {b : Bool} {Q : Value → Shared → Prop} (I : Inv X pins σ H s) (e : H a = some (.ins C dx fs)) (c : Cls X.K C) (n : NoAttr X.K C f) (l : fs.lookup f = some v)
    (h : ∀ u s', Inv X pins σ H s' → RelV v u → Q u s') : wpAny (model X.prog X.w) A (getAttr (.ref a) f b) Q E s := by
  obtain ⟨mA, O, r, _, _, _⟩ := ins_get I.hok e
  obtain ⟨u, hu, ru⟩ := RelO.some_of (v := v) (o := mA f) (by rw [← l]; exact r f)
  exact get_map I.kIn O (c.get f) c.hd n hu (handed_of ru) (h u _ (I.tok _) ru)

theorem getmeth_ok {m : Str} {g : Addr} {pl : Sem Bool} {Q : Value × List Value → Shared → Prop} (I : Inv X pins σ H s) (e : H a = some (.ins C dx fs)) (c : Cls X.K C) (k : Meth X.K C m g) (l : fs.lookup m = none)
    (h : Q (.ref g, [.ref a]) s) : wpAny (model X.prog X.w) A (getMethod (.ref a) m pl) Q E s := by
  obtain ⟨mA, O, r, _, _, _⟩ := ins_get I.hok e
  have hn : mA m = none := RelO.none_of (by rw [← l]; exact r m)
  exact get_meth I.kIn O (c.get m) k.at_ k.fn hn h

theorem setattr_ok {y : V} {u : Value} {Q : Unit → Shared → Prop} (I : Inv X pins σ H s) (e : H a = some (.ins C dx fs)) (c : Cls X.K C) (n : NoAttr X.K C f) (hl : fs.length < 1000) (ry : RelV y u)
    (h : ∀ s', Inv X pins σ (upd H a (.ins C dx (putF f y fs))) s' → Q () s') : wpAny (model X.prog X.w) A (setAttr (.ref a) f u) Q E s := by
  obtain ⟨mA, O, r, wi, _, ho⟩ := ins_get I.hok e
  have hz : (fs.map (·.1)).length ≤ sizeLine := by rw [List.length_map, sizeLine_eq]; omega
  refine set_map I.kIn O c.sa c.po n.taker c.hd wi hz fun h' O' sb => h _ ?_
  have hd : ∃ o, h'.get? dx = some o := let ⟨o, _, _, e', _⟩ := O'.ns; ⟨o, e'⟩
  refine I.write (x := a) (e := dx) (by rw [e]; exact True.intro) (.inr ho) (fun b q hb z => (sb.2 b hb).trans z) hd ?_
  refine ⟨by rw [upd_ne O.ne]; exact ho, ?_, O.ne, O'.obj, _, O'.ns, fun g => ?_, fun g hg => ?_⟩
  · have := length_putF f y fs; omega
  · show RelO ((putF f y fs).lookup g) (if g = f then some u else mA g)
    rw [lookup_putF]
    by_cases q : g = f
    · rw [if_pos q, if_pos q]; exact ry
    · rw [if_neg q, if_neg q]; exact r g
  · by_cases q : g = f
    · rw [q]; exact (keys_putF f y fs).1
    · refine (keys_putF f y fs).2 g (wi g fun z => hg ?_)
      show (if g = f then some u else mA g) = none
      rw [if_neg q]; exact z

/-- a new instance, tracked, without attributes -/
theorem Inv.made (I : Inv X pins σ H s) : Inv X pins σ (upd (upd H s.heap.objs.size (.own (s.heap.objs.size + 1))) (s.heap.objs.size + 1) (.ins C s.heap.objs.size []))
    { s with heap := (s.heap.push PySem.W.emptyDict).push (PySem.W.instObj C s.heap.objs.size) } := by
  have e1 : (s.heap.push PySem.W.emptyDict).get? s.heap.objs.size = some PySem.W.emptyDict := Heap.get?_push_size s.heap rfl
  have e2 : ((s.heap.push PySem.W.emptyDict).push (PySem.W.instObj C s.heap.objs.size)).get? (s.heap.objs.size + 1) = some (PySem.W.instObj C s.heap.objs.size) := by
    have := Heap.get?_push_size (s.heap.push PySem.W.emptyDict) (o := PySem.W.instObj C s.heap.objs.size) rfl
    rwa [Heap.size_push] at this
  have e3 : (s.heap.push PySem.W.emptyDict).Ns s.heap.objs.size (fun _ => none) := ⟨PySem.W.emptyDict, #[], _, e1, rfl, (fun e he => absurd he (by simp)), fun _ => rfl⟩
  have I1 := I.laid (a := s.heap.objs.size) (o := .own (s.heap.objs.size + 1)) (h' := s.heap.push PySem.W.emptyDict) (t' := s.toks) (fun b u q => Heap.get?_push_of_some _ q) (Nat.le_refl _) ⟨_, e1⟩
  refine I1.laid (a := s.heap.objs.size + 1) (o := .ins C s.heap.objs.size []) (t' := s.toks) (fun b u q => Heap.get?_push_of_some _ q) (Nat.le_of_eq (Heap.size_push _ _)) ?_
  have ne : s.heap.objs.size ≠ s.heap.objs.size + 1 := Nat.ne_of_lt (Nat.lt_succ_self _)
  refine ⟨by rw [upd_ne ne, upd_same], Nat.zero_le _, ne, e2, fun _ => none, (Heap.Ns1.of_empty e3).at fun o q => Heap.get?_push_of_some _ q, fun _ => True.intro, fun y hy => absurd rfl hy⟩

/-- e.f where nothing but the object is asked: through attributeBase (super) and the last hold -/
theorem attr_of {prog : Program} {w : World} {env : Env} {e : Expr} {f : Str} {pos : Pos} {s : Shared} {Q : Value → Shared → Prop} (hb : attributeBase e f env (eval e env) = eval e env)
    (h : wpAny (model prog w) A (eval e env) (fun o s₁ => wpAny (model prog w) A (getAttr o f true) Q E s₁) E s) : wpAny (model prog w) A (eval (.Attribute e f pos) env) Q E s :=
  Attribute_any_ h (by rw [arm_eval_Attribute, hb])
end

/-! ### readings and rules -/
/-- e.f, an attribute of the instance -/
def tFld (K : PySem.W.Frag) (ta : TE) (f : Str) : TE := fun σ H Q => ta σ H fun x H1 => ∃ a C dx fs v, x = .ref a ∧ H1 a = some (.ins C dx fs) ∧ Cls K C ∧ NoAttr K C f ∧ fs.lookup f = some v ∧ Q v H1
/-- e.f = value -/
def sFld (K : PySem.W.Frag) (ta tv : TE) (f : Str) : TS := fun D σ H => tv σ H fun y H1 => ta σ H1 fun x H2 => ∃ a C dx fs, x = .ref a ∧ H2 a = some (.ins C dx fs) ∧ Cls K C ∧ NoAttr K C f ∧ fs.length < 1000 ∧
  D.nx σ (upd H2 a (.ins C dx (putF f y fs)))
section
variable {X : Cx} {o e value : Expr} {f : Str} {pos pos' tpos : Pos} {ta tv : TE}
theorem pe_fld (he : PE X e ta) (hb : attributeBase e f X.env (eval e X.env) = eval e X.env) : PE X (.Attribute e f pos) (tFld X.K ta f) := by
  intro pins s σ H Q I h
  refine attr_of hb (thn (he pins s σ H _ I h) fun u s1 ⟨x, H1, I1, rx, a, C, dx, fs, v, ex, ea, c, n, l, q⟩ => ?_)
  subst ex
  obtain rfl : u = Value.ref a := rx
  exact getattr_ok I1 ea c n l fun u' s2 I2 ru => ⟨v, H1, I2, ru, q⟩
theorem ps_fld (ha : PE X o ta) (hv : PE X value tv) (hs : swapsWith value (some (.Attribute o f pos')) pos.line X.env = pure false) : PS X (.Assign [.Attribute o f pos'] value pos) (sFld X.K ta tv f) := by
  intro pins s σ H D I h
  refine plainObj_wpAny_Assign_Attribute (thn (hv pins s σ H _ I h) fun u s1 ⟨y, H1, I1, ry, q⟩ => thn (ha pins s1 σ H1 _ I1 q) fun ov s2 ⟨x, H2, I2, rx, a, C, dx, fs, ex, ea, c, n, l, q2⟩ => ?_) hs
  subst ex
  obtain rfl : ov = Value.ref a := rx
  exact setattr_ok I2 ea c n l ry fun s3 I3 => ⟨σ, _, I3, q2⟩
end

/-! ### isinstance -/
section
variable {X : Cx} {pins : List (Addr × Obj)} {σ : St} {H : Hp} {s : Shared} {A : Around} {E : Value → Shared → Prop} {Q : Value → Shared → Prop} {c : Value} {b : Bool}
/-- the type of a value, as the fragment's deciders take it; for an instance its class -/
inductive TyOf (K : PySem.W.Frag) (H : Hp) : V → Value → Prop where
  | non : TyOf K H .non (.type "NoneType")
  | bl (x : Bool) : TyOf K H (.bl x) (.type "bool")
  | int (i : Int) : TyOf K H (.int i) (.type "int")
  | str (x : Str) : TyOf K H (.str x) (.type "str")
  | flt (x : UInt64) : TyOf K H (.flt x) (.type "float")
  | lst {a : Addr} {xs : List V} (e : H a = some (.lst xs)) : TyOf K H (.ref a) (.type "list")
  | frz {a : Addr} {o : Obj} {xs : List V} (e : H a = some (.frz o (.lst xs))) : TyOf K H (.ref a) (.type "list")
  | tup {a : Addr} {xs : List V} (e : H a = some (.tup xs)) : TyOf K H (.ref a) (.type "tuple")
  | dK {a : Addr} {kvs : List (Key × V)} (e : H a = some (.dK kvs)) : TyOf K H (.ref a) (.type "dict")
  | dT {a : Addr} {kvs : List (List Key × V)} (e : H a = some (.dT kvs)) : TyOf K H (.ref a) (.type "dict")
  | ins {a C dx : Addr} {fs : List (Str × V)} (e : H a = some (.ins C dx fs)) (cl : Cls K C) (ha : PySem.W.findIn K (.ref C) "__class__" = some (some (.builtin "object.__class__")))
      (hn : PySem.W.specialIn K (.builtin "object.__class__") "__get__" = some (some (.builtin "getset_descriptor.__get__"))) (htk : PySem.W.takesIn K (.builtin "object.__class__") = some true)
      (hm : PySem.W.mroIn K C (.type "object") = some true) : TyOf K H (.ref a) (.ref C)
/-- isinstance(x, c) for one class c, a built-in or an own one: kitOne's answer -/
theorem isinst_ok {x : V} {u t : Value} (I : Inv X pins σ H s) (rx : RelV x u) (ty : TyOf X.K H x t) (e : PySem.W.kitOne X.K t c = some b) (h : ∀ tk, Q (.bool b) { s with toks := tk }) :
    wpAny (model X.prog X.w) A (call (.builtin "isinstance") [u, c]) Q E s := by
  cases ty with
  | non => cases (show u = Value.none from rx); exact PySem.W.kia_one PySem.W.kitx_none I.kIn True.intro e (fun z => nomatch z) h
  | bl y => cases (show u = Value.bool y from rx); exact PySem.W.kia_one PySem.W.kitx_bool I.kIn True.intro e (fun z => nomatch z) h
  | int i => obtain ⟨t, q⟩ := (show ∃ t, u = Value.int i t from rx); cases q; exact PySem.W.kia_one PySem.W.kitx_int I.kIn True.intro e (fun z => nomatch z) h
  | str y => obtain ⟨t, q⟩ := (show ∃ t, u = Value.str y t from rx); cases q; exact PySem.W.kia_one PySem.W.kitx_str I.kIn True.intro e (fun z => nomatch z) h
  | flt y => obtain ⟨t, q⟩ := (show ∃ t, u = Value.float y t from rx); cases q; exact PySem.W.kia_one PySem.W.kitx_float I.kIn True.intro e (fun z => nomatch z) h
  | @lst a xs ea =>
    cases (show u = Value.ref a from rx)
    obtain ⟨_, _, n, _, h1⟩ := (show ObjOk X.prog X.w H s.heap a (.lst xs) from I.hok a _ ea)
    exact PySem.W.kia_one PySem.W.kitx_list I.kIn ⟨_, h1, rfl⟩ e (fun z => nomatch z) h
  | @frz a ob xs ea =>
    cases (show u = Value.ref a from rx)
    obtain ⟨_, _, _, n, _, h1⟩ := (show ObjOk X.prog X.w H s.heap a (.frz ob (.lst xs)) from I.hok a _ ea)
    exact PySem.W.kia_one PySem.W.kitx_list I.kIn ⟨_, h1, rfl⟩ e (fun z => nomatch z) h
  | @tup a xs ea =>
    cases (show u = Value.ref a from rx)
    obtain ⟨_, _, _, p⟩ := (show ObjOk X.prog X.w H s.heap a (.tup xs) from I.hok a _ ea)
    obtain ⟨o, h1, h2, _⟩ := p
    exact PySem.W.kia_one PySem.W.kitx_tuple I.kIn ⟨o, h1, h2⟩ e (fun z => nomatch z) h
  | @dK a kvs ea =>
    cases (show u = Value.ref a from rx)
    obtain ⟨_, _, vs, _, p⟩ := (show ObjOk X.prog X.w H s.heap a (.dK kvs) from I.hok a _ ea)
    obtain ⟨o, es, ep, h1, h2, _⟩ := p
    exact PySem.W.kia_one PySem.W.kitx_dict I.kIn ⟨o, h1, h2.1⟩ e (fun z => nomatch z) h
  | @dT a kvs ea =>
    cases (show u = Value.ref a from rx)
    obtain ⟨_, _, xs, _, o, es, ep, h1, h2, _⟩ := (show ObjOk X.prog X.w H s.heap a (.dT kvs) from I.hok a _ ea)
    exact PySem.W.kia_one PySem.W.kitx_dict I.kIn ⟨o, h1, h2.1⟩ e (fun z => nomatch z) h
  | @ins a C dx fs ea cl ha hn htk hm =>
    cases (show u = Value.ref a from rx)
    obtain ⟨mA, O, _⟩ := ins_get I.hok ea
    obtain ⟨od, J, _⟩ := O.look
    exact PySem.W.kia_one (PySem.W.kitx_own (cl.get _) cl.hd ha hn htk hm) I.kIn J e (fun z => nomatch z) h
end
end L2

namespace L2
open PySem PySem.Spec PyProof.Rows

/-! ### room -/
structure Room (k : Nat) (A : Around) : Prop where
  hd : A.handled = none
  dp : A.depth + 3 * k + 5 < recursionLimit
  un : A.units + 16 * k + 200 < cLine
theorem Room.mono {j k : Nat} {A : Around} (r : Room k A) (h : j ≤ k) : Room j A := ⟨r.hd, by have := r.dp; omega, by have := r.un; omega⟩
theorem Room.deeper {k : Nat} {A : Around} (r : Room (k + 1) A) (env : Env) : Room k (A.deeper env) :=
  ⟨r.hd, by have := r.dp; show A.depth + 1 + 3 * k + 5 < _; omega, by have := r.un; show A.units + 3 + 16 * k + 200 < _; omega⟩
theorem make_depth {A : Around} {C : Addr} {us : List Value} {kw : List (Str × Value)} : (A.under (.builtin "type.__call__" ⟨.ref C :: us, kw⟩)).depth = A.depth + 1 := by
  first | rfl | simp [Around.under, Code.weight, Code.isCreation, Code.isGuard, Code.isCaller, Code.frames, Code.isFrame, guardIds]
theorem make_units {A : Around} {C : Addr} {us : List Value} {kw : List (Str × Value)} : (A.under (.builtin "type.__call__" ⟨.ref C :: us, kw⟩)).units = A.units + 1 := by
  first | rfl | simp [Around.under, Code.cUnits, Code.frames, Code.isFrame]
theorem Room.make {k : Nat} {A : Around} (r : Room (k + 1) A) (C : Addr) (us : List Value) (kw : List (Str × Value)) : Room k (A.under (.builtin "type.__call__" ⟨.ref C :: us, kw⟩)) :=
  ⟨r.hd, by have := r.dp; rw [make_depth]; omega, by have := r.un; rw [make_units]; omega⟩
theorem Room.depth {k : Nat} {A : Around} (r : Room k A) : A.depth < recursionLimit := by have := r.dp; omega
theorem Room.units {k : Nat} {A : Around} (r : Room k A) : A.units + 64 < cLine := by have := r.un; omega
/-! ### argument lists and displays -/
def tNil : TA := fun _ H Q => Q [] H
def tCons (ta : TE) (tr : TA) : TA := fun σ H Q => ta σ H fun x H1 => tr σ H1 fun xs H2 => Q (x :: xs) H2
section
variable {X : Cx} {e : Expr} {es : List Expr} {te : TE} {t : TA} {pos : Pos}
theorem pa_nil : PA X [] tNil := fun _ _ _ _ H Q I h => Calls.spliced_nil ⟨[], H, I, .nil, h⟩
theorem pa_cons (ha : PE X e te) (hr : PA X es t) (hs : starEach (e :: es) X.env = (false, eval e X.env) :: starEach es X.env := by rfl) : PA X (e :: es) (tCons te t) := by
  intro pos pins s σ H Q I h
  rw [hs]
  show wpAny _ _ (spliced ((false, eval e X.env) :: backTo pos (starEach es X.env))) _ _ s
  refine Calls.spliced_cons (thn (ha pins s σ H _ I h) fun u s1 ⟨x, H1, I1, r1, q1⟩ => ?_)
  exact thn (hr pos pins s1 σ H1 _ I1 q1) fun us s2 ⟨xs, H2, I2, r2, q2⟩ => ⟨x :: xs, H2, I2, .cons r1 r2, q2⟩

/-- a tuple, a list of written items -/
def tTup (t : TA) : TE := fun σ H Q => t σ H fun xs H1 => xs.length ≤ sizeLine ∧ ∀ p, H1 p = none → Q (.ref p) (upd H1 p (.tup xs))
def tLst (t : TA) : TE := fun σ H Q => t σ H fun xs H1 => xs.length ≤ sizeLine ∧ ∀ p, H1 p = none → Q (.ref p) (upd H1 p (.lst xs))
theorem pe_tup {x1} (h : PA X es t) : PE X (.Tuple es x1 pos) (tTup t) := by
  intro pins s σ H Q I hq
  refine wpAny_Tuple_spliced (thn (h pos pins s σ H _ I hq) fun us s1 ⟨xs, H1, I1, r, z, q⟩ => ⟨by rw [← r.length]; exact z, ?_⟩)
  have hf : H1 s1.heap.objs.size = none := I1.hok.fresh (Nat.le_refl _)
  refine ⟨.ref s1.heap.objs.size, upd H1 s1.heap.objs.size (.tup xs), I1.laid (t' := s1.toks) (fun b u e => Heap.get?_push_of_some _ e) (Nat.le_refl _) ?_, rfl, q _ hf⟩
  exact ⟨z, us, r, ⟨_, Heap.get?_push_size _ rfl, rfl, _, rfl⟩⟩
theorem pe_lst (h : PA X es t) : PE X (.List es pos) (tLst t) := by
  intro pins s σ H Q I hq
  refine wpAny_List_spliced (thn (h pos pins s σ H _ I hq) fun us s1 ⟨xs, H1, I1, r, z, q⟩ => ⟨by rw [← r.length]; exact z, ?_⟩)
  have hf : H1 s1.heap.objs.size = none := I1.hok.fresh (Nat.le_refl _)
  refine ⟨.ref s1.heap.objs.size, upd H1 s1.heap.objs.size (.lst xs), I1.laid (t' := s1.toks) (fun b u e => Heap.get?_push_of_some _ e) (Nat.le_refl _) ?_, rfl, q _ hf⟩
  exact ⟨z, us, 0, r, Heap.get?_push_size _ rfl⟩
end

/-! ### what a def promises -/
/-- a def's promise: the bound arguments in the parameters' order, the heap, the wanted end, the wanted exception -/
abbrev Sp := List V → Hp → VK → XK → Prop
/-- how an exception lies behind a call (file 08 gives it): the callers' frames, abstract heap and state ahead of the call, the wish, the exception, the state -/
abbrev CXT := List Env → Hp → Shared → XK → Value → Shared → Prop

/-- the state at a call -/
structure Env0 (P : Program) (w : World) (K : PySem.W.Frag) (mg : Str → Option Value) (base : Heap) (A : Around) (outer : List Env) (s : Shared) (H : Hp) : Prop where
  frames : A.frames = some outer
  mod : Mod K mg base
  bs : ∀ b o, base.get? b = some o → s.heap.get? b = some o ∧ H b = none
  bsz : base.objs.size ≤ s.heap.objs.size
  funs : s.heap.FunFrames base outer
  frf : ∀ b ∈ frs outer, H b = none
  hok : HOk P w H s.heap
  bare : AllBare s.gens
/-- a call's end -/
def CE (outer : List Env) (P : Program) (w : World) (H : Hp) (s : Shared) (Q : VK) (u : Value) (s' : Shared) : Prop :=
  ∃ v H', s'.os = s.os ∧ AllBare s'.gens ∧ Un (frs outer) [] H H' s.heap s'.heap ∧ HOk P w H' s'.heap ∧ RelV v u ∧ Q v H'
def CR (CX : CXT) (outer : List Env) (P : Program) (w : World) (H : Hp) (s : Shared) (Q : VK) (E : XK) (r : Result) (s' : Shared) : Prop :=
  match r with
  | .ok (.ret u) => CE outer P w H s Q u s'
  | .ok _ => False
  | .error e => CX outer H s E e s'
structure FnOk (P : Program) (w : World) (K : PySem.W.Frag) (mg : Str → Option Value) (base : Heap) (CX : CXT) (k : Nat) (f : Addr) (fd : FuncData) (ps : List Str) (sp : Sp) : Prop where
  len : ∀ vs H Q E, sp vs H Q E → vs.length = ps.length
  run : ∀ (A : Around) (outer : List Env) (s : Shared) (H : Hp) (args : Args) (us : List Value) (vs : List V) (Q : VK) (E : XK), Room k A → Env0 P w K mg base A outer s H → BindsTo s fd args (ps.zip us) → Vals vs us → sp vs H Q E →
    codeAny (model P w) A (.call (.ref f) args) (CR CX outer P w H s Q E) s
theorem Env0.make {P : Program} {w : World} {K : PySem.W.Frag} {mg : Str → Option Value} {base : Heap} {A : Around} {outer : List Env} {s : Shared} {H : Hp} (e : Env0 P w K mg base A outer s H) (C : Addr) (us : List Value) (kw : List (Str × Value)) :
    Env0 P w K mg base (A.under (.builtin "type.__call__" ⟨.ref C :: us, kw⟩)) outer s H := ⟨by first | exact e.frames | (simpa [Around.under, Code.envs, Code.isFrame, pushEnvs] using e.frames), e.mod, e.bs, e.bsz, e.funs, e.frf, e.hok, e.bare⟩
section
variable {X : Cx} {pins : List (Addr × Obj)} {σ : St} {H : Hp} {s s' : Shared}
/-- from a body: what a callee wants -/
theorem Inv.env0 (I : Inv X pins σ H s) : Env0 X.prog X.w X.K X.mg X.base X.A X.stack s H :=
  ⟨I.ok.frames, I.ok.mod, I.bs, Nat.le_trans I.ok.bsz I.sz, I.stack, I.stkFree, I.hok, I.bare⟩
/-- behind a call -/
theorem Inv.after {Q : VK} {u : Value} (I : Inv X pins σ H s) (h : CE X.stack X.prog X.w H s Q u s') : EP X pins σ Q u s' := by
  obtain ⟨v, H', os, bare, un, hok, r, q⟩ := h
  obtain ⟨hh, g, d, t, os'⟩ := s'
  obtain rfl : os' = s.os := os
  exact ⟨v, H', I.call (h' := hh) (g' := g) (d' := d) (t' := t) (ch := []) un hok bare (fun b z => absurd z (by simp)), r, q⟩
end

/-! ### calls -/
/-- f(..): the written arguments, then the defaults dvs; E: what is wanted of an exception -/
def tCall (sp : Sp) (dvs : List V) (E : XK) (t : TA) : TE := fun σ H Q => t σ H fun vs H1 => sp (vs ++ dvs) H1 Q E
/-- o.m(..) of an instance of the class at C -/
def tMeth (C : Addr) (m : Str) (sp : Sp) (dvs : List V) (E : XK) (ta : TE) (t : TA) : TE := fun σ H Q => ta σ H fun x H1 => ∃ a dx fs, x = .ref a ∧ H1 a = some (.ins C dx fs) ∧ fs.lookup m = none ∧
  t σ H1 fun vs H2 => sp (x :: (vs ++ dvs)) H2 Q E
/-- C(..): a new instance and its dict, then __init__ -/
def tMake (C : Addr) (sp : Sp) (dvs : List V) (E : XK) (t : TA) : TE := fun σ H Q => t σ H fun vs H1 => ∀ x dx, H1 x = none → H1 dx = none → dx ≠ x →
  sp (.ref x :: (vs ++ dvs)) (upd (upd H1 dx (.own x)) x (.ins C dx [])) (fun v H2 => v = .non ∧ Q (.ref x) H2) E

/-- how the parameters are bound: us the positional arguments, kw the keywords' values by name, ds the defaults that fill up -/
def Binds (K : PySem.W.Frag) (fd : FuncData) (ps : List Str) (ds : List Value) : Prop :=
  ∀ (s : Shared) (us : List Value), K.In s.heap → (us ++ ds).length = ps.length → BindsTo s fd ⟨us, []⟩ (ps.zip (us ++ ds))
/-- every parameter is given -/
theorem Binds.all {K : PySem.W.Frag} {fd : FuncData} {ps : List Str} (h : ∀ us : List Value, us.length = ps.length → bindArgs fd ⟨us, []⟩ = pure (ps.zip us)) : Binds K fd ps [] := fun s us _ hl => by
  rw [List.append_nil] at hl ⊢
  exact .of_eq (h us hl)

/-- an exception of a callee reaches what this body wants of exceptions -/
def Passes (CX : CXT) (X : Cx) (E : XK) : Prop := ∀ (pins : List (Addr × Obj)) (σ : St) (H : Hp) (s : Shared) (e : Value) (s' : Shared), Inv X pins σ H s → CX X.stack H s E e s' → X.xe e s'

section
variable {X : Cx} {CX : CXT} {k : Nat} {f C : Addr} {fd : FuncData} {ps : List Str} {sp : Sp} {dvs : List V} {ds : List Value} {E : XK} {x m : Str} {p pos apos : Pos} {e o : Expr} {es : List Expr} {ta : TE} {t : TA}

/-- the callee runs -/
theorem run_fn {pins : List (Addr × Obj)} {σ : St} {H : Hp} {s : Shared} {Q : VK} {us : List Value} {vs : List V} (F : FnOk X.prog X.w X.K X.mg X.base CX k f fd ps sp) (hr : Room k X.A) (hb : Binds X.K fd ps ds) (hd : Vals dvs ds) (hx : Passes CX X E)
    (I : Inv X pins σ H s) (r : Vals vs us) (h : sp (vs ++ dvs) H Q E) : wpAny (model X.prog X.w) X.A (call (.ref f) us) (EP X pins σ Q) X.xe s := by
  have r2 : Vals (vs ++ dvs) (us ++ ds) := r.append hd
  have hl : (us ++ ds).length = ps.length := by rw [← r2.length]; exact F.len _ _ _ _ h
  refine wpAny_call (codeAny_mono (F.run X.A X.stack s H ⟨us, []⟩ (us ++ ds) (vs ++ dvs) Q E hr I.env0 (hb s us I.kIn hl) r2 h) fun r s' hq => ?_)
  cases r with
  | error e => exact hx pins σ H s e s' I hq
  | ok fl =>
    cases fl with
    | ret u => exact I.after hq
    | next => exact False.elim hq
    | brk => exact False.elim hq
    | cont => exact False.elim hq

theorem pe_call (F : FnOk X.prog X.w X.K X.mg X.base CX k f fd ps sp) (hr : Room k X.A) (hg : Gl X x) (hm : X.mg x = some (.ref f)) (hk : PySem.W.keepIn X.K (.ref f) = true) (hb : Binds X.K fd ps ds) (hd : Vals dvs ds) (hx : Passes CX X E)
    (ha : PA X (e :: es) t) (hdb : (x == ("__debug__" : Str)) = false := by decide) (he : starEach (e :: es) X.env = (false, eval e X.env) :: starEach es X.env := by rfl) (hpl : (backTo pos (starEach es X.env)).any (·.1) = false := by rfl) :
    PE X (.Call (.Name x p) (e :: es) [] pos) (tCall sp dvs E t) := by
  intro pins s σ H Q I h
  refine wpAny_Call_Name_kw (ld_glob I hg hm ?_ hdb)
  refine PySem.W.callWith_K (h₀ := X.base) I.ok.mod.kin hk (thn (ha pos pins s σ H _ I h) fun us s1 ⟨vs, H1, I1, r, q⟩ => ⟨I1.kIn, ?_⟩) he hpl
  exact run_fn F hr hb hd hx I1 r q
/-- o.m(e, ..) -/
theorem pe_meth {pl : Sem Bool} (he : PE X o ta) (c : Cls X.K C) (hm : Meth X.K C m f) (F : FnOk X.prog X.w X.K X.mg X.base CX k f fd ps sp) (hr : Room k X.A) (hb : Binds X.K fd ps ds) (hd : Vals dvs ds) (hx : Passes CX X E) (ha : PA X (e :: es) t)
    (hst : starEach (e :: es) X.env = (false, eval e X.env) :: starEach es X.env := by rfl) (hpl : (backTo pos (starEach es X.env)).any (·.1) = false := by rfl)
    (ht : eval (.Call (.Attribute o m apos) (e :: es) [] pos) X.env = (do
      let ov ← eval o X.env
      standAt apos.atName
      let (f, first) ← holding [ov] (getMethod ov m pl)
      callWith pos f first (backTo pos (starEach (e :: es) X.env)) (backToKw pos (keywordEach [] X.env))) := by rfl) :
    PE X (.Call (.Attribute o m apos) (e :: es) [] pos) (tMeth C m sp dvs E ta t) := by
  intro pins s σ H Q I h
  refine PySem.W.methodCall_KW (pl := pl) (thn (he pins s σ H _ I h) fun u s1 ⟨x, H1, I1, rx, a, dx, fs, ex, ea, l, q⟩ => ?_) ht
  subst ex
  obtain rfl : u = Value.ref a := rx
  refine getmeth_ok I1 ea c hm l ?_
  refine PySem.W.callWith_K (first := [.ref a]) (h₀ := X.base) I.ok.mod.kin hm.kp (thn (ha pos pins s1 σ H1 _ I1 q) fun us s2 ⟨vs, H2, I2, r, q2⟩ => ⟨I2.kIn, ?_⟩) hst hpl
  exact run_fn (us := .ref a :: us) (vs := .ref a :: vs) F hr hb hd hx I2 (.cons rfl r) q2
/-- o.m() -/
theorem pe_meth0 {pl : Sem Bool} (he : PE X o ta) (c : Cls X.K C) (hm : Meth X.K C m f) (F : FnOk X.prog X.w X.K X.mg X.base CX k f fd ps sp) (hr : Room k X.A) (hb : Binds X.K fd ps ds) (hd : Vals dvs ds) (hx : Passes CX X E)
    (ht : eval (.Call (.Attribute o m apos) [] [] pos) X.env = (do
      let ov ← eval o X.env
      standAt apos.atName
      let (f, first) ← holding [ov] (getMethod ov m pl)
      callWith pos f first (backTo pos (starEach [] X.env)) (backToKw pos (keywordEach [] X.env))) := by rfl) :
    PE X (.Call (.Attribute o m apos) [] [] pos) (tMeth C m sp dvs E ta tNil) := by
  intro pins s σ H Q I h
  refine PySem.W.methodCall_KW (pl := pl) (thn (he pins s σ H _ I h) fun u s1 ⟨x, H1, I1, rx, a, dx, fs, ex, ea, l, q⟩ => ?_) ht
  subst ex
  obtain rfl : u = Value.ref a := rx
  refine getmeth_ok I1 ea c hm l ?_
  exact PySem.W.callWith_K0 (first := [.ref a]) I1.kIn hm.kp (run_fn (us := [.ref a]) (vs := [.ref a]) F hr hb hd hx I1 (.cons rfl .nil) q)

/-- what a class must have to be made -/
structure Mk (K : PySem.W.Frag) (C f : Addr) : Prop where
  makes : PySem.W.makesIn K C = true
  init : PySem.W.findIn K (.ref C) "__init__" = some (some (.ref f))
  fn : PySem.W.isFn K (.ref f) = true
  kp : PySem.W.keepIn K (.ref C) = true

theorem run_make {pins : List (Addr × Obj)} {σ : St} {H : Hp} {s : Shared} {Q : VK} {us : List Value} {vs : List V} (M : Mk X.K C f) (F : FnOk X.prog X.w X.K X.mg X.base CX k f fd ps sp) (hr : Room (k + 1) X.A) (hb : Binds X.K fd ps ds) (hd : Vals dvs ds)
    (hx : Passes CX X E) (I : Inv X pins σ H s) (r : Vals vs us)
    (h : ∀ x dx, H x = none → H dx = none → dx ≠ x → sp (.ref x :: (vs ++ dvs)) (upd (upd H dx (.own x)) x (.ins C dx [])) (fun v H2 => v = .non ∧ Q (.ref x) H2) E) :
    wpAny (model X.prog X.w) X.A (call (.ref C) us) (EP X pins σ Q) X.xe s := by
  have hq := h (s.heap.objs.size + 1) s.heap.objs.size (I.hok.fresh (Nat.le_succ _)) (I.hok.fresh (Nat.le_refl _)) (Nat.ne_of_lt (Nat.lt_succ_self _))
  have I2 := Inv.made (C := C) I
  have r2 : Vals (V.ref (s.heap.objs.size + 1) :: (vs ++ dvs)) (Value.ref (s.heap.objs.size + 1) :: (us ++ ds)) := .cons rfl (r.append hd)
  have hl : (Value.ref (s.heap.objs.size + 1) :: us ++ ds).length = ps.length := by
    have e := r2.length
    rw [F.len _ _ _ _ hq] at e
    exact e.symm
  refine wpAny_call (make_map (f := f) I.kIn M.makes M.init (beq_iff_eq.mp M.fn) (codeAny_mono (F.run _ X.stack _ _ ⟨Value.ref (s.heap.objs.size + 1) :: us, []⟩ (Value.ref (s.heap.objs.size + 1) :: (us ++ ds)) _ _ E (hr.make C us [])
    (I2.env0.make C us []) (hb _ (Value.ref (s.heap.objs.size + 1) :: us) I2.kIn hl) r2 hq) fun r s' hq' => ?_))
  cases r with
  | error e => exact hx pins σ _ _ e s' I2 hq'
  | ok fl =>
    cases fl with
    | ret u =>
      obtain ⟨v, H', I3, rv, ev, q3⟩ := I2.after hq'
      subst ev
      exact ⟨rv, ⟨V.ref (s.heap.objs.size + 1), H', I3, rfl, q3⟩⟩
    | next => exact False.elim hq'
    | brk => exact False.elim hq'
    | cont => exact False.elim hq'
theorem pe_make (M : Mk X.K C f) (F : FnOk X.prog X.w X.K X.mg X.base CX k f fd ps sp) (hr : Room (k + 1) X.A) (hg : Gl X x) (hm : X.mg x = some (.ref C)) (hb : Binds X.K fd ps ds) (hd : Vals dvs ds) (hx : Passes CX X E)
    (ha : PA X (e :: es) t) (hdb : (x == ("__debug__" : Str)) = false := by decide) (he : starEach (e :: es) X.env = (false, eval e X.env) :: starEach es X.env := by rfl) (hpl : (backTo pos (starEach es X.env)).any (·.1) = false := by rfl) :
    PE X (.Call (.Name x p) (e :: es) [] pos) (tMake C sp dvs E t) := by
  intro pins s σ H Q I h
  refine wpAny_Call_Name_kw (ld_glob I hg hm ?_ hdb)
  refine PySem.W.callWith_K (h₀ := X.base) I.ok.mod.kin M.kp (thn (ha pos pins s σ H _ I h) fun us s1 ⟨vs, H1, I1, r, q⟩ => ⟨I1.kIn, ?_⟩) he hpl
  exact run_make M F hr hb hd hx I1 r q
end

/-! ### keywords -/
section
variable {X : Cx} {CX : CXT} {k : Nat} {f C : Addr} {fd : FuncData} {ps ks : List Str} {sp : Sp} {E : XK} {x m : Str} {p pos apos kpos : Pos} {e o : Expr} {es : List Expr} {kws : List Keyword} {te ta : TE} {t tk : TA} {nm : Option Str}
variable {g : List Value → List Value → List Value} {gV : List V → List V → List V}
end

/-! ### a def's body keeps its promise -/
/-- names: the parameters first -/
structure FnScope (N P : List Str) (sc : Scope) : Prop where
  kind : sc.kind = .function
  co : sc.isCoroutine = false
  gen : sc.isGenerator = false
  nd : N.Nodup
  pre : N.take P.length = P
  par : ∀ x ∈ P, sc.names.lookup x = some .local ∨ sc.names.lookup x = some .cell
  nofree : ∀ y ∈ sc.names, y.2 ≠ .free

theorem bindL_out {kindOf : Str → Option NameKind} {x : Str} : ∀ {binds : List (Str × Value)} {m : Str → Option Value}, (∀ v, (x, v) ∉ binds) → bindL kindOf binds m x = m x
  | [], _, _ => rfl
  | (n, v) :: r, m, h => by
    unfold bindL
    rw [bindL_out fun w hw => h w (List.mem_cons_of_mem _ hw)]
    split
    · have : x ≠ n := by rintro rfl; exact h v List.mem_cons_self
      simp [this]
    · rfl
theorem bindC_out {kindOf : Str → Option NameKind} {x : Str} : ∀ {binds : List (Str × Value)} {m : Str → Option Value}, (∀ v, (x, v) ∉ binds) → bindC kindOf binds m x = m x
  | [], _, _ => rfl
  | (n, v) :: r, m, h => by
    unfold bindC
    rw [bindC_out fun w hw => h w (List.mem_cons_of_mem _ hw)]
    split
    · rfl
    · have : x ≠ n := by rintro rfl; exact h v List.mem_cons_self
      simp [this]
theorem bindL_get {kindOf : Str → Option NameKind} {x : Str} {v : Value} : ∀ {P : List Str} {vs : List Value} {i : Nat} {m : Str → Option Value}, P.Nodup → P[i]? = some x → vs[i]? = some v → kindOf x = some .local →
    bindL kindOf (P.zip vs) m x = some v
  | [], _, _, _, _, h, _, _ => by simp at h
  | _ :: _, [], _, _, _, _, h, _ => by simp at h
  | p :: P, w :: vs, 0, m, nd, h1, h2, hk => by
    simp at h1 h2; subst h1; subst h2
    show bindL kindOf ((p, w) :: P.zip vs) m p = _
    unfold bindL
    rw [bindL_out fun v hv => (List.nodup_cons.mp nd).1 (List.of_mem_zip hv).1, if_pos hk]
    simp
  | p :: P, w :: vs, i + 1, m, nd, h1, h2, hk => by
    show bindL kindOf ((p, w) :: P.zip vs) m x = _
    unfold bindL
    exact bindL_get (i := i) (List.nodup_cons.mp nd).2 (by simpa using h1) (by simpa using h2) hk
theorem bindC_get {kindOf : Str → Option NameKind} {x : Str} {v : Value} : ∀ {P : List Str} {vs : List Value} {i : Nat} {m : Str → Option Value}, P.Nodup → P[i]? = some x → vs[i]? = some v → kindOf x ≠ some .local →
    bindC kindOf (P.zip vs) m x = some v
  | [], _, _, _, _, h, _, _ => by simp at h
  | _ :: _, [], _, _, _, _, h, _ => by simp at h
  | p :: P, w :: vs, 0, m, nd, h1, h2, hk => by
    simp at h1 h2; subst h1; subst h2
    show bindC kindOf ((p, w) :: P.zip vs) m p = _
    unfold bindC
    rw [bindC_out fun v hv => (List.nodup_cons.mp nd).1 (List.of_mem_zip hv).1, if_neg hk]
    simp
  | p :: P, w :: vs, i + 1, m, nd, h1, h2, hk => by
    show bindC kindOf ((p, w) :: P.zip vs) m x = _
    unfold bindC
    exact bindC_get (i := i) (List.nodup_cons.mp nd).2 (by simpa using h1) (by simpa using h2) hk

/-- the names' values at the entry -/
def start (N : List Str) (vs : List V) : St := vs.map some ++ List.replicate (N.length - vs.length) none

/-- the context of a def's body, at its entry; an exception leaves the frame, then lies as CX says -/
def cxOf (CX : CXT) (P : Program) (w : World) (K : PySem.W.Frag) (mg : Str → Option Value) (base : Heap) (N : List Str) (qual : Str) (scope : Scope) (f : Addr) (cd : Value) (A : Around) (outer : List Env) (s : Shared) (H : Hp) (E : XK) : Cx where
  prog := P
  w := w
  K := K
  mg := mg
  base := base
  A := A.deeper (envOfC qual scope s.heap.objs.size f cd)
  N := N
  s₀ := s
  H₀ := H
  env := envOfC qual scope s.heap.objs.size f cd
  outer := outer
  stack := envOfC qual scope s.heap.objs.size f cd :: outer
  ex := []
  calm := true
  fn := fun _ => true
  pn := []
  xe := fun e s' => wpAny (model P w) (A.deeper (envOfC qual scope s.heap.objs.size f cd)) (leaving (envOfC qual scope s.heap.objs.size f cd) e) (fun _ s'' => CX outer H s E e s'') (fun e' s'' => CX outer H s E e' s'') s'

theorem cell_has {sc : Scope} {n : Nat} {x : Str} (h : sc.names.lookup x = some .cell) : ∃ c, (cellsFrom n sc.names []).lookup x = some c := by
  have q := PySem.W.cellsFrom_some sc.names n [] (.inl h)
  exact Option.isSome_iff_exists.mp q

theorem inv_start {CX : CXT} {P : Program} {w : World} {K : PySem.W.Frag} {mg : Str → Option Value} {base : Heap} {N ps : List Str} {qual : Str} {scope : Scope} {f : Addr} {cd : Value} {A : Around} {outer : List Env} {s s1 : Shared} {H : Hp} {E : XK} {us : List Value} {vs : List V}
    (S : FnScope N ps scope) (hd : A.handled = none) (e0 : Env0 P w K mg base A outer s H) (hl : vs.length = ps.length) (r : Vals vs us)
    (x : InCallC s s.heap.objs.size (bindL (envOfC qual scope s.heap.objs.size f cd).kindOf (ps.zip us) fun _ => none) (cellsFrom (s.heap.objs.size + 1) scope.names []) (bindC (envOfC qual scope s.heap.objs.size f cd).kindOf (ps.zip us) fun _ => none) s1) :
    Inv (cxOf CX P w K mg base N qual scope f cd A outer s H E) [] (start N vs) H s1 := by
  have hpl : ps.length ≤ N.length := by have := congrArg List.length S.pre; rw [List.length_take] at this; omega
  obtain ⟨h1, tk, rfl, hk⟩ := x.done
  have noA : ∀ b : Addr, b ∉ (cxOf CX P w K mg base N qual scope f cd A outer s H E).ex := fun b z => absurd (show b ∈ ([] : List Addr) from z) (by simp)
  refine ⟨⟨e0.mod, S.kind, rfl, rfl, Nat.le_refl _, fun y z c h1 h2 => ?_, fun y hy => ?_, fun y c _ h => ?_, fun _ => hd, Around.frames_deeper e0.frames, .inr ⟨rfl, rfl⟩, fun b z => absurd z (noA b), e0.bs, e0.bsz, fun b _ _ => noA b, fun b z => absurd z (noA b), e0.funs, e0.frf⟩,
    rfl, e0.bare, Un.kept hk, ⟨_, x.toInCall.ns, fun i y v h1 h2 h3 => ?_⟩, fun y c h => ⟨_, x.cell y c h⟩, e0.hok.fresh (Nat.le_refl _), fun y c h => ?_, fun p hp => absurd (show p ∈ ([] : List (Addr × Obj)) from hp) (by simp), e0.hok.kept hk, ?_⟩
  · exact name_of_addr x.apart (PySem.mem_of_lookup h1) (PySem.mem_of_lookup h2)
  · have hy : scope.names.lookup y = some .cell ∨ scope.names.lookup y = some .free := hy
    rcases hy with hy | hy
    · exact cell_has hy
    · exact absurd rfl (S.nofree _ (PySem.mem_of_lookup hy))
  · exact Nat.le_of_lt (x.above y c (PySem.mem_of_lookup h))
  · have hi : i < vs.length := by
      unfold start at h2
      by_cases hi : i < vs.length
      · exact hi
      · rw [List.getElem?_append_right (by simpa using hi)] at h2
        rw [List.getElem?_replicate] at h2
        split at h2 <;> cases h2
    have ha : vs[i]? = some v := by
      unfold start at h2
      rw [List.getElem?_append_left (by simpa using hi), List.getElem?_map] at h2
      cases e : vs[i]? with
      | none => rw [e] at h2; cases h2
      | some a => rw [e] at h2; cases h2; rfl
    obtain ⟨u, hu, rv⟩ := r.get ha
    have hp : ps[i]? = some y := by
      rw [← S.pre, List.getElem?_take_of_lt (by omega)]; exact h1
    have ndP : ps.Nodup := by rw [← S.pre]; exact S.nd.sublist (List.take_sublist _ _)
    refine ⟨u, rv, ?_⟩
    rcases S.par y (List.mem_of_getElem? hp) with k | k
    · exact .inl ⟨k, bindL_get ndP hp hu k⟩
    · obtain ⟨c, e⟩ := cell_has (n := s.heap.objs.size + 1) k
      refine .inr ⟨.inl k, c, e, ?_⟩
      have q := x.cell y c e
      rw [bindC_get ndP hp hu (by show scope.names.lookup y ≠ _; rw [k]; decide)] at q
      exact q
  · exact e0.hok.fresh (Nat.le_of_lt (x.above y c (PySem.mem_of_lookup h)))
  · unfold start
    show _ = N.length
    rw [List.length_append, List.length_map, List.length_replicate]
    omega

/-- THE RULE: a def (or a method) of the text, by its body. The body's reading t is chosen for each entry; it is run at the parameters' values -/
theorem fn_of {CX : CXT} {P : Program} {w : World} {K : PySem.W.Frag} {mg : Str → Option Value} {base : Heap} {k : Nat} {f : Addr} {name qual : Str} {params : Arguments} {body : List Stmt} {scope : Scope} {dV kV doc pm cdv ct oc : Value} {an od : Option Addr}
    {osl : Array (Option Value)} {N ps : List Str} {sp : Sp} (lk : K.lookup f = some ⟨oc, od, .func (PySem.W.fnOf name qual params body scope dV kV doc pm an cdv ct), osl⟩) (hcd : PySem.W.codeIn K cdv qual = true) (S : FnScope N ps scope)
    (len : ∀ vs H Q E, sp vs H Q E → vs.length = ps.length)
    (hbody : ∀ (A : Around) (outer : List Env) (s : Shared) (H : Hp) (vs : List V) (Q : VK) (E : XK), Room k (A.deeper (envOfC qual scope s.heap.objs.size f cdv)) → sp vs H Q E →
      ∃ t, PSs (cxOf CX P w K mg base N qual scope f cdv A outer s H E) body t ∧ t { nx := fun _ H' => Q .non H', rt := Q } (start N vs) H) :
    FnOk P w K mg base CX (k + 1) f (PySem.W.fnOf name qual params body scope dV kV doc pm an cdv ct) ps sp := by
  refine ⟨len, fun A outer s H args us vs Q E hr e0 hb r hsp => ?_⟩
  have hl := len _ _ _ _ hsp
  have KX : K.In s.heap := e0.mod.kin.keeps fun b o e => (e0.bs b o e).1
  have lim : s.heap.NoLimit := e0.mod.nolimit.keeps fun b o e => (e0.bs b o e).1
  have hkind : ∀ y ∈ ps.zip us, scope.names.lookup y.1 = some .local ∨ (scope.names.lookup y.1 = some .cell ∧ ((cellsFrom (s.heap.objs.size + 1) scope.names []).lookup y.1).isSome = true) := fun ⟨n, v⟩ hy => by
    rcases S.par n (List.of_mem_zip hy).1 with q | q
    · exact .inl q
    · exact .inr ⟨q, PySem.W.cellsFrom_some _ _ _ (.inl q)⟩
  refine codeAny_call_function hr.depth (KX _ _ lk) rfl S.co S.gen rfl (PySem.W.codeRec_of KX hcd) (hb _ _ _ _ ?_)
  refine wpAny_newFunctionEnv_cells S.kind hkind fun env he s1 x => ?_
  subst he
  refine ⟨lim.keeps x.toInCall.keep, codeAny_func ?_⟩
  obtain ⟨t, ht, hq⟩ := hbody A outer s H vs Q E (hr.deeper _) hsp
  have I : Inv (cxOf CX P w K mg base N qual scope f cdv A outer s H E) [] (start N vs) H s1 := inv_start S hr.hd e0 hl r x
  refine wpAny_mono (ht [] s1 (start N vs) H _ I hq) (fun fl s' hs => ?_) fun e s' hs => hs
  have fin : ∀ {σ' : St} {H' : Hp} {v : V} {u : Value}, Inv (cxOf CX P w K mg base N qual scope f cdv A outer s H E) [] σ' H' s' → RelV v u → Q v H' → CE outer P w H s Q u s' :=
    fun {σ' H' v u} J rv q => ⟨v, H', J.os, J.bare, J.base, J.hok, rv, q⟩
  cases fl with
  | ret u =>
    obtain ⟨v, σ', H', J, rv, q⟩ := hs
    exact fin J rv q
  | next =>
    obtain ⟨σ', H', J, q⟩ := hs
    exact fin (v := V.non) (u := Value.none) J rfl q
  | brk =>
    obtain ⟨_, _, _, q⟩ := hs
    exact False.elim q
  | cont =>
    obtain ⟨_, _, _, q⟩ := hs
    exact False.elim q
end L2

namespace L2
open PySem PySem.Spec PyProof.Rows
section
variable {X : Cx} {x : Str} {p pos : Pos} {e : Expr} {es : List Expr} {t : TA} {id T : String} {r : List V → Hp → VK → Prop}

def tCB (r : List V → Hp → VK → Prop) (t : TA) : TE := fun σ H Q => t σ H fun vs H1 => r vs H1 Q
/-- f(e, ..), f a built-in function -/
theorem pe_callB (hc : CallR X (.builtin id) r) (hg : Gl X x) (hm : X.mg x = none) (hv : bootBuiltins x = some (.builtin id)) (ha : PA X (e :: es) t) (hn : x ≠ "__name__" := by decide) (hdb : (x == ("__debug__" : Str)) = false := by decide)
    (he : starEach (e :: es) X.env = (false, eval e X.env) :: starEach es X.env := by rfl) (hpl : (backTo pos (starEach es X.env)).any (·.1) = false := by rfl) : PE X (.Call (.Name x p) (e :: es) [] pos) (tCB r t) := by
  intro pins s σ H Q I h
  refine wpAny_Call_Name_kw (ld_blt I hg hm hv ?_ hn hdb)
  exact PyProof.Rows.callWith_builtin1 (thn (ha pos pins s σ H _ I h) fun us s1 ⟨vs, H1, I1, r1, q1⟩ => hc pins s1 σ H1 vs us Q I1 r1 q1) he hpl
/-- T(e, ..), T a built-in type -/
theorem pe_callTy (hc : CallR X (.type T) r) (hg : Gl X x) (hm : X.mg x = none) (hv : bootBuiltins x = some (.type T)) (ha : PA X (e :: es) t) (hn : x ≠ "__name__" := by decide) (hdb : (x == ("__debug__" : Str)) = false := by decide)
    (he : starEach (e :: es) X.env = (false, eval e X.env) :: starEach es X.env := by rfl) (hpl : (backTo pos (starEach es X.env)).any (·.1) = false := by rfl) : PE X (.Call (.Name x p) (e :: es) [] pos) (tCB r t) := by
  intro pins s σ H Q I h
  refine wpAny_Call_Name_kw (ld_blt I hg hm hv ?_ hn hdb)
  exact PyProof.Rows.callWith_type1 (thn (ha pos pins s σ H _ I h) fun us s1 ⟨vs, H1, I1, r1, q1⟩ => hc pins s1 σ H1 vs us Q I1 r1 q1) he hpl
end
end L2

namespace HT
open PySem PyProof.Rows

section
open PySem.SeqAt
open PySem.AutoSeq1 (wpAny_loadPart')
open PySem.MeetsSeq PySem.MeetsSeq2 PySem.MeetsSeq3

end

section
variable {prog : Program} {w : World} {A : Around} {E : Value → Shared → Prop} {s : Shared}

/-! ### t[a:b], not the whole -/
end
end HT

namespace L2
open PySem PySem.Spec PyProof.Rows

/-! ### the parts of a slice -/
theorem intsAre_of {ns : List Int} : ∀ {us : List Value}, Vals (ns.map V.int) us → IntsAre us ns := by
  induction ns with
  | nil => intro us r; rw [List.map_nil] at r; cases r; exact .nil
  | cons n ns ih =>
    intro us r
    rw [List.map_cons] at r
    cases r with
    | cons r1 r2 =>
      obtain ⟨t, e⟩ := r1
      subst e
      exact .cons n t (ih r2)

section
variable {X : Cx} {e : Expr} {te : TE} {lo hi : Option Expr} {tl th : TO} {pos p2 : Pos}

/-! ### t < u, t + u -/
end
end L2

namespace L2
open PySem PySem.Spec PyProof.Rows

/-! ### places -/
/-- the place that an index of any sign means -/
def ixN (n : Nat) (i : Int) : Option Nat := if 0 ≤ i then (if i < n then some i.toNat else none) else if -(n : Int) ≤ i then some (i + n).toNat else none
def atI {α : Type} (xs : List α) (i : Int) : Option α := (ixN xs.length i).bind fun j => xs[j]?
theorem ixN_seq {n : Nat} {i : Int} {j : Nat} (h : ixN n i = some j) : seqIndex? i n = some j ∧ j < n ∧ -(n : Int) ≤ i ∧ i < n := by
  unfold ixN at h
  by_cases h0 : 0 ≤ i
  · rw [if_pos h0] at h
    by_cases h1 : i < n
    · rw [if_pos h1] at h
      have e : i.toNat = j := Option.some.inj h
      exact ⟨by rw [seqIndex_of h0 h1, e], by omega, by omega, h1⟩
    · rw [if_neg h1] at h; cases h
  · rw [if_neg h0] at h
    by_cases h1 : -(n : Int) ≤ i
    · rw [if_pos h1] at h
      have e : (i + n).toNat = j := Option.some.inj h
      exact ⟨by rw [seqIndex_neg (by omega) h1, e], by omega, h1, by omega⟩
    · rw [if_neg h1] at h; cases h
theorem atI_get {α : Type} {xs : List α} {i : Int} {v : α} (h : atI xs i = some v) : ∃ j, seqIndex? i xs.length = some j ∧ xs[j]? = some v ∧ j < xs.length ∧ -(xs.length : Int) ≤ i ∧ i < xs.length := by
  unfold atI at h
  cases e : ixN xs.length i with
  | none => rw [e] at h; cases h
  | some j =>
    rw [e] at h
    obtain ⟨h1, h2, h3, h4⟩ := ixN_seq e
    exact ⟨j, h1, h, h2, h3, h4⟩
theorem atI_nat {α : Type} {xs : List α} {j : Nat} {v : α} (h : xs[j]? = some v) : atI xs (j : Int) = some v := by
  have hj : j < xs.length := (List.getElem?_eq_some_iff.mp h).1
  have e : ixN xs.length (j : Int) = some j := by
    unfold ixN
    rw [if_pos (by omega), if_pos (by omega)]; simp
  unfold atI; rw [e]; exact h
/-! ### what may be subscripted -/
/-- what stands as an index of a plain subscript -/
def PlainIx (b : Expr) : Prop := ∀ o i, subscripted b false o i = operate [o, i] (getItem o i)
/-- a subscript by values -/
def IxR (X : Cx) (r : R2) : Prop :=
  ∀ (value slice : Expr) (pins : List (Addr × Obj)) (s : Shared) (σ : St) (H : Hp) (x y : V) (v u : Value) (Q : VK), Inv X pins σ H s → RelV x v → RelV y u → r x y H Q →
    subscripted slice false v u = operate [v, u] (getItem v u) → wpAny (model X.prog X.w) X.A (subscriptTail value slice v u) (EP X pins σ Q) X.xe s
/-- a call of a builtin's method by values: the receiver, the arguments -/
def MtR (X : Cx) (id : String) (r : V → List V → Hp → VK → Prop) : Prop :=
  ∀ (pins : List (Addr × Obj)) (s : Shared) (σ : St) (H : Hp) (x : V) (xs : List V) (v : Value) (us : List Value) (Q : VK), Inv X pins σ H s → RelV x v → Vals xs us → r x xs H Q →
    wpAny (model X.prog X.w) X.A (call (.builtin id) (v :: us)) (EP X pins σ Q) X.xe s
section
variable {X : Cx} {a b : Expr} {ta tb : TE} {pos : Pos}
/-- a[b] -/
theorem pe_ix {r : R2} (hr : IxR X r) (ha : PE X a ta) (hb : PE X b tb) (hs : PlainIx b) : PE X (.Subscript a b pos) (tOp r ta tb) := by
  intro pins s σ H Q I h
  exact Subscript_ (binT ha hb I h fun v u s2 x y H2 I2 rx ry q => hr a b pins s2 σ H2 x y v u Q I2 rx ry q (hs _ _))

def rIxL (K : PySem.W.Frag) : R2 := fun x y H Q => ∃ p xs i v, x = .ref p ∧ y = .int i ∧ SqL K H p xs ∧ atI xs i = some v ∧ Q v H
def rIxT (K : PySem.W.Frag) : R2 := fun x y H Q => ∃ p xs i v, x = .ref p ∧ y = .int i ∧ SqT K H p xs ∧ atI xs i = some v ∧ Q v H
theorem ix_list : IxR X (rIxL X.K) := by
  intro value slice pins s σ H x y v u Q I rx ry h hs
  obtain ⟨p, xs, i, z, rfl, rfl, hq, he, q⟩ := h
  cases rx
  obtain ⟨t, rfl⟩ := ry
  obtain ⟨its, r, pl, hz⟩ := I.list hq
  obtain ⟨j, h1, h2, h3, h4, h5⟩ := atI_get he
  obtain ⟨w, ew, rw'⟩ := r.get h2
  have hl := r.length
  have hn := line63
  have fin : EP X pins σ Q w s := ⟨z, H, I, rw', q⟩
  by_cases h0 : 0 ≤ i
  · have hj : i.toNat = j := by
      rw [seqIndex_of h0 h5] at h1
      exact Option.some.inj h1
    exact item_listR pl.isList h0 (by omega) (by rw [hj]; simpa using ew) fin hs
  · have hj : (i + (its.toArray.size : Int)).toNat = j := by
      rw [seqIndex_neg (by omega) h4] at h1
      rw [List.size_toArray, ← hl]
      exact Option.some.inj h1
    exact subscriptTail_builtinR (x := w) pl.isList.typeIs slot_list_getitem.lookup
      (wpAny_getItem_list_neg (Q := fun r s' => r = w ∧ EP X pins σ Q r s') pl.isList (by omega) (by rw [List.size_toArray] <;> omega) (by omega) (by rw [hj]; simpa using ew) ⟨rfl, fin⟩) hs
theorem ix_tup : IxR X (rIxT X.K) := by
  intro value slice pins s σ H x y v u Q I rx ry h hs
  obtain ⟨p, xs, i, z, rfl, rfl, hq, he, q⟩ := h
  cases rx
  obtain ⟨t, rfl⟩ := ry
  obtain ⟨its, r, pl, hz⟩ := I.tuple hq
  obtain ⟨j, h1, h2, h3, h4, h5⟩ := atI_get he
  obtain ⟨w, ew, rw'⟩ := r.get h2
  have hl := r.length
  have hn := line63
  have fin : EP X pins σ Q w s := ⟨z, H, I, rw', q⟩
  exact subscriptTail_builtinR (x := w) pl.typeIs slot_tuple_getitem.lookup
    (getItem_tuple (j := j) (Q := fun r s' => r = w ∧ EP X pins σ Q r s') pl (by omega) (by omega) (by rw [List.size_toArray, ← hl]; exact h1) (by simpa using ew) ⟨rfl, fin⟩) hs
/-! ### xs[i] = v, any sign -/
/-- the list's object behind a store -/
theorem mapSeq_set (its : List Value) (n j : Nat) (u : Value) : Obj.mapSeq (·.setIfInBounds j u) { cls := .type "list", data := .seq its.toArray n } = { cls := .type "list", data := .seq (its.set j u).toArray n } := by
  simp [Obj.mapSeq]
theorem Inv.lst {pins : List (Addr × Obj)} {σ : St} {H : Hp} {s : Shared} {p : Addr} {xs : List V} (I : Inv X pins σ H s) (h : H p = some (.lst xs)) :
    ∃ (its : List Value) (n : Nat), Vals xs its ∧ s.heap.get? p = some { cls := .type "list", data := .seq its.toArray n } ∧ xs.length ≤ sizeLine := by
  obtain ⟨z, its, n, r, e⟩ := I.hok p _ h
  exact ⟨its, n, r, e, z⟩
/-- the list at p is written by an update of its object -/
theorem Inv.lstUpd {pins : List (Addr × Obj)} {σ : St} {H : Hp} {s : Shared} {p : Addr} {xs ys : List V} {its its' : List Value} {n n' : Nat} {f : Obj → Obj} (I : Inv X pins σ H s) (h : H p = some (.lst xs))
    (ho : s.heap.get? p = some { cls := .type "list", data := .seq its.toArray n }) (hf : f { cls := .type "list", data := .seq its.toArray n } = { cls := .type "list", data := .seq its'.toArray n' }) (r : Vals ys its') (hz : ys.length ≤ sizeLine) (t : Nat) :
    Inv X pins σ (upd H p (.lst ys)) { s with heap := s.heap.update p f, toks := t } := by
  have e : (s.heap.update p f).get? p = some { cls := .type "list", data := .seq its'.toArray n' } := by
    rw [Heap.get?_update_self f ho (by rw [hf] <;> rfl), hf]
  refine I.write (x := p) (e := p) (by rw [h]; trivial) (.inl rfl) (fun b u hb q => (Heap.get?_update_other _ _ (Ne.symm hb)).trans q) ⟨_, e⟩ ?_
  exact ⟨hz, its', n', r, e⟩
def rSetL : V → V → V → Hp → (Hp → Prop) → Prop := fun o i v H Q => ∃ p xs k j, o = .ref p ∧ i = .int k ∧ H p = some (.lst xs) ∧ ixN xs.length k = some j ∧ Q (upd H p (.lst (xs.set j v)))
theorem set_list : PSet X rSetL := by
  intro pins s σ H o i v ov iv u Q I ro ri rv h
  obtain ⟨p, xs, k, j, rfl, rfl, hp, hj, q⟩ := h
  cases ro
  obtain ⟨t, rfl⟩ := ri
  obtain ⟨its, n, r, ho, hz⟩ := I.lst hp
  obtain ⟨h1, h2, h3, h4⟩ := ixN_seq hj
  have hl := r.length
  have hn := line63
  have I' : Inv X pins σ (upd H p (.lst (xs.set j v))) { s with heap := s.heap.update p (Obj.mapSeq (·.setIfInBounds j u)) } :=
    I.lstUpd hp ho (mapSeq_set its n j u) (r.set rv j) (by rw [List.length_set]; exact hz) s.toks
  by_cases h0 : 0 ≤ k
  · have hk : k.toNat = j := by
      rw [seqIndex_of h0 h4] at h1
      exact Option.some.inj h1
    exact PySem.W.ki_setAt ho h0 (by omega) (by rw [List.size_toArray, ← hl]; exact h4) (by rw [hk]; exact ⟨_, I', q⟩)
  · have hk : (k + (its.toArray.size : Int)).toNat = j := by
      rw [seqIndex_neg (by omega) h3] at h1
      rw [List.size_toArray, ← hl]
      exact Option.some.inj h1
    exact PySem.W.ki_setBack ho (by omega) (by rw [List.size_toArray, ← hl]; exact h3) (by omega) (by rw [hk]; exact ⟨_, I', q⟩)

/-! ### slices -/
/-! ### in, not in: flat items -/
def flatV : V → Bool
  | .non => true
  | .bl _ => true
  | .int _ => true
  | .str _ => true
  | _ => false
/-- == of flat values -/
def eqV : V → V → Bool
  | .non, .non => true
  | .bl a, .bl b => a == b
  | .bl a, .int b => (if a then 1 else 0) == b
  | .int a, .bl b => a == (if b then 1 else 0)
  | .int a, .int b => a == b
  | .str a, .str b => a == b
  | _, _ => false
theorem eqAt_V {A : Around} {s : Shared} {y x : V} {u v : Value} (ry : RelV y u) (rx : RelV x v) (fy : flatV y = true) (fx : flatV x = true) : SeqAt.EqAt A s u v (eqV y x) := by
  cases y with
  | non =>
    cases ry
    cases x with
    | non => cases rx; exact SeqAt.EqAt.same _
    | bl b => cases rx; exact SeqAt.EqAt.none_bool b
    | int b => obtain ⟨t, rfl⟩ := rx; exact SeqAt.EqAt.none_int b t
    | str b => obtain ⟨t, rfl⟩ := rx; exact SeqAt.EqAt.none_str b t
    | _ => exact absurd (show false = true from fx) Bool.false_ne_true
  | bl a =>
    cases ry
    cases x with
    | non => cases rx; exact SeqAt.EqAt.bool_none a
    | bl b => cases rx; exact SeqAt.EqAt.bool_bool a b
    | int b => obtain ⟨t, rfl⟩ := rx; exact SeqAt.EqAt.bool_int a b t
    | str b => obtain ⟨t, rfl⟩ := rx; exact SeqAt.EqAt.bool_str a b t
    | _ => exact absurd (show false = true from fx) Bool.false_ne_true
  | int a =>
    obtain ⟨t', rfl⟩ := ry
    cases x with
    | non => cases rx; exact SeqAt.EqAt.int_none a t'
    | bl b => cases rx; exact SeqAt.EqAt.int_bool a t' b
    | int b => obtain ⟨t, rfl⟩ := rx; exact SeqAt.EqAt.int_int a t' b t
    | str b => obtain ⟨t, rfl⟩ := rx; exact SeqAt.EqAt.int_str a t' b t
    | _ => exact absurd (show false = true from fx) Bool.false_ne_true
  | str a =>
    obtain ⟨t', rfl⟩ := ry
    cases x with
    | non => cases rx; exact SeqAt.EqAt.str_none a t'
    | bl b => cases rx; exact SeqAt.EqAt.str_bool a t' b
    | int b => obtain ⟨t, rfl⟩ := rx; exact SeqAt.EqAt.str_int a t' b t
    | str b => obtain ⟨t, rfl⟩ := rx; exact SeqAt.EqAt.str_str a t' b t
    | _ => exact absurd (show false = true from fx) Bool.false_ne_true
  | _ => exact absurd (show false = true from fy) Bool.false_ne_true
/-- the items' answers, read off the values (a value's own answer does not lean on its token) -/
def eqU (x : V) (u : Value) : Bool := match u with
  | .none => eqV .non x
  | .bool b => eqV (.bl b) x
  | .int i _ => eqV (.int i) x
  | .str z _ => eqV (.str z) x
  | _ => false
theorem eqU_of {x y : V} {u : Value} (r : RelV y u) (f : flatV y = true) : eqU x u = eqV y x := by
  cases y with
  | non => cases r; rfl
  | bl b => cases r; rfl
  | int i => obtain ⟨t, rfl⟩ := r; rfl
  | str z => obtain ⟨t, rfl⟩ := r; rfl
  | _ => exact absurd (show false = true from f) Bool.false_ne_true
theorem any_eqU {x : V} : ∀ {xs : List V} {us : List Value}, Vals xs us → xs.all flatV = true → us.any (eqU x) = xs.any fun y => eqV y x
  | _, _, .nil, _ => rfl
  | y :: xs, u :: us, .cons r t, f => by
    rw [List.all_cons, Bool.and_eq_true] at f
    rw [List.any_cons, List.any_cons, eqU_of r f.1, any_eqU t f.2]
theorem mem_eqAt {A : Around} {s : Shared} {x : V} {v : Value} (rx : RelV x v) (fx : flatV x = true) : ∀ {xs : List V} {us : List Value}, Vals xs us → xs.all flatV = true → ∀ u ∈ us, SeqAt.EqAt A s u v (eqU x u)
  | _, _, .nil, _ => fun u hu => by cases hu
  | y :: xs, u :: us, .cons r t, f => fun u' hu => by
    rw [List.all_cons, Bool.and_eq_true] at f
    rcases List.mem_cons.mp hu with rfl | hu
    · rw [eqU_of r f.1]; exact eqAt_V r rx f.1 fx
    · exact mem_eqAt rx fx t f.2 u' hu
def inV (x : V) (xs : List V) : Bool := xs.any fun y => eqV y x
/-- x in a list or tuple of flat items -/
def rIn (K : PySem.W.Frag) (neg : Bool) : R2 := fun x y H Q => ∃ p xs, y = .ref p ∧ (SqL K H p xs ∨ SqT K H p xs) ∧ flatV x = true ∧ xs.all flatV = true ∧ Q (.bl (if neg then !inV x xs else inV x xs)) H
theorem op_notIn_seq : OpR X (compareOp .NotIn) (rIn X.K true) := by
  intro pins s σ H x y v u Q I rx ry h
  obtain ⟨p, xs, rfl, hq, fx, fs, q⟩ := h
  cases ry
  rcases hq with hq | hq
  · obtain ⟨its, r, pl, hz⟩ := I.list hq
    refine SeqAt.notIn_listAt (eqU x) pl.isList (fun w hw => mem_eqAt rx fx r fs w (by simpa using hw)) ⟨.bl _, H, I, rfl, ?_⟩
    rw [show its.toArray.any (eqU x) = its.any (eqU x) by simp, any_eqU r fs]
    exact q
  · obtain ⟨its, r, pl, hz⟩ := I.tuple hq
    refine SeqAt.notIn_tupleAt (eqU x) pl (fun w hw => mem_eqAt rx fx r fs w (by simpa using hw)) ⟨.bl _, H, I, rfl, ?_⟩
    rw [show its.toArray.any (eqU x) = its.any (eqU x) by simp, any_eqU r fs]
    exact q
/-! ### len, list(x), tuple(x) of any list or tuple that is read -/
theorem call_len_seq : CallR X (.builtin "len") (fun xs H Q => ∃ p ys, xs = [.ref p] ∧ (SqL X.K H p ys ∨ SqT X.K H p ys) ∧ Q (.int ys.length) H) := by
  intro pins s σ H xs us Q I r h
  obtain ⟨p, ys, rfl, hq, q⟩ := h
  obtain ⟨u, rfl, rx⟩ := vals1 r
  cases rx
  have hn := line63
  rcases hq with hq | hq
  · obtain ⟨its, r', pl, hz⟩ := I.list hq
    have hlen := r'.length
    exact Calls.call_len_list pl.isList (by simp only [List.size_toArray] <;> omega) ⟨.int ys.length, H, I.tok _, ⟨s.toks + 1, by rw [List.size_toArray, hlen]⟩, q⟩
  · obtain ⟨its, r', pl, hz⟩ := I.tuple hq
    have hlen := r'.length
    exact len_tuple pl (by simp only [List.size_toArray] <;> omega) ⟨.int ys.length, H, I.tok _, ⟨s.toks + 1, by rw [List.size_toArray, hlen]⟩, q⟩
theorem call_list_of : CallR X (.type "list") (fun xs H Q => ∃ p ys, xs = [.ref p] ∧ (SqL X.K H p ys ∨ SqT X.K H p ys) ∧ ∀ l, H l = none → Q (.ref l) (upd H l (.lst ys))) := by
  intro pins s σ H xs us Q I r h
  obtain ⟨p, ys, rfl, hq, q⟩ := h
  obtain ⟨u, rfl, rx⟩ := vals1 r
  cases rx
  have fin : ∀ (its : List Value), Vals ys its → ys.length ≤ sizeLine → ∀ (h' : Heap) (c' : Nat), (∀ b o', s.heap.get? b = some o' → h'.get? b = some o') →
      h'.get? s.heap.objs.size = some { cls := .type "list", dict := none, data := .seq its.toArray c', slots := #[] } → EP X pins σ Q (.ref s.heap.objs.size) { s with heap := h' } := fun its r' hz h' c' kp e =>
    ⟨.ref s.heap.objs.size, _, I.laid (t' := s.toks) kp (Nat.le_refl _) (show ObjOk X.prog X.w _ h' _ (.lst ys) from ⟨hz, its, c', r', e⟩), rfl, q _ (I.hok.fresh (Nat.le_refl _))⟩
  rcases hq with hq | hq
  · obtain ⟨its, r', pl, hz⟩ := I.list hq
    have hlen := r'.length
    obtain ⟨o, ho, hc, n, hd⟩ := pl.isList
    exact call_list_seq p (.inl rfl) ho hc hd (fun h' c' kp e => fin its r' hz h' c' kp e) (by simp only [List.size_toArray] <;> omega)
  · obtain ⟨its, r', pl, hz⟩ := I.tuple hq
    have hlen := r'.length
    obtain ⟨o, ho, hc, n, hd⟩ := pl
    exact call_list_seq p (.inr rfl) ho hc hd (fun h' c' kp e => fin its r' hz h' c' kp e) (by simp only [List.size_toArray] <;> omega)
theorem call_tuple_of : CallR X (.type "tuple") (fun xs H Q => ∃ p ys, xs = [.ref p] ∧ ((SqL X.K H p ys ∧ ∀ l, H l = none → Q (.ref l) (upd H l (.tup ys))) ∨ (SqT X.K H p ys ∧ Q (.ref p) H))) := by
  intro pins s σ H xs us Q I r h
  obtain ⟨p, ys, rfl, h⟩ := h
  obtain ⟨u, rfl, rx⟩ := vals1 r
  cases rx
  rcases h with ⟨hq, q⟩ | ⟨hq, q⟩
  · obtain ⟨its, r', pl, hz⟩ := I.list hq
    have hlen := r'.length
    refine call_tuple_list pl.isList (fun h' kp => ?_) (by simp only [List.size_toArray] <;> omega)
    have I1 : Inv X pins σ H { s with heap := h' } := I.kept (t' := s.toks) kp
    have I2 : Inv X pins σ (upd H h'.objs.size (.tup ys)) { s with heap := h'.push { cls := .type "tuple", data := .seq its.toArray } } :=
      I1.laid (t' := s.toks) (fun b o e => Heap.get?_push_of_some _ e) (Nat.le_refl _) (show ObjOk X.prog X.w _ _ _ (.tup ys) from ⟨hz, its, r', IsTup.new _ _⟩)
    exact ⟨.ref h'.objs.size, _, I2, rfl, q _ (I1.hok.fresh (Nat.le_refl _))⟩
  · obtain ⟨its, r', pl, hz⟩ := I.tuple hq
    exact call_tuple_same pl ⟨.ref p, H, I, rfl, q⟩

/-! ### the call of a builtin's method: o.m(..) -/
/-- the value is of that builtin type -/
def tyV (K : PySem.W.Frag) (T : String) (x : V) (H : Hp) : Prop := match x with
  | .str _ => T = "str"
  | .int _ => T = "int"
  | .ref p => (T = "list" ∧ ∃ xs, SqL K H p xs) ∨ (T = "tuple" ∧ ∃ o, K.lookup p = some o ∧ o.cls = .type "tuple" ∧ o.dict = none) ∨
      (T = "dict" ∧ ((∃ kvs, H p = some (.dK kvs)) ∨ ∃ kvs, H p = some (.dT kvs))) ∨ (T = "set" ∧ ∃ S n, H p = some (.set S n))
  | _ => False
theorem tyV_is {pins : List (Addr × Obj)} {σ : St} {H : Hp} {s : Shared} {T : String} {x : V} {v : Value} (I : Inv X pins σ H s) (r : RelV x v) (ty : tyV X.K T x H) :
    s.TypeIs v T ∧ ∀ a, v = .ref a → ∃ ob, s.heap.get? a = some ob ∧ ob.dict = none := by
  cases x with
  | str z =>
    obtain ⟨t, rfl⟩ := r
    cases (show T = "str" from ty)
    exact ⟨typeIs_str s z t, fun _ e => nomatch e⟩
  | int i =>
    obtain ⟨t, rfl⟩ := r
    cases (show T = "int" from ty)
    exact ⟨typeIs_int s i t, fun _ e => nomatch e⟩
  | ref p =>
    cases r
    rcases ty with ⟨rfl, xs, hq⟩ | ⟨rfl, o, hk, hc, hd⟩ | ⟨rfl, hk⟩ | ⟨rfl, S, n, hk⟩
    · obtain ⟨its, _, pl, _⟩ := I.list hq
      refine ⟨pl.isList.typeIs, fun a e => ?_⟩
      cases e
      obtain ⟨o, n, e, c, hd, _⟩ := pl
      exact ⟨o, e, hd⟩
    · refine ⟨⟨o, I.kIn p o hk, hc⟩, fun a e => ?_⟩
      cases e
      exact ⟨o, I.kIn _ o hk, hd⟩
    · have z : ∃ o, s.heap.get? p = some o ∧ o.ExactDict := by
        rcases hk with ⟨kvs, hk⟩ | ⟨kvs, hk⟩
        · obtain ⟨_, _, _, _, o, _, _, e, ex, _⟩ := I.hok p _ hk
          exact ⟨o, e, ex⟩
        · obtain ⟨_, _, _, _, o, _, _, e, ex, _⟩ := I.hok p _ hk
          exact ⟨o, e, ex⟩
      obtain ⟨o, e, ex⟩ := z
      refine ⟨⟨o, e, ex.1⟩, fun a e2 => ?_⟩
      cases e2
      exact ⟨o, e, ex.2.1⟩
    · obtain ⟨o, _, _, _, e, ex, _⟩ := I.hok p _ hk
      refine ⟨⟨o, e, ex.1⟩, fun a e2 => ?_⟩
      cases e2
      exact ⟨o, e, ex.2.1⟩
  | _ => exact False.elim ty
def tBM (K : PySem.W.Frag) (T : String) (r : V → List V → Hp → VK → Prop) (to : TE) (t : TA) : TE := fun σ H Q => to σ H fun x H1 => tyV K T x H1 ∧ t σ H1 fun xs H2 => r x xs H2 Q
variable {o e : Expr} {es : List Expr} {to : TE} {t : TA} {name : Str} {apos cpos : Pos} {T id : String} {r : V → List V → Hp → VK → Prop}
theorem pe_bm (pa : PlainAttrs T) (slot : Slot T name id) (hty : typeOf (.builtin id) = pure (.type "method_descriptor")) (hm : MtR X id r) (ho : PE X o to) (ha : PA X (e :: es) t)
    (hbase : attributeBase o name X.env (eval o X.env) = eval o X.env := by rfl)
    (hfew : ((backTo cpos (starEach (e :: es) X.env)).all (fun x => !x.1) && (backToKw cpos (keywordEach [] X.env)).all (fun x => x.1.isSome)
      && decide ((e :: es).length + ([] : List Keyword).length + (if ([] : List Keyword).isEmpty then 0 else 1) < 30)) = true := by rfl)
    (hline : (apos.endLine == cpos.line) = true := by rfl) (hs : starEach (e :: es) X.env = (false, eval e X.env) :: starEach es X.env := by rfl) (hplain : (backTo cpos (starEach es X.env)).any (·.1) = false := by rfl) :
    PE X (.Call (.Attribute o name apos) (e :: es) [] cpos) (tBM X.K T r to t) := by
  intro pins s σ H Q I h
  refine wpAny_Call_method_late hbase hfew hline rfl (thn (ho pins s σ H _ I h) fun v s1 ⟨x, H1, I1, r1, ty, q1⟩ => ?_)
  obtain ⟨h1, h2⟩ := tyV_is I1 r1 ty
  refine ⟨T, id, pa, slot, hty, h1, h2, ?_⟩
  have hA := ha cpos pins s1 σ H1 _ I1 q1
  rw [hs] at hA ⊢
  refine Calls.callWith_builtin (by show (false || (backTo cpos (starEach es X.env)).any (·.1)) = false; rw [hplain] <;> rfl) (Calls.evalArgs_plain ?_)
  exact thn hA fun us s2 ⟨vs, H2, I2, r2, q2⟩ => hm pins s2 σ H2 x vs v us Q I2 r1 r2 q2
/- xs.append(e), list.index on a module's tuple .. are MtR facts of 06m -/
end
end L2

namespace L2
open PySem PySem.Spec PyProof.Rows

def MtM (X : Cx) (id : String) (r : V → List V → Hp → VK → Prop) : Prop :=
  ∀ (pins : List (Addr × Obj)) (s : Shared) (σ : St) (H : Hp) (x : V) (xs : List V) (v : Value) (us : List Value) (Q : VK), Inv X pins σ H s → RelV x v → Vals xs us → r x xs H Q →
    wpAny (model X.prog X.w) X.A (call (.builtin id) (v :: us)) (EP X pins σ Q) X.xe s

/-! ### lists of values -/
theorem Vals.one : ∀ {x : V} {us : List Value}, Vals [x] us → ∃ u, us = [u] ∧ RelV x u
  | _, _, .cons r .nil => ⟨_, rfl, r⟩
section
variable {X : Cx} {pins : List (Addr × Obj)} {σ : St} {H : Hp} {s : Shared} {l b : Addr} {xs ys zs : List V}

/-! ### the two steps: a tracked list is rewritten, a new list is laid -/
theorem Inv.lset {its its' : List Value} {n : Nat} {f : Array Value → Array Value} {t' : Nat} (I : Inv X pins σ H s) (hH : H l = some (.lst xs))
    (e : s.heap.get? l = some { cls := .type "list", data := .seq its.toArray n }) (hf : f its.toArray = its'.toArray) (hv : Vals ys its') (hz : ys.length ≤ sizeLine) :
    Inv X pins σ (upd H l (.lst ys)) { s with heap := s.heap.update l (Obj.mapSeq f), toks := t' } := by
  have q := PySem.IsL.update e f
  rw [hf] at q
  refine I.write (x := l) (e := l) (by rw [hH]; exact trivial) (.inl rfl) (fun b' u hb hu => (Heap.get?_update_other s.heap (Obj.mapSeq f) (Ne.symm hb)).trans hu) ⟨_, q⟩ ?_
  exact ⟨hz, its', _, hv, q⟩
theorem Inv.lnew {its : List Value} {t' : Nat} (I : Inv X pins σ H s) (hv : Vals ys its) (hz : ys.length ≤ sizeLine) :
    Inv X pins σ (upd H s.heap.objs.size (.lst ys)) { s with heap := s.heap.push { cls := .type "list", data := .seq its.toArray }, toks := t' } :=
  I.laid (fun _ _ q => Heap.get?_push_of_some _ q) (Nat.le_refl _) ⟨hz, its, 0, hv, Heap.get?_push_size _ rfl⟩
theorem Inv.fresh (I : Inv X pins σ H s) : H s.heap.objs.size = none := I.hok.fresh (Nat.le_refl _)
theorem Inv.lstM (I : Inv X pins σ H s) (hH : H l = some (.lst xs)) : xs.length ≤ sizeLine ∧ ∃ (its : List Value) (n : Nat), Vals xs its ∧ xs.length = its.length ∧ s.heap.get? l = some { cls := .type "list", data := .seq its.toArray n } := by
  obtain ⟨z, its, n, r, e⟩ := I.hok l _ hH
  exact ⟨z, its, n, r, r.length, e⟩

theorem notLongL {n : Nat} (h : n ≤ sizeLine) : Builtin.List.listTooLong n = false := by
  unfold Builtin.List.listTooLong
  exact decide_eq_false (by omega)
end

section
variable {X : Cx}

/-! ### methods -/
def rAppend : V → List V → Hp → VK → Prop := fun x vs H Q => ∃ l xs y, x = .ref l ∧ vs = [y] ∧ H l = some (.lst xs) ∧ xs.length < sizeLine ∧ Q .non (upd H l (.lst (xs ++ [y])))
theorem mt_append : MtM X "list.append" rAppend := by
  intro pins s σ H x vs v us Q I rx rv h
  obtain ⟨l, xs, y, rfl, rfl, hH, hz, q⟩ := h
  cases rx
  obtain ⟨u, rfl, ru⟩ := rv.one
  obtain ⟨z, its, n, r, hl, e⟩ := I.lstM hH
  refine call_meets F.slot_list_append ⟨_, e, rfl⟩ F.entry_list_append (F.args_list_append_2 _ _) (PySem.list_append l its.toArray n u (by rw [List.size_toArray]; omega)) ⟨e, ?_⟩
  refine ⟨.non, _, I.lset (its' := its ++ [u]) hH e (by simp) (r.append (.cons ru .nil)) ?_, rfl, q⟩
  rw [List.length_append, List.length_singleton]
  omega

def rExtend : V → List V → Hp → VK → Prop := fun x vs H Q => ∃ l b xs zs, x = .ref l ∧ vs = [.ref b] ∧ H l = some (.lst xs) ∧ H b = some (.lst zs) ∧ xs.length + zs.length ≤ sizeLine ∧ Q .non (upd H l (.lst (xs ++ zs)))
theorem mt_extend : MtM X "list.extend" rExtend := by
  intro pins s σ H x vs v us Q I rx rv h
  obtain ⟨l, b, xs, zs, rfl, rfl, hH, hB, hz, q⟩ := h
  cases rx
  obtain ⟨u, rfl, ru⟩ := rv.one
  cases ru
  obtain ⟨z, its, n, r, hl, e⟩ := I.lstM hH
  obtain ⟨z2, its2, n2, r2, hl2, e2⟩ := I.lstM hB
  have hsz : its.toArray.size + its2.toArray.size ≤ sizeLine := by rw [List.size_toArray, List.size_toArray]; omega
  have hlong : ¬ (!its.toArray.isEmpty && Builtin.List.listTooLong (its.toArray.size + its2.toArray.size)) = true := by
    rw [notLongL hsz, Bool.and_false]
    exact Bool.false_ne_true
  refine call_meets F.slot_list_extend ⟨_, e, rfl⟩ F.entry_list_extend (F.args_list_extend_2 _ _)
    (AutoSeq1.list_extend_list_list_0 l its.toArray n b its2.toArray n2 hlong (by rw [List.size_toArray]; omega) (by omega)) ⟨e, e2, ?_⟩
  refine ⟨.non, _, I.lset (its' := its ++ its2) hH e (by simp) (r.append r2) ?_, rfl, q⟩
  rw [List.length_append]
  omega

/-! ### list + list, list += list, list * int -/
def rCat : R2 := fun x y H Q => ∃ l b xs zs, x = .ref l ∧ y = .ref b ∧ H l = some (.lst xs) ∧ H b = some (.lst zs) ∧ xs.length + zs.length ≤ sizeLine ∧ ∀ p, H p = none → Q (.ref p) (upd H p (.lst (xs ++ zs)))
theorem op_cat : OpR X (binaryOp .Add) rCat := by
  intro pins s σ H x y v u Q I rx ry h
  obtain ⟨l, b, xs, zs, rfl, rfl, hH, hB, hz, q⟩ := h
  cases rx
  cases ry
  obtain ⟨z, its, n, r, hl, e⟩ := I.lstM hH
  obtain ⟨z2, its2, n2, r2, hl2, e2⟩ := I.lstM hB
  refine PySem.P.add_list e e2 ?_ (by rw [List.size_toArray, List.size_toArray]; omega)
  have ea : its.toArray ++ its2.toArray = (its ++ its2).toArray := by simp
  rw [ea]
  exact ⟨.ref _, _, I.lnew (t' := s.toks) (r.append r2) (by rw [List.length_append]; omega), rfl, q _ I.fresh⟩
/-! ### del xs[i] -/
end

/-! ### xs[a:b] = ys -/
section
variable {prog : Program} {w : World} {A : Around} {E : Value → Shared → Prop} {s : Shared}
set_option maxRecDepth 100000 in
end

section
variable {X : Cx}
end
end L2

namespace Att
open PySem PySem.W PySem.Calls PyProof.Rows

/-! ### the script -/
theorem ints_of_wellAll {P : Params} {h : Heap} : ∀ (ns : List Int) (vs : List Value), WellAll P h vs (ns.map WData.int) → IntsAre vs ns := by
  intro ns
  induction ns with
  | nil =>
    intro vs w
    rw [List.map_nil] at w
    cases w
    exact .nil
  | cons n ns ih =>
    intro vs w
    rw [List.map_cons] at w
    cases w with
    | cons a b =>
      cases a
      exact .cons _ _ (ih _ b)

theorem script_of {l : OpenLaw} {n : Nat} (hn : l.most = some n) {P : Params} {h : Heap} {args : List WData} {vals : List Value}
    (hpre : l.row.toRowW.claim.pre args = true) (hwl : WellAll P h vals args) :
    ∃ a vs ns, vals = [Value.ref a] ∧ args = [WData.list (ns.map WData.int)] ∧ h.get? a = some { cls := .type "list", data := .seq vs.toArray } ∧ IntsAre vs ns ∧ ns.length ≤ n := by
  have hsh : WShape.hasAll [] args [.list .int] = true := (pre_splitW hpre).1
  have hc : l.pre.holds [] { args := args } = true := (pre_splitW hpre).2
  obtain ⟨d, r, rfl, h1, h2⟩ := hasAllW_cons hsh
  obtain rfl := hasAllW_nil h2
  obtain ⟨xs, rfl, h3⟩ := hasW_list h1
  obtain ⟨ns, rfl⟩ := items_int h3
  have hlen : ns.length ≤ n := by
    unfold OpenLaw.pre at hc
    have h4 : (WTm.not (.lt (.lit (.int (n : Int))) (.len (.arg 0)))).holds [] { args := [.list (ns.map .int)] } = true := by
      have h4 := (holds_andW hc).1
      rw [hn] at h4
      exact h4
    have h5 := condW_of h4 (w_not (w_lt w_lit (w_len_list (w_arg rfl))))
    rw [List.length_map] at h5
    refine Nat.le_of_not_lt fun q => ?_
    have q' : (n : Int) < ((ns.length : Nat) : Int) := by omega
    first
      | (rw [decide_eq_true q'] at h5; exact absurd h5 (by decide))
      | (simp at h5; omega)
  cases hwl with
  | cons w1 w2 =>
    cases w2
    cases w1 with
    | list ho hall => exact ⟨_, _, ns, rfl, rfl, ho, ints_of_wellAll ns _ hall, hlen⟩

theorem post_true (l : OpenLaw) (args : List WData) : l.row.toRowW.claim.post args (.bool true) args = true :=
  postW_of (r := l.row.toRowW) (X := (true == true))
    (show WShape.has [] (.bool true) .bool = true by first | rfl | decide | simp [WShape.has, WShape.arms, WShape.armsAll])
    (show (WTm.eq .res (.lit (.bool true))).value [] { args := args, res := some (.bool true), after := args } = some (.bool (true == true)) from w_eq_bool (w_res rfl) w_lit) rfl

/-! ### the attachment: holds_open's last premise (the goal 'hc' behind k_head) from a wpAny of the law's body -/
/-- the same from a codeAny of the CALL (for a layer whose function contracts speak of calls) -/
theorem attach_call {l : OpenLaw} {n : Nat} {q : Program} {loose : List Str} {XP : (Str → Option Value) → Heap → Prop} {YP : World → Heap → Prop} {d : DefRec}
    (hn : l.most = some n) (hdf : d.params.defaults = [])
    (call : ∀ (w : World) (s₀ s₁ : Shared) (mg mb : Str → Option Value) (fa : Addr) (o : Obj) (pm cd doc : Value) (a : Addr) (vs : List Value) (ns : List Int),
      Ground q loose [] XP w s₀ mg mb s₁.heap → YP w s₁.heap →
      s₁.heap.get? fa = some o → o.data = .func (docDef d.name d.params d.body d.scope pm cd doc) → s₁.heap.CodeRec cd d.name → mg d.name = some (.ref fa) →
      s₁.heap.get? a = some { cls := .type "list", data := .seq vs.toArray } → IntsAre vs ns → ns.length ≤ n → s₁.gens = #[] →
      codeAny (model l.prog w) callerA (.call (.ref fa) ⟨[.ref a], []⟩) (fun r s' => r = .ok (.ret (.bool true)) ∧ OldK s₁.heap s'.heap ∧ s'.os = s₁.os ∧ AllBare s'.gens) s₁) :
    WalkO q loose XP YP l.row.toRowW d [] (fun f vs => PySem.call f vs) := by
  intro w s₀ s₁ mg mb G Y fa o pm cd doc dV kV ho hd hcd hD hmg hg args vals as hpre hlay hrd hwl hlo
  obtain rfl : dV = .none := Dflts.none hD hdf
  obtain rfl : kV = .none := Dflts.noKw hD
  obtain ⟨a, vs, ns, rfl, rfl, hobj, hints, hlen⟩ := script_of hn hpre hwl
  refine enter_call (codeAny_mono (call w s₀ s₁ mg mb fa o pm cd doc a vs ns G Y ho (fd_plain hd) hcd hmg hobj hints hlen hg) fun r s' hq => ?_)
  obtain ⟨rfl, h2, h3, h4⟩ := hq
  exact ⟨.inl ⟨.bool true, .bool true, [], rfl, fun _ => rfl, .bool true, post_true l _, fun _ => ⟨List.Pairwise.nil, fun _ hm => (nomatch hm)⟩⟩, h2, h3, h4⟩

/-! ### rules over ANY heap (no ledger) from facts about the written part K: the library's own take a ledger (News) for what they write -/
section
variable {prog : Program} {w : World} {A : Around} {E : Value → Shared → Prop} {s : Shared} {K : Frag}

/-! the whole heap as the ledger: makes every rule that writes through a ledger a rule over any heap -/
end
end Att

namespace L2
open PySem PySem.Spec PyProof.Rows

theorem vals_ints : ∀ {vs : List Value} {ns : List Int}, IntsAre vs ns → Vals (ns.map V.int) vs
  | _, _, .nil => .nil
  | _, _, .cons n t h => .cons ⟨t, rfl⟩ (vals_ints h)

end L2

namespace L2
open PySem PySem.Spec PyProof.Rows

end L2

/- THE LAST THEOREM (shape; LID, My.* are yours):
   My.Adr: a structure of the addresses that your layer names (classes, functions); My.Txt K t: a structure (Prop) of the equations over K;
   My.txt_mk : {K} {implicit addresses ..} (e1 : nsIn K mainGlobals "law" = some (some (.ref f))) (e2 : K.lookup f = some ⟨oc, od, .func (fnOf "law" "law" params body scope dV kV doc pm an cdv ct), sl⟩) (e3 : codeIn K cdv "law" = true) .. : ∃ t, My.Txt K t

set_option maxRecDepth 100000 in
set_option maxHeartbeats 0 in
theorem PySem.Challenge.cw_LID_holds : PySem.Challenge.rw_LID.Holds := by
  w_on; o_law; k_head; (case hw => w_witness2)
  k_fill
  refine L2.walk_of (l := PySem.Challenge.rw_LID) (n := 63) (k := 40) (x := "script") (CX := fun w => ..) (sp := fun _ => My.sp_law) rfl (by decide) rfl ⟨rfl, by decide, by decide⟩ (fun w h Y => PySem.W.kIn_of Y) ?F ?S ?C
  case F =>
    intro w mg fa h KX G hmg
    have T : ∃ t, My.Txt (L2.KOf KX) t := by
      dsimp only [L2.KOf]                          -- K must stand as «<heap const> w.params» for k_is
      refine' My.txt_mk ?e1 ?e2 ?e3 ..
      (case e1 => PySem.W.k_is)                    -- in the order: a name -> its address -> its object -> its parts
      (case e2 => PySem.W.k_is)
      ..
    obtain ⟨t, T⟩ := T
    have e0 := hmg.symm.trans (PySem.W.mg_of KX G T.law)
    cases e0                                       -- fa is the law's own address
    exact ⟨_, fun s u => .of_eq rfl, fun base kb nb => My.law_fn T kb nb⟩     -- if «.of_eq rfl» comes too early: refine' ⟨_, ?b, fun base kb nb => My.law_fn T kb nb⟩; exact fun s u => .of_eq rfl
  case S => exact fun w H a ns hl hO hS => ..
  case C => exact ..
(the tactic k_is has no namespace: write k_is) -/

/-! SHORT WORDS over the layer: a def of the text, its body, what a loop and a test want. -/
namespace L2
open PySem PySem.Spec PyProof.Rows

/-! ### the text by places -/
def defArgs (s : Stmt) : Arguments := match s with
  | .FunctionDef _ a _ _ _ _ _ _ _ _ => a
  | _ => { posonlyargs := [], args := [], vararg := none, kwonlyargs := [], kw_defaults := [], kwarg := none, defaults := [] }
def defBody (s : Stmt) : List Stmt := match s with
  | .FunctionDef _ _ b _ _ _ _ _ _ _ => b
  | _ => []
def defScope (s : Stmt) : Scope := match s with
  | .FunctionDef _ _ _ _ _ _ sc _ _ _ => sc
  | _ => { kind := .function, names := [], isGenerator := false, isCoroutine := false }

/-! ### no exception leaves a def -/
abbrev CX0 : CXT := fun _ _ _ _ _ _ => False
abbrev E0 : XK := fun _ _ _ => False
theorem pass0 {X : Cx} : Passes CX0 X E0 := fun _ _ _ _ _ _ _ h => h.elim

/-! ### a def (or method) of the text as it stands behind the top -/
structure Fun (K : PySem.W.Frag) (x qual : Str) (st : Stmt) (f : Addr) (fd : FuncData) : Prop where
  ex : ∃ (oc : Value) (od : Option Addr) (kV doc pm : Value) (an : Option Addr) (cdv ct : Value) (osl : Array (Option Value)),
    fd = PySem.W.fnOf x qual (defArgs st) (defBody st) (defScope st) .none kV doc pm an cdv ct ∧ K.lookup f = some ⟨oc, od, .func fd, osl⟩ ∧ PySem.W.codeIn K cdv qual = true
  kp : PySem.W.keepIn K (.ref f) = true
section
variable {P : Program} {w : World} {K : PySem.W.Frag} {mg : Str → Option Value} {base : Heap}
/-- THE RULE for a def: its body as a term of rules, and the reading of that term -/
theorem Fun.ok {x qual : Str} {st : Stmt} {f : Addr} {fd : FuncData} {N ps : List Str} {k : Nat} {sp : Sp} (F : Fun K x qual st f fd) (S : FnScope N ps (defScope st)) (len : ∀ vs H Q E, sp vs H Q E → vs.length = ps.length)
    (hbody : ∀ (cdv : Value) (A : Around) (outer : List Env) (s : Shared) (H : Hp) (vs : List V) (Q : VK) (E : XK), Room k (A.deeper (envOfC qual (defScope st) s.heap.objs.size f cdv)) → sp vs H Q E →
      ∃ t, PSs (cxOf CX0 P w K mg base N qual (defScope st) f cdv A outer s H E).nox (defBody st) t ∧ t { nx := fun _ H' => Q .non H', rt := Q } (start N vs) H) : FnOk P w K mg base CX0 (k + 1) f fd ps sp := by
  obtain ⟨oc, od, kV, doc, pm, an, cdv, ct, osl, rfl, lk, hcd⟩ := F.ex
  refine fn_of lk hcd S len fun A outer s H vs Q E hr hsp => ?_
  obtain ⟨t, h, q⟩ := hbody cdv A outer s H vs Q E hr hsp
  exact ⟨t, h.nox, q⟩
/-- how its arguments bind (no defaults): h is «fun _ _ _ _ _ _ us hl => match us, hl with | [_, _], _ => rfl», one _ a parameter -/
theorem Fun.binds {x qual : Str} {st : Stmt} {f : Addr} {fd : FuncData} {ps : List Str} (F : Fun K x qual st f fd)
    (h : ∀ (kV doc pm : Value) (an : Option Addr) (cdv ct : Value) (us : List Value), us.length = ps.length → bindArgs (PySem.W.fnOf x qual (defArgs st) (defBody st) (defScope st) .none kV doc pm an cdv ct) ⟨us, []⟩ = pure (ps.zip us)) : Binds K fd ps [] := by
  obtain ⟨oc, od, kV, doc, pm, an, cdv, ct, osl, rfl, lk, hcd⟩ := F.ex
  exact .all (h kV doc pm an cdv ct)
theorem fun_mk {x qual : Str} {st : Stmt} {f : Addr} {oc : Value} {od an : Option Addr} {osl : Array (Option Value)} {kV doc pm cdv ct : Value} (l : K.lookup f = some ⟨oc, od, .func (PySem.W.fnOf x qual (defArgs st) (defBody st) (defScope st) .none kV doc pm an cdv ct), osl⟩)
    (c : PySem.W.codeIn K cdv qual = true) (k : PySem.W.keepIn K (.ref f) = true) : Fun K x qual st f (PySem.W.fnOf x qual (defArgs st) (defBody st) (defScope st) .none kV doc pm an cdv ct) := ⟨⟨oc, od, kV, doc, pm, an, cdv, ct, osl, rfl, l, c⟩, k⟩
end
theorem small1000 {n : Nat} (h : n ≤ 1000) : n < sizeLine := Nat.lt_of_le_of_lt h (by decide)

/-! ### expressions in short: the name that stands in the i-th slot -/
section
variable {X : Cx}
theorem pv (i : Nat) {x : Str} {pos : Pos} (hN : X.N[i]? = some x := by rfl) (hv : Vis X.env.scope x := by first | exact Or.inl rfl | exact Or.inr (Or.inl rfl) | exact Or.inr (Or.inr rfl)) (hd : (x == ("__debug__" : Str)) = false := by decide)
    (hcd : (x == ("__classdict__" : Str)) = false := by decide) : PE X (.Name x pos) (tVar i) := pe_var hN hv hd hcd
end

/-! ### tests -/
theorem iteF {A B : Prop} (h : B) : if false = true then A else B := by
  rw [if_neg Bool.false_ne_true]
  exact h
theorem iteT {A B : Prop} (h : A) : if true = true then A else B := by
  rw [if_pos rfl]
  exact h
theorem ite2 {c A B : Prop} [Decidable c] (h1 : c → A) (h2 : ¬ c → B) : if c then A else B := by
  by_cases h : c
  · rw [if_pos h]
    exact h1 h
  · rw [if_neg h]
    exact h2 h
theorem iteNS {c A B : Prop} [Decidable c] (hc : c) (h : B) : if (!decide c) = true then A else B := by
  rw [decide_eq_true hc]
  exact iteF h

end L2

set_option maxRecDepth 100000
set_option maxHeartbeats 4000000
namespace L2
open PySem PySem.Spec PyProof.Rows

/-! ### heaps: what is tracked stays, but for the tables of code, which may grow -/
/-- what is known of a code object that a table names: it is a record with a name -/
def codeP (c : Addr) : Heap → Prop := fun h => ∃ (o : Obj) (vs : Array Value) (q : Str) (t : Nat), h.get? c = some o ∧ o.data = .fields vs ∧ vs[1]? = some (.str q t)
/-- a table of code: all that it names is tracked -/
def TabOk (H : Hp) (P : Addr) : Prop := ∃ ps : Array Value, H P = some (.tbl ps) ∧ TriplesOk ps.toList ∧ ∀ pos : Pos, codeAmong pos ps.toList = none ∨ ∃ c : Addr, codeAmong pos ps.toList = some (.ref c) ∧ H c = some (.ext (codeP c))
def Kp (H H' : Hp) (b : Addr) : HO → Prop
  | .tbl _ => (∃ ps, H' b = some (.tbl ps)) ∧ (TabOk H b → TabOk H' b)
  | o => H' b = some o
/-- all that was tracked is as it was; tables of code may have grown -/
def Same (H H' : Hp) : Prop := ∀ b o, H b = some o → Kp H H' b o
theorem Kp.of {H H' : Hp} {b : Addr} {o : HO} (h : H b = some o) (e : H' b = some o) (hc : ∀ c, H c = some (.ext (codeP c)) → H' c = some (.ext (codeP c))) : Kp H H' b o := by
  cases o
  case tbl ps =>
    refine ⟨⟨ps, e⟩, fun ⟨qs, hq, tr, hp⟩ => ?_⟩
    rw [h] at hq
    cases hq
    exact ⟨_, e, tr, fun pos => (hp pos).imp id fun ⟨c, z1, z2⟩ => ⟨c, z1, hc c z2⟩⟩
  all_goals exact e
theorem same_of {H H' : Hp} (h : ∀ b o, H b = some o → H' b = some o) : Same H H' := fun b o e => Kp.of e (h b o e) fun c z => h c _ z
theorem Same.refl (H : Hp) : Same H H := same_of fun _ _ h => h
theorem Same.trans {H H1 H2 : Hp} (a : Same H H1) (b : Same H1 H2) : Same H H2 := fun c o h => by
  have z := a c o h
  cases o
  case tbl ps =>
    obtain ⟨⟨qs, hq⟩, k⟩ := z
    obtain ⟨q2, k2⟩ := b c _ hq
    exact ⟨q2, fun t => k2 (k t)⟩
  all_goals exact b c _ z
theorem Kp.some {H H' : Hp} {b : Addr} {o : HO} (k : Kp H H' b o) : ∃ u, H' b = some u := by
  cases o
  case tbl ps => exact ⟨_, k.1.choose_spec⟩
  all_goals exact ⟨_, k⟩
theorem Same.free {H H' : Hp} (e : Same H H') {l : Addr} (h : H' l = Option.none) : H l = Option.none := by
  cases q : H l with
  | none => rfl
  | some o =>
    obtain ⟨u, z⟩ := (e l o q).some
    rw [z] at h
    cases h
theorem Same.tab {H H' : Hp} {P : Addr} (e : Same H H') (t : TabOk H P) : TabOk H' P := by
  obtain ⟨ps, h, _⟩ := id t
  exact (e _ _ h).2 t
theorem codeAmong_grow {pos pos' : Pos} {c : Value} (l : List Value) (h : TriplesOk l) : codeAmong pos (l ++ [rawInt pos'.line, rawInt pos'.col, c]) = codeAmong pos l ∨ codeAmong pos (l ++ [rawInt pos'.line, rawInt pos'.col, c]) = some c := by
  fun_induction TriplesOk l with
  | case1 =>
    by_cases hc : ((pos'.line : Int) == (pos.line : Int) && (pos'.col : Int) == (pos.col : Int)) = true
    · exact .inr (by simp only [List.nil_append, codeAmong, rawInt]; rw [if_pos hc])
    · exact .inl (by simp only [List.nil_append, codeAmong, rawInt]; rw [if_neg hc])
  | case2 a t b u x rest ih =>
    simp only [List.cons_append, codeAmong]
    split
    · exact .inl rfl
    · exact ih h
  | case3 => exact h.elim
end L2

set_option maxRecDepth 100000
set_option maxHeartbeats 4000000
namespace L2
open PySem PySem.Spec PyProof.Rows

/-! ### A. List comprehensions of one clause -/
/-- a loop in the machine's monad whose every step is pure -/
theorem forIn_all {α β : Type} (g : α → β → β) {f : α → β → Sem (ForInStep β)} : ∀ (l : List α) (b : β), (∀ x ∈ l, ∀ c, f x c = pure (ForInStep.yield (g x c))) →
    forIn l b f = (pure (l.foldl (fun c x => g x c) b) : Sem β)
  | [], b, _ => by simp only [List.forIn_nil, List.foldl_nil]
  | x :: r, b, h => by
    rw [List.forIn_cons, h x List.mem_cons_self b, pure_bind]
    exact forIn_all g r (g x b) fun y hy c => h y (List.mem_cons_of_mem _ hy) c

/-- the cells that a block takes over from its def -/
def clOf (sc : Scope) (env : Env) : List (Str × Addr) :=
  sc.names.foldl (fun cs y => if (y.2 == NameKind.free) = true then (y.1, (env.cells.lookup y.1).getD 0) :: cs else cs) []
theorem clOf_eq {sc : Scope} {env : Env} (h : ∀ y ∈ sc.names, y.2 = .free → ∃ c, env.cells.lookup y.1 = some c) : closureFor sc env = pure (clOf sc env) := by
  simp only [closureFor]
  rw [forIn_all (fun (y : Str × NameKind) (cs : List (Str × Addr)) => if (y.2 == NameKind.free) = true then (y.1, (env.cells.lookup y.1).getD 0) :: cs else cs) sc.names [] (fun y hy c => by
    obtain ⟨n, k⟩ := y
    by_cases hk : k = .free
    · obtain ⟨a, ha⟩ := h _ hy hk
      subst hk
      simp only [cellOf, ha, beq_self_eq_true, if_true, pure_bind, Option.getD_some]
    · have z : (k == NameKind.free) = false := by simpa using hk
      simp only [z, Bool.false_eq_true, if_false])]
  rfl
theorem foldl_mem {α β : Type} {P : β → Prop} {g : α → List β → List β} : ∀ (l : List α) (b : List β), (∀ p ∈ b, P p) → (∀ x ∈ l, ∀ c, (∀ p ∈ c, P p) → ∀ p ∈ g x c, P p) → ∀ p ∈ l.foldl (fun c x => g x c) b, P p
  | [], b, hb, _ => hb
  | x :: r, b, hb, h => foldl_mem r (g x b) (h x List.mem_cons_self b hb) fun y hy => h y (List.mem_cons_of_mem _ hy)
theorem clOf_mem {sc : Scope} {env : Env} (h : ∀ y ∈ sc.names, y.2 = .free → ∃ c, env.cells.lookup y.1 = some c) : ∀ p ∈ clOf sc env, env.cells.lookup p.1 = some p.2 := by
  refine foldl_mem (P := fun p : Str × Addr => env.cells.lookup p.1 = some p.2) sc.names [] (fun _ z => nomatch z) fun y hy c hc p hp => ?_
  by_cases hk : y.2 = .free
  · have z : (y.2 == NameKind.free) = true := by simpa using hk
    rw [if_pos z] at hp
    rcases List.mem_cons.mp hp with e | hp
    · obtain ⟨a, ha⟩ := h y hy hk
      rw [e]
      show env.cells.lookup y.1 = some ((env.cells.lookup y.1).getD 0)
      rw [ha]
      rfl
    · exact hc p hp
  · have z : ¬ (y.2 == NameKind.free) = true := by simpa using hk
    rw [if_neg z] at hp
    exact hc p hp
theorem foldl_keep {α β : Type} {q : β} {g : α → List β → List β} (hg : ∀ x c, q ∈ c → q ∈ g x c) : ∀ (l : List α) (b : List β), q ∈ b → q ∈ l.foldl (fun c x => g x c) b
  | [], _, hb => hb
  | x :: r, b, hb => foldl_keep hg r (g x b) (hg x b hb)
theorem clOf_has {sc : Scope} {env : Env} {x : Str} {c : Addr} (hx : (x, NameKind.free) ∈ sc.names) (hc : env.cells.lookup x = some c) : (x, c) ∈ clOf sc env := by
  have kp : ∀ (y : Str × NameKind) (cs : List (Str × Addr)), (x, c) ∈ cs → (x, c) ∈ (if (y.2 == NameKind.free) = true then (y.1, (env.cells.lookup y.1).getD 0) :: cs else cs) := fun y cs h => by
    by_cases z : (y.2 == NameKind.free) = true
    · rw [if_pos z]
      exact List.mem_cons_of_mem _ h
    · rw [if_neg z]
      exact h
  unfold clOf
  obtain ⟨l1, l2, e⟩ := List.append_of_mem hx
  rw [e, List.foldl_append, List.foldl_cons]
  refine foldl_keep (g := fun (y : Str × NameKind) (cs : List (Str × Addr)) => if (y.2 == NameKind.free) = true then (y.1, (env.cells.lookup y.1).getD 0) :: cs else cs) kp l2 _ ?_
  rw [if_pos (by simp)]
  rw [hc]
  exact List.mem_cons_self
theorem lookup_some {β : Type} {x : Str} {b : β} : ∀ {l : List (Str × β)}, (x, b) ∈ l → ∃ c, l.lookup x = some c
  | [], h => nomatch h
  | (y, d) :: r, h => by
    by_cases e : x = y
    · subst e
      exact ⟨d, by rw [List.lookup_cons_self]⟩
    · have z : (x == y) = false := by simpa using e
      rcases List.mem_cons.mp h with q | q
      · cases q
        exact absurd rfl e
      · obtain ⟨c, hc⟩ := lookup_some q
        exact ⟨c, by rw [List.lookup_cons, z]; exact hc⟩
theorem clOf_look {sc : Scope} {env : Env} (h : ∀ y ∈ sc.names, y.2 = .free → ∃ c, env.cells.lookup y.1 = some c) {x : Str} {c : Addr} (e : (clOf sc env).lookup x = some c) : env.cells.lookup x = some c :=
  clOf_mem h _ (PySem.mem_of_lookup e)
theorem clOf_at {sc : Scope} {env : Env} (h : ∀ y ∈ sc.names, y.2 = .free → ∃ c, env.cells.lookup y.1 = some c) {x : Str} {c : Addr} (hx : (x, NameKind.free) ∈ sc.names) (hc : env.cells.lookup x = some c) : (clOf sc env).lookup x = some c := by
  obtain ⟨d, hd⟩ := lookup_some (clOf_has hx hc)
  have := clOf_look h hd
  rw [hc] at this
  cases this
  exact hd

/-- a block's scope as it is run, by its def's scope -/
def relS (sc sc0 : Scope) : Scope :=
  { sc with names := sc.names.map fun (n, k) => if (k == .free && sc0.kind == .function && sc0.names.lookup n == some .cell) then (n, .cell) else (n, k) }
/-- what a comprehension's table must be: n of its own names ahead in N', behind them the def's slots kp -/
def lcOk (sc0 sc : Scope) (XN N' : List Str) (n : Nat) (kp : List Nat) : Bool :=
  decide (sc.kind = .function) && sc.names.all (fun y => decide (y.2 ≠ .cell)) && sc.names.all (fun y => decide (y.2 = .local → sc.names.lookup y.1 = some .local)) &&
  sc.names.all (fun y => decide (y.2 = .free → sc0.names.lookup y.1 = some .cell)) && decide (N'.length = n + kp.length) &&
  (List.range kp.length).all (fun i => match N'[n + i]?, kp[i]? with
    | some x, some j => decide (XN[j]? = some x ∧ (x, NameKind.free) ∈ sc.names ∧ ((relS sc sc0).names.lookup x = some .cell ∨ (relS sc sc0).names.lookup x = some .free))
    | _, _ => false)
theorem lcOk_parts {sc0 sc : Scope} {XN N' : List Str} {n : Nat} {kp : List Nat} (h : lcOk sc0 sc XN N' n kp = true) :
    sc.kind = .function ∧ (∀ y ∈ sc.names, y.2 ≠ .cell) ∧ (∀ y ∈ sc.names, y.2 = .local → sc.names.lookup y.1 = some .local) ∧ (∀ y ∈ sc.names, y.2 = .free → sc0.names.lookup y.1 = some .cell) ∧ N'.length = n + kp.length ∧
    ∀ (i : Nat) (x : Str), N'[n + i]? = some x → ∃ j, kp[i]? = some j ∧ XN[j]? = some x ∧ (x, NameKind.free) ∈ sc.names ∧ ((relS sc sc0).names.lookup x = some .cell ∨ (relS sc sc0).names.lookup x = some .free) := by
  unfold lcOk at h
  simp only [Bool.and_eq_true, List.all_eq_true, decide_eq_true_eq] at h
  obtain ⟨⟨⟨⟨⟨h1, h2⟩, h3⟩, h4⟩, h5⟩, h6⟩ := h
  refine ⟨h1, h2, h3, h4, h5, fun i x hx => ?_⟩
  have hi : i < kp.length := by
    have := (List.getElem?_eq_some_iff.mp hx).1
    omega
  have q := h6 i (List.mem_range.mpr hi)
  rw [hx, List.getElem?_eq_getElem hi] at q
  exact ⟨kp[i], List.getElem?_eq_getElem hi, of_decide_eq_true q⟩

abbrev NoX : Value → Shared → Prop := fun _ _ => False
/-- a comprehension's block running, in the context of its def -/
def blk (X : Cx) (N' : List Str) (sc : Scope) (C : Addr) (fp : List Addr) (pins : List (Addr × Obj)) (s : Shared) (H : Hp) : Cx :=
  { X with N := N', s₀ := s, H₀ := H, env := compEnvC sc (clOf sc X.env) C X.env, outer := X.stack, stack := X.stack, ex := fp, fn := fun _ => false, pn := X.pn ++ pins, xe := NoX }
/-- the tests of a clause, one behind another -/
abbrev lcIfs (cs : List Expr) (env : Env) : Sem Bool := forIn cs true fun c r => if r = true then do let ok ← isTrue c env (eval c env); pure (ForInStep.yield ok) else pure (ForInStep.yield r)
def PTs (X : Cx) (cs : List Expr) (t : TT) : Prop :=
  ∀ (pins : List (Addr × Obj)) (s : Shared) (σ : St) (H : Hp) (Q : Bool → Hp → Prop), Inv X pins σ H s → t σ H Q → wpAny (model X.prog X.w) X.A (lcIfs cs X.env) (TP X pins σ Q) X.xe s
def tNoT : TT := fun _ H Q => Q true H
theorem pts_nil {X : Cx} : PTs X [] tNoT := fun _ _ _ H _ I h => wpAny_tests_nil ⟨H, I, h⟩
theorem pts_one {X : Cx} {c : Expr} {t : TT} (hc : PT X c t) : PTs X [c] t := fun pins s σ H Q I h => wpAny_tests_one (hc pins s σ H Q I h)

theorem lc_loop {prog : Program} {w : World} {A : Around} {R : Result → Shared → Prop} {elt tg iter : Expr} {cs : List Expr} {sc : Scope} {pos : Pos} {it acc : Value} {env : Env} (J : Nat → Shared → Prop)
    (turn : ∀ n s, J n s → wpAny (model prog w) A (pyNext it) (fun r s1 => match r with
      | none => R (.ok .next) s1
      | some v => wpAny (model prog w) A (letOwnedTupleGo tg it v) (fun _ s2 => wpAny (model prog w) A (assign tg env v) (fun _ s3 => wpAny (model prog w) A (lcIfs cs env) (fun ok s4 =>
          if ok = true then wpAny (model prog w) A (eval elt env) (fun x s5 => wpAny (model prog w) A (call (.builtin "list.append") [acc, x]) (fun _ s6 => ∃ m, m < n ∧ J m s6) NoX s5) NoX s4
          else ∃ m, m < n ∧ J m s4) NoX s3) NoX s2) NoX s1) NoX s)
    (n : Nat) (s : Shared) (h : J n s) : codeAny (model prog w) A (.compLoop (.ListComp elt [⟨tg, iter, cs, 0⟩] sc pos) 0 it acc env) R s := by
  refine codeAny_loop rfl J (fun n s hJ => ?_) n h
  show wpAny _ A ((compTurn (.ListComp elt [⟨tg, iter, cs, 0⟩] sc pos) 0 it acc env).onRaise (fun x => do noteFrame x env; theTreesLotGoes x)) _ _ s
  refine wpAny_noted ?_
  rw [compTurn_list]
  have no : ∀ {E : Value → Shared → Prop} (e : Value) (z : Shared), NoX e z → E e z := fun _ _ f => f.elim
  refine wpAny_bind (wpAny_standAt (wpAny_bind (wpAny_mono (turn n s hJ) (fun r s1 h1 => ?_) no)))
  cases r with
  | none => exact wpAny_pure h1
  | some v =>
    refine wpAny_bind (wpAny_mono h1 (fun _ s2 h2 => ?_) no)
    refine wpAny_bind (wpAny_mono h2 (fun _ s3 h3 => ?_) no)
    refine wpAny_bind (wpAny_mono h3 (fun ok s4 h4 => ?_) no)
    cases ok with
    | false => exact wpAny_pure ⟨rfl, h4⟩
    | true =>
      exact wpAny_bind (wpAny_bind (wpAny_mono h4 (fun x s5 h5 => wpAny_bind (wpAny_mono h5 (fun _ s6 h6 => wpAny_pure (wpAny_pure ⟨rfl, h6⟩)) no)) no))

/-- a comprehension from its iterator on: W is the invariant, by the turn, a measure, the list so far, the block's slots, the heap -/
def lcGo (J : It) (g : TG) (tc : TT) (te : TE) (σ0 : St) (H1 : Hp) (Q : VK) : Prop := ∃ W : Nat → Nat → List V → St → Hp → Prop,
  (∃ m, W 0 m [] σ0 H1) ∧ ∀ i m ys σ' H', W i m ys σ' H' → ys.length ≤ sizeLine ∧
    ((J.stop i H' ∧ ∀ p, H' p = none → Q (.ref p) (upd H' p (.lst ys))) ∨
     (J.go i H' ∧ ∃ N : List V → St → Hp → Prop, (∀ ys' σ2 H2, N ys' σ2 H2 → ∃ m', m' < m ∧ W (i + 1) m' ys' σ2 H2) ∧ ∀ x H2, J.yld i H' x H2 → g x σ' H2 fun σ3 H3 => tc σ3 H3 fun b H4 =>
       if b = true then te σ3 H4 fun v H5 => N (ys ++ [v]) σ3 H5 else N ys σ3 H4))
/-- the reading of a comprehension -/
def tLc (n : Nat) (kp : List Nat) (wi : TI) (g : TG) (tc : TT) (te : TE) : TE := fun σ H Q => wi σ H fun J H1 => lcGo J g tc te (List.replicate n none ++ kp.map fun j => (σ[j]?).join) H1 Q

/-- a comprehension over a range, by what holds at each turn -/
theorem lc_range {lo : Int} {k : Nat} {σ0 : St} {H : Hp} {g : TG} {tc : TT} {te : TE} {Q : VK} (Pv : Nat → List V → St → Hp → Prop) (h0 : Pv 0 [] σ0 H) (hz : ∀ i ys σ H, i ≤ k → Pv i ys σ H → ys.length ≤ sizeLine)
    (hs : ∀ i ys σ H, i < k → Pv i ys σ H → g (.int (lo + i)) σ H fun σ3 H3 => tc σ3 H3 fun b H4 => if b = true then te σ3 H4 fun v H5 => Pv (i + 1) (ys ++ [v]) σ3 H5 else Pv (i + 1) ys σ3 H4)
    (hd : ∀ ys σ H, Pv k ys σ H → ∀ p, H p = none → Q (.ref p) (upd H p (.lst ys))) :
    lcGo (Itr lo k) g tc te σ0 H Q := by
  refine ⟨fun i m ys σ H => m = k - i ∧ i ≤ k ∧ Pv i ys σ H, ⟨k, by simp, Nat.zero_le _, h0⟩, ?_⟩
  rintro i m ys σ H ⟨rfl, hi, p⟩
  refine ⟨hz i ys σ H hi p, ?_⟩
  by_cases hlt : i < k
  · refine .inr ⟨hlt, Pv (i + 1), fun ys' σ' H' p' => ⟨k - (i + 1), by omega, rfl, hlt, p'⟩, fun x H' y => ?_⟩
    obtain ⟨e1, e2⟩ := y
    subst e1
    subst e2
    exact hs i ys σ _ hlt p
  · have e : i = k := by omega
    subst e
    exact .inl ⟨Nat.le_refl _, hd ys σ H p⟩
/-- .. over a list that stays as it is -/
theorem lc_list {K : PySem.W.Frag} {a : Addr} {xs : List V} {σ0 : St} {H : Hp} {g : TG} {tc : TT} {te : TE} {Q : VK} (Pv : Nat → List V → St → Hp → Prop) (h0 : Pv 0 [] σ0 H) (hz : ∀ i ys σ H, i ≤ xs.length → Pv i ys σ H → ys.length ≤ sizeLine)
    (hl : ∀ i ys σ H, i ≤ xs.length → Pv i ys σ H → SqL K H a xs)
    (hs : ∀ i x ys σ H, xs[i]? = some x → Pv i ys σ H → g x σ H fun σ3 H3 => tc σ3 H3 fun b H4 => if b = true then te σ3 H4 fun v H5 => Pv (i + 1) (ys ++ [v]) σ3 H5 else Pv (i + 1) ys σ3 H4)
    (hd : ∀ ys σ H, Pv xs.length ys σ H → ∀ p, H p = none → Q (.ref p) (upd H p (.lst ys))) :
    lcGo (Itl K a) g tc te σ0 H Q := by
  refine ⟨fun i m ys σ H => m = xs.length - i ∧ i ≤ xs.length ∧ Pv i ys σ H, ⟨xs.length, by simp, Nat.zero_le _, h0⟩, ?_⟩
  rintro i m ys σ H ⟨rfl, hi, p⟩
  refine ⟨hz i ys σ H hi p, ?_⟩
  have q := hl i ys σ H hi p
  by_cases hlt : i < xs.length
  · refine .inr ⟨⟨xs, xs[i], q, by simp [hlt]⟩, Pv (i + 1), fun ys' σ' H' p' => ⟨xs.length - (i + 1), by omega, rfl, hlt, p'⟩, fun x H' y => ?_⟩
    obtain ⟨e, y⟩ := y
    subst e
    exact hs i x ys σ _ (y xs q) p
  · have e : i = xs.length := by omega
    subst e
    exact .inl ⟨⟨xs, q, Nat.le_refl _⟩, hd ys σ H p⟩

/-- .. over a tuple that stays as it is -/
theorem lc_tup {K : PySem.W.Frag} {a : Addr} {xs : List V} {σ0 : St} {H : Hp} {g : TG} {tc : TT} {te : TE} {Q : VK} (Pv : Nat → List V → St → Hp → Prop) (h0 : Pv 0 [] σ0 H) (hz : ∀ i ys σ H, i ≤ xs.length → Pv i ys σ H → ys.length ≤ sizeLine)
    (hl : ∀ i ys σ H, i ≤ xs.length → Pv i ys σ H → SqT K H a xs)
    (hs : ∀ i x ys σ H, xs[i]? = some x → Pv i ys σ H → g x σ H fun σ3 H3 => tc σ3 H3 fun b H4 => if b = true then te σ3 H4 fun v H5 => Pv (i + 1) (ys ++ [v]) σ3 H5 else Pv (i + 1) ys σ3 H4)
    (hd : ∀ ys σ H, Pv xs.length ys σ H → ∀ p, H p = none → Q (.ref p) (upd H p (.lst ys))) :
    lcGo (Itt K a) g tc te σ0 H Q := by
  refine ⟨fun i m ys σ H => m = xs.length - i ∧ i ≤ xs.length ∧ Pv i ys σ H, ⟨xs.length, by simp, Nat.zero_le _, h0⟩, ?_⟩
  rintro i m ys σ H ⟨rfl, hi, p⟩
  refine ⟨hz i ys σ H hi p, ?_⟩
  have q := hl i ys σ H hi p
  by_cases hlt : i < xs.length
  · refine .inr ⟨⟨xs, xs[i], q, by simp [hlt]⟩, Pv (i + 1), fun ys' σ' H' p' => ⟨xs.length - (i + 1), by omega, rfl, hlt, p'⟩, fun x H' y => ?_⟩
    obtain ⟨e, y⟩ := y
    subst e
    exact hs i x ys σ _ (y xs q) p
  · have e : i = xs.length := by omega
    subst e
    exact .inl ⟨⟨xs, q, Nat.le_refl _⟩, hd ys σ H p⟩

section
variable {X : Cx} {tg iter elt : Expr} {cs : List Expr} {sc sc0 : Scope} {pos : Pos} {wi : TI} {g : TG} {tc : TT} {te : TE} {XN N' : List Str} {n : Nat} {kp : List Nat}

theorem blk_ok {pins : List (Addr × Obj)} {σ : St} {H : Hp} {s : Shared} {fp : List Addr} {C : Addr} (I : Inv X pins σ H s) (hk : sc.kind = .function) (hcell : ∀ y ∈ sc.names, y.2 ≠ .cell)
    (hfr : ∀ y ∈ sc.names, y.2 = .free → ∃ c, X.env.cells.lookup y.1 = some c) (hf : ∀ b ∈ fp, FpOk X pins H b) (hl : ∀ b ∈ fp, b < s.heap.objs.size) (hC : s.heap.objs.size ≤ C) : (blk X N' sc C fp pins s H).Ok where
  mod := I.ok.mod
  kind := hk
  glob := I.ok.glob
  blt := I.ok.blt
  above := hC
  inj := fun x y c h1 h2 => I.ok.inj x y c (clOf_look hfr h1) (clOf_look hfr h2)
  has := fun x hx => by
    have q : ∃ k, (x, k) ∈ sc.names ∧ k = .free := by
      have hx' : (relS sc X.env.scope).names.lookup x = some .cell ∨ (relS sc X.env.scope).names.lookup x = some .free := hx
      have go : ∀ k, (relS sc X.env.scope).names.lookup x = some k → (k = .cell ∨ k = .free) → (x, NameKind.free) ∈ sc.names := fun k e hk' => by
        have hm := PySem.mem_of_lookup e
        obtain ⟨⟨y, ky⟩, hy, ey⟩ := List.mem_map.mp hm
        dsimp only at ey
        split at ey
        · rename_i hc
          cases ey
          have z : ky = .free := by
            simp only [Bool.and_eq_true] at hc
            simpa using hc.1.1
          subst z
          exact hy
        · cases ey
          rcases hk' with z | z
          · exact absurd z (hcell _ hy)
          · subst z
            exact hy
      rcases hx' with e | e
      · exact ⟨_, go _ e (.inl rfl), rfl⟩
      · exact ⟨_, go _ e (.inr rfl), rfl⟩
    obtain ⟨k, hm, rfl⟩ := q
    obtain ⟨c, hc⟩ := hfr _ hm rfl
    exact ⟨c, clOf_at hfr hm hc⟩
  cab := fun x c h => absurd h (by simp [blk])
  hd := I.ok.hd
  frames := I.ok.frames
  stk := .inl rfl
  exf := fun b hb => ⟨Nat.ne_of_lt (Nat.lt_of_lt_of_le (hl b hb) hC), fun x c e => (hf b hb).2.2.2.2.1 x c (clOf_look hfr e)⟩
  bs := I.bs
  bsz := Nat.le_trans I.ok.bsz I.sz
  noex := fun b o e hb => by
    rcases (hf b hb).2.2.2.1 with z | z
    · exact I.ok.noex b o e z
    · exact absurd (Nat.lt_of_lt_of_le (Heap.lt_size e) (Nat.le_trans I.ok.bsz z)) (Nat.lt_irrefl _)
  exfs := fun b hb z => by
    rcases List.mem_cons.mp (I.stkSub b z) with q | q
    · exact (hf b hb).2.1 q
    · exact (hf b hb).2.2.1 q
  funs := I.stack
  frf := I.stkFree
end
end L2

set_option maxRecDepth 100000
set_option maxHeartbeats 4000000
namespace L2
open PySem PySem.Spec PyProof.Rows
section
variable {X : Cx} {tg iter elt : Expr} {cs : List Expr} {sc sc0 : Scope} {pos : Pos} {wi : TI} {g : TG} {tc : TT} {te : TE} {XN N' : List Str} {n : Nat} {kp : List Nat}

theorem blk_start {pins : List (Addr × Obj)} {σ : St} {H : Hp} {s : Shared} {fp : List Addr} {C : Addr} {h1 : Heap} {tk : Nat} {m : Str → Option Value} (I : Inv X pins σ H s) (h0 : X.env.scope = sc0) (hN : X.N = XN) (ok : lcOk sc0 sc XN N' n kp = true)
    (hf : ∀ b ∈ fp, FpOk X pins H b) (hl : ∀ b ∈ fp, b < s.heap.objs.size) (hC : s.heap.objs.size ≤ C) (old : ∀ b o, s.heap.get? b = some o → h1.get? b = some o) (ns : h1.Ns C m) :
    Inv (blk X N' sc C fp pins s H) [] (List.replicate n none ++ kp.map fun j => (σ[j]?).join) H { s with heap := h1, toks := tk } := by
  obtain ⟨o1, o2, o3, o4, o5, o6⟩ := lcOk_parts ok
  subst h0
  subst hN
  have hfr : ∀ y ∈ sc.names, y.2 = .free → ∃ c, X.env.cells.lookup y.1 = some c := fun y hy e => I.ok.has y.1 (.inl (o4 y hy e))
  have below : ∀ b, b < s.heap.objs.size → b ≠ C := fun b hb => Nat.ne_of_lt (Nat.lt_of_lt_of_le hb hC)
  refine ⟨blk_ok I o1 o2 hfr hf hl hC, rfl, I.bare, Un.kept old, ⟨m, ns, fun i x v e1 e2 e3 => ?_⟩, fun x c e => ?_, I.hok.fresh hC, fun x c e => ?_, fun p hp => ?_, I.hok.kept old, ?_⟩
  · have hi : n ≤ i := by
      by_cases z : n ≤ i
      · exact z
      · rw [List.getElem?_append_left (by rw [List.length_replicate]; omega), List.getElem?_replicate] at e2
        split at e2 <;> cases e2
    obtain ⟨j, rfl⟩ : ∃ j, i = n + j := ⟨i - n, by omega⟩
    obtain ⟨q, hq, hx, hm, hkd⟩ := o6 j x e1
    rw [List.getElem?_append_right (by rw [List.length_replicate]; omega), List.length_replicate, Nat.add_sub_cancel_left, List.getElem?_map, hq] at e2
    have e4 : (σ[q]?).join = some v := Option.some.inj e2
    have e2' : σ[q]? = some (some v) := by
      cases z : σ[q]? with
      | none => rw [z] at e4; cases e4
      | some w => rw [z] at e4; cases e4; rfl
    obtain ⟨c, hc⟩ := hfr _ hm rfl
    have kx : X.env.kindOf x = some .cell := o4 _ hm rfl
    obtain ⟨m', hn', hl'⟩ := I.loc
    obtain ⟨u, r, lk⟩ := hl' q x v hx e2' (.inr (.inl kx))
    refine ⟨u, r, .inr ⟨hkd, c, clOf_at hfr hm hc, ?_⟩⟩
    rcases lk with ⟨k, _⟩ | ⟨_, c', hc', hv⟩
    · rw [kx] at k
      cases k
    · rw [hc] at hc'
      cases hc'
      exact hv.keeps old
  · obtain ⟨v, hv⟩ := I.cell x c (clOf_look hfr e)
    exact ⟨v, hv.keeps old⟩
  · exact I.freeC x c (clOf_look hfr e)
  · have hp' : p ∈ X.pn ++ pins := by
      have : p ∈ (X.pn ++ pins) ++ ([] : List (Addr × Obj)) := hp
      rw [List.append_nil] at this
      exact this
    obtain ⟨q1, q2, q3, q4, q5⟩ := I.pin p hp'
    refine ⟨old _ _ q1, q2, below _ (Heap.lt_size q1), fun z => ?_, q5⟩
    rcases List.mem_cons.mp (I.stkSub _ z) with r | r
    · exact q3 r
    · exact q4 r
  · show (List.replicate n none ++ kp.map fun j => (σ[j]?).join).length = N'.length
    rw [List.length_append, List.length_replicate, List.length_map, o5]

/-- the run of a comprehension up to its end; what comes then is asked by fin -/
theorem lc_run {pins : List (Addr × Obj)} {s : Shared} {σ : St} {H : Hp} {Q : VK} {use : Option (Value → Sem Unit)} {Qf : Value → Shared → Prop} (hc : X.calm = true) (hi : PI X tg iter wi) (h0 : X.env.scope = sc0) (hN : X.N = XN) (ok : lcOk sc0 sc XN N' n kp = true)
    (hg : ∀ C fp pins s H, PG (blk X N' sc C fp pins s H) tg g) (ht : ∀ C fp pins s H, PTs (blk X N' sc C fp pins s H) cs tc) (he : ∀ C fp pins s H, PE (blk X N' sc C fp pins s H) elt te) (hs : ∀ x, foldedSetIterable iter X.env x = pure x)
    (I : Inv X pins σ H s) (h : tLc n kp wi g tc te σ H Q)
    (fin : ∀ D C ys H' s', Inv X pins σ (upd H' D (.lst ys)) s' → (∃ m, s'.heap.Ns C m) → FpOk X pins (upd H' D (.lst ys)) C → Q (.ref D) (upd H' D (.lst ys)) → compPost (model X.prog X.w) X.A X.xe use Qf (.ref D) C (.ok .next) s') {pos' : Pos} :
    wpAny (model X.prog X.w) X.A (comprehension (.ListComp elt [⟨tg, iter, cs, 0⟩] sc pos) sc X.env pos' (newList []) false (firstIter [⟨tg, iter, cs, 0⟩] X.env) use) Qf X.xe s := by
  obtain ⟨o1, o2, o3, o4, o5, o6⟩ := lcOk_parts ok
  have hfr : ∀ y ∈ sc.names, y.2 = .free → ∃ c, X.env.cells.lookup y.1 = some c := fun y hy e => I.ok.has y.1 (.inl (by rw [Env.kindOf, h0]; exact o4 y hy e))
  refine wpAny_comprehension_free (use := use) rfl hs (clOf_eq hfr) o1 o3 (thn (hi pins s σ H _ I h) fun v s1 h1 => thn h1 fun itv s2 h2 => ?_)
  obtain ⟨it, fp, tn, J, H2, rfl, I2, T, st2, f2, W, ⟨m0, w0⟩, turn⟩ := h2
  have hl : ∀ b ∈ fp, b < s2.heap.objs.size := fun b hb => by
    obtain ⟨o, e, _⟩ := T.obj 0 _ st2 b hb
    exact Heap.lt_size e
  refine wpAny_newObj_type (wpAny_newFunctionEnv o2 (by intro y hy; simp at hy) (fun h1 ns1 sb1 => ?_) o1)
  dsimp only at ns1 sb1 ⊢
  generalize hG : s2.heap.push { cls := .type "list", dict := none, data := .seq ([] : List Value).toArray } = G at ns1 sb1 ⊢
  have hGs : G.objs.size = s2.heap.objs.size + 1 := by rw [← hG, Heap.size_push]
  have hCl : s2.heap.objs.size ≤ G.objs.size := by omega
  have hDC : s2.heap.objs.size ≠ G.objs.size := by omega
  have old : ∀ b o, s2.heap.get? b = some o → h1.get? b = some o := fun b o e => by
    have lt := Heap.lt_size e
    exact sb1.extBut b o (Nat.ne_of_lt (Nat.lt_of_lt_of_le lt hCl)) (Heap.get?_push_of_some _ (hG ▸ Heap.get?_push_of_some _ e))
  have hD1 : h1.get? s2.heap.objs.size = some { cls := .type "list", data := .seq ([] : List Value).toArray 0 } :=
    sb1.extBut _ _ hDC (Heap.get?_push_of_some _ (hG ▸ Heap.get?_push_size _ rfl))
  have nD2 : H2 s2.heap.objs.size = none := I2.hok.fresh (Nat.le_refl _)
  have nC2 : H2 G.objs.size = none := I2.hok.fresh hCl
  -- the loop from any state that the block may begin with
  have loop : ∀ s3 : Shared, s3 = { s2 with heap := h1, toks := s2.toks + ([] : List (Str × Value)).length } →
      codeAny (model X.prog X.w) X.A (.compLoop (.ListComp elt [⟨tg, iter, cs, 0⟩] sc pos) 0 (.ref it) (.ref s2.heap.objs.size) (compEnvC sc (clOf sc X.env) G.objs.size X.env))
        (compPost (model X.prog X.w) X.A X.xe use Qf (.ref s2.heap.objs.size) G.objs.size) s3 := by
    rintro s3 rfl
    have I3 := blk_start (fp := fp) (C := G.objs.size) (h1 := h1) (tk := s2.toks + ([] : List (Str × Value)).length) I2 h0 hN ok f2 hl hCl old ns1
    have stat : ∀ {H' : Hp} {o : Obj}, (∀ b ∈ fp, H' b = none) → ∀ b ∈ fp, FpOk (blk X N' sc G.objs.size fp pins s2 H2) [(s2.heap.objs.size, o)] H' b := fun hn b hb => by
      have lt := hl b hb
      refine ⟨hn b hb, Nat.ne_of_lt (Nat.lt_of_lt_of_le lt hCl), I3.ok.exfs b hb, .inl hb, (I3.ok.exf b hb).2, fun p hp => ?_⟩
      rcases List.mem_append.mp hp with z | z
      · exact (f2 b hb).2.2.2.2.2 p z
      · have e : p.1 = s2.heap.objs.size := by rw [List.mem_singleton.mp z]
        rw [e]
        exact Nat.ne_of_gt lt
    have pinD : ∀ {σ' : St} {H' : Hp} {s' : Shared} {o : Obj}, Inv (blk X N' sc G.objs.size fp pins s2 H2) [] σ' H' s' → s'.heap.get? s2.heap.objs.size = some o → (∀ v, o.data ≠ .cell v) → H' s2.heap.objs.size = none →
        Inv (blk X N' sc G.objs.size fp pins s2 H2) [(s2.heap.objs.size, o)] σ' H' s' := fun {σ' H' s' o} J' e hd hn => J'.pins_of fun p hp => by
      rw [List.mem_singleton.mp hp]
      exact ⟨e, hn, hDC, fun z => by
        rcases List.mem_cons.mp (I2.stkSub _ z) with r | r
        · exact absurd I2.lt (by rw [← r]; exact Nat.lt_irrefl _)
        · exact I2.nofs (Nat.le_refl _) r, hd⟩
    refine lc_loop (fun k s' => ∃ (i : Nat) (ys : List V) (its : List Value) (c : Nat) (σ' : St) (H' : Hp), Inv (blk X N' sc G.objs.size fp pins s2 H2) [] σ' H' s' ∧ tn i s'.heap ∧ (∀ b ∈ fp, H' b = none) ∧
      s'.heap.get? s2.heap.objs.size = some { cls := .type "list", data := .seq its.toArray c } ∧ Vals ys its ∧ H' s2.heap.objs.size = none ∧ W i k ys σ' H') ?_ m0 _
      ⟨0, [], [], 0, _, H2, I3, T.keep _ _ _ st2 fun b _ o e => old b o e, fun b hb => (f2 b hb).1, hD1, .nil, nD2, w0⟩
    rintro k s' ⟨i, ys, its, c, σ', H', I', st', fr', hD', hv, nD, w'⟩
    obtain ⟨hz, cases⟩ := turn i k ys σ' H' w'
    have I'' := pinD I' hD' (fun v => by intro z; cases z) nD
    rcases cases with ⟨stop, q⟩ | ⟨go, N, hN2, step⟩
    · refine thn (T.done (blk X N' sc G.objs.size fp pins s2 H2) rfl rfl rfl hc i _ s' σ' H' NoX I'' (stat fr') st' stop) fun r s4 ⟨hr, I4⟩ => ?_
      subst hr
      obtain ⟨e4, n4, _⟩ := I4.pin (s2.heap.objs.size, { cls := .type "list", data := .seq its.toArray c }) (List.mem_append_right _ (List.mem_singleton.mpr rfl))
      have u4 : Un (frs X.stack) fp H2 H' s2.heap s4.heap := I4.base
      have nC4 : H' G.objs.size = none := I4.free
      obtain ⟨m4, ns4, _⟩ := I4.loc
      have neD : ∀ b o, s2.heap.get? b = some o → b ≠ s2.heap.objs.size := fun b o e => Nat.ne_of_lt (Heap.lt_size e)
      have u5 : Un (frs X.stack) fp H2 (upd H' s2.heap.objs.size (.lst ys)) s2.heap s4.heap :=
        ⟨u4.keep, u4.slot, fun b o e nb hx => by rw [upd_ne (neD b o e)]; exact u4.free b o e nb hx, u4.there, fun b xs e => by rw [upd_ne (ne_of_none e nD2)]; exact u4.tups b xs e,
          fun b o u e => by rw [upd_ne (ne_of_none e nD2)]; exact u4.frzs b o u e, fun b ps e => by rw [upd_ne (ne_of_none e nD2)]; exact u4.tbls b ps e⟩
      have hok5 : HOk X.prog X.w (upd H' s2.heap.objs.size (.lst ys)) s4.heap := fun a o e => by
        by_cases ea : a = s2.heap.objs.size
        · subst ea
          rw [upd_same] at e
          cases e
          exact ⟨hz, its, c, hv, e4⟩
        · rw [upd_ne ea] at e
          exact (I4.hok a o e).stay (fun _ _ _ q => q) (fun b q => by rw [upd_ne (ne_of_none q nD)]; exact q) fun b xs q => by rw [upd_ne (ne_of_none q nD)]; exact q
      have I5 : Inv X pins σ (upd H' s2.heap.objs.size (.lst ys)) s4 := I2.call' I4.os u5 hok5 I4.bare fun b hb => ⟨(f2 b hb).2.2.2.1, (f2 b hb).2.1, (f2 b hb).2.2.2.2.1, (f2 b hb).2.2.2.2.2⟩
      refine fin _ _ ys H' s4 I5 ⟨m4, ns4⟩ (I2.fpOk hCl ?_) (q _ nD)
      rw [upd_ne (Ne.symm hDC)]
      exact nC4
    · refine thn (T.item (blk X N' sc G.objs.size fp pins s2 H2) rfl rfl rfl hc i _ s' σ' H' NoX I'' (stat fr') st' go) fun r s4 ⟨u, hr, h4⟩ => ?_
      subst hr
      refine thn h4 fun _ s5 ⟨x, H5, I5, r5, y5, st5, fr5⟩ => ?_
      have I5' := I5.pinned (stat fr5) (T.obj _ _ st5)
      refine thn (hg _ _ _ _ _ _ s5 σ' H5 x u _ I5' r5 (step x H5 y5)) fun _ s6 ⟨σ6, H6, I6, q6⟩ => ?_
      refine thn (ht _ _ _ _ _ _ s6 σ6 H6 _ I6 q6) fun b s7 ⟨H7, I7, q7⟩ => ?_
      have back : ∀ {s8 : Shared} {H8 : Hp} (m' : Nat), Inv (blk X N' sc G.objs.size fp pins s2 H2) ([(s2.heap.objs.size, { cls := .type "list", data := .seq its.toArray c })] ++ pinsAt fp s5.heap) σ6 H8 s8 →
          tn (i + 1) s8.heap ∧ (∀ b ∈ fp, H8 b = none) ∧ s8.heap.get? s2.heap.objs.size = some { cls := .type "list", data := .seq its.toArray c } ∧ H8 s2.heap.objs.size = none := fun {s8 H8} m' I8 => by
        have pn : ∀ p ∈ [(s2.heap.objs.size, ({ cls := .type "list", data := .seq its.toArray c } : Obj))] ++ pinsAt fp s5.heap, s8.heap.get? p.1 = some p.2 ∧ H8 p.1 = none := fun p hp =>
          let ⟨a, b, _⟩ := I8.pin p (List.mem_append_right _ hp); ⟨a, b⟩
        refine ⟨T.keep _ _ _ st5 fun b hb o e => (pn (b, o) (List.mem_append_right _ (mem_pinsAt hb e))).1, fun b hb => ?_, pn _ (List.mem_append_left _ (List.mem_singleton.mpr rfl))⟩
        obtain ⟨o, e, _⟩ := T.obj _ _ st5 b hb
        exact (pn (b, o) (List.mem_append_right _ (mem_pinsAt hb e))).2
      have bare : ∀ {s8 : Shared} {H8 : Hp} {pl : List (Addr × Obj)}, Inv (blk X N' sc G.objs.size fp pins s2 H2) pl σ6 H8 s8 → Inv (blk X N' sc G.objs.size fp pins s2 H2) [] σ6 H8 s8 := fun I8 => I8.pins_of fun p hp => nomatch hp
      cases b with
      | false =>
        rw [if_neg Bool.false_ne_true] at q7 ⊢
        obtain ⟨m', lt, w7⟩ := hN2 _ _ _ q7
        obtain ⟨b1, b2, b3, b4⟩ := back m' I7
        exact ⟨m', lt, i + 1, ys, its, c, σ6, H7, bare I7, b1, b2, b3, hv, b4, w7⟩
      | true =>
        rw [if_pos rfl] at q7 ⊢
        refine thn (he _ _ _ _ _ _ s7 σ6 H7 _ I7 q7) fun y s8 ⟨yv, H8, I8, r8, q8⟩ => ?_
        obtain ⟨m', lt, w8⟩ := hN2 _ _ _ q8
        obtain ⟨b1, b2, b3, b4⟩ := back m' I8
        have hlen := hv.length
        refine append_at (hsz := by rw [List.size_toArray, ← hlen]; exact hz) b3 fun h9 sb9 e9 => ?_
        have I9 : Inv (blk X N' sc G.objs.size fp pins s2 H2) [] σ6 H8 { s8 with heap := h9 } := (bare I8).turned (t' := s8.toks) (it := s2.heap.objs.size) (fun b o hb e => sb9.extBut b o hb e) b4 hDC (.inr (Nat.le_refl _))
          (fun x c e z => by
            obtain ⟨v, hv⟩ := I2.cell x c (clOf_look hfr e)
            exact absurd hv.lt (by rw [z]; exact Nat.lt_irrefl _))
          fun p hp z => by
            have hp' : p ∈ X.pn ++ pins := by
              have : p ∈ (X.pn ++ pins) ++ ([] : List (Addr × Obj)) := hp
              rw [List.append_nil] at this
              exact this
            exact absurd (Heap.lt_size (I2.pin p hp').1) (by rw [z]; exact Nat.lt_irrefl _)
        refine ⟨m', lt, i + 1, ys ++ [yv], its ++ [y], c + 1, σ6, H8, I9, T.keep _ _ _ b1 fun b hb o e => sb9.extBut b o (Nat.ne_of_lt (hl b hb)) e, b2, ?_, hv.append (.cons r8 .nil), b4, w8⟩
        rw [e9]
        simp
  exact codeAny_compStart_list (loop _ rfl) (T.self _ 0 _ _ _ (T.keep _ _ _ st2 fun b _ o e => old b o e) (loop _ rfl))

/-- a comprehension as a value -/
theorem pe_lc (hc : X.calm = true) (hi : PI X tg iter wi) (h0 : X.env.scope = sc0) (hN : X.N = XN) (ok : lcOk sc0 sc XN N' n kp = true)
    (hg : ∀ C fp pins s H, PG (blk X N' sc C fp pins s H) tg g) (ht : ∀ C fp pins s H, PTs (blk X N' sc C fp pins s H) cs tc) (he : ∀ C fp pins s H, PE (blk X N' sc C fp pins s H) elt te)
    (hs : ∀ x, foldedSetIterable iter X.env x = pure x := by intro _; rfl) : PE X (.ListComp elt [⟨tg, iter, cs, 0⟩] sc pos) (tLc n kp wi g tc te) := by
  intro pins s σ H Q I h
  rw [eval_ListComp]
  refine lc_run hc hi h0 hN ok hg ht he hs I h fun D C ys H' s' I' ns fp q => ?_
  obtain ⟨m, hm⟩ := ns
  refine ⟨m, hm, fun h' sb => ⟨.ref D, _, ?_, rfl, q⟩⟩
  obtain ⟨f1, f2, f3, f4, f5, f6⟩ := fp
  exact I'.turned (t' := s'.toks) (it := C) (fun b o hb e => sb.extBut b o hb e) f1 f2 f4 f5 f6
end
end L2

set_option maxRecDepth 100000
set_option maxHeartbeats 4000000
namespace L2
open PySem PySem.Spec PyProof.Rows
section
variable {X : Cx} {tg iter elt : Expr} {cs : List Expr} {sc sc0 : Scope} {pos : Pos} {wi : TI} {g : TG} {tc : TT} {te : TE} {XN N' : List Str} {n : Nat} {kp : List Nat}
/-- name = [ .. for .. ], where the store is exchanged with the letting go of the block's names -/
theorem ps_setLc {i : Nat} {y : Str} {py spos : Pos} (hNd : X.N.Nodup) (hiy : X.N[i]? = some y) (hy : X.env.scope.names.lookup y = some .local) (hsw : swapsWith (.ListComp elt [⟨tg, iter, cs, 0⟩] sc pos) (some (.Name y py)) spos.line X.env = pure true)
    (hc : X.calm = true) (hi : PI X tg iter wi) (h0 : X.env.scope = sc0) (hN : X.N = XN) (ok : lcOk sc0 sc XN N' n kp = true)
    (hg : ∀ C fp pins s H, PG (blk X N' sc C fp pins s H) tg g) (ht : ∀ C fp pins s H, PTs (blk X N' sc C fp pins s H) cs tc) (he : ∀ C fp pins s H, PE (blk X N' sc C fp pins s H) elt te)
    (hs : ∀ x, foldedSetIterable iter X.env x = pure x := by intro _; rfl) : PS X (.Assign [.Name y py] (.ListComp elt [⟨tg, iter, cs, 0⟩] sc pos) spos) (tAsg (tLc n kp wi g tc te) (gName i)) := by
  intro pins s σ H D I h
  rw [exec_Assign_Name_used _ _ _ _ hsw]
  refine wpAny_bind (wpAny_standAt (wpAny_bind ?_))
  have fin : wpAny (model X.prog X.w) X.A (comprehension (.ListComp elt [⟨tg, iter, cs, 0⟩] sc pos) sc X.env (firstIterPos [⟨tg, iter, cs, 0⟩] pos) (newList []) false (firstIter [⟨tg, iter, cs, 0⟩] X.env) (some (assign (.Name y py) X.env)))
      (fun _ s' => SP X pins D .next s') X.xe s := by
    refine lc_run (Q := fun x H1 => gName i x σ H1 D.nx) hc hi h0 hN ok hg ht he hs I h fun D' C ys H' s' I' ns fp q => ?_
    obtain ⟨m, hm⟩ := ns
    obtain ⟨f1, f2, f3, f4, f5, f6⟩ := fp
    obtain ⟨o, es, ep, ho, rest⟩ := id hm
    have nc : ∀ v, o.data ≠ .cell v := fun v z => by
      rw [rest.1] at z
      cases z
    have I'' : Inv X (pins ++ [(C, o)]) σ (upd H' D' (.lst ys)) s' := I'.pins_of fun p hp => by
      rcases List.mem_append.mp hp with z | z
      · exact I'.pin p (List.mem_append_right _ z)
      · rw [List.mem_singleton.mp z]
        exact ⟨ho, f1, f2, f3, nc⟩
    show wpAny (model X.prog X.w) X.A (assign (.Name y py) X.env (.ref D')) _ X.xe s'
    refine thn (pg_name hNd hiy (.inl hy) (.inr hy) _ s' σ _ (.ref D') (.ref D') D.nx I'' rfl q) fun _ s'' ⟨σ3, H3, I3, q3⟩ => ?_
    obtain ⟨p1, p2, _⟩ := I3.pin (C, o) (List.mem_append_right _ (List.mem_append_right _ (List.mem_singleton.mpr rfl)))
    refine ⟨m, ⟨o, es, ep, p1, rest⟩, fun h' sb => ⟨σ3, H3, ?_, q3⟩⟩
    exact I3.unpinned.turned (t' := s''.toks) (it := C) (fun b o hb e => sb.extBut b o hb e) p2 f2 f4 f5 f6
  show wpAny (model X.prog X.w) X.A (comprehension _ _ _ _ _ _ _ _ >>= _) _ _ s
  exact wpAny_bind (thn fin fun _ s' q => wpAny_pure (wpAny_pure q))
end

/-! ### B. Built-ins that the layer lacks -/
section
variable {X : Cx}
def kitTy (T C : String) : Option Bool := if T = C then some true else if PySem.W.kitMeta C = true then (fastBuiltinMro T).map (·.contains (.type C)) else none
theorem kit_ty {K : PySem.W.Frag} {T C : String} {b : Bool} (h : kitTy T C = some b) : PySem.W.kitOne K (.type T) (.type C) = some b := by
  unfold kitTy at h
  unfold PySem.W.kitOne
  by_cases e : T = C
  · subst e
    rw [if_pos rfl] at h
    rw [if_pos (beq_self_eq_true _)]
    exact h
  · rw [if_neg e] at h
    have z : ¬ (Value.type T == Value.type C) = true := fun q => by
      have q' := eq_of_beq q
      injection q' with q''
      exact e q''
    rw [if_neg z]
    exact h
/-- isinstance(x, T), T a built-in type -/
theorem call_isi : CallR X (.builtin "isinstance") (fun xs H Q => ∃ (x : V) (T C : String) (b : Bool), xs = [x, .ty C] ∧ TyOf X.K H x (.type T) ∧ kitTy T C = some b ∧ Q (.bl b) H) := by
  intro pins s σ H xs us Q I r h
  obtain ⟨x, T, C, b, rfl, ty, e, q⟩ := h
  obtain ⟨u, w', rfl, rx, ry⟩ := vals2 r
  cases (show w' = Value.type C from ry)
  exact isinst_ok I rx ty (kit_ty e) fun tk => ⟨.bl b, H, I.tok tk, rfl, q⟩
theorem isi_bool_bool : kitTy "bool" "bool" = some true := by decide +kernel
theorem isi_tuple_tuple : kitTy "tuple" "tuple" = some true := by decide +kernel
/-- two lists of ints compared -/
theorem op_ne_ints (hu : X.A.units + 64 < cLine) : OpR X (compareOp .NotEq) (fun x y H Q => ∃ (a b : Addr) (ns ms : List Int), x = .ref a ∧ y = .ref b ∧ SqL X.K H a (ns.map V.int) ∧ SqL X.K H b (ms.map V.int) ∧ Q (.bl (!decide (ns = ms))) H) := by
  intro pins s σ H x y v u Q I rx ry h
  obtain ⟨a, b, ns, ms, rfl, rfl, ha, hb, q⟩ := h
  cases rx
  cases ry
  obtain ⟨xs, rv, p, _⟩ := I.list ha
  obtain ⟨ys, rv', p', _⟩ := I.list hb
  exact PySem.W.ke_ne_ints p.isList p'.isList (intsAre_of rv) (intsAre_of rv') hu ⟨.bl _, H, I, rfl, q⟩
end
end L2

set_option maxRecDepth 100000
set_option maxHeartbeats 4000000
namespace L2
open PySem PySem.Spec PyProof.Rows

/-! ### C. enumerate of a list or a tuple -/
section
variable {prog : Program} {w : World} {A : Around} {E : Value → Shared → Prop} {s : Shared}
theorem nextT_item {j q : Addr} {i : Nat} {its : Array Value} {x : Value} {Q : Value → Shared → Prop} (hj : s.heap.IsTupleIter j q i) (hq : s.heap.IsTuple q its) (hx : its[i]? = some x)
    (k : ∀ g, g.IsTupleIter j q (i + 1) → Heap.SameBut j s.heap g → Q x { s with heap := g }) : wpAny (model prog w) A (Builtin.SmallTypes.nextOf (.ref j)) Q E s := by
  obtain ⟨o, ho, oc, od⟩ := id hj
  obtain ⟨p, hp, _, m, pd⟩ := hq
  unfold Builtin.SmallTypes.nextOf
  refine wpAny_bind (wpAny_callSpecial?_slot (name := Str.ofString "__next__") hj.typeIs F.slot_tuple_iterator_next (wpAny_call_entry F.slot_tuple_iterator_next hj.typeIs F.entry_tuple_iterator_next ?_ (F.args_tuple_iterator_next_1 _)))
  show wpAny _ _ (field (.ref j) 0 >>= _) _ _ s
  refine wpAny_bind (wpAny_field ho od (x := .ref q) rfl ?_)
  show wpAny _ _ (if (Value.ref q == Value.none) = true then _ else _) _ _ s
  rw [if_neg (show ¬ ((Value.ref q == Value.none) = true) from Bool.false_ne_true)]
  show wpAny _ _ (field (.ref j) 1 >>= _) _ _ s
  refine wpAny_bind (wpAny_field ho od (x := .int i 0) rfl ?_)
  show wpAny _ _ (seqItems? (.ref q) >>= _) _ _ s
  refine wpAny_bind (wpAny_seqItems hp pd ?_)
  simp only [hx, Int.toNat_natCast]
  refine wpAny_bind (wpAny_setField ho od (by simp) (wpAny_pure ⟨x, rfl, wpAny_pure (k _ ⟨_, Heap.get?_update_self _ ho (Obj.isFreed_of_fields (Obj.data_mapFields od _)), (Obj.cls_mapFields ..).trans oc, ?_⟩ (Heap.SameBut.update ..))⟩))
  rw [Obj.data_mapFields od]
  simp [rawInt]
theorem nextT_end {j q : Addr} {i : Nat} {its : Array Value} {Q : Value → Shared → Prop} (hh : A.handled = none) (hj : s.heap.IsTupleIter j q i) (hq : s.heap.IsTuple q its) (hx : its[i]? = none)
    (k : ∀ g e, Heap.ExtBut j s.heap g → (∃ o, g.get? e = some o ∧ o.cls = .type "StopIteration") → E (.ref e) { s with heap := g }) : wpAny (model prog w) A (Builtin.SmallTypes.nextOf (.ref j)) Q E s := by
  obtain ⟨o, ho, oc, od⟩ := id hj
  obtain ⟨p, hp, _, m, pd⟩ := hq
  unfold Builtin.SmallTypes.nextOf
  refine wpAny_bind (wpAny_callSpecial?_slot (name := Str.ofString "__next__") hj.typeIs F.slot_tuple_iterator_next (wpAny_call_entry F.slot_tuple_iterator_next hj.typeIs F.entry_tuple_iterator_next ?_ (F.args_tuple_iterator_next_1 _)))
  show wpAny _ _ (field (.ref j) 0 >>= _) _ _ s
  refine wpAny_bind (wpAny_field ho od (x := .ref q) rfl ?_)
  show wpAny _ _ (if (Value.ref q == Value.none) = true then _ else _) _ _ s
  rw [if_neg (show ¬ ((Value.ref q == Value.none) = true) from Bool.false_ne_true)]
  show wpAny _ _ (field (.ref j) 1 >>= _) _ _ s
  refine wpAny_bind (wpAny_field ho od (x := .int i 0) rfl ?_)
  show wpAny _ _ (seqItems? (.ref q) >>= _) _ _ s
  refine wpAny_bind (wpAny_seqItems hp pd ?_)
  simp only [hx, Int.toNat_natCast]
  refine wpAny_bind (wpAny_rule (wpAny_bind (wpAny_setField ho od (by simp) ?_)))
  show wpAny _ _ (newExc (.type "StopIteration") [] >>= _) _ _ _; refine wpAny_bind ?_; simp only [newExc, newTuple]
  refine wpAny_bind (wpAny_newObj_type ?_ (by size_fits)); refine wpAny_bind (m := firstArgMember _ _) (wpAny_of_eq (a := Value.none) (by first | rfl | (simp only [firstArgMember]; rfl)) ?_)
  refine wpAny_newObj_type ?_ (by size_fits); simp only [raiseNew]; refine wpAny_bind (wpAny_handled ?_); first | rw [show A.in1.handled = none from hh] | rw [hh]
  refine wpAny_bind (wpAny_pure (wpAny_throw ?_)); exact k _ _ (((Heap.SameBut.update ..).extBut.push _).push _) ⟨_, Heap.get?_push_size _ rfl, rfl⟩
theorem draws_tup (hh : A.handled = none) (j q : Addr) (hne : q ≠ j) (its : Array Value) : Draws prog w A j [j, q] its.size (fun i v => its[i]? = some v) (fun i h => h.IsTupleIter j q i ∧ h.IsTuple q its) where
  live := fun _ _ st => let ⟨o, ho, _⟩ := st.1; ⟨o, ho⟩
  frame := fun _ _ _ st hk => ⟨st.1.at fun o e => hk j (by simp) o e, let ⟨o, e, r⟩ := st.2; ⟨o, hk q (by simp) o e, r⟩⟩
  item := fun i s Q E hi st hQ => nextT_item st.1 st.2 (x := its[i]) (by simp [hi]) fun g hj sb => hQ _ g s.toks (by simp [hi]) ⟨hj, st.2.extBut sb.extBut hne⟩ sb
  done := fun s Q E st hE => nextT_end hh st.1 st.2 (by simp) hE
open AutoSeq1 (wpAny_loadPart') in
theorem meets_enumT (q : Addr) (its : Array Value) (n : Nat) (dct : Option Addr) (sl : Array (Option Value)) :
    Meets (Builtin.«enumerate.__new__» ⟨[.type "enumerate", .ref q], []⟩) (fun _ R s => s.heap.get? q = some { cls := .type "tuple", dict := dct, data := .seq its n, slots := sl } ∧
      R (.ok (.ret (.ref (s.heap.push { cls := .type "tuple_iterator", data := .fields #[.ref q, .int 0 0] }).objs.size))) { s with heap := (s.heap.push { cls := .type "tuple_iterator", data := .fields #[.ref q, .int 0 0] }).push { cls := .type "enumerate", data := .fields #[.none, .bool false, .ref s.heap.objs.size, rawInt 0, .none, .none] } }) :=
  .of_wp fun prog w A R s h => by
    obtain ⟨hp, g, d, tk, os⟩ := s
    obtain ⟨hq, h⟩ := h
    have hsub := sub_enumerate
    have hT : Heap.IsTuple (Shared.heap ⟨hp, g, d, tk, os⟩) q its := ⟨_, hq, rfl, n, rfl⟩
    wp_walk using wpAny_loadPart' hq
    refine wpAny_stack_any fun st => wpAny_pure ?_
    split
    · rename_i c _ _ _ _ _
      cases (c == Value.type "enumerate")
      · wp_walk using wpAny_loadPart' hq, wpAny_pyIter_tuple hT
        exact ⟨_, rfl, h⟩
      · wp_walk using wpAny_loadPart' hq, wpAny_pyIter_tuple hT
        exact ⟨_, rfl, h⟩
    · wp_walk using wpAny_loadPart' hq, wpAny_pyIter_tuple hT
      exact ⟨_, rfl, h⟩
theorem call_enumT {q : Addr} {its : Array Value} {Q : Value → Shared → Prop} (hT : s.heap.IsTuple q its)
    (k : ∀ g, IsEnum g (s.heap.objs.size + 1) s.heap.objs.size 0 .none → g.IsTupleIter s.heap.objs.size q 0 → (∀ b o, s.heap.get? b = some o → g.get? b = some o) → Q (.ref (s.heap.objs.size + 1)) { s with heap := g }) :
    wpAny (model prog w) A (call (.type "enumerate") [.ref q]) Q E s := by
  obtain ⟨⟨c, dct, dt, sl⟩, hq, hc, n, hd⟩ := hT
  cases (show c = .type "tuple" from hc)
  cases (show dt = .seq its n from hd)
  refine callType_new F.called_enumerate (by decide) (F.typeCall_enumerate_1 _) (F.newCall_enumerate_1 _) (fun obj => F.args_object_init_2 obj _) F.entry_enumerate_new (meets_enumT q its n dct sl) ⟨hq, ?_⟩
  have z : (s.heap.push { cls := .type "tuple_iterator", data := .fields #[.ref q, .int 0 0] }).objs.size = s.heap.objs.size + 1 := Heap.size_push ..
  have he : IsEnum ((s.heap.push { cls := .type "tuple_iterator", data := .fields #[.ref q, .int 0 0] }).push { cls := .type "enumerate", data := .fields #[.none, .bool false, .ref s.heap.objs.size, rawInt 0, .none, .none] }) (s.heap.objs.size + 1) s.heap.objs.size 0 .none := by
    have y := Heap.get?_push_size (s.heap.push { cls := .type "tuple_iterator", data := .fields #[.ref q, .int 0 0] }) (o := { cls := .type "enumerate", data := .fields #[.none, .bool false, .ref s.heap.objs.size, rawInt 0, .none, .none] }) rfl
    rw [z] at y
    exact y
  show _ ∧ _
  rw [z]
  exact ⟨⟨_, he, rfl⟩, k _ he ⟨_, Heap.get?_push_of_some _ (Heap.get?_push_size _ rfl), rfl, rfl⟩ fun b o y => Heap.get?_push_of_some _ (Heap.get?_push_of_some _ y)⟩
end

/-- the sequence at a, a list or a tuple -/
def Sq (K : PySem.W.Frag) (b : Bool) (H : Hp) (a : Addr) (xs : List V) : Prop := if b = true then SqT K H a xs else SqL K H a xs
/-- enumerate over it: pairs, each a new tuple -/
def Ite (K : PySem.W.Frag) (b : Bool) (a : Addr) : It :=
  ⟨fun i H => ∃ xs x, Sq K b H a xs ∧ xs[i]? = some x, fun i H x H' => ∃ T v, x = .ref T ∧ H T = none ∧ H' = upd H T (.tup [.int i, v]) ∧ ∀ xs, Sq K b H a xs → xs[i]? = some v, fun i H => ∃ xs, Sq K b H a xs ∧ xs.length = i⟩
def enIt (b : Bool) (h : Heap) (it a : Addr) (i : Nat) : Prop := if b = true then h.IsTupleIter it a i else h.IsListIter it a i
section
variable {X : Cx} {pins : List (Addr × Obj)} {σ : St} {H : Hp} {s : Shared}
/-- two records have turned, a pair is laid -/
theorem Inv.turned2 {h' : Heap} {t' : Nat} {e it T : Addr} {v : V} {u : Value} {i : Int} {tk : Tok} (I : Inv X pins σ H s) (fe : FpOk X pins H e) (fi : FpOk X pins H it) (hT : s.heap.objs.size ≤ T) (rv : RelV v u)
    (k : ∀ b o, b ≠ e → b ≠ it → s.heap.get? b = some o → h'.get? b = some o) (ke : ∃ o, h'.get? e = some o) (ki : ∃ o, h'.get? it = some o) (eT : h'.get? T = some { cls := .type "tuple", data := .seq #[.int i tk, u] }) :
    Inv X pins σ (upd H T (.tup [.int i, v])) { s with heap := h', toks := t' } := by
  have nT : H T = none := I.hok.fresh hT
  have ne : ∀ b o, H b = some o → b ≠ e ∧ b ≠ it := fun b o q => ⟨ne_of_none q fe.1, ne_of_none q fi.1⟩
  have un : Un (frs X.stack) [e, it] H (upd H T (.tup [.int i, v])) s.heap h' := by
    have off : ∀ b, b ∉ [e, it] → b ≠ e ∧ b ≠ it := fun b hb => ⟨fun z => hb (by simp [z]), fun z => hb (by simp [z])⟩
    have lt : ∀ b o, s.heap.get? b = some o → b ≠ T := fun b o q => Nat.ne_of_lt (Nat.lt_of_lt_of_le (Heap.lt_size q) hT)
    exact ⟨fun b o q _ _ hx => k b o (off b hx).1 (off b hx).2 q, fun b o q _ _ hx => ⟨o.slots, k b o (off b hx).1 (off b hx).2 q⟩, fun b o q n _ => by rw [upd_ne (lt b o q)]; exact n, fun b o q hx => ⟨o, k b o (off b hx).1 (off b hx).2 q⟩,
      fun b xs q => by rw [upd_ne (ne_of_none q nT)]; exact q, fun b o xs q => by rw [upd_ne (ne_of_none q nT)]; exact q, fun b ps q => ⟨#[], by rw [upd_ne (ne_of_none q nT), q]; simp⟩⟩
  refine I.call (g' := s.gens) (d' := s.drawn) (ch := [e, it]) un (fun a o q => ?_) I.bare fun b hb => ?_
  · by_cases ea : a = T
    · subst ea
      rw [upd_same] at q
      cases q
      exact ⟨Nat.le_of_lt (small1000 (by show 2 ≤ 1000; decide)), [.int i tk, u], .cons ⟨tk, rfl⟩ (.cons rv .nil), ⟨_, eT, rfl, _, rfl⟩⟩
    · rw [upd_ne ea] at q
      refine (I.hok a o q).stay (fun b z hb r => k b z ?_ ?_ r) (fun b r => by rw [upd_ne (ne_of_none r nT)]; exact r) fun b xs r => by rw [upd_ne (ne_of_none r nT)]; exact r
      · rcases hb with rfl | hb
        · exact (ne _ _ q).1
        · exact (ne _ _ hb).1
      · rcases hb with rfl | hb
        · exact (ne _ _ q).2
        · exact (ne _ _ hb).2
  · rcases List.mem_cons.mp hb with z | z
    · subst z
      exact ⟨fe.2.2.2.1, fe.2.1, fe.2.2.2.2.1, fe.2.2.2.2.2⟩
    · have z' := List.mem_singleton.mp z
      subst z'
      exact ⟨fi.2.2.2.1, fi.2.1, fi.2.2.2.2.1, fi.2.2.2.2.2⟩
end
theorem Sq.inj {X : Cx} {pins : List (Addr × Obj)} {σ : St} {H : Hp} {s : Shared} {b : Bool} {a : Addr} {xs ys : List V} (I : Inv X pins σ H s) (h : Sq X.K b H a xs) (h' : Sq X.K b H a ys) : xs = ys := by
  cases b with
  | true => exact I.tuple_inj h h'
  | false => exact I.list_inj h h'
theorem enIt_obj {b : Bool} {h : Heap} {it a : Addr} {i : Nat} (st : enIt b h it a i) : ∃ o, h.get? it = some o ∧ ∀ v, o.data ≠ .cell v := by
  cases b with
  | true =>
    obtain ⟨o, e, _, d⟩ := (show h.IsTupleIter it a i from st)
    exact ⟨o, e, fun v z => by rw [d] at z; cases z⟩
  | false =>
    obtain ⟨o, e, _, d⟩ := (show h.IsListIter it a i from st)
    exact ⟨o, e, fun v z => by rw [d] at z; cases z⟩
/-- the inner iterator drawn, whichever it is -/
theorem enIt_draws {X : Cx} {pins : List (Addr × Obj)} {σ : St} {H : Hp} {s : Shared} {b : Bool} {a it : Addr} {xs : List V} (I : Inv X pins σ H s) (hd : X.A.handled = none) (hq : Sq X.K b H a xs) (hne : a ≠ it) :
    ∃ (its : List Value) (St : Nat → Heap → Prop), Vals xs its ∧ Draws X.prog X.w X.A.in1 it [it, a] its.toArray.size (fun i v => its.toArray[i]? = some v) St ∧ (∀ i, enIt b s.heap it a i → St i s.heap) ∧ ∀ i h, St i h → enIt b h it a i := by
  cases b with
  | true =>
    obtain ⟨its, rv, p, _⟩ := I.tuple hq
    exact ⟨its, fun i h => h.IsTupleIter it a i ∧ h.IsTuple a its.toArray, rv, draws_tup (A := X.A.in1) hd it a hne its.toArray, fun i st => ⟨st, p⟩, fun i h st => st.1⟩
  | false =>
    obtain ⟨its, rv, p, _⟩ := I.list hq
    exact ⟨its, fun i h => h.IsListIter it a i ∧ h.IsList a its.toArray, rv, Draws.list (A := X.A.in1) hd it a hne its.toArray, fun i st => ⟨st, p.isList⟩, fun i h st => st.1⟩
theorem turn_enum {P : Program} {w : World} {K : PySem.W.Frag} {elts : List Expr} {k : Nat} {pos : Pos} (b : Bool) (a e it : Addr) (hei : e ≠ it) (hae : a ≠ e) (hai : a ≠ it) :
    Turn P w K (.Tuple elts k pos) (Ite K b a) [e, it] e (fun i h => (∃ old, IsEnum h e it (i : Int) old) ∧ enIt b h it a i) where
  mem := by simp
  obj := fun i h st c hc => by
    rcases List.mem_cons.mp hc with z | z
    · subst z
      obtain ⟨old, q⟩ := st.1
      exact ⟨_, q, fun v z => by
        have z' : Data.fields _ = Data.cell v := z
        cases z'⟩
    · rw [List.mem_singleton.mp z]
      exact enIt_obj st.2
  keep := fun i h h' st kk => by
    obtain ⟨⟨old, q⟩, st⟩ := st
    refine ⟨⟨old, kk e (by simp) _ q⟩, ?_⟩
    cases b with
    | true => exact (show h.IsTupleIter it a i from st).at fun o q => kk it (by simp) o q
    | false => exact (show h.IsListIter it a i from st).at fun o q => kk it (by simp) o q
  item := by
    intro X hP hw hK hc i pins s σ H E I hf st hg
    subst hP hw hK
    obtain ⟨⟨old, he⟩, st⟩ := st
    obtain ⟨xs, x, hq, hx⟩ := hg
    obtain ⟨its, St, rv, D, up, dn⟩ := enIt_draws I (I.ok.hd hc) hq hai
    obtain ⟨u, hu, ru⟩ := rv.get hx
    have hlt : i < its.toArray.size := by simpa using (List.getElem?_eq_some_iff.mp hu).1
    have fe := hf e (by simp)
    have fi := hf it (by simp)
    have lte : e < s.heap.objs.size := Heap.lt_size he
    refine wpAny_pyNext_enum_itemD D he (up i st) hlt hei (by simp [hei, Ne.symm hae]) fun y g tk hy ho st' hT hsz kk => ?_
    have ey : y = u := by
      have z : its.toArray[i]? = some y := hy
      rw [List.getElem?_toArray, hu] at z
      exact (Option.some.inj z).symm
    subst ey
    refine ⟨_, rfl, wpAny_letOwnedTupleGo_enum ho fun g2 he2 sb => ?_⟩
    have it2 : ∃ o, g2.get? it = some o := by
      obtain ⟨o, q, _⟩ := enIt_obj (dn _ _ st')
      exact ⟨o, (sb.2 it (Ne.symm hei)).trans q⟩
    have I2 := I.turned2 (h' := g2) (t' := tk + 1) (T := s.heap.objs.size) (i := (i : Int)) (tk := tk) fe fi (Nat.le_refl _) ru (fun c o h1 h2 q => (sb.2 c h1).trans (kk c o h1 h2 q)) ⟨_, he2⟩ it2 ((sb.2 _ (Nat.ne_of_gt lte)).trans hT)
    refine ⟨.ref s.heap.objs.size, _, I2, rfl, ⟨_, x, rfl, I.hok.fresh (Nat.le_refl _), rfl, fun ys hy' => by rw [Sq.inj I hy' hq]; exact hx⟩, ⟨⟨y, he2⟩, ?_⟩, fun c hc' => ?_⟩
    · have z := dn _ _ st'
      cases b with
      | true => exact (show g.IsTupleIter it a (i + 1) from z).at fun o q => (sb.2 it (Ne.symm hei)).trans q
      | false => exact (show g.IsListIter it a (i + 1) from z).at fun o q => (sb.2 it (Ne.symm hei)).trans q
    · have nz : H c = none := (hf c hc').1
      have cl : c < s.heap.objs.size := by
        rcases List.mem_cons.mp hc' with z | z
        · rw [z]; exact lte
        · rw [List.mem_singleton.mp z]
          obtain ⟨o, q, _⟩ := enIt_obj st
          exact Heap.lt_size q
      rw [upd_ne (Nat.ne_of_lt cl)]
      exact nz
  done := by
    intro X hP hw hK hc i pins s σ H E I hf st hg
    subst hP hw hK
    obtain ⟨⟨old, he⟩, st⟩ := st
    obtain ⟨xs, hq, hx⟩ := hg
    obtain ⟨its, St, rv, D, up, dn⟩ := enIt_draws I (I.ok.hd hc) hq hai
    obtain ⟨f0, f1, f2, f3, f4, f5⟩ := hf it (by simp)
    have hl := rv.length
    have e1 : i = its.toArray.size := by
      rw [List.size_toArray]
      omega
    refine wpAny_pyNext_enum_endD D he (by rw [← e1]; exact up i st) fun g eb => ⟨rfl, I.turned (t' := s.toks) (fun c o hc' q => eb c o hc' q) f0 f1 f3 f4 f5⟩
  self := fun _ _ _ _ _ st h => by
    obtain ⟨⟨old, he⟩, _⟩ := st
    exact wpAny_pyIter_enum he h

/-! the iterator of enumerate(e) -/
def iEnum (K : PySem.W.Frag) (ta : TA) : TI := fun σ H R => ta σ H fun vs H1 => ∃ (b : Bool) (a : Addr), vs = [.ref a] ∧ (∃ xs, Sq K b H1 a xs) ∧ R (Ite K b a) H1
theorem pi_enum {X : Cx} {elts : List Expr} {k : Nat} {pos p pos' : Pos} {a : Expr} {ta : TA} (hg : Gl X "enumerate") (hm : X.mg "enumerate" = none) (ha : PA X [a] ta) (hs : starEach [a] X.env = [(false, eval a X.env)] := by rfl) :
    PI X (.Tuple elts k pos) (.Call (.Name "enumerate" p) [a] [] pos') (iEnum X.K ta) := by
  intro pins s σ H R I h
  refine Call_ (ld_blt I hg hm PyProof.Rows.boot_enumerate (PyProof.Rows.callWith_type1 (thn (ha pos' pins s σ H _ I h) fun us s1 ⟨vs, H1, I1, r1, q1⟩ => ?_) hs rfl))
  obtain ⟨b, c, rfl, ⟨xs, hq⟩, q⟩ := q1
  obtain ⟨u, rfl, ru⟩ := vals1 r1
  cases ru
  have fin : ∀ g : Heap, IsEnum g (s1.heap.objs.size + 1) s1.heap.objs.size 0 .none → enIt b g s1.heap.objs.size c 0 → (∀ d o, s1.heap.get? d = some o → g.get? d = some o) → c < s1.heap.objs.size →
      wpAny (model X.prog X.w) X.A (pyIter (.ref (s1.heap.objs.size + 1))) (PIE X pins σ (.Tuple elts k pos) R) X.xe { s1 with heap := g } := fun g he hi kk cl => by
    refine wpAny_pyIter_enum he ?_
    refine ⟨s1.heap.objs.size + 1, [s1.heap.objs.size + 1, s1.heap.objs.size], _, _, H1, rfl, I1.kept (t' := s1.toks) kk, turn_enum b c _ _ (Nat.succ_ne_self _) (Nat.ne_of_lt (Nat.lt_succ_of_lt cl)) (Nat.ne_of_lt cl), ⟨⟨.none, he⟩, hi⟩, fun d hd => ?_, q⟩
    have le : s1.heap.objs.size ≤ d := by
      rcases List.mem_cons.mp hd with z | z
      · rw [z]; exact Nat.le_succ _
      · rw [List.mem_singleton.mp z]; exact Nat.le_refl _
    exact I1.fpOk le (I1.hok.fresh le)
  cases b with
  | true =>
    obtain ⟨its, rv, pt, _⟩ := I1.tuple hq
    exact call_enumT (show s1.heap.IsTuple c its.toArray from pt) fun g he hi kk => fin g he hi kk pt.lt
  | false =>
    obtain ⟨its, rv, pl, _⟩ := I1.list hq
    have hl := pl.isList
    exact call_enumerate_list hl fun g he hi _ kk => fin g he hi kk (by obtain ⟨o, e, _⟩ := hl; exact Heap.lt_size e)
/-- a loop over enumerate of a sequence that stays as it is -/
theorem for_enum {K : PySem.W.Frag} {b : Bool} {a : Addr} {xs : List V} {g : TG} {tb : TS} {D : Ends} {σ : St} {H : Hp} (Pv : Nat → St → Hp → Prop) (h0 : Pv 0 σ H) (hl : ∀ i σ H, i ≤ xs.length → Pv i σ H → Sq K b H a xs)
    (hs : ∀ i x σ H, xs[i]? = some x → Pv i σ H → ∀ T, H T = none → g (.ref T) σ (upd H T (.tup [.int i, x])) fun σ2 H2 => tb { D with nx := Pv (i + 1), ct := Pv (i + 1), bk := D.nx } σ2 H2) (hd : ∀ σ H, Pv xs.length σ H → D.nx σ H) :
    ∃ W : Nat → Nat → St → Hp → Prop, (∃ m, W 0 m σ H) ∧ ∀ i m σ H, W i m σ H →
      ((Ite K b a).stop i H ∧ D.nx σ H) ∨ ((Ite K b a).go i H ∧ ∃ N : St → Hp → Prop, (∀ σ' H', N σ' H' → ∃ m', m' < m ∧ W (i + 1) m' σ' H') ∧ ∀ x H', (Ite K b a).yld i H x H' → g x σ H' fun σ2 H2 => tb { D with nx := N, ct := N, bk := D.nx } σ2 H2) := by
  refine ⟨fun i m σ H => m = xs.length - i ∧ i ≤ xs.length ∧ Pv i σ H, ⟨xs.length, by simp, Nat.zero_le _, h0⟩, ?_⟩
  rintro i m σ H ⟨rfl, hi, p⟩
  have q := hl i σ H hi p
  by_cases hlt : i < xs.length
  · refine .inr ⟨⟨xs, xs[i], q, by simp [hlt]⟩, Pv (i + 1), fun σ' H' p' => ⟨xs.length - (i + 1), by omega, rfl, hlt, p'⟩, fun x H' y => ?_⟩
    obtain ⟨T, v, rfl, hT, rfl, hv⟩ := y
    exact hs i v σ H (hv xs q) p T hT
  · have e : i = xs.length := by omega
    subst e
    exact .inl ⟨⟨xs, q, rfl⟩, hd σ H p⟩
end L2

set_option maxRecDepth 100000
set_option maxHeartbeats 4000000
namespace L2
open PySem PySem.Spec PyProof.Rows
/-! ### D. More built-ins -/
section
variable {X : Cx}
theorem vals_of {P : Nat → Value → Prop} {f : Nat → V} (hP : ∀ i v, P i v → RelV (f i) v) : ∀ (n k : Nat) (l : List Value), l.length = n → (∀ j v, l[j]? = some v → P (k + j) v) → Vals ((List.range' k n).map f) l
  | 0, k, [], _, _ => .nil
  | n + 1, k, v :: r, hl, h => by
    rw [List.range'_succ, List.map_cons]
    refine .cons (hP _ _ (h 0 v rfl)) (vals_of hP n (k + 1) r (by simpa using hl) fun j v' e => ?_)
    have := h (j + 1) v' (by simpa using e)
    rw [show k + 1 + j = k + (j + 1) by omega]
    exact this
  | 0, _, _ :: _, hl, _ => by simp at hl
  | n + 1, _, [], hl, _ => by simp at hl
/-- list(range) -/
theorem call_list_rng (hc : X.calm = true) : CallR X (.type "list") (fun xs H Q => ∃ (p : Addr) (lo hi : Int), xs = [.ref p] ∧ H p = some (.rng lo hi) ∧ -(2 ^ 62) ≤ lo ∧ lo < 2 ^ 62 ∧ -(2 ^ 62) ≤ hi ∧ hi < 2 ^ 62 ∧ (hi - lo).toNat ≤ 1000 ∧ ∀ l, H l = none → Q (.ref l) (upd H l (.lst ((List.range' 0 (hi - lo).toNat).map fun i : Nat => V.int (lo + i))))) := by
  intro pins s σ H xs us Q I r h
  obtain ⟨p, lo, hi, rfl, hp, b1, b2, b3, b4, hz, q⟩ := h
  obtain ⟨u, rfl, rx⟩ := vals1 r
  cases rx
  obtain ⟨t, u, v, e⟩ := (show ObjOk X.prog X.w H s.heap p (.rng lo hi) from I.hok p _ hp)
  have hn : Builtin.Range.rangeSize lo hi 1 = (((hi - lo).toNat : Nat) : Int) := by
    rw [rangeSize_one]
    split <;> omega
  refine call_list_range (I.ok.hd hc) e (small_one b1 b2 b3 b4) hn (Nat.le_trans hz (by decide)) fun g tk acc c kk eg hi' => ?_
  obtain ⟨sz, it⟩ := hi'
  have vv : Vals ((List.range' 0 (hi - lo).toNat).map fun i : Nat => V.int (lo + i)) acc.toList := by
    refine vals_of (P := fun i v => ∃ t, v = .int (lo + i * 1) t) (fun i v hv => ?_) _ 0 acc.toList (by simpa using sz) fun j v ej => ?_
    · obtain ⟨t, rfl⟩ := hv
      exact ⟨t, by rw [Int.mul_one]⟩
    · have := it j v (by simpa using ej)
      rw [Nat.zero_add]
      exact this
  refine ⟨.ref s.heap.objs.size, _, I.laid (t' := tk) kk (Nat.le_refl _) (show ObjOk X.prog X.w _ _ _ (.lst _) from ⟨?_, acc.toList, c, vv, eg⟩), rfl, q _ (I.hok.fresh (Nat.le_refl _))⟩
  rw [List.length_map, List.length_range']
  exact Nat.le_of_lt (small1000 hz)
open AutoSeq1 (wpAny_loadPart') in
/-- the sum of a list of ints -/
theorem call_sum_ints (hc : X.calm = true) : CallR X (.builtin "sum") (fun xs H Q => ∃ (p : Addr) (ns : List Int), xs = [.ref p] ∧ SqL X.K H p (ns.map V.int) ∧ Q (.int ns.sum) H) := by
  intro pins s σ H xs us Q I r h
  obtain ⟨p, ns, rfl, hq, q⟩ := h
  obtain ⟨u, rfl, rx⟩ := vals1 r
  cases rx
  obtain ⟨its, rv, pl, hz'⟩ := I.list hq
  have ia := intsAre_of rv
  obtain ⟨ps, hx⟩ := ia.allInts.items
  have hl' : s.heap.IsList p (intItems ps) := hx ▸ pl.isList
  refine sum_intListG (I.ok.hd hc) hl' fun g tk t' hk => ?_
  have e1 : ns = ps.toList.map (·.1) := by
    rw [← nums_intItems, ← hx]
    exact (show numsOf its.toArray.toList = ns from ia.numsOf).symm
  have e2 : preSum (numAt ps) ps.size = ns.sum := by
    rw [preSum_eq, List.take_of_length_le (by simp), e1]
  rw [e2]
  exact ⟨.int _, H, I.kept (t' := tk) hk, ⟨t', rfl⟩, q⟩
end

/-! the layer's rules with the text's heap named (for blocks) -/
section
variable {X : Cx} {K : PySem.W.Frag}
theorem ixT (h : X.K = K := by rfl) : IxR X (rIxT K) := h ▸ ix_tup
theorem ixL (h : X.K = K := by rfl) : IxR X (rIxL K) := h ▸ ix_list
theorem lenS (h : X.K = K := by rfl) : CallR X (.builtin "len") (fun xs H Q => ∃ p ys, xs = [.ref p] ∧ (SqL K H p ys ∨ SqT K H p ys) ∧ Q (.int ys.length) H) := h ▸ call_len_seq
theorem isiK (h : X.K = K := by rfl) : CallR X (.builtin "isinstance") (fun xs H Q => ∃ (x : V) (T C : String) (b : Bool), xs = [x, .ty C] ∧ TyOf K H x (.type T) ∧ kitTy T C = some b ∧ Q (.bl b) H) := h ▸ call_isi
end
/-! ### E. Data: what a value stands for -/
mutual
def Dn (H : Hp) : PyData → V → Prop
  | .none, v => v = .non
  | .bool b, v => v = .bl b
  | .int i, v => v = .int i
  | .str x, v => v = .str x
  | .list ds, v => ∃ a xs, v = .ref a ∧ H a = some (.lst xs) ∧ DnL H ds xs
  | .tuple ds, v => ∃ a xs, v = .ref a ∧ H a = some (.tup xs) ∧ DnL H ds xs
  | .dict kvs, v => kvs = [] ∧ ∃ a, v = .ref a ∧ H a = some (.dK [])
def DnL (H : Hp) : List PyData → List V → Prop
  | [], xs => xs = []
  | d :: ds, xs => ∃ x r, xs = x :: r ∧ Dn H d x ∧ DnL H ds r
end
mutual
theorem Dn.same {H H' : Hp} (h : Same H H') : ∀ (d : PyData) (v : V), Dn H d v → Dn H' d v
  | .none, _, q => q
  | .bool _, _, q => q
  | .int _, _, q => q
  | .str _, _, q => q
  | .list ds, _, ⟨a, xs, e, q, r⟩ => ⟨a, xs, e, h _ _ q, DnL.same h ds xs r⟩
  | .tuple ds, _, ⟨a, xs, e, q, r⟩ => ⟨a, xs, e, h _ _ q, DnL.same h ds xs r⟩
  | .dict _, _, ⟨e, a, q, r⟩ => ⟨e, a, q, h _ _ r⟩
theorem DnL.same {H H' : Hp} (h : Same H H') : ∀ (ds : List PyData) (xs : List V), DnL H ds xs → DnL H' ds xs
  | [], _, q => q
  | d :: ds, _, ⟨x, r, e, q, z⟩ => ⟨x, r, e, Dn.same h d x q, DnL.same h ds r z⟩
end
theorem DnL.length {H : Hp} : ∀ {ds : List PyData} {xs : List V}, DnL H ds xs → ds.length = xs.length
  | [], _, q => by cases (show _ = [] from q); rfl
  | d :: ds, _, ⟨x, r, e, _, z⟩ => by rw [e, List.length_cons, List.length_cons, DnL.length z]
theorem DnL.get {H : Hp} : ∀ {ds : List PyData} {xs : List V} {i : Nat} {x : V}, DnL H ds xs → xs[i]? = some x → ∃ d, ds[i]? = some d ∧ Dn H d x
  | [], _, i, x, q, e => by rw [(show _ = [] from q)] at e; simp at e
  | d :: ds, _, 0, x, ⟨y, r, e, q, z⟩, h => by rw [e] at h; cases h; exact ⟨d, rfl, q⟩
  | d :: ds, _, i + 1, x, ⟨y, r, e, q, z⟩, h => by
    rw [e] at h
    obtain ⟨d', h1, h2⟩ := DnL.get (i := i) z (by simpa using h)
    exact ⟨d', by simpa using h1, h2⟩
theorem DnL.get' {H : Hp} : ∀ {ds : List PyData} {xs : List V} {i : Nat} {d : PyData}, DnL H ds xs → ds[i]? = some d → ∃ x, xs[i]? = some x ∧ Dn H d x
  | [], _, i, x, q, e => by simp at e
  | d :: ds, _, 0, x, ⟨y, r, e, q, z⟩, h => by cases h; exact ⟨y, by rw [e]; rfl, q⟩
  | d :: ds, _, i + 1, x, ⟨y, r, e, q, z⟩, h => by
    obtain ⟨d', h1, h2⟩ := DnL.get' (i := i) z (by simpa using h)
    exact ⟨d', by rw [e]; simpa using h1, h2⟩
theorem DnL.append {H : Hp} : ∀ {ds es : List PyData} {xs ys : List V}, DnL H ds xs → DnL H es ys → DnL H (ds ++ es) (xs ++ ys)
  | [], es, xs, ys, q, r => by rw [(show xs = [] from q)]; exact r
  | d :: ds, es, _, ys, ⟨x, t, e, q, z⟩, r => ⟨x, t ++ ys, by rw [e]; rfl, q, DnL.append z r⟩
mutual
theorem Dn.reads {X : Cx} {pins : List (Addr × Obj)} {σ : St} {H : Hp} {s : Shared} (I : Inv X pins σ H s) : ∀ (d : PyData) (v : V) (u : Value), Dn H d v → d.canLay0 = true → RelV v u → ∃ as, Reads s.heap u d as
  | .none, v, u, q, _, r => by cases (show v = .non from q); cases (show u = Value.none from r); exact ⟨_, .none⟩
  | .bool b, v, u, q, _, r => by cases (show v = .bl b from q); cases (show u = Value.bool b from r); exact ⟨_, .bool b⟩
  | .int i, v, u, q, _, r => by cases (show v = .int i from q); obtain ⟨t, rfl⟩ := (show ∃ t, u = Value.int i t from r); exact ⟨_, .int i t⟩
  | .str x, v, u, q, _, r => by cases (show v = .str x from q); obtain ⟨t, rfl⟩ := (show ∃ t, u = Value.str x t from r); exact ⟨_, .str x t⟩
  | .list ds, _, u, ⟨a, xs, rfl, q, z⟩, c, r => by
    cases (show u = Value.ref a from r)
    obtain ⟨_, its, n, rv, e⟩ := (show ObjOk X.prog X.w H s.heap a (.lst xs) from I.hok a _ q)
    obtain ⟨as, ra⟩ := DnL.reads I ds xs its z (by simpa [PyData.canLay0] using c) rv
    exact ⟨_, .list e rfl rfl (by simpa using ra)⟩
  | .tuple ds, _, u, ⟨a, xs, rfl, q, z⟩, c, r => by
    cases (show u = Value.ref a from r)
    obtain ⟨_, its, rv, o, e, hc, n, hd⟩ := (show ObjOk X.prog X.w H s.heap a (.tup xs) from I.hok a _ q)
    obtain ⟨as, ra⟩ := DnL.reads I ds xs its z (by simpa [PyData.canLay0] using c) rv
    exact ⟨_, .tuple e hc hd (by simpa using ra)⟩
  | .dict k, v, u, _, c, _ => by simp [PyData.canLay0] at c
theorem DnL.reads {X : Cx} {pins : List (Addr × Obj)} {σ : St} {H : Hp} {s : Shared} (I : Inv X pins σ H s) : ∀ (ds : List PyData) (xs : List V) (us : List Value), DnL H ds xs → PyData.canLayAll0 ds = true → Vals xs us → ∃ as, ReadsAll s.heap us ds as
  | [], xs, us, q, _, r => by
    cases (show xs = [] from q)
    cases r
    exact ⟨_, .nil⟩
  | d :: ds, _, us, ⟨x, t, rfl, q, z⟩, c, r => by
    cases r with
    | cons rx rt =>
      have c' : PyData.canLay0 d = true ∧ PyData.canLayAll0 ds = true := by simpa [PyData.canLayAll0] using c
      obtain ⟨a1, r1⟩ := Dn.reads I d x _ q c'.1 rx
      obtain ⟨a2, r2⟩ := DnL.reads I ds t _ z c'.2 rt
      exact ⟨_, .cons r1 r2⟩
end
/-- two values of the same data: not unequal -/
theorem op_ne_data {X : Cx} (hu : X.A.units + 64 < cLine) : OpR X (compareOp .NotEq) (fun x y H Q => ∃ d e : PyData, Dn H d x ∧ Dn H e y ∧ SeqAt.shaped d = true ∧ SeqAt.shaped e = true ∧ Q (.bl (!PyData.eqv d e)) H) := by
  intro pins s σ H x y v u Q I rx ry h
  obtain ⟨d, e, hd, he, sd, se, q⟩ := h
  obtain ⟨as, ra⟩ := Dn.reads I d x v hd (SeqAt.canLay_of_shaped sd) rx
  obtain ⟨bs, rb⟩ := Dn.reads I e y u he (SeqAt.canLay_of_shaped se) ry
  exact ne_dataH ra rb sd se hu ⟨.bl _, H, I, rfl, q⟩
mutual
theorem eqv_refl : ∀ d : PyData, d.canLay0 = true → PyData.eqv d d = true
  | .none, _ => by simp [PyData.eqv]
  | .bool _, _ => by simp [PyData.eqv]
  | .int _, _ => by simp [PyData.eqv]
  | .str _, _ => by simp [PyData.eqv]
  | .list ds, c => by simpa [PyData.eqv] using eqvAll_refl ds (by simpa [PyData.canLay0] using c)
  | .tuple ds, c => by simpa [PyData.eqv] using eqvAll_refl ds (by simpa [PyData.canLay0] using c)
  | .dict _, c => by simp [PyData.canLay0] at c
theorem eqvAll_refl : ∀ ds : List PyData, PyData.canLayAll0 ds = true → PyData.eqvAll ds ds = true
  | [], _ => by simp [PyData.eqvAll]
  | d :: ds, c => by
    have c' : PyData.canLay0 d = true ∧ PyData.canLayAll0 ds = true := by simpa [PyData.canLayAll0] using c
    simp [PyData.eqvAll, eqv_refl d c'.1, eqvAll_refl ds c'.2]
end
end L2

set_option maxRecDepth 100000
set_option maxHeartbeats 4000000
/-! ### F. Woods as data -/
namespace Wd
open PySem L2
def isW : PyData → Bool
  | .int _ => true
  | _ => false
/-! the program's looks at data, as functions -/
def within (d : PyData) (lo hi : Int) : Bool := match d with
  | .int i => decide (lo ≤ i) && decide (i ≤ hi)
  | _ => false
def tupFull (d : PyData) : Bool := match d with
  | .tuple ds => decide (0 < ds.length)
  | _ => false
def rising (many : Int) : List PyData → Int → Bool
  | [], _ => true
  | .int i :: ds, last => decide (last + 1 ≤ i) && decide (i ≤ many - 1) && rising many ds i
  | _ :: _, _ => false
def risK (many : Int) : PyData → PyData → Bool
  | .int up, .tuple ks => rising many ks up
  | _, _ => false
def highK (h : PyData) : PyData → Bool
  | .tuple ks => within h 1 ks.length
  | _ => false
def lowH (l : PyData) : PyData → Bool
  | .int hi => within l 0 hi
  | _ => false
def isBough (many : Int) (d : PyData) : Bool := match d with
  | .tuple [u, l, h, k] => within u 0 (many - 1) && (tupFull k && (risK many u k && (highK h k && lowH l h)))
  | _ => false
def fstD : PyData → PyData
  | .tuple (x :: _) => x
  | _ => .none
def pairOk : PyData → Bool
  | .tuple [_, n] => isW n
  | _ => false
def arePairs (many : Int) (d : PyData) : Bool := match d with
  | .tuple ds => decide (0 < ds.length) && ds.all pairOk && rising many (ds.map fstD) (-1)
  | _ => false
def neI : PyData → PyData → Bool
  | .int i, .int j => !decide (i = j)
  | _, _ => false
def tieK (many : Int) (s : Str) (x y : PyData) : Bool := if s = ("most" : Str) then isW x && arePairs many y else if s = ("needs" : Str) ∨ s = ("bans" : Str) then within x 0 (many - 1) && (within y 0 (many - 1) && neI x y) else false
def tieD (many : Int) (x y : PyData) : PyData → Bool
  | .str s => tieK many s x y
  | _ => false
def isTie (many : Int) (d : PyData) : Bool := match d with
  | .tuple [k, x, y] => tieD many x y k
  | _ => false
def toI : PyData → Int
  | .int i => i
  | _ => 0
def kidsOf : PyData → List Int
  | .tuple [_, _, _, .tuple ks] => ks.map toI
  | _ => []
/-- the boughs are those of a wood -/
structure GoodB (many : Int) (bs : List PyData) : Prop where
  each : ∀ b ∈ bs, isBough many b = true
  kids : (bs.flatMap kidsOf).Perm ((List.range' 0 (many - 1).toNat).map fun i : Nat => (1 : Int) + i)
theorem same_new {H : Hp} {p : Addr} (h : H p = none) (o : HO) : Same H (upd H p o) := same_of fun b u q => by rw [upd_ne (ne_of_none q h)]; exact q
theorem small {n : Nat} (h : n ≤ 1000) : n ≤ sizeLine := Nat.le_of_lt (small1000 h)
theorem dn_int {H : Hp} {i : Int} {v : V} (h : Dn H (.int i) v) : v = .int i := h
theorem dn_tup {H : Hp} {ds : List PyData} {v : V} (h : Dn H (.tuple ds) v) : ∃ a xs, v = .ref a ∧ H a = some (.tup xs) ∧ DnL H ds xs := h
theorem isW_int {d : PyData} (h : isW d = true) : ∃ i, d = .int i := by
  cases d <;> first | exact ⟨_, rfl⟩ | cases h
theorem sqT {K : PySem.W.Frag} {H : Hp} {a : Addr} {xs : List V} (h : H a = some (.tup xs)) : SqT K H a xs := .inl (.inl h)
theorem at0 {x : V} {r : List V} : atI (x :: r) 0 = some x := atI_nat (j := 0) rfl
theorem at1 {x y : V} {r : List V} : atI (x :: y :: r) 1 = some y := atI_nat (j := 1) rfl
theorem at2 {x y z : V} {r : List V} : atI (x :: y :: z :: r) 2 = some z := atI_nat (j := 2) rfl
theorem at3 {x y z w : V} {r : List V} : atI (x :: y :: z :: w :: r) 3 = some w := atI_nat (j := 3) rfl
theorem within_int {d : PyData} {lo hi : Int} (h : within d lo hi = true) : ∃ i, d = .int i ∧ lo ≤ i ∧ i ≤ hi := by
  cases d with
  | int i =>
    have z : (decide (lo ≤ i) && decide (i ≤ hi)) = true := h
    simp only [Bool.and_eq_true, decide_eq_true_eq] at z
    exact ⟨i, rfl, z.1, z.2⟩
  | _ => cases h
theorem tupFull_tup {d : PyData} (h : tupFull d = true) : ∃ ds, d = .tuple ds ∧ 0 < ds.length := by
  cases d with
  | tuple ds => exact ⟨ds, rfl, of_decide_eq_true h⟩
  | _ => cases h
theorem dnl_ints {H : Hp} : ∀ {ns : List Int} {xs : List V}, DnL H (ns.map PyData.int) xs → xs = ns.map V.int
  | [], xs, h => h
  | n :: r, _, ⟨x, t, rfl, hx, ht⟩ => by rw [dnl_ints ht, dn_int hx]; rfl
theorem ints_dnl {H : Hp} : ∀ (ns : List Int), DnL H (ns.map PyData.int) (ns.map V.int)
  | [] => rfl
  | n :: r => ⟨_, _, rfl, rfl, ints_dnl r⟩
end Wd

set_option maxRecDepth 100000
set_option maxHeartbeats 4000000
namespace Ow
open PySem L2 Wd
-- woods
/-! ### the program's looks -/
-- woods2
-- woods3a
/-- a wood in the heap -/
structure WoodAt (H : Hp) (wd : Addr) (many : Int) (xs ys : List V) : Prop where
  ex : ∃ tb tc, H wd = some (.tup [.int many, .ref tb, .ref tc]) ∧ H tb = some (.tup xs) ∧ H tc = some (.tup ys)
def spMany : Sp := fun vs H Q _ => ∃ (wd : Addr) (many : Int) (xs ys : List V), vs = [.ref wd] ∧ WoodAt H wd many xs ys ∧ Q (.int ((xs.length : Int) + (ys.length : Int))) H
def spTieAt : Sp := fun vs H Q _ => ∃ (wd : Addr) (many : Int) (xs ys : List V) (t : Nat) (v : V), vs = [.ref wd, .int t] ∧ WoodAt H wd many xs ys ∧ (xs ++ ys)[t]? = some v ∧ Q v H
theorem flatMap_take {α β : Type} {f : α → List β} {ds : List α} {i : Nat} {d : α} (h : ds[i]? = some d) : (ds.take (i + 1)).flatMap f = (ds.take i).flatMap f ++ f d := by
  obtain ⟨hi, e⟩ := List.getElem?_eq_some_iff.mp h
  rw [List.take_succ_eq_append_getElem hi, List.flatMap_append, e]
  simp
-- woods3t
-- laws
/-! ### the statement's own helpers -/
/-- data of tuples, texts and ints alone, so deep at most -/
def flatD : Nat → PyData → Bool
  | _, .int _ => true
  | _, .str s => PyData.strOk s
  | n + 1, .tuple ds => decide (ds.length ≤ 1000) && ds.all (flatD n)
  | _, _ => false
/-! a tie made -/
theorem mod_near {many one x : Int} (h1 : 1 < many) (h9 : many ≤ 9) (o0 : 0 ≤ one) (o1 : one < many) (x0 : 0 ≤ x) (x1 : x < many - 1) : 0 ≤ (one + 1 + x) % many ∧ (one + 1 + x) % many < many ∧ one ≠ (one + 1 + x) % many := by
  have e : many = 2 ∨ many = 3 ∨ many = 4 ∨ many = 5 ∨ many = 6 ∨ many = 7 ∨ many = 8 ∨ many = 9 := by omega
  rcases e with rfl | rfl | rfl | rfl | rfl | rfl | rfl | rfl <;> omega
theorem strOk_most : PyData.strOk ("most" : Str) = true := by decide +kernel
theorem strOk_needs : PyData.strOk ("needs" : Str) = true := by decide +kernel
theorem strOk_bans : PyData.strOk ("bans" : Str) = true := by decide +kernel
theorem pow_le {m : Nat} (h : m ≤ 9) : 2 ^ m ≤ 512 := Nat.pow_le_pow_right (by decide) h
/-- the pairs of a most tie so far: options below i, rising -/
structure PairsTo (H : Hp) (i : Nat) (ps : List PyData) (xs : List V) : Prop where
  dn : DnL H ps xs
  ok : ps.all pairOk = true
  flat : ps.all (flatD 1) = true
  ris : rising (i : Int) (ps.map fstD) (-1) = true
  few : ps.length ≤ i
theorem rising_mono {m m' : Int} (h : m ≤ m') : ∀ {ks : List PyData} {u : Int}, rising m ks u = true → rising m' ks u = true
  | [], _, _ => rfl
  | .int i :: ks, u, z => by
    have z' : (decide (u + 1 ≤ i) && decide (i ≤ m - 1) && rising m ks i) = true := z
    show (decide (u + 1 ≤ i) && decide (i ≤ m' - 1) && rising m' ks i) = true
    simp only [Bool.and_eq_true, decide_eq_true_eq] at z' ⊢
    exact ⟨⟨z'.1.1, by omega⟩, rising_mono h z'.2⟩
  | .none :: _, _, z => by cases z
  | .bool _ :: _, _, z => by cases z
  | .str _ :: _, _, z => by cases z
  | .list _ :: _, _, z => by cases z
  | .tuple _ :: _, _, z => by cases z
  | .dict _ :: _, _, z => by cases z
theorem rising_snoc {m j : Int} (h : j < m) : ∀ {ks : List PyData} {u : Int}, rising j ks u = true → u < j → rising m (ks ++ [.int j]) u = true
  | [], u, _, hu => by
    show (decide (u + 1 ≤ j) && decide (j ≤ m - 1) && true) = true
    rw [decide_eq_true (by omega), decide_eq_true (by omega)]
    rfl
  | .int i :: ks, u, z, hu => by
    have z' : (decide (u + 1 ≤ i) && decide (i ≤ j - 1) && rising j ks i) = true := z
    show (decide (u + 1 ≤ i) && decide (i ≤ m - 1) && rising m (ks ++ [.int j]) i) = true
    simp only [Bool.and_eq_true, decide_eq_true_eq] at z' ⊢
    exact ⟨⟨z'.1.1, by omega⟩, rising_snoc h z'.2 (by omega)⟩
  | .none :: _, _, z, _ => by cases z
  | .bool _ :: _, _, z, _ => by cases z
  | .str _ :: _, _, z, _ => by cases z
  | .list _ :: _, _, z, _ => by cases z
  | .tuple _ :: _, _, z, _ => by cases z
  | .dict _ :: _, _, z, _ => by cases z
theorem DnL.keepT {H H' : Hp} {f : PyData → Bool} (k : ∀ d v, f d = true → Dn H d v → Dn H' d v) : ∀ (ds : List PyData) (xs : List V), ds.all f = true → DnL H ds xs → DnL H' ds xs
  | [], _, _, q => q
  | d :: ds, _, c, ⟨x, r, e, q, z⟩ => by
    rw [List.all_cons, Bool.and_eq_true] at c
    exact ⟨x, r, e, k d x c.1 q, DnL.keepT k ds r c.2 z⟩
theorem Dn.keepT {H H' : Hp} (h : ∀ b xs, H b = some (.tup xs) → H' b = some (.tup xs)) : ∀ (n : Nat) (d : PyData) (v : V), flatD n d = true → Dn H d v → Dn H' d v
  | _, .int _, _, _, q => q
  | _, .str _, _, _, q => q
  | n + 1, .tuple ds, _, c, ⟨p, xs, e, q, z⟩ => ⟨p, xs, e, h _ _ q, DnL.keepT (Dn.keepT h n) ds xs ((Bool.and_eq_true _ _).mp c).2 z⟩
  | 0, .tuple ds, _, c, _ => by cases c
  | 0, .none, _, c, _ => by cases c
  | n + 1, .none, _, c, _ => by cases c
  | 0, .bool _, _, c, _ => by cases c
  | n + 1, .bool _, _, c, _ => by cases c
  | 0, .list _, _, c, _ => by cases c
  | n + 1, .list _, _, c, _ => by cases c
  | 0, .dict _, _, c, _ => by cases c
  | n + 1, .dict _, _, c, _ => by cases c
theorem keep_lst {H : Hp} {p : Addr} {xs ys : List V} (h : H p = some (.lst xs)) : ∀ b zs, H b = some (.tup zs) → upd H p (.lst ys) b = some (.tup zs) := fun b zs q => by
  rw [upd_ne (ne_of q h (by intro z; cases z))]
  exact q
-- boughs
/-! ### the boughs made -/
structure Grp where
  t : Addr
  up : Int
  l : Addr
  kids : List Int
/-- the groups stand at g; H0 is the heap at the entry -/
structure GAt (H0 H : Hp) (g : Addr) (gs : List Grp) : Prop where
  at_ : H g = some (.lst (gs.map fun x => V.ref x.t))
  new : H0 g = none
  tup : ∀ x ∈ gs, H x.t = some (.tup [.int x.up, .ref x.l])
  lst : ∀ x ∈ gs, H x.l = some (.lst (x.kids.map V.int)) ∧ H0 x.l = none ∧ g ≠ x.l
  nd : (gs.map (·.l)).Nodup
/-- what holds of the groups when the options below k are dealt out -/
structure GOk (k : Int) (gs : List Grp) : Prop where
  each : ∀ x ∈ gs, 0 ≤ x.up ∧ x.kids ≠ [] ∧ rising k (x.kids.map PyData.int) x.up = true
  perm : (gs.flatMap (·.kids)).Perm ((List.range' 0 (k - 1).toNat).map fun i : Nat => (1 : Int) + i)
theorem GOk.few {k : Int} {gs : List Grp} (G : GOk k gs) : gs.length ≤ (k - 1).toNat := by
  have e := G.perm.length_eq
  rw [List.length_map, List.length_range'] at e
  rw [← e]
  have go : ∀ l : List Grp, (∀ x ∈ l, x.kids ≠ []) → l.length ≤ (l.flatMap (·.kids)).length := by
    intro l
    induction l with
    | nil => intro _; exact Nat.le_refl _
    | cons x r ih =>
      intro h
      rw [List.flatMap_cons, List.length_append, List.length_cons]
      have h1 := List.length_pos_iff.mpr (h x List.mem_cons_self)
      have h2 := ih fun y hy => h y (List.mem_cons_of_mem _ hy)
      omega
  exact go gs fun x hx => (G.each x hx).2.1
theorem range_snoc (k : Nat) : ((List.range' 0 k).map fun i : Nat => (1 : Int) + i) ++ [((k : Int) + 1)] = (List.range' 0 (k + 1)).map fun i : Nat => (1 : Int) + i := by
  rw [List.range'_concat, List.map_append]
  simp
  omega
theorem GOk.new {k : Nat} {gs : List Grp} {t l : Addr} {u : Int} (G : GOk ((k : Int) + 1) gs) (u0 : 0 ≤ u) (u1 : u < (k : Int) + 1) : GOk ((k : Int) + 2) (gs ++ [⟨t, u, l, [(k : Int) + 1]⟩]) where
  each := fun x hx => by
    rcases List.mem_append.mp hx with z | z
    · obtain ⟨a, b, c⟩ := G.each x z
      exact ⟨a, b, rising_mono (by omega) c⟩
    · rw [List.mem_singleton.mp z]
      refine ⟨u0, by simp, ?_⟩
      show (decide (u + 1 ≤ (k : Int) + 1) && decide ((k : Int) + 1 ≤ (k : Int) + 2 - 1) && true) = true
      rw [decide_eq_true (by omega), decide_eq_true (by omega)]
      rfl
  perm := by
    rw [List.flatMap_append]
    have e : ((k : Int) + 2 - 1).toNat = k + 1 := by omega
    have e' : ((k : Int) + 1 - 1).toNat = k := by omega
    have p := G.perm
    rw [e'] at p
    rw [e, ← range_snoc]
    exact p.append (by simp)
theorem GOk.put {k : Nat} {pre post : List Grp} {x : Grp} (G : GOk ((k : Int) + 1) (pre ++ x :: post)) : GOk ((k : Int) + 2) (pre ++ ⟨x.t, x.up, x.l, x.kids ++ [(k : Int) + 1]⟩ :: post) where
  each := fun y hy => by
    have old : ∀ z ∈ pre ++ x :: post, 0 ≤ z.up ∧ z.kids ≠ [] ∧ rising ((k : Int) + 2) (z.kids.map PyData.int) z.up = true := fun z hz => by
      obtain ⟨a, b, c⟩ := G.each z hz
      exact ⟨a, b, rising_mono (by omega) c⟩
    rcases List.mem_append.mp hy with z | z
    · exact old y (List.mem_append_left _ z)
    · rcases List.mem_cons.mp z with z | z
      · subst z
        obtain ⟨a, b, c⟩ := G.each x (by simp)
        refine ⟨a, by simp, ?_⟩
        show rising ((k : Int) + 2) ((x.kids ++ [(k : Int) + 1]).map PyData.int) x.up = true
        rw [List.map_append]
        refine rising_snoc (by omega) c ?_
        cases hk : x.kids with
        | nil => exact absurd hk b
        | cons n r =>
          rw [hk] at c
          have c' : (decide (x.up + 1 ≤ n) && decide (n ≤ (k : Int) + 1 - 1) && rising ((k : Int) + 1) (r.map PyData.int) n) = true := c
          simp only [Bool.and_eq_true, decide_eq_true_eq] at c'
          omega
      · exact old y (by simp [z])
  perm := by
    have e : ((k : Int) + 2 - 1).toNat = k + 1 := by omega
    have e' : ((k : Int) + 1 - 1).toNat = k := by omega
    have p := G.perm
    rw [e'] at p
    rw [e, ← range_snoc]
    refine List.Perm.trans ?_ (p.append (List.Perm.refl [((k : Int) + 1)]))
    rw [List.flatMap_append, List.flatMap_append, List.flatMap_cons, List.flatMap_cons, List.append_assoc, List.append_assoc, List.append_assoc]
    exact (List.Perm.refl _).append ((List.Perm.refl _).append List.perm_append_comm)
theorem GAt.put {H0 H : Hp} {g : Addr} {pre post : List Grp} {x : Grp} {k : Int} (G : GAt H0 H g (pre ++ x :: post)) : GAt H0 (upd H x.l (.lst (x.kids.map V.int ++ [.int k]))) g (pre ++ ⟨x.t, x.up, x.l, x.kids ++ [k]⟩ :: post) := by
  have hx : x ∈ pre ++ x :: post := by simp
  obtain ⟨a, b, c⟩ := G.lst x hx
  have nd := G.nd
  rw [List.map_append, List.map_cons] at nd
  obtain ⟨_, n2, n3⟩ := List.nodup_append.mp nd
  have oth : ∀ y, y ∈ pre ∨ y ∈ post → y.l ≠ x.l := fun y hy e => by
    rcases hy with hy | hy
    · exact n3 y.l (List.mem_map.mpr ⟨y, hy, rfl⟩) x.l (by simp) e
    · exact (List.nodup_cons.mp n2).1 (by rw [← e]; exact List.mem_map.mpr ⟨y, hy, rfl⟩)
  have mem : ∀ y ∈ pre ++ (⟨x.t, x.up, x.l, x.kids ++ [k]⟩ : Grp) :: post, (y ∈ pre ∨ y ∈ post) ∨ y = ⟨x.t, x.up, x.l, x.kids ++ [k]⟩ := fun y hy => by
    rcases List.mem_append.mp hy with z | z
    · exact .inl (.inl z)
    · rcases List.mem_cons.mp z with z | z
      · exact .inr z
      · exact .inl (.inr z)
  have old : ∀ y, y ∈ pre ∨ y ∈ post → y ∈ pre ++ x :: post := fun y hy => by
    rcases hy with z | z <;> simp [z]
  refine ⟨?_, G.new, fun y hy => ?_, fun y hy => ?_, ?_⟩
  · rw [upd_ne c, G.at_, List.map_append, List.map_append, List.map_cons, List.map_cons]
  · rcases mem y hy with z | rfl
    · rw [upd_ne (ne_of (G.tup y (old y z)) a (by intro q; cases q))]
      exact G.tup y (old y z)
    · show upd H x.l _ x.t = _
      rw [upd_ne (ne_of (G.tup x hx) a (by intro q; cases q))]
      exact G.tup x hx
  · rcases mem y hy with z | rfl
    · obtain ⟨a', b', c'⟩ := G.lst y (old y z)
      refine ⟨?_, b', c'⟩
      rw [upd_ne (oth y z)]
      exact a'
    · refine ⟨?_, b, c⟩
      show upd H x.l _ x.l = _
      rw [upd_same, List.map_append]
      rfl
  · have e : (pre ++ (⟨x.t, x.up, x.l, x.kids ++ [k]⟩ : Grp) :: post).map (·.l) = (pre ++ x :: post).map (·.l) := by
      rw [List.map_append, List.map_append, List.map_cons, List.map_cons]
    rw [e]
    exact G.nd
theorem GAt.same {H0 H H' : Hp} {g : Addr} {gs : List Grp} (G : GAt H0 H g gs) (s : Same H H') : GAt H0 H' g gs :=
  ⟨s _ _ G.at_, G.new, fun x hx => s _ _ (G.tup x hx), fun x hx => ⟨s _ _ (G.lst x hx).1, (G.lst x hx).2⟩, G.nd⟩
/-- the bough of a group -/
def bghD (u lo hi : Int) (kids : List Int) : PyData := .tuple [.int u, .int lo, .int hi, .tuple (kids.map PyData.int)]
theorem bgh_ok {m u lo hi : Int} {kids : List Int} (u0 : 0 ≤ u) (ne : kids ≠ []) (r : rising m (kids.map PyData.int) u = true) (l0 : 0 ≤ lo) (l1 : lo ≤ hi) (h0 : 1 ≤ hi) (h1 : hi ≤ kids.length) : isBough m (bghD u lo hi kids) = true := by
  have u1 : u ≤ m - 1 := by
    cases hk : kids with
    | nil => exact absurd hk ne
    | cons n t =>
      rw [hk] at r
      have c' : (decide (u + 1 ≤ n) && decide (n ≤ m - 1) && rising m (t.map PyData.int) n) = true := r
      simp only [Bool.and_eq_true, decide_eq_true_eq] at c'
      omega
  show (within (.int u) 0 (m - 1) && (tupFull (.tuple (kids.map PyData.int)) && (rising m (kids.map PyData.int) u && (within (.int hi) 1 ((kids.map PyData.int).length : Nat) && within (.int lo) 0 hi)))) = true
  have e1 : within (.int u) 0 (m - 1) = true := by
    show (decide (0 ≤ u) && decide (u ≤ m - 1)) = true
    rw [decide_eq_true u0, decide_eq_true u1]
    rfl
  have e2 : tupFull (.tuple (kids.map PyData.int)) = true := by
    refine decide_eq_true ?_
    rw [List.length_map]
    exact List.length_pos_iff.mpr ne
  have e3 : within (.int hi) 1 ((kids.map PyData.int).length : Nat) = true := by
    show (decide (1 ≤ hi) && decide (hi ≤ ((kids.map PyData.int).length : Nat))) = true
    rw [List.length_map, decide_eq_true h0, decide_eq_true h1]
    rfl
  have e4 : within (.int lo) 0 hi = true := by
    show (decide (0 ≤ lo) && decide (lo ≤ hi)) = true
    rw [decide_eq_true l0, decide_eq_true l1]
    rfl
  rw [e1, e2, r, e3, e4]
  rfl
theorem flat_ints1 (kids : List Int) : (kids.map PyData.int).all (flatD 1) = true := by
  rw [List.all_eq_true]
  intro x hx
  obtain ⟨i, _, rfl⟩ := List.mem_map.mp hx
  rfl
theorem bgh_flat (u lo hi : Int) (kids : List Int) (h : kids.length ≤ 1000) : flatD 3 (bghD u lo hi kids) = true := by
  show (true && (true && (true && (true && ((decide ((kids.map PyData.int).length ≤ 1000) && (kids.map PyData.int).all (flatD 1)) && true))))) = true
  rw [flat_ints1, List.length_map, decide_eq_true h]
  rfl
theorem bgh_kids (u lo hi : Int) (kids : List Int) : kidsOf (bghD u lo hi kids) = kids := by
  show (kids.map PyData.int).map toI = kids
  rw [List.map_map]
  have : (toI ∘ PyData.int) = id := rfl
  rw [this, List.map_id]

end Ow

/-! ### Ties and sets: the mathematics -/
namespace Wd
inductive Tie where
  | bough (u : Nat) (lo hi : Int) (ks : List Nat)
  | needs (a b : Nat)
  | bans (a b : Nat)
  | most (top : Int) (ps : List (Nat × Int))
def cnt (ks : List Nat) (s : Nat) : Nat := (ks.filter fun k => s.testBit k).length
def sumP (ps : List (Nat × Int)) (f : Nat × Int → Bool) : Int := ((ps.filter f).map (·.2)).sum
def Tie.keep : Tie → Nat → Bool
  | .bough u lo hi ks, s => if s.testBit u = true then decide (lo ≤ (cnt ks s : Int)) && decide ((cnt ks s : Int) ≤ hi) else decide (cnt ks s = 0)
  | .needs a b, s => !s.testBit a || s.testBit b
  | .bans a b, s => !s.testBit a || !s.testBit b
  | .most top ps, s => decide (sumP ps (fun p => s.testBit p.1) ≤ top)
structure Tie.BoughOk (m u : Nat) (lo hi : Int) (ks : List Nat) : Prop where
  um : u < m
  ks0 : ks ≠ []
  up : ∀ k ∈ ks, u < k ∧ k < m
  ris : ks.Pairwise (· < ·)
  few : ks.length ≤ m
  lo0 : 0 ≤ lo
  lohi : lo ≤ hi
  hi1 : 1 ≤ hi
  hik : hi ≤ ks.length
theorem Tie.BoughOk.nd {m u : Nat} {lo hi : Int} {ks : List Nat} (h : Tie.BoughOk m u lo hi ks) : ks.Nodup := h.ris.imp fun a => Nat.ne_of_lt a
def Tie.Ok (m : Nat) : Tie → Prop
  | .bough u lo hi ks => Tie.BoughOk m u lo hi ks
  | .needs a b => a < m ∧ b < m ∧ a ≠ b
  | .bans a b => a < m ∧ b < m ∧ a ≠ b
  | .most _ ps => ps ≠ [] ∧ (∀ p ∈ ps, p.1 < m) ∧ (ps.map (·.1)).Pairwise (· < ·) ∧ ps.length ≤ m
/-- a set lies in a stand -/
def InS (y n s : Nat) : Prop := (∀ k, y.testBit k = true → s.testBit k = true) ∧ ∀ k, n.testBit k = true → s.testBit k = false
def leastSum (ps : List (Nat × Int)) (y n : Nat) : Int := sumP ps fun p => y.testBit p.1 || (decide (p.2 < 0) && !n.testBit p.1)
def Tie.sb : Tie → Nat → Nat → Bool
  | .needs a b, y, n => y.testBit a && n.testBit b
  | .bans a b, y, n => y.testBit a && y.testBit b
  | .most top ps, y, n => decide (top < leastSum ps y n)
  | .bough u lo hi ks, y, n => !(!n.testBit u && (decide ((cnt ks y : Int) ≤ hi) && decide (lo ≤ (ks.length : Int) - cnt ks n))) && !(!y.testBit u && decide (cnt ks y = 0))
theorem keep_up {u : Nat} {lo hi : Int} {ks : List Nat} {s : Nat} (h : s.testBit u = true) : (Tie.bough u lo hi ks).keep s = (decide (lo ≤ (cnt ks s : Int)) && decide ((cnt ks s : Int) ≤ hi)) := by
  simp only [Tie.keep, h, if_true]
theorem keep_no {u : Nat} {lo hi : Int} {ks : List Nat} {s : Nat} (h : ¬ s.testBit u = true) : (Tie.bough u lo hi ks).keep s = decide (cnt ks s = 0) := by
  simp only [Tie.keep, if_neg h]
theorem sumP_cons (p : Nat × Int) (r : List (Nat × Int)) (f : Nat × Int → Bool) : sumP (p :: r) f = (if f p = true then p.2 else 0) + sumP r f := by
  unfold sumP
  by_cases h : f p = true
  · rw [List.filter_cons_of_pos h, if_pos h]; simp
  · rw [List.filter_cons_of_neg h, if_neg h]; simp
theorem sumP_le {f g : Nat × Int → Bool} : ∀ {ps : List (Nat × Int)}, (∀ p ∈ ps, (if f p = true then p.2 else 0) ≤ (if g p = true then p.2 else 0)) → sumP ps f ≤ sumP ps g
  | [], _ => Int.le_refl _
  | p :: r, h => by
    rw [sumP_cons, sumP_cons]
    have h1 := h p List.mem_cons_self
    have h2 := sumP_le (ps := r) fun q hq => h q (List.mem_cons_of_mem _ hq)
    omega
theorem sumP_eq {f g : Nat × Int → Bool} {ps : List (Nat × Int)} (h : ∀ p ∈ ps, f p = g p) : sumP ps f = sumP ps g := by
  unfold sumP
  rw [List.filter_congr h]
theorem cnt_cons (k : Nat) (r : List Nat) (s : Nat) : cnt (k :: r) s = (if s.testBit k = true then 1 else 0) + cnt r s := by
  unfold cnt
  by_cases h : s.testBit k = true
  · rw [List.filter_cons_of_pos (p := fun k => s.testBit k) h, if_pos h, List.length_cons]; omega
  · rw [List.filter_cons_of_neg (p := fun k => s.testBit k) h, if_neg h]; omega
theorem cnt_congr {ks : List Nat} {s t : Nat} (h : ∀ k ∈ ks, s.testBit k = t.testBit k) : cnt ks s = cnt ks t := by
  unfold cnt
  rw [List.filter_congr h]
theorem cnt_mono {s t : Nat} : ∀ {ks : List Nat}, (∀ k ∈ ks, s.testBit k = true → t.testBit k = true) → cnt ks s ≤ cnt ks t
  | [], _ => Nat.le_refl _
  | k :: r, h => by
    rw [cnt_cons, cnt_cons]
    have h2 := cnt_mono (ks := r) fun q hq => h q (List.mem_cons_of_mem _ hq)
    have h1 := h k List.mem_cons_self
    by_cases c : s.testBit k = true
    · rw [if_pos c, if_pos (h1 c)]; omega
    · rw [if_neg c]; omega
/-- those of yes and those of no are no more than all -/
theorem cnt_two {s n : Nat} : ∀ {ks : List Nat}, (∀ k ∈ ks, n.testBit k = true → s.testBit k = false) → cnt ks s + cnt ks n ≤ ks.length
  | [], _ => Nat.le_refl _
  | k :: r, h => by
    rw [cnt_cons, cnt_cons, List.length_cons]
    have h2 := cnt_two (ks := r) fun q hq => h q (List.mem_cons_of_mem _ hq)
    have h1 := h k List.mem_cons_self
    by_cases c : n.testBit k = true
    · rw [h1 c, if_pos c]; simp; omega
    · rw [if_neg c]; split <;> omega
/-- a set by a predicate -/
def maskL : List Nat → Nat
  | [] => 0
  | k :: r => maskL r ||| 2 ^ k
theorem maskL_bit (j : Nat) : ∀ l : List Nat, (maskL l).testBit j = decide (j ∈ l)
  | [] => by simp [maskL]
  | k :: r => by
    rw [maskL, Nat.testBit_or, maskL_bit j r, Nat.testBit_two_pow]
    by_cases h : k = j
    · subst h; simp
    · have h' : j ≠ k := fun z => h z.symm
      simp [h, h']
theorem nodup_fst {ps : List (Nat × Int)} (h : (ps.map (·.1)).Nodup) {p q : Nat × Int} (hp : p ∈ ps) (hq : q ∈ ps) (e : p.1 = q.1) : p = q := by
  induction ps with
  | nil => cases hp
  | cons x r ih =>
    rw [List.map_cons, List.nodup_cons] at h
    rcases List.mem_cons.mp hp with e1 | hp
    · rcases List.mem_cons.mp hq with e2 | hq
      · rw [e1, e2]
      · exact absurd (show x.1 ∈ r.map (·.1) from List.mem_map.mpr ⟨q, hq, by rw [← e1, e]⟩) h.1
    · rcases List.mem_cons.mp hq with e2 | hq
      · exact absurd (show x.1 ∈ r.map (·.1) from List.mem_map.mpr ⟨p, hp, by rw [← e2, e]⟩) h.1
      · exact ih h.2 hp hq
theorem keep_congr {m : Nat} {t : Tie} (ok : t.Ok m) {s s' : Nat} (h : ∀ k, k < m → s.testBit k = s'.testBit k) : t.keep s = t.keep s' := by
  cases t with
  | bough u lo hi ks =>
    have e : cnt ks s = cnt ks s' := cnt_congr fun k hk => h k (ok.up k hk).2
    simp only [Tie.keep]
    rw [e, h u ok.um]
  | needs a b => simp only [Tie.keep]; rw [h a ok.1, h b ok.2.1]
  | bans a b => simp only [Tie.keep]; rw [h a ok.1, h b ok.2.1]
  | most top ps =>
    simp only [Tie.keep]
    rw [sumP_eq fun p hp => h p.1 (ok.2.1 p hp)]
/-- y with some more options -/
theorem inS_more {y n : Nat} {l : List Nat} (d : ∀ k, y.testBit k = true → n.testBit k = false) (h : ∀ k ∈ l, n.testBit k = false) : InS y n (y ||| maskL l) := by
  refine ⟨fun k hk => ?_, fun k hk => ?_⟩
  · rw [Nat.testBit_or, hk, Bool.true_or]
  · rw [Nat.testBit_or, maskL_bit]
    have h1 : y.testBit k = false := by
      cases e : y.testBit k with
      | false => rfl
      | true => rw [d k e] at hk; cases hk
    have h2 : ¬ k ∈ l := fun z => by rw [h k z] at hk; cases hk
    rw [h1, decide_eq_false h2]; rfl
theorem bit_more (y : Nat) (l : List Nat) (k : Nat) : (y ||| maskL l).testBit k = (y.testBit k || decide (k ∈ l)) := by
  rw [Nat.testBit_or, maskL_bit]
theorem cnt_add {y : Nat} : ∀ {ks : List Nat}, ks.Nodup → ∀ c : Nat, cnt ks y ≤ c → ∀ n : Nat, (∀ k, y.testBit k = true → n.testBit k = false) → c + cnt ks n ≤ ks.length →
    ∃ l : List Nat, (∀ k ∈ l, k ∈ ks ∧ n.testBit k = false) ∧ cnt ks (y ||| maskL l) = c
  | [], _, c, h1, n, _, h2 => ⟨[], (fun _ z => nomatch z), by simp [cnt] at h2 ⊢; omega⟩
  | k :: r, nd, c, h1, n, d, h2 => by
    obtain ⟨nk, nr⟩ := List.nodup_cons.mp nd
    rw [cnt_cons] at h1 h2
    rw [List.length_cons] at h2
    by_cases hy : y.testBit k = true
    · rw [if_pos hy] at h1
      have hn := d k hy
      rw [hn] at h2
      obtain ⟨l, hl, e⟩ := cnt_add nr (c - 1) (by omega) n d (by simp at h2; omega)
      refine ⟨l, fun j hj => ⟨List.mem_cons_of_mem _ (hl j hj).1, (hl j hj).2⟩, ?_⟩
      rw [cnt_cons, e, bit_more, hy, Bool.true_or, if_pos rfl]
      omega
    · rw [if_neg hy] at h1
      by_cases hn : n.testBit k = true
      · rw [if_pos hn] at h2
        obtain ⟨l, hl, e⟩ := cnt_add nr c (by omega) n d (by omega)
        refine ⟨l, fun j hj => ⟨List.mem_cons_of_mem _ (hl j hj).1, (hl j hj).2⟩, ?_⟩
        have : ¬ k ∈ l := fun z => nk (hl k z).1
        rw [cnt_cons, e, bit_more, Bool.eq_false_iff.mpr hy, decide_eq_false this]
        simp
      · rw [if_neg hn] at h2
        by_cases full : c + cnt r n ≤ r.length
        · obtain ⟨l, hl, e⟩ := cnt_add nr c (by omega) n d full
          refine ⟨l, fun j hj => ⟨List.mem_cons_of_mem _ (hl j hj).1, (hl j hj).2⟩, ?_⟩
          have : ¬ k ∈ l := fun z => nk (hl k z).1
          rw [cnt_cons, e, bit_more, Bool.eq_false_iff.mpr hy, decide_eq_false this]
          simp
        · have hc : cnt r y + cnt r n ≤ r.length := cnt_two fun j _ hj => by
            cases e : y.testBit j with
            | false => rfl
            | true => rw [d j e] at hj; cases hj
          obtain ⟨l, hl, e⟩ := cnt_add nr (c - 1) (by omega) n d (by omega)
          refine ⟨k :: l, fun j hj => ?_, ?_⟩
          · rcases List.mem_cons.mp hj with rfl | z
            · exact ⟨List.mem_cons_self, Bool.eq_false_iff.mpr hn⟩
            · exact ⟨List.mem_cons_of_mem _ (hl j z).1, (hl j z).2⟩
          · have e2 : cnt r (y ||| maskL (k :: l)) = cnt r (y ||| maskL l) := cnt_congr fun j hj => by
              have : j ≠ k := fun z => nk (z ▸ hj)
              rw [bit_more, bit_more]
              simp [this]
            rw [cnt_cons, e2, e, bit_more, decide_eq_true List.mem_cons_self, Bool.or_true, if_pos rfl]
            omega
/-- for sure broken, told by all sets in the stand -/
theorem sb_iff {m : Nat} {t : Tie} (ok : t.Ok m) {y n : Nat} (d : ∀ k, y.testBit k = true → n.testBit k = false) : t.sb y n = true ↔ ∀ s, InS y n s → t.keep s = false := by
  have dn : ∀ k, n.testBit k = true → y.testBit k = false := fun k hk => by
    cases e : y.testBit k with
    | false => rfl
    | true => rw [d k e] at hk; cases hk
  cases t with
  | needs a b =>
    constructor
    · intro h s hs
      have h' : (y.testBit a && n.testBit b) = true := h
      rw [Bool.and_eq_true] at h'
      show (!s.testBit a || s.testBit b) = false
      rw [hs.1 a h'.1, hs.2 b h'.2]; rfl
    · intro h
      show (y.testBit a && n.testBit b) = true
      cases e1 : y.testBit a with
      | false =>
        have hh := h y ⟨fun _ z => z, dn⟩
        have h2 : (!y.testBit a || y.testBit b) = false := hh
        rw [e1] at h2; cases h2
      | true =>
        cases e2 : n.testBit b with
        | true => rfl
        | false =>
          have h2 : (!(y ||| maskL [b]).testBit a || (y ||| maskL [b]).testBit b) = false := h _ (inS_more d fun k hk => by rw [List.mem_singleton.mp hk]; exact e2)
          rw [bit_more y [b] b, decide_eq_true (List.mem_singleton.mpr rfl), Bool.or_true, Bool.or_true] at h2
          cases h2
  | bans a b =>
    constructor
    · intro h s hs
      have h' : (y.testBit a && y.testBit b) = true := h
      rw [Bool.and_eq_true] at h'
      show (!s.testBit a || !s.testBit b) = false
      rw [hs.1 a h'.1, hs.1 b h'.2]; rfl
    · intro h
      have h2 : (!y.testBit a || !y.testBit b) = false := h y ⟨fun _ z => z, dn⟩
      show (y.testBit a && y.testBit b) = true
      cases e1 : y.testBit a <;> cases e2 : y.testBit b <;> rw [e1, e2] at h2 <;> simp_all
  | most top ps =>
    constructor
    · intro h s hs
      have h' : top < leastSum ps y n := of_decide_eq_true h
      refine decide_eq_false fun z => ?_
      have le : leastSum ps y n ≤ sumP ps (fun p => s.testBit p.1) := sumP_le fun p _ => by
        cases e1 : y.testBit p.1 with
        | true => rw [hs.1 _ e1]; simp
        | false =>
          cases e2 : n.testBit p.1 with
          | true => rw [hs.2 _ e2]; simp
          | false =>
            by_cases c : p.2 < 0
            · simp [c]; split <;> omega
            · simp [c]; split <;> omega
      omega
    · intro h
      refine decide_eq_true ?_
      let l := (ps.filter fun p => decide (p.2 < 0) && !n.testBit p.1).map (·.1)
      have hl : ∀ k ∈ l, n.testBit k = false := fun k hk => by
        obtain ⟨p, hp, rfl⟩ := List.mem_map.mp hk
        have := (List.mem_filter.mp hp).2
        simp at this
        exact this.2
      have h2 : decide (sumP ps (fun p => (y ||| maskL l).testBit p.1) ≤ top) = false := h _ (inS_more d hl)
      have e : sumP ps (fun p => (y ||| maskL l).testBit p.1) = leastSum ps y n := sumP_eq fun p hp => by
        show (y ||| maskL l).testBit p.1 = (y.testBit p.1 || (decide (p.2 < 0) && !n.testBit p.1))
        rw [bit_more]
        congr 1
        by_cases c : (decide (p.2 < 0) && !n.testBit p.1) = true
        · rw [c]
          exact decide_eq_true (List.mem_map.mpr ⟨p, List.mem_filter.mpr ⟨hp, c⟩, rfl⟩)
        · rw [Bool.eq_false_iff.mpr c]
          refine decide_eq_false fun z => ?_
          obtain ⟨q, hq, e⟩ := List.mem_map.mp z
          have hq' := List.mem_filter.mp hq
          -- the options of the pairs are unlike
          have : q = p := nodup_fst (ok.2.2.1.imp fun a => Nat.ne_of_lt a) hq'.1 hp e
          rw [this] at hq'
          exact c hq'.2
      rw [e] at h2
      have := of_decide_eq_false h2
      omega
  | bough u lo hi ks =>
    have c2 : cnt ks y + cnt ks n ≤ ks.length := cnt_two fun j _ hj => dn j hj
    have uk : ¬ u ∈ ks := fun z => Nat.lt_irrefl _ (ok.up u z).1
    constructor
    · intro h s hs
      have h' : (!(!n.testBit u && (decide ((cnt ks y : Int) ≤ hi) && decide (lo ≤ (ks.length : Int) - cnt ks n))) && !(!y.testBit u && decide (cnt ks y = 0))) = true := h
      have g1 : cnt ks y ≤ cnt ks s := cnt_mono fun k _ hk => hs.1 k hk
      have g2 : cnt ks s + cnt ks n ≤ ks.length := cnt_two fun k _ hk => hs.2 k hk
      show (if s.testBit u = true then decide (lo ≤ (cnt ks s : Int)) && decide ((cnt ks s : Int) ≤ hi) else decide (cnt ks s = 0)) = false
      rw [Bool.and_eq_true] at h'
      by_cases su : s.testBit u = true
      · rw [if_pos su]
        have nu : n.testBit u = false := by
          cases e : n.testBit u with
          | false => rfl
          | true => rw [hs.2 u e] at su; cases su
        have h1 := h'.1
        rw [nu] at h1
        simp at h1
        by_cases z : (cnt ks y : Int) ≤ hi
        · rw [decide_eq_false (show ¬ lo ≤ (cnt ks s : Int) by omega), Bool.false_and]
        · rw [decide_eq_false (show ¬ (cnt ks s : Int) ≤ hi by omega), Bool.and_false]
      · rw [if_neg su]
        have yu : y.testBit u = false := by
          cases e : y.testBit u with
          | false => rfl
          | true => exact absurd (hs.1 u e) su
        have h2 := h'.2
        rw [yu] at h2
        simp at h2
        exact decide_eq_false (by omega)
    · intro h
      show (!(!n.testBit u && (decide ((cnt ks y : Int) ≤ hi) && decide (lo ≤ (ks.length : Int) - cnt ks n))) && !(!y.testBit u && decide (cnt ks y = 0))) = true
      rw [Bool.and_eq_true]
      constructor
      · cases e : (!n.testBit u && (decide ((cnt ks y : Int) ≤ hi) && decide (lo ≤ (ks.length : Int) - cnt ks n))) with
        | false => rfl
        | true =>
          exfalso
          simp only [Bool.and_eq_true, decide_eq_true_eq, Bool.not_eq_true'] at e
          obtain ⟨nu, e1, e2⟩ := e
          have hl0 := ok.lo0
          have hlh := ok.lohi
          obtain ⟨l, hl, ec⟩ := cnt_add (Tie.BoughOk.nd ok) (max (cnt ks y) lo.toNat) (Nat.le_max_left _ _) n d (by omega)
          have hk := h (y ||| maskL (u :: l)) (inS_more d fun k hk => by
            rcases List.mem_cons.mp hk with rfl | z
            · exact nu
            · exact (hl k z).2)
          have hb : (y ||| maskL (u :: l)).testBit u = true := by rw [bit_more, decide_eq_true List.mem_cons_self, Bool.or_true]
          have ec2 : cnt ks (y ||| maskL (u :: l)) = max (cnt ks y) lo.toNat := by
            rw [← ec]
            refine cnt_congr fun j hj => ?_
            have : j ≠ u := fun z => uk (z ▸ hj)
            rw [bit_more, bit_more]
            simp [this]
          simp only [Tie.keep, hb, if_true, ec2] at hk
          rw [decide_eq_true (by omega), decide_eq_true (by omega)] at hk
          cases hk
      · cases e : (!y.testBit u && decide (cnt ks y = 0)) with
        | false => rfl
        | true =>
          exfalso
          simp only [Bool.and_eq_true, decide_eq_true_eq, Bool.not_eq_true'] at e
          have hk := h y ⟨fun _ z => z, dn⟩
          simp [Tie.keep, e.1, e.2] at hk
end Wd

set_option maxRecDepth 100000
set_option maxHeartbeats 4000000
/-! ### H. Ties as data -/
namespace Wd
open PySem L2
def pairD (p : Nat × Int) : PyData := .tuple [.int (p.1 : Int), .int p.2]
def Tie.toD : Tie → PyData
  | .bough u lo hi ks => .tuple [.int (u : Int), .int lo, .int hi, .tuple (ks.map fun k : Nat => PyData.int (k : Int))]
  | .needs a b => .tuple [.str ("needs" : Str), .int (a : Int), .int (b : Int)]
  | .bans a b => .tuple [.str ("bans" : Str), .int (a : Int), .int (b : Int)]
  | .most top ps => .tuple [.str ("most" : Str), .int top, .tuple (ps.map pairD)]
theorem rising_nats {m : Nat} : ∀ {ks : List PyData} {last : Int}, -1 ≤ last → last < m → rising m ks last = true →
    ∃ ns : List Nat, ks = ns.map (fun k : Nat => PyData.int (k : Int)) ∧ ns.Pairwise (· < ·) ∧ (∀ k ∈ ns, last < (k : Int) ∧ k < m) ∧ (ns.length : Int) + last + 1 ≤ m
  | [], last, h0, h1, _ => ⟨[], rfl, List.Pairwise.nil, (fun _ z => nomatch z), by simp; omega⟩
  | .int i :: ks, last, h0, h1, h => by
    have z : (decide (last + 1 ≤ i) && decide (i ≤ (m : Int) - 1) && rising m ks i) = true := h
    simp only [Bool.and_eq_true, decide_eq_true_eq] at z
    obtain ⟨ns, e, pw, ab, ln⟩ := rising_nats (by omega) (by omega) z.2
    obtain ⟨j, rfl⟩ : ∃ j : Nat, i = (j : Int) := ⟨i.toNat, by omega⟩
    refine ⟨j :: ns, by rw [e]; rfl, List.Pairwise.cons (fun k hk => ?_) pw, fun k hk => ?_, ?_⟩
    · have := (ab k hk).1; omega
    · rcases List.mem_cons.mp hk with rfl | hk
      · omega
      · have := ab k hk; omega
    · rw [List.length_cons]; omega
  | .none :: _, _, _, _, h => by cases h
  | .bool _ :: _, _, _, _, h => by cases h
  | .str _ :: _, _, _, _, h => by cases h
  | .list _ :: _, _, _, _, h => by cases h
  | .tuple _ :: _, _, _, _, h => by cases h
  | .dict _ :: _, _, _, _, h => by cases h
theorem tie_of_bough {m : Nat} {d : PyData} (h : isBough m d = true) : ∃ u lo hi ks, d = (Tie.bough u lo hi ks).toD ∧ Tie.BoughOk m u lo hi ks := by
  unfold isBough at h
  split at h
  next u l hd k =>
    simp only [Bool.and_eq_true] at h
    obtain ⟨hu, hk, hr, hh, hl⟩ := h
    obtain ⟨ui, rfl, u0, u1⟩ := within_int hu
    obtain ⟨kd, rfl, k0⟩ := tupFull_tup hk
    obtain ⟨hi, rfl, h0, h1⟩ := within_int (show within hd 1 kd.length = true from hh)
    obtain ⟨lo, rfl, l0, l1⟩ := within_int (show within l 0 hi = true from hl)
    obtain ⟨un, rfl⟩ : ∃ j : Nat, ui = (j : Int) := ⟨ui.toNat, by omega⟩
    obtain ⟨ns, rfl, pw, ab, ln⟩ := rising_nats (by omega) (by omega) (show rising m kd un = true from hr)
    rw [List.length_map] at k0 h1
    exact ⟨un, lo, hi, ns, rfl, ⟨by omega, fun z => by rw [z] at k0; simp at k0, fun k hk => by have := ab k hk; omega, pw, by omega, l0, l1, h0, h1⟩⟩
  next => cases h
theorem pairs_nats {m : Nat} : ∀ {ds : List PyData} {ns : List Nat}, ds.all pairOk = true → ds.map fstD = ns.map (fun k : Nat => PyData.int (k : Int)) → ∃ ps : List (Nat × Int), ds = ps.map pairD ∧ ps.map (·.1) = ns
  | [], [], _, _ => ⟨[], rfl, rfl⟩
  | [], _ :: _, _, e => by cases e
  | _ :: _, [], _, e => by cases e
  | d :: ds, n :: ns, h, e => by
    rw [List.all_cons, Bool.and_eq_true] at h
    rw [List.map_cons, List.map_cons] at e
    injection e with e1 e2
    obtain ⟨ps, rfl, rfl⟩ := pairs_nats (m := m) h.2 e2
    have h1 := h.1
    unfold pairOk at h1
    split at h1
    next x y =>
      obtain ⟨i, rfl⟩ := isW_int h1
      refine ⟨(n, i) :: ps, ?_, rfl⟩
      have e3 : x = PyData.int (n : Int) := e1
      rw [e3]
      rfl
    next => cases h1
theorem tie_of_cross {m : Nat} {d : PyData} (h : isTie m d = true) : ∃ t : Tie, d = t.toD ∧ t.Ok m ∧ ∀ u lo hi ks, t ≠ .bough u lo hi ks := by
  unfold isTie at h
  split at h
  next k x y =>
    unfold tieD at h
    split at h
    next s =>
      unfold tieK at h
      split at h
      next hs =>
        rw [Bool.and_eq_true] at h
        obtain ⟨top, rfl⟩ := isW_int h.1
        have h2 := h.2
        unfold arePairs at h2
        split at h2
        next ds =>
          simp only [Bool.and_eq_true, decide_eq_true_eq] at h2
          obtain ⟨⟨d0, dp⟩, dr⟩ := h2
          obtain ⟨ns, e, pw, ab, ln⟩ := rising_nats (by omega) (by omega) dr
          obtain ⟨ps, rfl, rfl⟩ := pairs_nats (m := m) dp e
          rw [List.length_map] at d0 ln
          refine ⟨.most top ps, by rw [hs]; rfl, ⟨fun z => by rw [z] at d0; simp at d0, fun p hp => (ab p.1 (List.mem_map.mpr ⟨p, hp, rfl⟩)).2, pw, by omega⟩, by intro _ _ _ _ z; cases z⟩
        next => cases h2
      next hs =>
        split at h
        next hn =>
          simp only [Bool.and_eq_true] at h
          obtain ⟨ha, hb, hne⟩ := h
          obtain ⟨a, rfl, a0, a1⟩ := within_int ha
          obtain ⟨b, rfl, b0, b1⟩ := within_int hb
          have ne : ¬ a = b := by
            have z : (!decide (a = b)) = true := hne
            simpa using z
          obtain ⟨an, rfl⟩ : ∃ j : Nat, a = (j : Int) := ⟨a.toNat, by omega⟩
          obtain ⟨bn, rfl⟩ : ∃ j : Nat, b = (j : Int) := ⟨b.toNat, by omega⟩
          rcases hn with rfl | rfl
          · exact ⟨.needs an bn, rfl, ⟨by omega, by omega, by omega⟩, by intro _ _ _ _ z; cases z⟩
          · exact ⟨.bans an bn, rfl, ⟨by omega, by omega, by omega⟩, by intro _ _ _ _ z; cases z⟩
        next => cases h
    next => cases h
  next => cases h
/-! what stands in the heap for a tie -/
theorem natsD (ks : List Nat) : (ks.map fun k : Nat => PyData.int (k : Int)) = (ks.map fun k : Nat => (k : Int)).map PyData.int := by rw [List.map_map]; rfl
theorem natsV (ks : List Nat) : (ks.map fun k : Nat => (k : Int)).map V.int = ks.map fun k : Nat => V.int (k : Int) := by rw [List.map_map]; rfl
theorem at_bough {H : Hp} {u : Nat} {lo hi : Int} {ks : List Nat} {v : V} (h : Dn H (Tie.bough u lo hi ks).toD v) : ∃ p pk, v = .ref p ∧ H p = some (.tup [.int (u : Int), .int lo, .int hi, .ref pk]) ∧ H pk = some (.tup (ks.map fun k : Nat => V.int (k : Int))) := by
  obtain ⟨p, xs, rfl, hp, xu, r1, rfl, hu, xl, r2, rfl, hlo, xh, r3, rfl, hh, xk, r4, rfl, hk, hnil⟩ := dn_tup h
  cases (show r4 = [] from hnil)
  cases dn_int hu
  cases dn_int hlo
  cases dn_int hh
  obtain ⟨pk, ys, rfl, hpk, hks⟩ := dn_tup hk
  rw [natsD] at hks
  rw [dnl_ints hks, natsV] at hpk
  exact ⟨p, pk, rfl, hp, hpk⟩
theorem at_word {H : Hp} {w : Str} {a b : Int} {v : V} (h : Dn H (.tuple [.str w, .int a, .int b]) v) : ∃ p, v = .ref p ∧ H p = some (.tup [.str w, .int a, .int b]) := by
  obtain ⟨p, xs, rfl, hp, xu, r1, rfl, hu, xl, r2, rfl, hlo, xh, r3, rfl, hh, hnil⟩ := dn_tup h
  cases (show r3 = [] from hnil)
  cases (show xu = .str w from hu)
  cases dn_int hlo
  cases dn_int hh
  exact ⟨p, rfl, hp⟩
theorem at_most {H : Hp} {top : Int} {ps : List (Nat × Int)} {v : V} (h : Dn H (Tie.most top ps).toD v) : ∃ p q xs, v = .ref p ∧ H p = some (.tup [.str ("most" : Str), .int top, .ref q]) ∧ H q = some (.tup xs) ∧ DnL H (ps.map pairD) xs := by
  obtain ⟨p, xs, rfl, hp, xu, r1, rfl, hu, xl, r2, rfl, hlo, xh, r3, rfl, hh, hnil⟩ := dn_tup h
  cases (show r3 = [] from hnil)
  cases (show xu = .str ("most" : Str) from hu)
  cases dn_int hlo
  obtain ⟨q, ys, rfl, hq, hks⟩ := dn_tup hh
  exact ⟨p, q, ys, rfl, hp, hq, hks⟩
theorem at_pair {H : Hp} {ps : List (Nat × Int)} {xs : List V} (h : DnL H (ps.map pairD) xs) {i : Nat} {x : V} (hx : xs[i]? = some x) : ∃ p r, ps[i]? = some p ∧ x = .ref r ∧ H r = some (.tup [.int (p.1 : Int), .int p.2]) := by
  obtain ⟨d, hd, hx'⟩ := h.get hx
  rw [List.getElem?_map] at hd
  obtain ⟨p, hp, rfl⟩ := Option.map_eq_some_iff.mp hd
  obtain ⟨r, ys, rfl, hr, xa, r1, rfl, ha, xb, r2, rfl, hb, hnil⟩ := dn_tup (show Dn H (.tuple [.int (p.1 : Int), .int p.2]) x from hx')
  cases (show r2 = [] from hnil)
  cases dn_int ha
  cases dn_int hb
  exact ⟨p, r, hp, rfl, hr⟩
/-! sets as ints -/
def hasV (n k : Int) : Bool := decide (0 ≤ k) && decide (n / 2 ^ k.toNat % 2 = 1)
theorem hasV_nat (s u : Nat) : hasV (s : Int) (u : Int) = s.testBit u := by
  unfold hasV
  rw [decide_eq_true (by omega), Bool.true_and, Nat.testBit_eq_decide_div_mod_eq, Int.toNat_natCast]
  have e : ((s : Int) / 2 ^ u % 2 = 1) ↔ (s / 2 ^ u % 2 = 1) := by
    have e3 : (2 : Int) ^ u = ((2 ^ u : Nat) : Int) := by rw [Int.natCast_pow]; rfl
    rw [e3]
    omega
  by_cases z : s / 2 ^ u % 2 = 1
  · rw [decide_eq_true z, decide_eq_true (e.mpr z)]
  · rw [decide_eq_false z, decide_eq_false (fun y => z (e.mp y))]
theorem bitI (n : Int) (k : Nat) : Builtin.bitAnd (n / 2 ^ k) 1 = n / 2 ^ k % 2 := PySem.W.kbt_mask (n / 2 ^ k) 1
/-- some >> k & 1 -/
theorem shr_bit (s k : Nat) : Builtin.bitAnd ((s : Int) / 2 ^ ((k : Nat) : Int).toNat) 1 = if s.testBit k = true then 1 else 0 := by
  rw [bitI, Int.toNat_natCast, Nat.testBit_eq_decide_div_mod_eq]
  have e3 : (2 : Int) ^ k = ((2 ^ k : Nat) : Int) := by rw [Int.natCast_pow]; rfl
  rw [e3]
  by_cases z : s / 2 ^ k % 2 = 1
  · rw [decide_eq_true z, if_pos rfl]
    omega
  · rw [decide_eq_false z, if_neg (by decide)]
    omega
theorem dec_shr1 (s k : Nat) : decide (V.int (Builtin.bitAnd ((s : Int) / 2 ^ ((k : Nat) : Int).toNat) 1) = V.int 1) = s.testBit k := by
  rw [shr_bit]
  cases s.testBit k <;> rfl
end Wd

set_option maxRecDepth 100000
set_option maxHeartbeats 4000000
namespace L2
open PySem PySem.Spec PyProof.Rows
/-- the rest of a body, by a name -/
theorem cutS {X : Cx} {st : List Stmt} {t : TS} (h : PSs X st t) : ∃ t', PSs X st t' ∧ ∀ D σ H, t D σ H → t' D σ H := ⟨t, h, fun _ _ _ x => x⟩
section
variable {X : Cx} {o e : Expr} {es : List Expr} {to : TE} {t : TA} {name : Str} {apos cpos : Pos} {T id : String} {r : V → List V → Hp → VK → Prop}
/-- methods, with the fragment by its own name -/
theorem pe_bmK {K : PySem.W.Frag} (pa : PlainAttrs T) (slot : Slot T name id) (hty : typeOf (.builtin id) = pure (.type "method_descriptor")) (hm : MtR X id r) (ho : PE X o to) (ha : PA X (e :: es) t) (hK : X.K = K := by rfl)
    (hbase : attributeBase o name X.env (eval o X.env) = eval o X.env := by rfl)
    (hfew : ((backTo cpos (starEach (e :: es) X.env)).all (fun x => !x.1) && (backToKw cpos (keywordEach [] X.env)).all (fun x => x.1.isSome) && decide ((e :: es).length + ([] : List Keyword).length + (if ([] : List Keyword).isEmpty then 0 else 1) < 30)) = true := by rfl)
    (hline : (apos.endLine == cpos.line) = true := by rfl) (hs : starEach (e :: es) X.env = (false, eval e X.env) :: starEach es X.env := by rfl) (hplain : (backTo cpos (starEach es X.env)).any (·.1) = false := by rfl) :
    PE X (.Call (.Attribute o name apos) (e :: es) [] cpos) (tBM K T r to t) := hK ▸ pe_bm pa slot hty hm ho ha hbase hfew hline hs hplain
end
end L2

set_option maxRecDepth 100000
set_option maxHeartbeats 4000000
namespace L2
open PySem PySem.Spec PyProof.Rows
section
variable {X : Cx}
/-- a tuple of targets, with the text's heap named (for blocks) -/
theorem pgT {K : PySem.W.Frag} {pos : Pos} {es : List Expr} {k : Nat} {t : TGs} {n : Nat} (hc : X.calm = true) (h : PGs X es t) (hn : (assignEach es X.env).length = n := by rfl) (hst : (assignEach es X.env).findIdx? (·.1) = none := by rfl) (hK : X.K = K := by rfl) : PG X (.Tuple es k pos) (gTup K n t) := hK ▸ pg_tup hc h hn hst
/-- range(b) as a value -/
theorem call_rng1 : CallR X (.type "range") (fun xs H Q => ∃ j : Int, xs = [.int j] ∧ ∀ p, H p = none → Q (.ref p) (upd H p (.rng 0 j))) := by
  intro pins s σ H xs us Q I r h
  obtain ⟨j, rfl, q⟩ := h
  obtain ⟨u, rfl, ⟨t, rfl⟩⟩ := vals1 r
  refine call_range_1 ⟨.ref s.heap.objs.size, _, I.laid (fun b o e => Heap.get?_push_of_some _ e) (Nat.le_refl _) (show ObjOk X.prog X.w _ _ _ (.rng 0 j) from ⟨_, _, _, Heap.get?_push_size _ rfl⟩), rfl, q _ (I.hok.fresh (Nat.le_refl _))⟩
end
end L2
namespace Wd
open PySem L2
/-- a tie and a set, told whether the set keeps it -/
def spKeeps : Sp := fun vs H Q _ => ∃ (t : Tie) (m n : Nat) (v : V), vs = [v, .int n] ∧ Dn H t.toD v ∧ t.Ok m ∧ m ≤ 1000 ∧ ∀ H', Same H H' → Q (.bl (t.keep n)) H'
def spLaw (K : PySem.W.Frag) : Sp := fun vs H Q _ => ∃ (p : Addr) (ns : List Int), vs = [.ref p] ∧ SqL K H p (ns.map V.int) ∧ ns.length ≤ 63 ∧ ∀ H', Q (.bl true) H'
theorem dec_cnt0 (k : Nat) : decide (V.int (k : Int) = V.int 0) = decide (k = 0) := by
  rw [dec_int]
  by_cases z : k = 0
  · rw [z]; rfl
  · rw [decide_eq_false z]
    simpa using z
/-- a tie and a stand, told a truth -/
def spTie3 (f : Tie → Nat → Nat → Bool) : Sp := fun vs H Q _ => ∃ (t : Tie) (m y n : Nat) (v : V), vs = [v, .int y, .int n] ∧ Dn H t.toD v ∧ t.Ok m ∧ m ≤ 1000 ∧ ∀ H', Same H H' → Q (.bl (f t y n)) H'
def spTie3B (f : Tie → Nat → Nat → Bool) : Sp := fun vs H Q _ => ∃ (u : Nat) (lo hi : Int) (ks : List Nat) (m y n : Nat) (v : V), vs = [v, .int y, .int n] ∧ Dn H (Tie.bough u lo hi ks).toD v ∧ Tie.BoughOk m u lo hi ks ∧ m ≤ 1000 ∧ ∀ H', Same H H' → Q (.bl (f (Tie.bough u lo hi ks) y n)) H'
/-- pairs and a stand, told a number -/
def spSum (f : List (Nat × Int) → Nat → Nat → Int) : Sp := fun vs H Q _ => ∃ (q : Addr) (xs : List V) (ps : List (Nat × Int)) (y n : Nat), vs = [.ref q, .int y, .int n] ∧ H q = some (.tup xs) ∧ DnL H (ps.map pairD) xs ∧ ps.length ≤ 1000 ∧ ∀ H', Same H H' → Q (.int (f ps y n)) H'
theorem list_ties {P : Tie → Prop} : ∀ {l : List PyData}, (∀ d ∈ l, ∃ t : Tie, d = t.toD ∧ P t) → ∃ ts : List Tie, l = ts.map Tie.toD ∧ ∀ t ∈ ts, P t
  | [], _ => ⟨[], rfl, (fun _ z => nomatch z)⟩
  | d :: r, h => by
    obtain ⟨t, e, p⟩ := h d List.mem_cons_self
    obtain ⟨ts, e2, p2⟩ := list_ties fun x hx => h x (List.mem_cons_of_mem _ hx)
    refine ⟨t :: ts, by rw [e, e2]; rfl, fun x hx => ?_⟩
    rcases List.mem_cons.mp hx with rfl | z
    · exact p
    · exact p2 x z
theorem bough_tie {m : Nat} {d : PyData} (h : isBough m d = true) : ∃ t : Tie, d = t.toD ∧ t.Ok m := by
  obtain ⟨u, lo, hi, ks, e, ok⟩ := tie_of_bough h
  exact ⟨.bough u lo hi ks, e, ok⟩
theorem cross_tie {m : Nat} {d : PyData} (h : isTie m d = true) : ∃ t : Tie, d = t.toD ∧ t.Ok m := by
  obtain ⟨t, e, ok, _⟩ := tie_of_cross h
  exact ⟨t, e, ok⟩
theorem dn_tie {H : Hp} {ts : List Tie} {xs : List V} (h : DnL H (ts.map Tie.toD) xs) {i : Nat} {x : V} (hx : xs[i]? = some x) : ∃ t, ts[i]? = some t ∧ Dn H t.toD x := by
  obtain ⟨d, hd, q⟩ := h.get hx
  rw [List.getElem?_map] at hd
  obtain ⟨t, ht, rfl⟩ := Option.map_eq_some_iff.mp hd
  exact ⟨t, ht, q⟩
theorem iteD {c A B : Prop} [Decidable c] (hc : c) (h : A) : if decide c = true then A else B := by
  rw [decide_eq_true hc]
  exact iteT h
theorem iteDN {c A B : Prop} [Decidable c] (hc : ¬ c) (h : B) : if decide c = true then A else B := by
  rw [decide_eq_false hc]
  exact iteF h
theorem iteNN {c A B : Prop} [Decidable c] (hc : ¬ c) (h : A) : if (!decide c) = true then A else B := by
  rw [decide_eq_false hc]
  exact iteT h
theorem iteB {b : Bool} {A B : Prop} (hc : b = true) (h : A) : if b = true then A else B := by
  rw [if_pos hc]; exact h
theorem iteBN {b : Bool} {A B : Prop} (hc : b = false) (h : B) : if b = true then A else B := by
  rw [hc]; exact iteF h
theorem vs_ne {x y : Str} (h : ¬ x = y) : ¬ V.str x = V.str y := fun z => by injection z with z; exact h z
theorem bans_needs : ¬ V.str ("bans" : Str) = V.str ("needs" : Str) := vs_ne (by decide +kernel)
theorem most_needs : ¬ V.str ("most" : Str) = V.str ("needs" : Str) := vs_ne (by decide +kernel)
theorem most_bans : ¬ V.str ("most" : Str) = V.str ("bans" : Str) := vs_ne (by decide +kernel)
theorem int_str {i : Int} {x : Str} : ¬ V.int i = V.str x := fun z => by cases z
end Wd

set_option maxRecDepth 100000
set_option maxHeartbeats 4000000
/-! ### I. Woods by their ties -/
namespace Wd
open PySem L2 Ow
structure WoodT (H : Hp) (wd : Addr) (m : Nat) (ts : List Tie) : Prop where
  ex : ∃ xs ys, WoodAt H wd m xs ys ∧ DnL H (ts.map Tie.toD) (xs ++ ys)
  ok : ∀ t ∈ ts, t.Ok m
  few : ts.length ≤ 900
  m9 : m ≤ 900
theorem WoodAt.same {H H' : Hp} {wd : Addr} {m : Int} {xs ys : List V} (s : Same H H') (h : WoodAt H wd m xs ys) : WoodAt H' wd m xs ys := by
  obtain ⟨tb, tc, h1, h2, h3⟩ := h.ex
  exact ⟨tb, tc, s _ _ h1, s _ _ h2, s _ _ h3⟩
theorem WoodT.same {H H' : Hp} {wd : Addr} {m : Nat} {ts : List Tie} (s : Same H H') (h : WoodT H wd m ts) : WoodT H' wd m ts := by
  obtain ⟨xs, ys, h1, h2⟩ := h.ex
  exact ⟨⟨xs, ys, WoodAt.same s h1, DnL.same s _ _ h2⟩, h.ok, h.few, h.m9⟩
def optN : Option Nat → V
  | none => .non
  | some i => .int (i : Int)
def wareB (ts : List Tie) (n : Nat) : Bool := n.testBit 0 && ts.all fun t => t.keep n
/-- all numbers of ties -/
def spEvery : Sp := fun vs H Q _ => ∃ (wd : Addr) (m : Nat) (ts : List Tie), vs = [.ref wd] ∧ WoodT H wd m ts ∧ ∀ (l : Addr) (H' : Hp), Same H H' → H l = none → H' l = some (.lst ((List.range ts.length).map fun i : Nat => V.int (i : Int))) → Q (.ref l) H'
end Wd

/-! ### Bits: sums and differences of sets -/
namespace Wd
theorem add_bits : ∀ (k a b : Nat), (∀ j, a.testBit j = true → b.testBit j = false) → (a + b).testBit k = (a.testBit k || b.testBit k)
  | k, a, b, h => by
    have h0 := h 0
    rw [Nat.testBit_zero, Nat.testBit_zero] at h0
    have p : a % 2 + b % 2 ≤ 1 := by
      by_cases z : a % 2 = 1
      · have := h0 (decide_eq_true z)
        have := of_decide_eq_false this
        omega
      · omega
    cases k with
    | zero =>
      rw [Nat.testBit_zero, Nat.testBit_zero, Nat.testBit_zero]
      by_cases z : a % 2 = 1
      · rw [decide_eq_true z, decide_eq_true (by omega), Bool.true_or]
      · rw [decide_eq_false z, Bool.false_or]
        by_cases y : b % 2 = 1
        · rw [decide_eq_true y, decide_eq_true (by omega)]
        · rw [decide_eq_false y, decide_eq_false (by omega)]
    | succ k =>
      rw [Nat.testBit_add_one, Nat.testBit_add_one, Nat.testBit_add_one]
      have e : (a + b) / 2 = a / 2 + b / 2 := by omega
      rw [e]
      refine add_bits k (a / 2) (b / 2) fun j hj => ?_
      have := h (j + 1)
      rw [Nat.testBit_add_one, Nat.testBit_add_one] at this
      exact this hj
theorem add_or {a b : Nat} (h : ∀ j, a.testBit j = true → b.testBit j = false) : a + b = a ||| b :=
  Nat.eq_of_testBit_eq fun k => by rw [add_bits k a b h, Nat.testBit_or]
theorem sub_bits : ∀ (k y a : Nat), (∀ j, a.testBit j = true → y.testBit j = true) → (y - a).testBit k = (y.testBit k && !a.testBit k)
  | k, y, a, h => by
    have le : a ≤ y := by
      have e : a = a &&& y := Nat.eq_of_testBit_eq fun j => by
        rw [Nat.testBit_and]
        cases e : a.testBit j with
        | false => rfl
        | true => rw [h j e]; rfl
      rw [e]
      exact Nat.and_le_right
    have h0 := h 0
    rw [Nat.testBit_zero, Nat.testBit_zero] at h0
    have p : a % 2 ≤ y % 2 := by
      by_cases z : a % 2 = 1
      · have := of_decide_eq_true (h0 (decide_eq_true z))
        omega
      · omega
    cases k with
    | zero =>
      rw [Nat.testBit_zero, Nat.testBit_zero, Nat.testBit_zero]
      by_cases z : a % 2 = 1
      · rw [decide_eq_true z, decide_eq_false (by omega)]; simp
      · rw [decide_eq_false z]
        by_cases x : y % 2 = 1
        · rw [decide_eq_true x, decide_eq_true (by omega)]; rfl
        · rw [decide_eq_false x, decide_eq_false (by omega)]; rfl
    | succ k =>
      rw [Nat.testBit_add_one, Nat.testBit_add_one, Nat.testBit_add_one]
      have e : (y - a) / 2 = y / 2 - a / 2 := by omega
      rw [e]
      refine sub_bits k (y / 2) (a / 2) fun j hj => ?_
      have := h (j + 1)
      rw [Nat.testBit_add_one, Nat.testBit_add_one] at this
      exact this hj
theorem or_as_sum (a b : Nat) : a ||| b = a + (b - (a &&& b)) := by
  have hb : ∀ j, (b - (a &&& b)).testBit j = (b.testBit j && !(a &&& b).testBit j) := fun j => sub_bits j b (a &&& b) fun i hi => by
    rw [Nat.testBit_and, Bool.and_eq_true] at hi
    exact hi.2
  rw [add_or fun j hj => by rw [hb, Nat.testBit_and, hj]; cases b.testBit j <;> rfl]
  refine Nat.eq_of_testBit_eq fun j => ?_
  rw [Nat.testBit_or, Nat.testBit_or, hb, Nat.testBit_and]
  cases a.testBit j <;> cases b.testBit j <;> rfl
theorem filter_range_succ (p : Nat → Bool) (i : Nat) : (List.range (i + 1)).filter p = (List.range i).filter p ++ (if p i = true then [i] else []) := by
  rw [List.range_succ, List.filter_append]
  congr 1
  by_cases h : p i = true <;> simp [h]
/-! stands made finer -/
theorem bit_put (y k j : Nat) : (y ||| 2 ^ k).testBit j = (y.testBit j || decide (k = j)) := by rw [Nat.testBit_or, Nat.testBit_two_pow]
theorem inS_split {y n k s : Nat} : InS y n s ↔ InS (y ||| 2 ^ k) n s ∨ InS y (n ||| 2 ^ k) s := by
  constructor
  · rintro ⟨h1, h2⟩
    cases e : s.testBit k with
    | true =>
      refine .inl ⟨fun j hj => ?_, h2⟩
      rw [bit_put, Bool.or_eq_true, decide_eq_true_eq] at hj
      rcases hj with z | rfl
      · exact h1 j z
      · exact e
    | false =>
      refine .inr ⟨h1, fun j hj => ?_⟩
      rw [bit_put, Bool.or_eq_true, decide_eq_true_eq] at hj
      rcases hj with z | rfl
      · exact h2 j z
      · exact e
  · rintro (⟨h1, h2⟩ | ⟨h1, h2⟩)
    · exact ⟨fun j hj => h1 j (by rw [bit_put, hj, Bool.true_or]), h2⟩
    · exact ⟨h1, fun j hj => h2 j (by rw [bit_put, hj, Bool.true_or])⟩
theorem dj_one {y n k : Nat} (d : ∀ j, y.testBit j = true → n.testBit j = false) (hn : n.testBit k = false) : ∀ j, (y ||| 2 ^ k).testBit j = true → n.testBit j = false := fun j hj => by
  rw [bit_put, Bool.or_eq_true, decide_eq_true_eq] at hj
  rcases hj with z | rfl
  · exact d j z
  · exact hn
theorem dj_other {y n k : Nat} (d : ∀ j, y.testBit j = true → n.testBit j = false) (hy : y.testBit k = false) : ∀ j, y.testBit j = true → (n ||| 2 ^ k).testBit j = false := fun j hj => by
  rw [bit_put, d j hj, Bool.false_or]
  exact decide_eq_false fun z => by rw [← z, hy] at hj; cases hj
theorem inS_self {y n : Nat} (d : ∀ j, y.testBit j = true → n.testBit j = false) : InS y n y := ⟨fun _ z => z, fun k hk => by
  cases e : y.testBit k with
  | false => rfl
  | true => rw [d k e] at hk; cases hk⟩
theorem inS_full {m y n s : Nat} (full : ∀ k, k < m → (y ||| n).testBit k = true) (hs : InS y n s) (d : ∀ j, y.testBit j = true → n.testBit j = false) : ∀ k, k < m → s.testBit k = y.testBit k := fun k hk => by
  have h := full k hk
  rw [Nat.testBit_or, Bool.or_eq_true] at h
  rcases h with z | z
  · rw [z, hs.1 k z]
  · rw [hs.2 k z, (inS_self d).2 k z]
theorem sb_full {m : Nat} {t : Tie} (ok : t.Ok m) {y n : Nat} (d : ∀ j, y.testBit j = true → n.testBit j = false) (full : ∀ k, k < m → (y ||| n).testBit k = true) : t.sb y n = !t.keep y := by
  rw [Bool.eq_iff_iff, sb_iff ok d, Bool.not_eq_true']
  constructor
  · intro h
    exact h y (inS_self d)
  · intro h s hs
    rw [keep_congr ok (inS_full full hs d)]
    exact h
end Wd

set_option maxRecDepth 100000
set_option maxHeartbeats 4000000
/-! ### J. More forms of loops; bits of ints -/
namespace L2
open PySem
theorem op_eq_ints {X : Cx} (hu : X.A.units + 64 < cLine) : OpR X (compareOp .Eq) (fun x y H Q => ∃ (a b : Addr) (ns ms : List Int), x = .ref a ∧ y = .ref b ∧ SqL X.K H a (ns.map V.int) ∧ SqL X.K H b (ms.map V.int) ∧ Q (.bl (decide (ns = ms))) H) := by
  intro pins s σ H x y v u Q I rx ry h
  obtain ⟨a, b, ns, ms, rfl, rfl, ha, hb, q⟩ := h
  cases rx
  cases ry
  obtain ⟨xs, rv, p, _⟩ := I.list ha
  obtain ⟨ys, rv', p', _⟩ := I.list hb
  exact PySem.W.ke_eq_ints p.isList p'.isList (intsAre_of rv) (intsAre_of rv') hu ⟨.bl _, H, I, rfl, q⟩
theorem lc_range0 {k : Nat} {σ0 : St} {H : Hp} {g : TG} {tc : TT} {te : TE} {Q : VK} (Pv : Nat → List V → St → Hp → Prop) (h0 : Pv 0 [] σ0 H) (hz : ∀ i ys σ H, i ≤ k → Pv i ys σ H → ys.length ≤ sizeLine)
    (hs : ∀ i ys σ H, i < k → Pv i ys σ H → g (.int (i : Int)) σ H fun σ3 H3 => tc σ3 H3 fun b H4 => if b = true then te σ3 H4 fun v H5 => Pv (i + 1) (ys ++ [v]) σ3 H5 else Pv (i + 1) ys σ3 H4)
    (hd : ∀ ys σ H, Pv k ys σ H → ∀ p, H p = none → Q (.ref p) (upd H p (.lst ys))) :
    lcGo (Itr 0 k) g tc te σ0 H Q :=
  lc_range (lo := 0) Pv h0 hz (fun i ys σ H hi p => by rw [Int.zero_add]; exact hs i ys σ H hi p) hd
theorem for_range0 {n : Nat} {g : TG} {tb : TS} {D : Ends} {σ : St} {H : Hp} (Pv : Nat → St → Hp → Prop) (h0 : Pv 0 σ H)
    (hs : ∀ i σ H, i < n → Pv i σ H → g (.int (i : Int)) σ H fun σ2 H2 => tb { D with nx := Pv (i + 1), ct := Pv (i + 1), bk := D.nx } σ2 H2) (hd : ∀ σ H, Pv n σ H → D.nx σ H) :
    ∃ W : Nat → Nat → St → Hp → Prop, (∃ m, W 0 m σ H) ∧ ∀ i m σ H, W i m σ H →
      ((Itr 0 n).stop i H ∧ D.nx σ H) ∨ ((Itr 0 n).go i H ∧ ∃ N : St → Hp → Prop, (∀ σ' H', N σ' H' → ∃ m', m' < m ∧ W (i + 1) m' σ' H') ∧ ∀ x H', (Itr 0 n).yld i H x H' → g x σ H' fun σ2 H2 => tb { D with nx := N, ct := N, bk := D.nx } σ2 H2) :=
  for_range (lo := 0) Pv h0 (fun i σ H hi p => by rw [Int.zero_add]; exact hs i σ H hi p) hd
end L2
namespace Wd
open PySem L2 Ow
theorem land_nat (a b : Nat) : Builtin.bitAnd (a : Int) (b : Int) = ((a &&& b : Nat) : Int) := by
  rw [PyProof.Rows.bitAnd_pp (by omega) (by omega), Int.toNat_natCast, Int.toNat_natCast]
theorem lor_nat (a b : Nat) : Builtin.bitOr (a : Int) (b : Int) = ((a ||| b : Nat) : Int) := by
  have le : a &&& b ≤ b := Nat.and_le_right
  rw [PyProof.Rows.bitOr_and, PyProof.Rows.bitAnd_pp (by omega) (by omega), Int.toNat_natCast, Int.toNat_natCast, or_as_sum]
  omega
theorem shl1 (k : Nat) : 1 * (2 : Int) ^ ((k : Nat) : Int).toNat = ((2 ^ k : Nat) : Int) := by
  rw [Int.one_mul, Int.toNat_natCast, Int.natCast_pow]
  rfl
theorem pow_pos2 (k : Nat) : 0 < 2 ^ k := Nat.pow_pos (by decide)
def forBody (l : List Stmt) (i : Nat) : List Stmt :=
  match l[i]? with
  | some (Stmt.For _ _ b _ _) => b
  | _ => []
end Wd

set_option maxRecDepth 100000
set_option maxHeartbeats 4000000
/-! ### K. Ranges with a step -/
namespace L2
open PySem PySem.Spec PyProof.Rows
section
variable {X : Cx} {tg : Expr}
end
end L2
namespace Wd
open PySem L2
end Wd

set_option maxRecDepth 100000
set_option maxHeartbeats 4000000
/-! ### L. A pen that turns: a list of the script and a place -/
namespace Wd
open PySem L2 Ow
/-- all but the object at one address stays -/
def KpX (pen : Addr) (H H' : Hp) (b : Addr) : HO → Prop
  | .tbl _ => (∃ ps, H' b = some (.tbl ps)) ∧ (TabOk H b → (∃ ys, H pen = some (.lst ys)) → TabOk H' b ∧ ∃ ys, H' pen = some (.lst ys))
  | o => H' b = some o
/-- all but the pen is as it was; tables of code may have grown -/
def SameX (pen : Addr) (H H' : Hp) : Prop := ∀ b o, b ≠ pen → H b = some o → KpX pen H H' b o
theorem KpX.some {pen : Addr} {H H' : Hp} {b : Addr} {o : HO} (k : KpX pen H H' b o) : ∃ u, H' b = some u := by
  cases o
  case tbl ps => exact ⟨_, k.1.choose_spec⟩
  all_goals exact ⟨_, k⟩
theorem SameX.refl (pen : Addr) (H : Hp) : SameX pen H H := fun _ o _ h => by
  cases o
  case tbl ps => exact ⟨⟨_, h⟩, fun a b => ⟨a, b⟩⟩
  all_goals exact h
theorem SameX.trans {pen : Addr} {H H1 H2 : Hp} (a : SameX pen H H1) (b : SameX pen H1 H2) : SameX pen H H2 := fun c o n h => by
  have z := a c o n h
  cases o
  case tbl ps =>
    obtain ⟨⟨qs, hq⟩, k⟩ := z
    obtain ⟨q2, k2⟩ := b c _ n hq
    exact ⟨q2, fun t y => k2 (k t y).1 (k t y).2⟩
  all_goals exact b c _ n z
theorem Same.x {pen : Addr} {H H' : Hp} (s : Same H H') : SameX pen H H' := fun b o _ h => by
  have z := s b o h
  cases o
  case tbl ps => exact ⟨z.1, fun t ⟨ys, y⟩ => ⟨z.2 t, ys, s pen _ y⟩⟩
  all_goals exact z
theorem sameX_pen {pen : Addr} {H : Hp} (o : HO) (ho : ∃ ys, o = .lst ys := by exact ⟨_, rfl⟩) : SameX pen H (upd H pen o) := fun b u n h => by
  cases u
  case tbl ps =>
    refine ⟨⟨ps, by rw [upd_ne n]; exact h⟩, ?_⟩
    rintro ⟨qs, hq, tr, hp⟩ ⟨ys, hy⟩
    obtain ⟨zs, rfl⟩ := ho
    refine ⟨⟨qs, by rw [upd_ne n]; exact hq, tr, fun pos => ?_⟩, ⟨zs, upd_same⟩⟩
    rcases hp pos with z | ⟨c, z1, z2⟩
    · exact .inl z
    · refine .inr ⟨c, z1, ?_⟩
      rw [upd_ne fun z => by rw [z, hy] at z2; cases z2]
      exact z2
  all_goals (show upd H pen o b = _; rw [upd_ne n]; exact h)
/-- a list that is new is written -/
theorem Same.put {H H1 : Hp} {p : Addr} {xs : List V} {o : HO} (s : Same H H1) (n : H p = none) (e : H1 p = some (.lst xs)) : Same H (upd H1 p o) := fun b u hb => by
  have ne : b ≠ p := ne_of_none hb n
  have z := s b u hb
  cases u
  case tbl ps =>
    refine ⟨⟨z.1.choose, by rw [upd_ne ne]; exact z.1.choose_spec⟩, fun t => ?_⟩
    obtain ⟨qs, hq, tr, hp⟩ := z.2 t
    refine ⟨qs, by rw [upd_ne ne]; exact hq, tr, fun pos => ?_⟩
    rcases hp pos with y | ⟨c, y1, y2⟩
    · exact .inl y
    · refine .inr ⟨c, y1, ?_⟩
      rw [upd_ne fun z => by rw [z, e] at y2; cases y2]
      exact y2
  all_goals (show upd H1 p o b = _; rw [upd_ne ne]; exact z)
theorem SameX.put {pen : Addr} {H H1 : Hp} {p : Addr} {xs : List V} {o : HO} (s : SameX pen H H1) (n : H p = none) (np : p ≠ pen) (e : H1 p = some (.lst xs)) : SameX pen H (upd H1 p o) := fun b u nb hb => by
  have ne : b ≠ p := ne_of_none hb n
  have z := s b u nb hb
  cases u
  case tbl ps =>
    refine ⟨⟨z.1.choose, by rw [upd_ne ne]; exact z.1.choose_spec⟩, fun t y => ?_⟩
    obtain ⟨⟨qs, hq, tr, hp⟩, ys, hy⟩ := z.2 t y
    refine ⟨⟨qs, by rw [upd_ne ne]; exact hq, tr, fun pos => ?_⟩, ys, by rw [upd_ne (Ne.symm np)]; exact hy⟩
    rcases hp pos with y | ⟨c, y1, y2⟩
    · exact .inl y
    · refine .inr ⟨c, y1, ?_⟩
      rw [upd_ne fun z => by rw [z, e] at y2; cases y2]
      exact y2
  all_goals (show upd H1 p o b = _; rw [upd_ne ne]; exact z)
theorem SameX.tab {pen P : Addr} {H H' : Hp} {ys : List V} (s : SameX pen H H') (hp : H pen = some (.lst ys)) (t : TabOk H P) : TabOk H' P := by
  obtain ⟨ps, h, _⟩ := id t
  exact ((s P _ (fun z => by rw [z, hp] at h; cases h) h).2 t ⟨ys, hp⟩).1
theorem SameX.free {pen l : Addr} {H H' : Hp} (s : SameX pen H H') (hp : ∃ o, H' pen = some o) (h : H' l = none) : H l = none := by
  cases q : H l with
  | none => rfl
  | some o =>
    obtain ⟨o', e⟩ := hp
    have n : l ≠ pen := fun z => by rw [z, e] at h; cases h
    obtain ⟨u, z⟩ := (s l o n q).some
    rw [z] at h
    cases h
structure Pen (K : PySem.W.Frag) (H : Hp) (pen sp : Addr) (ns : List Int) (k : Int) : Prop where
  at_ : H pen = some (.lst [.ref sp, .int k])
  len : ns.length ≤ 63
  scr : ∀ H', SameX pen H H' → SqL K H' sp (ns.map V.int)
theorem Pen.to {K : PySem.W.Frag} {H H' : Hp} {pen sp : Addr} {ns : List Int} {k k' : Int} (p : Pen K H pen sp ns k) (s : SameX pen H H') (e : H' pen = some (.lst [.ref sp, .int k'])) : Pen K H' pen sp ns k' :=
  ⟨e, p.len, fun H2 s2 => p.scr H2 (s.trans s2)⟩
/-- data of tuples stays when a list is written -/
theorem Dn.pen {H : Hp} {p : Addr} {xs ys : List V} (h : H p = some (.lst xs)) {n : Nat} {d : PyData} {v : V} (f : flatD n d = true) (q : Dn H d v) : Dn (upd H p (.lst ys)) d v := Dn.keepT (keep_lst h) n d v f q
theorem DnL.pen {H : Hp} {p : Addr} {xs ys : List V} (h : H p = some (.lst xs)) {n : Nat} {ds : List PyData} {vs : List V} (f : ds.all (flatD n) = true) (q : DnL H ds vs) : DnL (upd H p (.lst ys)) ds vs := DnL.keepT (Dn.keepT (keep_lst h) n) ds vs f q
/-- tuples of H stay in H' -/
def TupS (H H' : Hp) : Prop := ∀ b xs, H b = some (.tup xs) → H' b = some (.tup xs)
theorem SameX.tup {pen : Addr} {H H' : Hp} {ys : List V} (e : H pen = some (.lst ys)) (s : SameX pen H H') : TupS H H' := fun b xs h => s b _ (fun z => by rw [z, e] at h; cases h) h
theorem DnL.tupS {H H' : Hp} (t : TupS H H') {n : Nat} {ds : List PyData} {vs : List V} (f : ds.all (flatD n) = true) (q : DnL H ds vs) : DnL H' ds vs := DnL.keepT (Dn.keepT t n) ds vs f q
def spNext (K : PySem.W.Frag) : Sp := fun vs H Q _ => ∃ (pen sp : Addr) (ns : List Int) (most k : Int), vs = [.ref pen, .int most] ∧ Pen K H pen sp ns k ∧ 0 ≤ k ∧ k ≤ 1000000 ∧ 0 < most ∧ ∀ c : Int, 0 ≤ c → c < most → Q (.int c) (L2.upd H pen (.lst [.ref sp, .int (k + 1)]))
/-- a wood laid as data -/
structure WoodX (H : Hp) (wd : Addr) (m : Nat) (bs cs : List PyData) : Prop where
  ex : ∃ xs ys, WoodAt H wd m xs ys ∧ DnL H bs xs ∧ DnL H cs ys
  gb : GoodB m bs
  gc : ∀ c ∈ cs, isTie m c = true
  b8 : bs.length ≤ 9
  c8 : cs.length ≤ 20
  fb : bs.all (flatD 3) = true
  fc : cs.all (flatD 3) = true
  m1 : 1 ≤ m
  m9 : m ≤ 9
theorem WoodX.tupS {H H' : Hp} {wd : Addr} {m : Nat} {bs cs : List PyData} (t : TupS H H') (h : WoodX H wd m bs cs) : WoodX H' wd m bs cs := by
  obtain ⟨xs, ys, ⟨tb, tc, h1, h2, h3⟩, db, dc⟩ := h.ex
  exact ⟨⟨xs, ys, ⟨tb, tc, t _ _ h1, t _ _ h2, t _ _ h3⟩, DnL.tupS t h.fb db, DnL.tupS t h.fc dc⟩, h.gb, h.gc, h.b8, h.c8, h.fb, h.fc, h.m1, h.m9⟩
theorem Same.tup {H H' : Hp} (s : Same H H') : TupS H H' := fun b xs h => s b _ h
theorem WoodX.ties {H : Hp} {wd : Addr} {m : Nat} {bs cs : List PyData} (h : WoodX H wd m bs cs) : ∃ ts : List Tie, bs ++ cs = ts.map Tie.toD ∧ (∀ t ∈ ts, t.Ok m) ∧ ts.length ≤ 29 ∧ ∀ H', TupS H H' → WoodT H' wd m ts := by
  obtain ⟨ts, ets, okt⟩ := list_ties (P := fun t => t.Ok m) (l := bs ++ cs) fun x hx => by
    rcases List.mem_append.mp hx with z | z
    · exact bough_tie (h.gb.each x z)
    · exact cross_tie (h.gc x z)
  have lt : ts.length = bs.length + cs.length := by rw [← List.length_append, ets, List.length_map]
  have b8 := h.b8
  have c8 := h.c8
  have m9 := h.m9
  refine ⟨ts, ets, okt, by omega, fun H' t => ?_⟩
  obtain ⟨xs, ys, WA, db, dc⟩ := (h.tupS t).ex
  exact ⟨⟨xs, ys, WA, by rw [← ets]; exact db.append dc⟩, okt, by omega, by omega⟩
theorem _root_.Ow.GAt.add2 {H0 H : Hp} {g l t : Addr} {gs : List Grp} {u k : Int} (G : GAt H0 H g gs) (hf : H0 l = none) (hl : H l = none) (ht : upd H l (.lst [.int k]) t = none) :
    GAt H0 (upd (upd (upd H l (.lst [.int k])) t (.tup [.int u, .ref l])) g (.lst ((gs.map fun x => V.ref x.t) ++ [.ref t]))) g (gs ++ [⟨t, u, l, [k]⟩]) := by
  have ngl : g ≠ l := ne_of_none G.at_ hl
  have s1 := same_new hl (.lst [.int k])
  have s2 := s1.trans (same_new ht (.tup [.int u, .ref l]))
  have ntl : t ≠ l := fun z => by rw [z, upd_same] at ht; cases ht
  have ngt : g ≠ t := ne_of_none (s1 _ _ G.at_) ht
  refine ⟨?_, G.new, fun x hx => ?_, fun x hx => ?_, ?_⟩
  · rw [upd_same, List.map_append]
    rfl
  · rcases List.mem_append.mp hx with z | z
    · rw [upd_ne (ne_of (G.tup x z) G.at_ (by intro q; cases q))]
      exact s2 _ _ (G.tup x z)
    · rw [List.mem_singleton.mp z]
      show L2.upd _ g _ t = _
      rw [upd_ne (Ne.symm ngt), upd_same]
  · rcases List.mem_append.mp hx with z | z
    · obtain ⟨a, b, c⟩ := G.lst x z
      refine ⟨?_, b, c⟩
      rw [upd_ne (Ne.symm c)]
      exact s2 _ _ a
    · rw [List.mem_singleton.mp z]
      refine ⟨?_, hf, ngl⟩
      show L2.upd _ g _ l = _
      rw [upd_ne (Ne.symm ngl), upd_ne (Ne.symm ntl), upd_same]
      rfl
  · rw [List.map_append]
    refine List.nodup_append.mpr ⟨G.nd, by simp, fun x hx y hy => ?_⟩
    obtain ⟨z, hz, rfl⟩ := List.mem_map.mp hx
    have e : y = l := by simpa using hy
    rw [e]
    exact ne_of_none (G.lst z hz).1 hl
/-- the groups stay when the pen turns -/
theorem _root_.Ow.GAt.pen {H0 H : Hp} {g pen : Addr} {gs : List Grp} {xs ys : List V} (G : GAt H0 H g gs) (h0 : ∃ o, H0 pen = some o) (h : H pen = some (.lst xs)) : GAt H0 (L2.upd H pen (.lst ys)) g gs := by
  obtain ⟨o, e0⟩ := h0
  refine ⟨?_, G.new, fun x hx => ?_, fun x hx => ?_, G.nd⟩
  · rw [upd_ne (fun z => by rw [← z, G.new] at e0; cases e0)]
    exact G.at_
  · rw [upd_ne (ne_of (G.tup x hx) h (by intro q; cases q))]
    exact G.tup x hx
  · obtain ⟨a, b, c⟩ := G.lst x hx
    refine ⟨?_, b, c⟩
    rw [upd_ne (fun z => by rw [← z, b] at e0; cases e0)]
    exact a
end Wd

/-! ### Trees of cases and first sets: the mathematics -/
namespace Wd
def keepAt (ts : List Tie) (i s : Nat) : Bool := match ts[i]? with
  | some t => t.keep s
  | none => true
def sbAt (ts : List Tie) (i y n : Nat) : Bool := match ts[i]? with
  | some t => t.sb y n
  | none => false
def firstSB (ts : List Tie) (il : List Nat) (y n : Nat) : Option Nat := il.find? fun i => sbAt ts i y n
def openL (m y n : Nat) : List Nat := (List.range m).filter fun k => !(y ||| n).testBit k
theorem mem_open {m y n k : Nat} : k ∈ openL m y n ↔ k < m ∧ y.testBit k = false ∧ n.testBit k = false := by
  unfold openL
  rw [List.mem_filter, List.mem_range, Bool.not_eq_true', Nat.testBit_or, Bool.or_eq_false_iff]
theorem open_one (m y n k : Nat) : openL m (y ||| 2 ^ k) n = (openL m y n).filter fun j => !decide (k = j) := by
  unfold openL
  rw [List.filter_filter]
  refine List.filter_congr fun j _ => ?_
  rw [Nat.testBit_or, bit_put, Nat.testBit_or]
  cases y.testBit j <;> cases n.testBit j <;> cases decide (k = j) <;> rfl
theorem open_other (m y n k : Nat) : openL m y (n ||| 2 ^ k) = (openL m y n).filter fun j => !decide (k = j) := by
  unfold openL
  rw [List.filter_filter]
  refine List.filter_congr fun j _ => ?_
  rw [Nat.testBit_or, bit_put, Nat.testBit_or]
  cases y.testBit j <;> cases n.testBit j <;> cases decide (k = j) <;> rfl
theorem filter_less {l : List Nat} {k : Nat} (h : k ∈ l) : (l.filter fun j => !decide (k = j)).length < l.length := by
  refine Nat.lt_of_le_of_ne (List.length_filter_le _ _) fun e => ?_
  have := List.length_filter_eq_length_iff.mp e k h
  simp at this
theorem open_less1 {m y n k : Nat} (h : k ∈ openL m y n) : (openL m (y ||| 2 ^ k) n).length < (openL m y n).length := by
  rw [open_one]; exact filter_less h
theorem open_less2 {m y n k : Nat} (h : k ∈ openL m y n) : (openL m y (n ||| 2 ^ k)).length < (openL m y n).length := by
  rw [open_other]; exact filter_less h
theorem open_few (m y n : Nat) : (openL m y n).length ≤ m := by
  refine Nat.le_trans (List.length_filter_le _ _) ?_
  rw [List.length_range]
  exact Nat.le_refl _
theorem put_lt {m y k : Nat} (h : y < 2 ^ m) (hk : k < m) : y ||| 2 ^ k < 2 ^ m := by
  refine Nat.lt_pow_two_of_testBit _ fun i hi => ?_
  rw [bit_put, Nat.testBit_lt_two_pow (Nat.lt_of_lt_of_le h (Nat.pow_le_pow_right (by decide) hi)), Bool.false_or]
  exact decide_eq_false (by omega)
theorem lt_of_bits {x y : Nat} (k : Nat) (hx : x.testBit k = false) (hy : y.testBit k = true) (h : ∀ j, k < j → x.testBit j = y.testBit j) : x < y := by
  have e : x / 2 ^ (k + 1) = y / 2 ^ (k + 1) := Nat.eq_of_testBit_eq fun j => by
    rw [← Nat.testBit_add, ← Nat.testBit_add]
    exact h _ (by omega)
  have r1 : x % 2 ^ (k + 1) < 2 ^ k := Nat.lt_pow_two_of_testBit _ fun i hi => by
    rw [Nat.testBit_mod_two_pow]
    by_cases z : i = k
    · rw [z, hx, Bool.and_false]
    · rw [decide_eq_false (by omega), Bool.false_and]
  have r2 : 2 ^ k ≤ y % 2 ^ (k + 1) := Nat.ge_two_pow_of_testBit (by
    rw [Nat.testBit_mod_two_pow, hy, decide_eq_true (by omega)]; rfl)
  have d1 := Nat.div_add_mod x (2 ^ (k + 1))
  have d2 := Nat.div_add_mod y (2 ^ (k + 1))
  rw [e] at d1
  omega
theorem eq_of_bits {m a b : Nat} (ha : a < 2 ^ m) (hb : b < 2 ^ m) (h : ∀ k, k < m → a.testBit k = b.testBit k) : a = b := by
  refine Nat.eq_of_testBit_eq fun k => ?_
  by_cases z : k < m
  · exact h k z
  · have : 2 ^ m ≤ 2 ^ k := Nat.pow_le_pow_right (by decide) (by omega)
    rw [Nat.testBit_lt_two_pow (by omega), Nat.testBit_lt_two_pow (by omega)]
def allKeep (ts : List Tie) (il : List Nat) (s : Nat) : Bool := il.all fun i => keepAt ts i s
structure Stand (m y n : Nat) : Prop where
  dj : ∀ k, y.testBit k = true → n.testBit k = false
  ym : y < 2 ^ m
  nm : n < 2 ^ m
theorem Stand.one {m y n k : Nat} (S : Stand m y n) (h : k ∈ openL m y n) : Stand m (y ||| 2 ^ k) n := by
  obtain ⟨km, ky, kn⟩ := mem_open.mp h
  exact ⟨dj_one S.dj kn, put_lt S.ym km, S.nm⟩
theorem Stand.other {m y n k : Nat} (S : Stand m y n) (h : k ∈ openL m y n) : Stand m y (n ||| 2 ^ k) := by
  obtain ⟨km, ky, kn⟩ := mem_open.mp h
  exact ⟨dj_other S.dj ky, S.ym, put_lt S.nm km⟩
theorem sbAt_keep {m : Nat} {ts : List Tie} (ok : ∀ t ∈ ts, t.Ok m) {i y n s : Nat} (dj : ∀ k, y.testBit k = true → n.testBit k = false) (h : sbAt ts i y n = true) (hs : InS y n s) : keepAt ts i s = false := by
  unfold sbAt at h
  unfold keepAt
  cases e : ts[i]? with
  | none => rw [e] at h; cases h
  | some t =>
    rw [e] at h
    exact (sb_iff (ok t (List.mem_of_getElem? e)) dj).mp h s hs
theorem keep_full {m : Nat} {ts : List Tie} (ok : ∀ t ∈ ts, t.Ok m) {i y n : Nat} (dj : ∀ k, y.testBit k = true → n.testBit k = false) (full : openL m y n = []) (h : sbAt ts i y n = false) : keepAt ts i y = true := by
  have hf : ∀ k, k < m → (y ||| n).testBit k = true := fun k hk => by
    cases e : (y ||| n).testBit k with
    | true => rfl
    | false =>
      rw [Nat.testBit_or, Bool.or_eq_false_iff] at e
      have := mem_open.mpr ⟨hk, e.1, e.2⟩
      rw [full] at this
      cases this
  unfold sbAt at h
  unfold keepAt
  cases e : ts[i]? with
  | none => rfl
  | some t =>
    rw [e] at h
    have h' : t.sb y n = false := h
    rw [sb_full (ok t (List.mem_of_getElem? e)) dj hf] at h'
    show t.keep y = true
    simpa using h'
theorem stand_full {m y n s : Nat} (S : Stand m y n) (full : openL m y n = []) (hs : InS y n s) (sm : s < 2 ^ m) : s = y := by
  refine eq_of_bits sm S.ym fun k hk => ?_
  refine inS_full (m := m) (fun j hj => ?_) hs S.dj k hk
  cases e : (y ||| n).testBit j with
  | true => rfl
  | false =>
    rw [Nat.testBit_or, Bool.or_eq_false_iff] at e
    have := mem_open.mpr ⟨hj, e.1, e.2⟩
    rw [full] at this
    cases this
/-! first sets -/
def keepF (ts : List Tie) (il : List Nat) (m : Nat) : Nat → Nat → Nat → Option Nat
  | f, y, n => if (firstSB ts il y n).isSome = true then none else match (openL m y n).getLast?, f with
    | none, _ => some y
    | some _, 0 => none
    | some k, f + 1 => match keepF ts il m f y (n ||| 2 ^ k) with
      | some s => some s
      | none => keepF ts il m f (y ||| 2 ^ k) n
/-- the first set in a stand that keeps the named ties -/
def FirstK (ts : List Tie) (il : List Nat) (m y n : Nat) : Option Nat → Prop
  | some s => s < 2 ^ m ∧ InS y n s ∧ allKeep ts il s = true ∧ ∀ s', s' < 2 ^ m → InS y n s' → allKeep ts il s' = true → s ≤ s'
  | none => ∀ s', s' < 2 ^ m → InS y n s' → allKeep ts il s' = false
theorem firstSB_some {ts : List Tie} {il : List Nat} {y n i : Nat} (h : firstSB ts il y n = some i) : i ∈ il ∧ sbAt ts i y n = true :=
  ⟨List.mem_of_find?_eq_some h, List.find?_some (p := fun i => sbAt ts i y n) h⟩
theorem firstSB_none {ts : List Tie} {il : List Nat} {y n : Nat} (h : firstSB ts il y n = none) : ∀ i ∈ il, sbAt ts i y n = false := fun i hi => by
  have := List.find?_eq_none.mp h i hi
  simpa using this
theorem open_last {m y n k : Nat} (h : (openL m y n).getLast? = some k) : k ∈ openL m y n ∧ ∀ j ∈ openL m y n, j ≤ k := by
  have hp : (openL m y n).Pairwise (· < ·) := List.pairwise_lt_range.filter _
  refine ⟨List.mem_of_getLast? h, fun j hj => ?_⟩
  obtain ⟨l, e⟩ := List.getLast?_eq_some_iff.mp h
  rw [e] at hp hj
  rcases List.mem_append.mp hj with z | z
  · exact Nat.le_of_lt ((List.pairwise_append.mp hp).2.2 j z k (List.mem_singleton.mpr rfl))
  · exact Nat.le_of_eq (List.mem_singleton.mp z)
theorem keepF_first {m : Nat} {ts : List Tie} {il : List Nat} (ok : ∀ t ∈ ts, t.Ok m) : ∀ (f y n : Nat), (openL m y n).length ≤ f → Stand m y n → FirstK ts il m y n (keepF ts il m f y n)
  | f, y, n, hf, S => by
    unfold keepF
    cases hb : firstSB ts il y n with
    | some i =>
      obtain ⟨hi, hsb⟩ := firstSB_some hb
      intro s' sm hs
      cases e : allKeep ts il s' with
      | false => rfl
      | true =>
        have := (List.all_eq_true.mp e) i hi
        rw [sbAt_keep ok S.dj hsb hs] at this
        cases this
    | none =>
      have hn := firstSB_none hb
      simp only [Option.isSome_none, Bool.false_eq_true, if_false]
      cases hl : (openL m y n).getLast? with
      | none =>
        have full : openL m y n = [] := List.getLast?_eq_none_iff.mp hl
        refine ⟨S.ym, inS_self S.dj, List.all_eq_true.mpr fun i hi => keep_full ok S.dj full (hn i hi), fun s' sm hs _ => ?_⟩
        rw [stand_full S full hs sm]
        exact Nat.le_refl _
      | some k =>
        obtain ⟨hk, hmax⟩ := open_last hl
        cases f with
        | zero => rw [List.eq_nil_of_length_eq_zero (Nat.le_zero.mp hf)] at hk; cases hk
        | succ f =>
          have l1 := open_less1 hk
          have l2 := open_less2 hk
          have i1 := keepF_first (il := il) ok f y (n ||| 2 ^ k) (by omega) (S.other hk)
          have i2 := keepF_first (il := il) ok f (y ||| 2 ^ k) n (by omega) (S.one hk)
          dsimp only
          cases h1 : keepF ts il m f y (n ||| 2 ^ k) with
          | some s =>
            rw [h1] at i1
            obtain ⟨a1, a2, a3, a4⟩ := i1
            refine ⟨a1, inS_split.mpr (.inr a2), a3, fun s' sm hs hk' => ?_⟩
            rcases (inS_split (k := k)).mp hs with z | z
            · have kt : s'.testBit k = true := z.1 k (by rw [bit_put, decide_eq_true rfl, Bool.or_true])
              have kf : s.testBit k = false := a2.2 k (by rw [bit_put, decide_eq_true rfl, Bool.or_true])
              refine Nat.le_of_lt (lt_of_bits k kf kt fun j hj => ?_)
              by_cases jm : j < m
              · have hno : ¬ j ∈ openL m y n := fun z => by have := hmax j z; omega
                have hyn : y.testBit j = true ∨ n.testBit j = true := by
                  cases ey : y.testBit j with
                  | true => exact .inl rfl
                  | false =>
                    cases en : n.testBit j with
                    | true => exact .inr rfl
                    | false => exact absurd (mem_open.mpr ⟨jm, ey, en⟩) hno
                have hs0 := inS_split.mpr (.inr a2)
                rcases hyn with e | e
                · rw [hs0.1 j e, hs.1 j e]
                · rw [hs0.2 j e, hs.2 j e]
              · have : 2 ^ m ≤ 2 ^ j := Nat.pow_le_pow_right (by decide) (by omega)
                rw [Nat.testBit_lt_two_pow (by omega), Nat.testBit_lt_two_pow (by omega)]
            · exact a4 s' sm z hk'
          | none =>
            rw [h1] at i1
            show FirstK ts il m y n (keepF ts il m f (y ||| 2 ^ k) n)
            cases h2 : keepF ts il m f (y ||| 2 ^ k) n with
            | some s =>
              rw [h2] at i2
              obtain ⟨a1, a2, a3, a4⟩ := i2
              refine ⟨a1, inS_split.mpr (.inl a2), a3, fun s' sm hs hk' => ?_⟩
              rcases (inS_split (k := k)).mp hs with z | z
              · exact a4 s' sm z hk'
              · rw [i1 s' sm z] at hk'
                cases hk'
            | none =>
              rw [h2] at i2
              intro s' sm hs
              rcases (inS_split (k := k)).mp hs with z | z
              · exact i2 s' sm z
              · exact i1 s' sm z
theorem keepF_split {ts : List Tie} {il : List Nat} {m f y n k : Nat} (hb : firstSB ts il y n = none) (ho : (openL m y n).getLast? = some k) : keepF ts il m (f + 1) y n = (match keepF ts il m f y (n ||| 2 ^ k) with | some s => some s | none => keepF ts il m f (y ||| 2 ^ k) n) := by
  conv => lhs; unfold keepF
  simp only [hb, ho, Option.isSome_none, Bool.false_eq_true, if_false]
theorem keepF_full {ts : List Tie} {il : List Nat} {m f y n : Nat} (hb : firstSB ts il y n = none) (ho : openL m y n = []) : keepF ts il m f y n = some y := by
  unfold keepF
  simp [hb, ho]
theorem keepF_broken {ts : List Tie} {il : List Nat} {m f y n i : Nat} (hb : firstSB ts il y n = some i) : keepF ts il m f y n = none := by
  unfold keepF
  simp [hb]
/-! trees of cases -/
end Wd

set_option maxRecDepth 100000
set_option maxHeartbeats 4000000
/-! ### M. Tuples joined, woods by named ties, trees as data -/
namespace L2
open PySem PySem.Spec PyProof.Rows
section
variable {X : Cx}
end
end L2
namespace Wd
open PySem L2 Ow
abbrev natsL (l : List Nat) : List V := l.map fun k : Nat => V.int (k : Int)
theorem at_last (l : List Nat) (k : Nat) : atI (natsL (l ++ [k])) (-1) = some (.int (k : Int)) := by
  unfold atI ixN
  have e : (natsL (l ++ [k])).length = l.length + 1 := by rw [List.length_map, List.length_append, List.length_singleton]
  rw [e, if_neg (by decide), if_pos (by omega)]
  show (natsL (l ++ [k]))[((-1 : Int) + ((l.length + 1 : Nat) : Int)).toNat]? = _
  have e2 : ((-1 : Int) + ((l.length + 1 : Nat) : Int)).toNat = l.length := by omega
  rw [e2, natsL, List.getElem?_map, List.getElem?_append_right (Nat.le_refl _), Nat.sub_self]
  rfl
def spWithO : Sp := fun vs H Q _ => ∃ n k : Nat, vs = [.int n, .int k] ∧ k ≤ 1000 ∧ Q (.int ((n ||| 2 ^ k : Nat) : Int)) H
def spOpen : Sp := fun vs H Q _ => ∃ m y n : Nat, vs = [.int m, .int y, .int n] ∧ m ≤ 900 ∧ ∀ (l : Addr) (H' : Hp), Same H H' → H l = none → H' l = some (.lst (natsL (openL m y n))) → Q (.ref l) H'
def spFirstSB : Sp := fun vs H Q _ => ∃ (wd : Addr) (m : Nat) (ts : List Tie) (tl : Addr) (il : List Nat) (y n : Nat), vs = [.ref wd, .ref tl, .int y, .int n] ∧ WoodT H wd m ts ∧ H tl = some (.lst (natsL il)) ∧ (∀ i ∈ il, i < ts.length) ∧ ∀ H', Same H H' → Q (optN (firstSB ts il y n)) H'
def spKeepF (f : Nat) : Sp := fun vs H Q _ => ∃ (wd : Addr) (m : Nat) (ts : List Tie) (tl : Addr) (il : List Nat) (y n : Nat), vs = [.ref wd, .ref tl, .int y, .int n] ∧ WoodT H wd m ts ∧ H tl = some (.lst (natsL il)) ∧ (∀ i ∈ il, i < ts.length) ∧ (openL m y n).length ≤ f ∧ ∀ H', Same H H' → Q (optN (keepF ts il m f y n)) H'
/-- the named ties of all of them -/
def allT (ts : List Tie) : List Nat := List.range ts.length
theorem allKeep_all (ts : List Tie) (s : Nat) : allKeep ts (allT ts) s = ts.all fun t => t.keep s := by
  unfold allKeep allT
  rw [Bool.eq_iff_iff, List.all_eq_true, List.all_eq_true]
  constructor
  · intro h t ht
    obtain ⟨i, hi, rfl⟩ := List.getElem_of_mem ht
    have := h i (List.mem_range.mpr hi)
    unfold keepAt at this
    rw [List.getElem?_eq_getElem hi] at this
    exact this
  · intro h i hi
    unfold keepAt
    rw [List.getElem?_eq_getElem (List.mem_range.mp hi)]
    exact h _ (List.getElem_mem _)
def spFirstW : Sp := fun vs H Q _ => ∃ (wd : Addr) (m : Nat) (ts : List Tie) (y n : Nat), vs = [.ref wd, .int y, .int n] ∧ WoodT H wd m ts ∧ m ≤ 9 ∧ 1 ≤ m ∧ Stand m y n ∧ ∀ H' o, Same H H' → (match o with | none => ∀ s, s < 2 ^ m → InS y n s → wareB ts s = false | some s => s < 2 ^ m ∧ InS y n s ∧ wareB ts s = true ∧ ∀ s', s' < 2 ^ m → InS y n s' → wareB ts s' = true → s ≤ s') → Q (optN o) H'
end Wd

set_option maxRecDepth 100000
set_option maxHeartbeats 4000000
/-! ### N. min of a list, a list against [] -/
namespace L2
open PySem PySem.Spec PyProof.Rows
section
variable {X : Cx}
/-- a list against an empty one -/
theorem op_eq_nil (hu : X.A.units + 64 < cLine) : OpR X (compareOp .Eq) (fun x y H Q => ∃ (a b : Addr) (xs : List V), x = .ref a ∧ y = .ref b ∧ H a = some (.lst xs) ∧ H b = some (.lst []) ∧ Q (.bl (decide (xs = []))) H) := by
  intro pins s σ H x y v u Q I rx ry h
  obtain ⟨a, b, xs, rfl, rfl, ha, hb, q⟩ := h
  by_cases hx : xs = []
  · subst hx
    refine op_eq_ints hu pins s σ H _ _ v u Q I rx ry ⟨a, b, [], [], rfl, rfl, SqL.of ha, SqL.of hb, ?_⟩
    exact q
  · cases rx
    cases ry
    obtain ⟨its, n, r1, e1, _⟩ := I.lst ha
    obtain ⟨its2, n2, r2, e2, _⟩ := I.lst hb
    cases r2
    have hl := r1.length
    rw [decide_eq_false hx] at q
    refine PySem.P.eq_list_lengths e1 e2 ?_ (by omega) ⟨.bl false, H, I, rfl, q⟩
    cases its with
    | nil => cases r1; exact absurd rfl hx
    | cons c r => simp
end
end L2
namespace Wd
open PySem L2 Ow
theorem scr_of {K : PySem.W.Frag} {H : Hp} {pen a : Addr} {xs : List V} {o : HO} (h : SqL K H a xs) (hp : H pen = none) : ∀ H', SameX pen (L2.upd H pen o) H' → SqL K H' a xs := fun H' s => by
  have keep : ∀ u, H a = some u → KpX pen (L2.upd H pen o) H' a u := fun u e => s a u (ne_of_none e hp) (by rw [upd_ne (ne_of_none e hp)]; exact e)
  rcases h with (h | ⟨u, h⟩) | h
  · exact .inl (.inl (keep _ h))
  · exact .inl (.inr ⟨u, keep _ h⟩)
  · exact .inr h
theorem pen_new {K : PySem.W.Frag} {H : Hp} {pen sp : Addr} {ns : List Int} (h : SqL K H sp (ns.map V.int)) (hl : ns.length ≤ 63) (hp : H pen = none) : Pen K (L2.upd H pen (.lst [.ref sp, .int 0])) pen sp ns 0 := ⟨upd_same, hl, scr_of h hp⟩
theorem land_yes {s y : Nat} : (s &&& y = y) ↔ ∀ k, y.testBit k = true → s.testBit k = true := by
  constructor
  · intro h k hk
    have : (s &&& y).testBit k = true := by rw [h]; exact hk
    rw [Nat.testBit_and, Bool.and_eq_true] at this
    exact this.1
  · intro h
    refine Nat.eq_of_testBit_eq fun k => ?_
    rw [Nat.testBit_and]
    cases e : y.testBit k with
    | false => rw [Bool.and_false]
    | true => rw [h k e]; rfl
theorem land_no {s n : Nat} : (s &&& n = 0) ↔ ∀ k, n.testBit k = true → s.testBit k = false := by
  constructor
  · intro h k hk
    cases e : s.testBit k with
    | false => rfl
    | true =>
      have : (s &&& n).testBit k = true := by rw [Nat.testBit_and, e, hk]; rfl
      rw [h, Nat.zero_testBit] at this
      cases this
  · intro h
    refine Nat.eq_of_testBit_eq fun k => ?_
    rw [Nat.testBit_and, Nat.zero_testBit]
    cases e : n.testBit k with
    | false => rw [Bool.and_false]
    | true => rw [h k e]; rfl
end Wd

set_option maxRecDepth 100000
set_option maxHeartbeats 4000000
/-! ### Comprehensions with cells of their own: an inner one reads their names -/
namespace L2
open PySem PySem.Spec PyProof.Rows
def retE : Option Stmt → Expr
  | some (Stmt.Return (some e) _) => e
  | _ => .Constant .none 0 ⟨0, 0, 0, 0⟩
section
variable {X : Cx} {tg iter elt : Expr} {cs : List Expr} {sc sc0 : Scope} {pos : Pos} {wi : TI} {g : TG} {tc : TT} {te : TE} {XN N' : List Str} {n : Nat} {kp : List Nat}

theorem piL {K : PySem.W.Frag} {l : Expr} {tl : TE} (hl : PE X l tl) (h : X.K = K := by rfl) : PI X tg l (iList K tl) := h ▸ pi_list hl
theorem piT {K : PySem.W.Frag} {l : Expr} {tl : TE} (hl : PE X l tl) (h : X.K = K := by rfl) : PI X tg l (iTup K tl) := h ▸ pi_tup hl
end
end L2

set_option maxRecDepth 100000
set_option maxHeartbeats 4000000
/-! ### O. What each tie's sets are, told in lists; bars -/
namespace Wd
open PySem L2 Ow
end Wd

set_option maxRecDepth 100000
set_option maxHeartbeats 4000000
/-! ### P. Ties left out; ties broken in every set of a stand, told by lists; trees of cases told so -/
namespace Wd
open PySem L2 Ow
theorem inV_nats (k : Nat) (op : List Nat) : inV (.int (k : Int)) (natsL op) = decide (k ∈ op) := by
  induction op with
  | nil => rfl
  | cons a r ih =>
    have e : inV (.int (k : Int)) (natsL (a :: r)) = (eqV (.int (a : Int)) (.int (k : Int)) || inV (.int (k : Int)) (natsL r)) := rfl
    rw [e, ih]
    have e2 : eqV (.int (a : Int)) (.int (k : Int)) = decide (k = a) := by
      show ((a : Int) == (k : Int)) = _
      by_cases z : k = a
      · subst z; simp
      · rw [decide_eq_false z]
        simpa using fun h => z (by omega)
    rw [e2]
    simp [List.mem_cons, Bool.decide_or]
theorem flat_nats (op : List Nat) : (natsL op).all flatV = true := by
  rw [List.all_eq_true]
  intro x hx
  obtain ⟨i, _, rfl⟩ := List.mem_map.mp hx
  rfl
end Wd

set_option maxRecDepth 100000
set_option maxHeartbeats 4000000
namespace L2
open PySem PySem.Spec PyProof.Rows

/-! ### lambdas -/
/-- what stands at a lambda's address -/
def lamP (f : Addr) (qual : Str) (params : Arguments) (body : Expr) (scope : Scope) (cl : List (Str × Addr)) (c : Addr) : Heap → Prop :=
  fun h => ∃ (pm ctv : Value), h.get? f = some (PySem.W.kla_obj "<lambda>" qual params body scope cl pm c ctv)
/-- what a def that makes lambdas wants of the base: its code object with the table at P, the module of the built-ins -/
structure LamB (mg : Str → Option Value) (base : Heap) (c P : Addr) : Prop where
  code : PySem.W.CodeHd base c P
  blt : ∃ bm ob, mg "__builtins__" = some (.ref bm) ∧ bm ≠ builtinsNs ∧ base.get? bm = some ob ∧ ob.cls = .type "module" ∧ ob.dict = some builtinsNs ∧ ob.data = .plain
theorem ext_ok {P : Program} {w : World} {H : Hp} {h : Heap} {a : Addr} {φ : Heap → Prop} (hH : H a = some (.ext φ)) (ok : HOk P w H h) : φ h := (ok a _ hH).1
section
variable {X : Cx} {params : Arguments} {body : Expr} {scope : Scope} {pos : Pos} {c P : Addr}
theorem pe_lam (hc : X.env.code = .ref c) (B : LamB X.mg X.base c P) (hdef : defaultsOf params X.env = ([], [])) (hfr : ∀ y ∈ scope.names, y.2 = .free → ∃ c, X.env.cells.lookup y.1 = some c) :
    PE X (.Lambda params body scope pos) (fun σ H Q => TabOk H P ∧ ∀ (f c' : Addr) (H1 : Hp), H f = none → Same H H1 →
      H1 f = some (.ext (lamP f (X.env.qual ++ "<lambda>") params body scope (clOf scope X.env) c')) → H1 c' = some (.ext (codeP c')) → Q (.ref f) H1) := by
  intro pins s σ H Q I hq
  obtain ⟨⟨ps, hP, tr, hps⟩, q⟩ := hq
  refine PySem.W.kla_eval hdef ?_
  have hP' : s.heap.get? P = some (PySem.W.tabObj ps) := I.hok P _ hP
  have hg : s.heap.Ns mainGlobals X.mg := I.mod.glob.keeps I.bk
  have C : PySem.W.CodeHd s.heap c P := B.code.keeps I.bk
  have hgP : mainGlobals ≠ P := fun z => by
    obtain ⟨o, es, ep, e, hd, _⟩ := hg
    rw [z, hP'] at e; cases e; cases hd
  have hb : s.heap.BuiltinsAt X.mg P := by
    obtain ⟨bm, ob, b1, b2, b3, b4, b5, b6⟩ := B.blt
    have b3' := I.bk _ _ b3
    refine ⟨bm, ob, b1, b2, fun z => ?_, fun z => ?_, b3', b4, b5, b6⟩
    · obtain ⟨o, es, ep, e, hd, _⟩ := hg
      rw [z, e] at b3'; cases b3'; rw [hd] at b6; cases b6
    · rw [z, hP'] at b3'; cases b3'; cases b4
  have hcl : closureFor scope X.env = pure (clOf scope X.env) := clOf_eq hfr
  rcases hps pos with hnf | ⟨c', hf, hc'⟩
  · refine PySem.W.kla_makeFunction hcl I.ok.glob hg hc C hP' tr hnf hgP hb fun c' ctv h' tk hx hge hlt hrec htb => ?_
    have szP : P < s.heap.objs.size := Heap.lt_size hP'
    have hcn : H c' = none := I.hok.fresh hge
    have hfn : H h'.objs.size = none := I.hok.fresh (Nat.le_trans hge (Nat.le_of_lt hlt))
    have cf : c' ≠ h'.objs.size := Nat.ne_of_lt hlt
    have cP : c' ≠ P := Nat.ne_of_gt (Nat.lt_of_lt_of_le szP hge)
    have fP : h'.objs.size ≠ P := Nat.ne_of_gt (Nat.lt_of_lt_of_le szP (Nat.le_trans hge (Nat.le_of_lt hlt)))
    have keep : ∀ b o, b ≠ P → s.heap.get? b = some o → (h'.push (PySem.W.kla_obj "<lambda>" (X.env.qual ++ "<lambda>") params body scope (clOf scope X.env) ((X.mg "__name__").getD .none) c' ctv)).get? b = some o := fun b o hb e => Heap.get?_push_of_some _ (hx b o hb e)
    obtain ⟨c2, oc, vs, t, e2, hoc, hd, hv⟩ := hrec
    cases e2
    -- the new abstract heap
    let H1 : Hp := upd (upd (upd H P (.tbl (ps ++ #[rawInt pos.line, rawInt pos.col, .ref c']))) c' (.ext (codeP c'))) h'.objs.size (.ext (lamP h'.objs.size (X.env.qual ++ "<lambda>") params body scope (clOf scope X.env) c'))
    have H1f : H1 h'.objs.size = some (.ext (lamP h'.objs.size (X.env.qual ++ "<lambda>") params body scope (clOf scope X.env) c')) := upd_same
    have H1c : H1 c' = some (.ext (codeP c')) := by show upd _ _ _ c' = _; rw [upd_ne cf, upd_same]
    have H1P : H1 P = some (.tbl (ps ++ #[rawInt pos.line, rawInt pos.col, .ref c'])) := by show upd _ _ _ P = _; rw [upd_ne (Ne.symm fP), upd_ne (Ne.symm cP), upd_same]
    have H1o : ∀ b, b ≠ h'.objs.size → b ≠ c' → b ≠ P → H1 b = H b := fun b n1 n2 n3 => by show upd _ _ _ b = _; rw [upd_ne n1, upd_ne n2, upd_ne n3]
    have old : ∀ b u, H b = some u → b ≠ h'.objs.size ∧ b ≠ c' := fun b u e => ⟨ne_of_none e hfn, ne_of_none e hcn⟩
    have oldE : ∀ b, H b = some (.ext (codeP b)) → H1 b = some (.ext (codeP b)) := fun b e => by rw [H1o b (old b _ e).1 (old b _ e).2 (fun z => by rw [z, hP] at e; cases e)]; exact e
    have tabs : TabOk H1 P := ⟨_, H1P, by rw [Array.toList_append]; exact TriplesOk_snoc _ _ _ _ tr, fun p' => by
      rw [Array.toList_append]
      rcases codeAmong_grow (pos := p') (pos' := pos) (c := .ref c') ps.toList tr with z | z
      · rcases hps p' with y | ⟨d, y1, y2⟩
        · exact .inl (z.trans y)
        · exact .inr ⟨d, z.trans y1, oldE d y2⟩
      · exact .inr ⟨c', z, H1c⟩⟩
    have same : Same H H1 := fun b o e => by
      by_cases hbP : b = P
      · subst hbP
        rw [hP] at e
        cases e
        exact ⟨⟨_, H1P⟩, fun _ => tabs⟩
      · exact Kp.of e (by rw [H1o b (old b _ e).1 (old b _ e).2 hbP]; exact e) oldE
    have un : Un X.fs [] H H1 s.heap (h'.push (PySem.W.kla_obj "<lambda>" (X.env.qual ++ "<lambda>") params body scope (clOf scope X.env) ((X.mg "__name__").getD .none) c' ctv)) := by
      have np : ∀ b, H b = none → b ≠ P := fun b n z => by rw [z, hP] at n; cases n
      refine ⟨fun b o e n _ _ => keep b o (np b n) e, fun b o e n _ _ => ⟨o.slots, keep b o (np b n) e⟩, fun b o e n _ => ?_, fun b o e _ => ?_, fun b xs e => ?_, fun b o u e => ?_, fun b qs e => ?_⟩
      · have l := Heap.lt_size e
        rw [H1o b (Nat.ne_of_lt (Nat.lt_trans (Nat.lt_of_lt_of_le l hge) hlt)) (Nat.ne_of_lt (Nat.lt_of_lt_of_le l hge)) (np b n)]
        exact n
      · by_cases hbP : b = P
        · subst hbP
          exact ⟨_, Heap.get?_push_of_some _ htb⟩
        · exact ⟨o, keep b o hbP e⟩
      · rw [H1o b (old b _ e).1 (old b _ e).2 (fun z => by rw [z, hP] at e; cases e)]
        exact e
      · rw [H1o b (old b _ e).1 (old b _ e).2 (fun z => by rw [z, hP] at e; cases e)]
        exact e
      · by_cases hbP : b = P
        · subst hbP
          rw [hP] at e
          cases e
          exact ⟨_, H1P⟩
        · exact ⟨#[], by rw [H1o b (old b _ e).1 (old b _ e).2 hbP, e]; simp⟩
    have hok : HOk X.prog X.w H1 (h'.push (PySem.W.kla_obj "<lambda>" (X.env.qual ++ "<lambda>") params body scope (clOf scope X.env) ((X.mg "__name__").getD .none) c' ctv)) := fun b u e => by
      by_cases h1 : b = h'.objs.size
      · subst h1
        rw [H1f] at e
        cases e
        exact ⟨⟨_, _, Heap.get?_push_size _ rfl⟩, ⟨_, Heap.get?_push_size _ rfl⟩, fun h1 h2 ⟨pm, cv, z⟩ k => ⟨pm, cv, k _ z⟩⟩
      · by_cases h2 : b = c'
        · subst h2
          rw [H1c] at e
          cases e
          exact ⟨⟨oc, vs, _, t, Heap.get?_push_of_some _ hoc, hd, hv⟩, ⟨_, Heap.get?_push_of_some _ hoc⟩, fun h1 h2 ⟨o, v, qq, tt, z1, z2, z3⟩ k => ⟨o, v, qq, tt, k _ z1, z2, z3⟩⟩
        · by_cases h3 : b = P
          · subst h3
            rw [H1P] at e
            cases e
            exact Heap.get?_push_of_some _ htb
          · rw [H1o b h1 h2 h3] at e
            refine (I.hok b u e).stay (fun b' o' hb' e' => ?_) (fun b' e' => ?_) fun b' xs e' => ?_
            · refine keep b' o' ?_ e'
              rcases hb' with z | z
              · rw [z]; exact h3
              · intro z2; rw [z2, hP] at z; cases z
            · rw [H1o b' (old b' _ e').1 (old b' _ e').2 (fun z => by rw [z, hP] at e'; cases e')]; exact e'
            · rw [H1o b' (old b' _ e').1 (old b' _ e').2 (fun z => by rw [z, hP] at e'; cases e')]; exact e'
    exact ⟨.ref h'.objs.size, H1, I.un un hok, rfl, q _ c' H1 hfn same H1f H1c⟩
  · refine PySem.W.kla_makeFunctionHit hcl I.ok.glob hg hc C hP' tr hf hb fun ctv h' tk hk hsz => ?_
    have hfn : H h'.objs.size = none := I.hok.fresh hsz
    have keep : ∀ b o, s.heap.get? b = some o → (h'.push { cls := .type "function", data := .func (PySem.W.kla_fn "<lambda>" (X.env.qual ++ "<lambda>") params body scope (clOf scope X.env) ((X.mg "__name__").getD .none) (.ref c') ctv) }).get? b = some o := fun b o e => Heap.get?_push_of_some _ (hk b o e)
    have same : Same H (upd H h'.objs.size (.ext (lamP h'.objs.size (X.env.qual ++ "<lambda>") params body scope (clOf scope X.env) c'))) := same_of fun b u e => by rw [upd_ne (ne_of_none e hfn)]; exact e
    refine ⟨.ref h'.objs.size, _, I.un (Un.laid keep hsz hfn) (I.hok.laid keep hsz ?_), rfl, q _ c' _ hfn same upd_same (same c' _ hc')⟩
    exact ⟨⟨_, _, Heap.get?_push_size _ rfl⟩, ⟨_, Heap.get?_push_size _ rfl⟩, fun h1 h2 ⟨pm, cv, z⟩ k => ⟨pm, cv, k _ z⟩⟩
end
/-! ### a call with a base that holds all that is untracked now -/
/-- all that is untracked and no frame -/
def baseNow (h : Heap) (H : Hp) (st : List Env) : Heap := PySem.W.hideAll h (trk h H ++ frs st)
section
variable {X : Cx} {pins : List (Addr × Obj)} {σ : St} {H : Hp} {s : Shared}
theorem of_baseNow {h : Heap} {H : Hp} {st : List Env} {b : Addr} {o : Obj} (e : (baseNow h H st).get? b = some o) : h.get? b = some o ∧ H b = none ∧ b ∉ frs st := by
  have e' : h.get? b = some o := PySem.W.of_hideAll _ e
  refine ⟨e', ?_, fun z => ?_⟩
  · cases q : H b with
    | none => rfl
    | some x =>
      have hm : b ∈ trk h H := List.mem_filter.mpr ⟨List.mem_range.mpr (Heap.lt_size e'), by simp [q]⟩
      have z : (baseNow h H st).get? b = none := PySem.W.hideAll_none _ (List.mem_append_left _ hm)
      rw [z] at e; cases e
  · have y : (baseNow h H st).get? b = none := PySem.W.hideAll_none _ (List.mem_append_right _ z)
    rw [y] at e; cases e
theorem baseNow_get {h : Heap} {H : Hp} {st : List Env} {b : Addr} {o : Obj} (e : h.get? b = some o) (n : H b = none) (hf : b ∉ frs st) : (baseNow h H st).get? b = some o :=
  PySem.W.hideAll_get _ e fun hm => by
    rcases List.mem_append.mp hm with z | z
    · have q : (H b).isSome = true := (List.mem_filter.mp z).2
      rw [n] at q; simp at q
    · exact hf z
theorem Inv.noStk (I : Inv X pins σ H s) {b : Addr} {o : Obj} (e : X.base.get? b = some o) : b ∉ frs X.stack := fun hb => by
  have := (I.stack.mem hb).1
  rw [e] at this; cases this
theorem Inv.now (I : Inv X pins σ H s) : Env0 X.prog X.w X.K X.mg (baseNow s.heap H X.stack) X.A X.stack s H := by
  have up : ∀ b o, X.base.get? b = some o → (baseNow s.heap H X.stack).get? b = some o := fun b o e => baseNow_get (I.bs b o e).1 (I.bs b o e).2 (I.noStk e)
  obtain ⟨mb, h1, h2⟩ := I.mod.blt
  refine ⟨I.ok.frames, ⟨I.mod.kin.keeps up, I.mod.glob.keeps up, ⟨mb, h1.keeps up, h2⟩, I.mod.nolimit.keeps up⟩, fun b o e => ⟨(of_baseNow e).1, (of_baseNow e).2.1⟩, Nat.le_of_eq (PySem.W.hideAll_size _ _), ?_, I.stkFree, I.hok, I.bare⟩
  have go : ∀ l : List Env, (∀ b ∈ frs l, b ∈ frs X.stack) → s.heap.FunFrames X.base l → s.heap.FunFrames (baseNow s.heap H X.stack) l := by
    intro l
    induction l with
    | nil => intro _ _; trivial
    | cons env r ih =>
      intro hs hl
      obtain ⟨hk, ⟨L, o, hf, hn, ho, hd⟩, hr⟩ := hl
      have hL : L ∈ frs X.stack := hs L (by unfold frs; rw [List.filterMap_cons, hf]; exact List.mem_cons_self)
      refine ⟨hk, ⟨L, o, hf, ?_, ho, hd⟩, ih (fun b hb => hs b (by unfold frs; rw [List.filterMap_cons, hf]; exact List.mem_cons_of_mem _ hb)) hr⟩
      exact PySem.W.hideAll_none _ (List.mem_append_right _ hL)
  exact go X.stack (fun _ h => h) I.stack
/-- a cell of the def that runs is in that base -/
theorem Inv.nowCell (I : Inv X pins σ H s) {x : Str} {c : Addr} {v : Option Value} (hf : X.fn x = true) (hc : X.env.cells.lookup x = some c) (h : s.heap.IsCell c v) : (baseNow s.heap H X.stack).IsCell c v := by
  obtain ⟨o, ho, hd⟩ := h
  refine ⟨o, baseNow_get ho (I.freeC x c hc) fun z => ?_, hd⟩
  rcases List.mem_cons.mp (I.stkSub c z) with e | e
  · exact I.cne x c hc e
  · obtain ⟨_, ob, e2, _⟩ := I.ok.funs.mem e
    exact absurd (Nat.lt_of_lt_of_le (Heap.lt_size e2) (I.ok.cab x c hf hc)) (Nat.lt_irrefl _)
end
section
variable {X : Cx} {k : Nat} {f : Addr} {fd : FuncData} {ps : List Str} {x : Str} {p pos : Pos} {e : Expr} {es : List Expr} {t : TA}
/-- the values of the def's cells, in a base -/
def CellsIn (X : Cx) (σ : St) (base : Heap) : Prop := ∀ (i : Nat) (y : Str) (v : V), X.N[i]? = some y → σ[i]? = some (some v) → X.env.kindOf y = some .cell → ∃ c u, X.env.cells.lookup y = some c ∧ RelV v u ∧ base.IsCell c (some u)
end

/-! ### a lambda keeps its promise -/
structure LamScope (ps fr : List Str) (sc : Scope) : Prop where
  kind : sc.kind = .function
  co : sc.isCoroutine = false
  gen : sc.isGenerator = false
  nd : ps.Nodup
  par : ∀ x ∈ ps, sc.names.lookup x = some .local
  fre : ∀ x ∈ fr, sc.names.lookup x = some .free
  nocell : ∀ y ∈ sc.names, y.2 ≠ .cell
theorem rev_lookup_zip {ps : List Str} {us : List Value} {i : Nat} {x : Str} {u : Value} (nd : ps.Nodup) (h1 : ps[i]? = some x) (h2 : us[i]? = some u) : (ps.zip us).reverse.lookup x = some u := by
  have hm : (x, u) ∈ (ps.zip us).reverse := List.mem_reverse.mpr (List.mem_of_getElem? (i := i) (by rw [List.getElem?_zip_eq_some]; exact ⟨h1, h2⟩))
  obtain ⟨c, hc⟩ := lookup_some hm
  have h3 := List.mem_reverse.mp (PySem.mem_of_lookup hc)
  obtain ⟨j, hj⟩ := List.getElem?_of_mem h3
  rw [List.getElem?_zip_eq_some] at hj
  have hij : j = i := by
    obtain ⟨l1, e1⟩ := List.getElem?_eq_some_iff.mp h1
    obtain ⟨l2, e2⟩ := List.getElem?_eq_some_iff.mp hj.1
    rw [List.nodup_iff_pairwise_ne, List.pairwise_iff_getElem] at nd
    rcases Nat.lt_trichotomy j i with z | z | z
    · exact absurd (e2.trans e1.symm) (nd j i l2 l1 z)
    · exact z
    · exact absurd (e1.trans e2.symm) (nd i j l1 l2 z)
  rw [hij, h2] at hj
  rw [hc, hj.2]
/-- a lambda's body, running -/
def cxLam (P : Program) (w : World) (K : PySem.W.Frag) (mg : Str → Option Value) (base : Heap) (N : List Str) (q : Str) (scope : Scope) (f c : Addr) (cl : List (Str × Addr)) (A : Around) (outer : List Env) (s : Shared) (H : Hp) : Cx where
  prog := P
  w := w
  K := K
  mg := mg
  base := base
  A := A.deeper (PySem.W.envX q scope s.heap.objs.size f (.ref c) cl)
  N := N
  s₀ := s
  H₀ := H
  env := PySem.W.envX q scope s.heap.objs.size f (.ref c) cl
  outer := outer
  stack := PySem.W.envX q scope s.heap.objs.size f (.ref c) cl :: outer
  ex := []
  calm := true
  fn := fun _ => false
  pn := []
  xe := fun _ _ => False
theorem callFunQ {prog : Program} {w : World} {A : Around} {R : Result → Shared → Prop} {s : Shared} {a : Addr} {args : Args} {o : Obj} {fd : FuncData} {body : Expr} {q : Str} (hroom : A.depth < recursionLimit)
    (ho : s.heap.get? a = some o)
    (hd' : o.data = .func fd) (hco : fd.scope.isCoroutine = false) (hgen : fd.scope.isGenerator = false) (hbody : fd.body = .expr body) (hcd : ∃ c oc vs t, fd.code = .ref c ∧ s.heap.get? c = some oc ∧ oc.data = .fields vs ∧ vs[1]? = some (.str q t))
    (h : wpAny (model prog w) A.in1 (bindArgs fd args) (fun binds s₁ =>
      wpAny (model prog w) A.in1 (newFunctionEnv fd.scope fd.globals fd.closure binds (q ++ ".<locals>.") (some a) fd.code none fd.builtins)
        (fun env s₂ => s₂.heap.NoLimit ∧ codeAny (model prog w) A (.expr body env) R s₂) (fun e s' => R (.error e) s') s₁) (fun e s' => R (.error e) s') s) :
    codeAny (model prog w) A (.call (.ref a) args) R s := by
  refine codeAny_of_tree ?_
  show wpAny _ A.in1 (callAny (.ref a) args) _ _ s
  simp only [callAny]
  refine wpAny_bind (wpAny_load ho ?_)
  obtain ⟨c, oc, vs, tq, hc, hoc, hdc, hq⟩ := hcd
  simp only [hd', callFunction, hco, hgen, hbody, hc]
  rw [hc] at h
  refine wpAny_bind (m := field (.ref c) 1) (wpAny_field hoc hdc hq (wpAny_bind (wpAny_pure ?_)))
  exact wpAny_bind (wpAny_mono h (fun binds s₁ h₁ => wpAny_bind (wpAny_mono h₁ (fun env s₂ h₂ => wpAny_bind (wpAny_enterFrame h₂.1 hroom
    (wpAny_pure (And.intro rfl h₂.2)))) fun _ _ h' => h')) fun _ _ h' => h')
/-! ### a def that makes lambdas: its code object is known -/
theorem Fun.okC {P : Program} {w : World} {K : PySem.W.Frag} {mg : Str → Option Value} {base : Heap} {x qual : Str} {st : Stmt} {f : Addr} {fd : FuncData} {N ps : List Str} {k : Nat} {sp : Sp} (F : Fun K x qual st f fd) (S : FnScope N ps (defScope st)) (len : ∀ vs H Q E, sp vs H Q E → vs.length = ps.length)
    (hbody : ∀ (cdv : Value) (A : Around) (outer : List Env) (s : Shared) (H : Hp) (vs : List V) (Q : VK) (E : XK), fd.code = cdv → Room k (A.deeper (envOfC qual (defScope st) s.heap.objs.size f cdv)) → sp vs H Q E →
      ∃ t, PSs (cxOf CX0 P w K mg base N qual (defScope st) f cdv A outer s H E).nox (defBody st) t ∧ t { nx := fun _ H' => Q .non H', rt := Q } (start N vs) H) : FnOk P w K mg base CX0 (k + 1) f fd ps sp := by
  obtain ⟨oc, od, kV, doc, pm, an, cdv, ct, osl, rfl, lk, hcd⟩ := F.ex
  refine fn_of lk hcd S len fun A outer s H vs Q E hr hsp => ?_
  obtain ⟨t, h, q⟩ := hbody cdv A outer s H vs Q E rfl hr hsp
  exact ⟨t, h.nox, q⟩
/-! ### the head of a law that comes to lambdas: the tables of their defs are tracked -/
theorem law_callT {P : Program} {w : World} {K : PySem.W.Frag} {mg mb : Str → Option Value} {k : Nat} {fa a : Addr} {fd : FuncData} {x : Str} {sp : Sp} {s₁ : Shared} {vs : List Value} {ns : List Int} {tabs : List (Addr × Addr)}
    (KX : K.In s₁.heap) (hns : s₁.heap.Ns mainGlobals mg) (hb : s₁.heap.Ns builtinsNs mb) (hbb : ∀ x : Str, x ≠ "__name__" → mb x = bootBuiltins x) (hlim : s₁.heap.NoLimit) (hg : s₁.gens = #[])
    (hT : PySem.W.TabsAt tabs s₁.heap) (hK0 : PySem.W.noTabs K = true)
    (hbm : ∃ bm ob, mg "__builtins__" = some (.ref bm) ∧ bm ≠ builtinsNs ∧ s₁.heap.get? bm = some ob ∧ ob.cls = .type "module" ∧ ob.dict = some builtinsNs ∧ ob.data = .plain)
    (ha : s₁.heap.get? a = some { cls := .type "list", data := .seq vs.toArray }) (hi : IntsAre vs ns) (hl : ns.length ≤ sizeLine) (hr : Room k callerA)
    (F : ∀ base : Heap, K.In base → base.Ns mainGlobals mg → (∀ q ∈ tabs, LamB mg base q.1 q.2) → FnOk P w K mg base CX0 k fa fd [x] sp) (hbind : ∀ (s : Shared) (u : Value), BindsTo s fd ⟨[u], []⟩ [(x, u)])
    (hsp : ∀ H : Hp, (∀ q ∈ tabs, TabOk H q.2) → SqL K H a (ns.map V.int) → sp [.ref a] H (fun v _ => v = .bl true) fun _ _ _ => False) :
    codeAny (model P w) callerA (.call (.ref fa) ⟨[.ref a], []⟩) (fun r s' => r = .ok (.ret (.bool true)) ∧ OldK s₁.heap s'.heap ∧ s'.os = s₁.os ∧ AllBare s'.gens) s₁ := by
  have rv := vals_ints hi
  have lenV := hi.length
  have hPa : ∀ q ∈ tabs, q.2 ≠ a := fun q hq z => by
    have e := (hT q hq).2
    rw [z, ha] at e; cases e
  have hKP : ∀ q ∈ tabs, K.lookup q.2 = none := fun q hq => by
    cases e : K.lookup q.2 with
    | none => rfl
    | some o =>
      have e1 := KX _ _ e
      rw [(hT q hq).2] at e1
      cases e1
      have h2 := List.all_eq_true.mp hK0 (q.2, _) (PySem.W.mem_of_lookupK e)
      exact absurd (show false = true from h2) Bool.false_ne_true
  have core : ∀ H : Hp, (∀ b, H b = none ∨ (∃ o xs, H b = some (.frz o (.lst xs)) ∧ b = a ∧ K.lookup a = none) ∨ (H b = some (.tbl #[]) ∧ b ∈ tabs.map (·.2))) → (∀ q ∈ tabs, H q.2 = some (.tbl #[])) → SqL K H a (ns.map V.int) → HOk P w H s₁.heap →
      codeAny (model P w) callerA (.call (.ref fa) ⟨[.ref a], []⟩) (fun r s' => r = .ok (.ret (.bool true)) ∧ OldK s₁.heap s'.heap ∧ s'.os = s₁.os ∧ AllBare s'.gens) s₁ := by
    intro H hO hTb hS hok
    have noP : ∀ {b : Addr} {o : Obj}, s₁.heap.get? b = some o → o ≠ PySem.W.tabObj #[] → b ≠ a → H b = none := fun {b o} e hne hba => by
      rcases hO b with z | ⟨_, _, _, z, _⟩ | ⟨_, z⟩
      · exact z
      · exact absurd z hba
      · obtain ⟨q, hq, rfl⟩ := List.mem_map.mp z
        rw [(hT q hq).2] at e
        exact absurd (Option.some.inj e).symm hne
    have base_of : ∀ {b : Addr} {o : Obj}, s₁.heap.get? b = some o → H b = none → (hidT s₁.heap H).get? b = some o := fun e n => hidT_get e n
    have noA : ∀ {b : Addr} {o : Obj} {es : Array DictEntry} {ep : Nat}, s₁.heap.get? b = some o → o.data = .dict es ep → H b = none := fun {b o es ep} e d => by
      refine noP e (fun z => by rw [z] at d; cases d) fun z => ?_
      subst z
      rw [ha] at e; cases e; cases d
    have nsK : ∀ {b : Addr} {m : Str → Option Value}, s₁.heap.Ns b m → (hidT s₁.heap H).Ns b m := fun {b m} ⟨o, es, ep, e, d, r⟩ => ⟨o, es, ep, base_of e (noA e d), d, r⟩
    have hKb : K.In (hidT s₁.heap H) := fun b o e => base_of (KX b o e) (by
      rcases hO b with z | ⟨_, _, _, z, y⟩ | ⟨_, z⟩
      · exact z
      · rw [z, y] at e; cases e
      · obtain ⟨q, hq, rfl⟩ := List.mem_map.mp z
        rw [hKP q hq] at e; cases e)
    have hM : Mod K mg (hidT s₁.heap H) := ⟨hKb, nsK hns, ⟨mb, nsK hb, hbb⟩, let ⟨mc, h1, h2⟩ := hlim; ⟨mc, nsK h1, h2⟩⟩
    have hL : ∀ q ∈ tabs, LamB mg (hidT s₁.heap H) q.1 q.2 := fun q hq => by
      refine ⟨?_, ?_⟩
      · obtain ⟨o, ws, file, tf, flags, tg, inF, text, tt, e, e1, r⟩ := (hT q hq).1
        refine ⟨o, ws, file, tf, flags, tg, inF, text, tt, base_of e (noP e (fun z => by rw [z] at e1; cases e1) fun z => ?_), e1, r⟩
        rw [z, ha] at e; cases e; exact absurd e1 (by simp)
      · obtain ⟨bm, ob, b1, b2, b3, b4, b5⟩ := hbm
        refine ⟨bm, ob, b1, b2, base_of b3 (noP b3 (fun z => by rw [z] at b4; cases b4) fun z => ?_), b4, b5⟩
        rw [z, ha] at b3; cases b3; exact absurd b4 (by simp)
    have e0 : Env0 P w K mg (hidT s₁.heap H) callerA [] s₁ H := ⟨rfl, hM, fun b o e => of_hidT e, Nat.le_of_eq (hidT_size _ _), trivial, fun b hb => absurd (show b ∈ ([] : List Addr) from hb) (by simp), hok, .of_eq hg⟩
    have tk : ∀ q ∈ tabs, TabOk H q.2 := fun q hq => ⟨#[], hTb q hq, trivial, fun _ => .inl rfl⟩
    refine codeAny_mono ((F _ hKb (nsK hns) hL).run callerA [] s₁ H ⟨[.ref a], []⟩ [.ref a] [.ref a] _ _ hr e0 (hbind s₁ (.ref a)) (.cons rfl .nil) (hsp H tk hS)) fun r s' h => ?_
    cases r with
    | error e => exact h.elim
    | ok fl =>
      cases fl with
      | next => exact False.elim h
      | brk => exact False.elim h
      | cont => exact False.elim h
      | ret u =>
        obtain ⟨v, H', os, bare, un, hok', r', q⟩ := h
        have q' : v = .bl true := q
        subst q'
        obtain rfl : u = Value.bool true := r'
        have cases3 : ∀ b o, s₁.heap.get? b = some o → s'.heap.get? b = some o ∨ (∃ q ∈ tabs, b = q.2 ∧ ∃ ps, s'.heap.get? b = some (PySem.W.tabObj ps)) := fun b o e => by
          rcases hO b with z | ⟨ob, xs, z, _⟩ | ⟨z, y⟩
          · exact .inl (un.keep b o e z (by intro z; exact absurd (show b ∈ ([] : List Addr) from z) (by simp)) (by simp))
          · have z2 := un.frzs b ob _ z
            obtain ⟨e1, _⟩ := hok b _ z
            obtain ⟨e2, _⟩ := hok' b _ z2
            rw [e] at e1; cases e1
            exact .inl e2
          · obtain ⟨q, hq, rfl⟩ := List.mem_map.mp y
            obtain ⟨more, z2⟩ := un.tbls _ _ z
            exact .inr ⟨q, hq, rfl, _, hok' _ _ z2⟩
        refine ⟨rfl, ⟨fun b o e => ?_, fun b o e => ?_⟩, os, bare⟩
        · rcases cases3 b o e with z | ⟨q, hq, rfl, ps, z⟩
          · exact .inl z
          · have e2 := (hT q hq).2
            rw [e] at e2
            cases e2
            exact .inr (.inl ⟨((hT q hq).1.tab (hT q hq).2).isCodeTable, rfl, #[], ps, rfl, by rw [Array.empty_append]; exact z⟩)
        · rcases cases3 b o e with z | ⟨q, hq, rfl, ps, z⟩
          · exact ⟨_, z⟩
          · exact ⟨_, z⟩
  have memT : ∀ b, b ∈ tabs.map (·.2) → s₁.heap.get? b = some (PySem.W.tabObj #[]) := fun b hb => by
    obtain ⟨q, hq, rfl⟩ := List.mem_map.mp hb
    exact (hT q hq).2
  cases hk : K.lookup a with
  | some o =>
    have e := KX a o hk
    rw [ha] at e
    cases e
    refine core (fun b => if b ∈ tabs.map (·.2) then some (.tbl #[]) else none) (fun b => ?_) (fun q hq => if_pos (List.mem_map_of_mem hq)) (.inr ⟨_, vs.toArray, _, hk, rfl, rfl, rfl, by rw [List.size_toArray, lenV]; exact hl, by simpa using rv⟩) (fun b u z => ?_)
    · by_cases hb : b ∈ tabs.map (·.2)
      · exact .inr (.inr ⟨if_pos hb, hb⟩)
      · exact .inl (if_neg hb)
    · by_cases hb : b ∈ tabs.map (·.2)
      · have z' := (if_pos hb).symm.trans z
        cases z'
        exact memT b hb
      · have z' := (if_neg hb).symm.trans z
        cases z'
  | none =>
    refine core (fun b => if b = a then some (.frz { cls := .type "list", data := .seq vs.toArray } (.lst (ns.map V.int))) else if b ∈ tabs.map (·.2) then some (.tbl #[]) else none) (fun b => ?_) (fun q hq => ?_) (.inl (.inr ⟨{ cls := .type "list", data := .seq vs.toArray }, if_pos rfl⟩)) (fun b u z => ?_)
    · by_cases hb : b = a
      · exact .inr (.inl ⟨_, _, if_pos hb, hb, hk⟩)
      · by_cases hb2 : b ∈ tabs.map (·.2)
        · exact .inr (.inr ⟨(if_neg hb).trans (if_pos hb2), hb2⟩)
        · exact .inl ((if_neg hb).trans (if_neg hb2))
    · exact (if_neg (hPa q hq)).trans (if_pos (List.mem_map_of_mem hq))
    · by_cases hb : b = a
      · have z' := (if_pos hb).symm.trans z
        cases z'
        subst hb
        exact ⟨ha, by rw [List.length_map]; exact hl, vs, _, rv, ha⟩
      · have z1 := (if_neg hb).symm.trans z
        by_cases hb2 : b ∈ tabs.map (·.2)
        · have z' := (if_pos hb2).symm.trans z1
          cases z'
          exact memT b hb2
        · have z' := (if_neg hb2).symm.trans z1
          cases z'
/-- the goal that k_head leaves, of a law that comes to lambdas; x the defs that make them -/
theorem walk_ofT {l : PySem.W.OpenLaw} {n k : Nat} {q : Program} {loose : List Str} {XP : (Str → Option Value) → Heap → Prop} {YP : World → Heap → Prop} {d : DefRec} {K : Params → PySem.W.Frag} {sp : World → Sp} {x : Str} {tabs : World → List (Addr × Addr)}
    (hn : l.most = some n) (hn2 : n ≤ sizeLine) (hdf : d.params.defaults = []) (hr : Room k callerA)
    (hY : ∀ (w : World) (h : Heap), YP w h → (K w.params).In h) (hK0 : ∀ w : World, PySem.W.noTabs (K w.params) = true)
    (hT : ∀ (w : World) (h : Heap), YP w h → PySem.W.TabsAt (tabs w) h)
    (F : ∀ (w : World) (mg : Str → Option Value) (fa : Addr) (h : Heap), (K w.params).In h → h.Ns mainGlobals mg → mg d.name = some (.ref fa) →
      ∃ fd : FuncData, (∀ (s : Shared) (u : Value), BindsTo s fd ⟨[u], []⟩ [(x, u)]) ∧
        ∀ base : Heap, (K w.params).In base → base.Ns mainGlobals mg → (∀ p ∈ tabs w, LamB mg base p.1 p.2) → FnOk l.prog w (K w.params) mg base CX0 k fa fd [x] (sp w))
    (hsp : ∀ (w : World) (H : Hp) (a : Addr) (ns : List Int), ns.length ≤ n → (∀ p ∈ tabs w, TabOk H p.2) → SqL (K w.params) H a (ns.map V.int) → sp w [.ref a] H (fun v _ => v = .bl true) fun _ _ _ => False) :
    PySem.W.WalkO q loose XP YP l.row.toRowW d [] (fun f vs => PySem.call f vs) := by
  refine Att.attach_call hn hdf fun w s₀ s₁ mg mb fa o pm cd doc a vs ns G Y ho hd hcd hmg hobj hints hlen hg => ?_
  have KX := hY w _ Y
  obtain ⟨fd, hb, hF⟩ := F w mg fa _ KX G.T.g hmg
  have hTT := hT w _ Y
  exact law_callT KX G.T.g G.T.b G.T.builtins G.T.nolimit hg hTT (hK0 w) G.T.bmain hobj hints (Nat.le_trans hlen hn2) hr hF hb fun H hO hS => hsp w H a ns hlen hO hS
/-- the pieces of a written lambda -/
def lastArg : Expr → Expr
  | .Call _ args _ _ => args.getLastD (.Constant .none 0 ⟨0, 0, 0, 0⟩)
  | e => e
def lamScope : Expr → Scope
  | .Lambda _ _ sc _ => sc
  | _ => { kind := .function, names := [], isGenerator := false, isCoroutine := false }
end L2

set_option maxRecDepth 100000
set_option maxHeartbeats 4000000
namespace Wd
open PySem L2 Ow
theorem iteC {b : Bool} {A B : Prop} (hb : b = true) (h : A) : if b = true then A else B := by
  rw [if_pos hb]
  exact h
theorem iteCN {b : Bool} {A B : Prop} (hb : b = false) (h : B) : if b = true then A else B := by
  rw [if_neg (by rw [hb]; simp)]
  exact h
/-! ### trees told with leaves of a function -/
/-- a promise at a heap where a table of code is tracked -/
def spT (P0 : Addr) (sp : Sp) : Sp := fun vs H Q E => TabOk H P0 ∧ sp vs H Q E
section
variable {ts : List Tie} {il : List Nat} {m f y n : Nat} {leaf : Nat → Nat → Option PyData}
end
theorem lamP_fn {p : Addr} {qual : Str} {params : Arguments} {body : Expr} {scope : Scope} {cl : List (Str × Addr)} {c : Addr} (h : Heap) (x : lamP p qual params body scope cl c h) : ∃ o fd', h.get? p = some o ∧ o.data = .func fd' := by
  obtain ⟨pm, ctv, e⟩ := x
  exact ⟨_, _, e, rfl⟩
end Wd

set_option maxRecDepth 100000
set_option maxHeartbeats 4000000
namespace L2
open PySem PySem.Spec PyProof.Rows

/-! ### zip of two tuples -/
section
variable {prog : Program} {w : World} {A : Around} {E : Value → Shared → Prop} {s : Shared}
end
end L2
namespace Wd
open PySem L2 Ow
end Wd

set_option maxRecDepth 100000
set_option maxHeartbeats 4000000
namespace Wd
open PySem L2 Ow
/-! ### the wares of a wood, in their order -/
def wareL (m : Nat) (ts : List Tie) : List Nat := (List.range (2 ^ m)).filter fun s => wareB ts s
theorem mem_wareL {m : Nat} {ts : List Tie} {s : Nat} : s ∈ wareL m ts ↔ s < 2 ^ m ∧ wareB ts s = true := by
  unfold wareL
  rw [List.mem_filter, List.mem_range]
end Wd

set_option maxHeartbeats 4000000
namespace Srt
open PySem PyProof PyProof.Rows

section
variable {prog : Program} {w : World} {A : Around} {E : Value → Shared → Prop} {s : Shared}

end
end Srt

set_option maxHeartbeats 4000000
namespace Srt
open PySem PyProof PyProof.Rows

section
variable {prog : Program} {w : World} {A : Around} {E : Value → Shared → Prop} {s : Shared}
end
end Srt

set_option maxHeartbeats 4000000
namespace Srt
open PySem PyProof PyProof.Rows

section
variable {prog : Program} {w : World} {A : Around} {E : Value → Shared → Prop} {s : Shared}

end
end Srt

set_option maxHeartbeats 4000000
namespace Srt
open PySem PyProof PyProof.Rows

section
variable {prog : Program} {w : World} {A : Around} {E : Value → Shared → Prop} {s : Shared}

end
end Srt

set_option maxHeartbeats 4000000
namespace Srt
open PySem PyProof PyProof.Rows

section
variable {prog : Program} {w : World} {A : Around} {E : Value → Shared → Prop} {s : Shared}

end
end Srt

set_option maxHeartbeats 4000000
namespace Srt
open PySem PyProof PyProof.Rows

section
variable {prog : Program} {w : World} {A : Around} {E : Value → Shared → Prop} {s : Shared} {a₀ : Array Keyed}

end
end Srt

set_option maxHeartbeats 4000000
namespace Srt
open PySem PyProof PyProof.Rows

section
variable {prog : Program} {w : World} {A : Around} {E : Value → Shared → Prop} {s : Shared} {a₀ : Array Keyed}

end
end Srt

set_option maxHeartbeats 4000000
set_option maxRecDepth 100000
namespace Srt
open PySem PyProof PyProof.Rows
section
variable {prog : Program} {w : World} {A : Around} {E : Value → Shared → Prop} {s : Shared}

end
end Srt
namespace L2
open PySem PySem.Spec PyProof.Rows
variable {X : Cx}
end L2

set_option maxRecDepth 100000
set_option maxHeartbeats 4000000
namespace Wd
open PySem L2 Ow
/-! ### sets counted by how many of some options they have, weighed -/
structure Bg where
  u : Nat
  lo : Int
  hi : Int
  ks : List Nat
def Bg.tie (b : Bg) : Tie := .bough b.u b.lo b.hi b.ks
def Bg.ind (b : Bg) (j : Nat) : Nat := if decide (b.lo ≤ (j : Int)) && decide ((j : Int) ≤ b.hi) then 1 else 0
/-- over all choices of some of ks: what g says of how many, times the weights -/
def selS (w : Nat → Nat) : List Nat → (Nat → Nat) → Nat
  | [], g => g 0
  | c :: cs, g => selS w cs g + w c * selS w cs fun j => g (j + 1)
def Bg.F (b : Bg) (w : Nat → Nat) : Nat := selS w b.ks b.ind
theorem sel_none (w : Nat → Nat) : ∀ (ks : List Nat) (g : Nat → Nat), (∀ j, g (j + 1) = 0) → selS w ks g = g 0
  | [], _, _ => rfl
  | c :: cs, g, h => by
    show selS w cs g + w c * selS w cs (fun j => g (j + 1)) = g 0
    rw [sel_none w cs g h, sel_none w cs _ fun j => h (j + 1), h 0, Nat.mul_zero, Nat.add_zero]
/-- a bough is taken: its up weighs so many times more -/
def stepW (w : Nat → Nat) (b : Bg) : Nat → Nat := fun k => if k = b.u then w k * b.F w else w k
theorem stepW_ne {w : Nat → Nat} {b : Bg} {k : Nat} (h : k ≠ b.u) : stepW w b k = w k := if_neg h
theorem stepW_eq {w : Nat → Nat} {b : Bg} : stepW w b b.u = w b.u * b.F w := if_pos rfl
/-! ### all sets of some options -/
def sub : List Nat → Nat → (Nat → Nat) → Nat
  | [], m, f => f m
  | k :: ks, m, f => sub ks m f + sub ks (m ||| 2 ^ k) f
theorem sub_app : ∀ (a b : List Nat) (m : Nat) (f : Nat → Nat), sub (a ++ b) m f = sub a m fun m' => sub b m' f
  | [], _, _, _ => rfl
  | k :: ks, b, m, f => by
    show sub (ks ++ b) m f + sub (ks ++ b) _ f = _
    rw [sub_app ks b, sub_app ks b]
    rfl
theorem sub_congr : ∀ {V : List Nat} {m : Nat} {f g : Nat → Nat}, (∀ s, (∀ k, k ∉ V → s.testBit k = m.testBit k) → f s = g s) → sub V m f = sub V m g
  | [], m, f, g, h => h m fun _ _ => rfl
  | c :: cs, m, f, g, h => by
    show sub cs m f + sub cs _ f = sub cs m g + sub cs _ g
    congr 1
    · exact sub_congr fun s hs => h s fun k hk => hs k fun z => hk (List.mem_cons_of_mem _ z)
    · refine sub_congr fun s hs => h s fun k hk => ?_
      rw [hs k fun z => hk (List.mem_cons_of_mem _ z), Nat.testBit_or, Nat.testBit_two_pow]
      rw [decide_eq_false (fun z : c = k => hk (z ▸ List.mem_cons_self)), Bool.or_false]
theorem sub_mul (x : Nat) : ∀ (V : List Nat) (m : Nat) (f : Nat → Nat), sub V m (fun s => x * f s) = x * sub V m f
  | [], _, _ => rfl
  | c :: cs, m, f => by
    show sub cs m _ + sub cs _ _ = x * (sub cs m f + sub cs _ f)
    rw [sub_mul x cs, sub_mul x cs, Nat.mul_add]
theorem sub_perm {a b : List Nat} (p : a.Perm b) : ∀ (m : Nat) (f : Nat → Nat), sub a m f = sub b m f := by
  induction p with
  | nil => intro m f; rfl
  | cons x _ ih => intro m f; show sub _ m f + sub _ _ f = sub _ m f + sub _ _ f; rw [ih, ih]
  | swap x y l =>
    intro m f
    show sub l m f + sub l (m ||| 2 ^ x) f + (sub l (m ||| 2 ^ y) f + sub l (m ||| 2 ^ y ||| 2 ^ x) f) = sub l m f + sub l (m ||| 2 ^ y) f + (sub l (m ||| 2 ^ x) f + sub l (m ||| 2 ^ x ||| 2 ^ y) f)
    rw [show m ||| 2 ^ y ||| 2 ^ x = m ||| 2 ^ x ||| 2 ^ y by rw [Nat.or_assoc, Nat.or_comm (2 ^ y), ← Nat.or_assoc]]
    omega
  | trans _ _ h1 h2 => intro m f; rw [h1, h2]
/-- the weights of those that a set has -/
def wt (w : Nat → Nat) : List Nat → Nat → Nat
  | [], _ => 1
  | c :: cs, s => (if s.testBit c = true then w c else 1) * wt w cs s
theorem wt_app (w : Nat → Nat) : ∀ (a b : List Nat) (s : Nat), wt w (a ++ b) s = wt w a s * wt w b s
  | [], b, s => (Nat.one_mul _).symm
  | c :: cs, b, s => by
    show _ * wt w (cs ++ b) s = _ * wt w cs s * wt w b s
    rw [wt_app w cs b s, Nat.mul_assoc]
theorem wt_congr {w w' : Nat → Nat} {s s' : Nat} : ∀ {a : List Nat}, (∀ k ∈ a, s.testBit k = s'.testBit k ∧ w k = w' k) → wt w a s = wt w' a s'
  | [], _ => rfl
  | c :: cs, h => by
    show _ * wt w cs s = _ * wt w' cs s'
    rw [wt_congr fun k hk => h k (List.mem_cons_of_mem _ hk), (h c List.mem_cons_self).1, (h c List.mem_cons_self).2]
theorem wt_step {w : Nat → Nat} {b : Bg} {s : Nat} : ∀ {a : List Nat}, a.Nodup → b.u ∈ a → wt (stepW w b) a s = wt w a s * (if s.testBit b.u = true then b.F w else 1)
  | c :: cs, nd, h => by
    obtain ⟨n1, n2⟩ := List.nodup_cons.mp nd
    show (if s.testBit c = true then stepW w b c else 1) * wt (stepW w b) cs s = (if s.testBit c = true then w c else 1) * wt w cs s * _
    by_cases e : c = b.u
    · rw [wt_congr (w := stepW w b) (w' := w) (s := s) (s' := s) fun k hk => ⟨rfl, stepW_ne fun z => n1 (e ▸ z ▸ hk)⟩, e, stepW_eq]
      by_cases t : s.testBit b.u = true
      · rw [if_pos t, if_pos t, if_pos t, Nat.mul_assoc, Nat.mul_comm (b.F w), ← Nat.mul_assoc]
      · rw [if_neg t, if_neg t, if_neg t, Nat.mul_one]
    · rw [stepW_ne e, wt_step n2 ((List.mem_cons.mp h).resolve_left (Ne.symm e)), Nat.mul_assoc]
theorem wt_ones {w : Nat → Nat} (h : ∀ k, w k = 1) (s : Nat) : ∀ (a : List Nat), wt w a s = 1
  | [] => rfl
  | c :: cs => by
    show _ * wt w cs s = 1
    rw [wt_ones h s cs, h c, ite_self, Nat.mul_one]
theorem sub_sel (w : Nat → Nat) : ∀ {ks : List Nat} {m : Nat} {g : Nat → Nat}, ks.Nodup → (∀ k ∈ ks, m.testBit k = false) → sub ks m (fun s => g (cnt ks s) * wt w ks s) = selS w ks g
  | [], m, g, _, _ => Nat.mul_one _
  | c :: cs, m, g, nd, h => by
    obtain ⟨n1, n2⟩ := List.nodup_cons.mp nd
    have hc := h c List.mem_cons_self
    show sub cs m _ + sub cs (m ||| 2 ^ c) _ = selS w cs g + w c * selS w cs _
    congr 1
    · rw [← sub_sel w (m := m) (g := g) n2 fun k hk => h k (List.mem_cons_of_mem _ hk)]
      refine sub_congr fun s hs => ?_
      have e := hs c n1
      rw [hc] at e
      have e2 : wt w (c :: cs) s = 1 * wt w cs s := by
        show (if s.testBit c = true then w c else 1) * wt w cs s = _
        rw [e]; rfl
      rw [cnt_cons, e, e2, Nat.one_mul, if_neg Bool.false_ne_true, Nat.zero_add]
    · rw [← sub_sel w (m := m ||| 2 ^ c) (g := fun j => g (j + 1)) n2 fun k hk => ?_, ← sub_mul]
      · refine sub_congr fun s hs => ?_
        have e := hs c n1
        rw [Nat.testBit_or, Nat.testBit_two_pow_self, Bool.or_true] at e
        have e2 : wt w (c :: cs) s = w c * wt w cs s := by
          show (if s.testBit c = true then w c else 1) * wt w cs s = _
          rw [e]; rfl
        rw [cnt_cons, e, e2, if_pos rfl, Nat.add_comm 1, Nat.mul_left_comm]
      · rw [Nat.testBit_or, h k (List.mem_cons_of_mem _ hk), Nat.testBit_two_pow, decide_eq_false (fun z : c = k => n1 (z ▸ hk))]; rfl
/-! ### boughs taken one by one -/
def kidsB (L : List Bg) : List Nat := L.flatMap (·.ks)
def Fit (r : Nat) : List Bg → Prop
  | [] => True
  | b :: R => b.u ∈ r :: kidsB R ∧ (∀ k ∈ b.ks, k ≠ b.u ∧ ∀ b' ∈ R, b'.u ≠ k) ∧ Fit r R
def allB (L : List Bg) (s : Nat) : Bool := L.all fun b => b.tie.keep s
def bit (p : Bool) : Nat := if p then 1 else 0
/-- the sets with r that keep the boughs, weighed -/
def zSum (r : Nat) (L : List Bg) (w : Nat → Nat) : Nat := sub (r :: kidsB L) 0 fun s => bit (s.testBit r && allB L s) * wt w (r :: kidsB L) s
theorem keep_bg {b : Bg} {s s' : Nat} (h1 : s.testBit b.u = s'.testBit b.u) (h2 : ∀ k ∈ b.ks, s.testBit k = s'.testBit k) : b.tie.keep s = b.tie.keep s' := by
  show Tie.keep (.bough _ _ _ _) s = Tie.keep (.bough _ _ _ _) s'
  simp only [Tie.keep]
  rw [h1, cnt_congr h2]
theorem zSum_step {r : Nat} {b : Bg} {R : List Bg} {w : Nat → Nat} (nd : (r :: kidsB (b :: R)).Nodup) (ft : Fit r (b :: R)) : zSum r (b :: R) w = zSum r R (stepW w b) := by
  obtain ⟨hu, hk, _⟩ := ft
  have eV : kidsB (b :: R) = b.ks ++ kidsB R := List.flatMap_cons
  have pV : (r :: kidsB (b :: R)).Perm ((r :: kidsB R) ++ b.ks) := by
    rw [eV]
    show (r :: (b.ks ++ kidsB R)).Perm (r :: (kidsB R ++ b.ks))
    exact List.Perm.cons _ List.perm_append_comm
  have nd2 := (pV.nodup_iff).mp nd
  obtain ⟨ndV, ndK, dis⟩ := List.nodup_append.mp nd2
  unfold zSum
  rw [sub_perm pV, sub_app]
  refine sub_congr fun m hm => ?_
  have off : ∀ k ∈ b.ks, m.testBit k = false := fun k hk' => by rw [hm k fun z => dis k z k hk' rfl, Nat.zero_testBit]
  have perW : ∀ s, wt w (r :: kidsB (b :: R)) s = wt w (r :: kidsB R) s * wt w b.ks s := fun s => by
    rw [eV]
    show _ * wt w (b.ks ++ kidsB R) s = _ * wt w (kidsB R) s * wt w b.ks s
    rw [wt_app, Nat.mul_comm (wt w b.ks s), Nat.mul_assoc]
  have un : b.u ∉ b.ks := fun z => (hk b.u z).1 rfl
  have rn : r ∉ b.ks := fun z => dis r List.mem_cons_self r z rfl
  have key : sub b.ks m (fun s => bit (s.testBit r && allB (b :: R) s) * wt w (r :: kidsB (b :: R)) s) = sub b.ks m fun s => (bit (m.testBit r && allB R m) * wt w (r :: kidsB R) m) * ((fun j => if m.testBit b.u = true then b.ind j else bit (decide (j = 0))) (cnt b.ks s) * wt w b.ks s) := by
    refine sub_congr fun s hs => ?_
    rw [perW, hs r rn]
    have e1 : wt w (r :: kidsB R) s = wt w (r :: kidsB R) m := wt_congr fun k hk' => ⟨hs k fun z => dis k hk' k z rfl, rfl⟩
    have e2 : allB R s = allB R m := by
      unfold allB
      rw [Bool.eq_iff_iff, List.all_eq_true, List.all_eq_true]
      have ee : ∀ b' ∈ R, b'.tie.keep s = b'.tie.keep m := fun b' hb' => keep_bg (hs _ fun z => (hk _ z).2 b' hb' rfl) fun k hk' => hs k fun z => dis k (List.mem_cons_of_mem _ (List.mem_flatMap.mpr ⟨b', hb', hk'⟩)) k z rfl
      exact ⟨fun h x hx => by rw [← ee x hx]; exact h x hx, fun h x hx => by rw [ee x hx]; exact h x hx⟩
    have e3 : allB (b :: R) s = (b.tie.keep s && allB R m) := by rw [← e2]; rfl
    have e4 : bit (b.tie.keep s) = (fun j => if m.testBit b.u = true then b.ind j else bit (decide (j = 0))) (cnt b.ks s) := by
      have hu' := hs b.u un
      show bit (Tie.keep (.bough _ _ _ _) s) = _
      simp only [Tie.keep]
      rw [hu']
      by_cases t : m.testBit b.u = true
      · rw [if_pos t, if_pos t]; rfl
      · rw [if_neg t, if_neg t]
    have bm : ∀ p q : Bool, bit (p && q) = bit p * bit q := fun p q => by cases p <;> cases q <;> rfl
    rw [e1, e3, ← e4, bm, bm, bm]
    simp only [Nat.mul_assoc, Nat.mul_comm, Nat.mul_left_comm]
  rw [key, sub_mul, sub_sel w (g := fun j => if m.testBit b.u = true then b.ind j else bit (decide (j = 0))) ndK off, wt_step ndV hu, Nat.mul_assoc]
  congr 1
  congr 1
  by_cases t : m.testBit b.u = true
  · simp only [if_pos t]; rfl
  · simp only [if_neg t]
    exact sel_none w b.ks _ fun j => rfl
theorem zSum_all {r : Nat} : ∀ {L : List Bg} {w : Nat → Nat}, (r :: kidsB L).Nodup → Fit r L → zSum r L w = L.foldl stepW w r
  | [], w, _, _ => by
    show sub [r] 0 (fun s => bit (s.testBit r && true) * ((if s.testBit r = true then w r else 1) * 1)) = w r
    show bit ((0 : Nat).testBit r && true) * ((if (0 : Nat).testBit r = true then w r else 1) * 1) + bit ((0 ||| 2 ^ r).testBit r && true) * ((if (0 ||| 2 ^ r).testBit r = true then w r else 1) * 1) = w r
    rw [Nat.zero_testBit, Nat.zero_or, Nat.testBit_two_pow_self]
    simp [bit]
  | b :: R, w, nd, ft => by
    have nd' : (r :: kidsB R).Nodup := by
      rw [show kidsB (b :: R) = b.ks ++ kidsB R from List.flatMap_cons] at nd
      obtain ⟨n1, n2⟩ := List.nodup_cons.mp nd
      exact List.nodup_cons.mpr ⟨fun z => n1 (List.mem_append_right _ z), (List.nodup_append.mp n2).2.1⟩
    rw [zSum_step nd ft, zSum_all nd' ft.2.2]
    rfl
end Wd

set_option maxRecDepth 100000
set_option maxHeartbeats 4000000
namespace L2
open PySem PySem.Spec PyProof.Rows

/-! ### zip of two lists -/
end L2

set_option maxRecDepth 100000
set_option maxHeartbeats 4000000
namespace Wd
open PySem L2 Ow
/-! ### the boughs in the order in which they are taken -/
def atUp (L : List Bg) (k : Nat) : List Bg := L.filter fun b => b.u == k
def ordL (m : Nat) (L : List Bg) : List Bg := (List.range m).reverse.flatMap (atUp L)
theorem mem_atUp {L : List Bg} {k : Nat} {b : Bg} : b ∈ atUp L k ↔ b ∈ L ∧ b.u = k := by
  unfold atUp
  rw [List.mem_filter, beq_iff_eq]
theorem mem_ordL {m : Nat} {L : List Bg} (ok : ∀ b ∈ L, b.u < m) {b : Bg} : b ∈ ordL m L ↔ b ∈ L := by
  unfold ordL
  rw [List.mem_flatMap]
  constructor
  · rintro ⟨k, _, h⟩
    exact (mem_atUp.mp h).1
  · intro h
    exact ⟨b.u, List.mem_reverse.mpr (List.mem_range.mpr (ok b h)), mem_atUp.mpr ⟨h, rfl⟩⟩
theorem ord_succ (m : Nat) (L : List Bg) : ordL (m + 1) L = atUp L m ++ ordL m L := by
  unfold ordL
  rw [List.range_succ, List.reverse_append]
  rfl
/-- all boughs below m, in another order -/
theorem ord_perm (L : List Bg) : ∀ (m : Nat), (ordL m L).Perm (L.filter fun b => decide (b.u < m))
  | 0 => by
    have e : (L.filter fun b => decide (b.u < 0)) = [] := List.filter_eq_nil_iff.mpr fun b hb => by simp
    rw [e]
    exact List.Perm.refl _
  | m + 1 => by
    rw [ord_succ]
    refine (List.Perm.append_left _ (ord_perm L m)).trans ?_
    induction L with
    | nil => exact List.Perm.refl _
    | cons b L ih =>
      unfold atUp at ih ⊢
      by_cases h1 : b.u = m
      · rw [List.filter_cons_of_pos (by simpa using h1), List.filter_cons_of_neg (by simp; omega), List.filter_cons_of_pos (by simp; omega)]
        exact List.Perm.cons _ ih
      · rw [List.filter_cons_of_neg (by simpa using h1)]
        by_cases h2 : b.u < m
        · rw [List.filter_cons_of_pos (by simpa using h2), List.filter_cons_of_pos (by simp; omega)]
          exact List.perm_middle.trans (List.Perm.cons _ ih)
        · rw [List.filter_cons_of_neg (by simpa using h2), List.filter_cons_of_neg (by simp; omega)]
          exact ih
theorem ord_perm_all {m : Nat} {L : List Bg} (ok : ∀ b ∈ L, b.u < m) : (ordL m L).Perm L := by
  have e : (L.filter fun b => decide (b.u < m)) = L := List.filter_eq_self.mpr fun b hb => by simpa using ok b hb
  have := ord_perm L m
  rwa [e] at this
theorem ord_down {L : List Bg} : ∀ {m : Nat}, (ordL m L).Pairwise fun b b' => b'.u ≤ b.u
  | 0 => List.Pairwise.nil
  | m + 1 => by
    rw [ord_succ, List.pairwise_append]
    refine ⟨?_, ord_down, fun b hb b' hb' => ?_⟩
    · exact List.Pairwise.imp_of_mem (R := fun _ _ => True) (fun {a b} ha hb _ => by rw [(mem_atUp.mp ha).2, (mem_atUp.mp hb).2]; exact Nat.le_refl _) (List.pairwise_of_forall fun _ _ => trivial)
    · rw [(mem_atUp.mp hb).2]
      unfold ordL at hb'
      obtain ⟨k, hk, hk'⟩ := List.mem_flatMap.mp hb'
      rw [(mem_atUp.mp hk').2]
      exact Nat.le_of_lt (List.mem_range.mp (List.mem_reverse.mp hk))
structure TreeB (m : Nat) (L : List Bg) : Prop where
  ok : ∀ b ∈ L, Tie.BoughOk m b.u b.lo b.hi b.ks
  kids : (kidsB L).Perm (List.range' 1 (m - 1))
  m1 : 1 ≤ m
/-- a list of boughs, each later one no deeper, is fit where each up is a kid of a later one -/
theorem fit_of {m : Nat} : ∀ {L : List Bg}, (∀ b ∈ L, Tie.BoughOk m b.u b.lo b.hi b.ks) → (L.Pairwise fun b b' => b'.u ≤ b.u) → (∀ b ∈ L, b.u = 0 ∨ b.u ∈ kidsB L) → Fit 0 L
  | [], _, _, _ => trivial
  | b :: R, ok, pw, ups => by
    obtain ⟨p1, p2⟩ := List.pairwise_cons.mp pw
    have okb := ok b List.mem_cons_self
    have eV : kidsB (b :: R) = b.ks ++ kidsB R := List.flatMap_cons
    have upR : ∀ b' ∈ b :: R, b'.u = 0 ∨ b'.u ∈ kidsB R := fun b' hb' => by
      rcases ups b' hb' with z | z
      · exact .inl z
      · rw [eV] at z
        rcases List.mem_append.mp z with z | z
        · have h1 := (okb.up _ z).1
          rcases List.mem_cons.mp hb' with e | e
          · subst e; omega
          · have := p1 b' e; omega
        · exact .inr z
    refine ⟨?_, fun k hk => ⟨?_, fun b' hb' => ?_⟩, fit_of (fun b' hb' => ok b' (List.mem_cons_of_mem _ hb')) p2 fun b' hb' => upR b' (List.mem_cons_of_mem _ hb')⟩
    · rcases upR b List.mem_cons_self with z | z
      · rw [z]; exact List.mem_cons_self
      · exact List.mem_cons_of_mem _ z
    · have := (okb.up k hk).1; omega
    · have h1 := (okb.up k hk).1
      have h2 := p1 b' hb'
      omega
theorem kids_perm {A B : List Bg} (p : A.Perm B) : (kidsB A).Perm (kidsB B) := List.Perm.flatMap_right _ p
theorem TreeB.lt {m : Nat} {L : List Bg} (T : TreeB m L) : ∀ b ∈ L, b.u < m := fun b hb => (T.ok b hb).um
theorem TreeB.perm0 {m : Nat} {L : List Bg} (T : TreeB m L) : (0 :: kidsB (ordL m L)).Perm (List.range m) := by
  have h1 := (kids_perm (ord_perm_all T.lt)).trans T.kids
  have m1 := T.m1
  have e : List.range m = 0 :: List.range' 1 (m - 1) := by
    rw [List.range_eq_range']
    obtain ⟨n, rfl⟩ : ∃ n, m = n + 1 := ⟨m - 1, by omega⟩
    rfl
  rw [e]
  exact List.Perm.cons _ h1
theorem TreeB.nd {m : Nat} {L : List Bg} (T : TreeB m L) : (0 :: kidsB (ordL m L)).Nodup := (T.perm0.nodup_iff).mpr List.nodup_range
theorem TreeB.fit {m : Nat} {L : List Bg} (T : TreeB m L) : Fit 0 (ordL m L) := by
  refine fit_of (m := m) (fun b hb => T.ok b ((mem_ordL T.lt).mp hb)) ord_down fun b hb => ?_
  have h1 := T.lt b ((mem_ordL T.lt).mp hb)
  have h2 : b.u ∈ 0 :: kidsB (ordL m L) := T.perm0.mem_iff.mpr (List.mem_range.mpr h1)
  rcases List.mem_cons.mp h2 with z | z
  · exact .inl z
  · exact .inr z
def ones : Nat → Nat := fun _ => 1
/-- what is told of each option -/
def waysW (m : Nat) (L : List Bg) : Nat → Nat := (ordL m L).foldl stepW ones
/-! ### all sets, by their numbers -/
theorem sum_split (f : Nat → Nat) (n : Nat) : ((List.range (n + n)).map f).sum = ((List.range n).map fun s => f s + f (n + s)).sum := by
  rw [List.range_add, List.map_append, List.sum_append, List.map_map]
  have h : ∀ (l : List Nat) (f g : Nat → Nat), (l.map f).sum + (l.map g).sum = (l.map fun s => f s + g s).sum := fun l f g => by
    induction l with
    | nil => rfl
    | cons x l ih => simp only [List.map_cons, List.sum_cons]; rw [← ih]; omega
  exact h _ _ _
theorem sub_range (f : Nat → Nat) : ∀ (m : Nat) (g : Nat → Nat), (∀ s, s < 2 ^ m → f s = g s) → sub (List.range m) 0 f = ((List.range (2 ^ m)).map g).sum
  | 0, g, h => by
    show f 0 = g 0 + 0
    rw [h 0 (by decide)]; rfl
  | m + 1, g, h => by
    rw [List.range_succ, sub_app, Nat.pow_succ, Nat.mul_two, sum_split]
    refine sub_range _ m _ fun s hs => ?_
    show f s + f (s ||| 2 ^ m) = g s + g (2 ^ m + s)
    have e : s ||| 2 ^ m = 2 ^ m + s := by
      rw [Nat.or_comm]
      have := Nat.two_pow_add_eq_or_of_lt hs 1
      simpa using this.symm
    have p : 2 ^ (m + 1) = 2 ^ m + 2 ^ m := by rw [Nat.pow_succ, Nat.mul_two]
    rw [e, h s (by omega), h (2 ^ m + s) (by omega)]
theorem len_filter (p : Nat → Bool) : ∀ (l : List Nat), (l.filter p).length = (l.map fun s => bit (p s)).sum
  | [] => rfl
  | x :: l => by
    rw [List.map_cons, List.sum_cons, ← len_filter p l]
    cases h : p x
    · rw [List.filter_cons_of_neg (by rw [h]; exact Bool.false_ne_true)]; show _ = 0 + _; omega
    · rw [List.filter_cons_of_pos h, List.length_cons]; show _ = 1 + _; omega
theorem wares_ways {m : Nat} {L : List Bg} (T : TreeB m L) : (wareL m (L.map Bg.tie)).length = waysW m L 0 := by
  unfold waysW
  rw [← zSum_all T.nd T.fit]
  unfold zSum
  rw [sub_perm T.perm0, sub_range _ m (fun s => bit (wareB (L.map Bg.tie) s)) fun s hs => ?_]
  · unfold wareL
    rw [len_filter]
  · rw [wt_ones (w := ones) (fun _ => rfl), Nat.mul_one]
    congr 1
    unfold wareB allB
    congr 1
    rw [Bool.eq_iff_iff, List.all_eq_true, List.all_eq_true]
    constructor
    · intro h t ht
      obtain ⟨b, hb, rfl⟩ := List.mem_map.mp ht
      exact h b ((mem_ordL T.lt).mpr hb)
    · intro h b hb
      exact h b.tie (List.mem_map.mpr ⟨b, (mem_ordL T.lt).mp hb, rfl⟩)
end Wd

set_option maxRecDepth 100000
set_option maxHeartbeats 4000000
namespace L2
open PySem PySem.Spec PyProof.Rows
/-! ### set(l) of a list of unlike whole numbers, and how many it has -/
section
variable {X : Cx}
end
end L2

set_option maxRecDepth 100000
set_option maxHeartbeats 4000000
namespace Wd
open PySem L2 Ow
structure WoodB (H : Hp) (wd : Addr) (m : Nat) (L : List Bg) : Prop where
  ex : ∃ xs, WoodAt H wd m xs [] ∧ DnL H (L.map fun b => b.tie.toD) xs
  T : TreeB m L
  few : L.length ≤ 9
  m9 : m ≤ 9
theorem bgs_of {m : Nat} : ∀ {bs : List PyData}, (∀ b ∈ bs, isBough m b = true) → ∃ L : List Bg, bs = L.map (fun b => b.tie.toD) ∧ ∀ b ∈ L, Tie.BoughOk m b.u b.lo b.hi b.ks
  | [], _ => ⟨[], rfl, fun _ h => nomatch h⟩
  | b :: bs, h => by
    obtain ⟨u, lo, hi, ks, e, ok⟩ := tie_of_bough (h b List.mem_cons_self)
    obtain ⟨L, e2, ok2⟩ := bgs_of fun x hx => h x (List.mem_cons_of_mem _ hx)
    refine ⟨⟨u, lo, hi, ks⟩ :: L, ?_, fun x hx => ?_⟩
    · rw [e, e2]; rfl
    · rcases List.mem_cons.mp hx with rfl | hx
      · exact ok
      · exact ok2 x hx
theorem kids_bg (b : Bg) : kidsOf b.tie.toD = b.ks.map fun k : Nat => (k : Int) := by
  show List.map toI (b.ks.map fun k : Nat => PyData.int (k : Int)) = _
  rw [List.map_map]
  rfl
theorem perm_cast : ∀ {A B : List Nat}, (A.map fun k : Nat => (k : Int)).Perm (B.map fun k : Nat => (k : Int)) → A.Perm B := fun {A B} h => by
  have := h.map Int.toNat
  rw [List.map_map, List.map_map] at this
  have e : ∀ l : List Nat, l.map (Int.toNat ∘ fun k : Nat => (k : Int)) = l := fun l => by
    induction l with
    | nil => rfl
    | cons x l ih => rw [List.map_cons, ih]; rfl
  rwa [e, e] at this
theorem woodB_of {H : Hp} {wd : Addr} {m : Nat} {bs cs : List PyData} (h : WoodX H wd m bs cs) (hc : cs = []) : ∃ L : List Bg, bs = L.map (fun b => b.tie.toD) ∧ ∀ H', TupS H H' → WoodB H' wd m L := by
  subst hc
  obtain ⟨L, e, ok⟩ := bgs_of h.gb.each
  have m1 := h.m1
  have b8 := h.b8
  refine ⟨L, e, fun H' t => ?_⟩
  obtain ⟨xs, ys, WA, db, dc⟩ := (h.tupS t).ex
  cases (show ys = [] from dc)
  refine ⟨⟨xs, WA, by rw [← e]; exact db⟩, ⟨ok, perm_cast ?_, m1⟩, by rw [e, List.length_map] at b8; exact b8, h.m9⟩
  have k := h.gb.kids
  have e1 : bs.flatMap kidsOf = (kidsB L).map fun k : Nat => (k : Int) := by
    rw [e]
    unfold kidsB
    rw [List.map_flatMap, List.flatMap_map]
    congr 1
    funext b
    exact kids_bg b
  have e2 : ((List.range' 0 ((m : Int) - 1).toNat).map fun i : Nat => (1 : Int) + i) = (List.range' 1 (m - 1)).map fun k : Nat => (k : Int) := by
    rw [show ((m : Int) - 1).toNat = m - 1 by omega]
    apply List.ext_getElem
    · rw [List.length_map, List.length_map, List.length_range', List.length_range']
    · intro i h1 h2
      rw [List.getElem_map, List.getElem_map, List.getElem_range', List.getElem_range']
      omega
  rw [e1, e2] at k
  exact k
theorem told_at {m k : Nat} {f : Nat → Nat} (h : k < m) : atI (natsL ((List.range m).map f)) (k : Int) = some (.int (f k : Int)) := atI_nat (by rw [List.getElem?_map, List.getElem?_map, List.getElem?_range h]; rfl)
theorem take_map_succ {α β : Type} {g : α → β} {l : List α} {i : Nat} {x : α} (h : l[i]? = some x) : (l.take (i + 1)).map g = (l.take i).map g ++ [g x] := by
  rw [List.take_add_one, h, Option.toList_some, List.map_append]
  rfl
theorem natsL_app (A B : List Nat) : natsL (A ++ B) = natsL A ++ natsL B := List.map_append
theorem set_told {m k : Nat} {f g : Nat → Nat} (e : ∀ j, g j = if j = k then g k else f j) (h : k < m) : (natsL ((List.range m).map f)).set k (.int (g k : Int)) = natsL ((List.range m).map g) := by
  apply List.ext_getElem
  · simp
  · intro i h1 h2
    rw [List.getElem_set]
    simp only [List.getElem_map, List.getElem_range]
    by_cases z : k = i
    · subst z
      rw [if_pos rfl]
    · rw [if_neg z, e i, if_neg (Ne.symm z)]
end Wd
namespace Wd
open PySem L2 Ow
/-! ### choices by the bits of a number -/
end Wd
namespace Wd
open PySem L2 Ow
theorem WoodB.woodT {H : Hp} {wd : Addr} {m : Nat} {L : List Bg} (h : WoodB H wd m L) : WoodT H wd m (L.map Bg.tie) := by
  obtain ⟨xs, h1, h2⟩ := h.ex
  have f := h.few
  have m9 := h.m9
  refine ⟨⟨xs, [], h1, by rw [List.append_nil, List.map_map]; exact h2⟩, fun t ht => ?_, by rw [List.length_map]; omega, by omega⟩
  obtain ⟨b, hb, rfl⟩ := List.mem_map.mp ht
  exact h.T.ok b hb
end Wd

set_option maxRecDepth 100000
set_option maxHeartbeats 4000000
namespace L2
open PySem PySem.Spec PyProof.Rows
/-! ### a, b = a list -/
section
variable {prog : Program} {w : World} {A : Around} {E : Value → Shared → Prop} {s : Shared}
theorem draw_list {it l : Addr} {items : Array Value} (hne : l ≠ it) : ∀ (n i : Nat) (s : Shared) (Q : List Value → Shared → Prop), s.heap.IsListIter it l i → s.heap.IsList l items → i + n ≤ items.size →
    (∀ h' : Heap, h'.IsListIter it l (i + n) → Heap.SameBut it s.heap h' → Q ((items.toList.drop i).take n) { s with heap := h' }) → wpAny (model prog w) A (draw (.ref it) n) Q E s
  | 0, i, s, Q, hit, _, _, hQ => by
    show wpAny _ _ (pure []) Q E s
    exact wpAny_pure (by simpa using hQ s.heap hit (Heap.SameBut.refl ..))
  | n + 1, i, s, Q, hit, ht, hle, hQ => by
    have hlt : i < items.size := by omega
    show wpAny _ _ (pyNext (.ref it) >>= _) Q E s
    refine wpAny_bind (wpAny_pyNext_list_item hit ht (x := items[i]) (by simp [hlt]) fun h1 hit1 hs1 => ?_)
    refine wpAny_bind (wpAny_holding (draw_list hne n (i + 1) _ _ hit1 (ht.extBut hs1.extBut hne) (by omega) fun h2 hit2 hs2 => wpAny_pure ?_))
    have hd : items.toList.drop i = items[i] :: items.toList.drop (i + 1) := by simp [List.drop_eq_getElem_cons, hlt]
    have := hQ h2 (by rw [show i + (n + 1) = i + 1 + n by omega]; exact hit2) (hs1.trans hs2)
    rw [hd, List.take_succ_cons] at this
    exact this
theorem unpack_list {l : Addr} {items : Array Value} {targets : List (Bool × (Value → Sem Unit))} {Q : Unit → Shared → Prop} (hh : A.handled = none) (ht : s.heap.IsList l items)
    (hn : targets.length = items.size) (hstar : targets.findIdx? (·.1) = none)
    (h : ∀ h', Heap.ExtBut s.heap.objs.size s.heap h' → wpAny (model prog w) A (assignInOrder (targets.map (·.2)) items.toList) Q E { s with heap := h' }) :
    wpAny (model prog w) A (unpack (.ref l) targets) Q E s := by
  unfold unpack
  rw [hn, hstar]
  refine wpAny_bind (wpAny_holding ?_)
  have hlt : l ≠ s.heap.objs.size := by obtain ⟨o, ho, _⟩ := ht; exact Nat.ne_of_lt (Heap.lt_size ho)
  have hT : s.TypeIs (.ref l) "list" := by obtain ⟨o, ho, hc, _⟩ := ht; exact ⟨o, ho, hc⟩
  unfold unpackItems
  refine wpAny_bind ?_
  unfold notIterableAtAll
  refine wpAny_bind (wpAny_specialOf hT F.slot_list_iter.lookup ?_)
  refine wpAny_pure ?_
  simp only [Bool.false_eq_true, if_false]
  refine wpAny_bind (wpAny_holding (wpAny_pyIter_list ht ?_))
  refine wpAny_bind (wpAny_holding (draw_list hlt items.size 0 _ _ ⟨_, Heap.get?_push_size _ rfl, rfl, rfl⟩ (ht.push _) (by omega) fun h1 hit1 hs1 => ?_))
  have hall : List.take items.size (List.drop 0 items.toList) = items.toList := by
    rw [List.drop_zero]; exact List.take_of_length_le (by simp)
  rw [hall]
  rw [if_neg (by simp)]
  have ht1 : h1.IsList l items := (ht.push _).extBut hs1.extBut hlt
  refine wpAny_bind (wpAny_holding (wpAny_pyNext_list_end hh hit1 ht1 (by simp) fun h2 he2 => ?_))
  simp only [Option.isSome_none, Bool.false_eq_true, if_false]
  exact wpAny_pure (h h2 fun b o hb e => he2 b o hb (hs1.extBut b o hb (Heap.get?_push_of_some _ e)))
end
section
variable {X : Cx} {pos : Pos}
def gLst (K : PySem.W.Frag) (n : Nat) (t : TGs) : TG := fun v σ H Q => ∃ a xs, v = .ref a ∧ SqL K H a xs ∧ xs.length = n ∧ t xs σ H Q
theorem pg_lst {K : PySem.W.Frag} {es : List Expr} {k : Nat} {t : TGs} {n : Nat} (hc : X.calm = true) (h : PGs X es t)
    (hn : (assignEach es X.env).length = n := by rfl) (hst : (assignEach es X.env).findIdx? (·.1) = none := by rfl) (hK : X.K = K := by rfl) : PG X (.Tuple es k pos) (gLst K n t) := by
  subst hK
  intro pins s σ H v u Q I r hw
  obtain ⟨a, xs, e1, hq, hl, hw⟩ := hw
  subst e1
  cases r
  obtain ⟨its, rv, ht, hz⟩ := I.list hq
  rw [assign_Tuple]
  refine wpAny_bind (wpAny_standAt (unpack_list (I.ok.hd hc) ht.isList (by simp [hn, ← hl, rv.length]) hst fun h' hx => ?_))
  have I1 : Inv X pins σ H { s with heap := h' } := I.kept (t' := s.toks) fun b o e => hx b o (Nat.ne_of_lt (Heap.lt_size e)) e
  exact h pins _ σ H xs _ Q I1 (by simpa using rv) hw
end
section
variable {X : Cx}
/-! ### list.insert at a place within -/
def rInsert : V → List V → Hp → VK → Prop := fun x vs H Q => ∃ (l : Addr) (xs : List V) (i : Int) (y : V), x = .ref l ∧ vs = [.int i, y] ∧ H l = some (.lst xs) ∧ 0 ≤ i ∧ i ≤ xs.length ∧ xs.length < sizeLine ∧ Q .non (upd H l (.lst (xs.take i.toNat ++ y :: xs.drop i.toNat)))
theorem mt_insert : MtM X "list.insert" rInsert := by
  intro pins s σ H x vs v us Q I rx rv h
  obtain ⟨l, xs, i, y, rfl, rfl, hH, h0, hk, hz, q⟩ := h
  cases rx
  obtain ⟨u1, us1, rfl, r1, rr⟩ : ∃ u1 us1, us = u1 :: us1 ∧ RelV (.int i) u1 ∧ Vals [y] us1 := by
    cases rv with
    | cons a b => exact ⟨_, _, rfl, a, b⟩
  obtain ⟨u2, rfl, ru⟩ := rr.one
  obtain ⟨t, rfl⟩ := r1
  obtain ⟨z, its, n, r, hl, e⟩ := I.lstM hH
  have hsz : its.toArray.size ≤ sizeLine := by rw [List.size_toArray, ← hl]; exact z
  have b1 : -(2 ^ 63) ≤ i := Int.le_trans (by decide) h0
  have b2 : i < 2 ^ 63 := by
    have h63 : ((xs.length : Nat) : Int) < ((2 ^ 63 : Nat) : Int) := Int.ofNat_lt.mpr (Nat.lt_of_le_of_lt z line63)
    exact Int.lt_of_le_of_lt hk h63
  have fit : ¬ (!Builtin.List.listFitsIndex i) = true := by
    rw [fitsIndex_both b1 b2]
    exact Bool.false_ne_true
  refine call_meets F.slot_list_insert ⟨_, e, rfl⟩ F.entry_list_insert (F.args_list_insert_3 _ _ _) (AutoListH.list_insert_list_int_val_1 l its.toArray n i t u2 fit hsz) ⟨e, ?_⟩
  have r2 : Vals (xs.take i.toNat ++ y :: xs.drop i.toNat) (its.take i.toNat ++ u2 :: its.drop i.toNat) := (r.take i.toNat).append (.cons ru (r.drop i.toNat))
  refine ⟨.non, _, I.lset (its' := its.take i.toNat ++ u2 :: its.drop i.toNat) hH e ?_ r2 ?_, rfl, q⟩
  · have hn : ¬ (i < 0) := Int.not_lt.mpr h0
    have hm : i.toNat ≤ its.length := by omega
    simp [hn, Nat.min_eq_left hm]
    exact List.take_of_length_le (by rw [List.length_drop]; exact Nat.le_refl _)
  · rw [List.length_append, List.length_cons, List.length_take, List.length_drop]
    omega
end
end L2

set_option maxRecDepth 100000
set_option maxHeartbeats 4000000
namespace Wd
open PySem L2 Ow
/-- the statements within: by the place of each statement that holds them, true where they are its else -/
def subS (l : List Stmt) : List (Nat × Bool) → List Stmt
  | [] => l
  | (i, e) :: p => match l[i]? with
    | some (Stmt.For _ _ b _ _) => subS b p
    | some (Stmt.If _ b o _) => subS (if e then o else b) p
    | _ => []
/-! ### woods drawn by a state (the laws from k50 on) -/
/-- the boughs drawn: a list of data -/
def spBoughsP (K : PySem.W.Frag) : Sp := fun vs H Q _ => ∃ (pen sp : Addr) (ns : List Int) (m : Nat) (k : Int), vs = [.ref pen, .int (m : Int)] ∧ Pen K H pen sp ns k ∧ 0 ≤ k ∧ k ≤ 900000 ∧ 1 ≤ m ∧ m ≤ 9 ∧
  ∀ (l : Addr) (bs : List PyData) (xs : List V) (k' : Int) (H' : Hp), SameX pen H H' → H' pen = some (.lst [.ref sp, .int k']) → k ≤ k' → k' ≤ k + 80 → H' l = some (.lst xs) → H l = none → DnL H' bs xs → GoodB m bs → bs.length ≤ 8 → bs.all (flatD 3) = true → Q (.ref l) H'
def spCrossesP (K : PySem.W.Frag) : Sp := fun vs H Q _ => ∃ (pen sp : Addr) (ns : List Int) (m : Nat) (most : Int) (k : Int), vs = [.ref pen, .int (m : Int), .int most] ∧ Pen K H pen sp ns k ∧ 0 ≤ k ∧ k ≤ 900000 ∧ 1 ≤ m ∧ m ≤ 9 ∧ 0 ≤ most ∧ most ≤ 8 ∧
  ∀ (l : Addr) (cs : List PyData) (xs : List V) (k' : Int) (H' : Hp), SameX pen H H' → H' pen = some (.lst [.ref sp, .int k']) → k ≤ k' → k' ≤ k + 210 → H' l = some (.lst xs) → H l = none → DnL H' cs xs → (∀ c ∈ cs, isTie m c = true) → (cs.length : Int) ≤ most → cs.all (flatD 3) = true → Q (.ref l) H'
end Wd

set_option maxRecDepth 100000
set_option maxHeartbeats 4000000
namespace Wd
open PySem L2 Ow
theorem _root_.Ow.GAt.ins {H0 H : Hp} {g l t : Addr} {pre post : List Grp} {u k : Int} (G : GAt H0 H g (pre ++ post)) (hf : H0 l = none) (hl : H l = none) (ht : upd H l (.lst [.int k]) t = none) :
    GAt H0 (upd (upd (upd H l (.lst [.int k])) t (.tup [.int u, .ref l])) g (.lst ((pre.map fun x => V.ref x.t) ++ V.ref t :: (post.map fun x => V.ref x.t)))) g (pre ++ ⟨t, u, l, [k]⟩ :: post) := by
  have A := GAt.add2 (u := u) (k := k) G hf hl ht
  have mem : ∀ x, x ∈ pre ++ ⟨t, u, l, [k]⟩ :: post ↔ x ∈ (pre ++ post) ++ [⟨t, u, l, [k]⟩] := fun x => by
    simp only [List.mem_append, List.mem_cons, List.not_mem_nil, or_false]
    constructor
    · rintro (h | h | h)
      · exact .inl (.inl h)
      · exact .inr h
      · exact .inl (.inr h)
    · rintro ((h | h) | h)
      · exact .inl h
      · exact .inr (.inr h)
      · exact .inr (.inl h)
  have other : ∀ (o o' : HO) (b : Addr), b ≠ g → (upd (upd (upd H l (.lst [.int k])) t (.tup [.int u, .ref l])) g o) b = (upd (upd (upd H l (.lst [.int k])) t (.tup [.int u, .ref l])) g o') b := fun o o' b n => by rw [upd_ne n, upd_ne n]
  refine ⟨?_, A.new, fun x hx => ?_, fun x hx => ?_, ?_⟩
  · rw [upd_same, List.map_append]
    rfl
  · have h := A.tup x ((mem x).mp hx)
    have n : x.t ≠ g := fun z => by rw [z, upd_same] at h; cases h
    rw [other _ _ _ n]
    exact h
  · have h := A.lst x ((mem x).mp hx)
    refine ⟨?_, h.2⟩
    rw [other _ _ _ (Ne.symm h.2.2)]
    exact h.1
  · have p : (pre ++ (⟨t, u, l, [k]⟩ : Grp) :: post).Perm ((pre ++ post) ++ [⟨t, u, l, [k]⟩]) := by
      rw [List.append_assoc]
      exact List.Perm.append_left _ (List.perm_append_singleton _ _).symm
    exact ((p.map (·.l)).nodup_iff).mpr A.nd
theorem _root_.Ow.GOk.ins {k : Nat} {pre post : List Grp} {t l : Addr} {u : Int} (G : GOk ((k : Int) + 1) (pre ++ post)) (u0 : 0 ≤ u) (u1 : u < (k : Int) + 1) : GOk ((k : Int) + 2) (pre ++ ⟨t, u, l, [(k : Int) + 1]⟩ :: post) := by
  have A := GOk.new (t := t) (l := l) G u0 u1
  have p : (pre ++ (⟨t, u, l, [(k : Int) + 1]⟩ : Grp) :: post).Perm ((pre ++ post) ++ [⟨t, u, l, [(k : Int) + 1]⟩]) := by
    rw [List.append_assoc]
    exact List.Perm.append_left _ (List.perm_append_singleton _ _).symm
  exact ⟨fun x hx => A.each x (p.mem_iff.mp hx), (List.Perm.flatMap_right _ p).trans A.perm⟩
/-- groups as data -/
def grpD (x : Grp) : PyData := .tuple [.int x.up, .list (x.kids.map PyData.int)]
theorem lay_ints : ∀ ks : List Int, PyData.canLayAll0 (ks.map PyData.int) = true ∧ PyData.depthAll (ks.map PyData.int) ≤ 1
  | [] => ⟨by simp [PyData.canLayAll0], by simp [PyData.depthAll]⟩
  | k :: ks => by
    have h := lay_ints ks
    refine ⟨by simp [PyData.canLayAll0, PyData.canLay0, h.1], ?_⟩
    simp only [List.map_cons, PyData.depthAll, PyData.depth]
    omega
theorem lay_grps : ∀ gs : List Grp, PyData.canLayAll0 (gs.map grpD) = true ∧ PyData.depthAll (gs.map grpD) ≤ 5
  | [] => ⟨by simp [PyData.canLayAll0], by simp [PyData.depthAll]⟩
  | x :: gs => by
    have h := lay_grps gs
    have hx := lay_ints x.kids
    refine ⟨by simp [grpD, PyData.canLayAll0, PyData.canLay0, h.1, hx.1], ?_⟩
    simp only [List.map_cons, grpD, PyData.depthAll, PyData.depth]
    omega
theorem shaped_grps (gs : List Grp) : SeqAt.shaped (.list (gs.map grpD)) = true := by
  have h := lay_grps gs
  unfold SeqAt.shaped
  rw [Bool.and_eq_true]
  refine ⟨by simp [PyData.canLay0, h.1], decide_eq_true ?_⟩
  simp only [PyData.depth]
  omega
theorem shaped_nil : SeqAt.shaped (.list []) = true := by decide
theorem eqv_nil : ∀ ds : List PyData, PyData.eqv (.list ds) (.list []) = decide (ds = [])
  | [] => by simp [PyData.eqv, PyData.eqvAll]
  | d :: ds => by simp [PyData.eqv, PyData.eqvAll]
theorem dn_ints {H : Hp} : ∀ ks : List Int, DnL H (ks.map PyData.int) (ks.map V.int)
  | [] => rfl
  | k :: ks => ⟨_, _, rfl, rfl, dn_ints ks⟩
theorem dn_grps {H0 H : Hp} {g : Addr} {gs : List Grp} (G : GAt H0 H g gs) : ∀ l : List Grp, (∀ x ∈ l, x ∈ gs) → DnL H (l.map grpD) (l.map fun x => V.ref x.t)
  | [], _ => rfl
  | x :: l, h => by
    have hx := h x List.mem_cons_self
    exact ⟨_, _, rfl, ⟨x.t, _, rfl, G.tup x hx, _, _, rfl, rfl, _, _, rfl, ⟨x.l, _, rfl, (G.lst x hx).1, dn_ints x.kids⟩, rfl⟩, dn_grps G l fun y hy => h y (List.mem_cons_of_mem _ hy)⟩
end Wd

set_option maxRecDepth 100000
set_option maxHeartbeats 4000000
namespace HT
open PySem PySem.Spec PyProof.Rows
section
variable {prog : Program} {w : World} {A : Around} {E : Value → Shared → Prop} {s : Shared}
end
end HT
namespace HT
open PySem PySem.Spec PyProof.Rows
section
variable {prog : Program} {w : World} {A : Around} {E : Value → Shared → Prop} {s : Shared}
end
end HT
namespace L2
open PySem PySem.Spec PyProof.Rows
section
variable {X : Cx} {e st : Expr} {te tst : TE} {pos p2 : Pos}
/-- data against data -/
theorem op_eq_data (hu : X.A.units + 64 < cLine) : OpR X (compareOp .Eq) (fun x y H Q => ∃ d e : PyData, Dn H d x ∧ Dn H e y ∧ SeqAt.shaped d = true ∧ SeqAt.shaped e = true ∧ Q (.bl (PyData.eqv d e)) H) := by
  intro pins s σ H x y v u Q I rx ry h
  obtain ⟨d, e, hd, he, sd, se, q⟩ := h
  obtain ⟨as, ra⟩ := Dn.reads I d x v hd (SeqAt.canLay_of_shaped sd) rx
  obtain ⟨bs, rb⟩ := Dn.reads I e y u he (SeqAt.canLay_of_shaped se) ry
  exact SeqAt.compareEq_shaped ra rb sd se hu ⟨.bl _, H, I, rfl, q⟩
end
end L2
namespace L2
open PySem PySem.Spec PyProof.Rows
section
variable {X : Cx}
end
end L2
namespace Wd
open PySem L2 Ow
mutual
theorem flat_lay : ∀ (n : Nat) (d : PyData), flatD n d = true → PyData.canLay0 d = true ∧ PyData.depth d ≤ n + 1
  | _, .int i, _ => ⟨by simp [PyData.canLay0], by simp only [PyData.depth]; omega⟩
  | n, .str s, h => ⟨by cases n <;> simpa [PyData.canLay0] using (show PyData.strOk s = true from h), by simp only [PyData.depth]; omega⟩
  | n + 1, .tuple ds, h => by
    have z : (decide (ds.length ≤ 1000) && ds.all (flatD n)) = true := h
    rw [Bool.and_eq_true] at z
    obtain ⟨a, b⟩ := flat_layAll n ds z.2
    exact ⟨by simpa [PyData.canLay0] using a, by simp only [PyData.depth]; omega⟩
  | 0, .tuple _, h => by cases h
  | 0, .none, h => by cases h
  | n + 1, .none, h => by cases h
  | 0, .bool _, h => by cases h
  | n + 1, .bool _, h => by cases h
  | 0, .list _, h => by cases h
  | n + 1, .list _, h => by cases h
  | 0, .dict _, h => by cases h
  | n + 1, .dict _, h => by cases h
theorem flat_layAll : ∀ (n : Nat) (ds : List PyData), ds.all (flatD n) = true → PyData.canLayAll0 ds = true ∧ PyData.depthAll ds ≤ n + 1
  | _, [], _ => ⟨by simp [PyData.canLayAll0], by simp only [PyData.depthAll]; omega⟩
  | n, d :: ds, h => by
    rw [List.all_cons, Bool.and_eq_true] at h
    obtain ⟨a1, b1⟩ := flat_lay n d h.1
    obtain ⟨a2, b2⟩ := flat_layAll n ds h.2
    exact ⟨by simp [PyData.canLayAll0, a1, a2], by simp only [PyData.depthAll]; omega⟩
end
theorem shaped_tup {n : Nat} {ds : List PyData} (hn : n ≤ 60) (h : ds.all (flatD n) = true) : SeqAt.shaped (.tuple ds) = true := by
  obtain ⟨a, b⟩ := flat_layAll n ds h
  unfold SeqAt.shaped
  rw [Bool.and_eq_true]
  refine ⟨by simp [PyData.canLay0, a], decide_eq_true ?_⟩
  simp only [PyData.depth]
  omega
end Wd

set_option maxRecDepth 100000
set_option maxHeartbeats 4000000
namespace Wd
open PySem L2 Ow
theorem le_bits (a b : Bool) : decide ((if a = true then (1 : Int) else 0) ≤ (if b = true then (1 : Int) else 0)) = (!a || b) := by
  cases a <;> cases b <;> rfl
theorem two_bits (n x y : Nat) : decide (V.int (Builtin.bitAnd (Builtin.bitAnd ((n : Int) / 2 ^ ((x : Nat) : Int).toNat) ((n : Int) / 2 ^ ((y : Nat) : Int).toNat)) 1) = V.int 0) = (!n.testBit x || !n.testBit y) := by
  have e : ∀ k : Nat, (n : Int) / 2 ^ ((k : Nat) : Int).toNat = ((n >>> k : Nat) : Int) := fun k => by
    rw [Int.toNat_natCast, Nat.shiftRight_eq_div_pow, Int.natCast_ediv, Int.natCast_pow]
    rfl
  rw [e, e, land_nat, show (1 : Int) = ((1 : Nat) : Int) from rfl, land_nat, Nat.and_one_is_mod]
  have b : ((n >>> x &&& n >>> y) % 2 = 1) ↔ (n.testBit x = true ∧ n.testBit y = true) := by
    have h := Nat.testBit_zero (n >>> x &&& n >>> y)
    rw [Nat.testBit_and, Nat.testBit_shiftRight, Nat.testBit_shiftRight, Nat.add_zero, Nat.add_zero] at h
    constructor
    · intro z
      rw [decide_eq_true z, Bool.and_eq_true] at h
      exact h
    · intro z
      rw [z.1, z.2] at h
      exact of_decide_eq_true h.symm
  rcases Nat.mod_two_eq_zero_or_one (n >>> x &&& n >>> y) with z | z
  · rw [z, decide_eq_true (by rfl)]
    symm
    rw [← Bool.not_and, Bool.not_eq_true']
    rw [Bool.eq_false_iff]
    intro w
    rw [Bool.and_eq_true] at w
    have := b.mpr w
    omega
  · rw [z, (b.mp z).1, (b.mp z).2]
    rfl
/-! ### which ties a set breaks -/
def brk (ts : List Tie) (s : Nat) : Nat → Nat
  | 0 => 0
  | i + 1 => brk ts s i ||| (if (ts[i]?.map fun t => t.keep s).getD true = true then 0 else 2 ^ i)
theorem brk_bit (ts : List Tie) (s : Nat) : ∀ (i k : Nat), (brk ts s i).testBit k = (decide (k < i) && !((ts[k]?.map fun t => t.keep s).getD true))
  | 0, k => by
    show (0 : Nat).testBit k = _
    rw [Nat.zero_testBit]
    rfl
  | i + 1, k => by
    show (brk ts s i ||| _).testBit k = _
    rw [Nat.testBit_or, brk_bit ts s i k]
    by_cases e : k = i
    · subst e
      rw [decide_eq_false (Nat.lt_irrefl _), Bool.false_and, Bool.false_or, decide_eq_true (Nat.lt_succ_self _), Bool.true_and]
      cases (ts[k]?.map fun t => t.keep s).getD true
      · rw [if_neg (by decide), Nat.testBit_two_pow_self]; rfl
      · rw [if_pos rfl, Nat.zero_testBit]; rfl
    · have e2 : (if (ts[i]?.map fun t => t.keep s).getD true = true then 0 else 2 ^ i : Nat).testBit k = false := by
        split
        · exact Nat.zero_testBit _
        · rw [Nat.testBit_two_pow]; exact decide_eq_false (Ne.symm e)
      rw [e2, Bool.or_false]
      congr 1
      by_cases z : k < i
      · rw [decide_eq_true z, decide_eq_true (by omega)]
      · rw [decide_eq_false z, decide_eq_false (by omega)]
/-- nothing is broken -/
theorem brk_zero (ts : List Tie) (s : Nat) : brk ts s ts.length = 0 ↔ ∀ t ∈ ts, t.keep s = true := by
  constructor
  · intro h t ht
    obtain ⟨k, hk, e⟩ := List.getElem_of_mem ht
    have b := brk_bit ts s ts.length k
    rw [h, Nat.zero_testBit, decide_eq_true hk, Bool.true_and, List.getElem?_eq_getElem hk, e] at b
    simpa using b.symm
  · intro h
    refine Nat.eq_of_testBit_eq fun k => ?_
    rw [Nat.zero_testBit, brk_bit]
    by_cases hk : k < ts.length
    · rw [List.getElem?_eq_getElem hk]
      show (_ && !(ts[k].keep s)) = false
      rw [h _ (List.getElem_mem hk)]
      exact Bool.and_false _
    · rw [decide_eq_false hk]
      rfl
def spBrokenL : Sp := fun vs H Q _ => ∃ (wd : Addr) (m : Nat) (ts : List Tie), vs = [.ref wd] ∧ WoodT H wd m ts ∧ m ≤ 9 ∧ ts.length ≤ 60 ∧ ∀ (l : Addr) (H' : Hp), Same H H' → H l = none → H' l = some (.lst (natsL ((List.range (2 ^ m)).map fun s => brk ts s ts.length))) → Q (.ref l) H'
end Wd

set_option maxRecDepth 100000
set_option maxHeartbeats 4000000
namespace Wd
open PySem L2 Ow
end Wd

set_option maxRecDepth 100000
set_option maxHeartbeats 4000000
namespace Wd
open PySem L2 Ow
/-! ### the sets of a stand, one by one -/
end Wd

set_option maxRecDepth 100000
set_option maxHeartbeats 4000000
namespace L2
open PySem PySem.Spec PyProof.Rows

/-! ### lists of pairs as tables -/
section
variable {κ : Type} [DecidableEq κ]
end


/-! ### a tracked dict, its keys ints and texts or tuples of these -/
section
variable {P : Program} {w : World} {H : Hp} {h : Heap} {a : Addr}
end

section
variable {X : Cx} {pins : List (Addr × Obj)} {σ : St} {H : Hp} {s : Shared} {a : Addr} {y v : V} {u r : Value} {o : Option V} {A : Around} {E : Value → Shared → Prop}

end

section
variable {X : Cx} {pins : List (Addr × Obj)} {σ : St} {H : Hp} {s : Shared} {a : Addr} {kvs : List (Key × V)} {k : Key} {u : Value} {A : Around} {E : Value → Shared → Prop}
end


/-! ### readings and rules -/
section
variable {X : Cx} {o i e value : Expr} {pos pos' tpos : Pos} {td ty tv : TE}
end


/-! ### displays -/
section
variable {X : Cx} {pos : Pos}
end

/-! ### methods -/
section
variable {X : Cx} {pins : List (Addr × Obj)} {σ : St} {H : Hp} {s : Shared} {a : Addr} {y d : V} {u r : Value} {o : Option V} {A : Around} {E : Value → Shared → Prop}
end

section
variable {X : Cx} {o e f : Expr} {apos cpos : Pos} {td ty tx : TE}
end

/-! ### dict(d): a copy -/
section
variable {X : Cx} {pins : List (Addr × Obj)} {σ : St} {H : Hp} {s : Shared} {a : Addr} {kvs : List (Key × V)} {A : Around} {E : Value → Shared → Prop}
end


section
variable {X : Cx} {pins : List (Addr × Obj)} {σ : St} {H : Hp} {s : Shared} {a : Addr} {y : V} {u : Value} {A : Around} {E : Value → Shared → Prop}
end
end L2
namespace L2
open PySem PySem.Spec PyProof.Rows
section
variable {X : Cx}
end

/-! ### a dict's pairs: keys that differ -/
section
variable {κ : Type} [DecidableEq κ]
end
end L2

set_option maxRecDepth 100000
set_option maxHeartbeats 4000000
namespace L2
open PySem PySem.Spec
theorem notInS {X : Cx} {K : PySem.W.Frag} (h : X.K = K := by rfl) : OpR X (compareOp .NotIn) (rIn K true) := h ▸ op_notIn_seq
/-- PE as a word that the elaborator doesn't unfold (a display's run is long) -/
@[irreducible] def PEi (X : Cx) (e : Expr) (t : TE) : Prop := PE X e t
@[irreducible] def PSi (X : Cx) (e : Stmt) (t : TS) : Prop := PS X e t
@[irreducible] def PLi (X : Cx) (l : List Stmt) (t : TS) : Prop := PSs X l t
end L2
namespace Wd
open PySem L2 Ow
end Wd

set_option maxRecDepth 100000
set_option maxHeartbeats 4000000
namespace Wd
open PySem L2 Ow
end Wd

set_option maxRecDepth 100000
set_option maxHeartbeats 4000000
namespace L2
open PySem PySem.Spec PyProof.Rows
end L2
namespace Wd
open PySem L2 Ow
/-! ### trees that are looked at -/
end Wd

set_option maxRecDepth 100000
set_option maxHeartbeats 4000000
namespace Wd
open PySem L2 Ow
section
variable {t1 t2 : List Tie} {m f y n : Nat}
end
end Wd

set_option maxRecDepth 100000
set_option maxHeartbeats 4000000
namespace L2
open PySem PySem.Spec PyProof.Rows
end L2
namespace Wd
open PySem L2 Ow
/-! ### trees of one wood within another that are looked at -/
theorem tupS_trans {H H1 H2 : Hp} (a : TupS H H1) (b : TupS H1 H2) : TupS H H2 := fun c xs h => b c xs (a c xs h)
end Wd

set_option maxRecDepth 100000
set_option maxHeartbeats 4000000
namespace L2
open PySem PySem.Spec PyProof.Rows
/-! ### own exceptions: their classes -/
abbrev bmVE : List Value := [.type "ValueError", .type "Exception", .type "BaseException", .type "object"]
abbrev nwVE : String := "ValueError.__new__"
/-- the class of an own exception, as it stands in the heap; bm: what stands above it -/
structure XCls (h : Heap) (C : Addr) (bm : List Value) : Prop where
  ex : ∃ N nm qn bs hd sn sub ab col dd k0 k1 k2 k3 k5 mN, h.get? C = some (excClassObj nm qn C N bs bm hd sn sub ab col dd k0 k1 k2 k3 k5 nwVE) ∧ h.Ns N mN ∧ mN "__init__" = none ∧ OwnTail h bmVE bm
theorem XCls.mk' {K : PySem.W.Frag} {h : Heap} {C : Addr} (X : K.In h) (q : PySem.W.excIn K C bmVE nwVE = true) : ∃ bm, XCls h C bm := by
  unfold PySem.W.excIn at q
  split at q
  case h_2 => cases q
  case h_1 od cd sl hl =>
    split at q
    case h_2 => cases q
    case h_1 C2 bm a0 a1 a2 a3 nw a5 hm hs =>
      rw [Bool.and_eq_true, Bool.and_eq_true, Bool.and_eq_true, Bool.and_eq_true, Bool.and_eq_true, beq_iff_eq, beq_iff_eq, beq_iff_eq, Bool.not_eq_true'] at q
      obtain ⟨⟨⟨⟨⟨q1, q2⟩, q3⟩, q4⟩, q5⟩, q6⟩ := q
      subst q1 q2
      obtain ⟨f1, f2, f3, f4, f5, f6, f7, f8, f9, fa, fb⟩ := cd
      replace hm : f3 = .ref C2 :: bm := hm
      replace q3 : fb = false := q3
      subst hm q3
      obtain ⟨ls⟩ := sl
      replace hs : ls = [a0, a1, a2, a3, some (.builtin nwVE), a5] := hs
      subst hs
      exact ⟨bm, ⟨_, _, _, _, _, _, _, _, _, _, _, _, _, _, _, _, X _ _ hl, .of_isNs (PySem.W.isNs_of_in X q5), PySem.W.nsMap_none_of_in X q5 q6, PySem.W.tail_of_in X q4⟩⟩
/-- an exception's class is beneath the clause's -/
theorem matches_own {M : Model} {A : Around} {E : Value → Shared → Prop} {s : Shared} {C D e : Addr} {bC bD : List Value} {oe : Obj} {Q : Bool → Shared → Prop} (xC : XCls s.heap C bC) (xD : XCls s.heap D bD)
    (he : s.heap.get? e = some oe) (hcls : oe.cls = .ref D) (hin : (Value.ref D :: bD).contains (.ref C) = true) (hq : Q true s) : wpAny M A (excMatches (.ref e) (.ref C)) Q E s := by
  obtain ⟨N, nm, qn, bs, hd, sn, sub, ab, col, dd, k0, k1, k2, k3, k5, mN, hC, _, _, tC⟩ := xC.ex
  obtain ⟨N', nm', qn', bs', hd', sn', sub', ab', col', dd', k0', k1', k2', k3', k5', mN', hD, _, _, tD⟩ := xD.ex
  obtain ⟨h, g, d, t, os⟩ := s
  have hB : (Value.ref C :: bC).contains (.type "BaseException") = true := by rw [List.contains_cons, tC.hasType (b := true) (by decide), Bool.or_true]
  have f := tc_notTuple
  unfold excMatches
  repeat (first | (with_reducible refine wpAny_loadPart_at he ?_; rw [hcls]) | with_reducible refine wpAny_loadPart_at hC ?_ | (with_reducible refine wpAny_isSubtype_exc hC ?_; rw [hB]) | (with_reducible refine wpAny_isSubtype_exc hD ?_; rw [hin]) | wp_step)
  exact hq
/-! ### what stays when an exception passes: all but the frames that run -/
section
variable {X : Cx} {pins : List (Addr × Obj)} {σ : St} {H H' : Hp} {s s' : Shared} {h2 : Heap}
theorem cell_up {h h' : Heap} {c : Addr} {v : Option Value} (u : h.UpToSlots h') (x : h.IsCell c v) : h'.IsCell c v := by
  obtain ⟨o, e, d⟩ := x
  obtain ⟨sl, e'⟩ := u c o e fun vs q => by rw [d] at q; cases q
  exact ⟨_, e', d⟩
/-- I0: the state ahead of a call, I1: behind it; then only the slots of frames have changed, and things that are neither tracked nor were there -/
theorem Inv.upto (I0 : Inv X pins σ H s) (I1 : Inv X pins σ H' s') (k : ∀ b o, s'.heap.get? b = some o → b ∉ frs X.stack → (H' b ≠ none ∨ ∃ u, s.heap.get? b = some u) → h2.get? b = some o) (u : s'.heap.UpToSlots h2) : Inv X pins σ H' { s' with heap := h2 } where
  ok := I1.ok
  os := I1.os
  bare := I1.bare
  base := by
    have nst : ∀ b o, X.s₀.heap.get? b = some o → b ∉ X.fs → b ∉ frs X.stack := fun b o e n z => by
      rcases List.mem_cons.mp (I1.stkSub b z) with r | r
      · have h1 := Heap.lt_size e
        have h2 := I1.ok.above
        rw [r] at h1
        exact absurd (Nat.lt_of_lt_of_le h1 h2) (Nat.lt_irrefl _)
      · exact n r
    refine ⟨fun b o e n hf hx => ?_, fun b o e n hf hx => ?_, I1.base.free, fun b o e hx => ?_, I1.base.tups, I1.base.frzs, I1.base.tbls⟩
    · exact k b o (I1.base.keep b o e n hf hx) (nst b o e hf) (.inr ⟨_, I0.base.keep b o e n hf hx⟩)
    · obtain ⟨sl, e1⟩ := I1.base.slot b o e n hf hx
      obtain ⟨_, o2, e2, d2⟩ := I1.funs.mem hf
      rw [e1] at e2
      cases e2
      obtain ⟨sl', e3⟩ := u b _ e1 d2
      exact ⟨sl', e3⟩
    · obtain ⟨o1, e1⟩ := I1.base.there b o e hx
      by_cases hb : b ∈ frs X.stack
      · obtain ⟨_, o2, e2, d2⟩ := I1.stack.mem hb
        obtain ⟨sl, e3⟩ := u b o2 e2 d2
        exact ⟨_, e3⟩
      · obtain ⟨o0, e0⟩ := I0.base.there b o e hx
        exact ⟨o1, k b o1 e1 hb (.inr ⟨_, e0⟩)⟩
  loc := by
    obtain ⟨m, hn, hl⟩ := I1.loc
    refine ⟨m, u.ns hn, fun i x v h1 h2 h3 => ?_⟩
    obtain ⟨w, r, l⟩ := hl i x v h1 h2 h3
    refine ⟨w, r, ?_⟩
    rcases l with l | ⟨l, c, h4, h5⟩
    · exact .inl l
    · exact .inr ⟨l, c, h4, cell_up u h5⟩
  cell := fun x c e => let ⟨v, h⟩ := I1.cell x c e; ⟨v, cell_up u h⟩
  free := I1.free
  freeC := I1.freeC
  pin := fun p hp => by
    obtain ⟨h1, h2, h3, h4, h5⟩ := I1.pin p hp
    have nst : p.1 ∉ frs X.stack := fun z => by
      rcases List.mem_cons.mp (I1.stkSub _ z) with r | r
      · exact h3 r
      · exact h4 r
    exact ⟨k _ _ h1 nst (.inr ⟨_, (I0.pin p hp).1⟩), h2, h3, h4, h5⟩
  hok := fun a o e => by
    refine (I1.hok a o e).stay (fun b w hb q => ?_) (fun _ q => q) fun _ _ q => q
    have hn : H' b ≠ none := by
      rcases hb with rfl | hb
      · rw [e]; exact Option.some_ne_none _
      · rw [hb]; exact Option.some_ne_none _
    exact k b w q (fun z => hn (I1.stkFree b z)) (.inl hn)
  len := I1.len
end
/-! ### how an exception lies behind a call -/
/-- B: all that stays as it is -/
def CXR (P : Program) (w : World) : CXT := fun outer H s E e s' => ∃ (ea D : Addr) (a0 : Value) (H' : Hp) (B : Heap), e = .ref ea ∧ s'.os = s.os ∧ AllBare s'.gens ∧ Un (frs outer) [] H H' s.heap s'.heap ∧ HOk P w H' s'.heap ∧
  Heap.FlyingW B outer ea (.ref D) a0 s'.heap ∧ (∀ b o, s'.heap.get? b = some o → b ∉ frs outer → (H' b ≠ none ∨ ∃ u, s.heap.get? b = some u) → B.get? b = some o) ∧ H' ea = none ∧ E (.ref D) none H'
theorem obj_is {P : Program} {w : World} {H : Hp} {h : Heap} {a : Addr} {o : HO} (x : ObjOk P w H h a o) : ∃ u, h.get? a = some u := by
  cases o with
  | lst xs => obtain ⟨_, _, _, _, e⟩ := x; exact ⟨_, e⟩
  | tup xs => obtain ⟨_, _, _, ob, e, _⟩ := x; exact ⟨_, e⟩
  | dK kvs => obtain ⟨_, _, _, _, ob, _, _, e, _⟩ := x; exact ⟨_, e⟩
  | dT kvs => obtain ⟨_, _, _, _, ob, _, _, e, _⟩ := x; exact ⟨_, e⟩
  | set S n => obtain ⟨ob, _, _, _, e, _⟩ := x; exact ⟨_, e⟩
  | ins C dx fs => obtain ⟨_, _, _, e, _⟩ := x; exact ⟨_, e⟩
  | own y => exact x
  | xd fs => obtain ⟨_, ⟨_, _, _, e, _⟩, _⟩ := x; exact ⟨_, e⟩
  | rng lo hi => obtain ⟨_, _, _, e⟩ := x; exact ⟨_, e⟩
  | frz ob u => obtain ⟨e, _⟩ := x; exact ⟨_, e⟩
  | tbl ps => exact ⟨_, (show h.get? a = some _ from x)⟩
  | met f y => exact ⟨_, (show h.get? a = some _ from x)⟩
  | ext φ => obtain ⟨_, e, _⟩ := x; exact e
theorem mem_frs {l : List Env} : ∀ env ∈ l, ∀ b, env.frame = some b → b ∈ frs l := fun env he b hb => List.mem_filterMap.mpr ⟨env, he, hb⟩
/-- a new exception leaves the def -/
theorem xe_made {P : Program} {w : World} {K : PySem.W.Frag} {mg : Str → Option Value} {base : Heap} {N : List Str} {qual : Str} {scope : Scope} {f : Addr} {cd : Value} {A : Around} {outer : List Env} {s0 : Shared} {H0 : Hp} {E : XK}
    {pins : List (Addr × Obj)} {σ : St} {H : Hp} {s : Shared} (I : Inv (cxOf (CXR P w) P w K mg base N qual scope f cd A outer s0 H0 E) pins σ H s) {h1 : Heap} {e D : Addr} {vs : List Value} (hx : Heap.MadeExcOf s.heap h1 e (.ref D) vs) (hE : E (.ref D) none H) :
    (cxOf (CXR P w) P w K mg base N qual scope f cd A outer s0 H0 E).xe (.ref e) { s with heap := h1 } := by
  have nst : ∀ b o, s0.heap.get? b = some o → b ∉ frs outer → b ∉ frs (envOfC qual scope s0.heap.objs.size f cd :: outer) := fun b o e n z => by
    rcases List.mem_cons.mp (I.stkSub b z) with r | r
    · have h1 := Heap.lt_size e
      rw [r] at h1
      exact absurd h1 (Nat.lt_irrefl _)
    · exact n r
  have hB : ∀ b o, s.heap.get? b = some o → b ∉ frs (envOfC qual scope s0.heap.objs.size f cd :: outer) → (PySem.W.hideAll s.heap (frs (envOfC qual scope s0.heap.objs.size f cd :: outer))).get? b = some o := fun b o e n => PySem.W.hideAll_get _ e n
  refine wpAny_leaves_madeW (base := PySem.W.hideAll s.heap (frs (envOfC qual scope s0.heap.objs.size f cd :: outer))) (h := s.heap) (L := s0.heap.objs.size) I.ok.frames rfl (fun b o q => PySem.W.of_hideAll _ q) (PySem.W.funFrames_hide I.stack mem_frs) hx fun h2 t x1 x2 x3 x4 => ?_
  have tr : ∀ b o, H b = some o → ∃ u, s.heap.get? b = some u ∧ (PySem.W.hideAll s.heap (frs (envOfC qual scope s0.heap.objs.size f cd :: outer))).get? b = some u := fun b o q => by
    obtain ⟨u, hu⟩ := obj_is (I.hok b o q)
    exact ⟨u, hu, hB b u hu fun z => by have := I.stkFree b z; rw [q] at this; cases this⟩
  refine ⟨e, D, .ref t, H, _, rfl, I.os, I.bare, ⟨fun b o q n hf hx => ?_, fun b o q n hf hx' => ?_, fun b o q n hx => I.base.free b o q n hx, fun b o q hx' => ?_, I.base.tups, I.base.frzs, I.base.tbls⟩, fun a o q => ?_, x1, fun b o q hf hb => ?_, ?_, hE⟩
  · exact x1.1 _ _ (hB b o (I.base.keep b o q n hf hx) (nst b o q hf))
  · obtain ⟨sl, e1⟩ := I.base.slot b o q n hf hx'
    obtain ⟨_, o2, e2, d2⟩ := I.funs.mem hf
    rw [e1] at e2
    cases e2
    obtain ⟨sl', e3⟩ := x4 b _ (hx.keeps _ _ e1) d2
    exact ⟨sl', e3⟩
  · obtain ⟨o1, e1⟩ := I.base.there b o q hx'
    by_cases hb : b ∈ frs (envOfC qual scope s0.heap.objs.size f cd :: outer)
    · obtain ⟨_, o2, e2, d2⟩ := I.stack.mem hb
      obtain ⟨sl, e3⟩ := x4 b o2 (hx.keeps _ _ e2) d2
      exact ⟨_, e3⟩
    · exact ⟨o1, x1.1 _ _ (hB b o1 e1 hb)⟩
  · refine (I.hok a o q).stay (fun b u hb r => ?_) (fun _ r => r) fun _ _ r => r
    have hn : b ∉ frs (envOfC qual scope s0.heap.objs.size f cd :: outer) := fun z => by
      have fr := I.stkFree b z
      rcases hb with rfl | hb
      · rw [q] at fr; cases fr
      · rw [hb] at fr; cases fr
    exact x1.1 _ _ (hB b u r hn)
  · rcases hb with hb | ⟨u, hu⟩
    · cases hq : H b with
      | none => exact absurd hq hb
      | some ho =>
        obtain ⟨u, _, h2'⟩ := tr b ho hq
        have := x1.1 _ _ h2'
        rw [q] at this
        cases this
        exact h2'
    · obtain ⟨o1, e1⟩ := I.base.there b u hu (by intro z; cases z)
      have h2' := hB b o1 e1 (nst b u hu hf)
      have := x1.1 _ _ h2'
      rw [q] at this
      cases this
      exact h2'
  · cases hq : H e with
    | none => rfl
    | some ho =>
      obtain ⟨u, hu, _⟩ := tr e ho hq
      rw [hx.new] at hu
      cases hu
/-- THE RULE for a def that an exception may leave -/
theorem Fun.okR {P : Program} {w : World} {K : PySem.W.Frag} {mg : Str → Option Value} {base : Heap} {x qual : Str} {st : Stmt} {f : Addr} {fd : FuncData} {N ps : List Str} {k : Nat} {sp : Sp} (F : Fun K x qual st f fd) (S : FnScope N ps (defScope st)) (len : ∀ vs H Q E, sp vs H Q E → vs.length = ps.length)
    (hb : ∀ (cdv : Value) (A : Around) (outer : List Env) (s : Shared) (H : Hp) (vs : List V) (Q : VK) (E : XK), Room k (A.deeper (envOfC qual (defScope st) s.heap.objs.size f cdv)) → sp vs H Q E →
      ∃ t, PSs (cxOf (CXR P w) P w K mg base N qual (defScope st) f cdv A outer s H E) (defBody st) t ∧ t { nx := fun _ H' => Q .non H', rt := Q } (start N vs) H) : FnOk P w K mg base (CXR P w) (k + 1) f fd ps sp := by
  obtain ⟨_, _, _, _, _, _, cdv, _, _, rfl, lk, hcd⟩ := F.ex
  refine fn_of lk hcd S len fun A outer s H vs Q E hr hsp => ?_
  exact hb cdv A outer s H vs Q E hr hsp
/-- raise C(..) -/
def tRaise (D : Addr) (W : XK) (t : TA) : TS := fun _ σ H => t σ H fun vs H1 => vs.length ≤ 1000 ∧ W (.ref D) none H1
theorem ps_raise {X : Cx} {x : Str} {D : Addr} {np cpos pos : Pos} {e : Expr} {es : List Expr} {ta : TA} {W : XK} (hc : X.calm = true) (hg : Gl X x) (hm : X.mg x = some (.ref D)) (hD : PySem.W.excIn X.K D bmVE nwVE = true) (ha : PA X (e :: es) ta)
    (hxe : ∀ (pins : List (Addr × Obj)) (σ : St) (H : Hp) (s : Shared) (h1 : Heap) (ea : Addr) (vs : List Value), Inv X pins σ H s → Heap.MadeExcOf s.heap h1 ea (.ref D) vs → W (.ref D) none H → X.xe (.ref ea) { s with heap := h1 })
    (he : starEach (e :: es) X.env = (false, eval e X.env) :: starEach es X.env := by rfl) (hplain : (backTo cpos (starEach es X.env)).any (·.1) = false := by rfl) (hd : (x == ("__debug__" : Str)) = false := by decide) :
    PS X (.Raise (some (.Call (.Name x np) (e :: es) [] cpos)) none pos) (tRaise D W ta) := by
  intro pins s σ H Dn I h
  obtain ⟨bm, xc⟩ := XCls.mk' I.mod.kin hD
  obtain ⟨N, nm, qn, bs, hdd, sn, sub, ab, col, dd, k0, k1, k2, k3, k5, mN, eC, eN, ei, eT⟩ := xc.ex
  have hs := ha cpos pins s σ H _ I h
  refine wpAny_Raise_call_subT (C := D) (nm := nm) (q := qn) (N := N) (bs := bs) (bm := bm) (hdct := hdd) (sn := sn) (sub := sub) (ab := ab) (col := col) (dd := dd) (k0 := k0) (k1 := k1) (k2 := k2) (k3 := k3) (k5 := k5) PySem.F.excBase_ValueError (mN := mN) (eT.hasType (b := true) (by decide)) (I.ok.hd hc)
    (by rw [he]; show (false || (backTo cpos (starEach es X.env)).any (·.1)) = false; rw [hplain]; rfl) ei (ld_glob I hg hm ⟨rfl, ?_⟩ hd)
  rw [he] at hs ⊢
  refine Calls.evalArgs_plain (wpAny_mono hs (fun us s2 ⟨vs, H1, I1, r, q1, q2⟩ => ?_) fun _ _ z => z)
  refine ⟨rfl, ?_, I1.bk _ _ eC, eN.keeps I1.bk, eT.keeps I1.bk, fun h1 ea hx => hxe pins σ H1 s2 h1 ea _ I1 hx q2⟩
  rw [← r.length]
  exact Nat.le_of_lt (small1000 q1)
/-! ### try .. except C as n -/
section
variable {X : Cx} {pins : List (Addr × Obj)} {σ : St} {H H' : Hp} {s s' : Shared} {h2 : Heap}
/-- what is wanted where an exception comes to the frame: W its class, the heap behind it -/
def XE (X : Cx) (pins : List (Addr × Obj)) (W : XK) : Value → Shared → Prop := fun e s' => ∃ (σ : St) (H : Hp) (s : Shared) (H' : Hp) (ea D : Addr) (a0 : Value) (B : Heap), e = .ref ea ∧ Inv X pins σ H s ∧ Inv X pins σ H' s' ∧ Heap.FlyingW B X.stack ea (.ref D) a0 s'.heap ∧
  (∀ b o, s'.heap.get? b = some o → b ∉ frs X.stack → (H' b ≠ none ∨ ∃ u, s.heap.get? b = some u) → B.get? b = some o) ∧ H' ea = none ∧ W (.ref D) none H'
/-- the body of a try -/
abbrev Cx.tryX (X : Cx) (pins : List (Addr × Obj)) (W : XK) : Cx := { X with pn := X.pn ++ pins, xe := XE X pins W }
/-- an except suite -/
abbrev Cx.markX (X : Cx) (ea : Addr) : Cx := { X with A := X.A.mark (some (.ref ea)), calm := false, xe := fun _ _ => False }
theorem Inv.toTry (I : Inv X pins σ H s) (W : XK) : Inv (X.tryX pins W) [] σ H s :=
  ⟨⟨I.ok.mod, I.ok.kind, I.ok.glob, I.ok.blt, I.ok.above, I.ok.inj, I.ok.has, I.ok.cab, I.ok.hd, I.ok.frames, I.ok.stk, I.ok.exf, I.ok.bs, I.ok.bsz, I.ok.noex, I.ok.exfs, I.ok.funs, I.ok.frf⟩, I.os, I.bare, I.base, I.loc, I.cell, I.free, I.freeC, fun p hp => I.pin p (by rw [List.append_nil] at hp; exact hp), I.hok, I.len⟩
theorem Inv.ofTry {W : XK} {pins' : List (Addr × Obj)} (I : Inv (X.tryX pins W) pins' σ H s) : Inv X pins σ H s :=
  ⟨⟨I.ok.mod, I.ok.kind, I.ok.glob, I.ok.blt, I.ok.above, I.ok.inj, I.ok.has, I.ok.cab, I.ok.hd, I.ok.frames, I.ok.stk, I.ok.exf, I.ok.bs, I.ok.bsz, I.ok.noex, I.ok.exfs, I.ok.funs, I.ok.frf⟩, I.os, I.bare, I.base, I.loc, I.cell, I.free, I.freeC, fun p hp => I.pin p (List.mem_append_left _ hp), I.hok, I.len⟩
theorem Inv.toMark (I : Inv X pins σ H s) (ea : Addr) : Inv (X.markX ea) pins σ H s :=
  ⟨⟨I.ok.mod, I.ok.kind, I.ok.glob, I.ok.blt, I.ok.above, I.ok.inj, I.ok.has, I.ok.cab, fun z => (by cases z), I.ok.frames, I.ok.stk, I.ok.exf, I.ok.bs, I.ok.bsz, I.ok.noex, I.ok.exfs, I.ok.funs, I.ok.frf⟩, I.os, I.bare, I.base, I.loc, I.cell, I.free, I.freeC, I.pin, I.hok, I.len⟩
theorem Inv.ofMark {ea : Addr} (I : Inv (X.markX ea) pins σ H s) (hd : X.calm = true → X.A.handled = none) : Inv X pins σ H s :=
  ⟨⟨I.ok.mod, I.ok.kind, I.ok.glob, I.ok.blt, I.ok.above, I.ok.inj, I.ok.has, I.ok.cab, hd, I.ok.frames, I.ok.stk, I.ok.exf, I.ok.bs, I.ok.bsz, I.ok.noex, I.ok.exfs, I.ok.funs, I.ok.frf⟩, I.os, I.bare, I.base, I.loc, I.cell, I.free, I.freeC, I.pin, I.hok, I.len⟩
theorem SP.ofTry {W : XK} {D : Ends} {f : Flow} (h : SP (X.tryX pins W) [] D f s') : SP X pins D f s' := by
  cases f with
  | next => obtain ⟨a, b, I, q⟩ := h; exact ⟨a, b, I.ofTry, q⟩
  | brk => obtain ⟨a, b, I, q⟩ := h; exact ⟨a, b, I.ofTry, q⟩
  | cont => obtain ⟨a, b, I, q⟩ := h; exact ⟨a, b, I.ofTry, q⟩
  | ret u => obtain ⟨v, a, b, I, r, q⟩ := h; exact ⟨v, a, b, I.ofTry, r, q⟩
/-- an exception of a callee comes to the try -/
theorem passR {W : XK} : Passes (CXR X.prog X.w) (X.tryX pins W) W := fun pins' σ H s e s' I h => by
  obtain ⟨ea, D, a0, H', B, rfl, os, bare, un, hok, fl, kB, hn, hW⟩ := h
  exact ⟨σ, H, s, H', ea, D, a0, B, rfl, I.ofTry, I.ofTry.call' os un hok bare (fun b z => by cases z), fl, kB, hn, hW⟩
/-- an object that is not told of yet is tracked -/
theorem Inv.track {ea : Addr} {o : HO} (I0 : Inv X pins σ H s) (I1 : Inv X pins σ H' s') (hn : H' ea = none) (hp : s.heap.get? ea = none) (new : ObjOk X.prog X.w (upd H' ea o) s'.heap ea o) : Inv X pins σ (upd H' ea o) s' where
  ok := I1.ok
  os := I1.os
  bare := I1.bare
  base := ⟨I1.base.keep, I1.base.slot, fun b u e n hx => by
    rw [upd_ne fun z => by
      obtain ⟨u', e'⟩ := I0.base.there b u e hx
      rw [z, hp] at e'
      cases e']
    exact I1.base.free b u e n hx, I1.base.there, fun b xs q => by
      have := I1.base.tups b xs q
      rw [upd_ne (ne_of_none this hn)]; exact this, fun b u xs q => by
      have := I1.base.frzs b u xs q
      rw [upd_ne (ne_of_none this hn)]; exact this, fun b ps q => by
      obtain ⟨more, e⟩ := I1.base.tbls b ps q
      exact ⟨more, by rw [upd_ne (ne_of_none e hn)]; exact e⟩⟩
  loc := I1.loc
  cell := I1.cell
  free := by
    rw [upd_ne fun z => by
      obtain ⟨m, ⟨u, _, _, e, _⟩, _⟩ := I0.loc
      rw [z, hp] at e
      cases e]
    exact I1.free
  freeC := fun x c e => by
    rw [upd_ne fun z => by
      obtain ⟨v, u, e', _⟩ := I0.cell x c e
      rw [z, hp] at e'
      cases e']
    exact I1.freeC x c e
  pin := fun p hq => by
    obtain ⟨h1, h2, h3⟩ := I1.pin p hq
    refine ⟨h1, ?_, h3⟩
    rw [upd_ne fun z => by
      have := (I0.pin p hq).1
      rw [z, hp] at this
      cases this]
    exact h2
  hok := fun b u e => by
    by_cases hb : b = ea
    · subst hb; rw [upd_same] at e; cases e; exact new
    · rw [upd_ne hb] at e
      exact (I1.hok b u e).stay (fun _ _ _ q => q) (fun c q => by rw [upd_ne (ne_of_none q hn)]; exact q) fun c xs q => by rw [upd_ne (ne_of_none q hn)]; exact q
  len := I1.len
/-- a name has gone -/
theorem Inv.gone {i t : Nat} {n : Str} {v : Option Value} (I : Inv X pins σ H s) (hN : X.N.Nodup) (hi : X.N[i]? = some n) (hk : X.env.kindOf n = some .local) {m : Str → Option Value} (hm : s.heap.Ns X.env.locals m) (hn : h2.Ns X.env.locals (fun x => if x = n then v else m x)) (hs : Heap.SameBut X.env.locals s.heap h2) : Inv X pins (σ.set i none) H { s with heap := h2, toks := t } := by
  obtain ⟨m', hm', hl⟩ := I.loc
  have em : m' = m := by
    obtain ⟨o1, es1, ep1, e1, d1, _, f1⟩ := hm'
    obtain ⟨o2, es2, ep2, e2, d2, _, f2⟩ := hm
    rw [e1] at e2
    cases e2
    rw [d1] at d2
    cases d2
    funext x
    rw [← f1 x, f2 x]
  subst em
  obtain ⟨oL, _, _, hoL, _⟩ := id hm
  have lt : ∀ b o, X.s₀.heap.get? b = some o → b ≠ X.env.locals := fun b o e => Nat.ne_of_lt (Nat.lt_of_lt_of_le (Heap.lt_size e) I.ok.above)
  refine ⟨I.ok, I.os, I.bare, ⟨fun b o e n hb hx => (hs.2 b (lt b o e)).trans (I.base.keep b o e n hb hx), fun b o e n hb hx => ?_, I.base.free, fun b o e hx => ?_, I.base.tups, I.base.frzs, I.base.tbls⟩, ⟨_, hn, fun j y v' e1 e2 e3 => ?_⟩, fun y c e => ?_, I.free, I.freeC, fun p hp => ?_, fun b ob e => ?_, by rw [List.length_set]; exact I.len⟩
  · obtain ⟨sl, e1⟩ := I.base.slot b o e n hb hx
    exact ⟨sl, (hs.2 b (lt b o e)).trans e1⟩
  · obtain ⟨o', e1⟩ := I.base.there b o e hx
    exact ⟨o', (hs.2 b (lt b o e)).trans e1⟩
  · have hj : j ≠ i := fun z => by
      rw [z, List.getElem?_set_self (by rw [I.len]; exact (List.getElem?_eq_some_iff.mp hi).1)] at e2
      cases e2
    rw [List.getElem?_set_ne (Ne.symm hj)] at e2
    obtain ⟨u', r', q⟩ := hl j y v' e1 e2 e3
    refine ⟨u', r', ?_⟩
    rcases q with ⟨k, e⟩ | ⟨k, c, e, z⟩
    · refine .inl ⟨k, ?_⟩
      have : y ≠ n := fun e => hj (nodup_ix hN e1 (e ▸ hi))
      show (if y = n then v else m' y) = some u'
      rw [if_neg this]
      exact e
    · exact .inr ⟨k, c, e, z.sameBut hs (I.cne y c e)⟩
  · obtain ⟨w', z⟩ := I.cell y c e
    exact ⟨w', z.sameBut hs (I.cne y c e)⟩
  · obtain ⟨e, n', ne, nf, d⟩ := I.pin p hp
    exact ⟨(hs.2 p.1 ne).trans e, n', ne, nf, d⟩
  · refine (I.hok b ob e).stay (fun c w' hc q => (hs.2 c ?_).trans q) (fun _ q => q) fun _ _ q => q
    rintro rfl
    have fr := I.free
    rcases hc with rfl | hc
    · rw [fr] at e; cases e
    · rw [fr] at hc; cases hc
end
/-- the class at D has the class at C above it, or is it -/
def xsub (K : PySem.W.Frag) (D C : Addr) : Bool := match K.lookup D with
  | some ⟨_, _, .cls cd, _⟩ => cd.mro.contains (.ref C)
  | _ => false
theorem xsub_in {K : PySem.W.Frag} {h : Heap} {D C : Addr} {bD : List Value} (X : K.In h) (x : XCls h D bD) (q : xsub K D C = true) : (Value.ref D :: bD).contains (.ref C) = true := by
  unfold xsub at q
  split at q
  case h_2 => cases q
  case h_1 oc od cd sl hl =>
    obtain ⟨_, _, _, _, _, _, _, _, _, _, _, _, _, _, _, _, e, _⟩ := x.ex
    have := X _ _ hl
    rw [e] at this
    cases this
    exact q
/-- an exception, by its class -/
def excP (ea D : Addr) : Heap → Prop := fun h => ∃ ob, h.get? ea = some ob ∧ ob.cls = .ref D
def tTryAs (i : Nat) (W : XK) (K : PySem.W.Frag) (C : Addr) (tb ts : TS) : TS := fun D σ H => tb D σ H ∧ ∀ (σ' : St) (H' : Hp) (ea Dc : Addr), σ'.length = σ.length → W (.ref Dc) none H' → H' ea = none →
  PySem.W.excIn K Dc bmVE nwVE = true ∧ xsub K Dc C = true ∧ ts { nx := fun σ2 H2 => D.nx (σ2.set i none) H2, rt := fun _ _ => False } (σ'.set i (some (.ref ea))) (upd H' ea (.ext (excP ea Dc)))
theorem ps_tryAs {X : Cx} {body suite : List Stmt} {b0 : Stmt} {x n : Str} {i : Nat} {C : Addr} {tb ts : TS} {W : XK} {np hpos pos : Pos} (hst : X.stack = X.env :: X.outer) (hfr : X.env.frame = some X.env.locals) (hb : ∀ pins, PSs (X.tryX pins W) body tb) (hg : Gl X x) (hm : X.mg x = some (.ref C)) (hC : PySem.W.excIn X.K C bmVE nwVE = true)
    (hN : X.N.Nodup) (hi : X.N[i]? = some n) (hk : X.env.kindOf n = some .local) (hl : Loc X.env.scope n) (hs : ∀ ea, PSs (X.markX ea) (b0 :: suite) ts) (hf : X.fn n = true ∨ X.env.scope.names.lookup n = some .local := by first | exact .inl rfl | exact .inr rfl | assumption) (hd : (x == ("__debug__" : Str)) = false := by decide) :
    PS X (.Try body [.ExceptHandler (some (.Name x np)) (some n) (b0 :: suite) hpos] [] [] pos) (tTryAs i W X.K C tb ts) := by
  intro pins s σ H D I h
  refine wpAny_Try_except (wpAny_mono (hb pins [] s σ H D (I.toTry W) h.1) (fun f s1 q => ?_) fun e s1 q => ?_)
  · cases f with
    | next => exact wpAny_execs_nil (SP.ofTry q)
    | brk => exact SP.ofTry q
    | cont => exact SP.ofTry q
    | ret u => exact SP.ofTry q
  obtain ⟨σ1, H0, s0, H1, ea, Dc, a0, B, rfl, I0, I1, fl, kB, hea, hW⟩ := q
  obtain ⟨r1, r2, r3⟩ := h.2 σ1 H1 ea Dc (I1.len.trans I.len.symm) hW hea
  rw [hst] at fl
  have hp0 : s0.heap.get? ea = none := by
    cases hq : s0.heap.get? ea with
    | none => rfl
    | some u =>
      obtain ⟨oe, vs, _, _, _, he, _, hdt, _⟩ := fl.2.2.2
      have nst : ea ∉ frs X.stack := fun z => by
        obtain ⟨_, o2, e2, d2⟩ := I1.stack.mem z
        rw [he] at e2
        cases e2
        exact d2 vs hdt
      have := kB ea oe he nst (.inr ⟨u, hq⟩)
      rw [fl.2.1] at this
      cases this
  refine wpAny_looks_onW (by rw [← hst]; exact I.ok.frames) hfr fl fun h2 hh2 u2 => ?_
  refine wpAny_landsW hh2 fun h3 fl3 u3 => ?_
  have I3 := I0.upto I1 (fun b o e n hb => fl3.1 _ _ (kB b o e n hb)) (u2.trans u3)
  obtain ⟨bC, xC⟩ := XCls.mk' I3.kIn hC
  obtain ⟨bD, xD⟩ := XCls.mk' I3.kIn r1
  obtain ⟨oe, he, hcls⟩ := fl3.there
  refine wpAny_handleBy_cons (codeAny_handlers_test (ld_glob (I3.toMark ea) hg hm ?_ hd)) (by intro q; cases q)
  refine matches_own xC xD he hcls (xsub_in I3.kIn xD r2) ?_
  refine codeAny_handlers_suite_as ?_
  refine lands_againW fl3 fun h4 fl4 u4 => ?_
  have I4 := I0.upto I1 (fun b o e n hb => fl4.1 _ _ (kB b o e n hb)) ((u2.trans u3).trans u4)
  obtain ⟨oe4, he4, hcls4⟩ := fl4.there
  have I5 := I0.track (o := .ext (excP ea Dc)) I4 hea hp0 ⟨⟨oe4, he4, hcls4⟩, ⟨oe4, he4⟩, fun g1 g2 ⟨ob, e1, e2⟩ k => ⟨ob, k ob e1, e2⟩⟩
  refine store_ok I5 hN hi hl (show RelV (.ref ea) (.ref ea) from rfl) (fun s5 I6 => ?_) hf
  refine wpAny_mono (hs ea pins s5 _ _ _ (I6.toMark ea) r3) (fun f s6 q => ?_) fun _ _ z => False.elim z
  cases f with
  | next =>
    obtain ⟨σ7, H7, I7, q7⟩ := q
    obtain ⟨m, hnm, _⟩ := id I7.loc
    exact wpAny_nameGoes_keeps hk hnm (by rw [I.ok.kind]; rfl) fun h8 v hn8 hs8 => ⟨_, H7, (I7.ofMark I.ok.hd).gone hN hi hk hnm hn8 hs8, q7⟩
  | brk => obtain ⟨_, _, _, q7⟩ := q; exact False.elim q7
  | cont => obtain ⟨_, _, _, q7⟩ := q; exact False.elim q7
  | ret u => obtain ⟨_, _, _, _, _, q7⟩ := q; exact False.elim q7
end L2

set_option maxRecDepth 100000
set_option maxHeartbeats 4000000
namespace L2
open PySem PySem.Spec PyProof.Rows
/-! ### isinstance of an own exception -/
/-- what the words of an exception's class answer -/
structure XGet (K : PySem.W.Frag) (D : Addr) : Prop where
  cl : PySem.W.excIn K D bmVE nwVE = true
  ga : PySem.W.findIn K (.ref D) "__getattribute__" = some (some (.builtin "BaseException.__getattribute__"))
  gt : PySem.W.findIn K (.ref D) "__getattr__" = some none
  ck : PySem.W.findIn K (.ref D) "__class__" = some (some (.builtin "object.__class__"))
section
variable {prog : Program} {w : World} {A : Around} {E : Value → Shared → Prop} {h : Heap} {g : Array GenState} {d : Drawn} {t : Nat} {os : OsState} {a D : Addr} {o : Obj} {K : PySem.W.Frag} {bD : List Value}
theorem xc_get {R : Result → Shared → Prop} (xD : XCls h D bD) (hx : h.get? a = some o) (hc : o.cls = .ref D) (hq : R (.ok (.ret (.ref D))) ⟨h, g, d, t, os⟩) :
    codeAny (model prog w) A (.call (.builtin "getset_descriptor.__get__") ⟨[.builtin "object.__class__", .ref a, .ref D], []⟩) R ⟨h, g, d, t, os⟩ := by
  obtain ⟨_, _, _, _, _, _, _, _, _, _, _, _, _, _, _, _, hD, _, _, tD⟩ := xD.ex
  have hb : (Value.ref D :: bD).contains (.type (".".intercalate ("object.__class__".cutAt '.').dropLast)) = true := by
    rw [PySem.F.owner_object_class, List.contains_cons, tD.hasType (b := true) (by decide)]; rfl
  refine codeAny_call_builtin PySem.F.slot_gs_get.plain PySem.F.entry_gs_get (PySem.F.slot_gs_get.check _ _ _ _ _ _ _ _ (show (⟨h, g, d, t, os⟩ : Shared).TypeIs (.builtin "object.__class__") "getset_descriptor" from PySem.F.typeOf_object_class) (PySem.F.args_gs_get _ _ _) ?_)
  repeat (any_goals (first | assumption | (with_reducible refine wpAny_loadPart_at hx ?_; rw [hc]) | (with_reducible refine wpAny_isSubtype_exc hD ?_; rw [hb]) | wp_step))
  refine ⟨Code.quiet_builtin _ (by decide +kernel), codeAny_builtin PySem.F.entry_object_class ?_⟩
  repeat (any_goals (first | assumption | (with_reducible refine wpAny_loadPart_at hx ?_; rw [hc]) | wp_step))
theorem xc_entry {tk : Tok} {Q : Fin → Shared → Prop} (X : K.In h) (G : XGet K D) (xD : XCls h D bD) (hx : h.get? a = some o) (hc : o.cls = .ref D) (hq : Q (.done (.ret (.ref D))) ⟨h, g, d, t, os⟩) :
    wpAny (model prog w) A (Builtin.«object.__getattribute__» ⟨[.ref a, .str "__class__" tk], []⟩) Q E ⟨h, g, d, t, os⟩ := by
  have hT5 : (⟨h, g, d, t, os⟩ : Shared).TypeIs (.builtin "object.__class__") "getset_descriptor" := PySem.F.typeOf_object_class
  have f5 := PySem.F.typeOf_object_class
  have f6 := PySem.F.slot_gs_get.lookup
  have f7 := PySem.F.slot_gs_set.lookup
  repeat (any_goals (first | assumption | (with_reducible refine wpAny_loadPart_at hx ?_; rw [hc]) | (with_reducible refine (PySem.W.looks_findIn X G.ck).at ?_) | wp_step))
  refine xc_get xD hx hc ?_
  repeat (any_goals (first | assumption | wp_step | done))
theorem xc_check {M : Model} {v : Value} {Q : Unit → Shared → Prop} (xD : XCls h D bD) (hx : h.get? a = some o) (hc : o.cls = .ref D) (hq : Q () ⟨h, g, d, t, os⟩) : wpAny M A (checkBuiltinCall "BaseException.__getattribute__" ⟨[.ref a, v], []⟩) Q E ⟨h, g, d, t, os⟩ := by
  obtain ⟨_, _, _, _, _, _, _, _, _, _, _, _, _, _, _, _, hD, _, _, tD⟩ := xD.ex
  have h1 : builtinKind "BaseException.__getattribute__" = some .slot := by decide +kernel
  have h2 : splitId "BaseException.__getattribute__" = some ("BaseException", "__getattribute__") := by decide +kernel
  have hb : (Value.ref D :: bD).contains (.type "BaseException") = true := by rw [List.contains_cons, tD.hasType (b := true) (by decide), Bool.or_true]
  have ha := PySem.F.args_bexc_ga (.ref a) v
  simp only [checkBuiltinCall, h1, h2]
  refine wpAny_bind ?_
  unfold isInstance
  repeat (first | (with_reducible refine wpAny_loadPart_at hx ?_; rw [hc]) | (with_reducible refine wpAny_isSubtype_exc hD ?_; rw [hb]) | wp_step)
  exact hq
theorem xc_by {tk : Tok} {Q : Value → Shared → Prop} (X : K.In h) (G : XGet K D) (xD : XCls h D bD) (FG : Slot "ValueError" "__getattribute__" "BaseException.__getattribute__") (hx : h.get? a = some o) (hc : o.cls = .ref D) (hq : Q (.ref D) ⟨h, g, d, t, os⟩) :
    wpAny (model prog w) A (getAttrBy (.ref a) (.str "__class__" tk) false) Q E ⟨h, g, d, t, os⟩ := by
  have f3 := FG.bind (.ref a)
  have hx2 : (Value.builtin "BaseException.__getattribute__" == Value.builtin "object.__getattribute__") = false := by decide +kernel
  have hx1 : (onTheHeap (Value.ref D) && Value.builtin "BaseException.__getattribute__" == Value.builtin "object.__getattribute__") = false := by rw [hx2]; rfl
  repeat (any_goals (first | assumption | (with_reducible refine wpAny_loadPart_at hx ?_; rw [hc]) | (with_reducible refine (PySem.W.looks_findIn X G.ga).at ?_) | (with_reducible refine (PySem.W.looks_findIn X G.gt).at ?_) | wp_step))
  refine codeAny_call_builtin FG.plain PySem.F.entry_bexc_ga (xc_check xD hx hc (xc_entry X G xD hx hc ?_))
  repeat (any_goals (first | assumption | wp_step | done))
theorem xc_attr {Q : Option Value → Shared → Prop} (X : K.In h) (G : XGet K D) (xD : XCls h D bD) (FG : Slot "ValueError" "__getattribute__" "BaseException.__getattribute__") (hx : h.get? a = some o) (hc : o.cls = .ref D) (hq : Q (some (.ref D)) ⟨h, g, d, t + 1, os⟩) :
    wpAny (model prog w) A (getAttr? (.ref a) "__class__") Q E ⟨h, g, d, t, os⟩ := by
  unfold getAttr? getAttrBy?
  repeat (any_goals (first | assumption | with_reducible apply xc_by X G xD FG hx hc | wp_step))
end
theorem kitx_exc {K : PySem.W.Frag} {a D : Addr} (G : XGet K D) : PySem.W.KitX K (.ref a) (.ref D) (excP a D) where
  ty := fun M h _ ⟨_, h1, h2⟩ => h2 ▸ (PySem.W.Looks.ld h1).andThen .now
  it := fun _ h X _ => by
    obtain ⟨_, xD⟩ := XCls.mk' X G.cl
    obtain ⟨_, _, _, _, _, _, _, _, _, _, _, _, _, _, _, _, hD, _⟩ := xD.ex
    intro A' Q' E' s' k q
    unfold isType loadHead
    exact wpAny_bind (wpAny_loadPart (k _ _ hD) (wpAny_pure q))
  ne := fun h tp dd its n sl X htp => Bool.eq_false_iff.mpr fun q => by
    cases Value.ref.inj (beq_iff_eq.mp q)
    obtain ⟨_, xD⟩ := XCls.mk' X G.cl
    obtain ⟨_, _, _, _, _, _, _, _, _, _, _, _, _, _, _, _, hD, _⟩ := xD.ex
    have z := congrArg Obj.data (Option.some.inj (hD.symm.trans htp))
    cases z
  ca := fun {_ _ _ _ _ s} X p k => by
    obtain ⟨_, xD⟩ := XCls.mk' X G.cl
    obtain ⟨o, h1, h2⟩ := p
    obtain ⟨h, g, d, t, os⟩ := s
    exact xc_attr X G xD PySem.F.attr_ValueError.ga h1 h2 k
/-- isinstance(e, C): e an own exception of the class at D -/
theorem isiX {X : Cx} {K : PySem.W.Frag} (hK : X.K = K := by rfl) : CallR X (.builtin "isinstance") (fun xs H Q => ∃ (a D : Addr) (c : V) (b : Bool), xs = [.ref a, c] ∧ H a = some (.ext (excP a D)) ∧ XGet K D ∧
    ((∃ C, c = .ref C ∧ PySem.W.kitOne K (.ref D) (.ref C) = some b) ∨ ∃ T, c = .ty T ∧ PySem.W.kitOne K (.ref D) (.type T) = some b) ∧ Q (.bl b) H) := by
  subst hK
  intro pins s σ H xs us Q I r h
  obtain ⟨a, D, c, b, rfl, ha, G, hc, q⟩ := h
  obtain ⟨u, w', rfl, rx, ry⟩ := vals2 r
  cases (show u = Value.ref a from rx)
  have p : excP a D s.heap := (show ObjOk X.prog X.w H s.heap a (.ext (excP a D)) from I.hok a _ ha).1
  rcases hc with ⟨C, rfl, e⟩ | ⟨T, rfl, e⟩
  · cases (show w' = Value.ref C from ry)
    exact PySem.W.kia_one (kitx_exc G) I.kIn p e (fun z => nomatch z) fun tk => ⟨.bl b, H, I.tok tk, rfl, q⟩
  · cases (show w' = Value.type T from ry)
    exact PySem.W.kia_one (kitx_exc G) I.kIn p e (fun z => nomatch z) fun tk => ⟨.bl b, H, I.tok tk, rfl, q⟩
theorem boot_VE : bootBuiltins "ValueError" = some (.type "ValueError") := by decide +kernel
end L2
namespace Wd
open PySem L2 Ow
theorem len4 {α : Type} : ∀ {l : List α}, l.length = 4 → ∃ a b c d, l = [a, b, c, d]
  | [a, b, c, d], _ => ⟨a, b, c, d, rfl⟩
end Wd

set_option maxRecDepth 100000
set_option maxHeartbeats 4000000
namespace Wd
open PySem L2 Ow
/-! ### what lies beneath an option -/
/-! ### how it is found: turn by turn -/
end Wd

set_option maxRecDepth 100000
set_option maxHeartbeats 4000000
namespace L2
open PySem PySem.Spec PyProof.Rows
end L2

set_option maxRecDepth 100000
set_option maxHeartbeats 4000000
namespace L2
open PySem PySem.Spec PyProof.Rows
/-! ### lambdas that an exception may leave -/
def cxLamR (P : Program) (w : World) (K : PySem.W.Frag) (mg : Str → Option Value) (base : Heap) (N : List Str) (q : Str) (scope : Scope) (f c : Addr) (cl : List (Str × Addr)) (A : Around) (outer : List Env) (s : Shared) (H : Hp) (E : XK) : Cx :=
  { cxLam P w K mg base N q scope f c cl A outer s H with xe := fun e s' => wpAny (model P w) (A.deeper (PySem.W.envX q scope s.heap.objs.size f (.ref c) cl)) (leaving (PySem.W.envX q scope s.heap.objs.size f (.ref c) cl) e) (fun _ s'' => CXR P w outer H s E e s'') (fun e' s'' => CXR P w outer H s E e' s'') s' }
theorem passUpL {P : Program} {w : World} {K : PySem.W.Frag} {mg : Str → Option Value} {base : Heap} {N : List Str} {qual : Str} {scope : Scope} {f c : Addr} {cl : List (Str × Addr)} {A : Around} {outer : List Env} {s0 : Shared} {H0 : Hp} {E : XK} :
    Passes (CXR P w) (cxLamR P w K mg base N qual scope f c cl A outer s0 H0 E) E := fun pins σ H s e s' I h => by
  obtain ⟨ea, D, a0, H', B, rfl, os, bare, un, hok, fl, kB, hn, hW⟩ := h
  have I1 := I.call' os un hok bare (fun b z => by cases z)
  refine wpAny_leaves_onW I.ok.frames rfl fl fun h2 fl2 u2 => ?_
  have I2 := I.upto I1 (fun b o e n hb => fl2.1 _ _ (kB b o e n hb)) u2
  refine ⟨ea, D, a0, H', B, rfl, I2.os, I2.bare, I2.base, I2.hok, fl2, fun b o q hf hb => ?_, hn, hW⟩
  have nst : b ∉ frs (PySem.W.envX qual scope s0.heap.objs.size f (.ref c) cl :: outer) := fun z => by
    rcases hb with hb | ⟨u, hu⟩
    · exact hb (I1.stkFree b z)
    · rcases List.mem_cons.mp (I.stkSub b z) with r | r
      · have h1 := Heap.lt_size hu
        rw [r] at h1
        exact absurd h1 (Nat.lt_irrefl _)
      · exact hf r
  rcases hb with hb | ⟨u, hu⟩
  · cases hq : H' b with
    | none => exact absurd hq hb
    | some ho =>
      obtain ⟨u, hu⟩ := obj_is (I1.hok b ho hq)
      have h1 := kB b u hu nst (.inl hb)
      have h3 := fl2.1 _ _ h1
      rw [q] at h3
      cases h3
      exact h1
  · obtain ⟨o1, e1⟩ := I.base.there b u hu (by intro z; cases z)
    obtain ⟨o2, e2⟩ := I1.base.there b u hu (by intro z; cases z)
    have h1 := kB b o2 e2 nst (.inr ⟨o1, e1⟩)
    have h3 := fl2.1 _ _ h1
    rw [q] at h3
    cases h3
    exact h1
theorem lam_okR {P : Program} {w : World} {K : PySem.W.Frag} {mg : Str → Option Value} {base : Heap} {f c : Addr} {qual : Str} {params : Arguments} {body : Expr} {scope : Scope} {cl : List (Str × Addr)} {ps fr : List Str} {fv : List V} {k : Nat} {sp : Sp}
    (S : LamScope ps fr scope) (hcl : ∀ x cc, cl.lookup x = some cc → ∃ v, base.IsCell cc v) (inj : ∀ x y cc, cl.lookup x = some cc → cl.lookup y = some cc → x = y) (has : ∀ y ∈ scope.names, y.2 = .free → ∃ cc, cl.lookup y.1 = some cc)
    (hfv : ∀ (i : Nat) (x : Str) (v : V), fr[i]? = some x → fv[i]? = some v → ∃ cc u, cl.lookup x = some cc ∧ RelV v u ∧ base.IsCell cc (some u)) (hlen : fv.length = fr.length)
    (hsame : ∀ pm ctv args, bindArgs (PySem.W.kla_fn "<lambda>" qual params body scope cl pm (.ref c) ctv) args = bindArgs (PySem.W.kla_fn "<lambda>" qual params body scope cl .none (.ref c) .none) args)
    (len : ∀ vs H Q E, sp vs H Q E → vs.length = ps.length)
    (lam : ∀ vs H Q E, sp vs H Q E → H f = some (.ext (lamP f qual params body scope cl c)) ∧ H c = some (.ext (codeP c)))
    (hbody : ∀ (q : Str) (A : Around) (outer : List Env) (s : Shared) (H : Hp) (vs : List V) (Q : VK) (E : XK), Room k (A.deeper (PySem.W.envX q scope s.heap.objs.size f (.ref c) cl)) → sp vs H Q E →
      ∃ t, PE (cxLamR P w K mg base (ps ++ fr) q scope f c cl A outer s H E) body t ∧ t (vs.map some ++ fv.map some) H Q) :
    FnOk P w K mg base (CXR P w) (k + 1) f (PySem.W.kla_fn "<lambda>" qual params body scope cl .none (.ref c) .none) ps sp := by
  refine ⟨len, fun A outer s H args us vs Q E hr e0 hb r hsp => ?_⟩
  have hl := len _ _ _ _ hsp
  obtain ⟨hf, hc⟩ := lam _ _ _ _ hsp
  obtain ⟨pm, ctv, ho⟩ := ext_ok hf e0.hok
  obtain ⟨oc, vsc, q, t, hoc, hdc, hqc⟩ := ext_ok hc e0.hok
  have lim : s.heap.NoLimit := e0.mod.nolimit.keeps fun b o e => (e0.bs b o e).1
  have toS : ∀ {cc v}, base.IsCell cc v → s.heap.IsCell cc v ∧ H cc = none := fun {cc v} ⟨o, e, d⟩ => ⟨⟨o, (e0.bs _ _ e).1, d⟩, (e0.bs _ _ e).2⟩
  refine callFunQ hr.depth ho rfl S.co S.gen rfl ⟨c, oc, vsc, t, rfl, hoc, hdc, hqc⟩ ?_
  rw [hsame]
  refine hb _ _ _ _ ?_
  have hloc : ∀ y ∈ ps.zip us, scope.names.lookup y.1 = some .local := fun ⟨n, v⟩ hy => S.par n (List.of_mem_zip hy).1
  refine wpAny_newFunctionEnv S.nocell hloc (fun h₁ hns hsb => ?_) S.kind
  have hk₁ : ∀ b o, s.heap.get? b = some o → h₁.get? b = some o := fun b o e => hsb.extBut b o (Nat.ne_of_lt (Heap.lt_size e)) (Heap.get?_push_of_some _ e)
  refine ⟨lim.keeps hk₁, ?_⟩
  obtain ⟨tt, ht, hq⟩ := hbody q A outer s H vs Q E (hr.deeper _) hsp
  have noA : ∀ b : Addr, b ∉ ([] : List Addr) := fun b z => by simp at z
  have kinds : ∀ x, (scope.names.lookup x = some .cell ∨ scope.names.lookup x = some .free) → ∃ cc, cl.lookup x = some cc := fun x hx => by
    rcases hx with z | z
    · exact absurd rfl (S.nocell _ (PySem.mem_of_lookup z))
    · exact has _ (PySem.mem_of_lookup z) rfl
  have I : Inv (cxLamR P w K mg base (ps ++ fr) q scope f c cl A outer s H E) [] (vs.map some ++ fv.map some) H { s with heap := h₁, toks := s.toks + (ps.zip us).length } := by
    refine ⟨⟨e0.mod, S.kind, rfl, rfl, Nat.le_refl _, inj, kinds, fun x cc z => (by cases z), fun _ => hr.hd, Around.frames_deeper e0.frames, .inr ⟨rfl, rfl⟩, fun b z => absurd z (noA b), e0.bs, e0.bsz, fun b _ _ => noA b, fun b z => absurd z (noA b), e0.funs, e0.frf⟩,
      rfl, e0.bare, Un.kept hk₁, ⟨_, hns, fun i x v h1 h2 h3 => ?_⟩, fun x cc e => ?_, e0.hok.fresh (Nat.le_refl _), fun x cc e => ?_, fun p hp => absurd (show p ∈ ([] : List (Addr × Obj)) from hp) (by simp), e0.hok.kept hk₁, ?_⟩
    · have h1' : (ps ++ fr)[i]? = some x := h1
      by_cases hi : i < ps.length
      · rw [List.getElem?_append_left hi] at h1'
        rw [List.getElem?_append_left (by rw [List.length_map, hl]; exact hi), List.getElem?_map] at h2
        obtain ⟨v', hv, e⟩ := Option.map_eq_some_iff.mp h2
        cases e
        obtain ⟨u, hu, rv⟩ := r.get hv
        exact ⟨u, rv, .inl ⟨S.par x (List.mem_of_getElem? h1'), rev_lookup_zip S.nd h1' hu⟩⟩
      · rw [List.getElem?_append_right (by omega)] at h1'
        rw [List.getElem?_append_right (by rw [List.length_map, hl]; omega), List.getElem?_map, List.length_map, hl] at h2
        obtain ⟨v', hv, e⟩ := Option.map_eq_some_iff.mp h2
        cases e
        obtain ⟨cc, u, e1, ru, ic⟩ := hfv _ _ _ h1' hv
        exact ⟨u, ru, .inr ⟨.inr (S.fre x (List.mem_of_getElem? h1')), cc, e1, (toS ic).1.keeps hk₁⟩⟩
    · obtain ⟨v, ic⟩ := hcl x cc e
      exact ⟨v, (toS ic).1.keeps hk₁⟩
    · obtain ⟨v, ic⟩ := hcl x cc e
      exact (toS ic).2
    · show (vs.map some ++ fv.map some).length = (ps ++ fr).length
      rw [List.length_append, List.length_append, List.length_map, List.length_map, hl, hlen]
  refine PySem.W.kla_codeExpr (wpAny_mono (ht [] _ _ H _ I hq) (fun u s' hs => ?_) fun e s' hs => hs)
  obtain ⟨v, H', J, rv, qq⟩ := hs
  exact ⟨v, H', J.os, J.bare, J.base, J.hok, rv, qq⟩


section
variable {X : Cx} {k : Nat} {f : Addr} {fd : FuncData} {ps : List Str} {x : Str} {p pos : Pos} {e : Expr} {es : List Expr} {t : TA}
/-- x(), x a name of the def that holds a function which was made; an exception may come out of it -/
theorem pe_callV0 {CX : CXT} {E : XK} {i : Nat} {φ : Heap → Prop} {sp : Sp} (F : FnOk X.prog X.w X.K X.mg X.base CX k f fd ps sp) (hr : Room k X.A) (hN : X.N[i]? = some x) (hv : Vis X.env.scope x) (hb : Binds X.K fd ps [])
    (hφ : ∀ h : Heap, φ h → ∃ o fd', h.get? f = some o ∧ o.data = .func fd') (hx : Passes CX X E)
    (hdb : (x == ("__debug__" : Str)) = false := by decide) (hcd : (x == ("__classdict__" : Str)) = false := by decide) :
    PE X (.Call (.Name x p) [] [] pos) (fun σ H Q => σ[i]? = some (some (.ref f)) ∧ H f = some (.ext φ) ∧ sp [] H Q E) := by
  intro pins s σ H Q I h
  obtain ⟨hσ, e3, q⟩ := h
  refine wpAny_Call_Name_kw (wpAny_mono (pe_var hN hv hdb hcd pins s σ H (fun v H' => v = .ref f ∧ H' = H) I ⟨_, hσ, rfl, rfl⟩) (fun u s1 hu => ?_) fun _ _ z => z)
  obtain ⟨v, H', I', rv, e1, e2⟩ := hu
  subst e1
  subst e2
  obtain rfl : u = Value.ref f := rv
  refine PySem.W.callWith_of (by rfl) (P := fun h => ∃ o fd', h.get? f = some o ∧ o.data = .func fd') (fun h ⟨o, fd', e1, e2⟩ => ?_) (evalArgs_nil3 ⟨hφ _ (ext_ok e3 I'.hok), ?_⟩)
  · obtain ⟨oc, od, od', os⟩ := o
    cases e2
    exact ⟨.frame, .inl rfl, (PySem.W.Looks.ld (part := none) e1).andThen .now⟩
  · exact run_fn (ds := []) (dvs := []) (us := []) F hr hb .nil hx I' .nil (by rw [List.append_nil]; exact q)
/-- f(..), where the callee's promise may hang on what is untracked now; the base is kept -/
theorem pe_callWB (hr : Room k X.A) (hg : Gl X x) (hm : X.mg x = some (.ref f)) (hk : PySem.W.keepIn X.K (.ref f) = true) (hb : Binds X.K fd ps []) (hfn : ∀ y, X.fn y = true)
    (ha : PA X (e :: es) t) (hdb : (x == ("__debug__" : Str)) = false := by decide) (he : starEach (e :: es) X.env = (false, eval e X.env) :: starEach es X.env := by rfl) (hpl : (backTo pos (starEach es X.env)).any (·.1) = false := by rfl) :
    PE X (.Call (.Name x p) (e :: es) [] pos) (fun σ H Q => t σ H fun vs H1 => ∀ base : Heap, CellsIn X σ base → X.K.In base → base.Ns mainGlobals X.mg → (∀ b o, X.base.get? b = some o → base.get? b = some o) → ∃ sp : Sp, FnOk X.prog X.w X.K X.mg base CX0 k f fd ps sp ∧ sp vs H1 Q E0) := by
  intro pins s σ H Q I h
  refine wpAny_Call_Name_kw (ld_glob I hg hm ?_ hdb)
  refine PySem.W.callWith_K (h₀ := X.base) I.ok.mod.kin hk (thn (ha pos pins s σ H _ I h) fun us s1 ⟨vs, H1, I1, r, q⟩ => ⟨I1.kIn, ?_⟩) he hpl
  have e0 := I1.now
  have ci : CellsIn X σ (baseNow s1.heap H1 X.stack) := fun i y v hN hv hk => by
    obtain ⟨m, hn, hl⟩ := I1.loc
    obtain ⟨u, ru, l⟩ := hl i y v hN hv (.inr (.inl hk))
    rcases l with ⟨hk', _⟩ | ⟨_, c, hc, hcell⟩
    · rw [hk] at hk'; cases hk'
    · exact ⟨c, u, hc, ru, I1.nowCell (hfn y) hc hcell⟩
  obtain ⟨sp, F, hs⟩ := q _ ci e0.mod.kin e0.mod.glob fun b o e => baseNow_get (I1.bk _ _ e) (I1.env0.bs b o e).2 (I1.noStk e)
  have hl : us.length = ps.length := by rw [← r.length]; exact F.len _ _ _ _ hs
  have hbb := hb s1 us I1.kIn (by rw [List.append_nil]; exact hl)
  rw [List.append_nil] at hbb
  refine wpAny_call (codeAny_mono (F.run X.A X.stack s1 H1 ⟨us, []⟩ us vs Q E0 hr e0 hbb r hs) fun r s' hq => ?_)
  cases r with
  | error e => exact hq.elim
  | ok fl =>
    cases fl with
    | ret u => exact I1.after hq
    | next => exact False.elim hq
    | brk => exact False.elim hq
    | cont => exact False.elim hq
end
end L2

set_option maxRecDepth 100000
set_option maxHeartbeats 4000000
namespace Wd
open PySem L2 Ow
/-! ### asked, and what is heard -/
def cmpE : Expr → Expr
  | .Compare l _ _ _ => l
  | e => e
theorem lookup3 {x y1 y2 y3 : Str} {c1 c2 c3 cc : Addr} (h : [(y1, c1), (y2, c2), (y3, c3)].lookup x = some cc) : (x = y1 ∧ cc = c1) ∨ (x = y2 ∧ cc = c2) ∨ (x = y3 ∧ cc = c3) := by
  have m := PySem.mem_of_lookup h
  simp only [List.mem_cons, Prod.mk.injEq, List.not_mem_nil, or_false] at m
  exact m
end Wd

set_option maxRecDepth 100000
set_option maxHeartbeats 4000000
namespace Ow
open PySem
def clsBody : Stmt → List Stmt
  | .ClassDef _ _ _ b _ _ _ _ _ _ _ => b
  | _ => []
end Ow
namespace Wd
open PySem L2 Ow
/-! ### picks, and the stand that they tell -/
def PickL (H : Hp) : List (Nat × Bool) → List V → Prop
  | [], xs => xs = []
  | p :: ps, xs => ∃ t r, xs = .ref t :: r ∧ H t = some (.tup [.int (p.1 : Int), .bl p.2]) ∧ PickL H ps r
theorem PickL.same {H H' : Hp} (s : TupS H H') : ∀ {ps : List (Nat × Bool)} {xs : List V}, PickL H ps xs → PickL H' ps xs
  | [], _, h => h
  | _ :: _, _, ⟨t, r, e, h, q⟩ => ⟨t, r, e, s _ _ h, PickL.same s q⟩
theorem PickL.length {H : Hp} : ∀ {ps : List (Nat × Bool)} {xs : List V}, PickL H ps xs → ps.length = xs.length
  | [], _, h => by rw [show _ = [] from h]; rfl
  | _ :: _, _, ⟨t, r, e, _, q⟩ => by rw [e, List.length_cons, List.length_cons, PickL.length q]
theorem PickL.get {H : Hp} : ∀ {ps : List (Nat × Bool)} {xs : List V} {i : Nat} {x : V}, PickL H ps xs → xs[i]? = some x → ∃ p t, ps[i]? = some p ∧ x = .ref t ∧ H t = some (.tup [.int (p.1 : Int), .bl p.2])
  | [], _, i, _, h, e => by rw [show _ = [] from h] at e; cases e
  | p :: ps, _, 0, x, ⟨t, r, e', h, q⟩, e => by rw [e'] at e; cases e; exact ⟨p, t, rfl, rfl, h⟩
  | p :: ps, _, i + 1, x, ⟨t, r, e', h, q⟩, e => by rw [e'] at e; obtain ⟨p', t', h1, h2⟩ := PickL.get (i := i) q (show r[i]? = some x from e); exact ⟨p', t', h1, h2⟩
theorem PickL.snoc {H : Hp} {p : Nat × Bool} {t : Addr} (ht : H t = some (.tup [.int (p.1 : Int), .bl p.2])) : ∀ {ps : List (Nat × Bool)} {xs : List V}, PickL H ps xs → PickL H (ps ++ [p]) (xs ++ [.ref t])
  | [], _, h => by rw [show _ = [] from h]; exact ⟨t, [], rfl, ht, rfl⟩
  | _ :: _, _, ⟨t', r, e, h, q⟩ => ⟨t', r ++ [.ref t], by rw [e]; rfl, h, PickL.snoc ht q⟩
def yesOf (ps : List (Nat × Bool)) : Nat := ps.foldl (fun y p => if p.2 = true then y ||| 2 ^ p.1 else y) 1
def noOf (ps : List (Nat × Bool)) : Nat := ps.foldl (fun n p => if p.2 = true then n else n ||| 2 ^ p.1) 0
theorem yes_snoc (ps : List (Nat × Bool)) (p : Nat × Bool) : yesOf (ps ++ [p]) = if p.2 = true then yesOf ps ||| 2 ^ p.1 else yesOf ps := by
  unfold yesOf
  rw [List.foldl_append]
  rfl
theorem no_snoc (ps : List (Nat × Bool)) (p : Nat × Bool) : noOf (ps ++ [p]) = if p.2 = true then noOf ps else noOf ps ||| 2 ^ p.1 := by
  unfold noOf
  rw [List.foldl_append]
  rfl
/-- a list of picks in the heap -/
structure PicksAt (H : Hp) (pl : Addr) (ps : List (Nat × Bool)) : Prop where
  ex : ∃ xs, H pl = some (.lst xs) ∧ PickL H ps xs
  few : ps.length ≤ 20
  le : ∀ p ∈ ps, p.1 ≤ 20
theorem PicksAt.same {H H' : Hp} {pl : Addr} {ps : List (Nat × Bool)} (s : Same H H') (h : PicksAt H pl ps) : PicksAt H' pl ps := by
  obtain ⟨xs, h1, h2⟩ := h.ex
  exact ⟨⟨xs, s _ _ h1, h2.same (Same.tup s)⟩, h.few, h.le⟩
def spStandOf : Sp := fun vs H Q _ => ∃ (pl : Addr) (ps : List (Nat × Bool)), vs = [.ref pl] ∧ PicksAt H pl ps ∧ ∀ (t : Addr) (H' : Hp), Same H H' → H' t = some (.tup [.int (yesOf ps : Int), .int (noOf ps : Int)]) → Q (.ref t) H'
def spOpenAt : Sp := fun vs H Q _ => ∃ (wd pl : Addr) (m : Nat) (xs ys : List V) (ps : List (Nat × Bool)), vs = [.ref wd, .ref pl] ∧ WoodAt H wd m xs ys ∧ m ≤ 900 ∧ PicksAt H pl ps ∧ ∀ (l : Addr) (H' : Hp), Same H H' → H l = none → H' l = some (.lst (natsL (openL m (yesOf ps) (noOf ps)))) → Q (.ref l) H'
/-- the first ware of a stand, or none -/
def FirstO (ts : List Tie) (m y n : Nat) : Option Nat → Prop
  | none => ∀ s, s < 2 ^ m → InS y n s → wareB ts s = false
  | some s => s < 2 ^ m ∧ InS y n s ∧ wareB ts s = true ∧ ∀ s', s' < 2 ^ m → InS y n s' → wareB ts s' = true → s ≤ s'
def spFirstAt : Sp := fun vs H Q _ => ∃ (wd pl : Addr) (m : Nat) (ts : List Tie) (ps : List (Nat × Bool)), vs = [.ref wd, .ref pl] ∧ WoodT H wd m ts ∧ m ≤ 9 ∧ 1 ≤ m ∧ PicksAt H pl ps ∧ Stand m (yesOf ps) (noOf ps) ∧ ∀ H' o, Same H H' → FirstO ts m (yesOf ps) (noOf ps) o → Q (optN o) H'
def spLeads : Sp := fun vs H Q _ => ∃ (wd pl tp : Addr) (m : Nat) (ts : List Tie) (ps : List (Nat × Bool)) (p : Nat × Bool), vs = [.ref wd, .ref pl, .ref tp] ∧ WoodT H wd m ts ∧ m ≤ 9 ∧ 1 ≤ m ∧ PicksAt H pl ps ∧ ps.length ≤ 19 ∧ p.1 ≤ 20 ∧ H tp = some (.tup [.int (p.1 : Int), .bl p.2]) ∧ Stand m (yesOf (ps ++ [p])) (noOf (ps ++ [p])) ∧ ∀ H' o, Same H H' → FirstO ts m (yesOf (ps ++ [p])) (noOf (ps ++ [p])) o → Q (.bl (o.isSome)) H'
abbrev chF (wd pl : Addr) : List (Str × V) := [(("wood" : Str), .ref wd), (("picks" : Str), .ref pl)]
theorem tupS_refl (H : Hp) : TupS H H := fun _ _ h => h
theorem tupS_put {H : Hp} {a : Addr} {o o' : HO} (h : H a = some o) (no : ∀ xs, o ≠ .tup xs) : TupS H (upd H a o') := fun b xs hb => by
  have n : b ≠ a := fun z => by
    rw [z, h] at hb
    exact no xs (Option.some.inj hb)
  rw [upd_ne n]
  exact hb
/-- lists and what is known stay -/
structure LstS (H H' : Hp) : Prop where
  lst : ∀ b xs, H b = some (.lst xs) → H' b = some (.lst xs)
  frz : ∀ b o u, H b = some (.frz o u) → H' b = some (.frz o u)
instance {H H' : Hp} : CoeFun (LstS H H') (fun _ => ∀ b xs, H b = some (.lst xs) → H' b = some (.lst xs)) := ⟨LstS.lst⟩
theorem lstS_of {H H' : Hp} (s : Same H H') : LstS H H' := ⟨fun b xs h => s _ _ h, fun b o u h => s _ _ h⟩
theorem lstS_trans {H H1 H2 : Hp} (a : LstS H H1) (b : LstS H1 H2) : LstS H H2 := ⟨fun c xs h => b c xs (a c xs h), fun c o u h => b.frz c o u (a.frz c o u h)⟩
theorem lstS_put {H : Hp} {a : Addr} {o o' : HO} (h : H a = some o) (no : ∀ xs, o ≠ .lst xs) (nf : ∀ u v, o ≠ .frz u v := by intro _ _ z; cases z) : LstS H (upd H a o') := ⟨fun b xs hb => by
  have n : b ≠ a := fun z => by
    rw [z, h] at hb
    exact no xs (Option.some.inj hb)
  rw [upd_ne n]
  exact hb, fun b u v hb => by
  have n : b ≠ a := fun z => by
    rw [z, h] at hb
    exact nf u v (Option.some.inj hb)
  rw [upd_ne n]
  exact hb⟩
/-- all but one thing stays -/
structure ChS (c : Addr) (H H' : Hp) : Prop where
  keep : ∀ b o, b ≠ c → (∀ ps, o ≠ .tbl ps) → H b = some o → H' b = some o
  tab : ∀ P, TabOk H P → TabOk H' P
  dom : ∀ b, H' b = none → H b = none
theorem ChS.lst {c : Addr} {H H' : Hp} (s : ChS c H H') {b : Addr} {xs : List V} (n : b ≠ c) (h : H b = some (.lst xs)) : H' b = some (.lst xs) := s.keep b _ n (fun _ z => nomatch z) h
theorem ChS.ins {c : Addr} {H H' : Hp} (s : ChS c H H') {b C dx : Addr} {fs : List (Str × V)} (n : b ≠ c) (h : H b = some (.ins C dx fs)) : H' b = some (.ins C dx fs) := s.keep b _ n (fun _ z => nomatch z) h
theorem chS_of {c : Addr} {H H' : Hp} (s : Same H H') : ChS c H H' := ⟨fun b o _ n h => by
  have z := s b o h
  cases o
  case tbl ps => exact absurd rfl (n ps)
  all_goals exact z, fun _ t => s.tab t, fun _ h => s.free h⟩
theorem chS_trans {c : Addr} {H H1 H2 : Hp} (a : ChS c H H1) (b : ChS c H1 H2) : ChS c H H2 := ⟨fun p o n t h => b.keep p o n t (a.keep p o n t h), fun P t => b.tab P (a.tab P t), fun p h => a.dom p (b.dom p h)⟩
theorem chS_put {H : Hp} {c : Addr} {o o' : HO} (h : H c = some o) (nt : ∀ ps, o ≠ .tbl ps := by intro _ z; cases z) (ne : ∀ φ, o ≠ .ext φ := by intro _ z; cases z) : ChS c H (upd H c o') := ⟨fun b u n _ hb => by rw [upd_ne n]; exact hb, fun P ⟨ps, hP, tr, hp⟩ => by
  have n : P ≠ c := fun z => by
    rw [z, h] at hP
    exact nt ps (Option.some.inj hP)
  refine ⟨ps, by rw [upd_ne n]; exact hP, tr, fun pos => (hp pos).imp id fun ⟨q, z1, z2⟩ => ⟨q, z1, ?_⟩⟩
  have n2 : q ≠ c := fun z => by
    rw [z, h] at z2
    exact ne _ (Option.some.inj z2)
  rw [upd_ne n2]
  exact z2, fun b hb => by
  by_cases z : b = c
  · rw [z, upd_same] at hb
    cases hb
  · rwa [upd_ne z] at hb⟩
def spInit (C : Addr) : Sp := fun vs H Q _ => ∃ (c dx wd : Addr) (m : Nat) (ts : List Tie), vs = [.ref c, .ref wd] ∧ H c = some (.ins C dx []) ∧ WoodT H wd m ts ∧ m ≤ 9 ∧ 1 ≤ m ∧ (∃ s, s < 2 ^ m ∧ wareB ts s = true) ∧ ∀ (pl : Addr) (H' : Hp), TupS H H' → LstS H H' → ChS c H H' → H pl = none → H' c = some (.ins C dx (chF wd pl)) → PicksAt H' pl [] → Q .non H'
def spWare (C : Addr) : Sp := fun vs H Q _ => ∃ (c dx wd pl : Addr) (m : Nat) (ts : List Tie) (ps : List (Nat × Bool)), vs = [.ref c] ∧ H c = some (.ins C dx (chF wd pl)) ∧ PicksAt H pl ps ∧ WoodT H wd m ts ∧ m ≤ 9 ∧ 1 ≤ m ∧ Stand m (yesOf ps) (noOf ps) ∧ ∀ H' o, Same H H' → FirstO ts m (yesOf ps) (noOf ps) o → Q (optN o) H'
def spChoose (C : Addr) : Sp := fun vs H Q _ => ∃ (c dx wd pl : Addr) (m : Nat) (ts : List Tie) (ps : List (Nat × Bool)) (k : Nat) (b : Bool), vs = [.ref c, .int (k : Int), .bl b] ∧ H c = some (.ins C dx (chF wd pl)) ∧ PicksAt H pl ps ∧ WoodT H wd m ts ∧ m ≤ 9 ∧ 1 ≤ m ∧ ps.length ≤ 18 ∧ k ≤ 20 ∧
  k ∈ openL m (yesOf ps) (noOf ps) ∧ Stand m (yesOf (ps ++ [(k, b)])) (noOf (ps ++ [(k, b)])) ∧ (∃ s, s < 2 ^ m ∧ InS (yesOf (ps ++ [(k, b)])) (noOf (ps ++ [(k, b)])) s ∧ wareB ts s = true) ∧
  ∀ (H' : Hp), TupS H H' → ChS pl H H' → H' c = some (.ins C dx (chF wd pl)) → PicksAt H' pl (ps ++ [(k, b)]) → Q .non H'
theorem first_some {ts : List Tie} {m y n : Nat} {o : Option Nat} (h : FirstO ts m y n o) (w : ∃ s, s < 2 ^ m ∧ InS y n s ∧ wareB ts s = true) : ∃ s, o = some s := by
  obtain ⟨s, h1, h2, h3⟩ := w
  cases o with
  | none =>
    have := h s h1 h2
    rw [h3] at this
    cases this
  | some s' => exact ⟨s', rfl⟩
theorem stand10 {m : Nat} (h : 1 ≤ m) : Stand m (yesOf []) (noOf []) := ⟨fun k _ => Nat.zero_testBit k, (by show 1 < 2 ^ m; exact Nat.one_lt_two_pow (by omega)), (by show 0 < 2 ^ m; exact Nat.pow_pos (by decide))⟩
theorem inS10 {ts : List Tie} {s : Nat} (h : wareB ts s = true) : InS (yesOf []) (noOf []) s := ⟨fun k hk => by
  have hk' : Nat.testBit 1 k = true := hk
  rw [Nat.testBit_one_eq_true_iff_self_eq_zero] at hk'
  subst hk'
  unfold wareB at h
  exact (Bool.and_eq_true_iff.mp h).1, fun k hk => by
  have hk' : Nat.testBit 0 k = true := hk
  rw [Nat.zero_testBit] at hk'
  cases hk'⟩
/-! ### a ware chosen option by option -/
/-! ### one wood within another, by their wares -/
end Wd

set_option maxRecDepth 100000
set_option maxHeartbeats 4000000
namespace L2
open PySem PySem.Spec PyProof.Rows
theorem pe_fldK {K : PySem.W.Frag} {X : Cx} {e : Expr} {f : Str} {pos : Pos} {ta : TE} (he : PE X e ta) (hb : attributeBase e f X.env (eval e X.env) = eval e X.env) (hK : X.K = K := by rfl) : PE X (.Attribute e f pos) (tFld K ta f) := hK ▸ pe_fld he hb
end L2
namespace Wd
open PySem L2 Ow
def spStandC (C : Addr) : Sp := fun vs H Q _ => ∃ (c dx wd pl : Addr) (ps : List (Nat × Bool)), vs = [.ref c] ∧ H c = some (.ins C dx (chF wd pl)) ∧ PicksAt H pl ps ∧ ∀ (t : Addr) (H' : Hp), Same H H' → H' t = some (.tup [.int (yesOf ps : Int), .int (noOf ps : Int)]) → Q (.ref t) H'
def spChosenC (C : Addr) : Sp := fun vs H Q _ => ∃ (c dx wd pl : Addr) (ps : List (Nat × Bool)), vs = [.ref c] ∧ H c = some (.ins C dx (chF wd pl)) ∧ PicksAt H pl ps ∧ ∀ (l : Addr) (H' : Hp), Same H H' → H l = none → PicksAt H' l ps → Q (.ref l) H'
/-- a wood of a drawn number of options -/
def spWoodM (K : PySem.W.Frag) : Sp := fun vs H Q _ => ∃ (pen sp : Addr) (ns : List Int) (most k : Int), vs = [.ref pen, .int most] ∧ Pen K H pen sp ns k ∧ 0 ≤ k ∧ k ≤ 700000 ∧ 0 ≤ most ∧ most ≤ 8 ∧
  ∀ (wd : Addr) (m : Nat) (bs cs : List PyData) (k' : Int) (H' : Hp), SameX pen H H' → H' pen = some (.lst [.ref sp, .int k']) → k ≤ k' → k' ≤ k + 400 → 1 ≤ m → m ≤ 9 → WoodX H' wd m bs cs → (cs.length : Int) ≤ most → Q (.ref wd) H'
/-- what is heard of a choice: o, it was an offer -/
def heardC (r o : Bool) : Str := if r = true then (if o = true then "offer" else "wares") else "none"
def spHeardG (p : Addr) (C : Hp → Prop) (r o : Bool) (R : Hp → Hp → Prop) : Sp := fun vs H Q _ => vs = [.ref p] ∧ C H ∧ ∀ H', (r = true → Same H H') → (r = false → R H H') → Q (.str (heardC r o)) H'
structure HeardK (K : PySem.W.Frag) (D : Addr) (l : List Addr) (off wares up : Addr) (o : Bool) : Prop where
  x : XGet K D
  no : ∀ C ∈ l, PySem.W.kitOne K (.ref D) (.ref C) = some false
  off : PySem.W.kitOne K (.ref D) (.ref off) = some o
  wares : PySem.W.kitOne K (.ref D) (.ref wares) = some (!o)
  ve : PySem.W.kitOne K (.ref D) (.type "ValueError") = some true
  up : xsub K D up = true
noncomputable def leadP (ts : List Tie) (m y n : Nat) : Bool := @decide (∃ s, s < 2 ^ m ∧ InS y n s ∧ wareB ts s = true) (Classical.propDecidable _)
theorem leadP_iff {ts : List Tie} {m y n : Nat} : leadP ts m y n = true ↔ ∃ s, s < 2 ^ m ∧ InS y n s ∧ wareB ts s = true := by
  unfold leadP
  exact @decide_eq_true_iff _ (Classical.propDecidable _)
theorem first_lead {ts : List Tie} {m y n : Nat} {o : Option Nat} (h : FirstO ts m y n o) : o.isSome = leadP ts m y n := by
  rw [Bool.eq_iff_iff, leadP_iff]
  cases o with
  | none =>
    refine ⟨(fun z => nomatch z), fun ⟨s, h1, h2, h3⟩ => ?_⟩
    rw [h s h1 h2] at h3
    cases h3
  | some s => exact ⟨fun _ => ⟨s, h.1, h.2.1, h.2.2.1⟩, fun _ => rfl⟩
def bothL (l : List Nat) : List (Nat × Bool) := l.flatMap fun k => [(k, false), (k, true)]
theorem both_snoc (l : List Nat) (k : Nat) : bothL (l ++ [k]) = bothL l ++ [(k, false), (k, true)] := by
  unfold bothL
  rw [List.flatMap_append]
  rfl
theorem both_len (l : List Nat) : (bothL l).length = 2 * l.length := by
  induction l with
  | nil => rfl
  | cons x l ih =>
    show ([(x, false), (x, true)] ++ bothL l).length = 2 * (l.length + 1)
    rw [List.length_append, ih]
    show 2 + 2 * l.length = _
    omega
theorem mem_both {l : List Nat} {p : Nat × Bool} (h : p ∈ bothL l) : p.1 ∈ l := by
  unfold bothL at h
  obtain ⟨k, hk, hp⟩ := List.mem_flatMap.mp h
  simp only [List.mem_cons, List.not_mem_nil, or_false] at hp
  rcases hp with rfl | rfl <;> exact hk
noncomputable def offL (ts : List Tie) (m : Nat) (ps : List (Nat × Bool)) : List (Nat × Bool) := (bothL (openL m (yesOf ps) (noOf ps))).filter fun p => leadP ts m (yesOf (ps ++ [p])) (noOf (ps ++ [p]))
theorem stand_two {m y n k : Nat} (S : Stand m y n) (h : k ∈ openL m y n) : Stand m y (n ||| 2 ^ k) := by
  obtain ⟨km, ky, kn⟩ := mem_open.mp h
  refine ⟨fun j hj => ?_, S.ym, put_lt S.nm km⟩
  have e : ¬ k = j := fun z => by rw [z, hj] at ky; cases ky
  rw [Nat.testBit_or, S.dj j hj, Nat.testBit_two_pow, decide_eq_false e]
  rfl
theorem pick_stand {m : Nat} {ps : List (Nat × Bool)} {p : Nat × Bool} (S : Stand m (yesOf ps) (noOf ps)) (h : p.1 ∈ openL m (yesOf ps) (noOf ps)) : Stand m (yesOf (ps ++ [p])) (noOf (ps ++ [p])) := by
  rw [yes_snoc, no_snoc]
  cases e : p.2
  · rw [if_neg Bool.false_ne_true, if_neg Bool.false_ne_true]
    exact stand_two S h
  · rw [if_pos rfl, if_pos rfl]
    exact S.one h
noncomputable def spOffers (C : Addr) : Sp := fun vs H Q _ => ∃ (c dx wd pl : Addr) (m : Nat) (ts : List Tie) (ps : List (Nat × Bool)), vs = [.ref c] ∧ H c = some (.ins C dx (chF wd pl)) ∧ PicksAt H pl ps ∧ WoodT H wd m ts ∧ m ≤ 9 ∧ 1 ≤ m ∧ ps.length ≤ 18 ∧ Stand m (yesOf ps) (noOf ps) ∧ ∀ (l : Addr) (xs : List V) (H' : Hp), Same H H' → H l = none → H' l = some (.lst xs) → PickL H' (offL ts m ps) xs → Q (.ref l) H'
def pickD (p : Nat × Bool) : PyData := .tuple [.int (p.1 : Int), .bool p.2]
theorem PickL.dn {H : Hp} : ∀ {ps : List (Nat × Bool)} {xs : List V}, PickL H ps xs → DnL H (ps.map pickD) xs
  | [], _, h => h
  | _ :: _, _, ⟨t, r, e, h, q⟩ => ⟨_, _, e, ⟨t, _, rfl, h, _, _, rfl, rfl, _, _, rfl, rfl, rfl⟩, PickL.dn q⟩
theorem picks_lay : ∀ (ps : List (Nat × Bool)), PyData.canLayAll0 (ps.map pickD) = true ∧ PyData.depthAll (ps.map pickD) ≤ 3
  | [] => ⟨by decide, by decide⟩
  | p :: ps => by
    obtain ⟨a, b⟩ := picks_lay ps
    refine ⟨?_, ?_⟩
    · simp only [List.map_cons, PyData.canLayAll0, a, Bool.and_true]
      simp [pickD, PyData.canLay0, PyData.canLayAll0]
    · simp only [List.map_cons, PyData.depthAll]
      have : PyData.depth (pickD p) ≤ 3 := by simp only [pickD, PyData.depth, PyData.depthAll]; omega
      omega
theorem shaped_picks (ps : List (Nat × Bool)) : SeqAt.shaped (.list (ps.map pickD)) = true := by
  obtain ⟨a, b⟩ := picks_lay ps
  unfold SeqAt.shaped
  rw [Bool.and_eq_true]
  refine ⟨by simp [PyData.canLay0, a], decide_eq_true ?_⟩
  simp only [PyData.depth]
  omega
/-- asked; what is raised may come behind new things; what is not raised leaves the heap so that R tells -/
def spAskG (C : Hp → Prop) (D : Addr) (r : Bool) (R : Hp → Hp → Prop) : Sp := fun vs H Q E => vs = [] ∧ C H ∧ (r = true → ∀ H', Same H H' → E (.ref D) none H') ∧ (r = false → ∀ v H', R H H' → Q v H')
theorem lam_askG {P : Program} {w : World} {K : PySem.W.Frag} {mg : Str → Option Value} {base : Heap} {p c D : Addr} {qual : Str} {params : Arguments} {body : Expr} {scope : Scope} {cl : List (Str × Addr)} {H1 : Hp} {fr : List Str} {fv : List V} {k : Nat} {r : Bool} (C0 : Hp → Prop) (R : Hp → Hp → Prop)
    (hp : H1 p = some (.ext (lamP p qual params body scope cl c)))
    (S : LamScope [] fr scope) (hcl : ∀ x cc, cl.lookup x = some cc → ∃ v, base.IsCell cc v) (inj : ∀ x y cc, cl.lookup x = some cc → cl.lookup y = some cc → x = y) (has : ∀ y ∈ scope.names, y.2 = .free → ∃ cc, cl.lookup y.1 = some cc)
    (hfv : ∀ (i : Nat) (x : Str) (v : V), fr[i]? = some x → fv[i]? = some v → ∃ cc u, cl.lookup x = some cc ∧ RelV v u ∧ base.IsCell cc (some u)) (hlen : fv.length = fr.length)
    (hsame : ∀ pm ctv args, bindArgs (PySem.W.kla_fn "<lambda>" qual params body scope cl pm (.ref c) ctv) args = bindArgs (PySem.W.kla_fn "<lambda>" qual params body scope cl .none (.ref c) .none) args)
    (hbody : ∀ (q : Str) (A : Around) (outer : List Env) (s : Shared) (H : Hp) (Q : VK) (E : XK), Room k (A.deeper (PySem.W.envX q scope s.heap.objs.size p (.ref c) cl)) → C0 H → (r = true → ∀ H', Same H H' → E (.ref D) none H') → (r = false → ∀ v H', R H H' → Q v H') →
      ∃ t, PE (cxLamR P w K mg base ([] ++ fr) q scope p c cl A outer s H E) body t ∧ t (([] : List V).map some ++ fv.map some) H Q) :
    FnOk P w K mg base (CXR P w) (k + 1) p (PySem.W.kla_fn "<lambda>" qual params body scope cl .none (.ref c) .none) [] (spAskG (fun H => C0 H ∧ H p = some (.ext (lamP p qual params body scope cl c)) ∧ H c = some (.ext (codeP c))) D r R) := by
  refine lam_okR S hcl inj has hfv hlen hsame (fun vs H Q E h => ?_) (fun vs H Q E h => ?_) (fun q A outer s H vs Q E hr h => ?_)
  · obtain ⟨rfl, _⟩ := h
    rfl
  · obtain ⟨rfl, ⟨_, h1, h2⟩, _⟩ := h
    exact ⟨h1, h2⟩
  · obtain ⟨rfl, ⟨h0, _, _⟩, h1, h2⟩ := h
    exact hbody q A outer s H Q E hr h0 h1 h2
def ifB : Option Stmt → List Stmt
  | some (.If _ b _ _) => b
  | _ => []
end Wd

set_option maxRecDepth 100000
set_option maxHeartbeats 4000000
namespace Wd
open PySem L2 Ow
/-! ### picks taken back -/
def woP (ps : List (Nat × Bool)) (k : Nat) : List (Nat × Bool) := ps.filter fun p => !decide (p.1 = k)
def spBack (C : Addr) : Sp := fun vs H Q _ => ∃ (c dx wd pl : Addr) (ps : List (Nat × Bool)) (k : Nat), vs = [.ref c, .int (k : Int)] ∧ H c = some (.ins C dx (chF wd pl)) ∧ PicksAt H pl ps ∧ k ∈ ps.map (·.1) ∧ ∀ (pl' : Addr) (H' : Hp), TupS H H' → LstS H H' → ChS c H H' → H pl' = none → H' c = some (.ins C dx (chF wd pl')) → PicksAt H' pl' (woP ps k) → Q .non H'
def spLawStand : Sp := spStandOf
end Wd

set_option maxRecDepth 100000
set_option maxHeartbeats 4000000
namespace L2
open PySem PySem.Spec PyProof.Rows
/-! ### in, of a list of data -/
theorem op_in_data {X : Cx} (hu : X.A.units + 65 < cLine) : OpR X (compareOp .In) (fun x y H Q => ∃ (d : PyData) (ds : List PyData), Dn H d x ∧ Dn H (.list ds) y ∧ SeqAt.shaped d = true ∧ SeqAt.shaped (.list ds) = true ∧ Q (.bl (ds.any fun e => PyData.eqv e d)) H) := by
  intro pins s σ H x y v u Q I rx ry h
  obtain ⟨d, ds, hd, he, sd, se, q⟩ := h
  obtain ⟨as, ra⟩ := Dn.reads I d x v hd (SeqAt.canLay_of_shaped sd) rx
  obtain ⟨bs, rb⟩ := Dn.reads I (.list ds) y u he (SeqAt.canLay_of_shaped se) ry
  exact SeqAt.in_list_reads rb ra (SeqAt.canLay_of_shaped se) (SeqAt.canLay_of_shaped sd) (room_in_shaped sd hu) ⟨.bl _, H, I, rfl, q⟩
theorem Room.units65 {k : Nat} {A : Around} (r : Room k A) : A.units + 65 < cLine := by have := r.un; omega
end L2
namespace Wd
open PySem L2 Ow
/-- all but some things stays -/
structure KeepA (ex : List Addr) (H H' : Hp) : Prop where
  keep : ∀ b o, b ∉ ex → (∀ ps, o ≠ .tbl ps) → H b = some o → H' b = some o
  tab : ∀ P, TabOk H P → TabOk H' P
  dom : ∀ b, H' b = none → H b = none
theorem KeepA.refl (ex : List Addr) (H : Hp) : KeepA ex H H := ⟨fun _ _ _ _ h => h, fun _ h => h, fun _ h => h⟩
theorem KeepA.same {ex : List Addr} {H H1 H2 : Hp} (k : KeepA ex H H1) (s : Same H1 H2) : KeepA ex H H2 := ⟨fun b o n t h => (chS_of (c := b + 1) s).keep b o (Nat.ne_of_lt (Nat.lt_succ_self b)) t (k.keep b o n t h), fun P t => s.tab (k.tab P t), fun b h => k.dom b (s.free h)⟩
theorem KeepA.ch {ex : List Addr} {c : Addr} {H H1 H2 : Hp} (k : KeepA ex H H1) (s : ChS c H1 H2) (hc : c ∈ ex ∨ H c = none) : KeepA ex H H2 := ⟨fun b o n t h => s.keep b o (fun z => by
  rcases hc with hc | hc
  · rw [z] at n; exact n hc
  · rw [z, hc] at h; cases h) t (k.keep b o n t h), fun P t => s.tab P (k.tab P t), fun b h => k.dom b (s.dom b h)⟩
theorem KeepA.pen {ex : List Addr} {pen : Addr} {ys ys' : List V} {H H1 H2 : Hp} (k : KeepA ex H H1) (s : SameX pen H1 H2) (hp : pen ∈ ex ∨ H pen = none) (h1 : H1 pen = some (.lst ys)) (h2 : H2 pen = some (.lst ys')) : KeepA ex H H2 := ⟨fun b o n t h => by
  have z := s b o (fun y => by
    rcases hp with hp | hp
    · rw [y] at n; exact n hp
    · rw [y, hp] at h; cases h) (k.keep b o n t h)
  cases o
  case tbl ps => exact absurd rfl (t ps)
  all_goals exact z, fun P t => SameX.tab s h1 (k.tab P t), fun b h => k.dom b (s.free ⟨_, h2⟩ h)⟩
theorem KeepA.lst {ex : List Addr} {H H' : Hp} (k : KeepA ex H H') {b : Addr} {xs : List V} (n : b ∉ ex) (h : H b = some (.lst xs)) : H' b = some (.lst xs) := k.keep b _ n (fun _ z => nomatch z) h
theorem pen_base {K : PySem.W.Frag} {H H' : Hp} {pen sp : Addr} {ns : List Int} {k : Int} (hS : SqL K H sp (ns.map V.int)) (hl : ns.length ≤ 63) (kp : KeepA [] H H') (hp : H pen = none) (e : H' pen = some (.lst [.ref sp, .int k])) : Pen K H' pen sp ns k := by
  refine ⟨e, hl, fun H2 s2 => ?_⟩
  have n : ∀ o, H sp = some o → sp ≠ pen := fun o h z => by rw [z, hp] at h; cases h
  rcases hS with (h | ⟨o, h⟩) | h
  · exact .inl (.inl (s2 _ _ (n _ h) (kp.keep _ _ (fun z => nomatch z) (by intro _ z; cases z) h)))
  · exact .inl (.inr ⟨o, s2 _ _ (n _ h) (kp.keep _ _ (fun z => nomatch z) (by intro _ z; cases z) h)⟩)
  · exact .inr h
/-! ### the sets that a stand and ties let in -/
def setB (B : List Nat) (ti : Int) (y n s : Nat) : Bool := decide (s &&& y = y) && (decide (s &&& n = 0) && decide (Builtin.bitAnd (((B[s]?).getD 0 : Nat) : Int) ti = 0))
def setsL (B : List Nat) (ti : Int) (y n : Nat) : List Nat := (List.range B.length).filter (setB B ti y n)
def spSetsC : Sp := fun vs H Q _ => ∃ (bl pl : Addr) (B : List Nat) (ti : Int) (ps : List (Nat × Bool)), vs = [.ref bl, .int ti, .ref pl] ∧ H bl = some (.lst (natsL B)) ∧ B.length ≤ 512 ∧ PicksAt H pl ps ∧ ∀ (l : Addr) (H' : Hp), Same H H' → H l = none → H' l = some (.lst (natsL (setsL B ti (yesOf ps) (noOf ps)))) → Q (.ref l) H'
theorem and_m1 (x : Nat) : Builtin.bitAnd (x : Int) (-1) = (x : Int) := by
  unfold Builtin.bitAnd
  rw [decide_eq_true (show (0 : Int) ≤ (x : Int) by omega), decide_eq_false (show ¬ (0 : Int) ≤ -1 by omega)]
  show (x : Int) - ((x : Int).toNat &&& (Builtin.bitNot (-1)).toNat : Nat) = _
  rw [show (Builtin.bitNot (-1)).toNat = 0 by decide, Nat.and_zero]
  omega
theorem in_iff {y n s : Nat} : InS y n s ↔ s &&& y = y ∧ s &&& n = 0 := ⟨fun h => ⟨land_yes.mpr h.1, land_no.mpr h.2⟩, fun h => ⟨land_yes.mp h.1, land_no.mp h.2⟩⟩
def brN (m : Nat) (ts : List Tie) : List Nat := (List.range (2 ^ m)).map fun s => brk ts s ts.length
theorem brN_len (m : Nat) (ts : List Tie) : (brN m ts).length = 2 ^ m := by
  unfold brN
  rw [List.length_map, List.length_range]
theorem brN_at {m s : Nat} {ts : List Tie} (h : s < 2 ^ m) : (brN m ts)[s]? = some (brk ts s ts.length) := by
  unfold brN
  rw [List.getElem?_map, List.getElem?_range h]
  rfl
theorem mem_sets {m s y n : Nat} {ts : List Tie} (y0 : y.testBit 0 = true) : s ∈ setsL (brN m ts) (-1) y n ↔ s < 2 ^ m ∧ InS y n s ∧ wareB ts s = true := by
  unfold setsL
  rw [List.mem_filter, List.mem_range, brN_len]
  constructor
  · rintro ⟨h1, h2⟩
    unfold setB at h2
    rw [brN_at h1, Option.getD_some, and_m1] at h2
    simp only [Bool.and_eq_true, decide_eq_true_eq] at h2
    have i := in_iff.mpr ⟨h2.1, h2.2.1⟩
    refine ⟨h1, i, ?_⟩
    unfold wareB
    rw [i.1 0 y0, Bool.true_and, List.all_eq_true]
    exact (brk_zero ts s).mp (by omega)
  · rintro ⟨h1, i, h3⟩
    refine ⟨h1, ?_⟩
    unfold setB
    rw [brN_at h1, Option.getD_some, and_m1]
    simp only [Bool.and_eq_true, decide_eq_true_eq]
    unfold wareB at h3
    rw [Bool.and_eq_true, List.all_eq_true] at h3
    have := (brk_zero ts s).mpr h3.2
    exact ⟨(in_iff.mp i).1, (in_iff.mp i).2, by omega⟩
theorem yes_bit0 (ps : List (Nat × Bool)) : (yesOf ps).testBit 0 = true := by
  have : ∀ (ps : List (Nat × Bool)) (y : Nat), y.testBit 0 = true → (ps.foldl (fun y p => if p.2 = true then y ||| 2 ^ p.1 else y) y).testBit 0 = true := by
    intro ps
    induction ps with
    | nil => intro y h; exact h
    | cons p ps ih =>
      intro y h
      rw [List.foldl_cons]
      refine ih _ ?_
      split
      · rw [Nat.testBit_or, h]; rfl
      · exact h
  exact this ps 1 (by decide)
/-- the sets of a stand are its wares -/
theorem sets_ware {m : Nat} {ts : List Tie} : setsL (brN m ts) (-1) (yesOf []) (noOf []) = wareL m ts := by
  unfold setsL wareL
  rw [brN_len]
  refine List.filter_congr fun s hs => ?_
  have h1 := List.mem_range.mp hs
  rw [Bool.eq_iff_iff]
  have e : s ∈ setsL (brN m ts) (-1) (yesOf []) (noOf []) ↔ setB (brN m ts) (-1) (yesOf []) (noOf []) s = true := by
    unfold setsL
    rw [List.mem_filter, List.mem_range, brN_len]
    exact ⟨fun z => z.2, fun z => ⟨h1, z⟩⟩
  rw [← e, mem_sets (yes_bit0 [])]
  exact ⟨fun z => z.2.2, fun z => ⟨h1, inS10 z, z⟩⟩
/-! ### picks of a ware, in any order -/
theorem yes_mem : ∀ (ps : List (Nat × Bool)) (k : Nat), (yesOf ps).testBit k = true ↔ k = 0 ∨ (k, true) ∈ ps := by
  have main : ∀ (ps : List (Nat × Bool)) (y k : Nat), (ps.foldl (fun y p => if p.2 = true then y ||| 2 ^ p.1 else y) y).testBit k = true ↔ y.testBit k = true ∨ (k, true) ∈ ps := by
    intro ps
    induction ps with
    | nil => intro y k; simp
    | cons p ps ih =>
      intro y k
      rw [List.foldl_cons, ih, List.mem_cons]
      obtain ⟨j, b⟩ := p
      cases b
      · simp
      · rw [if_pos rfl, Nat.testBit_or, Nat.testBit_two_pow, Bool.or_eq_true, decide_eq_true_iff, Prod.mk.injEq]
        constructor
        · rintro ((z | z) | z)
          · exact .inl z
          · exact .inr (.inl ⟨z.symm, rfl⟩)
          · exact .inr (.inr z)
        · rintro (z | ⟨z, _⟩ | z)
          · exact .inl (.inl z)
          · exact .inl (.inr z.symm)
          · exact .inr z
  intro ps k
  rw [show yesOf ps = ps.foldl (fun y p => if p.2 = true then y ||| 2 ^ p.1 else y) 1 from rfl, main, Nat.testBit_one_eq_true_iff_self_eq_zero]
theorem no_mem : ∀ (ps : List (Nat × Bool)) (k : Nat), (noOf ps).testBit k = true ↔ (k, false) ∈ ps := by
  have main : ∀ (ps : List (Nat × Bool)) (y k : Nat), (ps.foldl (fun n p => if p.2 = true then n else n ||| 2 ^ p.1) y).testBit k = true ↔ y.testBit k = true ∨ (k, false) ∈ ps := by
    intro ps
    induction ps with
    | nil => intro y k; simp
    | cons p ps ih =>
      intro y k
      rw [List.foldl_cons, ih, List.mem_cons]
      obtain ⟨j, b⟩ := p
      cases b
      · rw [if_neg Bool.false_ne_true, Nat.testBit_or, Nat.testBit_two_pow, Bool.or_eq_true, decide_eq_true_iff, Prod.mk.injEq]
        constructor
        · rintro ((z | z) | z)
          · exact .inl z
          · exact .inr (.inl ⟨z.symm, rfl⟩)
          · exact .inr (.inr z)
        · rintro (z | ⟨z, _⟩ | z)
          · exact .inl (.inl z)
          · exact .inl (.inr z.symm)
          · exact .inr z
      · simp
  intro ps k
  rw [show noOf ps = ps.foldl (fun n p => if p.2 = true then n else n ||| 2 ^ p.1) 0 from rfl, main, Nat.zero_testBit]
  simp
/-! ### orders of options -/
theorem eqv_pick (p q : Nat × Bool) : PyData.eqv (pickD p) (pickD q) = decide (p = q) := by
  obtain ⟨a, b⟩ := p
  obtain ⟨c, d⟩ := q
  rw [Bool.eq_iff_iff, decide_eq_true_iff, Prod.mk.injEq]
  cases b <;> cases d <;> simp [pickD, PyData.eqv, PyData.eqvAll] <;> omega
theorem any_pick (p : Nat × Bool) (l : List (Nat × Bool)) : ((l.map pickD).any fun e => PyData.eqv e (pickD p)) = decide (p ∈ l) := by
  rw [List.any_map, Bool.eq_iff_iff, decide_eq_true_iff, List.any_eq_true]
  constructor
  · rintro ⟨x, hx, e⟩
    rw [Function.comp_apply, eqv_pick, decide_eq_true_iff] at e
    rw [← e]
    exact hx
  · intro h
    exact ⟨p, h, by rw [Function.comp_apply, eqv_pick]; exact decide_eq_true rfl⟩
/-! ### boughs alone always have a ware -/
theorem sel_pos {w : Nat → Nat} (h : ∀ k, 1 ≤ w k) : ∀ (ks : List Nat) (j : Nat) (g : Nat → Nat), j ≤ ks.length → 1 ≤ g j → 1 ≤ selS w ks g
  | [], 0, g, _, h1 => h1
  | [], _ + 1, _, hj, _ => absurd hj (Nat.not_succ_le_zero _)
  | c :: cs, j, g, hj, h1 => by
    show 1 ≤ selS w cs g + w c * selS w cs fun j => g (j + 1)
    by_cases z : j ≤ cs.length
    · have := sel_pos h cs j g z h1
      omega
    · obtain ⟨i, rfl⟩ : ∃ i, j = i + 1 := ⟨j - 1, by omega⟩
      have := sel_pos h cs i (fun j => g (j + 1)) (by rw [List.length_cons] at hj; omega) h1
      have := Nat.mul_le_mul (h c) this
      omega
theorem F_pos {m : Nat} {b : Bg} (ok : Tie.BoughOk m b.u b.lo b.hi b.ks) {w : Nat → Nat} (h : ∀ k, 1 ≤ w k) : 1 ≤ b.F w := by
  have h1 := ok.lo0
  have h2 := ok.lohi
  have h3 := ok.hik
  refine sel_pos h b.ks b.lo.toNat b.ind (by omega) ?_
  unfold Bg.ind
  rw [decide_eq_true (by omega), decide_eq_true (by omega)]
  exact Nat.le_refl 1
theorem fold_pos {m : Nat} : ∀ (L : List Bg) (w : Nat → Nat), (∀ b ∈ L, Tie.BoughOk m b.u b.lo b.hi b.ks) → (∀ k, 1 ≤ w k) → ∀ k, 1 ≤ L.foldl stepW w k
  | [], _, _, h, k => h k
  | b :: L, w, ok, h, k => by
    rw [List.foldl_cons]
    refine fold_pos L _ (fun x hx => ok x (List.mem_cons_of_mem _ hx)) (fun j => ?_) k
    unfold stepW
    split
    · exact Nat.mul_le_mul (h j) (F_pos (ok b List.mem_cons_self) h)
    · exact h j
theorem tree_ware {m : Nat} {L : List Bg} (T : TreeB m L) : ∃ s, s < 2 ^ m ∧ wareB (L.map Bg.tie) s = true := by
  have p : 1 ≤ waysW m L 0 := fold_pos (m := m) _ _ (fun b hb => T.ok b ((mem_ordL T.lt).mp hb)) (fun _ => Nat.le_refl 1) 0
  rw [← wares_ways T] at p
  cases e : wareL m (L.map Bg.tie) with
  | nil => rw [e] at p; exact absurd p (by decide)
  | cons s r => exact ⟨s, mem_wareL.mp (by rw [e]; exact List.mem_cons_self)⟩
theorem WoodX.bare {H : Hp} {wd : Addr} {m : Nat} {bs : List PyData} (h : WoodX H wd m bs []) : ∃ ts : List Tie, (∃ s, s < 2 ^ m ∧ wareB ts s = true) ∧ (∀ t ∈ ts, t.Ok m) ∧ ts.length ≤ 29 ∧ ∀ H', TupS H H' → WoodT H' wd m ts := by
  obtain ⟨L, e, f⟩ := woodB_of h rfl
  have B := f H (tupS_refl H)
  exact ⟨L.map Bg.tie, tree_ware B.T, B.woodT.ok, by rw [List.length_map]; have := B.few; omega, fun H' t => (f H' t).woodT⟩
theorem WoodX.cut {H H' : Hp} {wd wd' tb tc te : Addr} {m : Nat} {bs cs : List PyData} (h : WoodX H wd m bs cs) (hw : H wd = some (.tup [.int (m : Int), .ref tb, .ref tc])) (t : TupS H H') (h1 : H' wd' = some (.tup [.int (m : Int), .ref tb, .ref te])) (h2 : H' te = some (.tup [])) : WoodX H' wd' m bs [] := by
  obtain ⟨xs, ys, ⟨tb', tc', w1, w2, w3⟩, db, dc⟩ := h.ex
  rw [hw] at w1
  have e : tb = tb' := by
    injection w1 with w1
    injection w1 with w1
    injection w1 with _ w1
    injection w1 with w1 _
    injection w1
  subst e
  exact ⟨⟨xs, [], ⟨tb, te, h1, t _ _ w2, h2⟩, DnL.tupS t h.fb db, rfl⟩, h.gb, (fun _ z => nomatch z), h.b8, Nat.zero_le _, h.fb, rfl, h.m1, h.m9⟩
/-! ### picks taken back one by one -/
end Wd

set_option maxRecDepth 100000
set_option maxHeartbeats 4000000
namespace Wd
open PySem L2 Ow
/-! ### picks that a choice may hold -/
structure PickOk (m : Nat) (ps : List (Nat × Bool)) : Prop where
  in_ : ∀ p ∈ ps, 1 ≤ p.1 ∧ p.1 < m
  nd : (ps.map (·.1)).Nodup
theorem PickOk.nil (m : Nat) : PickOk m [] := ⟨fun _ z => (nomatch z), List.nodup_nil⟩
theorem nodup_lt : ∀ {m : Nat} {l : List Nat}, l.Nodup → (∀ k ∈ l, k < m) → l.length ≤ m
  | 0, [], _, _ => Nat.le_refl _
  | 0, k :: l, _, h => absurd (h k List.mem_cons_self) (Nat.not_lt_zero _)
  | m + 1, l, nd, h => by
    have h1 : (l.filter (· ≠ m)).length ≤ m := nodup_lt (nd.filter _) fun k hk => by
      obtain ⟨a, b⟩ := List.mem_filter.mp hk
      have := h k a
      have : k ≠ m := by simpa using b
      omega
    have h2 : l.length ≤ (l.filter (· ≠ m)).length + 1 := by
      clear h1 h
      induction l with
      | nil => exact Nat.zero_le _
      | cons x l ih =>
        obtain ⟨hx, nd'⟩ := List.nodup_cons.mp nd
        by_cases e : x = m
        · have : l.filter (· ≠ m) = l := List.filter_eq_self.mpr fun k hk => by
            have : k ≠ m := fun z => hx (by rw [e, ← z]; exact hk)
            simpa using this
          rw [List.filter_cons_of_neg (by simpa using e), this]
          exact Nat.le_refl _
        · rw [List.filter_cons_of_pos (by simpa using e)]
          have := ih nd'
          simp only [List.length_cons]
          omega
    omega
theorem PickOk.len {m : Nat} {ps : List (Nat × Bool)} (h : PickOk m ps) : ps.length ≤ m := by
  have := nodup_lt h.nd fun k hk => by
    obtain ⟨p, hp, rfl⟩ := List.mem_map.mp hk
    exact (h.in_ p hp).2
  rwa [List.length_map] at this
theorem PickOk.one {m : Nat} {ps : List (Nat × Bool)} (h : PickOk m ps) {k : Nat} (h1 : (k, true) ∈ ps) (h2 : (k, false) ∈ ps) : False := by
  have nd := h.nd
  clear h
  induction ps with
  | nil => cases h1
  | cons p ps ih =>
    rw [List.map_cons, List.nodup_cons] at nd
    rcases List.mem_cons.mp h1 with e | e <;> rcases List.mem_cons.mp h2 with e' | e'
    · rw [← e] at e'; cases e'
    · exact nd.1 (by rw [← e]; exact List.mem_map.mpr ⟨_, e', rfl⟩)
    · exact nd.1 (by rw [← e']; exact List.mem_map.mpr ⟨_, e, rfl⟩)
    · exact ih e e' nd.2
theorem PickOk.stand {m : Nat} {ps : List (Nat × Bool)} (m1 : 1 ≤ m) (h : PickOk m ps) : Stand m (yesOf ps) (noOf ps) := by
  refine ⟨fun k hk => ?_, Nat.lt_pow_two_of_testBit _ fun k hk => ?_, Nat.lt_pow_two_of_testBit _ fun k hk => ?_⟩
  · rw [Bool.eq_false_iff]
    intro z
    have z := (no_mem ps k).mp z
    rcases (yes_mem ps k).mp hk with y | y
    · have := (h.in_ _ z).1
      simp only at this
      omega
    · exact h.one y z
  · rw [Bool.eq_false_iff]
    intro z
    rcases (yes_mem ps k).mp z with y | y
    · omega
    · have := (h.in_ _ y).2
      simp only at this
      omega
  · rw [Bool.eq_false_iff]
    intro z
    have := (h.in_ _ ((no_mem ps k).mp z)).2
    simp only at this
    omega
theorem mem_openP {m k : Nat} {ps : List (Nat × Bool)} : k ∈ openL m (yesOf ps) (noOf ps) ↔ k < m ∧ 1 ≤ k ∧ k ∉ ps.map (·.1) := by
  rw [mem_open]
  constructor
  · rintro ⟨h1, h2, h3⟩
    refine ⟨h1, ?_, fun z => ?_⟩
    · by_cases e : k = 0
      · rw [e, yes_bit0] at h2
        cases h2
      · omega
    · obtain ⟨⟨j, b⟩, hp, e⟩ := List.mem_map.mp z
      cases (show j = k from e)
      cases b
      · rw [(no_mem ps k).mpr hp] at h3
        cases h3
      · rw [(yes_mem ps k).mpr (.inr hp)] at h2
        cases h2
  · rintro ⟨h1, h2, h3⟩
    refine ⟨h1, ?_, ?_⟩ <;> rw [Bool.eq_false_iff] <;> intro z
    · rcases (yes_mem ps k).mp z with y | y
      · omega
      · exact h3 (List.mem_map.mpr ⟨_, y, rfl⟩)
    · exact h3 (List.mem_map.mpr ⟨_, (no_mem ps k).mp z, rfl⟩)
theorem PickOk.snoc {m k : Nat} {b : Bool} {ps : List (Nat × Bool)} (h : PickOk m ps) (ho : k ∈ openL m (yesOf ps) (noOf ps)) : PickOk m (ps ++ [(k, b)]) := by
  obtain ⟨h1, h2, h3⟩ := mem_openP.mp ho
  refine ⟨fun p hp => ?_, ?_⟩
  · rcases List.mem_append.mp hp with z | z
    · exact h.in_ p z
    · rw [List.mem_singleton.mp z]
      exact ⟨h2, h1⟩
  · rw [List.map_append, List.nodup_append]
    refine ⟨h.nd, by simp, fun x hx y hy => ?_⟩
    rw [List.map_cons, List.map_nil] at hy
    rw [List.mem_singleton.mp hy]
    intro z
    rw [z] at hx
    exact h3 hx
theorem PickOk.wo {m k : Nat} {ps : List (Nat × Bool)} (h : PickOk m ps) : PickOk m (woP ps k) :=
  ⟨fun p hp => h.in_ p (List.mem_filter.mp hp).1, h.nd.sublist (List.Sublist.map _ List.filter_sublist)⟩
/-! ### what is offered, told option by option -/
noncomputable def offK (ts : List Tie) (m : Nat) (ps : List (Nat × Bool)) (p : Nat × Bool) : Bool := !decide (p.1 ∈ ps.map (·.1)) && leadP ts m (yesOf (ps ++ [p])) (noOf (ps ++ [p]))
noncomputable def offI (ts : List Tie) (m : Nat) (ps : List (Nat × Bool)) (i : Nat) : List (Nat × Bool) := (bothL ((List.range i).map (· + 1))).filter (offK ts m ps)
theorem filter_both (f : Nat → Bool) (g : Nat × Bool → Bool) : ∀ l : List Nat, (bothL (l.filter f)).filter g = (bothL l).filter fun p => f p.1 && g p
  | [] => rfl
  | k :: l => by
    show _ = List.filter _ ([(k, false), (k, true)] ++ bothL l)
    rw [List.filter_append, ← filter_both f g l]
    cases e : f k
    · rw [List.filter_cons_of_neg (by rw [e]; exact Bool.false_ne_true)]
      simp [e]
    · rw [List.filter_cons_of_pos e]
      show List.filter g ([(k, false), (k, true)] ++ bothL (l.filter f)) = _
      rw [List.filter_append]
      congr 1
      cases a : g (k, false) <;> cases b : g (k, true) <;> simp [e, a, b]
theorem offL_I {ts : List Tie} {m : Nat} {ps : List (Nat × Bool)} (m1 : 1 ≤ m) : offL ts m ps = offI ts m ps (m - 1) := by
  unfold offL offI
  have e : openL m (yesOf ps) (noOf ps) = ((List.range (m - 1)).map (· + 1)).filter fun k => !decide (k ∈ ps.map (·.1)) := by
    obtain ⟨m', rfl⟩ : ∃ m', m = m' + 1 := ⟨m - 1, by omega⟩
    have h : openL (m' + 1) (yesOf ps) (noOf ps) = (List.range (m' + 1)).filter fun k => decide (1 ≤ k) && !decide (k ∈ ps.map (·.1)) := by
      have : ∀ k ∈ List.range (m' + 1), (!(yesOf ps ||| noOf ps).testBit k) = (decide (1 ≤ k) && !decide (k ∈ ps.map (·.1))) := fun k hk => by
        have hk' := List.mem_range.mp hk
        rw [Bool.eq_iff_iff]
        have := mem_openP (m := m' + 1) (k := k) (ps := ps)
        rw [mem_open] at this
        rw [Bool.not_eq_true', Nat.testBit_or, Bool.or_eq_false_iff, Bool.and_eq_true, decide_eq_true_iff, Bool.not_eq_true', decide_eq_false_iff_not]
        exact ⟨fun z => (this.mp ⟨hk', z⟩).2, fun z => (this.mpr ⟨hk', z⟩).2⟩
      exact List.filter_congr this
    rw [h, List.range_succ_eq_map, List.filter_cons_of_neg (by rw [decide_eq_false (show ¬ 1 ≤ 0 by omega)]; exact Bool.false_ne_true), Nat.add_sub_cancel]
    refine List.filter_congr fun k hk => ?_
    obtain ⟨j, _, rfl⟩ := List.mem_map.mp hk
    simp
  rw [e, filter_both]
  rfl
theorem offI_succ (ts : List Tie) (m : Nat) (ps : List (Nat × Bool)) (i : Nat) : offI ts m ps (i + 1) = offI ts m ps i ++ [(i + 1, false), (i + 1, true)].filter (offK ts m ps) := by
  unfold offI
  rw [List.range_succ, List.map_append, show List.map (· + 1) [i] = [i + 1] from rfl, both_snoc, List.filter_append]
theorem offI_len (ts : List Tie) (m : Nat) (ps : List (Nat × Bool)) (i : Nat) : (offI ts m ps i).length ≤ 2 * i := by
  unfold offI
  refine Nat.le_trans (List.length_filter_le _ _) ?_
  rw [both_len, List.length_map, List.length_range]
  exact Nat.le_refl _
theorem sets_lead {ts : List Tie} {m : Nat} {ps : List (Nat × Bool)} : (setsL (brN m ts) (-1) (yesOf ps) (noOf ps) = []) ↔ leadP ts m (yesOf ps) (noOf ps) = false := by
  rw [Bool.eq_false_iff]
  constructor
  · intro h z
    obtain ⟨s, hs⟩ := leadP_iff.mp z
    have := (mem_sets (yes_bit0 ps)).mpr hs
    rw [h] at this
    cases this
  · intro h
    rw [List.eq_nil_iff_forall_not_mem]
    intro s hs
    exact h (leadP_iff.mpr ⟨s, (mem_sets (yes_bit0 ps)).mp hs⟩)
theorem sets_pw (B : List Nat) (ti : Int) (y n : Nat) : (setsL B ti y n).Pairwise (· < ·) := List.Pairwise.filter _ List.pairwise_lt_range
theorem first_sets {ts : List Tie} {m s : Nat} {ps : List (Nat × Bool)} (h : FirstO ts m (yesOf ps) (noOf ps) (some s)) : (setsL (brN m ts) (-1) (yesOf ps) (noOf ps))[0]? = some s := by
  obtain ⟨h1, h2, h3, h4⟩ := h
  have hm := (mem_sets (yes_bit0 ps)).mpr ⟨h1, h2, h3⟩
  cases e : setsL (brN m ts) (-1) (yesOf ps) (noOf ps) with
  | nil => rw [e] at hm; cases hm
  | cons x r =>
    have hx : x ∈ setsL (brN m ts) (-1) (yesOf ps) (noOf ps) := by rw [e]; exact List.mem_cons_self
    obtain ⟨x1, x2, x3⟩ := (mem_sets (yes_bit0 ps)).mp hx
    have le := h4 x x1 x2 x3
    have pw := sets_pw (brN m ts) (-1) (yesOf ps) (noOf ps)
    rw [e] at pw hm
    rcases List.mem_cons.mp hm with z | z
    · rw [z]; rfl
    · have := (List.pairwise_cons.mp pw).1 s z
      omega
def spOffersC : Sp := fun vs H Q _ => ∃ (lb pl : Addr) (m : Nat) (ts : List Tie) (ps : List (Nat × Bool)), vs = [.ref lb, .int (m : Int), .ref pl] ∧ H lb = some (.lst (natsL (brN m ts))) ∧ PicksAt H pl ps ∧ PickOk m ps ∧ 1 ≤ m ∧ m ≤ 9 ∧ ∀ (l : Addr) (xs : List V) (H' : Hp), Same H H' → H l = none → H' l = some (.lst xs) → PickL H' (offL ts m ps) xs → Q (.ref l) H'
/-- what a choice tells is right -/
def spRightC (C : Addr) : Sp := fun vs H Q _ => ∃ (c dx wd pl lb lc : Addr) (m : Nat) (ts : List Tie) (ps : List (Nat × Bool)), vs = [.ref c, .ref lb, .int (m : Int), .ref lc] ∧ H c = some (.ins C dx (chF wd pl)) ∧ PicksAt H pl ps ∧ PicksAt H lc ps ∧ PickOk m ps ∧ WoodT H wd m ts ∧ H lb = some (.lst (natsL (brN m ts))) ∧ 1 ≤ m ∧ m ≤ 9 ∧ (∃ s, s < 2 ^ m ∧ InS (yesOf ps) (noOf ps) s ∧ wareB ts s = true) ∧ ∀ H', Same H H' → Q (.bl true) H'
/-! ### what a lambda closes over -/
structure Clo (base : Heap) (scope : Scope) (cl : List (Str × Addr)) (fr : List Str) (fv : List V) : Prop where
  hcl : ∀ x cc, cl.lookup x = some cc → ∃ v, base.IsCell cc v
  inj : ∀ x y cc, cl.lookup x = some cc → cl.lookup y = some cc → x = y
  has : ∀ y ∈ scope.names, y.2 = .free → ∃ cc, cl.lookup y.1 = some cc
  hfv : ∀ (i : Nat) (x : Str) (v : V), fr[i]? = some x → fv[i]? = some v → ∃ cc u, cl.lookup x = some cc ∧ RelV v u ∧ base.IsCell cc (some u)
  hlen : fv.length = fr.length
theorem clOf_free {sc : Scope} {env : Env} {p : Str × Addr} (h : p ∈ clOf sc env) : (p.1, NameKind.free) ∈ sc.names := by
  have main : ∀ (l : List (Str × NameKind)) (cs : List (Str × Addr)), p ∈ l.foldl (fun cs y => if (y.2 == NameKind.free) = true then (y.1, (env.cells.lookup y.1).getD 0) :: cs else cs) cs → p ∈ cs ∨ (p.1, NameKind.free) ∈ l := by
    intro l
    induction l with
    | nil => intro cs h; exact .inl h
    | cons y l ih =>
      intro cs h
      rw [List.foldl_cons] at h
      rcases ih _ h with z | z
      · split at z
        · rename_i hy
          rcases List.mem_cons.mp z with e | e
          · right
            rw [e]
            have : y.2 = NameKind.free := beq_iff_eq.mp hy
            rw [← this]
            exact List.mem_cons_self
          · exact .inl e
        · exact .inl z
      · exact .inr (List.mem_cons_of_mem _ z)
  rcases main sc.names [] h with z | z
  · cases z
  · exact z
theorem clo_of {base : Heap} {scope : Scope} {env : Env} {fr : List Str} {fv : List V} (LF : ∀ y ∈ scope.names, y.2 = .free → ∃ c, env.cells.lookup y.1 = some c) (hfr : ∀ y ∈ scope.names, y.2 = NameKind.free → y.1 ∈ fr) (hfr' : ∀ x ∈ fr, (x, NameKind.free) ∈ scope.names)
    (cells : ∀ (i : Nat) (x : Str) (v : V), fr[i]? = some x → fv[i]? = some v → ∃ c u, env.cells.lookup x = some c ∧ RelV v u ∧ base.IsCell c (some u)) (injE : ∀ x y c, env.cells.lookup x = some c → env.cells.lookup y = some c → x = y) (hlen : fv.length = fr.length) : Clo base scope (clOf scope env) fr fv := by
  refine ⟨fun x cc h => ?_, fun x y cc h1 h2 => injE x y cc (clOf_look LF h1) (clOf_look LF h2), fun y hy hz => ?_, fun i x v h1 h2 => ?_, hlen⟩
  · have hx := hfr _ (clOf_free (PySem.mem_of_lookup h)) rfl
    obtain ⟨i, hi, e⟩ := List.getElem_of_mem hx
    obtain ⟨c, u, h1, h2, h3⟩ := cells i x fv[i] (by rw [List.getElem?_eq_getElem hi, e]) (List.getElem?_eq_getElem (by omega))
    have := clOf_look LF h
    rw [h1] at this
    cases this
    exact ⟨_, h3⟩
  · obtain ⟨c, hc⟩ := LF y hy hz
    exact ⟨c, clOf_at LF (by rw [← hz]; exact hy) hc⟩
  · obtain ⟨c, u, e1, e2, e3⟩ := cells i x v h1 h2
    exact ⟨c, u, clOf_at LF (hfr' x (List.mem_of_getElem? h1)) e1, e2, e3⟩
def lstE (i : Nat) : Expr → Expr
  | .List es _ => es.getD i (.Constant .none 0 ⟨0, 0, 0, 0⟩)
  | e => e
theorem cells3 {x1 x2 x3 x y : Str} {n c : Nat} (h1 : [(x3, n + 3), (x2, n + 2), (x1, n + 1)].lookup x = some c) (h2 : [(x3, n + 3), (x2, n + 2), (x1, n + 1)].lookup y = some c) : x = y := by
  rcases lookup3 h1 with ⟨rfl, z1⟩ | ⟨rfl, z1⟩ | ⟨rfl, z1⟩ <;> rcases lookup3 h2 with ⟨rfl, z2⟩ | ⟨rfl, z2⟩ | ⟨rfl, z2⟩ <;> first | rfl | exact absurd (Nat.add_left_cancel (z1.symm.trans z2)) (by decide)
/-! ### deeds that are refused -/
def spChooseX (C D : Addr) : Sp := fun vs H _ E => ∃ (c dx wd pl : Addr) (m : Nat) (ts : List Tie) (ps : List (Nat × Bool)) (k : Int) (b : Bool), vs = [.ref c, .int k, .bl b] ∧ H c = some (.ins C dx (chF wd pl)) ∧ PicksAt H pl ps ∧ WoodT H wd m ts ∧ m ≤ 9 ∧ 1 ≤ m ∧ PickOk m ps ∧
  (∀ kn : Nat, k = kn → kn ∈ openL m (yesOf ps) (noOf ps) → leadP ts m (yesOf (ps ++ [(kn, b)])) (noOf (ps ++ [(kn, b)])) = false) ∧ ∀ H', Same H H' → E (.ref D) none H'
def spBackX (C D : Addr) : Sp := fun vs H _ E => ∃ (c dx wd pl : Addr) (ps : List (Nat × Bool)) (k : Int), vs = [.ref c, .int k] ∧ H c = some (.ins C dx (chF wd pl)) ∧ PicksAt H pl ps ∧ (∀ kn : Nat, k = kn → kn ∉ ps.map (·.1)) ∧ ∀ H', Same H H' → E (.ref D) none H'
theorem inV_k (k : Int) (op : List Nat) : inV (.int k) (natsL op) = true ↔ ∃ kn : Nat, k = kn ∧ kn ∈ op := by
  constructor
  · intro h
    by_cases z : 0 ≤ k
    · obtain ⟨kn, rfl⟩ : ∃ kn : Nat, k = (kn : Int) := ⟨k.toNat, by omega⟩
      rw [inV_nats, decide_eq_true_iff] at h
      exact ⟨kn, rfl, h⟩
    · unfold inV at h
      rw [List.any_eq_true] at h
      obtain ⟨x, hx, e⟩ := h
      obtain ⟨j, _, rfl⟩ := List.mem_map.mp hx
      have e' : ((j : Int) == k) = true := e
      rw [beq_iff_eq] at e'
      omega
  · rintro ⟨kn, rfl, h⟩
    rw [inV_nats, decide_eq_true h]
/-! ### picks, where only a pen or a choice is written -/
theorem picks_pen {H : Hp} {p pen sp : Addr} {k : Int} {ps : List (Nat × Bool)} (h : PicksAt H p ps) (hp : H pen = some (.lst [.ref sp, .int k])) : p ≠ pen := fun z => by
  obtain ⟨xs, h1, h2⟩ := h.ex
  rw [z, hp] at h1
  cases h1
  cases ps with
  | nil => cases h2
  | cons q ps =>
    obtain ⟨t, r, e, _, h3⟩ := h2
    cases e
    cases ps with
    | nil => cases h3
    | cons q' ps =>
      obtain ⟨t, r, e, _⟩ := h3
      cases e
theorem PicksAt.x {H H' : Hp} {p pen : Addr} {ys : List V} {ps : List (Nat × Bool)} (h : PicksAt H p ps) (hp : H pen = some (.lst ys)) (n : p ≠ pen) (s : SameX pen H H') : PicksAt H' p ps := by
  obtain ⟨xs, h1, h2⟩ := h.ex
  exact ⟨⟨xs, s _ _ n h1, h2.same (SameX.tup hp s)⟩, h.few, h.le⟩
theorem PicksAt.ch {H H' : Hp} {p c : Addr} {ps : List (Nat × Bool)} (h : PicksAt H p ps) (n : p ≠ c) (t : TupS H H') (s : ChS c H H') : PicksAt H' p ps := by
  obtain ⟨xs, h1, h2⟩ := h.ex
  exact ⟨⟨xs, s.lst n h1, h2.same t⟩, h.few, h.le⟩
theorem picks_ins {H : Hp} {p c C dx : Addr} {fs : List (Str × V)} {ps : List (Nat × Bool)} (h : PicksAt H p ps) (hc : H c = some (.ins C dx fs)) : p ≠ c := fun z => by
  obtain ⟨xs, h1, _⟩ := h.ex
  rw [z, hc] at h1
  cases h1
/-- picks but those of an option, told by any number -/
def woI (ps : List (Nat × Bool)) (k : Int) : List (Nat × Bool) := ps.filter fun p => !decide ((p.1 : Int) = k)
theorem woI_nat (ps : List (Nat × Bool)) (k : Nat) : woI ps (k : Int) = woP ps k := by
  unfold woI woP
  refine List.filter_congr fun p _ => ?_
  congr 1
  rw [Bool.eq_iff_iff, decide_eq_true_iff, decide_eq_true_iff]
  omega
theorem woI_none {ps : List (Nat × Bool)} {k : Int} (h : ∀ kn : Nat, k = kn → kn ∉ ps.map (·.1)) : woI ps k = ps := by
  unfold woI
  refine List.filter_eq_self.mpr fun p hp => ?_
  rw [Bool.not_eq_true', decide_eq_false_iff_not]
  intro z
  exact h p.1 z.symm (List.mem_map.mpr ⟨p, hp, rfl⟩)
theorem woP_less {ps : List (Nat × Bool)} {k : Nat} (h : k ∈ ps.map (·.1)) : (woP ps k).length < ps.length := by
  obtain ⟨p, hp, rfl⟩ := List.mem_map.mp h
  unfold woP
  refine List.length_filter_lt_length_iff_exists.mpr ⟨p, hp, by simp⟩
theorem any_pickI (k : Int) (b : Bool) (l : List (Nat × Bool)) : ((l.map pickD).any fun e => PyData.eqv e (.tuple [.int k, .bool b])) = true ↔ ∃ kn : Nat, k = kn ∧ (kn, b) ∈ l := by
  by_cases z : 0 ≤ k
  · obtain ⟨kn, rfl⟩ : ∃ kn : Nat, k = (kn : Int) := ⟨k.toNat, by omega⟩
    rw [show PyData.tuple [.int (kn : Int), .bool b] = pickD (kn, b) from rfl, any_pick, decide_eq_true_iff]
    exact ⟨fun h => ⟨kn, rfl, h⟩, fun ⟨j, e, h⟩ => by
      cases Int.ofNat.inj e
      exact h⟩
  · constructor
    · intro h
      rw [List.any_map, List.any_eq_true] at h
      obtain ⟨x, hx, e⟩ := h
      obtain ⟨j, d⟩ := x
      rw [Function.comp_apply] at e
      cases b <;> cases d <;> simp [pickD, PyData.eqv, PyData.eqvAll] at e <;> omega
    · rintro ⟨kn, e, _⟩
      omega
theorem mem_offL {ts : List Tie} {m : Nat} {ps : List (Nat × Bool)} {k : Nat} {b : Bool} : (k, b) ∈ offL ts m ps ↔ k ∈ openL m (yesOf ps) (noOf ps) ∧ leadP ts m (yesOf (ps ++ [(k, b)])) (noOf (ps ++ [(k, b)])) = true := by
  unfold offL
  rw [List.mem_filter]
  constructor
  · rintro ⟨h1, h2⟩
    exact ⟨mem_both h1, h2⟩
  · rintro ⟨h1, h2⟩
    refine ⟨?_, h2⟩
    unfold bothL
    refine List.mem_flatMap.mpr ⟨k, h1, ?_⟩
    cases b <;> simp
/-- a deed of a choice, drawn -/
def spDoneC (K : PySem.W.Frag) (C : Addr) (t : Addr) : Sp := fun vs H Q _ => ∃ (pen sp : Addr) (ns : List Int) (k : Int) (c dx wd pl lb lc : Addr) (m : Nat) (ts : List Tie) (ps : List (Nat × Bool)), vs = [.ref pen, .ref c, .ref lb, .int (m : Int), .ref lc] ∧ TabOk H t ∧ Pen K H pen sp ns k ∧ 0 ≤ k ∧ k ≤ 900000 ∧
  H c = some (.ins C dx (chF wd pl)) ∧ PicksAt H pl ps ∧ PicksAt H lc ps ∧ lc ≠ pl ∧ lb ≠ pl ∧ PickOk m ps ∧ (∀ H', TupS H H' → WoodT H' wd m ts) ∧ H lb = some (.lst (natsL (brN m ts))) ∧ lb ≠ pen ∧ 1 ≤ m ∧ m ≤ 9 ∧ (∃ s, s < 2 ^ m ∧ InS (yesOf ps) (noOf ps) s ∧ wareB ts s = true) ∧
  ∀ (l lc' pl' : Addr) (ps' : List (Nat × Bool)) (k' : Int) (H' : Hp), KeepA [pen, c, pl] H H' → TupS H H' → H' pen = some (.lst [.ref sp, .int k']) → k ≤ k' → k' ≤ k + 10 → H' l = some (.lst [.ref lc', .bl true]) → H' c = some (.ins C dx (chF wd pl')) → PicksAt H' pl' ps' → PicksAt H' lc' ps' → lc' ≠ pl' → (pl' = pl ∨ H pl' = none) → PickOk m ps' → (∃ s, s < 2 ^ m ∧ InS (yesOf ps') (noOf ps') s ∧ wareB ts s = true) → Q (.ref l) H'
theorem inS_wo {ps : List (Nat × Bool)} {k s : Nat} (h : InS (yesOf ps) (noOf ps) s) : InS (yesOf (woP ps k)) (noOf (woP ps k)) s := by
  refine ⟨fun j hj => h.1 j ?_, fun j hj => h.2 j ?_⟩
  · rcases (yes_mem _ j).mp hj with z | z
    · exact (yes_mem _ j).mpr (.inl z)
    · exact (yes_mem _ j).mpr (.inr (List.mem_filter.mp z).1)
  · exact (no_mem _ j).mpr (List.mem_filter.mp ((no_mem _ j).mp hj)).1
theorem shaped_pickI (k : Int) (b : Bool) : SeqAt.shaped (.tuple [.int k, .bool b]) = true := by
  unfold SeqAt.shaped
  rw [Bool.and_eq_true]
  exact ⟨by simp [PyData.canLay0, PyData.canLayAll0], decide_eq_true (by simp only [PyData.depth, PyData.depthAll]; omega)⟩
theorem KeepA.comp {ex ex' : List Addr} {H H1 H2 : Hp} (k : KeepA ex H H1) (k' : KeepA ex' H1 H2) (h : ∀ c ∈ ex', c ∈ ex ∨ H c = none) : KeepA ex H H2 := ⟨fun b o n t e => k'.keep b o (fun z => by
  rcases h b z with y | y
  · exact n y
  · rw [y] at e; cases e) t (k.keep b o n t e), fun P t => k'.tab P (k.tab P t), fun b e => k.dom b (k'.dom b e)⟩
theorem PicksAt.keep {ex : List Addr} {H H' : Hp} {p : Addr} {ps : List (Nat × Bool)} (h : PicksAt H p ps) (n : p ∉ ex) (t : TupS H H') (s : KeepA ex H H') : PicksAt H' p ps := by
  obtain ⟨xs, h1, h2⟩ := h.ex
  exact ⟨⟨xs, s.lst n h1, h2.same t⟩, h.few, h.le⟩
theorem not_mem3 {a b c d : Addr} (h1 : d ≠ a) (h2 : d ≠ b) (h3 : d ≠ c) : d ∉ [a, b, c] := fun z => by
  simp only [List.mem_cons, List.not_mem_nil, or_false] at z
  rcases z with z | z | z
  · exact h1 z
  · exact h2 z
  · exact h3 z
theorem mem3 {a b c : Addr} {P : Addr → Prop} (h1 : P a) (h2 : P b) (h3 : P c) : ∀ d ∈ [a, b, c], P d := fun d z => by
  simp only [List.mem_cons, List.not_mem_nil, or_false] at z
  rcases z with rfl | rfl | rfl <;> assumption
end Wd

set_option maxRecDepth 100000
set_option maxHeartbeats 4000000
namespace Ow
open PySem L2 Wd
def top (i : Nat) : Stmt := PySem.Challenge.pw_optionwood_k41_deeds_of_a_choice.main.body.getD i (.Pass ⟨0, 0, 0, 0⟩)
abbrev s_has : Stmt := top 2
abbrev s_with_option : Stmt := top 3
abbrev s_open_options : Stmt := top 4
abbrev s_many_ties : Stmt := top 16
abbrev s_tie_at : Stmt := top 17
abbrev s_count_in : Stmt := top 19
abbrev s_every_tie : Stmt := top 20
abbrev s_sure_broken : Stmt := top 21
abbrev s_least_sum : Stmt := top 22
abbrev s_sure_broken_bough : Stmt := top 23
abbrev s_first_sure_broken : Stmt := top 24
abbrev s_first_ware : Stmt := top 26
abbrev s_first_keeping : Stmt := top 27
abbrev s_stand_of : Stmt := top 30
abbrev s_open_at : Stmt := top 31
abbrev s_first_ware_at : Stmt := top 32
abbrev s_leads_on : Stmt := top 33
abbrev s_law_take : Stmt := top 35
abbrev s_law_boughs : Stmt := top 36
abbrev s_law_cross : Stmt := top 37
abbrev s_law_wood : Stmt := top 38
abbrev s_law_keeps : Stmt := top 39
abbrev s_law_broken : Stmt := top 40
abbrev s_law_heard : Stmt := top 41
abbrev s_law_stand : Stmt := top 42
abbrev s_law_sets : Stmt := top 43
abbrev s_law_offers : Stmt := top 44
abbrev s_law_right : Stmt := top 45
abbrev s_law_done : Stmt := top 46
abbrev s_law : Stmt := top 47
abbrev s_Choice___init__ : Stmt := (clsBody (top 29)).getD 0 (.Pass ⟨0, 0, 0, 0⟩)
abbrev s_Choice_stand : Stmt := (clsBody (top 29)).getD 1 (.Pass ⟨0, 0, 0, 0⟩)
abbrev s_Choice_chosen : Stmt := (clsBody (top 29)).getD 2 (.Pass ⟨0, 0, 0, 0⟩)
abbrev s_Choice_offers : Stmt := (clsBody (top 29)).getD 3 (.Pass ⟨0, 0, 0, 0⟩)
abbrev s_Choice_choose : Stmt := (clsBody (top 29)).getD 4 (.Pass ⟨0, 0, 0, 0⟩)
abbrev s_Choice_take_back : Stmt := (clsBody (top 29)).getD 5 (.Pass ⟨0, 0, 0, 0⟩)
abbrev s_Choice_ware : Stmt := (clsBody (top 29)).getD 6 (.Pass ⟨0, 0, 0, 0⟩)
set_option genInjectivity false
set_option genSizeOfSpec false
set_option genSizeOf false
structure Adr where
  f_has : Addr
  f_with_option : Addr
  f_open_options : Addr
  f_many_ties : Addr
  f_tie_at : Addr
  f_count_in : Addr
  f_every_tie : Addr
  f_sure_broken : Addr
  f_least_sum : Addr
  f_sure_broken_bough : Addr
  f_first_sure_broken : Addr
  f_first_ware : Addr
  f_first_keeping : Addr
  f_stand_of : Addr
  f_open_at : Addr
  f_first_ware_at : Addr
  f_leads_on : Addr
  f_law_take : Addr
  f_law_boughs : Addr
  f_law_cross : Addr
  f_law_wood : Addr
  f_law_keeps : Addr
  f_law_broken : Addr
  f_law_heard : Addr
  f_law_stand : Addr
  f_law_sets : Addr
  f_law_offers : Addr
  f_law_right : Addr
  f_law_done : Addr
  f_law : Addr
  f_Choice___init__ : Addr
  f_Choice_stand : Addr
  f_Choice_chosen : Addr
  f_Choice_offers : Addr
  f_Choice_choose : Addr
  f_Choice_take_back : Addr
  f_Choice_ware : Addr
  c_law_done : Addr
  t_law_done : Addr
  x_WoodError : Addr
  x_NoWood : Addr
  x_NoCount : Addr
  x_NoWares : Addr
  x_NoOffer : Addr
  x_Unlike : Addr
  x_NoText : Addr
  x_NoRow : Addr
  x_NoName : Addr
  x_Choice : Addr
structure Fds where
  f_has : FuncData
  f_with_option : FuncData
  f_open_options : FuncData
  f_many_ties : FuncData
  f_tie_at : FuncData
  f_count_in : FuncData
  f_every_tie : FuncData
  f_sure_broken : FuncData
  f_least_sum : FuncData
  f_sure_broken_bough : FuncData
  f_first_sure_broken : FuncData
  f_first_ware : FuncData
  f_first_keeping : FuncData
  f_stand_of : FuncData
  f_open_at : FuncData
  f_first_ware_at : FuncData
  f_leads_on : FuncData
  f_law_take : FuncData
  f_law_boughs : FuncData
  f_law_cross : FuncData
  f_law_wood : FuncData
  f_law_keeps : FuncData
  f_law_broken : FuncData
  f_law_heard : FuncData
  f_law_stand : FuncData
  f_law_sets : FuncData
  f_law_offers : FuncData
  f_law_right : FuncData
  f_law_done : FuncData
  f_law : FuncData
  f_Choice___init__ : FuncData
  f_Choice_stand : FuncData
  f_Choice_chosen : FuncData
  f_Choice_offers : FuncData
  f_Choice_choose : FuncData
  f_Choice_take_back : FuncData
  f_Choice_ware : FuncData
structure Txt (K : PySem.W.Frag) (mg : Str → Option Value) (a : Adr) (d : Fds) : Prop where
  m_ValueError : mg "ValueError" = none
  m_range : mg "range" = none
  m_len : mg "len" = none
  m_isinstance : mg "isinstance" = none
  m_max : mg "max" = none
  m_int : mg "int" = none
  m_bool : mg "bool" = none
  m_list : mg "list" = none
  m_tuple : mg "tuple" = none
  m_enumerate : mg "enumerate" = none
  m_sum : mg "sum" = none
  g_has : mg "has" = some (.ref a.f_has)
  K_has : Fun K "has" "has" s_has a.f_has d.f_has
  B_has : Binds K d.f_has ["some", "k"] []
  g_with_option : mg "with_option" = some (.ref a.f_with_option)
  K_with_option : Fun K "with_option" "with_option" s_with_option a.f_with_option d.f_with_option
  B_with_option : Binds K d.f_with_option ["some", "k"] []
  g_open_options : mg "open_options" = some (.ref a.f_open_options)
  K_open_options : Fun K "open_options" "open_options" s_open_options a.f_open_options d.f_open_options
  B_open_options : Binds K d.f_open_options ["many", "yes", "no"] []
  g_many_ties : mg "many_ties" = some (.ref a.f_many_ties)
  K_many_ties : Fun K "many_ties" "many_ties" s_many_ties a.f_many_ties d.f_many_ties
  B_many_ties : Binds K d.f_many_ties ["wood"] []
  g_tie_at : mg "tie_at" = some (.ref a.f_tie_at)
  K_tie_at : Fun K "tie_at" "tie_at" s_tie_at a.f_tie_at d.f_tie_at
  B_tie_at : Binds K d.f_tie_at ["wood", "t"] []
  g_count_in : mg "count_in" = some (.ref a.f_count_in)
  K_count_in : Fun K "count_in" "count_in" s_count_in a.f_count_in d.f_count_in
  B_count_in : Binds K d.f_count_in ["kids", "some"] []
  g_every_tie : mg "every_tie" = some (.ref a.f_every_tie)
  K_every_tie : Fun K "every_tie" "every_tie" s_every_tie a.f_every_tie d.f_every_tie
  B_every_tie : Binds K d.f_every_tie ["wood"] []
  g_sure_broken : mg "sure_broken" = some (.ref a.f_sure_broken)
  K_sure_broken : Fun K "sure_broken" "sure_broken" s_sure_broken a.f_sure_broken d.f_sure_broken
  B_sure_broken : Binds K d.f_sure_broken ["tie", "yes", "no"] []
  g_least_sum : mg "least_sum" = some (.ref a.f_least_sum)
  K_least_sum : Fun K "least_sum" "least_sum" s_least_sum a.f_least_sum d.f_least_sum
  B_least_sum : Binds K d.f_least_sum ["pairs", "yes", "no"] []
  g_sure_broken_bough : mg "sure_broken_bough" = some (.ref a.f_sure_broken_bough)
  K_sure_broken_bough : Fun K "sure_broken_bough" "sure_broken_bough" s_sure_broken_bough a.f_sure_broken_bough d.f_sure_broken_bough
  B_sure_broken_bough : Binds K d.f_sure_broken_bough ["bough", "yes", "no"] []
  g_first_sure_broken : mg "first_sure_broken" = some (.ref a.f_first_sure_broken)
  K_first_sure_broken : Fun K "first_sure_broken" "first_sure_broken" s_first_sure_broken a.f_first_sure_broken d.f_first_sure_broken
  B_first_sure_broken : Binds K d.f_first_sure_broken ["wood", "ties", "yes", "no"] []
  g_first_ware : mg "first_ware" = some (.ref a.f_first_ware)
  K_first_ware : Fun K "first_ware" "first_ware" s_first_ware a.f_first_ware d.f_first_ware
  B_first_ware : Binds K d.f_first_ware ["wood", "yes", "no"] []
  g_first_keeping : mg "first_keeping" = some (.ref a.f_first_keeping)
  K_first_keeping : Fun K "first_keeping" "first_keeping" s_first_keeping a.f_first_keeping d.f_first_keeping
  B_first_keeping : Binds K d.f_first_keeping ["wood", "ties", "yes", "no"] []
  g_stand_of : mg "stand_of" = some (.ref a.f_stand_of)
  K_stand_of : Fun K "stand_of" "stand_of" s_stand_of a.f_stand_of d.f_stand_of
  B_stand_of : Binds K d.f_stand_of ["picks"] []
  g_open_at : mg "open_at" = some (.ref a.f_open_at)
  K_open_at : Fun K "open_at" "open_at" s_open_at a.f_open_at d.f_open_at
  B_open_at : Binds K d.f_open_at ["wood", "picks"] []
  g_first_ware_at : mg "first_ware_at" = some (.ref a.f_first_ware_at)
  K_first_ware_at : Fun K "first_ware_at" "first_ware_at" s_first_ware_at a.f_first_ware_at d.f_first_ware_at
  B_first_ware_at : Binds K d.f_first_ware_at ["wood", "picks"] []
  g_leads_on : mg "leads_on" = some (.ref a.f_leads_on)
  K_leads_on : Fun K "leads_on" "leads_on" s_leads_on a.f_leads_on d.f_leads_on
  B_leads_on : Binds K d.f_leads_on ["wood", "picks", "pick"] []
  g_law_take : mg "_law_take" = some (.ref a.f_law_take)
  K_law_take : Fun K "_law_take" "_law_take" s_law_take a.f_law_take d.f_law_take
  B_law_take : Binds K d.f_law_take ["_law_state", "_law_most"] []
  g_law_boughs : mg "_law_boughs" = some (.ref a.f_law_boughs)
  K_law_boughs : Fun K "_law_boughs" "_law_boughs" s_law_boughs a.f_law_boughs d.f_law_boughs
  B_law_boughs : Binds K d.f_law_boughs ["_law_state", "_law_many"] []
  g_law_cross : mg "_law_cross" = some (.ref a.f_law_cross)
  K_law_cross : Fun K "_law_cross" "_law_cross" s_law_cross a.f_law_cross d.f_law_cross
  B_law_cross : Binds K d.f_law_cross ["_law_state", "_law_many", "_law_most"] []
  g_law_wood : mg "_law_wood" = some (.ref a.f_law_wood)
  K_law_wood : Fun K "_law_wood" "_law_wood" s_law_wood a.f_law_wood d.f_law_wood
  B_law_wood : Binds K d.f_law_wood ["_law_state", "_law_most"] []
  g_law_keeps : mg "_law_keeps" = some (.ref a.f_law_keeps)
  K_law_keeps : Fun K "_law_keeps" "_law_keeps" s_law_keeps a.f_law_keeps d.f_law_keeps
  B_law_keeps : Binds K d.f_law_keeps ["_law_tie", "_law_some"] []
  g_law_broken : mg "_law_broken" = some (.ref a.f_law_broken)
  K_law_broken : Fun K "_law_broken" "_law_broken" s_law_broken a.f_law_broken d.f_law_broken
  B_law_broken : Binds K d.f_law_broken ["_law_wood_here"] []
  g_law_heard : mg "_law_heard" = some (.ref a.f_law_heard)
  K_law_heard : Fun K "_law_heard" "_law_heard" s_law_heard a.f_law_heard d.f_law_heard
  B_law_heard : Binds K d.f_law_heard ["_law_ask"] []
  g_law_stand : mg "_law_stand" = some (.ref a.f_law_stand)
  K_law_stand : Fun K "_law_stand" "_law_stand" s_law_stand a.f_law_stand d.f_law_stand
  B_law_stand : Binds K d.f_law_stand ["_law_chosen"] []
  g_law_sets : mg "_law_sets" = some (.ref a.f_law_sets)
  K_law_sets : Fun K "_law_sets" "_law_sets" s_law_sets a.f_law_sets d.f_law_sets
  B_law_sets : Binds K d.f_law_sets ["_law_broken_here", "_law_ties", "_law_chosen"] []
  g_law_offers : mg "_law_offers" = some (.ref a.f_law_offers)
  K_law_offers : Fun K "_law_offers" "_law_offers" s_law_offers a.f_law_offers d.f_law_offers
  B_law_offers : Binds K d.f_law_offers ["_law_broken_here", "_law_many", "_law_chosen"] []
  g_law_right : mg "_law_right" = some (.ref a.f_law_right)
  K_law_right : Fun K "_law_right" "_law_right" s_law_right a.f_law_right d.f_law_right
  B_law_right : Binds K d.f_law_right ["_law_choice", "_law_broken_here", "_law_many", "_law_chosen"] []
  g_law_done : mg "_law_done" = some (.ref a.f_law_done)
  K_law_done : Fun K "_law_done" "_law_done" s_law_done a.f_law_done d.f_law_done
  B_law_done : Binds K d.f_law_done ["_law_state", "_law_choice", "_law_broken_here", "_law_many", "_law_chosen"] []
  g_law : mg "law" = some (.ref a.f_law)
  K_law : Fun K "law" "law" s_law a.f_law d.f_law
  B_law : Binds K d.f_law ["_law_script"] []
  g_Choice___init__ : Mk K a.x_Choice a.f_Choice___init__
  K_Choice___init__ : Fun K "__init__" "Choice.__init__" s_Choice___init__ a.f_Choice___init__ d.f_Choice___init__
  B_Choice___init__ : Binds K d.f_Choice___init__ ["self", "wood"] []
  g_Choice_stand : Meth K a.x_Choice "stand" a.f_Choice_stand
  K_Choice_stand : Fun K "stand" "Choice.stand" s_Choice_stand a.f_Choice_stand d.f_Choice_stand
  B_Choice_stand : Binds K d.f_Choice_stand ["self"] []
  g_Choice_chosen : Meth K a.x_Choice "chosen" a.f_Choice_chosen
  K_Choice_chosen : Fun K "chosen" "Choice.chosen" s_Choice_chosen a.f_Choice_chosen d.f_Choice_chosen
  B_Choice_chosen : Binds K d.f_Choice_chosen ["self"] []
  g_Choice_offers : Meth K a.x_Choice "offers" a.f_Choice_offers
  K_Choice_offers : Fun K "offers" "Choice.offers" s_Choice_offers a.f_Choice_offers d.f_Choice_offers
  B_Choice_offers : Binds K d.f_Choice_offers ["self"] []
  g_Choice_choose : Meth K a.x_Choice "choose" a.f_Choice_choose
  K_Choice_choose : Fun K "choose" "Choice.choose" s_Choice_choose a.f_Choice_choose d.f_Choice_choose
  B_Choice_choose : Binds K d.f_Choice_choose ["self", "k", "value"] []
  g_Choice_take_back : Meth K a.x_Choice "take_back" a.f_Choice_take_back
  K_Choice_take_back : Fun K "take_back" "Choice.take_back" s_Choice_take_back a.f_Choice_take_back d.f_Choice_take_back
  B_Choice_take_back : Binds K d.f_Choice_take_back ["self", "k"] []
  g_Choice_ware : Meth K a.x_Choice "ware" a.f_Choice_ware
  K_Choice_ware : Fun K "ware" "Choice.ware" s_Choice_ware a.f_Choice_ware d.f_Choice_ware
  B_Choice_ware : Binds K d.f_Choice_ware ["self"] []
  code_law_done : d.f_law_done.code = .ref a.c_law_done
  g_Choice : mg "Choice" = some (.ref a.x_Choice)
  C_Choice : Cls K a.x_Choice
  n_Choice_picks : NoAttr K a.x_Choice "picks"
  n_Choice_wood : NoAttr K a.x_Choice "wood"
  g_WoodError : mg "WoodError" = some (.ref a.x_WoodError)
  g_NoWood : mg "NoWood" = some (.ref a.x_NoWood)
  g_NoCount : mg "NoCount" = some (.ref a.x_NoCount)
  g_NoWares : mg "NoWares" = some (.ref a.x_NoWares)
  g_NoOffer : mg "NoOffer" = some (.ref a.x_NoOffer)
  g_Unlike : mg "Unlike" = some (.ref a.x_Unlike)
  g_NoText : mg "NoText" = some (.ref a.x_NoText)
  g_NoRow : mg "NoRow" = some (.ref a.x_NoRow)
  g_NoName : mg "NoName" = some (.ref a.x_NoName)
  x_WoodError : XGet K a.x_WoodError
  x_NoWood : XGet K a.x_NoWood
  x_NoCount : XGet K a.x_NoCount
  x_NoWares : XGet K a.x_NoWares
  x_NoOffer : XGet K a.x_NoOffer
  x_Unlike : XGet K a.x_Unlike
  x_NoText : XGet K a.x_NoText
  x_NoRow : XGet K a.x_NoRow
  x_NoName : XGet K a.x_NoName
  k_NoWares_WoodError : PySem.W.kitOne K (.ref a.x_NoWares) (.ref a.x_WoodError) = some true
  k_NoWares_NoWood : PySem.W.kitOne K (.ref a.x_NoWares) (.ref a.x_NoWood) = some false
  k_NoWares_NoCount : PySem.W.kitOne K (.ref a.x_NoWares) (.ref a.x_NoCount) = some false
  k_NoWares_NoWares : PySem.W.kitOne K (.ref a.x_NoWares) (.ref a.x_NoWares) = some true
  k_NoWares_NoOffer : PySem.W.kitOne K (.ref a.x_NoWares) (.ref a.x_NoOffer) = some false
  k_NoWares_Unlike : PySem.W.kitOne K (.ref a.x_NoWares) (.ref a.x_Unlike) = some false
  k_NoWares_NoText : PySem.W.kitOne K (.ref a.x_NoWares) (.ref a.x_NoText) = some false
  k_NoWares_NoRow : PySem.W.kitOne K (.ref a.x_NoWares) (.ref a.x_NoRow) = some false
  k_NoWares_NoName : PySem.W.kitOne K (.ref a.x_NoWares) (.ref a.x_NoName) = some false
  v_NoWares : PySem.W.kitOne K (.ref a.x_NoWares) (.type "ValueError") = some true
  s_NoWares_WoodError : xsub K a.x_NoWares a.x_WoodError = true
  k_NoOffer_WoodError : PySem.W.kitOne K (.ref a.x_NoOffer) (.ref a.x_WoodError) = some true
  k_NoOffer_NoWood : PySem.W.kitOne K (.ref a.x_NoOffer) (.ref a.x_NoWood) = some false
  k_NoOffer_NoCount : PySem.W.kitOne K (.ref a.x_NoOffer) (.ref a.x_NoCount) = some false
  k_NoOffer_NoWares : PySem.W.kitOne K (.ref a.x_NoOffer) (.ref a.x_NoWares) = some false
  k_NoOffer_NoOffer : PySem.W.kitOne K (.ref a.x_NoOffer) (.ref a.x_NoOffer) = some true
  k_NoOffer_Unlike : PySem.W.kitOne K (.ref a.x_NoOffer) (.ref a.x_Unlike) = some false
  k_NoOffer_NoText : PySem.W.kitOne K (.ref a.x_NoOffer) (.ref a.x_NoText) = some false
  k_NoOffer_NoRow : PySem.W.kitOne K (.ref a.x_NoOffer) (.ref a.x_NoRow) = some false
  k_NoOffer_NoName : PySem.W.kitOne K (.ref a.x_NoOffer) (.ref a.x_NoName) = some false
  v_NoOffer : PySem.W.kitOne K (.ref a.x_NoOffer) (.type "ValueError") = some true
  s_NoOffer_WoodError : xsub K a.x_NoOffer a.x_WoodError = true
theorem sc_has : FnScope ["some", "k"] ["some", "k"] (defScope s_has) := ⟨rfl, rfl, rfl, by decide +kernel, rfl, by decide +kernel, by decide +kernel⟩
theorem sc_with_option : FnScope ["some", "k"] ["some", "k"] (defScope s_with_option) := ⟨rfl, rfl, rfl, by decide +kernel, rfl, by decide +kernel, by decide +kernel⟩
theorem sc_open_options : FnScope ["many", "yes", "no"] ["many", "yes", "no"] (defScope s_open_options) := ⟨rfl, rfl, rfl, by decide +kernel, rfl, by decide +kernel, by decide +kernel⟩
theorem sc_many_ties : FnScope ["wood"] ["wood"] (defScope s_many_ties) := ⟨rfl, rfl, rfl, by decide +kernel, rfl, by decide +kernel, by decide +kernel⟩
theorem sc_tie_at : FnScope ["wood", "t", "boughs"] ["wood", "t"] (defScope s_tie_at) := ⟨rfl, rfl, rfl, by decide +kernel, rfl, by decide +kernel, by decide +kernel⟩
theorem sc_count_in : FnScope ["kids", "some"] ["kids", "some"] (defScope s_count_in) := ⟨rfl, rfl, rfl, by decide +kernel, rfl, by decide +kernel, by decide +kernel⟩
theorem sc_every_tie : FnScope ["wood"] ["wood"] (defScope s_every_tie) := ⟨rfl, rfl, rfl, by decide +kernel, rfl, by decide +kernel, by decide +kernel⟩
theorem sc_sure_broken : FnScope ["tie", "yes", "no"] ["tie", "yes", "no"] (defScope s_sure_broken) := ⟨rfl, rfl, rfl, by decide +kernel, rfl, by decide +kernel, by decide +kernel⟩
theorem sc_least_sum : FnScope ["pairs", "yes", "no"] ["pairs", "yes", "no"] (defScope s_least_sum) := ⟨rfl, rfl, rfl, by decide +kernel, rfl, by decide +kernel, by decide +kernel⟩
theorem sc_sure_broken_bough : FnScope ["bough", "yes", "no", "least", "greatest", "some_with_up", "some_without_up"] ["bough", "yes", "no"] (defScope s_sure_broken_bough) := ⟨rfl, rfl, rfl, by decide +kernel, rfl, by decide +kernel, by decide +kernel⟩
theorem sc_first_sure_broken : FnScope ["wood", "ties", "yes", "no", "t"] ["wood", "ties", "yes", "no"] (defScope s_first_sure_broken) := ⟨rfl, rfl, rfl, by decide +kernel, rfl, by decide +kernel, by decide +kernel⟩
theorem sc_first_ware : FnScope ["wood", "yes", "no"] ["wood", "yes", "no"] (defScope s_first_ware) := ⟨rfl, rfl, rfl, by decide +kernel, rfl, by decide +kernel, by decide +kernel⟩
theorem sc_first_keeping : FnScope ["wood", "ties", "yes", "no", "left", "k", "found"] ["wood", "ties", "yes", "no"] (defScope s_first_keeping) := ⟨rfl, rfl, rfl, by decide +kernel, rfl, by decide +kernel, by decide +kernel⟩
theorem sc_stand_of : FnScope ["picks", "yes", "no", "k", "value"] ["picks"] (defScope s_stand_of) := ⟨rfl, rfl, rfl, by decide +kernel, rfl, by decide +kernel, by decide +kernel⟩
theorem sc_open_at : FnScope ["wood", "picks", "stand"] ["wood", "picks"] (defScope s_open_at) := ⟨rfl, rfl, rfl, by decide +kernel, rfl, by decide +kernel, by decide +kernel⟩
theorem sc_first_ware_at : FnScope ["wood", "picks", "stand"] ["wood", "picks"] (defScope s_first_ware_at) := ⟨rfl, rfl, rfl, by decide +kernel, rfl, by decide +kernel, by decide +kernel⟩
theorem sc_leads_on : FnScope ["wood", "picks", "pick"] ["wood", "picks", "pick"] (defScope s_leads_on) := ⟨rfl, rfl, rfl, by decide +kernel, rfl, by decide +kernel, by decide +kernel⟩
theorem sc_law_take : FnScope ["_law_state", "_law_most", "_law_script", "_law_at", "_law_number"] ["_law_state", "_law_most"] (defScope s_law_take) := ⟨rfl, rfl, rfl, by decide +kernel, rfl, by decide +kernel, by decide +kernel⟩
theorem sc_law_boughs : FnScope ["_law_state", "_law_many", "_law_groups", "_law_k", "_law_up", "_law_old", "_law_boughs_here", "_law_kids", "_law_size", "_law_low", "_law_high"] ["_law_state", "_law_many"] (defScope s_law_boughs) := ⟨rfl, rfl, rfl, by decide +kernel, rfl, by decide +kernel, by decide +kernel⟩
theorem sc_law_cross : FnScope ["_law_state", "_law_many", "_law_most", "_law_cross_here", "_law_turn", "_law_one", "_law_other", "_law_way", "_law_far", "_law_pairs", "_law_total", "_law_top"] ["_law_state", "_law_many", "_law_most"] (defScope s_law_cross) := ⟨rfl, rfl, rfl, by decide +kernel, rfl, by decide +kernel, by decide +kernel⟩
theorem sc_law_wood : FnScope ["_law_state", "_law_most", "_law_many"] ["_law_state", "_law_most"] (defScope s_law_wood) := ⟨rfl, rfl, rfl, by decide +kernel, rfl, by decide +kernel, by decide +kernel⟩
theorem sc_law_keeps : FnScope ["_law_tie", "_law_some", "_law_up", "_law_low", "_law_high", "_law_kids", "_law_count"] ["_law_tie", "_law_some"] (defScope s_law_keeps) := ⟨rfl, rfl, rfl, by decide +kernel, rfl, by decide +kernel, by decide +kernel⟩
theorem sc_law_broken : FnScope ["_law_wood_here", "_law_found", "_law_t", "_law_tie", "_law_some"] ["_law_wood_here"] (defScope s_law_broken) := ⟨rfl, rfl, rfl, by decide +kernel, rfl, by decide +kernel, by decide +kernel⟩
theorem sc_law_heard : FnScope ["_law_ask", "_law_caught", "e", "_law_other"] ["_law_ask"] (defScope s_law_heard) := ⟨rfl, rfl, rfl, by decide +kernel, rfl, by decide +kernel, by decide +kernel⟩
theorem sc_law_stand : FnScope ["_law_chosen", "_law_yes", "_law_no", "_law_k", "_law_value"] ["_law_chosen"] (defScope s_law_stand) := ⟨rfl, rfl, rfl, by decide +kernel, rfl, by decide +kernel, by decide +kernel⟩
theorem sc_law_sets : FnScope ["_law_broken_here", "_law_ties", "_law_chosen", "_law_yes", "_law_no", "_law_found", "_law_some"] ["_law_broken_here", "_law_ties", "_law_chosen"] (defScope s_law_sets) := ⟨rfl, rfl, rfl, by decide +kernel, rfl, by decide +kernel, by decide +kernel⟩
theorem sc_law_offers : FnScope ["_law_broken_here", "_law_many", "_law_chosen", "_law_found", "_law_named", "_law_k", "_law_value"] ["_law_broken_here", "_law_many", "_law_chosen"] (defScope s_law_offers) := ⟨rfl, rfl, rfl, by decide +kernel, rfl, by decide +kernel, by decide +kernel⟩
theorem sc_law_right : FnScope ["_law_choice", "_law_broken_here", "_law_many", "_law_chosen"] ["_law_choice", "_law_broken_here", "_law_many", "_law_chosen"] (defScope s_law_right) := ⟨rfl, rfl, rfl, by decide +kernel, rfl, by decide +kernel, by decide +kernel⟩
theorem sc_law_done : FnScope ["_law_state", "_law_choice", "_law_broken_here", "_law_many", "_law_chosen", "_law_way", "_law_k", "_law_left", "_law_due", "_law_value"] ["_law_state", "_law_choice", "_law_broken_here", "_law_many", "_law_chosen"] (defScope s_law_done) := ⟨rfl, rfl, rfl, by decide +kernel, rfl, by decide +kernel, by decide +kernel⟩
theorem sc_law : FnScope ["_law_script", "_law_state", "_law_wood_here", "_law_broken_here", "_law_choice", "_law_beside", "_law_chosen", "_law_turn", "_law_told"] ["_law_script"] (defScope s_law) := ⟨rfl, rfl, rfl, by decide +kernel, rfl, by decide +kernel, by decide +kernel⟩
theorem sc_Choice___init__ : FnScope ["self", "wood"] ["self", "wood"] (defScope s_Choice___init__) := ⟨rfl, rfl, rfl, by decide +kernel, rfl, by decide +kernel, by decide +kernel⟩
theorem sc_Choice_stand : FnScope ["self"] ["self"] (defScope s_Choice_stand) := ⟨rfl, rfl, rfl, by decide +kernel, rfl, by decide +kernel, by decide +kernel⟩
theorem sc_Choice_chosen : FnScope ["self"] ["self"] (defScope s_Choice_chosen) := ⟨rfl, rfl, rfl, by decide +kernel, rfl, by decide +kernel, by decide +kernel⟩
theorem sc_Choice_offers : FnScope ["self", "pairs", "k"] ["self"] (defScope s_Choice_offers) := ⟨rfl, rfl, rfl, by decide +kernel, rfl, by decide +kernel, by decide +kernel⟩
theorem sc_Choice_choose : FnScope ["self", "k", "value"] ["self", "k", "value"] (defScope s_Choice_choose) := ⟨rfl, rfl, rfl, by decide +kernel, rfl, by decide +kernel, by decide +kernel⟩
theorem sc_Choice_take_back : FnScope ["self", "k"] ["self", "k"] (defScope s_Choice_take_back) := ⟨rfl, rfl, rfl, by decide +kernel, rfl, by decide +kernel, by decide +kernel⟩
theorem sc_Choice_ware : FnScope ["self"] ["self"] (defScope s_Choice_ware) := ⟨rfl, rfl, rfl, by decide +kernel, rfl, by decide +kernel, by decide +kernel⟩
end Ow

namespace Ow
open PySem L2 Wd
section
variable {P : Program} {w : World} {K : PySem.W.Frag} {mg : Str → Option Value} {base : Heap} {a : Adr} {d : Fds}
def spHas : Sp := fun vs H Q _ => ∃ n k : Int, vs = [.int n, .int k] ∧ Q (.bl (hasV n k)) H
theorem ok_has (T : Txt K mg a d) : FnOk P w K mg base CX0 1 a.f_has d.f_has ["some", "k"] spHas := by
  refine T.K_has.ok sc_has (fun vs H Q E h => ?_) (fun cdv A outer s H vs Q E hr h => ?_)
  · obtain ⟨n, k, rfl, _⟩ := h
    rfl
  obtain ⟨n, k, rfl, q⟩ := h
  refine ⟨_, (pss_one (ps_ret (pe_and (pe_cmpR op_ge (pv 1) pe_int (nomark _)) (pe_one (pe_cmpR op_eq (pe_op op_and (pe_op op_shr (pv 0) (pv 1)) pe_int) pe_int (nomark _)))))), ?_⟩
  refine ⟨_, rfl, _, _, rfl, rfl, _, rfl, ?_⟩
  refine ite2 (fun c => ?_) (fun c => ?_)
  · have hk : (0 : Int) ≤ k := of_decide_eq_true c
    refine ⟨_, rfl, _, rfl, _, _, rfl, rfl, hk, _, _, rfl, rfl, rfl, ?_⟩
    have e : decide (V.int (Builtin.bitAnd (n / 2 ^ k.toNat) 1) = V.int 1) = hasV n k := by
      unfold hasV
      rw [decide_eq_true hk, Bool.true_and, dec_int, bitI]
      by_cases z : n / 2 ^ k.toNat % 2 = 1
      · rw [decide_eq_true z]
        simpa using z
      · rw [decide_eq_false z]
        simpa using z
    show Q (.bl (decide (V.int (Builtin.bitAnd (n / 2 ^ k.toNat) 1) = V.int 1))) H
    rw [e]
    exact q
  · have hk : ¬ (0 : Int) ≤ k := of_decide_eq_false (Bool.eq_false_iff.mpr c)
    have e : hasV n k = false := by
      unfold hasV
      rw [decide_eq_false hk, Bool.false_and]
    rw [e] at q
    exact q

end
section
variable {P : Program} {w : World} {K : PySem.W.Frag} {mg : Str → Option Value} {base : Heap} {a : Adr} {d : Fds}
theorem ok_with_option (T : Txt K mg a d) : FnOk P w K mg base CX0 1 a.f_with_option d.f_with_option ["some", "k"] spWithO := by
  refine T.K_with_option.ok sc_with_option (fun vs H Q E h => ?_) (fun cdv A outer s H vs Q E hr h => ?_)
  · obtain ⟨n, k, rfl, _⟩ := h
    rfl
  obtain ⟨n, k, rfl, hk, q⟩ := h
  refine ⟨_, (pss_one (ps_ret (pe_op op_or (pv 0) (pe_op op_shl pe_int (pv 1))))), ?_⟩
  refine ⟨_, rfl, _, rfl, _, _, rfl, rfl, ⟨by omega, by omega, by decide⟩, _, _, rfl, rfl, ?_⟩
  have e : Builtin.bitOr (n : Int) (1 * 2 ^ ((k : Nat) : Int).toNat) = ((n ||| 2 ^ k : Nat) : Int) := by rw [shl1, lor_nat]
  show Q (.int (Builtin.bitOr (n : Int) (1 * 2 ^ ((k : Nat) : Int).toNat))) H
  rw [e]
  exact q

end
section
variable {P : Program} {w : World} {K : PySem.W.Frag} {mg : Str → Option Value} {base : Heap} {a : Adr} {d : Fds}
theorem ok_open_options (T : Txt K mg a d) : FnOk P w K mg base CX0 2 a.f_open_options d.f_open_options ["many", "yes", "no"] spOpen := by
  have G_has := ok_has (P := P) (w := w) (base := base) T
  refine T.K_open_options.ok sc_open_options (fun vs H Q E h => ?_) (fun cdv A outer s H vs Q E hr h => ?_)
  · obtain ⟨m, y, n, rfl, _⟩ := h
    rfl
  obtain ⟨m, y, n, rfl, m9, q⟩ := h
  have p62 : (2 : Int) ^ 62 = 4611686018427387904 := by decide
  refine ⟨_, (pss_one (ps_ret (pe_lc (sc0 := defScope s_open_options) (XN := ["many", "yes", "no"]) (N' := ["k", "yes", "no"]) (n := 1) (kp := [1, 2]) rfl (pi_range1 rfl T.m_range (pa_cons (pv 0) pa_nil)) rfl rfl (by decide +kernel) (fun _ _ _ _ _ => (pg_name (i := 0) (by show List.Nodup (["k", "yes", "no"] : List Str); decide +kernel) rfl (Or.inl rfl))) (fun _ _ _ _ _ => (pts_one (pt_not (pt_val (pe_call G_has (hr.mono (by first | decide | omega)) rfl T.g_has T.K_has.kp T.B_has .nil pass0 (pa_cons (pe_op op_or (pv 1) (pv 2)) (pa_cons (pv 0) pa_nil))))))) (fun _ _ _ _ _ => (pv 0))))), ?_⟩
  refine ⟨_, rfl, _, rfl, by rw [p62]; omega, by rw [p62]; omega, ?_⟩
  rw [Int.toNat_natCast]
  refine lc_range0 (k := m) (fun i ys σ H2 => (∃ v, σ = [v, some (.int y), some (.int n)]) ∧ H2 = H ∧ i ≤ m ∧ ys = natsL ((List.range i).filter fun k => !(y ||| n).testBit k)) ⟨⟨none, rfl⟩, rfl, Nat.zero_le _, rfl⟩ (fun i ys σ H2 hi pv => ?_) (fun i ys σ H2 hi pv => ?_) (fun ys σ H2 pv fl hfl => ?_)
  · obtain ⟨_, _, h1, rfl⟩ := pv
    rw [List.length_map]
    refine small (Nat.le_trans (List.length_filter_le _ _) ?_)
    rw [List.length_range]
    omega
  · obtain ⟨⟨v0, rfl⟩, rfl, h1, rfl⟩ := pv
    refine ⟨_, rfl, _, rfl, _, _, rfl, rfl, _, rfl, _, _, rfl, _, rfl, ?_⟩
    have ee := filter_range_succ (fun k => !(y ||| n).testBit k) i
    rw [lor_nat, hasV_nat]
    refine ite2 (fun c2 => ?_) (fun c2 => ?_)
    · refine ⟨_, rfl, ⟨_, rfl⟩, rfl, hi, ?_⟩
      rw [ee, if_pos c2]
      show _ = List.map _ (_ ++ [i])
      rw [List.map_append]
      rfl
    · refine ⟨⟨_, rfl⟩, rfl, hi, ?_⟩
      rw [ee, if_neg c2, List.append_nil]
  obtain ⟨_, rfl, _, rfl⟩ := pv
  exact q fl _ (same_new hfl _) hfl upd_same

end
section
variable {P : Program} {w : World} {K : PySem.W.Frag} {mg : Str → Option Value} {base : Heap} {a : Adr} {d : Fds}
theorem ok_many_ties (T : Txt K mg a d) : FnOk P w K mg base CX0 1 a.f_many_ties d.f_many_ties ["wood"] spMany := by
  refine T.K_many_ties.ok sc_many_ties (fun vs H Q E h => ?_) (fun cdv A outer s H vs Q E hr h => ?_)
  · obtain ⟨wd, many, xs, ys, rfl, _⟩ := h
    rfl
  obtain ⟨wd, many, xs, ys, rfl, ⟨tb, tc, hw, hb, hc⟩, q⟩ := h
  refine ⟨_, (pss_one (ps_ret (pe_op op_add (pe_callB (lenS (K := K)) rfl T.m_len PySem.boot_len (pa_cons (pe_ix (ixT (K := K)) (pv 0) pe_int (fun _ _ => rfl)) pa_nil)) (pe_callB (lenS (K := K)) rfl T.m_len PySem.boot_len (pa_cons (pe_ix (ixT (K := K)) (pv 0) pe_int (fun _ _ => rfl)) pa_nil))))), ?_⟩
  exact ⟨_, rfl, wd, _, _, _, rfl, rfl, sqT hw, at1, tb, _, rfl, .inr (sqT hb), _, rfl, wd, _, _, _, rfl, rfl, sqT hw, at2, tc, _, rfl, .inr (sqT hc), _, _, rfl, rfl, q⟩

end
section
variable {P : Program} {w : World} {K : PySem.W.Frag} {mg : Str → Option Value} {base : Heap} {a : Adr} {d : Fds}
theorem ok_tie_at (T : Txt K mg a d) : FnOk P w K mg base CX0 1 a.f_tie_at d.f_tie_at ["wood", "t"] spTieAt := by
  refine T.K_tie_at.ok sc_tie_at (fun vs H Q E h => ?_) (fun cdv A outer s H vs Q E hr h => ?_)
  · obtain ⟨wd, many, xs, ys, t, v, rfl, _⟩ := h
    rfl
  obtain ⟨wd, many, xs, ys, t, v, rfl, ⟨tb, tc, hw, hb, hc⟩, hv, q⟩ := h
  refine ⟨_, (pss_cons (ps_set (i := 2) sc_tie_at.nd rfl (Or.inl rfl) (pe_ix (ixT (K := K)) (pv 0) pe_int (fun _ _ => rfl)))
      (pss_cons (ps_if (pt_cmpR op_lt (pv 1) (pe_callB (lenS (K := K)) rfl T.m_len PySem.boot_len (pa_cons (pv 2) pa_nil)) (nomark _)) (pss_one (ps_ret (pe_ix (ixT (K := K)) (pv 2) (pv 1) (fun _ _ => rfl)))) pss_nil)
      (pss_one (ps_ret (pe_ix (ixT (K := K)) (pe_ix (ixT (K := K)) (pv 0) pe_int (fun _ _ => rfl)) (pe_op op_sub (pv 1) (pe_callB (lenS (K := K)) rfl T.m_len PySem.boot_len (pa_cons (pv 2) pa_nil))) (fun _ _ => rfl)))))), ?_⟩
  refine ⟨_, rfl, wd, _, _, _, rfl, rfl, sqT hw, at1, ?_⟩
  refine ⟨_, rfl, _, rfl, tb, _, rfl, .inr (sqT hb), _, _, rfl, rfl, _, rfl, ?_⟩
  refine ite2 (fun c => ?_) (fun c => ?_)
  · have c' : (t : Int) < (xs.length : Nat) := of_decide_eq_true c
    rw [List.getElem?_append_left (by omega)] at hv
    exact ⟨_, rfl, _, rfl, tb, _, _, _, rfl, rfl, sqT hb, atI_nat hv, q⟩
  · have c' : ¬ (t : Int) < (xs.length : Nat) := of_decide_eq_false (Bool.eq_false_iff.mpr c)
    rw [List.getElem?_append_right (by omega)] at hv
    have e : ((t : Int) - ((xs.length : Nat) : Int)) = ((t - xs.length : Nat) : Int) := by omega
    refine ⟨_, rfl, wd, _, _, _, rfl, rfl, sqT hw, at2, _, rfl, _, rfl, tb, _, rfl, .inr (sqT hb), _, _, rfl, rfl, tc, _, _, _, rfl, rfl, sqT hc, ?_, q⟩
    show atI ys ((t : Int) - ((xs.length : Nat) : Int)) = some v
    rw [e]
    exact atI_nat hv

end
section
variable {P : Program} {w : World} {K : PySem.W.Frag} {mg : Str → Option Value} {base : Heap} {a : Adr} {d : Fds}
def spCount : Sp := fun vs H Q _ => ∃ (p : Addr) (ks : List Nat) (n : Nat), vs = [.ref p, .int n] ∧ H p = some (.tup (ks.map fun k : Nat => V.int (k : Int))) ∧ ks.length ≤ 1000 ∧ ∀ H', Same H H' → Q (.int (cnt ks n : Nat)) H'
theorem ok_count_in (T : Txt K mg a d) : FnOk P w K mg base CX0 2 a.f_count_in d.f_count_in ["kids", "some"] spCount := by
  have G_has := ok_has (P := P) (w := w) (base := base) T
  refine T.K_count_in.ok sc_count_in (fun vs H Q E h => ?_) (fun cdv A outer s H vs Q E hr h => ?_)
  · obtain ⟨p, ks, n, rfl, _⟩ := h
    rfl
  obtain ⟨p, ks, n, rfl, hp, hk, q⟩ := h
  refine ⟨_, (pss_one (ps_ret (pe_callB (lenS (K := K)) rfl T.m_len PySem.boot_len (pa_cons (pe_lc (sc0 := defScope s_count_in) (XN := ["kids", "some"]) (N' := ["k", "some"]) (n := 1) (kp := [1]) rfl (piT (K := K) (pv 0)) rfl rfl (by decide +kernel) (fun _ _ _ _ _ => (pg_name (i := 0) (by show List.Nodup (["k", "some"] : List Str); decide +kernel) rfl (Or.inl rfl))) (fun _ _ _ _ _ => (pts_one (pt_val (pe_call G_has (hr.mono (by first | decide | omega)) rfl T.g_has T.K_has.kp T.B_has .nil pass0 (pa_cons (pv 1) (pa_cons (pv 0) pa_nil)))))) (fun _ _ _ _ _ => (pv 0))) pa_nil)))), ?_⟩
  refine ⟨_, rfl, p, rfl, ⟨_, sqT hp⟩, ?_⟩
  refine lc_tup (K := K) (a := p) (xs := ks.map fun k : Nat => V.int (k : Int)) (fun i ys σ H2 => (∃ v, σ = [v, some (.int n)]) ∧ H2 = H ∧ i ≤ ks.length ∧ ys = ((ks.take i).filter fun k => n.testBit k).map fun k : Nat => V.int (k : Int)) ⟨⟨none, rfl⟩, rfl, Nat.zero_le _, rfl⟩ (fun i ys σ H2 hi pv => ?_) (fun i ys σ H2 hi pv => ?_) (fun i x ys σ H2 hx pv => ?_) (fun ys σ H2 pv l hl => ?_)
  · obtain ⟨_, _, h1, rfl⟩ := pv
    rw [List.length_map]
    refine small (Nat.le_trans (List.length_filter_le _ _) ?_)
    rw [List.length_take]
    omega
  · rw [pv.2.1]
    exact sqT hp
  · obtain ⟨⟨v, rfl⟩, rfl, h1, rfl⟩ := pv
    rw [List.getElem?_map] at hx
    obtain ⟨k, hk', rfl⟩ := Option.map_eq_some_iff.mp hx
    have hj : i < ks.length := (List.getElem?_eq_some_iff.mp hk').1
    have ee := PySem.take_succ_filter (fun k => n.testBit k) ks i k hk'
    refine ⟨_, rfl, _, rfl, _, _, rfl, _, rfl, ?_⟩
    rw [hasV_nat]
    refine ite2 (fun c => ?_) (fun c => ?_)
    · refine ⟨_, rfl, ⟨_, rfl⟩, rfl, hj, ?_⟩
      rw [ee, if_pos c, List.map_append]
      rfl
    · refine ⟨⟨_, rfl⟩, rfl, hj, ?_⟩
      rw [ee, if_neg c, List.append_nil]
  · obtain ⟨_, rfl, _, rfl⟩ := pv
    have fin : ∀ L : List V, L.length = cnt ks n → ∀ H', Same H2 H' → Q (.int (L.length : Nat)) H' := fun L e H' sm => by
      rw [e]
      exact q H' sm
    exact ⟨l, _, rfl, .inl (SqL.of upd_same), fin _ (by simp [cnt]) _ (same_new hl _)⟩

end
section
variable {P : Program} {w : World} {K : PySem.W.Frag} {mg : Str → Option Value} {base : Heap} {a : Adr} {d : Fds}
theorem ok_every_tie (T : Txt K mg a d) : FnOk P w K mg base CX0 2 a.f_every_tie d.f_every_tie ["wood"] spEvery := by
  have G_many_ties := ok_many_ties (P := P) (w := w) (base := base) T
  refine T.K_every_tie.ok sc_every_tie (fun vs H Q E h => ?_) (fun cdv A outer s H vs Q E hr h => ?_)
  · obtain ⟨wd, m, ts, rfl, _⟩ := h
    rfl
  obtain ⟨wd, m, ts, rfl, W, q⟩ := h
  have p62 : (2 : Int) ^ 62 = 4611686018427387904 := by decide
  obtain ⟨xs, ys, WA, dn⟩ := W.ex
  have few := W.few
  have ln : ts.length = xs.length + ys.length := by
    have := dn.length
    rw [List.length_map, List.length_append] at this
    exact this
  refine ⟨_, (pss_one (ps_ret (pe_callTy (call_list_rng rfl) rfl T.m_list PyProof.Rows.boot_list (pa_cons (pe_callTy call_rng1 rfl T.m_range PyProof.Rows.boot_range (pa_cons (pe_call G_many_ties (hr.mono (by first | decide | omega)) rfl T.g_many_ties T.K_many_ties.kp T.B_many_ties .nil pass0 (pa_cons (pv 0) pa_nil)) pa_nil)) pa_nil)))), ?_⟩
  refine ⟨_, rfl, wd, m, xs, ys, rfl, WA, _, rfl, fun rp hrp => ?_⟩
  refine ⟨rp, 0, _, rfl, upd_same, by rw [p62]; omega, by rw [p62]; omega, by rw [p62]; omega, by rw [p62]; omega, by omega, fun l hl => ?_⟩
  have e : ((List.range' 0 ((xs.length : Int) + (ys.length : Int) - 0).toNat).map fun i : Nat => V.int (0 + (i : Int))) = (List.range ts.length).map fun i : Nat => V.int (i : Int) := by
    have e1 : ((xs.length : Int) + (ys.length : Int) - 0).toNat = ts.length := by omega
    rw [e1, List.range_eq_range']
    simp
  rw [e]
  have s1 := (same_new hrp (.rng 0 ((xs.length : Int) + (ys.length : Int)))).trans (same_new hl (.lst ((List.range ts.length).map fun i : Nat => V.int (i : Int))))
  exact q l _ s1 ((same_new hrp (.rng 0 ((xs.length : Int) + (ys.length : Int)))).free hl) upd_same

end
section
variable {P : Program} {w : World} {K : PySem.W.Frag} {mg : Str → Option Value} {base : Heap} {a : Adr} {d : Fds}
theorem ok_sure_broken_bough (T : Txt K mg a d) : FnOk P w K mg base CX0 3 a.f_sure_broken_bough d.f_sure_broken_bough ["bough", "yes", "no"] (spTie3B Tie.sb) := by
  have G_has := ok_has (P := P) (w := w) (base := base) T
  have G_count_in := ok_count_in (P := P) (w := w) (base := base) T
  refine T.K_sure_broken_bough.ok sc_sure_broken_bough (fun vs H Q E h => ?_) (fun cdv A outer s H vs Q E hr h => ?_)
  · obtain ⟨u, lo, hi, ks, m, y, n, v, rfl, _⟩ := h
    rfl
  obtain ⟨u, lo, hi, ks, m, y, n, v, rfl, hd, ok, hm, q⟩ := h
  obtain ⟨p, pk, rfl, hp, hpk⟩ := at_bough hd
  have few := ok.few
  have rest4 : ∃ t, PSs (cxOf CX0 P w K mg base ["bough", "yes", "no", "least", "greatest", "some_with_up", "some_without_up"] "sure_broken_bough" (defScope s_sure_broken_bough) a.f_sure_broken_bough cdv A outer s H E).nox ((defBody s_sure_broken_bough).drop 4) t ∧ ∀ (v3 v4 : Option V) (b5 b6 : Bool) (H1 : Hp), Same H H1 → (!b5 && !b6) = (Tie.bough u lo hi ks).sb y n → t { nx := fun _ H' => Q .non H', rt := Q } [some (.ref p), some (.int y), some (.int n), v3, v4, some (.bl b5), some (.bl b6)] H1 := by
    refine ⟨_, (pss_one (ps_ret (pe_and (pe_not (pv 5)) (pe_one (pe_not (pv 6)))))), ?_⟩
    intro v3 v4 b5 b6 H1 s1 e
    have q1 := q H1 s1
    rw [← e] at q1
    refine ⟨_, rfl, _, rfl, _, rfl, ?_⟩
    refine ite2 (fun c => ?_) (fun c => ?_)
    · rw [c, Bool.true_and] at q1
      exact ⟨_, rfl, _, rfl, q1⟩
    · rw [Bool.eq_false_iff.mpr c, Bool.false_and] at q1
      exact q1
  obtain ⟨t4, h4, r4⟩ := rest4
  have rest3 : ∃ t, PSs (cxOf CX0 P w K mg base ["bough", "yes", "no", "least", "greatest", "some_with_up", "some_without_up"] "sure_broken_bough" (defScope s_sure_broken_bough) a.f_sure_broken_bough cdv A outer s H E).nox ((defBody s_sure_broken_bough).drop 3) t ∧ ∀ (g : Int) (b5 : Bool) (H1 : Hp), Same H H1 → g = (ks.length : Int) - cnt ks n → b5 = (!n.testBit u && (decide ((cnt ks y : Int) ≤ hi) && decide (lo ≤ g))) → t { nx := fun _ H' => Q .non H', rt := Q } [some (.ref p), some (.int y), some (.int n), some (.int (cnt ks y : Nat)), some (.int g), some (.bl b5), none] H1 := by
    refine ⟨_, (pss_cons (ps_set (i := 6) sc_sure_broken_bough.nd rfl (Or.inl rfl) (pe_and (pe_not (pe_call G_has (hr.mono (by first | decide | omega)) rfl T.g_has T.K_has.kp T.B_has .nil pass0 (pa_cons (pv 1) (pa_cons (pe_ix (ixT (K := K)) (pv 0) pe_int (fun _ _ => rfl)) pa_nil)))) (pe_one (pe_cmpR op_eq (pv 3) pe_int (nomark _)))))
      h4), ?_⟩
    intro g b5 H1 s1 eg e5
    have hp1 := s1 _ _ hp
    refine ⟨_, rfl, _, rfl, p, _, _, _, rfl, rfl, sqT hp1, at0, _, _, rfl, _, rfl, _, rfl, ?_⟩
    rw [hasV_nat]
    refine ite2 (fun c => ?_) (fun c => ?_)
    · refine ⟨_, rfl, rfl, ?_⟩
      refine r4 _ _ _ _ _ s1 ?_
      rw [e5, eg, dec_cnt0]
      show _ = (!_ && !(!y.testBit u && decide (cnt ks y = 0)))
      rw [c, Bool.true_and]
    · refine r4 _ _ _ _ _ s1 ?_
      rw [e5, eg]
      show _ = (!_ && !(!y.testBit u && decide (cnt ks y = 0)))
      rw [Bool.eq_false_iff.mpr c, Bool.false_and]
  obtain ⟨t3, h3, r3⟩ := rest3
  have rest2 : ∃ t, PSs (cxOf CX0 P w K mg base ["bough", "yes", "no", "least", "greatest", "some_with_up", "some_without_up"] "sure_broken_bough" (defScope s_sure_broken_bough) a.f_sure_broken_bough cdv A outer s H E).nox ((defBody s_sure_broken_bough).drop 2) t ∧ ∀ (g : Int) (H1 : Hp), Same H H1 → g = (ks.length : Int) - cnt ks n → t { nx := fun _ H' => Q .non H', rt := Q } [some (.ref p), some (.int y), some (.int n), some (.int (cnt ks y : Nat)), some (.int g), none, none] H1 := by
    refine ⟨_, (pss_cons (ps_set (i := 5) sc_sure_broken_bough.nd rfl (Or.inl rfl) (pe_and (pe_not (pe_call G_has (hr.mono (by first | decide | omega)) rfl T.g_has T.K_has.kp T.B_has .nil pass0 (pa_cons (pv 2) (pa_cons (pe_ix (ixT (K := K)) (pv 0) pe_int (fun _ _ => rfl)) pa_nil)))) (pe_and (pe_cmpR op_le (pv 3) (pe_ix (ixT (K := K)) (pv 0) pe_int (fun _ _ => rfl)) (nomark _)) (pe_one (pe_cmpR op_le (pe_ix (ixT (K := K)) (pv 0) pe_int (fun _ _ => rfl)) (pv 4) (nomark _))))))
      h3), ?_⟩
    intro g H1 s1 eg
    have hp1 := s1 _ _ hp
    refine ⟨_, rfl, _, rfl, p, _, _, _, rfl, rfl, sqT hp1, at0, _, _, rfl, _, rfl, _, rfl, ?_⟩
    rw [hasV_nat]
    refine ite2 (fun c => ?_) (fun c => ?_)
    · refine ⟨_, rfl, _, rfl, p, _, _, _, rfl, rfl, sqT hp1, at2, _, _, rfl, rfl, _, rfl, ?_⟩
      refine ite2 (fun c2 => ?_) (fun c2 => ?_)
      · refine ⟨_, rfl, p, _, _, _, rfl, rfl, sqT hp1, at1, _, rfl, _, _, rfl, rfl, ?_⟩
        exact r3 _ _ _ s1 eg (by rw [c, Bool.true_and, c2, Bool.true_and])
      · exact r3 _ _ _ s1 eg (by rw [c, Bool.true_and, Bool.eq_false_iff.mpr c2, Bool.false_and])
    · exact r3 _ _ _ s1 eg (by rw [Bool.eq_false_iff.mpr c, Bool.false_and])
  obtain ⟨t2, h2, r2⟩ := rest2
  refine ⟨_, (pss_cons (ps_set (i := 3) sc_sure_broken_bough.nd rfl (Or.inl rfl) (pe_call G_count_in (hr.mono (by first | decide | omega)) rfl T.g_count_in T.K_count_in.kp T.B_count_in .nil pass0 (pa_cons (pe_ix (ixT (K := K)) (pv 0) pe_int (fun _ _ => rfl)) (pa_cons (pv 1) pa_nil))))
      (pss_cons (ps_set (i := 4) sc_sure_broken_bough.nd rfl (Or.inl rfl) (pe_op op_sub (pe_callB (lenS (K := K)) rfl T.m_len PySem.boot_len (pa_cons (pe_ix (ixT (K := K)) (pv 0) pe_int (fun _ _ => rfl)) pa_nil)) (pe_call G_count_in (hr.mono (by first | decide | omega)) rfl T.g_count_in T.K_count_in.kp T.B_count_in .nil pass0 (pa_cons (pe_ix (ixT (K := K)) (pv 0) pe_int (fun _ _ => rfl)) (pa_cons (pv 2) pa_nil)))))
      h2)), ?_⟩
  refine ⟨_, rfl, p, _, _, _, rfl, rfl, sqT hp, at3, _, rfl, pk, ks, y, rfl, hpk, by omega, fun H1 s1 => ?_⟩
  have hp1 := s1 _ _ hp
  have hpk1 := s1 _ _ hpk
  refine ⟨_, rfl, p, _, _, _, rfl, rfl, sqT hp1, at3, pk, _, rfl, .inr (sqT hpk1), ?_⟩
  refine ⟨_, rfl, p, _, _, _, rfl, rfl, sqT hp1, at3, _, rfl, pk, ks, n, rfl, hpk1, by omega, fun H2 s2 => ?_⟩
  refine ⟨_, _, rfl, rfl, ?_⟩
  exact r2 _ _ (s1.trans s2) (by rw [List.length_map])

end
section
variable {P : Program} {w : World} {K : PySem.W.Frag} {mg : Str → Option Value} {base : Heap} {a : Adr} {d : Fds}
theorem ok_least_sum (T : Txt K mg a d) : FnOk P w K mg base CX0 2 a.f_least_sum d.f_least_sum ["pairs", "yes", "no"] (spSum leastSum) := by
  have G_has := ok_has (P := P) (w := w) (base := base) T
  refine T.K_least_sum.ok sc_least_sum (fun vs H Q E h => ?_) (fun cdv A outer s H vs Q E hr h => ?_)
  · obtain ⟨pq, xs, ps, y, n, rfl, _⟩ := h
    rfl
  obtain ⟨pq, xs, ps, y, n, rfl, hq, hps, few, q⟩ := h
  have lx : xs.length = ps.length := by rw [← hps.length, List.length_map]
  refine ⟨_, (pss_one (ps_ret (pe_callB (call_sum_ints rfl) rfl T.m_sum PyProof.Rows.boot_sum (pa_cons (pe_lc (sc0 := defScope s_least_sum) (XN := ["pairs", "yes", "no"]) (N' := ["k", "number", "yes", "no"]) (n := 2) (kp := [1, 2]) rfl (piT (K := K) (pv 0)) rfl rfl (by decide +kernel) (fun _ _ _ _ _ => (pgT (K := K) (n := 2) rfl (pgs_cons (pg_name (i := 0) (by show List.Nodup (["k", "number", "yes", "no"] : List Str); decide +kernel) rfl (Or.inl rfl)) (pgs_cons (pg_name (i := 1) (by show List.Nodup (["k", "number", "yes", "no"] : List Str); decide +kernel) rfl (Or.inl rfl)) pgs_nil)))) (fun _ _ _ _ _ => (pts_one (PW.pt (pw_or (pt_val (pe_call G_has (hr.mono (by first | decide | omega)) rfl T.g_has T.K_has.kp T.B_has .nil pass0 (pa_cons (pv 2) (pa_cons (pv 0) pa_nil)))) (pw_or1 (PW.pt (pw_and (pt_cmpR op_lt (pv 1) pe_int (nomark _)) (pw_and1 (pt_not (pt_val (pe_call G_has (hr.mono (by first | decide | omega)) rfl T.g_has T.K_has.kp T.B_has .nil pass0 (pa_cons (pv 3) (pa_cons (pv 0) pa_nil))))))))))))) (fun _ _ _ _ _ => (pv 1))) pa_nil)))), ?_⟩
  refine ⟨_, rfl, pq, rfl, ⟨_, sqT hq⟩, ?_⟩
  refine lc_tup (K := K) (a := pq) (xs := xs) (fun i ys σ H2 => (∃ v v', σ = [v, v', some (.int y), some (.int n)]) ∧ H2 = H ∧ i ≤ ps.length ∧ ys = (((ps.take i).filter fun p => y.testBit p.1 || (decide (p.2 < 0) && !n.testBit p.1)).map (·.2)).map V.int) ⟨⟨none, none, rfl⟩, rfl, Nat.zero_le _, rfl⟩ (fun i ys σ H2 hi pv => ?_) (fun i ys σ H2 hi pv => ?_) (fun i x ys σ H2 hx pv => ?_) (fun ys σ H2 pv l hl => ?_)
  · obtain ⟨_, _, h1, rfl⟩ := pv
    rw [List.length_map, List.length_map]
    refine small (Nat.le_trans (List.length_filter_le _ _) ?_)
    rw [List.length_take]
    omega
  · rw [pv.2.1]
    exact sqT hq
  · obtain ⟨⟨v, v', rfl⟩, rfl, h1, rfl⟩ := pv
    obtain ⟨pr, r, hpr, rfl, hr'⟩ := at_pair hps hx
    have hj : i < ps.length := (List.getElem?_eq_some_iff.mp hpr).1
    have ee := PySem.take_succ_filter (fun p : Nat × Int => y.testBit p.1 || (decide (p.2 < 0) && !n.testBit p.1)) ps i pr hpr
    have yes : (y.testBit pr.1 || (decide (pr.2 < 0) && !n.testBit pr.1)) = true → ((((ps.take i).filter fun p => y.testBit p.1 || (decide (p.2 < 0) && !n.testBit p.1)).map (·.2)).map V.int) ++ [V.int pr.2] = (((ps.take (i + 1)).filter fun p => y.testBit p.1 || (decide (p.2 < 0) && !n.testBit p.1)).map (·.2)).map V.int := fun c => by
      rw [ee, if_pos c, List.map_append, List.map_append]
      rfl
    have noo : (y.testBit pr.1 || (decide (pr.2 < 0) && !n.testBit pr.1)) = false → ((((ps.take i).filter fun p => y.testBit p.1 || (decide (p.2 < 0) && !n.testBit p.1)).map (·.2)).map V.int) = (((ps.take (i + 1)).filter fun p => y.testBit p.1 || (decide (p.2 < 0) && !n.testBit p.1)).map (·.2)).map V.int := fun c => by
      rw [ee, if_neg (by rw [c]; exact Bool.false_ne_true), List.append_nil]
    refine ⟨r, _, rfl, sqT hr', rfl, _, _, rfl, _, _, rfl, rfl, ?_⟩
    refine ⟨_, rfl, _, rfl, _, _, rfl, _, rfl, ?_⟩
    rw [hasV_nat]
    refine ite2 (fun c => ?_) (fun c => ?_)
    · refine iteT ?_
      exact ⟨_, rfl, ⟨_, _, rfl⟩, rfl, hj, yes (by rw [c, Bool.true_or])⟩
    · have c' := Bool.eq_false_iff.mpr c
      refine ⟨_, rfl, _, _, rfl, rfl, _, rfl, ?_⟩
      refine ite2 (fun c2 => ?_) (fun c2 => ?_)
      · refine ⟨_, rfl, _, rfl, _, _, rfl, _, rfl, ?_⟩
        rw [hasV_nat]
        refine ite2 (fun c3 => ?_) (fun c3 => ?_)
        · exact ⟨_, rfl, ⟨_, _, rfl⟩, rfl, hj, yes (by rw [c', Bool.false_or, c2, Bool.true_and, c3])⟩
        · exact ⟨⟨_, _, rfl⟩, rfl, hj, noo (by rw [c', Bool.false_or, c2, Bool.true_and, Bool.eq_false_iff.mpr c3])⟩
      · refine iteF ?_
        exact ⟨⟨_, _, rfl⟩, rfl, hj, noo (by rw [c', Bool.false_or, Bool.eq_false_iff.mpr c2, Bool.false_and])⟩
  · obtain ⟨_, rfl, _, rfl⟩ := pv
    refine ⟨l, _, rfl, SqL.of upd_same, ?_⟩
    have q1 := q _ (same_new hl (.lst ((((ps.take xs.length).filter fun p => y.testBit p.1 || (decide (p.2 < 0) && !n.testBit p.1)).map (·.2)).map V.int)))
    have e : leastSum ps y n = (((ps.take xs.length).filter fun p => y.testBit p.1 || (decide (p.2 < 0) && !n.testBit p.1)).map (·.2)).sum := by
      rw [lx, List.take_length]
      rfl
    rw [e] at q1
    exact q1

end
section
variable {P : Program} {w : World} {K : PySem.W.Frag} {mg : Str → Option Value} {base : Heap} {a : Adr} {d : Fds}
theorem ok_sure_broken (T : Txt K mg a d) : FnOk P w K mg base CX0 4 a.f_sure_broken d.f_sure_broken ["tie", "yes", "no"] (spTie3 Tie.sb) := by
  have G_has := ok_has (P := P) (w := w) (base := base) T
  have G_least_sum := ok_least_sum (P := P) (w := w) (base := base) T
  have G_sure_broken_bough := ok_sure_broken_bough (P := P) (w := w) (base := base) T
  refine T.K_sure_broken.ok sc_sure_broken (fun vs H Q E h => ?_) (fun cdv A outer s H vs Q E hr h => ?_)
  · obtain ⟨t, m, y, n, v, rfl, _⟩ := h
    rfl
  obtain ⟨t, m, y, n, v, rfl, hd, ok, hm, q⟩ := h
  have q0 := q H (Same.refl H)
  refine ⟨_, (pss_cons (ps_if (pt_cmpR op_eq (pe_ix (ixT (K := K)) (pv 0) pe_int (fun _ _ => rfl)) pe_str (nomark _)) (pss_one (ps_ret (pe_and (pe_call G_has (hr.mono (by first | decide | omega)) rfl T.g_has T.K_has.kp T.B_has .nil pass0 (pa_cons (pv 1) (pa_cons (pe_ix (ixT (K := K)) (pv 0) pe_int (fun _ _ => rfl)) pa_nil))) (pe_one (pe_call G_has (hr.mono (by first | decide | omega)) rfl T.g_has T.K_has.kp T.B_has .nil pass0 (pa_cons (pv 2) (pa_cons (pe_ix (ixT (K := K)) (pv 0) pe_int (fun _ _ => rfl)) pa_nil))))))) pss_nil)
      (pss_cons (ps_if (pt_cmpR op_eq (pe_ix (ixT (K := K)) (pv 0) pe_int (fun _ _ => rfl)) pe_str (nomark _)) (pss_one (ps_ret (pe_and (pe_call G_has (hr.mono (by first | decide | omega)) rfl T.g_has T.K_has.kp T.B_has .nil pass0 (pa_cons (pv 1) (pa_cons (pe_ix (ixT (K := K)) (pv 0) pe_int (fun _ _ => rfl)) pa_nil))) (pe_one (pe_call G_has (hr.mono (by first | decide | omega)) rfl T.g_has T.K_has.kp T.B_has .nil pass0 (pa_cons (pv 1) (pa_cons (pe_ix (ixT (K := K)) (pv 0) pe_int (fun _ _ => rfl)) pa_nil))))))) pss_nil)
      (pss_cons (ps_if (pt_cmpR op_eq (pe_ix (ixT (K := K)) (pv 0) pe_int (fun _ _ => rfl)) pe_str (nomark _)) (pss_one (ps_ret (pe_cmpR op_gt (pe_call G_least_sum (hr.mono (by first | decide | omega)) rfl T.g_least_sum T.K_least_sum.kp T.B_least_sum .nil pass0 (pa_cons (pe_ix (ixT (K := K)) (pv 0) pe_int (fun _ _ => rfl)) (pa_cons (pv 1) (pa_cons (pv 2) pa_nil)))) (pe_ix (ixT (K := K)) (pv 0) pe_int (fun _ _ => rfl)) (nomark _)))) pss_nil)
      (pss_one (ps_ret (pe_call G_sure_broken_bough (hr.mono (by first | decide | omega)) rfl T.g_sure_broken_bough T.K_sure_broken_bough.kp T.B_sure_broken_bough .nil pass0 (pa_cons (pv 0) (pa_cons (pv 1) (pa_cons (pv 2) pa_nil))))))))), ?_⟩
  cases t with
  | needs x z =>
    obtain ⟨p, rfl, hp⟩ := at_word hd
    refine ⟨_, rfl, p, _, _, _, rfl, rfl, sqT hp, at0, rfl, _, rfl, ?_⟩
    refine iteD rfl ?_
    refine ⟨_, rfl, _, rfl, p, _, _, _, rfl, rfl, sqT hp, at1, _, _, rfl, _, rfl, ?_⟩
    rw [hasV_nat]
    have q1 : Q (.bl (y.testBit x && n.testBit z)) H := q0
    refine ite2 (fun c => ?_) (fun c => ?_)
    · rw [c, Bool.true_and] at q1
      refine ⟨_, rfl, _, rfl, p, _, _, _, rfl, rfl, sqT hp, at2, _, _, rfl, ?_⟩
      rw [hasV_nat]
      exact q1
    · rw [Bool.eq_false_iff.mpr c, Bool.false_and] at q1
      exact q1
  | bans x z =>
    obtain ⟨p, rfl, hp⟩ := at_word hd
    refine ⟨_, rfl, p, _, _, _, rfl, rfl, sqT hp, at0, rfl, _, rfl, ?_⟩
    refine iteDN bans_needs ?_
    refine ⟨_, rfl, p, _, _, _, rfl, rfl, sqT hp, at0, rfl, _, rfl, ?_⟩
    refine iteD rfl ?_
    refine ⟨_, rfl, _, rfl, p, _, _, _, rfl, rfl, sqT hp, at1, _, _, rfl, _, rfl, ?_⟩
    rw [hasV_nat]
    have q1 : Q (.bl (y.testBit x && y.testBit z)) H := q0
    refine ite2 (fun c => ?_) (fun c => ?_)
    · rw [c, Bool.true_and] at q1
      refine ⟨_, rfl, _, rfl, p, _, _, _, rfl, rfl, sqT hp, at2, _, _, rfl, ?_⟩
      rw [hasV_nat]
      exact q1
    · rw [Bool.eq_false_iff.mpr c, Bool.false_and] at q1
      exact q1
  | most top ps =>
    obtain ⟨p, pq, xs, rfl, hp, hq, hps⟩ := at_most hd
    have few : ps.length ≤ m := ok.2.2.2
    refine ⟨_, rfl, p, _, _, _, rfl, rfl, sqT hp, at0, rfl, _, rfl, ?_⟩
    refine iteDN most_needs ?_
    refine ⟨_, rfl, p, _, _, _, rfl, rfl, sqT hp, at0, rfl, _, rfl, ?_⟩
    refine iteDN most_bans ?_
    refine ⟨_, rfl, p, _, _, _, rfl, rfl, sqT hp, at0, rfl, _, rfl, ?_⟩
    refine iteD rfl ?_
    refine ⟨_, rfl, p, _, _, _, rfl, rfl, sqT hp, at2, _, rfl, _, rfl, pq, xs, ps, y, n, rfl, hq, hps, by omega, fun H1 s1 => ?_⟩
    exact ⟨_, rfl, p, _, _, _, rfl, rfl, sqT (s1 _ _ hp), at1, _, _, rfl, rfl, q H1 s1⟩
  | bough u lo hi ks =>
    obtain ⟨p, pk, e, hp, hpk⟩ := at_bough hd
    subst e
    refine ⟨_, rfl, p, _, _, _, rfl, rfl, sqT hp, at0, rfl, _, rfl, ?_⟩
    refine iteDN int_str ?_
    refine ⟨_, rfl, p, _, _, _, rfl, rfl, sqT hp, at0, rfl, _, rfl, ?_⟩
    refine iteDN int_str ?_
    refine ⟨_, rfl, p, _, _, _, rfl, rfl, sqT hp, at0, rfl, _, rfl, ?_⟩
    refine iteDN int_str ?_
    exact ⟨_, rfl, _, rfl, _, rfl, u, lo, hi, ks, m, y, n, _, rfl, hd, ok, hm, q⟩

end
section
variable {P : Program} {w : World} {K : PySem.W.Frag} {mg : Str → Option Value} {base : Heap} {a : Adr} {d : Fds}
theorem ok_first_sure_broken (T : Txt K mg a d) : FnOk P w K mg base CX0 5 a.f_first_sure_broken d.f_first_sure_broken ["wood", "ties", "yes", "no"] spFirstSB := by
  have G_tie_at := ok_tie_at (P := P) (w := w) (base := base) T
  have G_sure_broken := ok_sure_broken (P := P) (w := w) (base := base) T
  refine T.K_first_sure_broken.ok sc_first_sure_broken (fun vs H Q E h => ?_) (fun cdv A outer s H vs Q E hr h => ?_)
  · obtain ⟨wd, m, ts, tl, il, y, n, rfl, _⟩ := h
    rfl
  obtain ⟨wd, m, ts, tl, il, y, n, rfl, W, htl, ilt, q⟩ := h
  have m9 := W.m9
  refine ⟨_, (pss_cons (ps_for PassesOwn.never rfl (piL (K := K) (pv 1)) (pg_name (i := 4) sc_first_sure_broken.nd rfl (Or.inl rfl)) (pss_one (ps_if (pt_val (pe_call G_sure_broken (hr.mono (by first | decide | omega)) rfl T.g_sure_broken T.K_sure_broken.kp T.B_sure_broken .nil pass0 (pa_cons (pe_call G_tie_at (hr.mono (by first | decide | omega)) rfl T.g_tie_at T.K_tie_at.kp T.B_tie_at .nil pass0 (pa_cons (pv 0) (pa_cons (pv 4) pa_nil))) (pa_cons (pv 2) (pa_cons (pv 3) pa_nil))))) (pss_one (ps_ret (pv 4))) pss_nil)))
      (pss_one (ps_ret pe_non))), ?_⟩
  refine ⟨_, rfl, tl, rfl, ⟨_, SqL.of htl⟩, ?_⟩
  refine for_list (K := K) (a := tl) (xs := natsL il) (fun i σ H2 => (∃ v, σ = [some (.ref wd), some (.ref tl), some (.int y), some (.int n), v]) ∧ Same H H2 ∧ (il.take i).find? (fun i => sbAt ts i y n) = none) ⟨⟨_, rfl⟩, Same.refl _, rfl⟩ (fun i σ H2 _ z => SqL.of (z.2.1 _ _ htl)) ?_ ?_
  · rintro i x σ H2 hx ⟨⟨v, rfl⟩, s2, hb⟩
    rw [List.getElem?_map] at hx
    obtain ⟨t, ht, rfl⟩ := Option.map_eq_some_iff.mp hx
    have htl' := ilt t (List.mem_of_getElem? ht)
    have W2 := W.same s2
    obtain ⟨xs, ys, WA, dn⟩ := W2.ex
    have hts : ts[t]? = some ts[t] := List.getElem?_eq_getElem htl'
    obtain ⟨v2, hv2, hd⟩ := DnL.get' dn (i := t) (d := ts[t].toD) (by rw [List.getElem?_map, hts]; rfl)
    have esb : sbAt ts t y n = ts[t].sb y n := by unfold sbAt; rw [hts]
    refine ⟨_, rfl, _, rfl, wd, m, xs, ys, t, v2, rfl, WA, hv2, ?_⟩
    refine ⟨_, rfl, _, rfl, ts[t], m, y, n, v2, rfl, hd, W.ok _ (List.getElem_mem htl'), by omega, fun H3 s3 => ?_⟩
    refine ⟨_, rfl, ?_⟩
    refine ite2 (fun c => ?_) (fun c => ?_)
    · have q1 := q H3 (s2.trans s3)
      have e : firstSB ts il y n = some t := by
        unfold firstSB
        have el : il = il.take i ++ t :: il.drop (i + 1) := by
          obtain ⟨hi, e⟩ := List.getElem?_eq_some_iff.mp ht
          rw [← e, List.getElem_cons_drop, List.take_append_drop]
        rw [el, List.find?_append, hb]
        simp [esb, c]
      rw [e] at q1
      exact ⟨_, rfl, q1⟩
    · refine ⟨⟨_, rfl⟩, s2.trans s3, ?_⟩
      rw [List.take_add_one, ht, Option.toList_some, List.find?_append, hb]
      simp [esb, c]
  · rintro σ H2 ⟨⟨v, rfl⟩, s2, hb⟩
    have q1 := q H2 s2
    rw [List.length_map, List.take_length] at hb
    have e : firstSB ts il y n = none := hb
    rw [e] at q1
    exact q1

end
section
variable {P : Program} {w : World} {K : PySem.W.Frag} {mg : Str → Option Value} {base : Heap} {a : Adr} {d : Fds}
theorem keeping_step (T : Txt K mg a d) (f : Nat) (G_first_keeping : f ≠ 0 → FnOk P w K mg base CX0 (f + 6) a.f_first_keeping d.f_first_keeping ["wood", "ties", "yes", "no"] (spKeepF (f - 1))) : FnOk P w K mg base CX0 (f + 7) a.f_first_keeping d.f_first_keeping ["wood", "ties", "yes", "no"] (spKeepF f) := by
  have G_first_sure_broken := ok_first_sure_broken (P := P) (w := w) (base := base) T
  have G_open_options := ok_open_options (P := P) (w := w) (base := base) T
  have G_with_option := ok_with_option (P := P) (w := w) (base := base) T
  refine T.K_first_keeping.ok sc_first_keeping (fun vs H Q E h => ?_) (fun cdv A outer s H vs Q E hr h => ?_)
  · obtain ⟨wd, m, ts, tl, il, y, n, rfl, _⟩ := h
    rfl
  obtain ⟨wd, m, ts, tl, il, y, n, rfl, W, htl, ilt, hf, q⟩ := h
  have m9 := W.m9
  have rest : ∃ t, PSs (cxOf CX0 P w K mg base ["wood", "ties", "yes", "no", "left", "k", "found"] "first_keeping" (defScope s_first_keeping) a.f_first_keeping cdv A outer s H E).nox ((defBody s_first_keeping).drop 4) t ∧ (∀ (k : Nat) (v4 : Option V) (H1 : Hp), Same H H1 → (openL m y n).getLast? = some k → firstSB ts il y n = none → t { nx := fun _ H' => Q .non H', rt := Q } [some (.ref wd), some (.ref tl), some (.int y), some (.int n), v4, some (.int (k : Int)), none] H1) := by
    by_cases hf0 : f = 0
    · refine ⟨tNever, pss_never, ?_⟩
      intro k v4 H1 s1 ho hb
      rw [hf0] at hf
      rw [List.eq_nil_of_length_eq_zero (Nat.le_zero.mp hf)] at ho
      cases ho
    · have G_first_keeping := G_first_keeping hf0
      refine ⟨_, (pss_cons (ps_set (i := 6) sc_first_keeping.nd rfl (Or.inl rfl) (pe_call G_first_keeping (hr.mono (by first | decide | omega)) rfl T.g_first_keeping T.K_first_keeping.kp T.B_first_keeping .nil pass0 (pa_cons (pv 0) (pa_cons (pv 1) (pa_cons (pv 2) (pa_cons (pe_call G_with_option (hr.mono (by first | decide | omega)) rfl T.g_with_option T.K_with_option.kp T.B_with_option .nil pass0 (pa_cons (pv 3) (pa_cons (pv 5) pa_nil))) pa_nil))))))
      (pss_cons (ps_if (pt_cmpR op_notN (pv 6) pe_non (nomark _)) (pss_one (ps_ret (pv 6))) pss_nil)
      (pss_one (ps_ret (pe_call G_first_keeping (hr.mono (by first | decide | omega)) rfl T.g_first_keeping T.K_first_keeping.kp T.B_first_keeping .nil pass0 (pa_cons (pv 0) (pa_cons (pv 1) (pa_cons (pe_call G_with_option (hr.mono (by first | decide | omega)) rfl T.g_with_option T.K_with_option.kp T.B_with_option .nil pass0 (pa_cons (pv 2) (pa_cons (pv 5) pa_nil))) (pa_cons (pv 3) pa_nil))))))))), ?_⟩
      intro k v4 H1 s1 ho hb
      have hk := (open_last ho).1
      have km := (mem_open.mp hk).1
      have l1 := open_less1 hk
      have l2 := open_less2 hk
      have e : keepF ts il m f y n = (match keepF ts il m (f - 1) y (n ||| 2 ^ k) with | some s => some s | none => keepF ts il m (f - 1) (y ||| 2 ^ k) n) := by
        obtain ⟨f', rfl⟩ : ∃ f', f = f' + 1 := ⟨f - 1, by omega⟩
        exact keepF_split hb ho
      refine ⟨_, rfl, _, rfl, _, rfl, _, rfl, _, rfl, n, k, rfl, by omega, wd, m, ts, tl, il, y, n ||| 2 ^ k, rfl, W.same s1, s1 _ _ htl, ilt, by omega, fun H2 s2 => ?_⟩
      obtain ⟨o, ho2⟩ : ∃ o, keepF ts il m (f - 1) y (n ||| 2 ^ k) = o := ⟨_, rfl⟩
      rw [ho2]
      rcases o with _ | g
      · refine ⟨_, rfl, rfl, _, rfl, ?_⟩
        refine iteNS rfl ?_
        refine ⟨_, rfl, _, rfl, _, rfl, _, rfl, y, k, rfl, by omega, _, rfl, wd, m, ts, tl, il, y ||| 2 ^ k, n, rfl, W.same (s1.trans s2), (s1.trans s2) _ _ htl, ilt, by omega, fun H3 s3 => ?_⟩
        have q1 := q H3 ((s1.trans s2).trans s3)
        rw [e, ho2] at q1
        exact q1
      · refine ⟨_, rfl, rfl, _, rfl, ?_⟩
        refine iteNN (by intro z; cases z) ?_
        have q1 := q H2 (s1.trans s2)
        rw [e, ho2] at q1
        exact ⟨_, rfl, q1⟩
  obtain ⟨t4, h4, r4⟩ := rest
  refine ⟨_, (pss_cons (ps_if (pt_cmpR op_notN (pe_call G_first_sure_broken (hr.mono (by first | decide | omega)) rfl T.g_first_sure_broken T.K_first_sure_broken.kp T.B_first_sure_broken .nil pass0 (pa_cons (pv 0) (pa_cons (pv 1) (pa_cons (pv 2) (pa_cons (pv 3) pa_nil))))) pe_non (nomark _)) (pss_one (ps_ret pe_non)) pss_nil)
      (pss_cons (ps_set (i := 4) sc_first_keeping.nd rfl (Or.inl rfl) (pe_call G_open_options (hr.mono (by first | decide | omega)) rfl T.g_open_options T.K_open_options.kp T.B_open_options .nil pass0 (pa_cons (pe_ix (ixT (K := K)) (pv 0) pe_int (fun _ _ => rfl)) (pa_cons (pv 2) (pa_cons (pv 3) pa_nil)))))
      (pss_cons (ps_if (pt_cmpR op_eq (pe_callB (lenS (K := K)) rfl T.m_len PySem.boot_len (pa_cons (pv 4) pa_nil)) pe_int (nomark _)) (pss_one (ps_ret (pv 2))) pss_nil)
      (pss_cons (ps_set (i := 5) sc_first_keeping.nd rfl (Or.inl rfl) (pe_ix (ixL (K := K)) (pv 4) (pe_un un_neg pe_int) (fun _ _ => rfl)))
      h4)))), ?_⟩
  refine ⟨_, rfl, _, rfl, _, rfl, _, rfl, wd, m, ts, tl, il, y, n, rfl, W, htl, ilt, fun H1 s1 => ?_⟩
  obtain ⟨o, ho⟩ : ∃ o, firstSB ts il y n = o := ⟨_, rfl⟩
  rw [ho]
  obtain ⟨xs, ys, ⟨tb, tc, hw, hb, hc⟩, dn⟩ := W.ex
  rcases o with _ | t
  · refine ⟨rfl, _, rfl, ?_⟩
    refine iteNS rfl ?_
    refine ⟨_, rfl, wd, _, _, _, rfl, rfl, sqT (s1 _ _ hw), at0, _, rfl, _, rfl, m, y, n, rfl, by omega, fun l H2 s2 nl hl => ?_⟩
    refine ⟨_, rfl, l, _, rfl, .inl (SqL.of hl), rfl, _, rfl, ?_⟩
    rw [dec_cnt0, List.length_map]
    by_cases hn : openL m y n = []
    · refine iteD (by rw [hn]; rfl) ?_
      have q1 := q H2 (s1.trans s2)
      have e : keepF ts il m f y n = some y := by
        exact keepF_full ho hn
      rw [e] at q1
      exact ⟨_, rfl, q1⟩
    · refine iteDN (fun z => hn (List.eq_nil_of_length_eq_zero z)) ?_
      obtain ⟨k, hk⟩ : ∃ k, (openL m y n).getLast? = some k := by
        cases e : (openL m y n).getLast? with
        | none => exact absurd (List.getLast?_eq_none_iff.mp e) hn
        | some k => exact ⟨k, rfl⟩
      have hat : atI (natsL (openL m y n)) (-1) = some (.int (k : Int)) := by
        obtain ⟨l', e⟩ := List.getLast?_eq_some_iff.mp hk
        rw [e]
        exact at_last l' k
      refine ⟨_, rfl, _, rfl, l, _, _, _, rfl, rfl, SqL.of hl, hat, ?_⟩
      exact r4 k _ H2 (s1.trans s2) hk ho
  · refine ⟨rfl, _, rfl, ?_⟩
    refine iteNN (by intro z; cases z) ?_
    have q1 := q H1 s1
    have e : keepF ts il m f y n = none := by
      exact keepF_broken ho
    rw [e] at q1
    exact q1
theorem ok_first_keeping (T : Txt K mg a d) : ∀ f : Nat, FnOk P w K mg base CX0 (f + 7) a.f_first_keeping d.f_first_keeping ["wood", "ties", "yes", "no"] (spKeepF f)
  | 0 => keeping_step T 0 fun h => absurd rfl h
  | f + 1 => keeping_step T (f + 1) fun _ => ok_first_keeping T f

end
section
variable {P : Program} {w : World} {K : PySem.W.Frag} {mg : Str → Option Value} {base : Heap} {a : Adr} {d : Fds}
theorem ok_first_ware (T : Txt K mg a d) : FnOk P w K mg base CX0 17 a.f_first_ware d.f_first_ware ["wood", "yes", "no"] spFirstW := by
  have G_has := ok_has (P := P) (w := w) (base := base) T
  have G_with_option := ok_with_option (P := P) (w := w) (base := base) T
  have G_every_tie := ok_every_tie (P := P) (w := w) (base := base) T
  have G_first_keeping := ok_first_keeping (P := P) (w := w) (base := base) T 9
  refine T.K_first_ware.ok sc_first_ware (fun vs H Q E h => ?_) (fun cdv A outer s H vs Q E hr h => ?_)
  · obtain ⟨wd, m, ts, y, n, rfl, _⟩ := h
    rfl
  obtain ⟨wd, m, ts, y, n, rfl, W, m9, m1, S, q⟩ := h
  refine ⟨_, (pss_cons (ps_if (pt_val (pe_call G_has (hr.mono (by first | decide | omega)) rfl T.g_has T.K_has.kp T.B_has .nil pass0 (pa_cons (pv 2) (pa_cons pe_int pa_nil)))) (pss_one (ps_ret pe_non)) pss_nil)
      (pss_one (ps_ret (pe_call G_first_keeping (hr.mono (by first | decide | omega)) rfl T.g_first_keeping T.K_first_keeping.kp T.B_first_keeping .nil pass0 (pa_cons (pv 0) (pa_cons (pe_call G_every_tie (hr.mono (by first | decide | omega)) rfl T.g_every_tie T.K_every_tie.kp T.B_every_tie .nil pass0 (pa_cons (pv 0) pa_nil)) (pa_cons (pe_call G_with_option (hr.mono (by first | decide | omega)) rfl T.g_with_option T.K_with_option.kp T.B_with_option .nil pass0 (pa_cons (pv 1) (pa_cons pe_int pa_nil))) (pa_cons (pv 2) pa_nil)))))))), ?_⟩
  refine ⟨_, rfl, _, _, rfl, _, rfl, ?_⟩
  have e0 : hasV (n : Int) 0 = n.testBit 0 := hasV_nat n 0
  rw [e0]
  refine ite2 (fun c => ?_) (fun c => ?_)
  · refine q H none (Same.refl H) fun s' sm hs => ?_
    unfold wareB
    rw [hs.2 0 c, Bool.false_and]
  · have c' := Bool.eq_false_iff.mpr c
    have of := open_few m (y ||| 2 ^ 0) n
    have S' : Stand m (y ||| 2 ^ 0) n := ⟨dj_one S.dj c', put_lt S.ym (by omega), S.nm⟩
    refine ⟨_, rfl, _, rfl, wd, m, ts, rfl, W, fun l H1 s1 nl hl => ?_⟩
    refine ⟨_, rfl, y, 0, rfl, by omega, _, rfl, wd, m, ts, l, allT ts, y ||| 2 ^ 0, n, rfl, W.same s1, hl, fun i hi => List.mem_range.mp hi, by omega, fun H2 s2 => ?_⟩
    have F := keepF_first (il := allT ts) W.ok 9 (y ||| 2 ^ 0) n (by omega) S'
    have iff : ∀ s', InS (y ||| 2 ^ 0) n s' ∧ allKeep ts (allT ts) s' = true ↔ InS y n s' ∧ wareB ts s' = true := fun s' => by
      unfold wareB
      rw [allKeep_all, Bool.and_eq_true]
      constructor
      · rintro ⟨a1, a2⟩
        exact ⟨⟨fun j hj => a1.1 j (by rw [bit_put, hj, Bool.true_or]), a1.2⟩, a1.1 0 (by rw [bit_put, decide_eq_true rfl, Bool.or_true]), a2⟩
      · rintro ⟨a1, a2, a3⟩
        refine ⟨⟨fun j hj => ?_, a1.2⟩, a3⟩
        rw [bit_put, Bool.or_eq_true, decide_eq_true_eq] at hj
        rcases hj with z | rfl
        · exact a1.1 j z
        · exact a2
    generalize keepF ts (allT ts) m 9 (y ||| 2 ^ 0) n = o at F ⊢
    refine q H2 o (s1.trans s2) ?_
    cases o with
    | none =>
      intro s' sm hs
      cases e : wareB ts s' with
      | false => rfl
      | true =>
        have := (iff s').mpr ⟨hs, e⟩
        rw [F s' sm this.1] at this
        cases this.2
    | some g =>
      obtain ⟨b1, b2, b3, b4⟩ := F
      obtain ⟨c1, c2⟩ := (iff g).mp ⟨b2, b3⟩
      refine ⟨b1, c1, c2, fun s' sm hs hw => ?_⟩
      have := (iff s').mpr ⟨hs, hw⟩
      exact b4 s' sm this.1 this.2

end
section
variable {P : Program} {w : World} {K : PySem.W.Frag} {mg : Str → Option Value} {base : Heap} {a : Adr} {d : Fds}
theorem ok_stand_of (T : Txt K mg a d) : FnOk P w K mg base CX0 2 a.f_stand_of d.f_stand_of ["picks"] spStandOf := by
  have G_with_option := ok_with_option (P := P) (w := w) (base := base) T
  refine T.K_stand_of.ok sc_stand_of (fun vs H Q E h => ?_) (fun cdv A outer s H vs Q E hr h => ?_)
  · obtain ⟨pl, ps, rfl, _⟩ := h
    rfl
  obtain ⟨pl, ps, rfl, PA, q⟩ := h
  obtain ⟨xs, hpl, pk⟩ := PA.ex
  have lx := pk.length
  refine ⟨_, (pss_cons (ps_set (i := 1) sc_stand_of.nd rfl (Or.inl rfl) (pe_call G_with_option (hr.mono (by first | decide | omega)) rfl T.g_with_option T.K_with_option.kp T.B_with_option .nil pass0 (pa_cons pe_int (pa_cons pe_int pa_nil))))
      (pss_cons (ps_set (i := 2) sc_stand_of.nd rfl (Or.inl rfl) pe_int)
      (pss_cons (ps_for PassesOwn.never rfl (piL (K := K) (pv 0)) (pgT (K := K) (n := 2) rfl (pgs_cons (pg_name (i := 3) sc_stand_of.nd rfl (Or.inl rfl)) (pgs_cons (pg_name (i := 4) sc_stand_of.nd rfl (Or.inl rfl)) pgs_nil))) (pss_one (ps_if (pt_val (pv 4)) (pss_one (ps_set (i := 1) sc_stand_of.nd rfl (Or.inl rfl) (pe_call G_with_option (hr.mono (by first | decide | omega)) rfl T.g_with_option T.K_with_option.kp T.B_with_option .nil pass0 (pa_cons (pv 1) (pa_cons (pv 3) pa_nil))))) (pss_one (ps_set (i := 2) sc_stand_of.nd rfl (Or.inl rfl) (pe_call G_with_option (hr.mono (by first | decide | omega)) rfl T.g_with_option T.K_with_option.kp T.B_with_option .nil pass0 (pa_cons (pv 2) (pa_cons (pv 3) pa_nil))))))))
      (pss_one (ps_ret (pe_tup (pa_cons (pv 1) (pa_cons (pv 2) pa_nil)))))))), ?_⟩
  refine ⟨0, 0, rfl, by decide, ?_⟩
  refine ⟨_, rfl, pl, rfl, ⟨_, SqL.of hpl⟩, ?_⟩
  refine for_list (K := K) (a := pl) (xs := xs) (fun i σ H2 => (∃ v3 v4 : Option V, σ = [some (.ref pl), some (.int (yesOf (ps.take i) : Int)), some (.int (noOf (ps.take i) : Int)), v3, v4]) ∧ H2 = H) ⟨⟨none, none, rfl⟩, rfl⟩ (fun i σ H2 _ z => by rw [z.2]; exact SqL.of hpl) ?_ ?_
  · rintro i x σ H2 hx ⟨⟨v3, v4, rfl⟩, rfl⟩
    obtain ⟨p, t, hp, rfl, ht⟩ := pk.get hx
    have et : ps.take (i + 1) = ps.take i ++ [p] := by rw [List.take_add_one, hp, Option.toList_some]
    have ple := PA.le p (List.mem_of_getElem? hp)
    refine ⟨t, _, rfl, sqT ht, rfl, _, _, rfl, _, _, rfl, rfl, ?_⟩
    refine ⟨_, rfl, _, rfl, ?_⟩
    cases e : p.2
    · refine iteF ?_
      refine ⟨_, rfl, _, rfl, noOf (ps.take i), p.1, rfl, by omega, ?_⟩
      refine ⟨⟨some (.int (p.1 : Int)), some (.bl false), ?_⟩, rfl⟩
      rw [et, yes_snoc, no_snoc, e]
      rfl
    · refine iteT ?_
      refine ⟨_, rfl, _, rfl, yesOf (ps.take i), p.1, rfl, by omega, ?_⟩
      refine ⟨⟨some (.int (p.1 : Int)), some (.bl true), ?_⟩, rfl⟩
      rw [et, yes_snoc, no_snoc, e]
      rfl
  · rintro σ H2 ⟨⟨v3, v4, rfl⟩, rfl⟩
    rw [← lx, List.take_length]
    refine ⟨_, rfl, _, rfl, small (by show 2 ≤ 1000; decide), fun t ht => ?_⟩
    exact q t _ (same_new ht _) upd_same

end
section
variable {P : Program} {w : World} {K : PySem.W.Frag} {mg : Str → Option Value} {base : Heap} {a : Adr} {d : Fds}
theorem ok_open_at (T : Txt K mg a d) : FnOk P w K mg base CX0 3 a.f_open_at d.f_open_at ["wood", "picks"] spOpenAt := by
  have G_stand_of := ok_stand_of (P := P) (w := w) (base := base) T
  have G_open_options := ok_open_options (P := P) (w := w) (base := base) T
  refine T.K_open_at.ok sc_open_at (fun vs H Q E h => ?_) (fun cdv A outer s H vs Q E hr h => ?_)
  · obtain ⟨wd, pl, m, xs, ys, ps, rfl, _⟩ := h
    rfl
  obtain ⟨wd, pl, m, xs, ys, ps, rfl, WA, m9, PA, q⟩ := h
  refine ⟨_, (pss_cons (ps_set (i := 2) sc_open_at.nd rfl (Or.inl rfl) (pe_call G_stand_of (hr.mono (by first | decide | omega)) rfl T.g_stand_of T.K_stand_of.kp T.B_stand_of .nil pass0 (pa_cons (pv 1) pa_nil)))
      (pss_one (ps_ret (pe_call G_open_options (hr.mono (by first | decide | omega)) rfl T.g_open_options T.K_open_options.kp T.B_open_options .nil pass0 (pa_cons (pe_ix (ixT (K := K)) (pv 0) pe_int (fun _ _ => rfl)) (pa_cons (pe_ix (ixT (K := K)) (pv 2) pe_int (fun _ _ => rfl)) (pa_cons (pe_ix (ixT (K := K)) (pv 2) pe_int (fun _ _ => rfl)) pa_nil))))))), ?_⟩
  refine ⟨_, rfl, pl, ps, rfl, PA, fun t H1 s1 ht => ?_⟩
  obtain ⟨tb, tc, hw, hb, hc⟩ := WoodAt.same s1 WA
  refine ⟨_, rfl, wd, _, _, _, rfl, rfl, sqT hw, at0, _, rfl, t, _, _, _, rfl, rfl, sqT ht, at0, _, rfl, t, _, _, _, rfl, rfl, sqT ht, at1, ?_⟩
  exact ⟨m, yesOf ps, noOf ps, rfl, m9, fun l H2 s2 nl hl => q l H2 (s1.trans s2) (s1.free nl) hl⟩

end
section
variable {P : Program} {w : World} {K : PySem.W.Frag} {mg : Str → Option Value} {base : Heap} {a : Adr} {d : Fds}
theorem ok_first_ware_at (T : Txt K mg a d) : FnOk P w K mg base CX0 18 a.f_first_ware_at d.f_first_ware_at ["wood", "picks"] spFirstAt := by
  have G_stand_of := ok_stand_of (P := P) (w := w) (base := base) T
  have G_first_ware := ok_first_ware (P := P) (w := w) (base := base) T
  refine T.K_first_ware_at.ok sc_first_ware_at (fun vs H Q E h => ?_) (fun cdv A outer s H vs Q E hr h => ?_)
  · obtain ⟨wd, pl, m, ts, ps, rfl, _⟩ := h
    rfl
  obtain ⟨wd, pl, m, ts, ps, rfl, W, m9, m1, PA, S, q⟩ := h
  refine ⟨_, (pss_cons (ps_set (i := 2) sc_first_ware_at.nd rfl (Or.inl rfl) (pe_call G_stand_of (hr.mono (by first | decide | omega)) rfl T.g_stand_of T.K_stand_of.kp T.B_stand_of .nil pass0 (pa_cons (pv 1) pa_nil)))
      (pss_one (ps_ret (pe_call G_first_ware (hr.mono (by first | decide | omega)) rfl T.g_first_ware T.K_first_ware.kp T.B_first_ware .nil pass0 (pa_cons (pv 0) (pa_cons (pe_ix (ixT (K := K)) (pv 2) pe_int (fun _ _ => rfl)) (pa_cons (pe_ix (ixT (K := K)) (pv 2) pe_int (fun _ _ => rfl)) pa_nil))))))), ?_⟩
  refine ⟨_, rfl, pl, ps, rfl, PA, fun t H1 s1 ht => ?_⟩
  refine ⟨_, rfl, _, rfl, t, _, _, _, rfl, rfl, sqT ht, at0, _, rfl, t, _, _, _, rfl, rfl, sqT ht, at1, ?_⟩
  exact ⟨wd, m, ts, yesOf ps, noOf ps, rfl, W.same s1, m9, m1, S, fun H2 o s2 h => q H2 o (s1.trans s2) (by cases o <;> exact h)⟩

end
section
variable {P : Program} {w : World} {K : PySem.W.Frag} {mg : Str → Option Value} {base : Heap} {a : Adr} {d : Fds}
theorem ok_leads_on (T : Txt K mg a d) : FnOk P w K mg base CX0 19 a.f_leads_on d.f_leads_on ["wood", "picks", "pick"] spLeads := by
  have G_first_ware_at := ok_first_ware_at (P := P) (w := w) (base := base) T
  refine T.K_leads_on.ok sc_leads_on (fun vs H Q E h => ?_) (fun cdv A outer s H vs Q E hr h => ?_)
  · obtain ⟨wd, pl, tp, m, ts, ps, p, rfl, _⟩ := h
    rfl
  obtain ⟨wd, pl, tp, m, ts, ps, p, rfl, W, m9, m1, PA, pf, p20, htp, S, q⟩ := h
  obtain ⟨xs, hpl, pk⟩ := PA.ex
  have lx := pk.length
  refine ⟨_, (pss_one (ps_ret (pe_cmpR op_notN (pe_call G_first_ware_at (hr.mono (by first | decide | omega)) rfl T.g_first_ware_at T.K_first_ware_at.kp T.B_first_ware_at .nil pass0 (pa_cons (pv 0) (pa_cons (pe_op op_cat (pv 1) (pe_lst (pa_cons (pv 2) pa_nil))) pa_nil))) pe_non (nomark _)))), ?_⟩
  refine ⟨_, rfl, _, rfl, _, rfl, small (by show 1 ≤ 1000; decide), fun l1 hl1 => ?_⟩
  have s1 := same_new hl1 (.lst [.ref tp])
  have h1 : L2.upd H l1 (.lst [.ref tp]) l1 = some (.lst [.ref tp]) := upd_same
  generalize L2.upd H l1 (.lst [.ref tp]) = H1 at s1 h1 ⊢
  refine ⟨pl, l1, _, _, rfl, rfl, s1 _ _ hpl, h1, small (by show xs.length + 1 ≤ 1000; omega), fun l2 hl2 => ?_⟩
  have s2 := same_new hl2 (.lst (xs ++ [.ref tp]))
  have h2 : L2.upd H1 l2 (.lst (xs ++ [.ref tp])) l2 = some (.lst (xs ++ [.ref tp])) := upd_same
  generalize L2.upd H1 l2 (.lst (xs ++ [.ref tp])) = H2 at s2 h2 ⊢
  have s12 := s1.trans s2
  have PB : PicksAt H2 l2 (ps ++ [p]) := ⟨⟨_, h2, PickL.snoc (s12 _ _ htp) (pk.same (Same.tup s12))⟩, by rw [List.length_append, List.length_singleton]; omega, fun x hx => by
    rcases List.mem_append.mp hx with z | z
    · exact PA.le x z
    · rw [List.mem_singleton.mp z]; exact p20⟩
  refine ⟨wd, l2, m, ts, ps ++ [p], rfl, W.same s12, m9, m1, PB, S, fun H3 o s3 ho => ?_⟩
  have q1 := q H3 o (s12.trans s3) ho
  refine ⟨rfl, ?_⟩
  cases o <;> exact q1

end
section
variable {P : Program} {w : World} {K : PySem.W.Frag} {mg : Str → Option Value} {base : Heap} {a : Adr} {d : Fds}
theorem ok_law_take (T : Txt K mg a d) : FnOk P w K mg base CX0 1 a.f_law_take d.f_law_take ["_law_state", "_law_most"] (spNext K) := by
  refine T.K_law_take.ok sc_law_take (fun vs H Q E h => ?_) (fun cdv A outer s H vs Q E hr h => ?_)
  · obtain ⟨pen, sp, ns, most, k, rfl, _⟩ := h
    rfl
  obtain ⟨pen, sp, ns, most, k, rfl, pn, k0, k1, m0, q⟩ := h
  have hp := pn.at_
  have el : (ns.map V.int).length = ns.length := List.length_map _
  have item : ∀ j : Int, 0 ≤ j → j < ns.length → ∃ v : Int, atI (ns.map V.int) j = some (.int v) := fun j j0 j1 => by
    obtain ⟨m, rfl⟩ : ∃ m : Nat, j = (m : Int) := ⟨j.toNat, by omega⟩
    have hj : m < ns.length := by omega
    refine ⟨ns[m], atI_nat ?_⟩
    rw [List.getElem?_map, List.getElem?_eq_getElem hj]
    rfl
  have last : ∃ t, PSs (cxOf CX0 P w K mg base ["_law_state", "_law_most", "_law_script", "_law_at", "_law_number"] "_law_take" (defScope s_law_take) a.f_law_take cdv A outer s H E).nox ((defBody s_law_take).drop 5) t ∧ ∀ (N : Int) (v0 v2 v3 : Option V), t { nx := fun _ H' => Q .non H', rt := Q } [v0, some (.int most), v2, v3, some (.int N)] (L2.upd H pen (.lst [.ref sp, .int (k + 1)])) := by
    refine ⟨_, (pss_one (ps_ret (pe_op op_mod (pe_op op_mod (pe_op op_mul (pe_op op_mod (pe_op op_mul (pv 4) pe_int) pe_int) (pe_op op_add (pe_op op_mod (pv 4) pe_int) pe_int)) pe_int) (pv 1)))), fun N v0 v2 v3 => ?_⟩
    have n0 : 0 ≤ N * 48271 % 2147483629 := Int.emod_nonneg _ (by decide)
    have n1 : N * 48271 % 2147483629 < 2147483629 := Int.emod_lt_of_pos _ (by decide)
    refine ⟨_, rfl, _, _, rfl, rfl, .inr ⟨by decide, by decide⟩, _, _, rfl, rfl, (by show (0 : Int) < 2147483629; decide), _, rfl, _, _, rfl, rfl, (by show (0 : Int) < 65521; decide), _, _, rfl, rfl, _, _, rfl, rfl, .inl ⟨by omega, by omega⟩, _, _, rfl, rfl, (by show (0 : Int) < 999999937; decide), _, rfl, _, _, rfl, rfl, m0, ?_⟩
    exact q _ (Int.emod_nonneg _ (by omega)) (Int.emod_lt_of_pos _ m0)
  obtain ⟨t5, h5, r5⟩ := last
  refine ⟨_, (pss_cons (ps_asg (pv 0) (pg_lst (K := K) rfl (pgs_cons (pg_name (i := 2) sc_law_take.nd rfl (Or.inl rfl)) (pgs_cons (pg_name (i := 3) sc_law_take.nd rfl (Or.inl rfl)) pgs_nil))))
      (pss_cons (ps_asg (pe_op op_add (pv 3) pe_int) (pg_sub (pv 0) pe_int set_list))
      (pss_cons (ps_if (pt_cmpR op_lt (pv 3) (pe_callB (lenS (K := K)) rfl T.m_len PySem.boot_len (pa_cons (pv 2) pa_nil)) (nomark _)) (pss_one (ps_ret (pe_op op_mod (pe_ix (ixL (K := K)) (pv 2) (pv 3) (fun _ _ => rfl)) (pv 1)))) pss_nil)
      (pss_cons (ps_set (i := 4) sc_law_take.nd rfl (Or.inl rfl) (pe_op op_add (pe_op op_add (pe_op op_mul (pe_op op_mul (pv 3) (pv 3)) pe_int) (pe_op op_mul pe_int (pv 3))) pe_int))
      (pss_cons (ps_if (pt_cmpR op_gt (pe_callB (lenS (K := K)) rfl T.m_len PySem.boot_len (pa_cons (pv 2) pa_nil)) pe_int (nomark _)) (pss_one (ps_set (i := 4) sc_law_take.nd rfl (Or.inl rfl) (pe_op op_add (pv 4) (pe_op op_mul (pe_op op_mod (pe_ix (ixL (K := K)) (pv 2) (pe_op op_mod (pe_op op_mul (pv 3) pe_int) (pe_callB (lenS (K := K)) rfl T.m_len PySem.boot_len (pa_cons (pv 2) pa_nil))) (fun _ _ => rfl)) pe_int) (pe_op op_add (pv 3) pe_int))))) pss_nil)
      h5))))), ?_⟩
  refine ⟨_, rfl, pen, _, rfl, SqL.of hp, rfl, _, _, rfl, _, _, rfl, rfl, ?_⟩
  refine ⟨_, rfl, _, _, rfl, rfl, _, rfl, pen, _, _, _, rfl, rfl, hp, rfl, ?_⟩
  have hS := pn.scr _ (sameX_pen (pen := pen) (H := H) (.lst [.ref sp, .int (k + 1)]))
  refine ⟨_, rfl, _, rfl, sp, _, rfl, .inl hS, _, _, rfl, rfl, _, rfl, ?_⟩
  refine ite2 (fun c => ?_) (fun c => ?_)
  · have c' : k < ((ns.map V.int).length : Nat) := of_decide_eq_true c
    rw [el] at c'
    obtain ⟨v, hv⟩ := item k k0 c'
    exact ⟨_, rfl, _, rfl, sp, _, _, _, rfl, rfl, hS, hv, _, rfl, _, _, rfl, rfl, m0, q _ (Int.emod_nonneg _ (by omega)) (Int.emod_lt_of_pos _ m0)⟩
  refine ⟨_, rfl, _, rfl, _, _, rfl, rfl, (by unfold CMul; omega), _, _, rfl, rfl, .inr ⟨by decide, by decide⟩, _, rfl, _, _, rfl, rfl, .inl ⟨by decide, by decide⟩, _, _, rfl, rfl, _, _, rfl, rfl, ?_⟩
  refine ⟨_, rfl, sp, _, rfl, .inl hS, _, _, rfl, rfl, _, rfl, ?_⟩
  refine ite2 (fun c2 => ?_) (fun c2 => ?_)
  · have c2' : (0 : Int) < ((ns.map V.int).length : Nat) := of_decide_eq_true c2
    rw [el] at c2'
    have m0' : 0 ≤ k * 3 % (ns.length : Int) := Int.emod_nonneg _ (by omega)
    have m1' : k * 3 % (ns.length : Int) < ns.length := Int.emod_lt_of_pos _ c2'
    obtain ⟨v, hv⟩ := item _ m0' m1'
    have v0 : 0 ≤ v % 2147483563 := Int.emod_nonneg _ (by decide)
    have v1 : v % 2147483563 < 2147483563 := Int.emod_lt_of_pos _ (by decide)
    refine ⟨_, rfl, _, rfl, _, rfl, _, _, rfl, rfl, .inr ⟨by decide, by decide⟩, _, rfl, sp, _, rfl, .inl hS, _, _, rfl, rfl, (by rw [el]; exact c2'), sp, _, _, _, rfl, rfl, hS, (by rw [el]; exact hv), ?_⟩
    refine ⟨_, _, rfl, rfl, (by show (0 : Int) < 2147483563; decide), _, rfl, _, _, rfl, rfl, _, _, rfl, rfl, .inl ⟨by omega, by omega⟩, _, _, rfl, rfl, ?_⟩
    exact r5 _ _ _ _
  · exact r5 _ _ _ _

end
section
variable {P : Program} {w : World} {K : PySem.W.Frag} {mg : Str → Option Value} {base : Heap} {a : Adr} {d : Fds}
theorem ok_law_boughs (T : Txt K mg a d) : FnOk P w K mg base CX0 2 a.f_law_boughs d.f_law_boughs ["_law_state", "_law_many"] (spBoughsP K) := by
  have G_law_take := ok_law_take (P := P) (w := w) (base := base) T
  refine T.K_law_boughs.ok sc_law_boughs (fun vs H Q E h => ?_) (fun cdv A outer s H vs Q E hr h => ?_)
  · obtain ⟨pen, sp, ns, m, k, rfl, _⟩ := h
    rfl
  obtain ⟨pen, sp, ns, m, k, rfl, pn, k0, k1, m1, m9, q⟩ := h
  have p62 : (2 : Int) ^ 62 = 4611686018427387904 := by decide
  have tailA : ∃ t, PSs (cxOf CX0 P w K mg base ["_law_state", "_law_many", "_law_groups", "_law_k", "_law_up", "_law_old", "_law_boughs_here", "_law_kids", "_law_size", "_law_low", "_law_high"] "_law_boughs" (defScope s_law_boughs) a.f_law_boughs cdv A outer s H E).nox ((forBody (defBody s_law_boughs) 3).drop 3) t ∧ ∀ (D : Ends) (g bl l : Addr) (u lo hi : Int) (kids : List Int) (v3 v5 v8 : Option V) (xs : List V) (H5 : Hp), H5 l = some (.lst (kids.map V.int)) → H5 bl = some (.lst xs) → xs.length ≤ 100 →
      (∀ (v : V) (H6 : Hp), Same H5 H6 → Dn H6 (bghD u lo hi kids) v → D.nx [some (.ref pen), some (.int (m : Int)), some (.ref g), v3, some (.int u), v5, some (.ref bl), some (.ref l), v8, some (.int lo), some (.int hi)] (L2.upd H6 bl (.lst (xs ++ [v])))) →
      t D [some (.ref pen), some (.int (m : Int)), some (.ref g), v3, some (.int u), v5, some (.ref bl), some (.ref l), v8, some (.int lo), some (.int hi)] H5 := by
    refine ⟨_, (pss_one (ps_expr (pe_bmK (K := K) PySem.F.plainAttrs_list PySem.F.slot_list_append PySem.F.type_list_append mt_append (pv 6) (pa_cons (pe_tup (pa_cons (pv 4) (pa_cons (pv 9) (pa_cons (pv 10) (pa_cons (pe_callTy call_tuple_of rfl T.m_tuple PyProof.Rows.boot_tuple (pa_cons (pv 7) pa_nil)) pa_nil))))) pa_nil)))), ?_⟩
    intro D g bl l u lo hi kids v3 v5 v8 xs H5 hl hbl few nx
    refine ⟨_, rfl, .inl ⟨rfl, _, SqL.of hbl⟩, _, rfl, _, rfl, _, rfl, _, rfl, l, _, rfl, .inl ⟨SqL.of hl, fun tk htk => ?_⟩⟩
    refine ⟨small (by show 4 ≤ 1000; decide), fun tb htb => ?_⟩
    have s1 := same_new htk (.tup (kids.map V.int))
    have s2 := same_new htb (.tup [.int u, .int lo, .int hi, .ref tk])
    have s12 := s1.trans s2
    refine ⟨bl, _, _, rfl, rfl, s12 _ _ hbl, small1000 (by omega), ?_⟩
    exact nx _ _ s12 ⟨tb, _, rfl, upd_same, _, _, rfl, rfl, _, _, rfl, rfl, _, _, rfl, rfl, _, _, rfl, ⟨tk, _, rfl, s2 _ _ upd_same, ints_dnl kids⟩, rfl⟩
  obtain ⟨tA, hA, rA⟩ := tailA
  refine ⟨_, (pss_cons (ps_set (i := 2) sc_law_boughs.nd rfl (Or.inl rfl) (pe_lst pa_nil))
      (pss_cons (ps_for PassesOwn.never rfl (pi_range2 rfl T.m_range (pa_cons pe_int (pa_cons (pv 1) pa_nil))) (pg_name (i := 3) sc_law_boughs.nd rfl (Or.inl rfl)) (pss_cons (ps_set (i := 4) sc_law_boughs.nd rfl (Or.inr rfl) (pe_op op_mul (pe_call G_law_take (hr.mono (by first | decide | omega)) rfl T.g_law_take T.K_law_take.kp T.B_law_take .nil pass0 (pa_cons (pv 0) (pa_cons (pv 3) pa_nil))) (pe_callTy call_int1 rfl T.m_int PyProof.Rows.boot_int (pa_cons (pe_cmpR op_gt (pe_call G_law_take (hr.mono (by first | decide | omega)) rfl T.g_law_take T.K_law_take.kp T.B_law_take .nil pass0 (pa_cons (pv 0) (pa_cons pe_int pa_nil))) pe_int (nomark _)) pa_nil))))
      (pss_cons (ps_setLc (i := 5) sc_law_boughs.nd rfl rfl rfl (sc0 := defScope s_law_boughs) (XN := ["_law_state", "_law_many", "_law_groups", "_law_k", "_law_up", "_law_old", "_law_boughs_here", "_law_kids", "_law_size", "_law_low", "_law_high"]) (N' := ["_law_group", "_law_up"]) (n := 1) (kp := [4]) rfl (piL (K := K) (pv 2)) rfl rfl (by decide +kernel) (fun _ _ _ _ _ => (pg_name (i := 0) (by show List.Nodup (["_law_group", "_law_up"] : List Str); decide +kernel) rfl (Or.inl rfl))) (fun _ _ _ _ _ => (pts_one (pt_cmpR op_eq (pe_ix (ixT (K := K)) (pv 0) pe_int (fun _ _ => rfl)) (pv 1) (nomark _)))) (fun _ _ _ _ _ => (pv 0)))
      (pss_one (ps_if (PW.pt (pw_and (pt_cmpR (op_ne_data hr.units) (pv 5) (pe_lst pa_nil) (nomark _)) (pw_and1 (pt_cmpR op_gt (pe_call G_law_take (hr.mono (by first | decide | omega)) rfl T.g_law_take T.K_law_take.kp T.B_law_take .nil pass0 (pa_cons (pv 0) (pa_cons pe_int pa_nil))) pe_int (nomark _))))) (pss_one (ps_expr (pe_bmK (K := K) PySem.F.plainAttrs_list PySem.F.slot_list_append PySem.F.type_list_append mt_append (pe_ix (ixT (K := K)) (pe_ix (ixL (K := K)) (pv 5) (pe_un un_neg pe_int) (fun _ _ => rfl)) pe_int (fun _ _ => rfl)) (pa_cons (pv 3) pa_nil)))) (pss_one (ps_expr (pe_bmK (K := K) PySem.F.plainAttrs_list PySem.F.slot_list_insert PySem.F.type_list_insert mt_insert (pv 2) (pa_cons (pe_call G_law_take (hr.mono (by first | decide | omega)) rfl T.g_law_take T.K_law_take.kp T.B_law_take .nil pass0 (pa_cons (pv 0) (pa_cons (pe_op op_add (pe_callB (lenS (K := K)) rfl T.m_len PySem.boot_len (pa_cons (pv 2) pa_nil)) pe_int) pa_nil))) (pa_cons (pe_tup (pa_cons (pv 4) (pa_cons (pe_lst (pa_cons (pv 3) pa_nil)) pa_nil))) pa_nil))))))))))
      (pss_cons (ps_set (i := 6) sc_law_boughs.nd rfl (Or.inl rfl) (pe_lst pa_nil))
      (pss_cons (ps_for PassesOwn.never rfl (piL (K := K) (pv 2)) (pgT (K := K) (n := 2) rfl (pgs_cons (pg_name (i := 4) sc_law_boughs.nd rfl (Or.inr rfl)) (pgs_cons (pg_name (i := 7) sc_law_boughs.nd rfl (Or.inl rfl)) pgs_nil))) (pss_cons (ps_set (i := 8) sc_law_boughs.nd rfl (Or.inl rfl) (pe_callB (lenS (K := K)) rfl T.m_len PySem.boot_len (pa_cons (pv 7) pa_nil)))
      (pss_cons (ps_asg (pe_ix (ixL (K := K)) (pe_lst (pa_cons (pe_tup (pa_cons (pv 8) (pa_cons (pv 8) pa_nil))) (pa_cons (pe_tup (pa_cons pe_int (pa_cons (pv 8) pa_nil))) (pa_cons (pe_tup (pa_cons pe_int (pa_cons pe_int pa_nil))) (pa_cons (pe_tup (pa_cons pe_int (pa_cons pe_int pa_nil))) pa_nil))))) (pe_call G_law_take (hr.mono (by first | decide | omega)) rfl T.g_law_take T.K_law_take.kp T.B_law_take .nil pass0 (pa_cons (pv 0) (pa_cons pe_int pa_nil))) (fun _ _ => rfl)) (pgT (K := K) (n := 2) rfl (pgs_cons (pg_name (i := 9) sc_law_boughs.nd rfl (Or.inl rfl)) (pgs_cons (pg_name (i := 10) sc_law_boughs.nd rfl (Or.inl rfl)) pgs_nil))))
      (pss_cons (ps_if (pt_cmpR op_eq (pe_call G_law_take (hr.mono (by first | decide | omega)) rfl T.g_law_take T.K_law_take.kp T.B_law_take .nil pass0 (pa_cons (pv 0) (pa_cons pe_int pa_nil))) pe_int (nomark _)) (pss_cons (ps_set (i := 9) sc_law_boughs.nd rfl (Or.inl rfl) (pe_call G_law_take (hr.mono (by first | decide | omega)) rfl T.g_law_take T.K_law_take.kp T.B_law_take .nil pass0 (pa_cons (pv 0) (pa_cons (pe_op op_add (pv 8) pe_int) pa_nil))))
      (pss_one (ps_set (i := 10) sc_law_boughs.nd rfl (Or.inl rfl) (pe_callB (call_max2 rfl) rfl T.m_max PyProof.Rows.boot_max (pa_cons pe_int (pa_cons (pe_op op_add (pv 9) (pe_call G_law_take (hr.mono (by first | decide | omega)) rfl T.g_law_take T.K_law_take.kp T.B_law_take .nil pass0 (pa_cons (pv 0) (pa_cons (pe_op op_add (pe_op op_sub (pv 8) (pv 9)) pe_int) pa_nil)))) pa_nil)))))) pss_nil)
      hA))))
      (pss_one (ps_ret (pv 6))))))), ?_⟩
  refine ⟨small (by decide), fun g hg => ?_⟩
  have ngp : pen ≠ g := ne_of_none pn.at_ hg
  refine ⟨_, rfl, _, _, rfl, ⟨by rw [p62]; omega, by rw [p62]; omega, by rw [p62]; omega, by rw [p62]; omega⟩, ?_⟩
  obtain ⟨Pv, hPv⟩ : ∃ Pv : Nat → St → Hp → Prop, ∀ i σ H2, Pv i σ H2 ↔ (∃ (v3 v4 v5 : Option V) (gs : List Grp) (kk : Int), σ = [some (.ref pen), some (.int (m : Int)), some (.ref g), v3, v4, v5, none, none, none, none, none] ∧ SameX pen H H2 ∧ H2 pen = some (.lst [.ref sp, .int kk]) ∧ k ≤ kk ∧ kk ≤ k + 4 * i ∧ GAt H H2 g gs ∧ GOk ((i : Int) + 1) gs) := ⟨_, fun _ _ _ => Iff.rfl⟩
  refine for_range (lo := 1) (n := ((m : Int) - 1).toNat) Pv ((hPv _ _ _).mpr ⟨none, none, none, [], k, rfl, Same.x (same_new hg _), (same_new hg _) _ _ pn.at_, Int.le_refl _, by omega, ⟨upd_same, hg, (fun _ z => nomatch z), (fun _ z => nomatch z), List.nodup_nil⟩, ⟨(fun _ z => nomatch z), List.Perm.refl _⟩⟩) ?_ ?_
  · rintro i σ H2 hi pv0
    obtain ⟨v3, v4, v5, gs, kk, rfl, sx, hp2, kk0, kk1, GA, GK⟩ := (hPv _ _ _).mp pv0
    have few := GK.few
    have i9 : (i : Int) < 9 := by omega
    have el : ∀ l : List Grp, (l.map fun x => V.ref x.t).length = l.length := fun l => List.length_map _
    have e1 : 1 + (i : Int) = (i : Int) + 1 := by omega
    have e2 : ((i + 1 : Nat) : Int) + 1 = (i : Int) + 2 := by omega
    refine ⟨_, rfl, _, rfl, pen, sp, ns, _, kk, rfl, pn.to sx hp2, by omega, by omega, by omega, fun c c0 c1 => ?_⟩
    have sx3 := sx.trans (sameX_pen (pen := pen) (H := H2) (.lst [.ref sp, .int (kk + 1)]))
    have GA3 := GA.pen (ys := [.ref sp, .int (kk + 1)]) ⟨_, pn.at_⟩ hp2
    refine ⟨_, rfl, pen, sp, ns, 3, kk + 1, rfl, pn.to sx3 upd_same, by omega, by omega, by decide, fun d d0 d1 => ?_⟩
    have sx4 := sx3.trans (sameX_pen (pen := pen) (.lst [.ref sp, .int (kk + 1 + 1)]))
    have GA4 := GA3.pen (ys := [.ref sp, .int (kk + 1 + 1)]) ⟨_, pn.at_⟩ upd_same
    have hp4 : L2.upd (L2.upd H2 pen (.lst [.ref sp, .int (kk + 1)])) pen (.lst [.ref sp, .int (kk + 1 + 1)]) pen = some (.lst [.ref sp, .int (kk + 1 + 1)]) := upd_same
    generalize L2.upd (L2.upd H2 pen (.lst [.ref sp, .int (kk + 1)])) pen (.lst [.ref sp, .int (kk + 1 + 1)]) = H4 at sx4 GA4 hp4 ⊢
    refine ⟨_, _, rfl, rfl, .inr ⟨_, rfl, ?_⟩⟩
    refine ⟨_, _, rfl, rfl, .inl ⟨by omega, by omega⟩, ?_⟩
    obtain ⟨u, hu, u0, u1⟩ : ∃ u : Int, c * (if decide (d > 0) = true then 1 else 0) = u ∧ 0 ≤ u ∧ u < (i : Int) + 1 := by
      refine ⟨_, rfl, ?_, ?_⟩ <;> split <;> omega
    dsimp only
    rw [hu]
    refine ⟨_, rfl, g, rfl, ⟨_, SqL.of GA4.at_⟩, ?_⟩
    refine lc_list (K := K) (a := g) (xs := gs.map fun x => V.ref x.t) (fun j ys σ H5 => (∃ v, σ = [v, some (.int u)]) ∧ H5 = H4 ∧ ys = ((gs.take j).filter fun x => decide (x.up = u)).map fun x => V.ref x.t) ⟨⟨none, rfl⟩, rfl, rfl⟩ (fun j ys σ H5 hj pv => ?_) (fun j ys σ H5 hj pv => ?_) (fun j x ys σ H5 hx pv => ?_) (fun ys σ H5 pv ol hol => ?_)
    · obtain ⟨_, _, rfl⟩ := pv
      rw [el]
      have := List.length_filter_le (fun x : Grp => decide (x.up = u)) (gs.take j)
      rw [List.length_take] at this
      exact small (by omega)
    · rw [pv.2.1]
      exact SqL.of GA4.at_
    · obtain ⟨⟨v, rfl⟩, rfl, rfl⟩ := pv
      rw [List.getElem?_map] at hx
      obtain ⟨y, hy, rfl⟩ := Option.map_eq_some_iff.mp hx
      have et : gs.take (j + 1) = gs.take j ++ [y] := by rw [List.take_add_one, hy, Option.toList_some]
      refine ⟨_, rfl, y.t, _, _, _, rfl, rfl, sqT (GA4.tup y (List.mem_of_getElem? hy)), at0, _, rfl, rfl, _, rfl, ?_⟩
      by_cases cc : y.up = u
      · refine iteD (by rw [cc]) ?_
        refine ⟨_, rfl, ⟨_, rfl⟩, rfl, ?_⟩
        rw [et, List.filter_append, List.filter_cons_of_pos (by simpa using cc), List.map_append]
        rfl
      · refine iteDN (fun z => cc (by injection z)) ?_
        refine ⟨⟨_, rfl⟩, rfl, ?_⟩
        rw [et, List.filter_append, List.filter_cons_of_neg (by simpa using cc), List.filter_nil, List.append_nil]
    obtain ⟨_, rfl, rfl⟩ := pv
    have nop : ol ≠ pen := Ne.symm (ne_of_none hp4 hol)
    rw [el, List.take_length] at *
    generalize hold : gs.filter (fun x => decide (x.up = u)) = old at *
    have omem : ∀ x ∈ old, x ∈ gs := fun x hx => by rw [← hold] at hx; exact (List.mem_filter.mp hx).1
    have s6 := same_new hol (.lst (old.map fun x => V.ref x.t))
    have GA6 := GA4.same s6
    have hp6 := s6 _ _ hp4
    have sx6 := sx4.trans (Same.x s6)
    have hol6 : L2.upd H5 ol (.lst (old.map fun x => V.ref x.t)) ol = some (.lst (old.map fun x => V.ref x.t)) := upd_same
    generalize L2.upd H5 ol (.lst (old.map fun x => V.ref x.t)) = H6 at s6 GA6 hp6 sx6 hol6 ⊢
    refine ⟨_, rfl, small (by decide), fun nl0 hnl0 => ?_⟩
    have s7 := same_new hnl0 (.lst [])
    have GA7 := GA6.same s7
    have hp7 := s7 _ _ hp6
    have sx7 := sx6.trans (Same.x s7)
    have hol7 := s7 _ _ hol6
    have hnl07 : L2.upd H6 nl0 (.lst []) nl0 = some (.lst []) := upd_same
    generalize L2.upd H6 nl0 (.lst []) = H7 at s7 GA7 hp7 sx7 hol7 hnl07 ⊢
    refine ⟨.list (old.map grpD), .list [], ⟨ol, _, rfl, hol7, dn_grps GA7 old omem⟩, ⟨nl0, _, rfl, hnl07, rfl⟩, shaped_grps old, shaped_nil, _, rfl, ?_⟩
    rw [eqv_nil]
    have new : ∀ (k3 : Int) (H8 : Hp) (v5 : Option V), k ≤ k3 → k3 ≤ k + 4 * i + 4 → SameX pen H H8 → H8 pen = some (.lst [.ref sp, .int k3]) → GAt H H8 g gs → ∀ (nl nt : Addr) (j : Nat), H8 nl = none → L2.upd H8 nl (.lst [.int (1 + (i : Int))]) nt = none → j ≤ gs.length →
        Pv (i + 1) [some (.ref pen), some (.int (m : Int)), some (.ref g), some (.int (1 + (i : Int))), some (.int u), v5, none, none, none, none, none] (L2.upd (L2.upd (L2.upd H8 nl (.lst [.int (1 + (i : Int))])) nt (.tup [.int u, .ref nl])) g (.lst ((gs.map fun x => V.ref x.t).take j ++ V.ref nt :: (gs.map fun x => V.ref x.t).drop j))) := by
      intro k3 H8 v5 k30 k31 sx8 hp8 GA8 nl nt j hnl hnt hj
      have s9 := (same_new hnl (.lst [.int (1 + (i : Int))])).trans (same_new hnt (.tup [.int u, .ref nl]))
      rw [← List.map_take, ← List.map_drop]
      refine (hPv _ _ _).mpr ⟨_, _, _, gs.take j ++ ⟨nt, u, nl, [1 + (i : Int)]⟩ :: gs.drop j, k3, rfl, SameX.put (sx8.trans (Same.x s9)) hg (Ne.symm ngp) (s9 _ _ GA8.at_), ?_, k30, by push_cast; omega, ?_, ?_⟩
      · rw [upd_ne ngp]
        exact s9 _ _ hp8
      · exact GAt.ins (pre := gs.take j) (post := gs.drop j) (by rw [List.take_append_drop]; exact GA8) (sx8.free ⟨_, hp8⟩ hnl) hnl hnt
      · rw [e2, e1]
        exact GOk.ins (k := i) (by rw [List.take_append_drop]; exact GK) u0 u1
    by_cases c5 : old = []
    · refine iteNS (by rw [c5]; rfl) ?_
      refine iteF ?_
      refine ⟨_, rfl, .inl ⟨rfl, _, SqL.of GA7.at_⟩, _, rfl, _, rfl, g, _, rfl, .inl (SqL.of GA7.at_), ?_⟩
      refine ⟨_, _, rfl, rfl, pen, sp, ns, _, kk + 1 + 1, rfl, pn.to sx7 hp7, by omega, by omega, (by rw [el]; omega), fun j j0 j1 => ?_⟩
      rw [el] at j1
      have sx8 := sx7.trans (sameX_pen (pen := pen) (.lst [.ref sp, .int (kk + 1 + 1 + 1)]))
      have GA8 := GA7.pen (ys := [.ref sp, .int (kk + 1 + 1 + 1)]) ⟨_, pn.at_⟩ hp7
      have hp8 : L2.upd H7 pen (.lst [.ref sp, .int (kk + 1 + 1 + 1)]) pen = some (.lst [.ref sp, .int (kk + 1 + 1 + 1)]) := upd_same
      generalize L2.upd H7 pen (.lst [.ref sp, .int (kk + 1 + 1 + 1)]) = H8 at sx8 GA8 hp8 ⊢
      refine ⟨_, rfl, _, rfl, small (by show 1 ≤ 1000; decide), fun nl hnl => ?_⟩
      refine ⟨small (by show 2 ≤ 1000; decide), fun nt hnt => ?_⟩
      have s9 := (same_new hnl (.lst [.int (1 + (i : Int))])).trans (same_new hnt (.tup [.int u, .ref nl]))
      refine ⟨g, _, _, _, rfl, rfl, s9 _ _ GA8.at_, j0, (by rw [el]; omega), (by rw [el]; exact small1000 (by omega)), ?_⟩
      exact new (kk + 1 + 1 + 1) H8 _ (by omega) (by omega) sx8 hp8 GA8 nl nt j.toNat hnl hnt (by omega)
    · refine iteNN (fun z => c5 (by cases old with | nil => rfl | cons x r => cases z)) ?_
      refine ⟨_, rfl, pen, sp, ns, 3, kk + 1 + 1, rfl, pn.to sx7 hp7, by omega, by omega, by decide, fun e e0 e1' => ?_⟩
      have sx8 := sx7.trans (sameX_pen (pen := pen) (.lst [.ref sp, .int (kk + 1 + 1 + 1)]))
      have GA8 := GA7.pen (ys := [.ref sp, .int (kk + 1 + 1 + 1)]) ⟨_, pn.at_⟩ hp7
      have hp8 : L2.upd H7 pen (.lst [.ref sp, .int (kk + 1 + 1 + 1)]) pen = some (.lst [.ref sp, .int (kk + 1 + 1 + 1)]) := upd_same
      have hol8 : L2.upd H7 pen (.lst [.ref sp, .int (kk + 1 + 1 + 1)]) ol = some (.lst (old.map fun x => V.ref x.t)) := by rw [upd_ne nop]; exact hol7
      generalize L2.upd H7 pen (.lst [.ref sp, .int (kk + 1 + 1 + 1)]) = H8 at sx8 GA8 hp8 hol8 ⊢
      refine ⟨_, _, rfl, rfl, _, rfl, ?_⟩
      refine ite2 (fun c6 => ?_) (fun c6 => ?_)
      · have lo1 : 0 < old.length := List.length_pos_iff.mpr c5
        obtain ⟨x, hxo⟩ : ∃ x, old[old.length - 1]? = some x := ⟨_, List.getElem?_eq_getElem (by omega)⟩
        have hx := omem x (List.mem_of_getElem? hxo)
        have lox : old.length ≤ gs.length := by rw [← hold]; exact List.length_filter_le _ _
        obtain ⟨pre, post, egs⟩ := List.append_of_mem hx
        have ty := GA8.tup x hx
        have ly := GA8.lst x hx
        refine ⟨_, rfl, _, rfl, ol, _, _, .ref x.t, rfl, rfl, SqL.of hol8, ?_, x.t, _, _, _, rfl, rfl, sqT ty, at1, .inl ⟨rfl, _, SqL.of ly.1⟩, _, rfl, x.l, _, _, rfl, rfl, ly.1, ?_, ?_⟩
        · unfold atI ixN
          rw [el, if_neg (by omega), if_pos (by omega)]
          show (List.map _ old)[((-1 : Int) + (old.length : Int)).toNat]? = _
          rw [show ((-1 : Int) + (old.length : Int)).toNat = old.length - 1 by omega, List.getElem?_map, hxo]
          rfl
        · have h1 := GK.perm.length_eq
          rw [List.length_map, List.length_range', egs, List.flatMap_append, List.flatMap_cons, List.length_append, List.length_append] at h1
          rw [List.length_map]
          exact small1000 (by omega)
        have G9 : GAt H _ g _ := GAt.put (k := 1 + (i : Int)) (pre := pre) (post := post) (x := x) (by rw [← egs]; exact GA8)
        refine (hPv _ _ _).mpr ⟨_, _, _, _, kk + 1 + 1 + 1, rfl, SameX.put sx8 ly.2.1 (fun z => by have := pn.at_; rw [← z, ly.2.1] at this; cases this) ly.1, ?_, by omega, by push_cast; omega, G9, ?_⟩
        · rw [upd_ne (fun z => by have := pn.at_; rw [z, ly.2.1] at this; cases this)]
          exact hp8
        · rw [e2, e1]
          exact GOk.put (k := i) (by rw [← egs]; exact GK)
      · refine ⟨_, rfl, .inl ⟨rfl, _, SqL.of GA8.at_⟩, _, rfl, _, rfl, g, _, rfl, .inl (SqL.of GA8.at_), ?_⟩
        refine ⟨_, _, rfl, rfl, pen, sp, ns, _, kk + 1 + 1 + 1, rfl, pn.to sx8 hp8, by omega, by omega, (by rw [el]; omega), fun j j0 j1 => ?_⟩
        rw [el] at j1
        have sx9 := sx8.trans (sameX_pen (pen := pen) (.lst [.ref sp, .int (kk + 1 + 1 + 1 + 1)]))
        have GA9 := GA8.pen (ys := [.ref sp, .int (kk + 1 + 1 + 1 + 1)]) ⟨_, pn.at_⟩ hp8
        have hp9 : L2.upd H8 pen (.lst [.ref sp, .int (kk + 1 + 1 + 1 + 1)]) pen = some (.lst [.ref sp, .int (kk + 1 + 1 + 1 + 1)]) := upd_same
        generalize L2.upd H8 pen (.lst [.ref sp, .int (kk + 1 + 1 + 1 + 1)]) = H9 at sx9 GA9 hp9 ⊢
        refine ⟨_, rfl, _, rfl, small (by show 1 ≤ 1000; decide), fun nl hnl => ?_⟩
        refine ⟨small (by show 2 ≤ 1000; decide), fun nt hnt => ?_⟩
        have s10 := (same_new hnl (.lst [.int (1 + (i : Int))])).trans (same_new hnt (.tup [.int u, .ref nl]))
        refine ⟨g, _, _, _, rfl, rfl, s10 _ _ GA9.at_, j0, (by rw [el]; omega), (by rw [el]; exact small1000 (by omega)), ?_⟩
        exact new (kk + 1 + 1 + 1 + 1) H9 _ (by omega) (by omega) sx9 hp9 GA9 nl nt j.toNat hnl hnt (by omega)
  · rintro σ H2 pv0
    obtain ⟨v3, v4, v5, gs, kk, rfl, sx, hp2, kk0, kk1, GA, GK⟩ := (hPv _ _ _).mp pv0
    have em : (((m : Int) - 1).toNat : Int) + 1 = (m : Int) := by omega
    rw [em] at GK
    have few := GK.few
    have el : (gs.map fun x => V.ref x.t).length = gs.length := List.length_map _
    refine ⟨small (by decide), fun bl hbl => ?_⟩
    have nbH : H bl = none := sx.free ⟨_, hp2⟩ hbl
    have nbp : bl ≠ pen := fun z => by rw [z, hp2] at hbl; cases hbl
    have ngb : g ≠ bl := ne_of_none GA.at_ hbl
    have s3 := same_new hbl (.lst [])
    refine ⟨_, rfl, g, rfl, ⟨_, SqL.of (s3 _ _ GA.at_)⟩, ?_⟩
    obtain ⟨Pw, hPw⟩ : ∃ Pw : Nat → St → Hp → Prop, ∀ j σ H3, Pw j σ H3 ↔ (∃ (v3 v4 v5 v7 v8 v9 v10 : Option V) (kc : Int) (bs : List PyData) (xs : List V), σ = [some (.ref pen), some (.int (m : Int)), some (.ref g), v3, v4, v5, some (.ref bl), v7, v8, v9, v10] ∧ SameX pen H2 H3 ∧ H3 pen = some (.lst [.ref sp, .int kc]) ∧ kk ≤ kc ∧ kc ≤ kk + 4 * j ∧ H3 bl = some (.lst xs) ∧ DnL H3 bs xs ∧ bs.length = j ∧ (∀ b ∈ bs, isBough m b = true) ∧ bs.flatMap kidsOf = (gs.take j).flatMap (·.kids) ∧ bs.all (flatD 3) = true) := ⟨_, fun _ _ _ => Iff.rfl⟩
    refine for_list (K := K) (a := g) (xs := gs.map fun x => V.ref x.t) Pw ((hPw _ _ _).mpr ⟨_, _, _, _, _, _, _, kk, [], [], rfl, Same.x s3, s3 _ _ hp2, Int.le_refl _, by omega, upd_same, rfl, rfl, (fun _ z => nomatch z), rfl, rfl⟩) (fun j σ H3 _ z => ?_) ?_ ?_
    · obtain ⟨_, _, _, _, _, _, _, _, _, _, _, sx3, _⟩ := (hPw _ _ _).mp z
      exact SqL.of (sx3 _ _ (Ne.symm ngp) GA.at_)
    · rintro j y σ H3 hy pv0
      obtain ⟨v3, v4, v5, v7, v8, v9, v10, kc, bs, xs, rfl, sx3, hp3, kc0, kc1, hb3, dn, ln, okb, ki, fl⟩ := (hPw _ _ _).mp pv0
      rw [List.getElem?_map] at hy
      obtain ⟨x, hx', rfl⟩ := Option.map_eq_some_iff.mp hy
      have hm := List.mem_of_getElem? hx'
      have hj : j < gs.length := (List.getElem?_eq_some_iff.mp hx').1
      have lx := GA.lst x hm
      have nlp : x.l ≠ pen := fun z => by have := pn.at_; rw [← z, lx.2.1] at this; cases this
      have hxl := sx3 _ _ nlp lx.1
      have gx := GK.each x hm
      have ekl : (x.kids.map V.int).length = x.kids.length := List.length_map _
      have kp := List.length_pos_iff.mpr gx.2.1
      have kl : x.kids.length ≤ 9 := by
        have pk := GK.perm.length_eq
        rw [List.length_map, List.length_range'] at pk
        obtain ⟨l1, l2, e⟩ := List.append_of_mem hm
        rw [e, List.flatMap_append, List.flatMap_cons, List.length_append, List.length_append] at pk
        omega
      have lys := dn.length
      refine ⟨x.t, _, rfl, sqT ((SameX.tup hp2 sx3) _ _ (GA.tup x hm)), rfl, _, _, rfl, _, _, rfl, rfl, ?_⟩
      refine ⟨_, rfl, x.l, _, rfl, .inl (SqL.of hxl), ?_⟩
      rw [ekl]
      have done : ∀ (lo hi kd : Int) (H5 : Hp) (w3 w5 w8 : Option V), SameX pen H3 H5 → H5 pen = some (.lst [.ref sp, .int kd]) → kc ≤ kd → kd ≤ kc + 4 → H5 bl = some (.lst xs) → 0 ≤ lo → lo ≤ hi → 1 ≤ hi → hi ≤ x.kids.length → ∀ (v : V) (H6 : Hp), Same H5 H6 → Dn H6 (bghD x.up lo hi x.kids) v →
          Pw (j + 1) [some (.ref pen), some (.int (m : Int)), some (.ref g), w3, some (.int x.up), w5, some (.ref bl), some (.ref x.l), w8, some (.int lo), some (.int hi)] (L2.upd H6 bl (.lst (xs ++ [v]))) := by
        intro lo hi kd H5 w3 w5 w8 sx5 hp5 kd0 kd1 hb5 l0 l1 h1 h2 v H6 s6 dv
        have hb6 := s6 _ _ hb5
        have fb := bgh_flat x.up lo hi x.kids (by omega)
        have d6 := DnL.same s6 _ _ (DnL.tupS (SameX.tup hp3 sx5) fl dn)
        refine (hPw _ _ _).mpr ⟨_, _, _, _, _, _, _, kd, bs ++ [bghD x.up lo hi x.kids], xs ++ [v], rfl, SameX.put ((sx3.trans sx5).trans (Same.x s6)) hbl nbp hb6, ?_, by omega, by push_cast; omega, upd_same, ?_, ?_, fun b hb' => ?_, ?_, ?_⟩
        · rw [upd_ne (Ne.symm nbp)]
          exact s6 _ _ hp5
        · exact (DnL.pen hb6 fl d6).append ⟨v, [], rfl, Dn.pen hb6 fb dv, rfl⟩
        · rw [List.length_append, List.length_singleton, ln]
        · rcases List.mem_append.mp hb' with z | z
          · exact okb b z
          · rw [List.mem_singleton.mp z]
            exact bgh_ok gx.1 gx.2.1 gx.2.2 l0 l1 h1 h2
        · rw [List.flatMap_append, ki, flatMap_take hx']
          simp [bgh_kids]
        · rw [List.all_append, fl]
          simp [fb]
      refine ⟨_, rfl, _, rfl, small (by show 2 ≤ 1000; decide), fun t1 ht1 => ?_⟩
      refine ⟨_, rfl, small (by show 2 ≤ 1000; decide), fun t2 ht2 => ?_⟩
      refine ⟨small (by show 2 ≤ 1000; decide), fun t3 ht3 => ?_⟩
      refine ⟨small (by show 2 ≤ 1000; decide), fun t4 ht4 => ?_⟩
      refine ⟨small (by show 4 ≤ 1000; decide), fun tl htl => ?_⟩
      have q1 := same_new ht1 (.tup [.int (x.kids.length : Nat), .int (x.kids.length : Nat)])
      have q2 := same_new ht2 (.tup [.int 0, .int (x.kids.length : Nat)])
      have q3 := same_new ht3 (.tup [.int 1, .int 1])
      have q4 := same_new ht4 (.tup [.int 0, .int 1])
      have q5 := same_new htl (.lst [.ref t1, .ref t2, .ref t3, .ref t4])
      have sA := (((q1.trans q2).trans q3).trans q4).trans q5
      have e1 := q5 _ _ (q4 _ _ (q3 _ _ (q2 _ _ upd_same)))
      have e2 := q5 _ _ (q4 _ _ (q3 _ _ upd_same))
      have e3 := q5 _ _ (q4 _ _ upd_same)
      have e4 := q5 _ _ upd_same
      have e5 : L2.upd (L2.upd (L2.upd (L2.upd (L2.upd H3 t1 (.tup [.int (x.kids.length : Nat), .int (x.kids.length : Nat)])) t2 (.tup [.int 0, .int (x.kids.length : Nat)])) t3 (.tup [.int 1, .int 1])) t4 (.tup [.int 0, .int 1])) tl (.lst [.ref t1, .ref t2, .ref t3, .ref t4]) tl = some (.lst [.ref t1, .ref t2, .ref t3, .ref t4]) := upd_same
      generalize L2.upd (L2.upd (L2.upd (L2.upd (L2.upd H3 t1 (.tup [.int (x.kids.length : Nat), .int (x.kids.length : Nat)])) t2 (.tup [.int 0, .int (x.kids.length : Nat)])) t3 (.tup [.int 1, .int 1])) t4 (.tup [.int 0, .int 1])) tl (.lst [.ref t1, .ref t2, .ref t3, .ref t4]) = H4 at sA e1 e2 e3 e4 e5 ⊢
      have sxA := sx3.trans (Same.x (pen := pen) sA)
      have hpA := sA _ _ hp3
      have hbA := sA _ _ hb3
      have pn3 := pn.to (sx.trans sxA) hpA
      refine ⟨_, rfl, pen, sp, ns, 4, kc, rfl, pn3, by omega, by omega, by decide, fun y y0 y1 => ?_⟩
      have ntl : tl ≠ pen := fun z => by rw [z, hpA] at e5; cases e5
      obtain ⟨tt, lo', hi', hat, ht, g1, g2, g3, g4⟩ : ∃ (tt : Addr) (lo' hi' : Int), atI [V.ref t1, V.ref t2, V.ref t3, V.ref t4] y = some (.ref tt) ∧ H4 tt = some (.tup [.int lo', .int hi']) ∧ 0 ≤ lo' ∧ lo' ≤ hi' ∧ 1 ≤ hi' ∧ hi' ≤ x.kids.length := by
        have e : y = 0 ∨ y = 1 ∨ y = 2 ∨ y = 3 := by omega
        rcases e with e | e | e | e <;> rw [e]
        · exact ⟨t1, _, _, rfl, e1, by omega, by omega, by omega, by omega⟩
        · exact ⟨t2, _, _, rfl, e2, by omega, by omega, by omega, by omega⟩
        · exact ⟨t3, _, _, rfl, e3, by omega, by omega, by omega, by omega⟩
        · exact ⟨t4, _, _, rfl, e4, by omega, by omega, by omega, by omega⟩
      have sxB : SameX pen H3 (L2.upd H4 pen (.lst [.ref sp, .int (kc + 1)])) := (Same.x (pen := pen) sA).trans (sameX_pen _)
      have htB : L2.upd H4 pen (.lst [.ref sp, .int (kc + 1)]) tt = some (.tup [.int lo', .int hi']) := by rw [upd_ne (fun z => by rw [z, hpA] at ht; cases ht)]; exact ht
      have hpB : L2.upd H4 pen (.lst [.ref sp, .int (kc + 1)]) pen = some (.lst [.ref sp, .int (kc + 1)]) := upd_same
      refine ⟨tl, _, _, _, rfl, rfl, SqL.of (by rw [upd_ne ntl]; exact e5), hat, ?_⟩
      generalize L2.upd H4 pen (.lst [.ref sp, .int (kc + 1)]) = H5 at sxB htB hpB ⊢
      refine ⟨tt, _, rfl, sqT htB, rfl, _, _, rfl, _, _, rfl, rfl, ?_⟩
      have pnB := pn.to ((sx.trans sx3).trans sxB) hpB
      refine ⟨_, rfl, pen, sp, ns, 3, kc + 1, rfl, pnB, by omega, by omega, by decide, fun z z0 z1 => ?_⟩
      have sxC := sxB.trans (sameX_pen (pen := pen) (.lst [.ref sp, .int (kc + 1 + 1)]))
      have hpC : L2.upd H5 pen (.lst [.ref sp, .int (kc + 1 + 1)]) pen = some (.lst [.ref sp, .int (kc + 1 + 1)]) := upd_same
      generalize L2.upd H5 pen (.lst [.ref sp, .int (kc + 1 + 1)]) = H6 at sxC hpC ⊢
      refine ⟨rfl, _, rfl, ?_⟩
      refine ite2 (fun c => ?_) (fun c => ?_)
      · have pnC := pn.to ((sx.trans sx3).trans sxC) hpC
        refine ⟨_, rfl, _, rfl, _, _, rfl, rfl, pen, sp, ns, _, kc + 1 + 1, rfl, pnC, by omega, by omega, by omega, fun lo lo0 lo1 => ?_⟩
        have sxD := sxC.trans (sameX_pen (pen := pen) (.lst [.ref sp, .int (kc + 1 + 1 + 1)]))
        have hpD : L2.upd H6 pen (.lst [.ref sp, .int (kc + 1 + 1 + 1)]) pen = some (.lst [.ref sp, .int (kc + 1 + 1 + 1)]) := upd_same
        generalize L2.upd H6 pen (.lst [.ref sp, .int (kc + 1 + 1 + 1)]) = H7 at sxD hpD ⊢
        have pnD := pn.to ((sx.trans sx3).trans sxD) hpD
        refine ⟨_, rfl, _, rfl, _, rfl, _, rfl, _, _, rfl, rfl, _, _, rfl, rfl, pen, sp, ns, _, kc + 1 + 1 + 1, rfl, pnD, by omega, by omega, by omega, fun w w0 w1 => ?_⟩
        have sxE := sxD.trans (sameX_pen (pen := pen) (.lst [.ref sp, .int (kc + 1 + 1 + 1 + 1)]))
        refine ⟨_, _, rfl, rfl, _, _, rfl, ?_⟩
        have hb7 := sxE _ _ nbp hb3
        refine rA _ g bl x.l x.up lo _ x.kids _ _ _ xs _ (sxE _ _ nlp hxl) hb7 (by omega) (done lo _ (kc + 1 + 1 + 1 + 1) _ _ _ _ sxE upd_same (by omega) (by omega) hb7 lo0 ?_ ?_ ?_)
        all_goals split <;> omega
      · have hb6 := sxC _ _ nbp hb3
        exact rA _ g bl x.l x.up lo' hi' x.kids _ _ _ xs _ (sxC _ _ nlp hxl) hb6 (by omega) (done lo' hi' (kc + 1 + 1) _ _ _ _ sxC hpC (by omega) (by omega) hb6 g1 g2 g3 g4)
    · rintro σ H3 pv0
      obtain ⟨v3, v4, v5, v7, v8, v9, v10, kc, bs, xs, rfl, sx3, hp3, kc0, kc1, hb3, dn, ln, okb, ki, fl⟩ := (hPw _ _ _).mp pv0
      rw [el] at ln ki kc1
      rw [List.take_length] at ki
      exact ⟨_, rfl, q bl bs xs kc H3 (sx.trans sx3) hp3 (by omega) (by omega) hb3 nbH dn ⟨okb, by rw [ki]; exact GK.perm⟩ (by omega) fl⟩

end
section
variable {P : Program} {w : World} {K : PySem.W.Frag} {mg : Str → Option Value} {base : Heap} {a : Adr} {d : Fds}
theorem ok_law_cross (T : Txt K mg a d) : FnOk P w K mg base CX0 2 a.f_law_cross d.f_law_cross ["_law_state", "_law_many", "_law_most"] (spCrossesP K) := by
  have G_law_take := ok_law_take (P := P) (w := w) (base := base) T
  refine T.K_law_cross.ok sc_law_cross (fun vs H Q E h => ?_) (fun cdv A outer s H vs Q E hr h => ?_)
  · obtain ⟨pen, sp, ns, m, most, k, rfl, _⟩ := h
    rfl
  obtain ⟨pen, sp, ns, m, most, k, rfl, pn, k0, k1, m1, m9, mo0, mo8, q⟩ := h
  have p62 : (2 : Int) ^ 62 = 4611686018427387904 := by decide
  have tailC : ∃ t, PSs (cxOf CX0 P w K mg base ["_law_state", "_law_many", "_law_most", "_law_cross_here", "_law_turn", "_law_one", "_law_other", "_law_way", "_law_far", "_law_pairs", "_law_total", "_law_top"] "_law_cross" (defScope s_law_cross) a.f_law_cross cdv A outer s H E).nox ((subS (defBody s_law_cross) [(1, false), (3, true)]).drop 3) t ∧ ∀ (D : Ends) (cl pl : Addr) (far kd : Int) (ps : List PyData) (xs zs : List V) (v4 v5 v6 v7 v10 v11 : Option V) (H5 : Hp), Pen K H5 pen sp ns kd → 0 ≤ kd → kd ≤ 950000 → H5 pl = some (.lst xs) → PairsTo H5 m ps xs → 0 < ps.length → H5 cl = some (.lst zs) → zs.length ≤ 100 → cl ≠ pen → pl ≠ pen →
      (∀ (v : V) (top : Int) (w10 : Option V) (H6 : Hp), SameX pen H5 H6 → H6 pen = some (.lst [.ref sp, .int (kd + 1 + 1)]) → Dn H6 (.tuple [.str ("most" : Str), .int top, .tuple ps]) v → H6 cl = some (.lst zs) → D.nx [some (.ref pen), some (.int (m : Int)), some (.int most), some (.ref cl), v4, v5, v6, v7, some (.int far), some (.ref pl), w10, some (.int top)] (L2.upd H6 cl (.lst (zs ++ [v])))) →
      t D [some (.ref pen), some (.int (m : Int)), some (.int most), some (.ref cl), v4, v5, v6, v7, some (.int far), some (.ref pl), v10, v11] H5 := by
    refine ⟨_, (pss_cons (ps_set (i := 10) sc_law_cross.nd rfl (Or.inl rfl) (pe_callB (call_sum_ints rfl) rfl T.m_sum PyProof.Rows.boot_sum (pa_cons (pe_lc (sc0 := defScope s_law_cross) (XN := ["_law_state", "_law_many", "_law_most", "_law_cross_here", "_law_turn", "_law_one", "_law_other", "_law_way", "_law_far", "_law_pairs", "_law_total", "_law_top"]) (N' := ["_law_c", "_law_number"]) (n := 2) (kp := []) rfl (piL (K := K) (pv 9)) rfl rfl (by decide +kernel) (fun _ _ _ _ _ => (pgT (K := K) (n := 2) rfl (pgs_cons (pg_name (i := 0) (by show List.Nodup (["_law_c", "_law_number"] : List Str); decide +kernel) rfl (Or.inl rfl)) (pgs_cons (pg_name (i := 1) (by show List.Nodup (["_law_c", "_law_number"] : List Str); decide +kernel) rfl (Or.inl rfl)) pgs_nil)))) (fun _ _ _ _ _ => pts_nil) (fun _ _ _ _ _ => (pe_callB (call_max2 rfl) rfl T.m_max PyProof.Rows.boot_max (pa_cons pe_int (pa_cons (pv 1) pa_nil))))) pa_nil)))
      (pss_cons (ps_set (i := 11) sc_law_cross.nd rfl (Or.inl rfl) (pe_op op_sub (pe_op op_sub (pe_call G_law_take (hr.mono (by first | decide | omega)) rfl T.g_law_take T.K_law_take.kp T.B_law_take .nil pass0 (pa_cons (pv 0) (pa_cons (pe_op op_add (pv 10) pe_int) pa_nil))) pe_int) (pe_op op_mul (pv 8) (pe_op op_fdiv (pe_call G_law_take (hr.mono (by first | decide | omega)) rfl T.g_law_take T.K_law_take.kp T.B_law_take .nil pass0 (pa_cons (pv 0) (pa_cons pe_int pa_nil))) pe_int))))
      (pss_one (ps_expr (pe_bmK (K := K) PySem.F.plainAttrs_list PySem.F.slot_list_append PySem.F.type_list_append mt_append (pv 3) (pa_cons (pe_tup (pa_cons pe_str (pa_cons (pv 11) (pa_cons (pe_callTy call_tuple_of rfl T.m_tuple PyProof.Rows.boot_tuple (pa_cons (pv 9) pa_nil)) pa_nil)))) pa_nil)))))), ?_⟩
    intro D cl pl far kd ps xs zs v4 v5 v6 v7 v10 v11 H5 pn5 kd0 kd1 hpl pt p0 hcl zfew ncp npp nx
    have few := pt.few
    have lx := pt.dn.length
    refine ⟨_, rfl, pl, rfl, ⟨_, SqL.of hpl⟩, ?_⟩
    refine lc_list (K := K) (a := pl) (xs := xs) (fun i ys σ H7 => (∃ v v', σ = [v, v']) ∧ H7 = H5 ∧ ∃ nl : List Int, ys = nl.map V.int ∧ 0 ≤ nl.sum ∧ nl.length = i) ⟨⟨none, none, rfl⟩, rfl, [], rfl, Int.le_refl _, rfl⟩ (fun i ys σ H7 hi pv => ?_) (fun i ys σ H7 hi pv => ?_) (fun i x ys σ H7 hx pv => ?_) (fun ys σ H7 pv l hl => ?_)
    · obtain ⟨_, _, nl, rfl, _, h1⟩ := pv
      rw [List.length_map]
      exact small (by omega)
    · rw [pv.2.1]
      exact SqL.of hpl
    · obtain ⟨⟨v, v', rfl⟩, rfl, nl, rfl, h0, h1⟩ := pv
      obtain ⟨dd, hdd, hx'⟩ := pt.dn.get hx
      have pk := (List.all_eq_true.mp pt.ok) dd (List.mem_of_getElem? hdd)
      obtain ⟨r, xa, nb, rfl, hr'⟩ : ∃ (r : Addr) (xa : V) (nb : Int), x = .ref r ∧ H7 r = some (.tup [xa, .int nb]) := by
        unfold pairOk at pk
        split at pk
        next dx dy =>
          obtain ⟨iy, rfl⟩ := isW_int pk
          obtain ⟨r, ys, rfl, hr2, xa, r1, rfl, ha, xb, r2, rfl, hb, hnil⟩ := dn_tup hx'
          cases (show r2 = [] from hnil)
          cases dn_int hb
          exact ⟨r, xa, iy, rfl, hr2⟩
        next => cases pk
      refine ⟨r, _, rfl, sqT hr', rfl, _, _, rfl, _, _, rfl, rfl, ?_⟩
      refine ⟨_, rfl, _, _, rfl, ⟨_, _, rfl⟩, rfl, nl ++ [if nb > 0 then nb else 0], ?_, ?_, ?_⟩
      · rw [List.map_append]
        rfl
      · rw [List.sum_append]
        have : 0 ≤ (if nb > 0 then nb else 0) := by split <;> omega
        simp only [List.sum_cons, List.sum_nil]
        omega
      · rw [List.length_append, List.length_singleton, h1]
    obtain ⟨_, rfl, nl, rfl, h0, _⟩ := pv
    have s7 := same_new hl (.lst (nl.map V.int))
    have pn7 := pn5.to (Same.x s7) (s7 _ _ pn5.at_)
    refine ⟨l, nl, rfl, SqL.of upd_same, ?_⟩
    have hcl7 := s7 _ _ hcl
    have hpl7 := s7 _ _ hpl
    have d7 := DnL.same s7 _ _ pt.dn
    have x7 : SameX pen H7 _ := Same.x (pen := pen) s7
    generalize L2.upd H7 l (.lst (nl.map V.int)) = H8 at s7 pn7 hcl7 hpl7 d7 x7 ⊢
    refine ⟨_, rfl, _, rfl, _, _, rfl, rfl, pen, sp, ns, _, kd, rfl, pn7, by omega, by omega, by omega, fun x x0 x1 => ?_⟩
    have x8 := x7.trans (sameX_pen (pen := pen) (.lst [.ref sp, .int (kd + 1)]))
    have hcl8 : L2.upd H8 pen (.lst [.ref sp, .int (kd + 1)]) cl = some (.lst zs) := by rw [upd_ne ncp]; exact hcl7
    have hpl8 : L2.upd H8 pen (.lst [.ref sp, .int (kd + 1)]) pl = some (.lst xs) := by rw [upd_ne npp]; exact hpl7
    have d8 := DnL.pen (ys := [.ref sp, .int (kd + 1)]) pn7.at_ pt.flat d7
    have pn8 := pn7.to (sameX_pen (pen := pen) (H := H8) (.lst [.ref sp, .int (kd + 1)])) upd_same
    generalize L2.upd H8 pen (.lst [.ref sp, .int (kd + 1)]) = H9 at x8 hcl8 hpl8 d8 pn8 ⊢
    refine ⟨_, _, rfl, rfl, _, rfl, _, rfl, pen, sp, ns, 4, kd + 1, rfl, pn8, by omega, by omega, by decide, fun y y0 y1 => ?_⟩
    have x9 := x8.trans (sameX_pen (pen := pen) (.lst [.ref sp, .int (kd + 1 + 1)]))
    have hcl9 : L2.upd H9 pen (.lst [.ref sp, .int (kd + 1 + 1)]) cl = some (.lst zs) := by rw [upd_ne ncp]; exact hcl8
    have hpl9 : L2.upd H9 pen (.lst [.ref sp, .int (kd + 1 + 1)]) pl = some (.lst xs) := by rw [upd_ne npp]; exact hpl8
    have d9 := DnL.pen (ys := [.ref sp, .int (kd + 1 + 1)]) pn8.at_ pt.flat d8
    have hp9 : L2.upd H9 pen (.lst [.ref sp, .int (kd + 1 + 1)]) pen = some (.lst [.ref sp, .int (kd + 1 + 1)]) := upd_same
    generalize L2.upd H9 pen (.lst [.ref sp, .int (kd + 1 + 1)]) = HA at x9 hcl9 hpl9 d9 hp9 ⊢
    have y2 : 0 ≤ y / 3 := Int.ediv_nonneg y0 (by decide)
    have y3 : y / 3 ≤ 1 := by omega
    refine ⟨_, _, rfl, rfl, ⟨by decide, by decide⟩, _, _, rfl, rfl, .inr ⟨by omega, by omega⟩, _, _, rfl, rfl, ?_⟩
    refine ⟨_, rfl, .inl ⟨rfl, _, SqL.of hcl9⟩, _, rfl, _, rfl, pl, _, rfl, .inl ⟨SqL.of hpl9, fun tk htk => ?_⟩⟩
    refine ⟨small (by show 3 ≤ 1000; decide), fun tt htt => ?_⟩
    have sa := same_new htk (.tup xs)
    have sb := same_new htt (.tup [.str ("most" : Str), .int (x - 1 - far * (y / 3)), .ref tk])
    have sab := sa.trans sb
    refine ⟨cl, _, _, rfl, rfl, sab _ _ hcl9, small1000 (by omega), ?_⟩
    exact nx _ _ _ _ (x9.trans (Same.x sab)) (sab _ _ hp9) ⟨tt, _, rfl, upd_same, _, _, rfl, rfl, _, _, rfl, rfl, _, _, rfl, ⟨tk, _, rfl, sb _ _ upd_same, DnL.same sab _ _ d9⟩, rfl⟩ (sab _ _ hcl9)
  obtain ⟨tC, hC, rC⟩ := tailC
  have elseE : ∃ t, PSs (cxOf CX0 P w K mg base ["_law_state", "_law_many", "_law_most", "_law_cross_here", "_law_turn", "_law_one", "_law_other", "_law_way", "_law_far", "_law_pairs", "_law_total", "_law_top"] "_law_cross" (defScope s_law_cross) a.f_law_cross cdv A outer s H E).nox (subS (defBody s_law_cross) [(1, false), (3, true)]) t ∧ ∀ (D : Ends) (cl : Addr) (one kc : Int) (zs : List V) (v4 v6 v7 v8 v9 v10 v11 : Option V) (H4 : Hp), Pen K H4 pen sp ns kc → 0 ≤ kc → kc ≤ 940000 → 0 ≤ one → one < m → H4 cl = some (.lst zs) → zs.length ≤ 100 → cl ≠ pen →
      (∀ (v : V) (top : Int) (ps : List PyData) (w8 w9 w10 w11 : Option V) (kd : Int) (H6 : Hp), SameX pen H4 H6 → H6 pen = some (.lst [.ref sp, .int kd]) → kc ≤ kd → kd ≤ kc + 21 → Dn H6 (.tuple [.str ("most" : Str), .int top, .tuple ps]) v → (ps.all pairOk = true ∧ ps.all (flatD 1) = true ∧ rising (m : Int) (ps.map fstD) (-1) = true ∧ ps.length ≤ m ∧ 0 < ps.length) → H6 cl = some (.lst zs) → D.nx [some (.ref pen), some (.int (m : Int)), some (.int most), some (.ref cl), v4, some (.int one), v6, v7, w8, w9, w10, w11] (L2.upd H6 cl (.lst (zs ++ [v])))) →
      t D [some (.ref pen), some (.int (m : Int)), some (.int most), some (.ref cl), v4, some (.int one), v6, v7, v8, v9, v10, v11] H4 := by
    refine ⟨_, (pss_cons (ps_set (i := 8) sc_law_cross.nd rfl (Or.inr rfl) (pe_ix (ixL (K := K)) (pe_lst (pa_cons pe_int (pa_cons (pe_op op_pow pe_int pe_int) pa_nil))) (pe_call G_law_take (hr.mono (by first | decide | omega)) rfl T.g_law_take T.K_law_take.kp T.B_law_take .nil pass0 (pa_cons (pv 0) (pa_cons pe_int pa_nil))) (fun _ _ => rfl)))
      (pss_cons (ps_setLc (i := 9) sc_law_cross.nd rfl rfl rfl (sc0 := defScope s_law_cross) (XN := ["_law_state", "_law_many", "_law_most", "_law_cross_here", "_law_turn", "_law_one", "_law_other", "_law_way", "_law_far", "_law_pairs", "_law_total", "_law_top"]) (N' := ["_law_c", "_law_state", "_law_far"]) (n := 1) (kp := [0, 8]) rfl (pi_range1 rfl T.m_range (pa_cons (pv 1) pa_nil)) rfl rfl (by decide +kernel) (fun _ _ _ _ _ => (pg_name (i := 0) (by show List.Nodup (["_law_c", "_law_state", "_law_far"] : List Str); decide +kernel) rfl (Or.inl rfl))) (fun _ _ _ _ _ => (pts_one (pt_cmpR op_gt (pe_call G_law_take (hr.mono (by first | decide | omega)) rfl T.g_law_take T.K_law_take.kp T.B_law_take .nil pass0 (pa_cons (pv 1) (pa_cons pe_int pa_nil))) pe_int (nomark _)))) (fun _ _ _ _ _ => (pe_tup (pa_cons (pv 0) (pa_cons (pe_op op_sub (pe_call G_law_take (hr.mono (by first | decide | omega)) rfl T.g_law_take T.K_law_take.kp T.B_law_take .nil pass0 (pa_cons (pv 1) (pa_cons (pe_op op_mul pe_int (pv 2)) pa_nil))) (pe_op op_fdiv (pv 2) pe_int)) pa_nil)))))
      (pss_cons (ps_if (pt_cmpR (op_eq_nil hr.units) (pv 9) (pe_lst pa_nil) (nomark _)) (pss_one (ps_set (i := 9) sc_law_cross.nd rfl (Or.inl rfl) (pe_lst (pa_cons (pe_tup (pa_cons (pv 5) (pa_cons (pv 8) pa_nil))) pa_nil)))) pss_nil)
      hC))), ?_⟩
    intro D cl one kc zs v4 v6 v7 v8 v9 v10 v11 H4 pn4 k40 k41 o0 o1 hc4 zfew ncp nx
    refine ⟨_, _, rfl, rfl, ⟨by decide, by decide, by decide⟩, small (by show 2 ≤ 1000; decide), fun fl' hfl => ?_⟩
    have sf := same_new hfl (.lst [.int 4, .int (10 ^ (57 : Int).toNat)])
    have xf := Same.x (pen := pen) sf
    have nfp : fl' ≠ pen := Ne.symm (ne_of_none pn4.at_ hfl)
    refine ⟨_, rfl, pen, sp, ns, 2, kc, rfl, pn4.to xf (sf _ _ pn4.at_), by omega, by omega, by decide, fun y y0 y1 => ?_⟩
    have xg := xf.trans (sameX_pen (pen := pen) (.lst [.ref sp, .int (kc + 1)]))
    obtain ⟨far, hat, f0⟩ : ∃ far : Int, atI [V.int 4, V.int (10 ^ (57 : Int).toNat)] y = some (.int far) ∧ 0 < far := by
      have e : y = 0 ∨ y = 1 := by omega
      rcases e with e | e <;> rw [e]
      · exact ⟨_, rfl, by decide⟩
      · exact ⟨_, rfl, by decide +kernel⟩
    refine ⟨fl', _, _, _, rfl, rfl, SqL.of (by rw [upd_ne nfp]; exact upd_same), hat, ?_⟩
    have hpg : L2.upd (L2.upd H4 fl' (.lst [.int 4, .int (10 ^ (57 : Int).toNat)])) pen (.lst [.ref sp, .int (kc + 1)]) pen = some (.lst [.ref sp, .int (kc + 1)]) := upd_same
    generalize L2.upd (L2.upd H4 fl' (.lst [.int 4, .int (10 ^ (57 : Int).toNat)])) pen (.lst [.ref sp, .int (kc + 1)]) = H5 at xg hpg ⊢
    generalize hkd : kc + 1 = kd at *
    have pn5 := pn4.to xg hpg
    refine ⟨_, rfl, _, rfl, by rw [p62]; omega, by rw [p62]; omega, ?_⟩
    rw [Int.toNat_natCast]
    refine lc_range0 (k := m) (fun j ys σ H6 => (∃ v, σ = [v, some (.ref pen), some (.int far)]) ∧ SameX pen H5 H6 ∧ j ≤ m ∧ ∃ (kq : Int) (ps : List PyData), H6 pen = some (.lst [.ref sp, .int kq]) ∧ kd ≤ kq ∧ kq ≤ kd + 2 * j ∧ PairsTo H6 j ps ys) ⟨⟨none, rfl⟩, SameX.refl _ _, Nat.zero_le _, kd, [], hpg, Int.le_refl _, by omega, ⟨rfl, rfl, rfl, rfl, Nat.le_refl _⟩⟩ (fun j ys σ H6 hj pv => ?_) (fun j ys σ H6 hj pv => ?_) (fun ys σ H6 pv pl hpl => ?_)
    · obtain ⟨_, _, jm, kq, ps, _, _, _, pt⟩ := pv
      have := pt.few
      have := pt.dn.length
      exact small (by omega)
    · obtain ⟨⟨v, rfl⟩, sx6, jm, kq, ps, hp6, kq0, kq1, pt⟩ := pv
      have few := pt.few
      have pn6 := pn5.to sx6 hp6
      refine ⟨_, rfl, pen, sp, ns, 3, kq, rfl, pn6, by omega, by omega, by decide, fun b b0 b1 => ?_⟩
      have xh := sx6.trans (sameX_pen (pen := pen) (.lst [.ref sp, .int (kq + 1)]))
      have d7 := DnL.pen (ys := [.ref sp, .int (kq + 1)]) hp6 pt.flat pt.dn
      have hp7 : L2.upd H6 pen (.lst [.ref sp, .int (kq + 1)]) pen = some (.lst [.ref sp, .int (kq + 1)]) := upd_same
      generalize L2.upd H6 pen (.lst [.ref sp, .int (kq + 1)]) = H7 at xh d7 hp7 ⊢
      refine ⟨_, _, rfl, rfl, _, rfl, ?_⟩
      refine ite2 (fun c => ?_) (fun c => ?_)
      · refine ⟨_, rfl, _, rfl, _, rfl, _, _, rfl, rfl, .inl ⟨by decide, by decide⟩, pen, sp, ns, _, kq + 1, rfl, pn5.to xh hp7, by omega, by omega, by omega, fun e e0 e1 => ?_⟩
        have xi := xh.trans (sameX_pen (pen := pen) (.lst [.ref sp, .int (kq + 1 + 1)]))
        have d8 := DnL.pen (ys := [.ref sp, .int (kq + 1 + 1)]) hp7 pt.flat d7
        have hp8 : L2.upd H7 pen (.lst [.ref sp, .int (kq + 1 + 1)]) pen = some (.lst [.ref sp, .int (kq + 1 + 1)]) := upd_same
        generalize L2.upd H7 pen (.lst [.ref sp, .int (kq + 1 + 1)]) = H8 at xi d8 hp8 ⊢
        refine ⟨_, rfl, _, _, rfl, rfl, ⟨by decide, by decide⟩, _, _, rfl, rfl, small (by show 2 ≤ 1000; decide), fun tp htp => ?_⟩
        have s9 := same_new htp (.tup [.int (j : Int), .int (e - far / 2)])
        refine ⟨⟨_, rfl⟩, xi.trans (Same.x s9), hj, kq + 1 + 1, ps ++ [.tuple [.int (j : Int), .int (e - far / 2)]], s9 _ _ hp8, by omega, by push_cast; omega, ⟨?_, ?_, ?_, ?_, ?_⟩⟩
        · exact (DnL.same s9 _ _ d8).append ⟨_, [], rfl, ⟨tp, _, rfl, upd_same, _, _, rfl, rfl, _, _, rfl, rfl, rfl⟩, rfl⟩
        · rw [List.all_append, pt.ok]
          rfl
        · rw [List.all_append, pt.flat]
          rfl
        · rw [List.map_append]
          show rising ((j + 1 : Nat) : Int) (ps.map fstD ++ [.int (j : Int)]) (-1) = true
          exact rising_snoc (by omega) pt.ris (by omega)
        · rw [List.length_append, List.length_singleton]
          omega
      · exact ⟨⟨_, rfl⟩, xh, hj, kq + 1, ps, hp7, by omega, by push_cast; omega, ⟨d7, pt.ok, pt.flat, rising_mono (by omega) pt.ris, by omega⟩⟩
    obtain ⟨_, sx6, _, kq, ps, hp6, kq0, kq1, pt⟩ := pv
    have few := pt.few
    have lps := pt.dn.length
    have s7 := same_new hpl (.lst ys)
    have x7 := xg.trans (sx6.trans (Same.x s7))
    have hp7 := s7 _ _ hp6
    have d7 := DnL.same s7 _ _ pt.dn
    have hpl7 : L2.upd H6 pl (.lst ys) pl = some (.lst ys) := upd_same
    have npp : pl ≠ pen := Ne.symm (ne_of_none hp6 hpl)
    generalize L2.upd H6 pl (.lst ys) = H7 at s7 x7 hp7 d7 hpl7 ⊢
    refine ⟨_, rfl, small (by decide), fun nl hnl => ?_⟩
    have s8 := same_new hnl (.lst [])
    refine ⟨pl, nl, ys, rfl, rfl, s8 _ _ hpl7, upd_same, _, rfl, ?_⟩
    by_cases ye : ys = []
    · refine iteD ye ?_
      refine ⟨_, rfl, _, rfl, small (by show 2 ≤ 1000; decide), fun tp htp => ?_⟩
      have s9 := same_new htp (.tup [.int one, .int far])
      refine ⟨small (by show 1 ≤ 1000; decide), fun pl2 hpl2 => ?_⟩
      have s10 := same_new hpl2 (.lst [.ref tp])
      have sA := (s8.trans s9).trans s10
      have xA := x7.trans (Same.x (pen := pen) sA)
      have ptA : PairsTo _ m [.tuple [.int one, .int far]] [.ref tp] := ⟨⟨_, [], rfl, ⟨tp, _, rfl, s10 _ _ upd_same, _, _, rfl, rfl, _, _, rfl, rfl, rfl⟩, rfl⟩, rfl, rfl, by
        show (decide ((-1 : Int) + 1 ≤ one) && decide (one ≤ (m : Int) - 1) && true) = true
        rw [decide_eq_true (by omega), decide_eq_true (by omega)]
        rfl, by show 1 ≤ m; omega⟩
      refine rC _ cl pl2 far kq _ _ zs _ _ _ _ _ _ _ (pn4.to xA (sA _ _ hp7)) (by omega) (by omega) upd_same ptA (by show 0 < 1; decide) (xA _ _ ncp hc4) (by omega) ncp (Ne.symm (ne_of_none ((s8.trans s9) _ _ hp7) hpl2)) (fun v top w10 H9 x9 hp9 dv hc9 => ?_)
      exact nx v top _ _ _ _ _ (kq + 1 + 1) H9 (xA.trans x9) hp9 (by omega) (by omega) dv ⟨rfl, rfl, ptA.ris, ptA.few, by show 0 < 1; decide⟩ hc9
    · refine iteDN ye ?_
      have xA := x7.trans (Same.x (pen := pen) s8)
      have p0 : 0 < ps.length := by
        rw [lps]
        exact List.length_pos_iff.mpr ye
      have ptA : PairsTo _ m ps ys := ⟨DnL.same s8 _ _ d7, pt.ok, pt.flat, pt.ris, pt.few⟩
      refine rC _ cl pl far kq _ _ zs _ _ _ _ _ _ _ (pn4.to xA (s8 _ _ hp7)) (by omega) (by omega) (s8 _ _ hpl7) ptA p0 (xA _ _ ncp hc4) (by omega) ncp npp (fun v top w10 H9 x9 hp9 dv hc9 => ?_)
      exact nx v top _ _ _ _ _ (kq + 1 + 1) H9 (xA.trans x9) hp9 (by omega) (by omega) dv ⟨pt.ok, pt.flat, pt.ris, pt.few, p0⟩ hc9
  obtain ⟨tE, hE, rE⟩ := elseE
  refine ⟨_, (pss_cons (ps_set (i := 3) sc_law_cross.nd rfl (Or.inl rfl) (pe_lst pa_nil))
      (pss_cons (ps_for PassesOwn.never rfl (pi_range1 rfl T.m_range (pa_cons (pe_call G_law_take (hr.mono (by first | decide | omega)) rfl T.g_law_take T.K_law_take.kp T.B_law_take .nil pass0 (pa_cons (pv 0) (pa_cons (pe_op op_add (pv 2) pe_int) pa_nil))) pa_nil)) (pg_name (i := 4) sc_law_cross.nd rfl (Or.inl rfl)) (pss_cons (ps_set (i := 5) sc_law_cross.nd rfl (Or.inl rfl) (pe_call G_law_take (hr.mono (by first | decide | omega)) rfl T.g_law_take T.K_law_take.kp T.B_law_take .nil pass0 (pa_cons (pv 0) (pa_cons (pv 1) pa_nil))))
      (pss_cons (ps_set (i := 6) sc_law_cross.nd rfl (Or.inl rfl) (pe_op op_mod (pe_op op_add (pe_op op_add (pv 5) pe_int) (pe_call G_law_take (hr.mono (by first | decide | omega)) rfl T.g_law_take T.K_law_take.kp T.B_law_take .nil pass0 (pa_cons (pv 0) (pa_cons (pe_callB (call_max2 rfl) rfl T.m_max PyProof.Rows.boot_max (pa_cons pe_int (pa_cons (pe_op op_sub (pv 1) pe_int) pa_nil))) pa_nil)))) (pv 1)))
      (pss_cons (ps_set (i := 7) sc_law_cross.nd rfl (Or.inl rfl) (pe_call G_law_take (hr.mono (by first | decide | omega)) rfl T.g_law_take T.K_law_take.kp T.B_law_take .nil pass0 (pa_cons (pv 0) (pa_cons pe_int pa_nil))))
      (pss_one (ps_if (PW.pt (pw_and (pt_cmpR op_lt (pv 7) pe_int (nomark _)) (pw_and1 (pt_cmpR op_gt (pv 1) pe_int (nomark _))))) (pss_one (ps_expr (pe_bmK (K := K) PySem.F.plainAttrs_list PySem.F.slot_list_append PySem.F.type_list_append mt_append (pv 3) (pa_cons (pe_tup (pa_cons (pe_ix (ixL (K := K)) (pe_lst (pa_cons pe_str (pa_cons pe_str pa_nil))) (pv 7) (fun _ _ => rfl)) (pa_cons (pv 5) (pa_cons (pv 6) pa_nil)))) pa_nil)))) hE))))))
      (pss_one (ps_ret (pv 3))))), ?_⟩
  refine ⟨small (by decide), fun cl hcl => ?_⟩
  have ncp : cl ≠ pen := Ne.symm (ne_of_none pn.at_ hcl)
  have s1 := same_new hcl (.lst [])
  have pn1 := pn.to (Same.x s1) (s1 _ _ pn.at_)
  have hcl1 : L2.upd H cl (.lst []) cl = some (.lst []) := upd_same
  have x1 : SameX pen H _ := Same.x (pen := pen) s1
  generalize L2.upd H cl (.lst []) = H1 at s1 pn1 hcl1 x1 ⊢
  refine ⟨_, rfl, _, rfl, _, _, rfl, rfl, pen, sp, ns, _, k, rfl, pn1, by omega, by omega, by omega, fun n n0 n1 => ?_⟩
  have x2 := x1.trans (sameX_pen (pen := pen) (.lst [.ref sp, .int (k + 1)]))
  have hcl2 : L2.upd H1 pen (.lst [.ref sp, .int (k + 1)]) cl = some (.lst []) := by rw [upd_ne ncp]; exact hcl1
  have hp2 : L2.upd H1 pen (.lst [.ref sp, .int (k + 1)]) pen = some (.lst [.ref sp, .int (k + 1)]) := upd_same
  generalize L2.upd H1 pen (.lst [.ref sp, .int (k + 1)]) = H2 at x2 hcl2 hp2 ⊢
  refine ⟨_, rfl, by rw [p62]; omega, by rw [p62]; omega, ?_⟩
  refine for_range0 (n := n.toNat) (fun i σ H3 => ∃ (v4 v5 v6 v7 v8 v9 v10 v11 : Option V) (kc : Int) (cs : List PyData) (zs : List V), σ = [some (.ref pen), some (.int (m : Int)), some (.int most), some (.ref cl), v4, v5, v6, v7, v8, v9, v10, v11] ∧ SameX pen H H3 ∧ H3 pen = some (.lst [.ref sp, .int kc]) ∧ k ≤ kc ∧ kc ≤ k + 1 + 26 * i ∧ H3 cl = some (.lst zs) ∧ DnL H3 cs zs ∧ cs.length = i ∧ (∀ c ∈ cs, isTie m c = true) ∧ cs.all (flatD 3) = true)
    ⟨_, _, _, _, _, _, _, _, k + 1, [], [], rfl, x2, hp2, by omega, by omega, hcl2, rfl, rfl, (fun _ z => nomatch z), rfl⟩ ?_ ?_
  · rintro i σ H3 hi ⟨v4, v5, v6, v7, v8, v9, v10, v11, kc, cs, zs, rfl, sx, hp3, kc0, kc1, hc3, dn, ln, okc, fl⟩
    have i8 : i ≤ 8 := by omega
    have lz := dn.length
    have pn3 := pn.to sx hp3
    have done : ∀ (dd : PyData) (v : V) (kd : Int) (H6 : Hp) (w4 w5 w6 w7 w8 w9 w10 w11 : Option V), SameX pen H3 H6 → H6 pen = some (.lst [.ref sp, .int kd]) → kc ≤ kd → kd ≤ kc + 26 → H6 cl = some (.lst zs) → Dn H6 dd v → isTie m dd = true → flatD 3 dd = true →
        (∃ (v4 v5 v6 v7 v8 v9 v10 v11 : Option V) (kc : Int) (cs : List PyData) (zs' : List V), [some (.ref pen), some (.int (m : Int)), some (.int most), some (.ref cl), w4, w5, w6, w7, w8, w9, w10, w11] = [some (.ref pen), some (.int (m : Int)), some (.int most), some (.ref cl), v4, v5, v6, v7, v8, v9, v10, v11] ∧ SameX pen H (L2.upd H6 cl (.lst (zs ++ [v]))) ∧ (L2.upd H6 cl (.lst (zs ++ [v]))) pen = some (.lst [.ref sp, .int kc]) ∧ k ≤ kc ∧ kc ≤ k + 1 + 26 * ((i + 1 : Nat) : Int) ∧ (L2.upd H6 cl (.lst (zs ++ [v]))) cl = some (.lst zs') ∧ DnL (L2.upd H6 cl (.lst (zs ++ [v]))) cs zs' ∧ cs.length = i + 1 ∧ (∀ c ∈ cs, isTie m c = true) ∧ cs.all (flatD 3) = true) := by
      intro dd v kd H6 w4 w5 w6 w7 w8 w9 w10 w11 sx6 hp6 kd0 kd1 hc6 dv ti fd
      refine ⟨_, _, _, _, _, _, _, _, kd, cs ++ [dd], zs ++ [v], rfl, SameX.put (sx.trans sx6) hcl ncp hc6, ?_, by omega, by push_cast; omega, upd_same, ?_, ?_, fun c hc' => ?_, ?_⟩
      · rw [upd_ne (Ne.symm ncp)]
        exact hp6
      · exact (DnL.pen hc6 fl (DnL.tupS (SameX.tup hp3 sx6) fl dn)).append ⟨v, [], rfl, Dn.pen hc6 fd dv, rfl⟩
      · rw [List.length_append, List.length_singleton, ln]
      · rcases List.mem_append.mp hc' with z | z
        · exact okc c z
        · rw [List.mem_singleton.mp z]
          exact ti
      · rw [List.all_append, fl]
        simp [fd]
    refine ⟨_, rfl, _, rfl, pen, sp, ns, m, kc, rfl, pn3, by omega, by omega, by omega, fun one o0 o1 => ?_⟩
    have xa := sameX_pen (pen := pen) (H := H3) (.lst [.ref sp, .int (kc + 1)])
    refine ⟨_, rfl, _, _, rfl, rfl, _, rfl, _, rfl, _, _, rfl, rfl, _, _, rfl, pen, sp, ns, _, kc + 1, rfl, pn3.to xa upd_same, by omega, by omega, (by split <;> omega), fun x x0 x1 => ?_⟩
    have xb := xa.trans (sameX_pen (pen := pen) (.lst [.ref sp, .int (kc + 1 + 1)]))
    refine ⟨_, _, rfl, rfl, _, rfl, _, _, rfl, rfl, (by show (0 : Int) < m; omega), ?_⟩
    refine ⟨_, rfl, pen, sp, ns, 4, kc + 1 + 1, rfl, pn3.to xb upd_same, by omega, by omega, by decide, fun way w0 w1 => ?_⟩
    have xc := xb.trans (sameX_pen (pen := pen) (.lst [.ref sp, .int (kc + 1 + 1 + 1)]))
    have hpc : L2.upd (L2.upd (L2.upd H3 pen (.lst [.ref sp, .int (kc + 1)])) pen (.lst [.ref sp, .int (kc + 1 + 1)])) pen (.lst [.ref sp, .int (kc + 1 + 1 + 1)]) pen = some (.lst [.ref sp, .int (kc + 1 + 1 + 1)]) := upd_same
    generalize L2.upd (L2.upd (L2.upd H3 pen (.lst [.ref sp, .int (kc + 1)])) pen (.lst [.ref sp, .int (kc + 1 + 1)])) pen (.lst [.ref sp, .int (kc + 1 + 1 + 1)]) = H4 at xc hpc ⊢
    have hc4 := xc _ _ ncp hc3
    have pn4 := pn3.to xc hpc
    refine ⟨_, rfl, _, _, rfl, rfl, _, rfl, ?_⟩
    have both : (way < 2 ∧ (1 : Int) < m) ∨ ¬ (way < 2 ∧ (1 : Int) < m) := Decidable.em _
    rcases both with ⟨c', m2'⟩ | nb
    · refine iteB (decide_eq_true c') ?_
      refine ⟨_, rfl, _, _, rfl, rfl, _, rfl, ?_⟩
      refine iteB (decide_eq_true m2') ?_
      refine ⟨_, rfl, .inl ⟨rfl, _, SqL.of hc4⟩, small (by show 2 ≤ 1000; decide), fun lp hlp => ?_⟩
      have sn := same_new hlp (.lst [.str ("needs" : Str), .str ("bans" : Str)])
      obtain ⟨sN, sk, snm, sok, hat⟩ : ∃ sN : Str, (sN = ("needs" : Str) ∨ sN = ("bans" : Str)) ∧ ¬ sN = ("most" : Str) ∧ PyData.strOk sN = true ∧ atI ([.str ("needs" : Str), .str ("bans" : Str)] : List V) way = some (.str sN) := by
        have e : way = 0 ∨ way = 1 := by omega
        rcases e with e | e <;> rw [e]
        · exact ⟨_, .inl rfl, by decide +kernel, strOk_needs, rfl⟩
        · exact ⟨_, .inr rfl, by decide +kernel, strOk_bans, rfl⟩
      refine ⟨_, rfl, lp, _, _, _, rfl, rfl, SqL.of upd_same, hat, _, rfl, _, rfl, small (by show 3 ≤ 1000; decide), fun tp htp => ?_⟩
      have x2 : x < (m : Int) - 1 := by revert x1; split <;> omega
      obtain ⟨n0', n1', n2'⟩ := mod_near (many := m) m2' (by omega) o0 o1 x0 x2
      have st := same_new htp (.tup [.str sN, .int one, .int ((one + 1 + x) % (m : Int))])
      have snt := sn.trans st
      refine ⟨cl, _, _, rfl, rfl, snt _ _ hc4, small1000 (by omega), ?_⟩
      refine done (.tuple [.str sN, .int one, .int ((one + 1 + x) % (m : Int))]) _ (kc + 1 + 1 + 1) _ _ _ _ _ _ _ _ _ (xc.trans (Same.x snt)) (snt _ _ hpc) (by omega) (by omega) (snt _ _ hc4) ⟨tp, _, rfl, upd_same, _, _, rfl, rfl, _, _, rfl, rfl, _, _, rfl, rfl, rfl⟩ ?_ ?_
      · show tieK m sN _ _ = true
        unfold tieK
        rw [if_neg snm, if_pos sk]
        show ((decide ((0 : Int) ≤ _) && decide (_ ≤ (m : Int) - 1)) && ((decide ((0 : Int) ≤ _) && decide (_ ≤ (m : Int) - 1)) && !decide (_ = _))) = true
        rw [decide_eq_true o0, decide_eq_true (by omega), decide_eq_true n0', decide_eq_true (by omega), decide_eq_false n2']
        rfl
      · show (true && (flatD 2 (.str sN) && (true && (true && true)))) = true
        rw [show flatD 2 (.str sN) = true from sok]
        rfl
    · have mk : ∀ (v : V) (top : Int) (ps : List PyData) (w6 w8 w9 w10 w11 : Option V) (kd : Int) (H6 : Hp), SameX pen H4 H6 → H6 pen = some (.lst [.ref sp, .int kd]) → kc + 1 + 1 + 1 ≤ kd → kd ≤ kc + 1 + 1 + 1 + 21 → Dn H6 (.tuple [.str ("most" : Str), .int top, .tuple ps]) v → (ps.all pairOk = true ∧ ps.all (flatD 1) = true ∧ rising (m : Int) (ps.map fstD) (-1) = true ∧ ps.length ≤ m ∧ 0 < ps.length) → H6 cl = some (.lst zs) → _ := fun v top ps w6 w8 w9 w10 w11 kd H6 x6 hp6 kd0 kd1 dv pp hc6 => done (.tuple [.str ("most" : Str), .int top, .tuple ps]) v kd H6 (some (.int (i : Int))) (some (.int one)) w6 (some (.int way)) w8 w9 w10 w11 (xc.trans x6) hp6 (by omega) (by omega) hc6 dv (by
          obtain ⟨pok, _, pri, _, p0⟩ := pp
          show tieK m ("most" : Str) (.int top) (.tuple ps) = true
          unfold tieK
          rw [if_pos rfl]
          show (true && (decide (0 < ps.length) && ps.all pairOk && rising m (ps.map fstD) (-1))) = true
          rw [decide_eq_true p0, pok, pri]
          rfl) (by
          obtain ⟨_, pfl, _, pfw, _⟩ := pp
          have f2 : flatD 2 (.tuple ps) = true := by
            show (decide (ps.length ≤ 1000) && ps.all (flatD 1)) = true
            rw [decide_eq_true (by omega), pfl]
            rfl
          show (true && (flatD 2 (.str ("most" : Str)) && (flatD 2 (.int top) && (flatD 2 (.tuple ps) && true)))) = true
          rw [show flatD 2 (.str ("most" : Str)) = true from strOk_most, f2]
          rfl)
      by_cases c : way < 2
      · refine iteB (decide_eq_true c) ?_
        refine ⟨_, rfl, _, _, rfl, rfl, _, rfl, ?_⟩
        refine iteBN (decide_eq_false fun z => nb ⟨c, z⟩) ?_
        exact rE _ cl one (kc + 1 + 1 + 1) zs _ _ _ _ _ _ _ H4 pn4 (by omega) (by omega) o0 o1 hc4 (by omega) ncp fun v top ps w8 w9 w10 w11 => mk v top ps _ w8 w9 w10 w11
      · refine iteBN (decide_eq_false c) ?_
        refine iteF ?_
        exact rE _ cl one (kc + 1 + 1 + 1) zs _ _ _ _ _ _ _ H4 pn4 (by omega) (by omega) o0 o1 hc4 (by omega) ncp fun v top ps w8 w9 w10 w11 => mk v top ps _ w8 w9 w10 w11
  · rintro σ H3 ⟨v4, v5, v6, v7, v8, v9, v10, v11, kc, cs, zs, rfl, sx, hp3, kc0, kc1, hc3, dn, ln, okc, fl⟩
    exact ⟨_, rfl, q cl cs zs kc H3 sx hp3 (by omega) (by omega) hc3 hcl dn okc (by omega) fl⟩

end
section
variable {P : Program} {w : World} {K : PySem.W.Frag} {mg : Str → Option Value} {base : Heap} {a : Adr} {d : Fds}
theorem ok_law_wood (T : Txt K mg a d) : FnOk P w K mg base CX0 3 a.f_law_wood d.f_law_wood ["_law_state", "_law_most"] (spWoodM K) := by
  have G_law_take := ok_law_take (P := P) (w := w) (base := base) T
  have G_law_boughs := ok_law_boughs (P := P) (w := w) (base := base) T
  have G_law_cross := ok_law_cross (P := P) (w := w) (base := base) T
  refine T.K_law_wood.ok sc_law_wood (fun vs H Q E h => ?_) (fun cdv A outer s H vs Q E hr h => ?_)
  · obtain ⟨pen, sp, ns, most, k, rfl, _⟩ := h
    rfl
  obtain ⟨pen, sp, ns, most, k, rfl, pn, k0, k1, mo0, mo1, q⟩ := h
  obtain ⟨ct2, ch2, cu2⟩ := cutS (X := (cxOf CX0 P w K mg base ["_law_state", "_law_most", "_law_many"] "_law_wood" (defScope s_law_wood) a.f_law_wood cdv A outer s H E).nox) (st := (defBody s_law_wood).drop 2) (pss_one (ps_ret (pe_tup (pa_cons (pv 2) (pa_cons (pe_callTy call_tuple_of rfl T.m_tuple PyProof.Rows.boot_tuple (pa_cons (pe_call G_law_boughs (hr.mono (by first | decide | omega)) rfl T.g_law_boughs T.K_law_boughs.kp T.B_law_boughs .nil pass0 (pa_cons (pv 0) (pa_cons (pv 2) pa_nil))) pa_nil)) (pa_cons (pe_callTy call_tuple_of rfl T.m_tuple PyProof.Rows.boot_tuple (pa_cons (pe_call G_law_cross (hr.mono (by first | decide | omega)) rfl T.g_law_cross T.K_law_cross.kp T.B_law_cross .nil pass0 (pa_cons (pv 0) (pa_cons (pv 2) (pa_cons (pv 1) pa_nil)))) pa_nil)) pa_nil))))))
  have tail : ∀ (m : Nat) (k1 : Int) (H1 : Hp), SameX pen H H1 → H1 pen = some (.lst [.ref sp, .int k1]) → k ≤ k1 → k1 ≤ k + 3 → 1 ≤ m → m ≤ 9 → ct2 { nx := fun _ H' => Q .non H', rt := Q } [some (.ref pen), some (.int most), some (.int (m : Int))] H1 := by
    intro m k1 H1 sx1 hp1 k10 k11 m1 m9
    refine cu2 _ _ _ ?_
    refine ⟨_, rfl, _, rfl, _, rfl, pen, sp, ns, m, k1, rfl, pn.to sx1 hp1, by omega, by omega, m1, m9, fun l bs xs k2 H2 sx2 hp2 k20 k21 hl2 nl dn gb b8 fb => ?_⟩
    have lx := dn.length
    refine ⟨l, _, rfl, .inl ⟨SqL.of hl2, fun t1 ht1 => ?_⟩⟩
    have s3 := same_new ht1 (.tup xs)
    have ht13 : L2.upd H2 t1 (.tup xs) t1 = some (.tup xs) := upd_same
    have hp3 := s3 _ _ hp2
    have sx3 := (sx1.trans sx2).trans (Same.x (pen := pen) s3)
    have d3 := DnL.same s3 _ _ dn
    generalize L2.upd H2 t1 (.tup xs) = H3 at s3 ht13 hp3 sx3 d3 ⊢
    refine ⟨_, rfl, _, rfl, _, rfl, pen, sp, ns, m, most, k2, rfl, pn.to sx3 hp3, by omega, by omega, m1, m9, mo0, mo1, fun cl cs zs k4 H4 sx4 hp4 k40 k41 hc4 nc dc okc lc fc => ?_⟩
    refine ⟨cl, _, rfl, .inl ⟨SqL.of hc4, fun t2 ht2 => ?_⟩⟩
    have s5 := same_new ht2 (.tup zs)
    refine ⟨small (by show 3 ≤ 1000; decide), fun wd hwd => ?_⟩
    have s6 := same_new hwd (.tup [.int (m : Int), .ref t1, .ref t2])
    have s56 := s5.trans s6
    have tS := SameX.tup hp3 sx4
    refine q wd m bs cs k4 _ ((sx3.trans sx4).trans (Same.x s56)) (s56 _ _ hp4) (by omega) (by omega) m1 m9 ⟨⟨xs, zs, ⟨t1, t2, upd_same, s56 _ _ (tS _ _ ht13), s6 _ _ upd_same⟩, DnL.same s56 _ _ (DnL.tupS tS fb d3), DnL.same s56 _ _ dc⟩, gb, okc, by omega, by omega, fb, fc, m1, m9⟩ lc
  have nxt : ∀ (H1 : Hp) (k1 : Int), SameX pen H H1 → SameX pen H (L2.upd H1 pen (.lst [.ref sp, .int (k1 + 1)])) := fun H1 k1 sx => sx.trans (sameX_pen (pen := pen) (.lst [.ref sp, .int (k1 + 1)]))
  refine ⟨_, (pss_cons (ps_set (i := 2) sc_law_wood.nd rfl (Or.inl rfl) (pe_op op_add pe_int (pe_call G_law_take (hr.mono (by first | decide | omega)) rfl T.g_law_take T.K_law_take.kp T.B_law_take .nil pass0 (pa_cons (pv 0) (pa_cons pe_int pa_nil)))))
      (pss_cons (ps_if (pt_cmpR op_eq (pe_call G_law_take (hr.mono (by first | decide | omega)) rfl T.g_law_take T.K_law_take.kp T.B_law_take .nil pass0 (pa_cons (pv 0) (pa_cons pe_int pa_nil))) pe_int (nomark _)) (pss_one (ps_set (i := 2) sc_law_wood.nd rfl (Or.inl rfl) (pe_op op_add pe_int (pe_call G_law_take (hr.mono (by first | decide | omega)) rfl T.g_law_take T.K_law_take.kp T.B_law_take .nil pass0 (pa_cons (pv 0) (pa_cons pe_int pa_nil)))))) pss_nil)
      ch2)), ?_⟩
  refine ⟨_, rfl, pen, sp, ns, 6, k, rfl, pn, k0, by omega, by decide, fun c c0 c1 => ?_⟩
  refine ⟨_, _, rfl, rfl, ?_⟩
  have x1 := nxt H k (SameX.refl pen H)
  have h1 : L2.upd H pen (.lst [.ref sp, .int (k + 1)]) pen = some (.lst [.ref sp, .int (k + 1)]) := upd_same
  generalize L2.upd H pen (.lst [.ref sp, .int (k + 1)]) = H1 at x1 h1 ⊢
  refine ⟨_, rfl, pen, sp, ns, 8, k + 1, rfl, pn.to x1 h1, by omega, by omega, by decide, fun e e0 e1 => ?_⟩
  have x2 := nxt H1 (k + 1) x1
  have h2 : L2.upd H1 pen (.lst [.ref sp, .int (k + 1 + 1)]) pen = some (.lst [.ref sp, .int (k + 1 + 1)]) := upd_same
  generalize L2.upd H1 pen (.lst [.ref sp, .int (k + 1 + 1)]) = H2 at x2 h2 ⊢
  refine ⟨rfl, _, rfl, ?_⟩
  refine ite2 (fun _ => ?_) (fun _ => ?_)
  · refine ⟨_, rfl, pen, sp, ns, 3, k + 1 + 1, rfl, pn.to x2 h2, by omega, by omega, by decide, fun g g0 g1 => ?_⟩
    refine ⟨_, _, rfl, rfl, ?_⟩
    have x3 := nxt H2 (k + 1 + 1) x2
    have h3 : L2.upd H2 pen (.lst [.ref sp, .int (k + 1 + 1 + 1)]) pen = some (.lst [.ref sp, .int (k + 1 + 1 + 1)]) := upd_same
    have t := tail (7 + g).toNat _ _ x3 h3 (by omega) (by omega) (by omega) (by omega)
    rw [show (((7 + g).toNat : Nat) : Int) = 7 + g by omega] at t
    exact t
  · have t := tail (1 + c).toNat _ _ x2 h2 (by omega) (by omega) (by omega) (by omega)
    rw [show (((1 + c).toNat : Nat) : Int) = 1 + c by omega] at t
    exact t

end
section
variable {P : Program} {w : World} {K : PySem.W.Frag} {mg : Str → Option Value} {base : Heap} {a : Adr} {d : Fds}
theorem ok_law_keeps (T : Txt K mg a d) : FnOk P w K mg base CX0 1 a.f_law_keeps d.f_law_keeps ["_law_tie", "_law_some"] spKeeps := by
  refine T.K_law_keeps.ok sc_law_keeps (fun vs H Q E h => ?_) (fun cdv A outer s H vs Q E hr h => ?_)
  · obtain ⟨t, m, n, v, rfl, _⟩ := h
    rfl
  obtain ⟨t, m, n, v, rfl, hd, ok, hm, q⟩ := h
  have q0 := q H (Same.refl H)
  refine ⟨_, (pss_cons (ps_if (pt_cmpR op_eq (pe_ix (ixT (K := K)) (pv 0) pe_int (fun _ _ => rfl)) pe_str (nomark _)) (pss_one (ps_ret (pe_cmpR op_le (pe_op op_and (pe_op op_shr (pv 1) (pe_ix (ixT (K := K)) (pv 0) pe_int (fun _ _ => rfl))) pe_int) (pe_op op_and (pe_op op_shr (pv 1) (pe_ix (ixT (K := K)) (pv 0) pe_int (fun _ _ => rfl))) pe_int) (nomark _)))) pss_nil)
      (pss_cons (ps_if (pt_cmpR op_eq (pe_ix (ixT (K := K)) (pv 0) pe_int (fun _ _ => rfl)) pe_str (nomark _)) (pss_one (ps_ret (pe_cmpR op_eq (pe_op op_and (pe_op op_and (pe_op op_shr (pv 1) (pe_ix (ixT (K := K)) (pv 0) pe_int (fun _ _ => rfl))) (pe_op op_shr (pv 1) (pe_ix (ixT (K := K)) (pv 0) pe_int (fun _ _ => rfl)))) pe_int) pe_int (nomark _)))) pss_nil)
      (pss_cons (ps_if (pt_cmpR op_eq (pe_ix (ixT (K := K)) (pv 0) pe_int (fun _ _ => rfl)) pe_str (nomark _)) (pss_one (ps_ret (pe_cmpR op_le (pe_callB (call_sum_ints rfl) rfl T.m_sum PyProof.Rows.boot_sum (pa_cons (pe_lc (sc0 := defScope s_law_keeps) (XN := ["_law_tie", "_law_some", "_law_up", "_law_low", "_law_high", "_law_kids", "_law_count"]) (N' := ["_law_c", "_law_number", "_law_some"]) (n := 2) (kp := [1]) rfl (piT (K := K) (pe_ix (ixT (K := K)) (pv 0) pe_int (fun _ _ => rfl))) rfl rfl (by decide +kernel) (fun _ _ _ _ _ => (pgT (K := K) (n := 2) rfl (pgs_cons (pg_name (i := 0) (by show List.Nodup (["_law_c", "_law_number", "_law_some"] : List Str); decide +kernel) rfl (Or.inl rfl)) (pgs_cons (pg_name (i := 1) (by show List.Nodup (["_law_c", "_law_number", "_law_some"] : List Str); decide +kernel) rfl (Or.inl rfl)) pgs_nil)))) (fun _ _ _ _ _ => (pts_one (pt_cmpR op_eq (pe_op op_and (pe_op op_shr (pv 2) (pv 0)) pe_int) pe_int (nomark _)))) (fun _ _ _ _ _ => (pv 1))) pa_nil)) (pe_ix (ixT (K := K)) (pv 0) pe_int (fun _ _ => rfl)) (nomark _)))) pss_nil)
      (pss_cons (ps_asg (pv 0) (pgT (K := K) (n := 4) rfl (pgs_cons (pg_name (i := 2) sc_law_keeps.nd rfl (Or.inl rfl)) (pgs_cons (pg_name (i := 3) sc_law_keeps.nd rfl (Or.inl rfl)) (pgs_cons (pg_name (i := 4) sc_law_keeps.nd rfl (Or.inl rfl)) (pgs_cons (pg_name (i := 5) sc_law_keeps.nd rfl (Or.inl rfl)) pgs_nil))))))
      (pss_cons (ps_set (i := 6) sc_law_keeps.nd rfl (Or.inl rfl) (pe_callB (lenS (K := K)) rfl T.m_len PySem.boot_len (pa_cons (pe_lc (sc0 := defScope s_law_keeps) (XN := ["_law_tie", "_law_some", "_law_up", "_law_low", "_law_high", "_law_kids", "_law_count"]) (N' := ["_law_k", "_law_some"]) (n := 1) (kp := [1]) rfl (piT (K := K) (pv 5)) rfl rfl (by decide +kernel) (fun _ _ _ _ _ => (pg_name (i := 0) (by show List.Nodup (["_law_k", "_law_some"] : List Str); decide +kernel) rfl (Or.inl rfl))) (fun _ _ _ _ _ => (pts_one (pt_cmpR op_eq (pe_op op_and (pe_op op_shr (pv 1) (pv 0)) pe_int) pe_int (nomark _)))) (fun _ _ _ _ _ => (pv 0))) pa_nil)))
      (pss_cons (ps_if (pt_cmpR op_eq (pe_op op_and (pe_op op_shr (pv 1) (pv 2)) pe_int) pe_int (nomark _)) (pss_one (ps_ret (pe_chain op_le op_le (pv 3) (pv 6) (pv 4)))) pss_nil)
      (pss_one (ps_ret (pe_cmpR op_eq (pv 6) pe_int (nomark _)))))))))), ?_⟩
  cases t with
  | needs x y =>
    obtain ⟨p, rfl, hp⟩ := at_word hd
    refine ⟨_, rfl, p, _, _, _, rfl, rfl, sqT hp, at0, rfl, _, rfl, ?_⟩
    refine iteD rfl ?_
    refine ⟨_, rfl, _, rfl, p, _, _, _, rfl, rfl, sqT hp, at1, _, _, rfl, rfl, by omega, _, _, rfl, rfl, _, rfl, _, rfl, p, _, _, _, rfl, rfl, sqT hp, at2, _, _, rfl, rfl, by omega, _, _, rfl, rfl, _, _, rfl, rfl, ?_⟩
    dsimp only
    rw [shr_bit, shr_bit, le_bits]
    exact q0
  | bans x y =>
    obtain ⟨p, rfl, hp⟩ := at_word hd
    refine ⟨_, rfl, p, _, _, _, rfl, rfl, sqT hp, at0, rfl, _, rfl, ?_⟩
    refine iteDN bans_needs ?_
    refine ⟨_, rfl, p, _, _, _, rfl, rfl, sqT hp, at0, rfl, _, rfl, ?_⟩
    refine iteD rfl ?_
    refine ⟨_, rfl, _, rfl, p, _, _, _, rfl, rfl, sqT hp, at1, _, _, rfl, rfl, by omega, _, rfl, _, rfl, p, _, _, _, rfl, rfl, sqT hp, at2, _, _, rfl, rfl, by omega, _, _, rfl, rfl, _, _, rfl, rfl, rfl, ?_⟩
    dsimp only
    rw [two_bits]
    exact q0
  | most top ps =>
    obtain ⟨p, pq, xs, rfl, hp, hq, hps⟩ := at_most hd
    have lx : xs.length = ps.length := by rw [← hps.length, List.length_map]
    have few : ps.length ≤ m := ok.2.2.2
    refine ⟨_, rfl, p, _, _, _, rfl, rfl, sqT hp, at0, rfl, _, rfl, ?_⟩
    refine iteDN most_needs ?_
    refine ⟨_, rfl, p, _, _, _, rfl, rfl, sqT hp, at0, rfl, _, rfl, ?_⟩
    refine iteDN most_bans ?_
    refine ⟨_, rfl, p, _, _, _, rfl, rfl, sqT hp, at0, rfl, _, rfl, ?_⟩
    refine iteD rfl ?_
    refine ⟨_, rfl, p, _, _, _, rfl, rfl, sqT hp, at2, pq, rfl, ⟨_, sqT hq⟩, ?_⟩
    refine lc_tup (K := K) (a := pq) (xs := xs) (fun i ys σ H2 => (∃ v v', σ = [v, v', some (.int n)]) ∧ H2 = H ∧ i ≤ ps.length ∧ ys = (((ps.take i).filter fun p => n.testBit p.1).map (·.2)).map V.int) ⟨⟨none, none, rfl⟩, rfl, Nat.zero_le _, rfl⟩ (fun i ys σ H2 hi pv => ?_) (fun i ys σ H2 hi pv => ?_) (fun i x ys σ H2 hx pv => ?_) (fun ys σ H2 pv l hl => ?_)
    · obtain ⟨_, _, h1, rfl⟩ := pv
      rw [List.length_map, List.length_map]
      refine small (Nat.le_trans (List.length_filter_le _ _) ?_)
      rw [List.length_take]
      omega
    · rw [pv.2.1]
      exact sqT hq
    · obtain ⟨⟨v, v', rfl⟩, rfl, h1, rfl⟩ := pv
      obtain ⟨pr, r, hpr, rfl, hr'⟩ := at_pair hps hx
      have hj : i < ps.length := (List.getElem?_eq_some_iff.mp hpr).1
      have ee := PySem.take_succ_filter (fun p : Nat × Int => n.testBit p.1) ps i pr hpr
      refine ⟨r, _, rfl, sqT hr', rfl, _, _, rfl, _, _, rfl, rfl, ?_⟩
      refine ⟨_, rfl, _, rfl, _, _, rfl, rfl, by omega, _, _, rfl, rfl, rfl, _, rfl, ?_⟩
      rw [dec_shr1]
      refine ite2 (fun c => ?_) (fun c => ?_)
      · refine ⟨_, rfl, ⟨_, _, rfl⟩, rfl, hj, ?_⟩
        rw [ee, if_pos c, List.map_append, List.map_append]
        rfl
      · refine ⟨⟨_, _, rfl⟩, rfl, hj, ?_⟩
        rw [ee, if_neg c, List.append_nil]
    · obtain ⟨_, rfl, _, rfl⟩ := pv
      have sm := same_new hl (.lst ((((ps.take xs.length).filter fun p => n.testBit p.1).map (·.2)).map V.int))
      refine ⟨l, _, rfl, SqL.of upd_same, _, rfl, p, _, _, _, rfl, rfl, sqT (sm _ _ hp), at1, _, _, rfl, rfl, ?_⟩
      have q1 := q _ sm
      have e : (Tie.most top ps).keep n = decide ((((ps.take xs.length).filter fun p => n.testBit p.1).map (·.2)).sum ≤ top) := by
        rw [lx, List.take_length]
        rfl
      rw [e] at q1
      exact q1
  | bough u lo hi ks =>
    obtain ⟨p, pk, rfl, hp, hpk⟩ := at_bough hd
    have ok' : Tie.BoughOk m u lo hi ks := ok
    have few := ok'.few
    refine ⟨_, rfl, p, _, _, _, rfl, rfl, sqT hp, at0, rfl, _, rfl, ?_⟩
    refine iteDN int_str ?_
    refine ⟨_, rfl, p, _, _, _, rfl, rfl, sqT hp, at0, rfl, _, rfl, ?_⟩
    refine iteDN int_str ?_
    refine ⟨_, rfl, p, _, _, _, rfl, rfl, sqT hp, at0, rfl, _, rfl, ?_⟩
    refine iteDN int_str ?_
    refine ⟨_, rfl, p, _, rfl, sqT hp, rfl, _, _, rfl, _, _, rfl, _, _, rfl, _, _, rfl, rfl, ?_⟩
    refine ⟨_, rfl, pk, rfl, ⟨_, sqT hpk⟩, ?_⟩
    refine lc_tup (K := K) (a := pk) (xs := natsL ks) (fun i ys σ H2 => (∃ v, σ = [v, some (.int n)]) ∧ H2 = H ∧ ys = natsL ((ks.take i).filter fun k => n.testBit k)) ⟨⟨none, rfl⟩, rfl, rfl⟩ (fun i ys σ H2 hi pv => ?_) (fun i ys σ H2 hi pv => ?_) (fun i x ys σ H2 hx pv => ?_) (fun ys σ H2 pv l hl => ?_)
    · obtain ⟨_, _, rfl⟩ := pv
      rw [List.length_map]
      refine small (Nat.le_trans (List.length_filter_le _ _) ?_)
      rw [List.length_take]
      omega
    · rw [pv.2.1]
      exact sqT hpk
    · obtain ⟨⟨v, rfl⟩, rfl, rfl⟩ := pv
      rw [List.getElem?_map] at hx
      obtain ⟨k, hk', rfl⟩ := Option.map_eq_some_iff.mp hx
      have et : ks.take (i + 1) = ks.take i ++ [k] := by rw [List.take_add_one, hk', Option.toList_some]
      refine ⟨_, rfl, _, rfl, _, _, rfl, rfl, by omega, _, _, rfl, rfl, rfl, _, rfl, ?_⟩
      rw [dec_shr1]
      refine ite2 (fun c => ?_) (fun c => ?_)
      · refine ⟨_, rfl, ⟨_, rfl⟩, rfl, ?_⟩
        rw [et, List.filter_append, List.filter_cons_of_pos c]
        show _ = List.map _ (_ ++ _)
        rw [List.map_append]
        rfl
      · refine ⟨⟨_, rfl⟩, rfl, ?_⟩
        rw [et, List.filter_append, List.filter_cons_of_neg c, List.filter_nil, List.append_nil]
    · obtain ⟨_, rfl, rfl⟩ := pv
      rw [List.length_map, List.take_length] at *
      have sm := same_new hl (.lst (natsL (ks.filter fun k => n.testBit k)))
      refine ⟨l, _, rfl, .inl (SqL.of upd_same), ?_⟩
      have ec : (((natsL (ks.filter fun k => n.testBit k)).length : Nat) : Int) = (cnt ks n : Int) := by
        rw [List.length_map]
        rfl
      rw [ec]
      have q1 := q _ sm
      refine ⟨_, rfl, _, rfl, _, _, rfl, rfl, by omega, _, _, rfl, rfl, rfl, _, rfl, ?_⟩
      rw [dec_shr1]
      refine ite2 (fun c => ?_) (fun c => ?_)
      · rw [keep_up c] at q1
        refine ⟨_, rfl, _, rfl, _, _, rfl, rfl, _, rfl, ?_⟩
        refine ite2 (fun c2 => ?_) (fun c2 => ?_)
        · rw [c2, Bool.true_and] at q1
          exact ⟨_, rfl, _, _, rfl, rfl, q1⟩
        · rw [Bool.eq_false_iff.mpr c2, Bool.false_and] at q1
          exact q1
      · rw [keep_no c, ← dec_cnt0] at q1
        exact ⟨_, rfl, rfl, q1⟩

end
section
variable {P : Program} {w : World} {K : PySem.W.Frag} {mg : Str → Option Value} {base : Heap} {a : Adr} {d : Fds}
theorem ok_law_broken (T : Txt K mg a d) : FnOk P w K mg base CX0 2 a.f_law_broken d.f_law_broken ["_law_wood_here"] spBrokenL := by
  have G_law_keeps := ok_law_keeps (P := P) (w := w) (base := base) T
  refine T.K_law_broken.ok sc_law_broken (fun vs H Q E h => ?_) (fun cdv A outer s H vs Q E hr h => ?_)
  · obtain ⟨wd, m, ts, rfl, _⟩ := h
    rfl
  obtain ⟨wd, m, ts, rfl, W, m9, tl, q⟩ := h
  obtain ⟨xs, ys, ⟨tb, tc, hw, hb, hc⟩, dn⟩ := W.ex
  have p62 : (2 : Int) ^ 62 = 4611686018427387904 := by decide
  have pm := pow_pos2 m
  have pm2 : 2 ^ m ≤ 512 := Nat.le_trans (Nat.pow_le_pow_right (by decide) m9) (by decide)
  have lxy : xs.length + ys.length = ts.length := by
    have := dn.length
    rw [List.length_map, List.length_append] at this
    omega
  refine ⟨_, (pss_cons (ps_setLc (i := 1) sc_law_broken.nd rfl rfl rfl (sc0 := defScope s_law_broken) (XN := ["_law_wood_here", "_law_found", "_law_t", "_law_tie", "_law_some"]) (N' := ["_law_some"]) (n := 1) (kp := []) rfl (pi_range1 rfl T.m_range (pa_cons (pe_op op_shl pe_int (pe_ix (ixT (K := K)) (pv 0) pe_int (fun _ _ => rfl))) pa_nil)) rfl rfl (by decide +kernel) (fun _ _ _ _ _ => (pg_name (i := 0) (by show List.Nodup (["_law_some"] : List Str); decide +kernel) rfl (Or.inl rfl))) (fun _ _ _ _ _ => pts_nil) (fun _ _ _ _ _ => pe_int))
      (pss_cons (ps_for PassesOwn.never rfl (pi_enum rfl T.m_enumerate (pa_cons (pe_op op_cat (pe_callTy call_list_of rfl T.m_list PyProof.Rows.boot_list (pa_cons (pe_ix (ixT (K := K)) (pv 0) pe_int (fun _ _ => rfl)) pa_nil)) (pe_callTy call_list_of rfl T.m_list PyProof.Rows.boot_list (pa_cons (pe_ix (ixT (K := K)) (pv 0) pe_int (fun _ _ => rfl)) pa_nil))) pa_nil)) (pgT (K := K) (n := 2) rfl (pgs_cons (pg_name (i := 2) sc_law_broken.nd rfl (Or.inl rfl)) (pgs_cons (pg_name (i := 3) sc_law_broken.nd rfl (Or.inl rfl)) pgs_nil))) (pss_one (ps_for PassesOwn.never rfl (pi_range1 rfl T.m_range (pa_cons (pe_op op_shl pe_int (pe_ix (ixT (K := K)) (pv 0) pe_int (fun _ _ => rfl))) pa_nil)) (pg_name (i := 4) sc_law_broken.nd rfl (Or.inl rfl)) (pss_one (ps_if (pt_not (pt_val (pe_call G_law_keeps (hr.mono (by first | decide | omega)) rfl T.g_law_keeps T.K_law_keeps.kp T.B_law_keeps .nil pass0 (pa_cons (pv 3) (pa_cons (pv 4) pa_nil))))) (pss_one (ps_asg (pe_op op_or (pe_ix (ixL (K := K)) (pv 1) (pv 4) (fun _ _ => rfl)) (pe_op op_shl pe_int (pv 2))) (pg_sub (pv 1) (pv 4) set_list))) pss_nil)))))
      (pss_one (ps_ret (pv 1))))), ?_⟩
  refine ⟨_, rfl, wd, _, _, _, rfl, rfl, sqT hw, at0, _, _, rfl, rfl, ⟨by omega, by omega, by decide⟩, _, rfl, by rw [shl1, p62]; omega, by rw [shl1, p62]; omega, ?_⟩
  rw [shl1, Int.toNat_natCast]
  refine lc_range0 (k := 2 ^ m) (fun i zs σ H2 => (∃ v, σ = [v]) ∧ H2 = H ∧ zs = natsL ((List.range i).map fun s => brk ts s 0)) ⟨⟨none, rfl⟩, rfl, rfl⟩ (fun i zs σ H2 hi pv => ?_) (fun i zs σ H2 hi pv => ?_) (fun zs σ H2 pv fl hfl => ?_)
  · obtain ⟨_, _, rfl⟩ := pv
    rw [List.length_map, List.length_map, List.length_range]
    exact small (by omega)
  · obtain ⟨⟨v, rfl⟩, rfl, rfl⟩ := pv
    refine ⟨⟨_, rfl⟩, rfl, ?_⟩
    rw [List.range_succ, List.map_append]
    show _ = List.map _ (_ ++ _)
    rw [List.map_append]
    rfl
  obtain ⟨_, rfl, rfl⟩ := pv
  have s3 := same_new hfl (.lst (natsL ((List.range (2 ^ m)).map fun s => brk ts s 0)))
  have hfl3 : L2.upd H2 fl (.lst (natsL ((List.range (2 ^ m)).map fun s => brk ts s 0))) fl = some (.lst (natsL ((List.range (2 ^ m)).map fun s => brk ts s 0))) := upd_same
  generalize L2.upd H2 fl (.lst (natsL ((List.range (2 ^ m)).map fun s => brk ts s 0))) = H3 at s3 hfl3 ⊢
  refine ⟨_, rfl, wd, _, _, _, rfl, rfl, sqT (s3 _ _ hw), at1, tb, _, rfl, .inr (sqT (s3 _ _ hb)), fun l1 hl1 => ?_⟩
  have s4 := same_new hl1 (.lst xs)
  refine ⟨_, rfl, wd, _, _, _, rfl, rfl, sqT (s4 _ _ (s3 _ _ hw)), at2, tc, _, rfl, .inr (sqT (s4 _ _ (s3 _ _ hc))), fun l2 hl2 => ?_⟩
  have s5 := same_new hl2 (.lst ys)
  refine ⟨l1, l2, _, _, rfl, rfl, s5 _ _ upd_same, upd_same, small (by omega), fun l3 hl3 => ?_⟩
  have s6 := same_new hl3 (.lst (xs ++ ys))
  have s36 := (s4.trans s5).trans s6
  have hl36 : L2.upd (L2.upd (L2.upd H3 l1 (.lst xs)) l2 (.lst ys)) l3 (.lst (xs ++ ys)) l3 = some (.lst (xs ++ ys)) := upd_same
  have n3 : fl ≠ l3 := ne_of_none ((s4.trans s5) _ _ hfl3) hl3
  generalize L2.upd (L2.upd (L2.upd H3 l1 (.lst xs)) l2 (.lst ys)) l3 (.lst (xs ++ ys)) = H6 at s36 hl36 ⊢
  have s06 := s3.trans s36
  have hfl6 := s36 _ _ hfl3
  have lsm : ∀ i : Nat, (natsL ((List.range (2 ^ m)).map fun s => brk ts s i)).length = 2 ^ m := fun i => by rw [List.length_map, List.length_map, List.length_range]
  refine ⟨false, l3, rfl, ⟨_, SqL.of hl36⟩, ?_⟩
  refine for_enum (K := K) (b := false) (a := l3) (xs := xs ++ ys) (fun i σ H7 => ∃ (v2 v3 v4 : Option V), σ = [some (.ref wd), some (.ref fl), v2, v3, v4] ∧ Same H2 H7 ∧ H7 l3 = some (.lst (xs ++ ys)) ∧ H7 fl = some (.lst (natsL ((List.range (2 ^ m)).map fun s => brk ts s i)))) ⟨_, _, _, rfl, s06, hl36, hfl6⟩ (fun i σ H7 _ z => ?_) ?_ ?_
  · obtain ⟨_, _, _, _, _, h7, _⟩ := z
    exact SqL.of h7
  · rintro i x σ H7 hx ⟨v2, v3, v4, rfl, s7, hl7, hf7⟩ TT hT
    have il : i < ts.length := by
      have := (List.getElem?_eq_some_iff.mp hx).1
      rw [List.length_append] at this
      omega
    obtain ⟨t, ht, hd⟩ := dn_tie dn hx
    have s8 := same_new hT (.tup [.int (i : Int), x])
    refine ⟨TT, _, rfl, sqT upd_same, rfl, _, _, rfl, _, _, rfl, rfl, ?_⟩
    have s78 := s7.trans s8
    have hl8 := s8 _ _ hl7
    have hf8 := s8 _ _ hf7
    generalize L2.upd H7 TT (.tup [.int (i : Int), x]) = H8 at s8 s78 hl8 hf8 ⊢
    refine ⟨_, rfl, wd, _, _, _, rfl, rfl, sqT (s78 _ _ hw), at0, _, _, rfl, rfl, ⟨by omega, by omega, by decide⟩, _, rfl, by rw [shl1, p62]; omega, by rw [shl1, p62]; omega, ?_⟩
    rw [shl1, Int.toNat_natCast]
    refine for_range0 (n := 2 ^ m) (fun j σ H9 => ∃ (v4 : Option V), σ = [some (.ref wd), some (.ref fl), some (.int (i : Int)), some x, v4] ∧ Same H2 H9 ∧ H9 l3 = some (.lst (xs ++ ys)) ∧ H9 fl = some (.lst (natsL ((List.range (2 ^ m)).map fun s => if s < j then brk ts s (i + 1) else brk ts s i)))) ⟨_, rfl, s78, hl8, ?_⟩ ?_ ?_
    · rw [hf8]
      simp
    · rintro j σ H9 hj ⟨v4, rfl, s9, hl9, hf9⟩
      have hbit : (ts[i]?.map fun t => t.keep j).getD true = t.keep j := by rw [ht]; rfl
      refine ⟨_, rfl, _, rfl, t, m, j, x, rfl, Dn.same s9 _ _ hd, W.ok t (List.mem_of_getElem? ht), by omega, fun HA sA => ?_⟩
      refine ⟨_, rfl, ?_⟩
      have hfA := sA _ _ hf9
      have same : ∀ g : Nat → Nat, (∀ s, s < 2 ^ m → g s = if s < j + 1 then brk ts s (i + 1) else brk ts s i) → natsL ((List.range (2 ^ m)).map g) = natsL ((List.range (2 ^ m)).map fun s => if s < j + 1 then brk ts s (i + 1) else brk ts s i) := fun g hg => by
        congr 1
        exact List.map_congr_left fun s hs => hg s (List.mem_range.mp hs)
      cases hk : t.keep j
      · refine iteT ?_
        refine ⟨_, rfl, _, rfl, fl, _, _, _, rfl, rfl, SqL.of hfA, told_at hj, _, rfl, _, _, rfl, rfl, ⟨by omega, by omega, by decide⟩, _, _, rfl, rfl, ?_⟩
        refine ⟨_, rfl, _, rfl, fl, _, _, j, rfl, rfl, hfA, ?_, ?_⟩
        · unfold ixN
          rw [List.length_map, List.length_map, List.length_range, if_pos (by omega), if_pos (by omega), Int.toNat_natCast]
        · have ev : Builtin.bitOr ((if j < j then brk ts j (i + 1) else brk ts j i : Nat) : Int) (1 * (2 : Int) ^ ((i : Nat) : Int).toNat) = ((brk ts j (i + 1) : Nat) : Int) := by
            rw [if_neg (Nat.lt_irrefl _), shl1, lor_nat]
            show _ = ((brk ts j i ||| _ : Nat) : Int)
            rw [hbit, hk, if_neg (by decide)]
          dsimp only
          rw [ev]
          have es := set_told (m := 2 ^ m) (k := j) (f := fun s => if s < j then brk ts s (i + 1) else brk ts s i) (g := fun s => if s < j + 1 then brk ts s (i + 1) else brk ts s i) (fun s => by
            by_cases z : s = j
            · rw [if_pos z, z]
            · rw [if_neg z]
              by_cases z2 : s < j
              · rw [if_pos z2, if_pos (by omega)]
              · rw [if_neg z2, if_neg (by omega)]) hj
          rw [if_pos (Nat.lt_succ_self j)] at es
          rw [es]
          have nl : l3 ≠ fl := Ne.symm n3
          refine ⟨_, rfl, Same.put (s9.trans sA) hfl hfA, ?_, upd_same⟩
          rw [upd_ne nl]
          exact sA _ _ hl9
      · refine iteF ?_
        refine ⟨_, rfl, s9.trans sA, sA _ _ hl9, ?_⟩
        rw [hfA]
        refine congrArg some (congrArg HO.lst (same _ fun s hs => ?_))
        by_cases z : s < j
        · rw [if_pos z, if_pos (by omega)]
        · rw [if_neg z]
          by_cases z2 : s = j
          · subst z2
            rw [if_pos (Nat.lt_succ_self _)]
            show _ = brk ts s i ||| _
            rw [hbit, hk, if_pos rfl, Nat.or_zero]
          · rw [if_neg (by omega)]
    · rintro σ H9 ⟨v4, rfl, s9, hl9, hf9⟩
      refine ⟨_, _, _, rfl, s9, hl9, ?_⟩
      rw [hf9]
      refine congrArg some (congrArg HO.lst ?_)
      congr 1
      exact List.map_congr_left fun s hs => if_pos (List.mem_range.mp hs)
  · rintro σ H7 ⟨v2, v3, v4, rfl, s7, hl7, hf7⟩
    rw [List.length_append, lxy] at hf7
    exact ⟨_, rfl, q fl _ s7 hfl hf7⟩

end
section
variable {P : Program} {w : World} {K : PySem.W.Frag} {mg : Str → Option Value} {base : Heap} {a : Adr} {d : Fds}
theorem ok_law_heard (T : Txt K mg a d) {p D : Addr} {C : Hp → Prop} {R : Hp → Hp → Prop} {r o : Bool} {fdL : FuncData} {φ : Heap → Prop} (HK : HeardK K D [a.x_NoCount, a.x_NoName, a.x_NoRow, a.x_NoText, a.x_NoWood, a.x_Unlike] a.x_NoOffer a.x_NoWares a.x_WoodError o) (L__law_ask : FnOk P w K mg base (CXR P w) 24 p fdL [] (spAskG C D r R)) (LB__law_ask : Binds K fdL [] []) (LP__law_ask : ∀ h : Heap, φ h → ∃ o fd', h.get? p = some o ∧ o.data = .func fd')
    (hCp : ∀ H, C H → H p = some (.ext φ)) : FnOk P w K mg base CX0 25 a.f_law_heard d.f_law_heard ["_law_ask"] (spHeardG p C r o R) := by
  refine T.K_law_heard.ok sc_law_heard (fun vs H Q E h => ?_) (fun cdv A outer s H vs Q E hr h => ?_)
  · obtain ⟨rfl, _⟩ := h
    rfl
  obtain ⟨rfl, c0, q⟩ := h
  obtain ⟨W, hW⟩ : ∃ W : XK, W = fun cls _ H' => r = true ∧ cls = .ref D ∧ Same H H' := ⟨_, rfl⟩
  refine ⟨_, (pss_cons (ps_set (i := 1) sc_law_heard.nd rfl (Or.inl rfl) pe_non)
      (pss_cons (ps_tryAs (i := 2) (W := W) rfl rfl (fun _ => (pss_one (ps_expr (pe_callV0 (i := 0) L__law_ask (hr.mono (by first | decide | omega)) rfl (.inl rfl) LB__law_ask LP__law_ask passR)))) rfl T.g_WoodError T.x_WoodError.cl sc_law_heard.nd rfl rfl (Or.inl rfl) (fun _ => (pss_one (ps_set (i := 1) sc_law_heard.nd rfl (Or.inl rfl) (pv 2)))))
      (pss_cons (ps_if (pt_cmpR op_isN (pv 1) pe_non (nomark _)) (pss_one (ps_ret pe_str)) pss_nil)
      (pss_cons (ps_for PassesOwn.never rfl (piL (K := K) (pe_lst (pa_cons (pe_callB (isiX (K := K)) rfl T.m_isinstance PyProof.Rows.boot_isinstance (pa_cons (pv 1) (pa_cons (pe_glob (v := .ref a.x_NoCount) rfl T.g_NoCount rfl) pa_nil))) (pa_cons (pe_callB (isiX (K := K)) rfl T.m_isinstance PyProof.Rows.boot_isinstance (pa_cons (pv 1) (pa_cons (pe_glob (v := .ref a.x_NoName) rfl T.g_NoName rfl) pa_nil))) (pa_cons (pe_callB (isiX (K := K)) rfl T.m_isinstance PyProof.Rows.boot_isinstance (pa_cons (pv 1) (pa_cons (pe_glob (v := .ref a.x_NoRow) rfl T.g_NoRow rfl) pa_nil))) pa_nil))))) (pg_name (i := 3) sc_law_heard.nd rfl (Or.inl rfl)) (pss_one (ps_if (pt_val (pv 3)) (pss_one (ps_ret pe_str)) pss_nil)))
      (pss_cons (ps_if (PW.pt (pw_or (pt_val (pe_callB (isiX (K := K)) rfl T.m_isinstance PyProof.Rows.boot_isinstance (pa_cons (pv 1) (pa_cons (pe_glob (v := .ref a.x_NoText) rfl T.g_NoText rfl) pa_nil)))) (pw_or (pt_val (pe_callB (isiX (K := K)) rfl T.m_isinstance PyProof.Rows.boot_isinstance (pa_cons (pv 1) (pa_cons (pe_glob (v := .ref a.x_NoWood) rfl T.g_NoWood rfl) pa_nil)))) (pw_or1 (pt_val (pe_callB (isiX (K := K)) rfl T.m_isinstance PyProof.Rows.boot_isinstance (pa_cons (pv 1) (pa_cons (pe_glob (v := .ref a.x_Unlike) rfl T.g_Unlike rfl) pa_nil)))))))) (pss_one (ps_ret pe_str)) pss_nil)
      (pss_cons (ps_if (PW.pt (pw_or (pt_not (pt_val (pe_callB (isiX (K := K)) rfl T.m_isinstance PyProof.Rows.boot_isinstance (pa_cons (pv 1) (pa_cons (pe_bltn (v := .ty "ValueError") rfl T.m_ValueError boot_VE rfl) pa_nil))))) (pw_or1 (pt_cmpR op_eq (pe_callB (isiX (K := K)) rfl T.m_isinstance PyProof.Rows.boot_isinstance (pa_cons (pv 1) (pa_cons (pe_glob (v := .ref a.x_NoOffer) rfl T.g_NoOffer rfl) pa_nil))) (pe_callB (isiX (K := K)) rfl T.m_isinstance PyProof.Rows.boot_isinstance (pa_cons (pv 1) (pa_cons (pe_glob (v := .ref a.x_NoWares) rfl T.g_NoWares rfl) pa_nil))) (nomark _))))) (pss_one (ps_ret pe_str)) pss_nil)
      (pss_one (ps_ret (pe_ix (ixL (K := K)) (pe_lst (pa_cons pe_str (pa_cons pe_str pa_nil))) (pe_callTy call_int1 rfl T.m_int PyProof.Rows.boot_int (pa_cons (pe_callB (isiX (K := K)) rfl T.m_isinstance PyProof.Rows.boot_isinstance (pa_cons (pv 1) (pa_cons (pe_glob (v := .ref a.x_NoOffer) rfl T.g_NoOffer rfl) pa_nil))) pa_nil)) (fun _ _ => rfl)))))))))), ?_⟩
  refine ⟨⟨rfl, hCp _ c0, rfl, c0, fun hr' H' s' => by rw [hW]; exact ⟨hr', rfl, s'⟩, fun hr' v H' s' => ?_⟩, ?_⟩
  · refine ⟨_, rfl, rfl, _, rfl, ?_⟩
    refine iteD rfl ?_
    have q' := q H' (fun z => by rw [hr'] at z; cases z) (fun _ => s')
    rw [hr'] at q'
    exact q'
  intro σ' H' ea Dc hl w1 hea
  rw [hW] at w1
  obtain ⟨hr', ec, sw⟩ := w1
  cases Value.ref.inj ec
  obtain ⟨v0, v1, v2, v3, rfl⟩ := len4 hl
  refine ⟨HK.x.cl, HK.up, ?_⟩
  have s1 := same_new hea (.ext (excP ea D))
  have h1 : L2.upd H' ea (.ext (excP ea D)) ea = some (.ext (excP ea D)) := upd_same
  generalize L2.upd H' ea (.ext (excP ea D)) = H1 at s1 h1 ⊢
  refine ⟨_, rfl, ?_⟩
  refine ⟨_, rfl, rfl, _, rfl, ?_⟩
  refine iteDN (fun z => nomatch z) ?_
  refine ⟨_, rfl, ea, _, _, _, rfl, h1, HK.x, .inl ⟨_, rfl, HK.no _ (by simp)⟩, _, rfl, ea, _, _, _, rfl, h1, HK.x, .inl ⟨_, rfl, HK.no _ (by simp)⟩, _, rfl, ea, _, _, _, rfl, h1, HK.x, .inl ⟨_, rfl, HK.no _ (by simp)⟩, small (by show 3 ≤ 1000; decide), fun l1 hl1 => ?_⟩
  have s2 := same_new hl1 (.lst [.bl false, .bl false, .bl false])
  have g2 : L2.upd H1 l1 (.lst [.bl false, .bl false, .bl false]) l1 = some (.lst [.bl false, .bl false, .bl false]) := upd_same
  generalize L2.upd H1 l1 (.lst [.bl false, .bl false, .bl false]) = H2 at s2 g2 ⊢
  have h2 := s2 _ _ h1
  refine ⟨l1, rfl, ⟨_, SqL.of g2⟩, ?_⟩
  refine for_list (K := K) (a := l1) (xs := [.bl false, .bl false, .bl false]) (fun i σ H3 => (∃ v : Option V, σ = [v0, some (.ref ea), none, v]) ∧ H3 = H2) ⟨⟨_, rfl⟩, rfl⟩ (fun i σ H3 _ z => by rw [z.2]; exact SqL.of g2) ?_ ?_
  · rintro i x σ H3 hx ⟨⟨v, rfl⟩, rfl⟩
    have ex : x = .bl false := by
      have m := List.mem_of_getElem? hx
      simp only [List.mem_cons, List.not_mem_nil, or_false] at m
      rcases m with z | z | z <;> exact z
    subst ex
    refine ⟨_, rfl, _, rfl, ?_⟩
    refine iteF ?_
    exact ⟨⟨_, rfl⟩, rfl⟩
  · rintro σ H3 ⟨⟨v, rfl⟩, rfl⟩
    refine ⟨_, rfl, ea, _, _, _, rfl, h2, HK.x, .inl ⟨_, rfl, HK.no _ (by simp)⟩, _, rfl, ?_⟩
    refine iteF ?_
    refine ⟨_, rfl, ea, _, _, _, rfl, h2, HK.x, .inl ⟨_, rfl, HK.no _ (by simp)⟩, _, rfl, ?_⟩
    refine iteF ?_
    refine ⟨_, rfl, ea, _, _, _, rfl, h2, HK.x, .inl ⟨_, rfl, HK.no _ (by simp)⟩, _, rfl, ?_⟩
    refine iteF ?_
    refine ⟨_, rfl, ea, _, _, _, rfl, h2, HK.x, .inr ⟨_, rfl, HK.ve⟩, _, rfl, ?_⟩
    refine iteF ?_
    refine ⟨_, rfl, ea, _, _, _, rfl, h2, HK.x, .inl ⟨_, rfl, HK.off⟩, _, rfl, ea, _, _, _, rfl, h2, HK.x, .inl ⟨_, rfl, HK.wares⟩, rfl, _, rfl, ?_⟩
    refine iteDN (by cases o <;> decide) ?_
    refine ⟨small (by show 2 ≤ 1000; decide), fun l hl => ?_⟩
    have s4 := same_new hl (.lst [.str ("wares" : Str), .str ("offer" : Str)])
    refine ⟨_, rfl, ea, _, _, _, rfl, s4 _ _ h2, HK.x, .inl ⟨_, rfl, HK.off⟩, .inr ⟨_, rfl, ?_⟩⟩
    refine ⟨l, _, _, .str (if o = true then ("offer" : Str) else ("wares" : Str)), rfl, rfl, SqL.of upd_same, by cases o <;> rfl, ?_⟩
    have q' := q _ (fun _ => sw.trans ((s1.trans s2).trans s4)) (fun z => by rw [hr'] at z; cases z)
    rw [hr'] at q'
    exact q'

end
section
variable {P : Program} {w : World} {K : PySem.W.Frag} {mg : Str → Option Value} {base : Heap} {a : Adr} {d : Fds}
theorem ok_law_stand (T : Txt K mg a d) : FnOk P w K mg base CX0 2 a.f_law_stand d.f_law_stand ["_law_chosen"] spLawStand := by
  refine T.K_law_stand.ok sc_law_stand (fun vs H Q E h => ?_) (fun cdv A outer s H vs Q E hr h => ?_)
  · obtain ⟨pl, ps, rfl, _⟩ := h
    rfl
  obtain ⟨pl, ps, rfl, PA, q⟩ := h
  obtain ⟨xs, hpl, pk⟩ := PA.ex
  have lx := pk.length
  refine ⟨_, (pss_cons (ps_set (i := 1) sc_law_stand.nd rfl (Or.inl rfl) pe_int)
      (pss_cons (ps_set (i := 2) sc_law_stand.nd rfl (Or.inl rfl) pe_int)
      (pss_cons (ps_for PassesOwn.never rfl (piL (K := K) (pv 0)) (pgT (K := K) (n := 2) rfl (pgs_cons (pg_name (i := 3) sc_law_stand.nd rfl (Or.inl rfl)) (pgs_cons (pg_name (i := 4) sc_law_stand.nd rfl (Or.inl rfl)) pgs_nil))) (pss_one (ps_if (pt_val (pv 4)) (pss_one (ps_set (i := 1) sc_law_stand.nd rfl (Or.inl rfl) (pe_op op_or (pv 1) (pe_op op_shl pe_int (pv 3))))) (pss_one (ps_set (i := 2) sc_law_stand.nd rfl (Or.inl rfl) (pe_op op_or (pv 2) (pe_op op_shl pe_int (pv 3))))))))
      (pss_one (ps_ret (pe_tup (pa_cons (pv 1) (pa_cons (pv 2) pa_nil)))))))), ?_⟩
  refine ⟨_, rfl, pl, rfl, ⟨_, SqL.of hpl⟩, ?_⟩
  refine for_list (K := K) (a := pl) (xs := xs) (fun i σ H2 => (∃ v3 v4 : Option V, σ = [some (.ref pl), some (.int (yesOf (ps.take i) : Int)), some (.int (noOf (ps.take i) : Int)), v3, v4]) ∧ H2 = H) ⟨⟨none, none, rfl⟩, rfl⟩ (fun i σ H2 _ z => by rw [z.2]; exact SqL.of hpl) ?_ ?_
  · rintro i x σ H2 hx ⟨⟨v3, v4, rfl⟩, rfl⟩
    obtain ⟨p, t, hp, rfl, ht⟩ := pk.get hx
    have et : ps.take (i + 1) = ps.take i ++ [p] := by rw [List.take_add_one, hp, Option.toList_some]
    have ple := PA.le p (List.mem_of_getElem? hp)
    refine ⟨t, _, rfl, sqT ht, rfl, _, _, rfl, _, _, rfl, rfl, ?_⟩
    refine ⟨_, rfl, _, rfl, ?_⟩
    cases e : p.2
    · refine iteF ?_
      refine ⟨_, rfl, _, rfl, _, _, rfl, rfl, ⟨by omega, by omega, by decide⟩, _, _, rfl, rfl, ?_⟩
      refine ⟨⟨some (.int (p.1 : Int)), some (.bl false), ?_⟩, rfl⟩
      rw [et, yes_snoc, no_snoc, e, if_neg Bool.false_ne_true, if_neg Bool.false_ne_true, ← lor_nat, ← shl1]
      rfl
    · refine iteT ?_
      refine ⟨_, rfl, _, rfl, _, _, rfl, rfl, ⟨by omega, by omega, by decide⟩, _, _, rfl, rfl, ?_⟩
      refine ⟨⟨some (.int (p.1 : Int)), some (.bl true), ?_⟩, rfl⟩
      rw [et, yes_snoc, no_snoc, e, if_pos rfl, if_pos rfl, ← lor_nat, ← shl1]
      rfl
  · rintro σ H2 ⟨⟨v3, v4, rfl⟩, rfl⟩
    rw [← lx, List.take_length]
    refine ⟨_, rfl, _, rfl, small (by show 2 ≤ 1000; decide), fun t ht => ?_⟩
    exact q t _ (same_new ht _) upd_same

end
section
variable {P : Program} {w : World} {K : PySem.W.Frag} {mg : Str → Option Value} {base : Heap} {a : Adr} {d : Fds}
theorem ok_law_sets (T : Txt K mg a d) : FnOk P w K mg base CX0 4 a.f_law_sets d.f_law_sets ["_law_broken_here", "_law_ties", "_law_chosen"] spSetsC := by
  have G_law_stand := ok_law_stand (P := P) (w := w) (base := base) T
  refine T.K_law_sets.ok sc_law_sets (fun vs H Q E h => ?_) (fun cdv A outer s H vs Q E hr h => ?_)
  · obtain ⟨bl, pl, B, ti, ps, rfl, _⟩ := h
    rfl
  obtain ⟨bl, pl, B, ti, ps, rfl, hB, few, PA, q⟩ := h
  have p62 : (2 : Int) ^ 62 = 4611686018427387904 := by decide
  refine ⟨_, (pss_cons (ps_asg (pe_call G_law_stand (hr.mono (by first | decide | omega)) rfl T.g_law_stand T.K_law_stand.kp T.B_law_stand .nil pass0 (pa_cons (pv 2) pa_nil)) (pgT (K := K) (n := 2) rfl (pgs_cons (pg_name (i := 3) sc_law_sets.nd rfl (Or.inl rfl)) (pgs_cons (pg_name (i := 4) sc_law_sets.nd rfl (Or.inl rfl)) pgs_nil))))
      (pss_cons (ps_set (i := 5) sc_law_sets.nd rfl (Or.inl rfl) (pe_lst pa_nil))
      (pss_cons (ps_for PassesOwn.never rfl (pi_range1 rfl T.m_range (pa_cons (pe_callB (lenS (K := K)) rfl T.m_len PySem.boot_len (pa_cons (pv 0) pa_nil)) pa_nil)) (pg_name (i := 6) sc_law_sets.nd rfl (Or.inl rfl)) (pss_one (ps_if (PW.pt (pw_and (pt_cmpR op_eq (pe_op op_and (pv 6) (pv 3)) (pv 3) (nomark _)) (pw_and (pt_cmpR op_eq (pe_op op_and (pv 6) (pv 4)) pe_int (nomark _)) (pw_and1 (pt_cmpR op_eq (pe_op op_and (pe_ix (ixL (K := K)) (pv 0) (pv 6) (fun _ _ => rfl)) (pv 1)) pe_int (nomark _)))))) (pss_one (ps_expr (pe_bmK (K := K) PySem.F.plainAttrs_list PySem.F.slot_list_append PySem.F.type_list_append mt_append (pv 5) (pa_cons (pv 6) pa_nil)))) pss_nil)))
      (pss_one (ps_ret (pv 5)))))), ?_⟩
  refine ⟨_, rfl, pl, ps, rfl, PA, fun t H1 s1 ht => ?_⟩
  refine ⟨t, _, rfl, sqT ht, rfl, _, _, rfl, _, _, rfl, rfl, ?_⟩
  refine ⟨small (by show 0 ≤ 1000; decide), fun lf hlf => ?_⟩
  have s2 := s1.trans (same_new hlf (.lst []))
  have g2 : L2.upd H1 lf (.lst []) lf = some (.lst []) := upd_same
  have nf := s1.free hlf
  generalize L2.upd H1 lf (.lst []) = H2 at s2 g2 ⊢
  have lB : (natsL B).length = B.length := List.length_map _
  refine ⟨_, rfl, bl, _, rfl, .inl (SqL.of (s2 _ _ hB)), _, rfl, by rw [lB, p62]; omega, by rw [lB, p62]; omega, ?_⟩
  rw [lB, Int.toNat_natCast]
  refine for_range0 (n := B.length) (fun i σ H3 => ∃ v6 : Option V, σ = [some (.ref bl), some (.int ti), some (.ref pl), some (.int (yesOf ps : Int)), some (.int (noOf ps : Int)), some (.ref lf), v6] ∧ Same H H3 ∧ H3 lf = some (.lst (natsL ((List.range i).filter (setB B ti (yesOf ps) (noOf ps)))))) ⟨none, rfl, s2, g2⟩ ?_ ?_
  · rintro i σ H3 hi ⟨v6, rfl, s3, g3⟩
    have hB3 : H3 bl = some (.lst (natsL B)) := s3 _ _ hB
    have lf3 : ((List.range i).filter (setB B ti (yesOf ps) (noOf ps))).length ≤ i := by
      have := List.length_filter_le (setB B ti (yesOf ps) (noOf ps)) (List.range i)
      rwa [List.length_range] at this
    have step : ∀ b, setB B ti (yesOf ps) (noOf ps) i = b → (List.range (i + 1)).filter (setB B ti (yesOf ps) (noOf ps)) = (List.range i).filter (setB B ti (yesOf ps) (noOf ps)) ++ (if b = true then [i] else []) := fun b e => by
      rw [List.range_succ, List.filter_append]
      cases b <;> simp [e]
    have no : setB B ti (yesOf ps) (noOf ps) i = false → ∃ v6 : Option V, [some (.ref bl), some (.int ti), some (.ref pl), some (.int (yesOf ps : Int)), some (.int (noOf ps : Int)), some (.ref lf), some (V.int (i : Int))] = [some (.ref bl), some (.int ti), some (.ref pl), some (.int (yesOf ps : Int)), some (.int (noOf ps : Int)), some (.ref lf), v6] ∧ Same H H3 ∧ H3 lf = some (.lst (natsL ((List.range (i + 1)).filter (setB B ti (yesOf ps) (noOf ps))))) := fun e => ⟨_, rfl, s3, by rw [step _ e, if_neg Bool.false_ne_true, List.append_nil]; exact g3⟩
    refine ⟨_, rfl, _, rfl, _, _, rfl, rfl, _, rfl, rfl, _, rfl, ?_⟩
    by_cases c1 : i &&& yesOf ps = yesOf ps
    · refine iteD (show V.int (Builtin.bitAnd (i : Int) (yesOf ps : Int)) = V.int (yesOf ps : Int) by rw [land_nat, c1]) ?_
      refine ⟨_, rfl, _, rfl, _, _, rfl, rfl, rfl, _, rfl, ?_⟩
      by_cases c2 : i &&& noOf ps = 0
      · refine iteD (show V.int (Builtin.bitAnd (i : Int) (noOf ps : Int)) = V.int 0 by rw [land_nat, c2]; rfl) ?_
        have gi : B[i]? = some B[i] := List.getElem?_eq_getElem hi
        refine ⟨_, rfl, _, rfl, bl, _, _, .int (B[i] : Int), rfl, rfl, SqL.of hB3, atI_nat (by rw [List.getElem?_map, gi]; rfl), _, rfl, _, _, rfl, rfl, rfl, _, rfl, ?_⟩
        by_cases c3 : Builtin.bitAnd (B[i] : Int) ti = 0
        · refine iteD (show V.int (Builtin.bitAnd (B[i] : Int) ti) = V.int 0 by rw [c3]) ?_
          have e : setB B ti (yesOf ps) (noOf ps) i = true := by
            unfold setB
            rw [gi, Option.getD_some, decide_eq_true c1, decide_eq_true c2, decide_eq_true c3]
            rfl
          refine ⟨_, rfl, .inl ⟨rfl, _, SqL.of g3⟩, _, rfl, lf, _, _, rfl, rfl, g3, small1000 (by rw [List.length_map]; omega), ?_⟩
          refine ⟨_, rfl, Same.put s3 nf g3, ?_⟩
          rw [step _ e, if_pos rfl, natsL_app]
          exact upd_same
        · refine iteDN (fun z : V.int (Builtin.bitAnd (B[i] : Int) ti) = V.int 0 => c3 (by injection z)) ?_
          refine no ?_
          unfold setB
          rw [gi, Option.getD_some, decide_eq_false c3, Bool.and_false, Bool.and_false]
      · refine iteDN (fun z : V.int (Builtin.bitAnd (i : Int) (noOf ps : Int)) = V.int 0 => by
          injection z with z
          rw [land_nat] at z
          exact c2 (by omega)) ?_
        refine iteF ?_
        refine no ?_
        unfold setB
        rw [decide_eq_false c2, Bool.false_and, Bool.and_false]
    · refine iteDN (fun z : V.int (Builtin.bitAnd (i : Int) (yesOf ps : Int)) = V.int (yesOf ps : Int) => by
        injection z with z
        rw [land_nat] at z
        exact c1 (by omega)) ?_
      refine iteF ?_
      refine no ?_
      unfold setB
      rw [decide_eq_false c1, Bool.false_and]
  · rintro σ H3 ⟨v6, rfl, s3, g3⟩
    exact ⟨_, rfl, q lf _ s3 nf g3⟩

end
section
variable {P : Program} {w : World} {K : PySem.W.Frag} {mg : Str → Option Value} {base : Heap} {a : Adr} {d : Fds}
theorem ok_law_offers (T : Txt K mg a d) : FnOk P w K mg base CX0 6 a.f_law_offers d.f_law_offers ["_law_broken_here", "_law_many", "_law_chosen"] spOffersC := by
  have G_law_sets := ok_law_sets (P := P) (w := w) (base := base) T
  refine T.K_law_offers.ok sc_law_offers (fun vs H Q E h => ?_) (fun cdv A outer s H vs Q E hr h => ?_)
  · obtain ⟨lb, pl, m, ts, ps, rfl, _⟩ := h
    rfl
  obtain ⟨lb, pl, m, ts, ps, rfl, hlb, PA, ok, m1, m9, q⟩ := h
  have p62 : (2 : Int) ^ 62 = 4611686018427387904 := by decide
  have pw : 2 ^ m ≤ 512 := pow_le m9
  obtain ⟨xs, hpl, pk⟩ := PA.ex
  have lx := pk.length
  have pl9 := ok.len
  refine ⟨_, (pss_cons (ps_set (i := 3) sc_law_offers.nd rfl (Or.inl rfl) (pe_lst pa_nil))
      (pss_cons (ps_setLc (i := 4) sc_law_offers.nd rfl rfl rfl (sc0 := defScope s_law_offers) (XN := ["_law_broken_here", "_law_many", "_law_chosen", "_law_found", "_law_named", "_law_k", "_law_value"]) (N' := ["_law_k", "_law_value"]) (n := 2) (kp := []) rfl (piL (K := K) (pv 2)) rfl rfl (by decide +kernel) (fun _ _ _ _ _ => (pgT (K := K) (n := 2) rfl (pgs_cons (pg_name (i := 0) (by show List.Nodup (["_law_k", "_law_value"] : List Str); decide +kernel) rfl (Or.inl rfl)) (pgs_cons (pg_name (i := 1) (by show List.Nodup (["_law_k", "_law_value"] : List Str); decide +kernel) rfl (Or.inl rfl)) pgs_nil)))) (fun _ _ _ _ _ => pts_nil) (fun _ _ _ _ _ => (pv 0)))
      (pss_cons (ps_for PassesOwn.never rfl (pi_range2 rfl T.m_range (pa_cons pe_int (pa_cons (pv 1) pa_nil))) (pg_name (i := 5) sc_law_offers.nd rfl (Or.inl rfl)) (pss_one (ps_for PassesOwn.never rfl (piL (K := K) (pe_lst (pa_cons pe_bl (pa_cons pe_bl pa_nil)))) (pg_name (i := 6) sc_law_offers.nd rfl (Or.inl rfl)) (pss_one (ps_if (PW.pt (pw_and (pt_cmpR (notInS (K := K)) (pv 5) (pv 4) (by with_unfolding_all rfl)) (pw_and1 (pt_cmpR (op_ne_ints hr.units) (pe_call G_law_sets (hr.mono (by first | decide | omega)) rfl T.g_law_sets T.K_law_sets.kp T.B_law_sets .nil pass0 (pa_cons (pv 0) (pa_cons (pe_un un_neg pe_int) (pa_cons (pe_op op_cat (pv 2) (pe_lst (pa_cons (pe_tup (pa_cons (pv 5) (pa_cons (pv 6) pa_nil))) pa_nil))) pa_nil)))) (pe_lst pa_nil) (nomark _))))) (pss_one (ps_expr (pe_bmK (K := K) PySem.F.plainAttrs_list PySem.F.slot_list_append PySem.F.type_list_append mt_append (pv 3) (pa_cons (pe_tup (pa_cons (pv 5) (pa_cons (pv 6) pa_nil))) pa_nil)))) pss_nil)))))
      (pss_one (ps_ret (pv 3)))))), ?_⟩
  refine ⟨small (by show 0 ≤ 1000; decide), fun lf hlf => ?_⟩
  have s1 := same_new hlf (.lst [])
  have g1 : L2.upd H lf (.lst []) lf = some (.lst []) := upd_same
  generalize L2.upd H lf (.lst []) = H1 at s1 g1 ⊢
  have hpl1 : H1 pl = some (.lst xs) := s1 _ _ hpl
  refine ⟨_, rfl, pl, rfl, ⟨_, SqL.of hpl1⟩, ?_⟩
  refine lc_list (K := K) (a := pl) (xs := xs) (fun i ys σ H2 => (∃ v v', σ = [v, v']) ∧ H2 = H1 ∧ ys = natsL ((ps.take i).map (·.1))) ⟨⟨none, none, rfl⟩, rfl, rfl⟩ (fun i ys σ H2 hi pv => ?_) (fun i ys σ H2 hi pv => ?_) (fun i x ys σ H2 hx pv => ?_) (fun ys σ H2 pv ln hln => ?_)
  · obtain ⟨_, _, rfl⟩ := pv
    rw [List.length_map, List.length_map, List.length_take]
    exact small (by omega)
  · rw [pv.2.1]
    exact SqL.of hpl1
  · obtain ⟨⟨v, v', rfl⟩, rfl, rfl⟩ := pv
    obtain ⟨p, t, hp, rfl, ht⟩ := (pk.same (Same.tup s1)).get hx
    refine ⟨t, _, rfl, sqT ht, rfl, _, _, rfl, _, _, rfl, rfl, ?_⟩
    refine ⟨_, rfl, ⟨_, _, rfl⟩, rfl, ?_⟩
    rw [take_map_succ hp, natsL_app]
    rfl
  obtain ⟨_, rfl, rfl⟩ := pv
  rw [← lx, List.take_length]
  have sL := same_new hln (.lst (natsL (ps.map (·.1))))
  have s2 := s1.trans sL
  have g2 : L2.upd H2 ln (.lst (natsL (ps.map (·.1)))) ln = some (.lst (natsL (ps.map (·.1)))) := upd_same
  have g2f : L2.upd H2 ln (.lst (natsL (ps.map (·.1)))) lf = some (.lst []) := sL _ _ g1
  have nln : H ln = none := s1.free hln
  have nlf : ln ≠ lf := fun z => by rw [z, g1] at hln; cases hln
  generalize L2.upd H2 ln (.lst (natsL (ps.map (·.1)))) = H3 at s2 g2 g2f sL ⊢
  refine ⟨_, rfl, _, _, rfl, ⟨by rw [p62]; omega, by rw [p62]; omega, by rw [p62]; omega, by rw [p62]; omega⟩, ?_⟩
  refine for_range (lo := 1) (n := ((m : Int) - 1).toNat) (fun i σ H4 => ∃ (v5 v6 : Option V) (zs : List V), σ = [some (.ref lb), some (.int (m : Int)), some (.ref pl), some (.ref lf), some (.ref ln), v5, v6] ∧ Same H H4 ∧ H4 ln = some (.lst (natsL (ps.map (·.1)))) ∧ H4 lf = some (.lst zs) ∧ PickL H4 (offI ts m ps i) zs) ⟨none, none, [], rfl, s2, g2, g2f, rfl⟩ ?_ ?_
  · rintro i σ H4 hi ⟨v5, v6, zs, rfl, s4, gn4, gf4, pk4⟩
    have ek : (1 : Int) + (i : Int) = ((i + 1 : Nat) : Int) := by omega
    rw [ek]
    have im : i + 1 < m := by omega
    refine ⟨small (by show 2 ≤ 1000; decide), fun lv hlv => ?_⟩
    have s5 := same_new hlv (.lst [.bl false, .bl true])
    have g5 : L2.upd H4 lv (.lst [.bl false, .bl true]) lv = some (.lst [.bl false, .bl true]) := upd_same
    have nlv : lv ≠ lf := fun z => by rw [z, gf4] at hlv; cases hlv
    have g5n := s5 _ _ gn4
    have g5f := s5 _ _ gf4
    have pk5 := pk4.same (Same.tup s5)
    generalize L2.upd H4 lv (.lst [.bl false, .bl true]) = H5 at s5 g5 g5n g5f pk5 ⊢
    refine ⟨lv, rfl, ⟨_, SqL.of g5⟩, ?_⟩
    refine for_list (K := K) (a := lv) (xs := [.bl false, .bl true]) (fun j σ H6 => ∃ (v6 : Option V) (zs : List V), σ = [some (.ref lb), some (.int (m : Int)), some (.ref pl), some (.ref lf), some (.ref ln), some (.int ((i + 1 : Nat) : Int)), v6] ∧ Same H H6 ∧ H6 lv = some (.lst [.bl false, .bl true]) ∧ H6 ln = some (.lst (natsL (ps.map (·.1)))) ∧ H6 lf = some (.lst zs) ∧ PickL H6 (offI ts m ps i ++ ([(i + 1, false), (i + 1, true)].take j).filter (offK ts m ps)) zs) ⟨_, zs, rfl, s4.trans s5, g5, g5n, g5f, by simpa using pk5⟩ (fun j σ H6 _ z => ?_) ?_ ?_
    · obtain ⟨_, _, _, _, h, _⟩ := z
      exact SqL.of h
    · rintro j x σ H6 hx ⟨v6', zs', rfl, s6, g6, g6n, g6f, pk6⟩
      obtain ⟨b, hb, rfl⟩ : ∃ b : Bool, [(i + 1, false), (i + 1, true)][j]? = some (i + 1, b) ∧ x = .bl b := by
        match j, hx with
        | 0, hx => cases hx; exact ⟨false, rfl, rfl⟩
        | 1, hx => cases hx; exact ⟨true, rfl, rfl⟩
        | _ + 2, hx => cases hx
      have et : ([(i + 1, false), (i + 1, true)].take (j + 1)).filter (offK ts m ps) = ([(i + 1, false), (i + 1, true)].take j).filter (offK ts m ps) ++ (if offK ts m ps (i + 1, b) = true then [(i + 1, b)] else []) := by
        rw [List.take_add_one, hb, Option.toList_some, List.filter_append]
        congr 1
        by_cases z : offK ts m ps (i + 1, b) = true
        · rw [if_pos z, List.filter_cons_of_pos z]; rfl
        · rw [if_neg z, List.filter_cons_of_neg z]; rfl
      have lz := pk6.length
      have ol := offI_len ts m ps i
      have lz9 : zs'.length ≤ 20 := by
        rw [← lz, List.length_append]
        have := List.length_filter_le (offK ts m ps) ([(i + 1, false), (i + 1, true)].take j)
        rw [List.length_take] at this
        simp only [List.length_cons, List.length_nil] at this
        omega
      have no : ∀ H7, Same H6 H7 → offK ts m ps (i + 1, b) = false → ∃ (v6 : Option V) (zs : List V), [some (.ref lb), some (.int (m : Int)), some (.ref pl), some (.ref lf), some (.ref ln), some (.int ((i + 1 : Nat) : Int)), some (.bl b)] = [some (.ref lb), some (.int (m : Int)), some (.ref pl), some (.ref lf), some (.ref ln), some (.int ((i + 1 : Nat) : Int)), v6] ∧ Same H H7 ∧ H7 lv = some (.lst [.bl false, .bl true]) ∧ H7 ln = some (.lst (natsL (ps.map (·.1)))) ∧ H7 lf = some (.lst zs) ∧ PickL H7 (offI ts m ps i ++ ([(i + 1, false), (i + 1, true)].take (j + 1)).filter (offK ts m ps)) zs := fun H7 s7 e => ⟨_, zs', rfl, s6.trans s7, s7 _ _ g6, s7 _ _ g6n, s7 _ _ g6f, by rw [et, e, if_neg Bool.false_ne_true, List.append_nil]; exact pk6.same (Same.tup s7)⟩
      refine ⟨_, rfl, _, rfl, ln, _, rfl, .inl (SqL.of g6n), rfl, flat_nats _, _, rfl, ?_⟩
      by_cases c1 : i + 1 ∈ ps.map (·.1)
      · refine iteCN (show (!inV (.int ((i + 1 : Nat) : Int)) (natsL (ps.map (·.1)))) = false by rw [inV_nats, decide_eq_true c1]; rfl) ?_
        refine iteF ?_
        refine no H6 (Same.refl _) ?_
        unfold offK
        rw [decide_eq_true c1]
        rfl
      · refine iteC (show (!inV (.int ((i + 1 : Nat) : Int)) (natsL (ps.map (·.1)))) = true by rw [inV_nats, decide_eq_false c1]; rfl) ?_
        have hpl6 : H6 pl = some (.lst xs) := s6 _ _ hpl
        refine ⟨_, rfl, 1, rfl, _, rfl, _, rfl, _, rfl, small (by show 2 ≤ 1000; decide), fun tk htk => ?_⟩
        have s7 := same_new htk (.tup [.int ((i + 1 : Nat) : Int), .bl b])
        have g7 : L2.upd H6 tk (.tup [.int ((i + 1 : Nat) : Int), .bl b]) tk = some (.tup [.int ((i + 1 : Nat) : Int), .bl b]) := upd_same
        generalize L2.upd H6 tk (.tup [.int ((i + 1 : Nat) : Int), .bl b]) = H7 at s7 g7 ⊢
        refine ⟨small (by show 1 ≤ 1000; decide), fun lk hlk => ?_⟩
        have s8 := same_new hlk (.lst [.ref tk])
        have g8 : L2.upd H7 lk (.lst [.ref tk]) lk = some (.lst [.ref tk]) := upd_same
        have g8t := s8 _ _ g7
        generalize L2.upd H7 lk (.lst [.ref tk]) = H8 at s8 g8 g8t ⊢
        have s68 := s7.trans s8
        have hpl8 : H8 pl = some (.lst xs) := s68 _ _ hpl6
        refine ⟨pl, lk, _, _, rfl, rfl, hpl8, g8, small (by rw [List.length_cons, List.length_nil]; omega), fun lc hlc => ?_⟩
        have s9 := s68.trans (same_new hlc (.lst (xs ++ [.ref tk])))
        have g9 : L2.upd H8 lc (.lst (xs ++ [.ref tk])) lc = some (.lst (xs ++ [.ref tk])) := upd_same
        have pk9 := PickL.snoc (p := (i + 1, b)) ((same_new hlc (.lst (xs ++ [.ref tk]))) _ _ g8t) (pk.same (tupS_trans (Same.tup s6) (Same.tup s9)))
        generalize L2.upd H8 lc (.lst (xs ++ [.ref tk])) = H9 at s9 g9 pk9 ⊢
        have PA9 : PicksAt H9 lc (ps ++ [(i + 1, b)]) := ⟨⟨_, g9, pk9⟩, by rw [List.length_append, List.length_singleton]; omega, fun p hp => by
          rcases List.mem_append.mp hp with z | z
          · exact PA.le p z
          · rw [List.mem_singleton.mp z]; show i + 1 ≤ 20; omega⟩
        refine ⟨lb, lc, brN m ts, -1, ps ++ [(i + 1, b)], rfl, s9 _ _ (s6 _ _ hlb), by rw [brN_len]; exact pw, PA9, fun ls HA sA nls hls => ?_⟩
        refine ⟨small (by show 0 ≤ 1000; decide), fun le hle => ?_⟩
        have sB := sA.trans (same_new hle (.lst []))
        have gB : L2.upd HA le (.lst []) le = some (.lst []) := upd_same
        have gBs := (same_new hle (.lst [])) _ _ hls
        generalize L2.upd HA le (.lst []) = HB at sB gB gBs ⊢
        refine ⟨ls, le, (setsL (brN m ts) (-1) (yesOf (ps ++ [(i + 1, b)])) (noOf (ps ++ [(i + 1, b)]))).map (fun k : Nat => (k : Int)), [], rfl, rfl, SqL.of (by rw [natsV]; exact gBs), SqL.of gB, _, rfl, ?_⟩
        have s6B := s9.trans sB
        cases c2 : leadP ts m (yesOf (ps ++ [(i + 1, b)])) (noOf (ps ++ [(i + 1, b)]))
        · refine iteNS (by rw [sets_lead.mpr c2]; rfl) ?_
          refine no HB s6B ?_
          unfold offK
          rw [c2, Bool.and_false]
        · refine iteB ?_ ?_
          · rw [Bool.not_eq_true', decide_eq_false_iff_not]
            intro z
            have z := sets_lead.mp (List.map_eq_nil_iff.mp z)
            rw [c2] at z
            cases z
          · have e : offK ts m ps (i + 1, b) = true := by
              unfold offK
              rw [c2, decide_eq_false c1]
              rfl
            have gfB : HB lf = some (.lst zs') := s6B _ _ g6f
            refine ⟨_, rfl, .inl ⟨rfl, _, SqL.of gfB⟩, _, rfl, _, rfl, small (by show 2 ≤ 1000; decide), fun tz htz => ?_⟩
            have sC := same_new htz (.tup [.int ((i + 1 : Nat) : Int), .bl b])
            have gC : L2.upd HB tz (.tup [.int ((i + 1 : Nat) : Int), .bl b]) tz = some (.tup [.int ((i + 1 : Nat) : Int), .bl b]) := upd_same
            generalize L2.upd HB tz (.tup [.int ((i + 1 : Nat) : Int), .bl b]) = HC at sC gC ⊢
            have s6C := s6B.trans sC
            have gfC : HC lf = some (.lst zs') := sC _ _ gfB
            refine ⟨lf, _, _, rfl, rfl, gfC, small1000 (by omega), ?_⟩
            have tC := tupS_put (o' := .lst (zs' ++ [.ref tz])) gfC (fun _ z => nomatch z)
            have pkC := PickL.snoc (p := (i + 1, b)) (tC _ _ gC) ((pk6.same (Same.tup s6C)).same tC)
            refine ⟨_, _, rfl, Same.put (s6.trans s6C) hlf gfC, by rw [upd_ne nlv]; exact s6C _ _ g6, by rw [upd_ne nlf]; exact s6C _ _ g6n, upd_same, ?_⟩
            rw [et, e, if_pos rfl, ← List.append_assoc]
            exact pkC
    · rintro σ H6 ⟨v6', zs', rfl, s6, g6, g6n, g6f, pk6⟩
      refine ⟨_, _, zs', rfl, s6, g6n, g6f, ?_⟩
      rw [offI_succ]
      exact pk6
  · rintro σ H4 ⟨v5, v6, zs, rfl, s4, gn4, gf4, pk4⟩
    rw [show ((m : Int) - 1).toNat = m - 1 by omega, ← offL_I m1] at pk4
    exact ⟨_, rfl, q lf zs H4 s4 hlf gf4 pk4⟩

end
section
variable {P : Program} {w : World} {K : PySem.W.Frag} {mg : Str → Option Value} {base : Heap} {a : Adr} {d : Fds}
theorem ok_Choice_stand (T : Txt K mg a d) : FnOk P w K mg base CX0 3 a.f_Choice_stand d.f_Choice_stand ["self"] (spStandC a.x_Choice) := by
  have G_stand_of := ok_stand_of (P := P) (w := w) (base := base) T
  refine T.K_Choice_stand.ok sc_Choice_stand (fun vs H Q E h => ?_) (fun cdv A outer s H vs Q E hr h => ?_)
  · obtain ⟨c, dx, wd, pl, ps, rfl, _⟩ := h
    rfl
  obtain ⟨c, dx, wd, pl, ps, rfl, hc, PA, q⟩ := h
  refine ⟨_, (pss_one (ps_ret (pe_call G_stand_of (hr.mono (by first | decide | omega)) rfl T.g_stand_of T.K_stand_of.kp T.B_stand_of .nil pass0 (pa_cons (pe_fld (pv 0) rfl) pa_nil)))), ?_⟩
  refine ⟨_, rfl, c, _, _, _, _, rfl, hc, T.C_Choice, T.n_Choice_picks, rfl, ?_⟩
  exact ⟨pl, ps, rfl, PA, q⟩

end
section
variable {P : Program} {w : World} {K : PySem.W.Frag} {mg : Str → Option Value} {base : Heap} {a : Adr} {d : Fds}
theorem ok_Choice_chosen (T : Txt K mg a d) : FnOk P w K mg base CX0 1 a.f_Choice_chosen d.f_Choice_chosen ["self"] (spChosenC a.x_Choice) := by
  refine T.K_Choice_chosen.ok sc_Choice_chosen (fun vs H Q E h => ?_) (fun cdv A outer s H vs Q E hr h => ?_)
  · obtain ⟨c, dx, wd, pl, ps, rfl, _⟩ := h
    rfl
  obtain ⟨c, dx, wd, pl, ps, rfl, hc, PA, q⟩ := h
  obtain ⟨xs, hpl, pk⟩ := PA.ex
  refine ⟨_, (pss_one (ps_ret (pe_callTy call_list_of rfl T.m_list PyProof.Rows.boot_list (pa_cons (pe_fld (pv 0) rfl) pa_nil)))), ?_⟩
  refine ⟨_, rfl, c, _, _, _, _, rfl, hc, T.C_Choice, T.n_Choice_picks, rfl, pl, _, rfl, .inl (SqL.of hpl), fun l hl => ?_⟩
  have s1 := same_new hl (.lst xs)
  exact q l _ s1 hl ⟨⟨xs, upd_same, pk.same (Same.tup s1)⟩, PA.few, PA.le⟩

end
section
variable {P : Program} {w : World} {K : PySem.W.Frag} {mg : Str → Option Value} {base : Heap} {a : Adr} {d : Fds}
theorem ok_Choice_offers (T : Txt K mg a d) : FnOk P w K mg base CX0 20 a.f_Choice_offers d.f_Choice_offers ["self"] (spOffers a.x_Choice) := by
  have G_open_at := ok_open_at (P := P) (w := w) (base := base) T
  have G_leads_on := ok_leads_on (P := P) (w := w) (base := base) T
  refine T.K_Choice_offers.ok sc_Choice_offers (fun vs H Q E h => ?_) (fun cdv A outer s H vs Q E hr h => ?_)
  · obtain ⟨c, dx, wd, pl, m, ts, ps, rfl, _⟩ := h
    rfl
  obtain ⟨c, dx, wd, pl, m, ts, ps, rfl, hc, PA, W, m9, m1, p18, S, q⟩ := h
  have of := open_few m (yesOf ps) (noOf ps)
  refine ⟨_, (pss_cons (ps_set (i := 1) sc_Choice_offers.nd rfl (Or.inl rfl) (pe_lst pa_nil))
      (pss_cons (ps_for PassesOwn.never rfl (piL (K := K) (pe_call G_open_at (hr.mono (by first | decide | omega)) rfl T.g_open_at T.K_open_at.kp T.B_open_at .nil pass0 (pa_cons (pe_fld (pv 0) rfl) (pa_cons (pe_fld (pv 0) rfl) pa_nil)))) (pg_name (i := 2) sc_Choice_offers.nd rfl (Or.inl rfl)) (pss_one (ps_expr (pe_bmK (K := K) PySem.F.plainAttrs_list PySem.F.slot_list_extend PySem.F.type_list_extend mt_extend (pv 1) (pa_cons (pe_lst (pa_cons (pe_tup (pa_cons (pv 2) (pa_cons pe_bl pa_nil))) (pa_cons (pe_tup (pa_cons (pv 2) (pa_cons pe_bl pa_nil))) pa_nil))) pa_nil)))))
      (pss_one (ps_ret (pe_lc (sc0 := defScope s_Choice_offers) (XN := ["self", "pairs", "k"]) (N' := ["pair", "self"]) (n := 1) (kp := [0]) rfl (piL (K := K) (pv 1)) rfl rfl (by decide +kernel) (fun _ _ _ _ _ => (pg_name (i := 0) (by show List.Nodup (["pair", "self"] : List Str); decide +kernel) rfl (Or.inl rfl))) (fun _ _ _ _ _ => (pts_one (pt_val (pe_call G_leads_on (hr.mono (by first | decide | omega)) rfl T.g_leads_on T.K_leads_on.kp T.B_leads_on .nil pass0 (pa_cons (pe_fldK (K := K) (pv 1) rfl) (pa_cons (pe_fldK (K := K) (pv 1) rfl) (pa_cons (pv 0) pa_nil))))))) (fun _ _ _ _ _ => (pv 0))))))), ?_⟩
  refine ⟨small (by show 0 ≤ 1000; decide), fun lp hlp => ?_⟩
  have s1 := same_new hlp (.lst [])
  have h1 : L2.upd H lp (.lst []) lp = some (.lst []) := upd_same
  generalize L2.upd H lp (.lst []) = H1 at s1 h1 ⊢
  have hc1 : H1 c = some (.ins a.x_Choice dx (chF wd pl)) := s1 _ _ hc
  obtain ⟨xs0, ys0, WA, _⟩ := (W.same s1).ex
  refine ⟨_, rfl, c, _, _, _, _, rfl, hc1, T.C_Choice, T.n_Choice_wood, rfl, _, rfl, c, _, _, _, _, rfl, hc1, T.C_Choice, T.n_Choice_picks, rfl, ?_⟩
  refine ⟨wd, pl, m, xs0, ys0, ps, rfl, WA, by omega, PA.same s1, fun lo H2 s2 nlo hlo => ?_⟩
  have s12 := s1.trans s2
  have h2 : H2 lp = some (.lst []) := s2 _ _ h1
  refine ⟨lo, rfl, ⟨_, SqL.of hlo⟩, ?_⟩
  refine for_list (K := K) (a := lo) (xs := natsL (openL m (yesOf ps) (noOf ps))) (fun i σ H3 => ∃ (v2 : Option V) (zs : List V), σ = [some (.ref c), some (.ref lp), v2] ∧ Same H H3 ∧ H3 lo = some (.lst (natsL (openL m (yesOf ps) (noOf ps)))) ∧ H3 lp = some (.lst zs) ∧ PickL H3 (bothL ((openL m (yesOf ps) (noOf ps)).take i)) zs) ⟨none, [], rfl, s12, hlo, h2, rfl⟩ (fun i σ H3 _ z => ?_) ?_ ?_
  · obtain ⟨_, _, _, _, h, _⟩ := z
    exact SqL.of h
  · rintro i x σ H3 hx ⟨v2, zs, rfl, s3, hlo3, hlp3, pk3⟩
    rw [List.getElem?_map] at hx
    obtain ⟨k, hk, rfl⟩ := Option.map_eq_some_iff.mp hx
    have il := (List.getElem?_eq_some_iff.mp hk).1
    have et : (openL m (yesOf ps) (noOf ps)).take (i + 1) = (openL m (yesOf ps) (noOf ps)).take i ++ [k] := by rw [List.take_add_one, hk, Option.toList_some]
    have lz := pk3.length
    rw [both_len, List.length_take] at lz
    refine ⟨_, rfl, .inl ⟨rfl, _, SqL.of hlp3⟩, ?_⟩
    refine ⟨_, rfl, small (by show 2 ≤ 1000; decide), fun a1 ha1 => ?_⟩
    have sA := same_new ha1 (.tup [.int (k : Int), .bl false])
    have gA : L2.upd H3 a1 (.tup [.int (k : Int), .bl false]) a1 = some (.tup [.int (k : Int), .bl false]) := upd_same
    generalize L2.upd H3 a1 (.tup [.int (k : Int), .bl false]) = HA at sA gA ⊢
    refine ⟨_, rfl, small (by show 2 ≤ 1000; decide), fun a2 ha2 => ?_⟩
    have sB := same_new ha2 (.tup [.int (k : Int), .bl true])
    have gB : L2.upd HA a2 (.tup [.int (k : Int), .bl true]) a2 = some (.tup [.int (k : Int), .bl true]) := upd_same
    generalize L2.upd HA a2 (.tup [.int (k : Int), .bl true]) = HB at sB gB ⊢
    refine ⟨small (by show 2 ≤ 1000; decide), fun a3 ha3 => ?_⟩
    have sC := same_new ha3 (.lst [.ref a1, .ref a2])
    have gC : L2.upd HB a3 (.lst [.ref a1, .ref a2]) a3 = some (.lst [.ref a1, .ref a2]) := upd_same
    generalize L2.upd HB a3 (.lst [.ref a1, .ref a2]) = HC at sC gC ⊢
    have s3C := sA.trans (sB.trans sC)
    have hlpC : HC lp = some (.lst zs) := s3C _ _ hlp3
    have hloC : HC lo = some (.lst (natsL (openL m (yesOf ps) (noOf ps)))) := s3C _ _ hlo3
    have nlo' : lo ≠ lp := fun z => by rw [z, h1] at nlo; cases nlo
    refine ⟨lp, a3, _, _, rfl, rfl, hlpC, gC, small (by show zs.length + 2 ≤ 1000; omega), ?_⟩
    have tD := tupS_put (o' := .lst (zs ++ [.ref a1, .ref a2])) hlpC (fun _ z => nomatch z)
    refine ⟨some (.int (k : Int)), zs ++ [.ref a1, .ref a2], rfl, Same.put (s3.trans s3C) hlp hlpC, by rw [upd_ne nlo']; exact hloC, upd_same, ?_⟩
    have z := PickL.snoc (p := (k, true)) (tD _ _ (sC _ _ gB)) (PickL.snoc (p := (k, false)) (tD _ _ ((sB.trans sC) _ _ gA)) ((pk3.same (Same.tup s3C)).same tD))
    rw [List.append_assoc, List.append_assoc] at z
    rw [et, both_snoc]
    exact z
  · rintro σ H3 ⟨v2, zs, rfl, s3, hlo3, hlp3, pk3⟩
    rw [List.length_map, List.take_length] at pk3
    have lz := pk3.length
    rw [both_len] at lz
    have hc3 : H3 c = some (.ins a.x_Choice dx (chF wd pl)) := s3 _ _ hc
    refine ⟨_, rfl, lp, rfl, ⟨_, SqL.of hlp3⟩, ?_⟩
    refine lc_list (K := K) (a := lp) (xs := zs) (fun i ys σ H4 => (∃ v, σ = [v, some (.ref c)]) ∧ Same H3 H4 ∧ ys.length ≤ i ∧ PickL H4 (((bothL (openL m (yesOf ps) (noOf ps))).take i).filter fun p => leadP ts m (yesOf (ps ++ [p])) (noOf (ps ++ [p]))) ys) ⟨⟨none, rfl⟩, Same.refl _, Nat.le_refl _, rfl⟩ (fun i ys σ H4 hi pv => ?_) (fun i ys σ H4 hi pv => ?_) (fun i x ys σ H4 hx pv => ?_) (fun ys σ H4 pv l hl => ?_)
    · exact small (by have := pv.2.2.1; omega)
    · exact SqL.of (pv.2.1 _ _ hlp3)
    · obtain ⟨⟨v, rfl⟩, s4, h4, pk4⟩ := pv
      obtain ⟨p, t, hp, rfl, ht⟩ := pk3.get hx
      have po := mem_both (List.mem_of_getElem? hp)
      have pm := (mem_open.mp po).1
      have et : (bothL (openL m (yesOf ps) (noOf ps))).take (i + 1) = (bothL (openL m (yesOf ps) (noOf ps))).take i ++ [p] := by rw [List.take_add_one, hp, Option.toList_some]
      have hc4 : H4 c = some (.ins a.x_Choice dx (chF wd pl)) := s4 _ _ hc3
      have s34 := s3.trans s4
      have ht4 : H4 t = some (.tup [.int (p.1 : Int), .bl p.2]) := s4 _ _ ht
      refine ⟨_, rfl, c, _, _, _, _, rfl, hc4, T.C_Choice, T.n_Choice_wood, rfl, _, rfl, c, _, _, _, _, rfl, hc4, T.C_Choice, T.n_Choice_picks, rfl, _, rfl, ?_⟩
      refine ⟨wd, pl, t, m, ts, ps, p, rfl, W.same s34, m9, m1, PA.same s34, by omega, by omega, ht4, pick_stand S po, fun H5 o s5 ho => ?_⟩
      rw [first_lead ho]
      refine ⟨_, rfl, ?_⟩
      refine ite2 (fun cl => ?_) (fun cl => ?_)
      · refine ⟨_, rfl, ⟨_, rfl⟩, s4.trans s5, by rw [List.length_append, List.length_singleton]; omega, ?_⟩
        rw [et, List.filter_append, List.filter_cons_of_pos (p := fun p => leadP ts m (yesOf (ps ++ [p])) (noOf (ps ++ [p]))) (a := p) cl]
        exact PickL.snoc (p := p) (s5 _ _ ht4) (pk4.same (Same.tup s5))
      · refine ⟨⟨_, rfl⟩, s4.trans s5, by omega, ?_⟩
        rw [et, List.filter_append, List.filter_cons_of_neg (p := fun p => leadP ts m (yesOf (ps ++ [p])) (noOf (ps ++ [p]))) (a := p) cl, List.filter_nil, List.append_nil]
        exact pk4.same (Same.tup s5)
    · obtain ⟨_, s4, _, pk4⟩ := pv
      rw [← pk3.length, List.take_length] at pk4
      have s5 := same_new hl (.lst ys)
      have s34 := s3.trans s4
      exact q l ys _ (s34.trans s5) (s34.free hl) upd_same (pk4.same (Same.tup s5))

end
section
variable {P : Program} {w : World} {K : PySem.W.Frag} {mg : Str → Option Value} {base : Heap} {a : Adr} {d : Fds}
theorem ok_Choice_ware (T : Txt K mg a d) : FnOk P w K mg base CX0 19 a.f_Choice_ware d.f_Choice_ware ["self"] (spWare a.x_Choice) := by
  have G_first_ware_at := ok_first_ware_at (P := P) (w := w) (base := base) T
  refine T.K_Choice_ware.ok sc_Choice_ware (fun vs H Q E h => ?_) (fun cdv A outer s H vs Q E hr h => ?_)
  · obtain ⟨c, dx, wd, pl, m, ts, ps, rfl, _⟩ := h
    rfl
  obtain ⟨c, dx, wd, pl, m, ts, ps, rfl, hc, PA, W, m9, m1, S, q⟩ := h
  refine ⟨_, (pss_one (ps_ret (pe_call G_first_ware_at (hr.mono (by first | decide | omega)) rfl T.g_first_ware_at T.K_first_ware_at.kp T.B_first_ware_at .nil pass0 (pa_cons (pe_fld (pv 0) rfl) (pa_cons (pe_fld (pv 0) rfl) pa_nil))))), ?_⟩
  refine ⟨_, rfl, c, _, _, _, _, rfl, hc, T.C_Choice, T.n_Choice_wood, rfl, _, rfl, c, _, _, _, _, rfl, hc, T.C_Choice, T.n_Choice_picks, rfl, ?_⟩
  exact ⟨wd, pl, m, ts, ps, rfl, W, m9, m1, PA, S, q⟩

end
section
variable {P : Program} {w : World} {K : PySem.W.Frag} {mg : Str → Option Value} {base : Heap} {a : Adr} {d : Fds}
theorem ok_law_right (T : Txt K mg a d) : FnOk P w K mg base CX0 22 a.f_law_right d.f_law_right ["_law_choice", "_law_broken_here", "_law_many", "_law_chosen"] (spRightC a.x_Choice) := by
  have G_law_sets := ok_law_sets (P := P) (w := w) (base := base) T
  have G_law_offers := ok_law_offers (P := P) (w := w) (base := base) T
  have G_law_stand := ok_law_stand (P := P) (w := w) (base := base) T
  have G_Choice_stand := ok_Choice_stand (P := P) (w := w) (base := base) T
  have G_Choice_chosen := ok_Choice_chosen (P := P) (w := w) (base := base) T
  have G_Choice_ware := ok_Choice_ware (P := P) (w := w) (base := base) T
  have G_Choice_offers := ok_Choice_offers (P := P) (w := w) (base := base) T
  refine T.K_law_right.ok sc_law_right (fun vs H Q E h => ?_) (fun cdv A outer s H vs Q E hr h => ?_)
  · obtain ⟨c, dx, wd, pl, lb, lc, m, ts, ps, rfl, _⟩ := h
    rfl
  obtain ⟨c, dx, wd, pl, lb, lc, m, ts, ps, rfl, hc, PA, PC, ok, W, hlb, m1, m9, ware, q⟩ := h
  have pw : 2 ^ m ≤ 512 := pow_le m9
  have pl9 := ok.len
  have S := ok.stand m1
  refine ⟨_, (pss_cons (ps_if (PW.pt (pw_or (pt_cmpR (op_ne_data hr.units) (pe_meth0 (pv 0) T.C_Choice T.g_Choice_stand G_Choice_stand (hr.mono (by first | decide | omega)) T.B_Choice_stand .nil pass0) (pe_call G_law_stand (hr.mono (by first | decide | omega)) rfl T.g_law_stand T.K_law_stand.kp T.B_law_stand .nil pass0 (pa_cons (pv 3) pa_nil)) (nomark _)) (pw_or1 (pt_cmpR (op_ne_data hr.units) (pe_meth0 (pv 0) T.C_Choice T.g_Choice_chosen G_Choice_chosen (hr.mono (by first | decide | omega)) T.B_Choice_chosen .nil pass0) (pv 3) (nomark _))))) (pss_one (ps_ret pe_bl)) pss_nil)
      (pss_cons (ps_if (pt_cmpR (op_ne_data hr.units) (pe_lc (sc0 := defScope s_law_right) (XN := ["_law_choice", "_law_broken_here", "_law_many", "_law_chosen"]) (N' := ["_law_one"]) (n := 1) (kp := []) rfl (piL (K := K) (pe_meth0 (pv 0) T.C_Choice T.g_Choice_chosen G_Choice_chosen (hr.mono (by first | decide | omega)) T.B_Choice_chosen .nil pass0)) rfl rfl (by decide +kernel) (fun _ _ _ _ _ => (pg_name (i := 0) (by show List.Nodup (["_law_one"] : List Str); decide +kernel) rfl (Or.inl rfl))) (fun _ _ _ _ _ => (pts_one (PW.pt (pw_or (pt_not (pt_val (pe_callB (isiK (K := K)) rfl T.m_isinstance PyProof.Rows.boot_isinstance (pa_cons (pv 0) (pa_cons (pe_bltn (v := .ty "tuple") rfl T.m_tuple PyProof.Rows.boot_tuple rfl) pa_nil))))) (pw_or1 (pt_not (pt_val (pe_callB (isiK (K := K)) rfl T.m_isinstance PyProof.Rows.boot_isinstance (pa_cons (pe_ix (ixT (K := K)) (pv 0) pe_int (fun _ _ => rfl)) (pa_cons (pe_bltn (v := .ty "bool") rfl T.m_bool PyProof.Rows.boot_bool rfl) pa_nil)))))))))) (fun _ _ _ _ _ => (pv 0))) (pe_lst pa_nil) (nomark _)) (pss_one (ps_ret pe_bl)) pss_nil)
      (pss_one (ps_ret (pe_and (pe_cmpR (op_eq_data hr.units) (pe_meth0 (pv 0) T.C_Choice T.g_Choice_offers G_Choice_offers (hr.mono (by first | decide | omega)) T.B_Choice_offers .nil pass0) (pe_call G_law_offers (hr.mono (by first | decide | omega)) rfl T.g_law_offers T.K_law_offers.kp T.B_law_offers .nil pass0 (pa_cons (pv 1) (pa_cons (pv 2) (pa_cons (pv 3) pa_nil)))) (nomark _)) (pe_one (pe_cmpR op_eq (pe_meth0 (pv 0) T.C_Choice T.g_Choice_ware G_Choice_ware (hr.mono (by first | decide | omega)) T.B_Choice_ware .nil pass0) (pe_ix (ixL (K := K)) (pe_call G_law_sets (hr.mono (by first | decide | omega)) rfl T.g_law_sets T.K_law_sets.kp T.B_law_sets .nil pass0 (pa_cons (pv 1) (pa_cons (pe_un un_neg pe_int) (pa_cons (pv 3) pa_nil)))) pe_int (fun _ _ => rfl)) (nomark _)))))))), ?_⟩
  refine ⟨_, rfl, c, _, _, rfl, hc, rfl, c, dx, wd, pl, ps, rfl, hc, PA, fun t1 H1 s1 ht1 => ?_⟩
  refine ⟨_, rfl, lc, ps, rfl, PC.same s1, fun t2 H2 s2 ht2 => ?_⟩
  refine ⟨.tuple [.int (yesOf ps : Int), .int (noOf ps : Int)], .tuple [.int (yesOf ps : Int), .int (noOf ps : Int)], ⟨t1, _, rfl, s2 _ _ ht1, _, _, rfl, rfl, _, _, rfl, rfl, rfl⟩, ⟨t2, _, rfl, ht2, _, _, rfl, rfl, _, _, rfl, rfl, rfl⟩, shaped_tup (n := 0) (by decide) rfl, shaped_tup (n := 0) (by decide) rfl, _, rfl, ?_⟩
  rw [eqv_refl _ (by simp [PyData.canLay0, PyData.canLayAll0])]
  refine iteF ?_
  have s02 := s1.trans s2
  have hc2 : H2 c = some (.ins a.x_Choice dx (chF wd pl)) := s02 _ _ hc
  refine ⟨_, rfl, c, _, _, rfl, hc2, rfl, c, dx, wd, pl, ps, rfl, hc2, PA.same s02, fun lk H3 s3 nlk P3 => ?_⟩
  have s03 := s02.trans s3
  obtain ⟨xs3, g3, pk3⟩ := P3.ex
  obtain ⟨ys3, g3c, pk3c⟩ := (PC.same s03).ex
  refine ⟨_, rfl, .list (ps.map pickD), .list (ps.map pickD), ⟨lk, _, rfl, g3, pk3.dn⟩, ⟨lc, _, rfl, g3c, pk3c.dn⟩, shaped_picks _, shaped_picks _, _, rfl, ?_⟩
  rw [eqv_refl _ (SeqAt.canLay_of_shaped (shaped_picks _))]
  refine iteF ?_
  have hc3 : H3 c = some (.ins a.x_Choice dx (chF wd pl)) := s03 _ _ hc
  refine ⟨_, rfl, c, _, _, rfl, hc3, rfl, c, dx, wd, pl, ps, rfl, hc3, PA.same s03, fun l4 H4 s4 nl4 P4 => ?_⟩
  obtain ⟨xs4, g4, pk4⟩ := P4.ex
  refine ⟨l4, rfl, ⟨_, SqL.of g4⟩, ?_⟩
  refine lc_list (K := K) (a := l4) (xs := xs4) (fun i ys σ H5 => (∃ v, σ = [v]) ∧ H5 = H4 ∧ ys = []) ⟨⟨none, rfl⟩, rfl, rfl⟩ (fun i ys σ H5 hi pv => ?_) (fun i ys σ H5 hi pv => ?_) (fun i x ys σ H5 hx pv => ?_) (fun ys σ H5 pv le hle => ?_)
  · rw [pv.2.2]
    exact small (by show 0 ≤ 1000; decide)
  · rw [pv.2.1]
    exact SqL.of g4
  · obtain ⟨⟨v, rfl⟩, rfl, rfl⟩ := pv
    obtain ⟨p, t, hp, rfl, ht⟩ := pk4.get hx
    refine ⟨_, rfl, .ref t, "tuple", "tuple", true, rfl, TyOf.tup ht, isi_tuple_tuple, _, rfl, ?_⟩
    refine iteF ?_
    refine ⟨_, rfl, t, _, _, _, rfl, rfl, sqT ht, at1, .bl p.2, "bool", "bool", true, rfl, TyOf.bl _, isi_bool_bool, _, rfl, ?_⟩
    refine iteF ?_
    exact ⟨⟨_, rfl⟩, rfl, rfl⟩
  obtain ⟨_, rfl, rfl⟩ := pv
  have s5 := (s03.trans s4).trans (same_new hle (.lst []))
  have g5 : L2.upd H5 le (.lst []) le = some (.lst []) := upd_same
  generalize L2.upd H5 le (.lst []) = H6 at s5 g5 ⊢
  refine ⟨small (by show 0 ≤ 1000; decide), fun lz hlz => ?_⟩
  have s6 := s5.trans (same_new hlz (.lst []))
  have g6 : L2.upd H6 lz (.lst []) lz = some (.lst []) := upd_same
  have g6e := (same_new hlz (.lst [])) _ _ g5
  generalize L2.upd H6 lz (.lst []) = H7 at s6 g6 g6e ⊢
  refine ⟨.list [], .list [], ⟨le, _, rfl, g6e, rfl⟩, ⟨lz, _, rfl, g6, rfl⟩, shaped_nil, shaped_nil, _, rfl, ?_⟩
  rw [eqv_nil, decide_eq_true rfl]
  refine iteF ?_
  have hc7 : H7 c = some (.ins a.x_Choice dx (chF wd pl)) := s6 _ _ hc
  refine ⟨_, rfl, c, _, _, rfl, hc7, rfl, c, dx, wd, pl, m, ts, ps, rfl, hc7, PA.same s6, W.same s6, m9, m1, by omega, S, fun lg gs H8 s8 nlg hlg pk8 => ?_⟩
  have s08 := s6.trans s8
  refine ⟨_, rfl, _, rfl, _, rfl, lb, lc, m, ts, ps, rfl, s08 _ _ hlb, PC.same s08, ok, m1, m9, fun lo os H9 s9 nlo hlo pk9 => ?_⟩
  refine ⟨.list ((offL ts m ps).map pickD), .list ((offL ts m ps).map pickD), ⟨lg, _, rfl, s9 _ _ hlg, (pk8.same (Same.tup s9)).dn⟩, ⟨lo, _, rfl, hlo, pk9.dn⟩, shaped_picks _, shaped_picks _, _, rfl, ?_⟩
  rw [eqv_refl _ (SeqAt.canLay_of_shaped (shaped_picks _))]
  refine iteT ?_
  have s09 := s08.trans s9
  have hc9 : H9 c = some (.ins a.x_Choice dx (chF wd pl)) := s09 _ _ hc
  refine ⟨_, rfl, c, _, _, rfl, hc9, rfl, c, dx, wd, pl, m, ts, ps, rfl, hc9, PA.same s09, W.same s09, m9, m1, S, fun HA o sA ho => ?_⟩
  obtain ⟨s0, rfl⟩ := first_some ho ware
  have s0A := s09.trans sA
  refine ⟨_, rfl, 1, rfl, _, rfl, lb, lc, brN m ts, -1, ps, rfl, s0A _ _ hlb, by rw [brN_len]; exact pw, PC.same s0A, fun ls HB sB nls hls => ?_⟩
  refine ⟨ls, _, _, .int (s0 : Int), rfl, rfl, SqL.of hls, atI_nat (by rw [List.getElem?_map, first_sets ho]; rfl), rfl, ?_⟩
  rw [decide_eq_true (show optN (some s0) = V.int (s0 : Int) from rfl)]
  exact q HB (s0A.trans sB)

end
section
variable {P : Program} {w : World} {K : PySem.W.Frag} {mg : Str → Option Value} {base : Heap} {a : Adr} {d : Fds}
theorem ok_Choice_choose (T : Txt K mg a d) : FnOk P w K mg base CX0 20 a.f_Choice_choose d.f_Choice_choose ["self", "k", "value"] (spChoose a.x_Choice) := by
  have G_open_at := ok_open_at (P := P) (w := w) (base := base) T
  have G_leads_on := ok_leads_on (P := P) (w := w) (base := base) T
  refine T.K_Choice_choose.ok sc_Choice_choose (fun vs H Q E h => ?_) (fun cdv A outer s H vs Q E hr h => ?_)
  · obtain ⟨c, dx, wd, pl, m, ts, ps, k, b, rfl, _⟩ := h
    rfl
  obtain ⟨c, dx, wd, pl, m, ts, ps, k, b, rfl, hc, PA, W, m9, m1, p18, k20, ko, S, wS, q⟩ := h
  obtain ⟨xs0, ys0, WA, _⟩ := W.ex
  refine ⟨_, (pss_cons (ps_if (PW.pt (pw_or (pt_cmpR op_notIn_seq (pv 1) (pe_call G_open_at (hr.mono (by first | decide | omega)) rfl T.g_open_at T.K_open_at.kp T.B_open_at .nil pass0 (pa_cons (pe_fld (pv 0) rfl) (pa_cons (pe_fld (pv 0) rfl) pa_nil))) (by with_unfolding_all rfl)) (pw_or1 (pt_not (pt_val (pe_call G_leads_on (hr.mono (by first | decide | omega)) rfl T.g_leads_on T.K_leads_on.kp T.B_leads_on .nil pass0 (pa_cons (pe_fld (pv 0) rfl) (pa_cons (pe_fld (pv 0) rfl) (pa_cons (pe_tup (pa_cons (pv 1) (pa_cons (pv 2) pa_nil))) pa_nil))))))))) (pss_one ps_never) pss_nil)
      (pss_one (ps_expr (pe_bmK (K := K) PySem.F.plainAttrs_list PySem.F.slot_list_append PySem.F.type_list_append mt_append (pe_fld (pv 0) rfl) (pa_cons (pe_tup (pa_cons (pv 1) (pa_cons (pv 2) pa_nil))) pa_nil))))), ?_⟩
  refine ⟨_, rfl, _, rfl, c, _, _, _, _, rfl, hc, T.C_Choice, T.n_Choice_wood, rfl, _, rfl, c, _, _, _, _, rfl, hc, T.C_Choice, T.n_Choice_picks, rfl, ?_⟩
  refine ⟨wd, pl, m, xs0, ys0, ps, rfl, WA, by omega, PA, fun l H1 s1 nl hl => ?_⟩
  refine ⟨l, _, rfl, .inl (SqL.of hl), rfl, flat_nats _, _, rfl, ?_⟩
  refine iteCN (show (!inV (.int (k : Int)) (natsL (openL m (yesOf ps) (noOf ps)))) = false by rw [inV_nats, decide_eq_true ko]; rfl) ?_
  have hc1 : H1 c = _ := s1 _ _ hc
  refine ⟨_, rfl, c, _, _, _, _, rfl, hc1, T.C_Choice, T.n_Choice_wood, rfl, _, rfl, c, _, _, _, _, rfl, hc1, T.C_Choice, T.n_Choice_picks, rfl, _, rfl, _, rfl, small (by show 2 ≤ 1000; decide), fun tp htp => ?_⟩
  have s2 := s1.trans (same_new htp (.tup [.int (k : Int), .bl b]))
  have h2 : L2.upd H1 tp (.tup [.int (k : Int), .bl b]) tp = some (.tup [.int (k : Int), .bl b]) := upd_same
  generalize L2.upd H1 tp (.tup [.int (k : Int), .bl b]) = H2 at s2 h2 ⊢
  refine ⟨wd, pl, tp, m, ts, ps, (k, b), rfl, W.same s2, m9, m1, PA.same s2, by omega, k20, h2, S, fun H3 o s3 ho => ?_⟩
  obtain ⟨s0, rfl⟩ := first_some ho wS
  refine ⟨_, rfl, ?_⟩
  refine iteF ?_
  have s23 := s2.trans s3
  have hc3 : H3 c = some (.ins a.x_Choice dx (chF wd pl)) := s23 _ _ hc
  obtain ⟨xs, hpl, pk⟩ := (PA.same s23).ex
  have lx := pk.length
  refine ⟨_, rfl, c, _, _, _, _, rfl, hc3, T.C_Choice, T.n_Choice_picks, rfl, .inl ⟨rfl, _, SqL.of hpl⟩, _, rfl, _, rfl, small (by show 2 ≤ 1000; decide), fun tq htq => ?_⟩
  have s4 := same_new htq (.tup [.int (k : Int), .bl b])
  have h4 : L2.upd H3 tq (.tup [.int (k : Int), .bl b]) tq = some (.tup [.int (k : Int), .bl b]) := upd_same
  generalize L2.upd H3 tq (.tup [.int (k : Int), .bl b]) = H4 at s4 h4 ⊢
  have hpl4 : H4 pl = some (.lst xs) := s4 _ _ hpl
  have hc4 : H4 c = some (.ins a.x_Choice dx (chF wd pl)) := s4 _ _ hc3
  have ncp : c ≠ pl := fun z => by rw [z, hpl4] at hc4; cases hc4
  refine ⟨pl, _, _, rfl, rfl, hpl4, small1000 (by omega), ?_⟩
  have t5 := tupS_put (o' := .lst (xs ++ [.ref tq])) hpl4 (fun _ z => nomatch z)
  refine q _ (tupS_trans (Same.tup (s23.trans s4)) t5) (chS_trans (chS_of (s23.trans s4)) (chS_put hpl4)) (by rw [upd_ne ncp]; exact hc4) ⟨⟨_, upd_same, ?_⟩, by rw [List.length_append, List.length_singleton]; omega, fun x hx => ?_⟩
  · exact PickL.snoc (p := (k, b)) (t5 _ _ h4) ((pk.same (Same.tup s4)).same t5)
  · rcases List.mem_append.mp hx with z | z
    · exact PA.le x z
    · rw [List.mem_singleton.mp z]; exact k20
theorem ok_Choice_chooseX (T : Txt K mg a d) : FnOk P w K mg base (CXR P w) 20 a.f_Choice_choose d.f_Choice_choose ["self", "k", "value"] (spChooseX a.x_Choice a.x_NoOffer) := by
  have G_open_at := ok_open_at (P := P) (w := w) (base := base) T
  have G_leads_on := ok_leads_on (P := P) (w := w) (base := base) T
  refine T.K_Choice_choose.okR sc_Choice_choose (fun vs H Q E h => ?_) (fun cdv A outer s H vs Q E hr h => ?_)
  · obtain ⟨c, dx, wd, pl, m, ts, ps, k, b, rfl, _⟩ := h
    rfl
  obtain ⟨c, dx, wd, pl, m, ts, ps, k, b, rfl, hc, PA, W, m9, m1, ok, no, hE⟩ := h
  have p9 := ok.len
  obtain ⟨xs0, ys0, WA, _⟩ := W.ex
  have rest : PSs (cxOf (CXR P w) P w K mg base ["self", "k", "value"] "Choice.choose" (defScope s_Choice_choose) a.f_Choice_choose cdv A outer s H E) ((defBody s_Choice_choose).drop 1) (fun _ _ _ => False) := fun _ _ _ _ _ _ h => h.elim
  refine ⟨_, (pss_cons (ps_if (PW.pt (pw_or (pt_cmpR op_notIn_seq (pv 1) (pe_call G_open_at (hr.mono (by first | decide | omega)) rfl T.g_open_at T.K_open_at.kp T.B_open_at .nil pass0 (pa_cons (pe_fld (pv 0) rfl) (pa_cons (pe_fld (pv 0) rfl) pa_nil))) (by with_unfolding_all rfl)) (pw_or1 (pt_not (pt_val (pe_call G_leads_on (hr.mono (by first | decide | omega)) rfl T.g_leads_on T.K_leads_on.kp T.B_leads_on .nil pass0 (pa_cons (pe_fld (pv 0) rfl) (pa_cons (pe_fld (pv 0) rfl) (pa_cons (pe_tup (pa_cons (pv 1) (pa_cons (pv 2) pa_nil))) pa_nil))))))))) (pss_one (ps_raise rfl rfl T.g_NoOffer T.x_NoOffer.cl (pa_cons pe_str pa_nil) (fun _ _ _ _ _ _ _ I hx hW => xe_made I hx hW))) pss_nil)
      rest), ?_⟩
  refine ⟨_, rfl, _, rfl, c, _, _, _, _, rfl, hc, T.C_Choice, T.n_Choice_wood, rfl, _, rfl, c, _, _, _, _, rfl, hc, T.C_Choice, T.n_Choice_picks, rfl, ?_⟩
  refine ⟨wd, pl, m, xs0, ys0, ps, rfl, WA, by omega, PA, fun l H1 s1 nl hl => ?_⟩
  refine ⟨l, _, rfl, .inl (SqL.of hl), rfl, flat_nats _, _, rfl, ?_⟩
  by_cases ko : inV (.int k) (natsL (openL m (yesOf ps) (noOf ps))) = true
  · refine iteCN (show (!inV (.int k) (natsL (openL m (yesOf ps) (noOf ps)))) = false by rw [ko]; rfl) ?_
    obtain ⟨kn, rfl, hk⟩ := (inV_k _ _).mp ko
    have km := mem_openP.mp hk
    have hc1 : H1 c = _ := s1 _ _ hc
    refine ⟨_, rfl, c, _, _, _, _, rfl, hc1, T.C_Choice, T.n_Choice_wood, rfl, _, rfl, c, _, _, _, _, rfl, hc1, T.C_Choice, T.n_Choice_picks, rfl, _, rfl, _, rfl, small (by show 2 ≤ 1000; decide), fun tp htp => ?_⟩
    have s2 := s1.trans (same_new htp (.tup [.int (kn : Int), .bl b]))
    have h2 : L2.upd H1 tp (.tup [.int (kn : Int), .bl b]) tp = some (.tup [.int (kn : Int), .bl b]) := upd_same
    generalize L2.upd H1 tp (.tup [.int (kn : Int), .bl b]) = H2 at s2 h2 ⊢
    refine ⟨wd, pl, tp, m, ts, ps, (kn, b), rfl, W.same s2, m9, m1, PA.same s2, by omega, by show kn ≤ 20; omega, h2, (ok.snoc hk).stand m1, fun H3 o s3 ho => ?_⟩
    have e : o.isSome = false := (first_lead ho).trans (no kn rfl hk)
    rw [e]
    refine ⟨_, rfl, ?_⟩
    refine iteT ?_
    exact ⟨by show 1 ≤ 1000; decide, hE _ (s2.trans s3)⟩
  · refine iteC (show (!inV (.int k) (natsL (openL m (yesOf ps) (noOf ps)))) = true by rw [Bool.eq_false_iff.mpr ko]; rfl) ?_
    exact ⟨by show 1 ≤ 1000; decide, hE _ s1⟩

end
section
variable {P : Program} {w : World} {K : PySem.W.Frag} {mg : Str → Option Value} {base : Heap} {a : Adr} {d : Fds}
theorem ok_Choice_take_back (T : Txt K mg a d) : FnOk P w K mg base CX0 1 a.f_Choice_take_back d.f_Choice_take_back ["self", "k"] (spBack a.x_Choice) := by
  refine T.K_Choice_take_back.ok sc_Choice_take_back (fun vs H Q E h => ?_) (fun cdv A outer s H vs Q E hr h => ?_)
  · obtain ⟨c, dx, wd, pl, ps, k, rfl, _⟩ := h
    rfl
  obtain ⟨c, dx, wd, pl, ps, k, rfl, hc, PA, km, q⟩ := h
  obtain ⟨xs, hpl, pk⟩ := PA.ex
  have lx := pk.length
  have few := PA.few
  refine ⟨_, (pss_cons (ps_if (pt_cmpR op_notIn_seq (pv 1) (pe_lc (sc0 := defScope s_Choice_take_back) (XN := ["self", "k"]) (N' := ["option", "value"]) (n := 2) (kp := []) rfl (piL (K := K) (pe_fld (pv 0) rfl)) rfl rfl (by decide +kernel) (fun _ _ _ _ _ => (pgT (K := K) (n := 2) rfl (pgs_cons (pg_name (i := 0) (by show List.Nodup (["option", "value"] : List Str); decide +kernel) rfl (Or.inl rfl)) (pgs_cons (pg_name (i := 1) (by show List.Nodup (["option", "value"] : List Str); decide +kernel) rfl (Or.inl rfl)) pgs_nil)))) (fun _ _ _ _ _ => pts_nil) (fun _ _ _ _ _ => (pv 0))) (by with_unfolding_all rfl)) (pss_one ps_never) pss_nil)
      (pss_one (ps_fld (pv 0) (pe_lc (sc0 := defScope s_Choice_take_back) (XN := ["self", "k"]) (N' := ["pick", "k"]) (n := 1) (kp := [1]) rfl (piL (K := K) (pe_fld (pv 0) rfl)) rfl rfl (by decide +kernel) (fun _ _ _ _ _ => (pg_name (i := 0) (by show List.Nodup (["pick", "k"] : List Str); decide +kernel) rfl (Or.inl rfl))) (fun _ _ _ _ _ => (pts_one (pt_cmpR op_ne (pe_ix (ixT (K := K)) (pv 0) pe_int (fun _ _ => rfl)) (pv 1) (nomark _)))) (fun _ _ _ _ _ => (pv 0))) rfl))), ?_⟩
  refine ⟨_, rfl, _, rfl, c, _, _, _, _, rfl, hc, T.C_Choice, T.n_Choice_picks, rfl, pl, rfl, ⟨_, SqL.of hpl⟩, ?_⟩
  refine lc_list (K := K) (a := pl) (xs := xs) (fun i ys σ H2 => (∃ v v', σ = [v, v']) ∧ H2 = H ∧ ys = natsL ((ps.take i).map (·.1))) ⟨⟨none, none, rfl⟩, rfl, rfl⟩ (fun i ys σ H2 hi pv => ?_) (fun i ys σ H2 hi pv => ?_) (fun i x ys σ H2 hx pv => ?_) (fun ys σ H2 pv l1 hl1 => ?_)
  · obtain ⟨_, _, rfl⟩ := pv
    rw [List.length_map, List.length_map, List.length_take]
    exact small (by omega)
  · rw [pv.2.1]
    exact SqL.of hpl
  · obtain ⟨⟨v, v', rfl⟩, rfl, rfl⟩ := pv
    obtain ⟨p, t, hp, rfl, ht⟩ := pk.get hx
    refine ⟨t, _, rfl, sqT ht, rfl, _, _, rfl, _, _, rfl, rfl, ?_⟩
    refine ⟨_, rfl, ⟨_, _, rfl⟩, rfl, ?_⟩
    rw [List.take_add_one, hp, Option.toList_some, List.map_append, natsL_app]
    rfl
  obtain ⟨_, rfl, rfl⟩ := pv
  rw [← lx, List.take_length]
  have s1 := same_new hl1 (.lst (natsL (ps.map (·.1))))
  have g1 : L2.upd H2 l1 (.lst (natsL (ps.map (·.1)))) l1 = some (.lst (natsL (ps.map (·.1)))) := upd_same
  generalize L2.upd H2 l1 (.lst (natsL (ps.map (·.1)))) = H1 at s1 g1 ⊢
  refine ⟨l1, _, rfl, .inl (SqL.of g1), rfl, flat_nats _, _, rfl, ?_⟩
  refine iteCN (show (!inV (.int (k : Int)) (natsL (ps.map (·.1)))) = false by rw [inV_nats, decide_eq_true km]; rfl) ?_
  have hc1 : H1 c = some (.ins a.x_Choice dx (chF wd pl)) := s1 _ _ hc
  have hpl1 : H1 pl = some (.lst xs) := s1 _ _ hpl
  refine ⟨_, rfl, c, _, _, _, _, rfl, hc1, T.C_Choice, T.n_Choice_picks, rfl, pl, rfl, ⟨_, SqL.of hpl1⟩, ?_⟩
  refine lc_list (K := K) (a := pl) (xs := xs) (fun i ys σ H2 => (∃ v, σ = [v, some (.int (k : Int))]) ∧ H2 = H1 ∧ ys.length ≤ i ∧ PickL H1 (woP (ps.take i) k) ys) ⟨⟨none, rfl⟩, rfl, Nat.le_refl _, rfl⟩ (fun i ys σ H2 hi pv => ?_) (fun i ys σ H2 hi pv => ?_) (fun i x ys σ H2 hx pv => ?_) (fun ys σ H2 pv l2 hl2 => ?_)
  · exact small (by have := pv.2.2.1; omega)
  · rw [pv.2.1]
    exact SqL.of hpl1
  · obtain ⟨⟨v, rfl⟩, rfl, h1, h2⟩ := pv
    obtain ⟨p, t, hp, rfl, ht⟩ := (pk.same (Same.tup s1)).get hx
    have et : woP (ps.take (i + 1)) k = woP (ps.take i) k ++ (if p.1 = k then [] else [p]) := by
      unfold woP
      rw [List.take_add_one, hp, Option.toList_some, List.filter_append]
      by_cases z : p.1 = k <;> simp [z]
    refine ⟨_, rfl, t, _, _, _, rfl, rfl, sqT ht, at0, _, rfl, rfl, _, rfl, ?_⟩
    by_cases z : p.1 = k
    · refine iteNS (by rw [z]) ?_
      refine ⟨⟨_, rfl⟩, rfl, by omega, ?_⟩
      rw [et, if_pos z, List.append_nil]
      exact h2
    · refine iteB ?_ ?_
      · rw [Bool.not_eq_true', decide_eq_false_iff_not]
        intro y
        injection y with y
        omega
      · refine ⟨_, rfl, ⟨_, rfl⟩, rfl, by rw [List.length_append, List.length_singleton]; omega, ?_⟩
        rw [et, if_neg z]
        exact PickL.snoc (p := p) ht h2
  · obtain ⟨_, rfl, _, h2⟩ := pv
    rw [← lx, List.take_length] at h2
    have s2 := same_new hl2 (.lst ys)
    have g2 : L2.upd H2 l2 (.lst ys) l2 = some (.lst ys) := upd_same
    have pk2 := h2.same (Same.tup s2)
    generalize L2.upd H2 l2 (.lst ys) = H3 at s2 g2 pk2 ⊢
    have s12 := s1.trans s2
    have hc3 : H3 c = some (.ins a.x_Choice dx (chF wd pl)) := s12 _ _ hc
    refine ⟨_, rfl, c, _, _, _, rfl, hc3, T.C_Choice, T.n_Choice_picks, (by show 2 < 1000; decide), ?_⟩
    have n2 : l2 ≠ c := fun z => by rw [z, hc3] at g2; cases g2
    have tp := tupS_put (o' := .ins a.x_Choice dx (chF wd l2)) hc3 (fun _ z => nomatch z)
    refine q l2 _ (tupS_trans (Same.tup s12) tp) (lstS_trans (lstS_of s12) (lstS_put hc3 (fun _ z => nomatch z))) (chS_trans (chS_of s12) (chS_put hc3)) (s1.free hl2) upd_same ⟨⟨ys, ?_, pk2.same tp⟩, Nat.le_trans (List.length_filter_le _ _) few, fun x hx => PA.le x (List.mem_filter.mp hx).1⟩
    rw [upd_ne n2]
    exact g2
theorem ok_Choice_take_backX (T : Txt K mg a d) : FnOk P w K mg base (CXR P w) 1 a.f_Choice_take_back d.f_Choice_take_back ["self", "k"] (spBackX a.x_Choice a.x_NoOffer) := by
  refine T.K_Choice_take_back.okR sc_Choice_take_back (fun vs H Q E h => ?_) (fun cdv A outer s H vs Q E hr h => ?_)
  · obtain ⟨c, dx, wd, pl, ps, k, rfl, _⟩ := h
    rfl
  obtain ⟨c, dx, wd, pl, ps, k, rfl, hc, PA, km, hE⟩ := h
  obtain ⟨xs, hpl, pk⟩ := PA.ex
  have lx := pk.length
  have few := PA.few
  have rest : PSs (cxOf (CXR P w) P w K mg base ["self", "k"] "Choice.take_back" (defScope s_Choice_take_back) a.f_Choice_take_back cdv A outer s H E) ((defBody s_Choice_take_back).drop 1) (fun _ _ _ => False) := fun _ _ _ _ _ _ h => h.elim
  refine ⟨_, (pss_cons (ps_if (pt_cmpR op_notIn_seq (pv 1) (pe_lc (sc0 := defScope s_Choice_take_back) (XN := ["self", "k"]) (N' := ["option", "value"]) (n := 2) (kp := []) rfl (piL (K := K) (pe_fld (pv 0) rfl)) rfl rfl (by decide +kernel) (fun _ _ _ _ _ => (pgT (K := K) (n := 2) rfl (pgs_cons (pg_name (i := 0) (by show List.Nodup (["option", "value"] : List Str); decide +kernel) rfl (Or.inl rfl)) (pgs_cons (pg_name (i := 1) (by show List.Nodup (["option", "value"] : List Str); decide +kernel) rfl (Or.inl rfl)) pgs_nil)))) (fun _ _ _ _ _ => pts_nil) (fun _ _ _ _ _ => (pv 0))) (by with_unfolding_all rfl)) (pss_one (ps_raise rfl rfl T.g_NoOffer T.x_NoOffer.cl (pa_cons pe_str pa_nil) (fun _ _ _ _ _ _ _ I hx hW => xe_made I hx hW))) pss_nil)
      rest), ?_⟩
  refine ⟨_, rfl, _, rfl, c, _, _, _, _, rfl, hc, T.C_Choice, T.n_Choice_picks, rfl, pl, rfl, ⟨_, SqL.of hpl⟩, ?_⟩
  refine lc_list (K := K) (a := pl) (xs := xs) (fun i ys σ H2 => (∃ v v', σ = [v, v']) ∧ H2 = H ∧ ys = natsL ((ps.take i).map (·.1))) ⟨⟨none, none, rfl⟩, rfl, rfl⟩ (fun i ys σ H2 hi pv => ?_) (fun i ys σ H2 hi pv => ?_) (fun i x ys σ H2 hx pv => ?_) (fun ys σ H2 pv l1 hl1 => ?_)
  · obtain ⟨_, _, rfl⟩ := pv
    rw [List.length_map, List.length_map, List.length_take]
    exact small (by omega)
  · rw [pv.2.1]
    exact SqL.of hpl
  · obtain ⟨⟨v, v', rfl⟩, rfl, rfl⟩ := pv
    obtain ⟨p, t, hp, rfl, ht⟩ := pk.get hx
    refine ⟨t, _, rfl, sqT ht, rfl, _, _, rfl, _, _, rfl, rfl, ?_⟩
    refine ⟨_, rfl, ⟨_, _, rfl⟩, rfl, ?_⟩
    rw [List.take_add_one, hp, Option.toList_some, List.map_append, natsL_app]
    rfl
  obtain ⟨_, rfl, rfl⟩ := pv
  rw [← lx, List.take_length]
  have s1 := same_new hl1 (.lst (natsL (ps.map (·.1))))
  have g1 : L2.upd H2 l1 (.lst (natsL (ps.map (·.1)))) l1 = some (.lst (natsL (ps.map (·.1)))) := upd_same
  generalize L2.upd H2 l1 (.lst (natsL (ps.map (·.1)))) = H1 at s1 g1 ⊢
  refine ⟨l1, _, rfl, .inl (SqL.of g1), rfl, flat_nats _, _, rfl, ?_⟩
  have ko : inV (.int k) (natsL (ps.map (·.1))) = false := by
    rw [Bool.eq_false_iff]
    intro z
    obtain ⟨kn, e, hk⟩ := (inV_k _ _).mp z
    exact km kn e hk
  refine iteC (show (!inV (.int k) (natsL (ps.map (·.1)))) = true by rw [ko]; rfl) ?_
  exact ⟨by show 1 ≤ 1000; decide, hE _ s1⟩

end
section
variable {P : Program} {w : World} {K : PySem.W.Frag} {mg : Str → Option Value} {base : Heap} {a : Adr} {d : Fds}
theorem ok_law_done (T : Txt K mg a d) (LB : LamB mg base a.c_law_done a.t_law_done) : FnOk P w K mg base CX0 27 a.f_law_done d.f_law_done ["_law_state", "_law_choice", "_law_broken_here", "_law_many", "_law_chosen"] (spDoneC K a.x_Choice a.t_law_done) := by
  have G_law_take := ok_law_take (P := P) (w := w) (base := base) T
  have G_law_offers := ok_law_offers (P := P) (w := w) (base := base) T
  refine T.K_law_done.okC sc_law_done (fun vs H Q E h => ?_) (fun cdv A outer s H vs Q E hcd hr h => ?_)
  · obtain ⟨pen, sp, ns, k, c, dx, wd, pl, lb, lc, m, ts, ps, rfl, _⟩ := h
    rfl
  obtain ⟨pen, sp, ns, k, c, dx, wd, pl, lb, lc, m, ts, ps, rfl, tb0, pn, k0, k9, hc, PA, PC, nlc, nlb, ok, WT', hlb, nlbp, m1, m9, ware, q⟩ := h
  have p62 : (2 : Int) ^ 62 = 4611686018427387904 := by decide
  have pl9 := ok.len
  have LC : ((cxOf CX0 P w K mg base ["_law_state", "_law_choice", "_law_broken_here", "_law_many", "_law_chosen", "_law_way", "_law_k", "_law_left", "_law_due", "_law_value"] "_law_done" (defScope s_law_done) a.f_law_done cdv A outer s H E).nox).env.code = .ref a.c_law_done := hcd.symm.trans T.code_law_done
  have LF1 : ∀ y ∈ (lamScope (lastArg (cmpE (lstE 1 (retE (ifB (defBody s_law_done)[3]?)[2]?))))).names, y.2 = .free → ∃ c, ((cxOf CX0 P w K mg base ["_law_state", "_law_choice", "_law_broken_here", "_law_many", "_law_chosen", "_law_way", "_law_k", "_law_left", "_law_due", "_law_value"] "_law_done" (defScope s_law_done) a.f_law_done cdv A outer s H E).nox).env.cells.lookup y.1 = some c := by
    intro y hy hz
    have h := (by decide +kernel : ∀ y ∈ (lamScope (lastArg (cmpE (lstE 1 (retE (ifB (defBody s_law_done)[3]?)[2]?))))).names, y.2 = NameKind.free → y = (("_law_choice" : Str), NameKind.free) ∨ y = (("_law_k" : Str), NameKind.free))
    rcases h y hy hz with rfl | rfl
    · exact ⟨_, rfl⟩
    · exact ⟨_, rfl⟩
  have LF2 : ∀ y ∈ (lamScope (lastArg (cmpE (lstE 1 (retE (defBody s_law_done)[6]?))))).names, y.2 = .free → ∃ c, ((cxOf CX0 P w K mg base ["_law_state", "_law_choice", "_law_broken_here", "_law_many", "_law_chosen", "_law_way", "_law_k", "_law_left", "_law_due", "_law_value"] "_law_done" (defScope s_law_done) a.f_law_done cdv A outer s H E).nox).env.cells.lookup y.1 = some c := by
    intro y hy hz
    have h := (by decide +kernel : ∀ y ∈ (lamScope (lastArg (cmpE (lstE 1 (retE (defBody s_law_done)[6]?))))).names, y.2 = NameKind.free → y = (("_law_choice" : Str), NameKind.free) ∨ y = (("_law_k" : Str), NameKind.free) ∨ y = (("_law_value" : Str), NameKind.free))
    rcases h y hy hz with rfl | rfl | rfl
    · exact ⟨_, rfl⟩
    · exact ⟨_, rfl⟩
    · exact ⟨_, rfl⟩
  have hcells : ((cxOf CX0 P w K mg base ["_law_state", "_law_choice", "_law_broken_here", "_law_many", "_law_chosen", "_law_way", "_law_k", "_law_left", "_law_due", "_law_value"] "_law_done" (defScope s_law_done) a.f_law_done cdv A outer s H E).nox).env.cells = [(("_law_value" : Str), s.heap.objs.size + 3), (("_law_k" : Str), s.heap.objs.size + 2), (("_law_choice" : Str), s.heap.objs.size + 1)] := rfl
  have injE : ∀ x y c, ((cxOf CX0 P w K mg base ["_law_state", "_law_choice", "_law_broken_here", "_law_many", "_law_chosen", "_law_way", "_law_k", "_law_left", "_law_due", "_law_value"] "_law_done" (defScope s_law_done) a.f_law_done cdv A outer s H E).nox).env.cells.lookup x = some c → ((cxOf CX0 P w K mg base ["_law_state", "_law_choice", "_law_broken_here", "_law_many", "_law_chosen", "_law_way", "_law_k", "_law_left", "_law_due", "_law_value"] "_law_done" (defScope s_law_done) a.f_law_done cdv A outer s H E).nox).env.cells.lookup y = some c → x = y := fun x y c h1 h2 => by
    rw [hcells] at h1 h2
    exact cells3 h1 h2
  have HK : HeardK K a.x_NoOffer [a.x_NoCount, a.x_NoName, a.x_NoRow, a.x_NoText, a.x_NoWood, a.x_Unlike] a.x_NoOffer a.x_NoWares a.x_WoodError true := ⟨T.x_NoOffer, fun C hC => by
    simp only [List.mem_cons, List.not_mem_nil, or_false] at hC
    rcases hC with rfl | rfl | rfl | rfl | rfl | rfl
    · exact T.k_NoOffer_NoCount
    · exact T.k_NoOffer_NoName
    · exact T.k_NoOffer_NoRow
    · exact T.k_NoOffer_NoText
    · exact T.k_NoOffer_NoWood
    · exact T.k_NoOffer_Unlike, T.k_NoOffer_NoOffer, T.k_NoOffer_NoWares, T.v_NoOffer, T.s_NoOffer_WoodError⟩
  obtain ⟨ct3, ch3, cu3⟩ := cutS (X := (cxOf CX0 P w K mg base ["_law_state", "_law_choice", "_law_broken_here", "_law_many", "_law_chosen", "_law_way", "_law_k", "_law_left", "_law_due", "_law_value"] "_law_done" (defScope s_law_done) a.f_law_done cdv A outer s H E).nox) (st := (defBody s_law_done).drop 3) (pss_cons (ps_if (pt_cmpR op_eq (pe_call G_law_take (hr.mono (by first | decide | omega)) rfl T.g_law_take T.K_law_take.kp T.B_law_take .nil pass0 (pa_cons (pv 0) (pa_cons pe_int pa_nil))) pe_int (nomark _)) (pss_cons (ps_setLc (i := 7) sc_law_done.nd rfl rfl rfl (sc0 := defScope s_law_done) (XN := ["_law_state", "_law_choice", "_law_broken_here", "_law_many", "_law_chosen", "_law_way", "_law_k", "_law_left", "_law_due", "_law_value"]) (N' := ["_law_one", "_law_k"]) (n := 1) (kp := [6]) rfl (piL (K := K) (pv 4)) rfl rfl (by decide +kernel) (fun _ _ _ _ _ => (pg_name (i := 0) (by show List.Nodup (["_law_one", "_law_k"] : List Str); decide +kernel) rfl (Or.inl rfl))) (fun _ _ _ _ _ => (pts_one (pt_cmpR op_ne (pe_ix (ixT (K := K)) (pv 0) pe_int (fun _ _ => rfl)) (pv 1) (nomark _)))) (fun _ _ _ _ _ => (pv 0)))
      (pss_cons (ps_set (i := 8) sc_law_done.nd rfl (Or.inl rfl) (pe_ix (ixL (K := K)) (pe_lst (pa_cons pe_str (pa_cons pe_str pa_nil))) (pe_callTy call_int1 rfl T.m_int PyProof.Rows.boot_int (pa_cons (pe_cmpR op_eq (pe_callB (lenS (K := K)) rfl T.m_len PySem.boot_len (pa_cons (pv 7) pa_nil)) (pe_callB (lenS (K := K)) rfl T.m_len PySem.boot_len (pa_cons (pv 4) pa_nil)) (nomark _)) pa_nil)) (fun _ _ => rfl)))
      (pss_one (ps_ret (pe_lst (pa_cons (pv 7) (pa_cons (pe_cmpR op_eq (pe_callWB (k := 25) (hr.mono (by first | decide | omega)) rfl T.g_law_heard T.K_law_heard.kp T.B_law_heard (fun _ => rfl) (pa_cons (pe_lam LC LB rfl LF1) pa_nil)) (pv 8) (nomark _)) pa_nil))))))) pss_nil)
      (pss_cons (ps_set (i := 9) sc_law_done.nd rfl (Or.inr rfl) (pe_cmpR op_eq (pe_call G_law_take (hr.mono (by first | decide | omega)) rfl T.g_law_take T.K_law_take.kp T.B_law_take .nil pass0 (pa_cons (pv 0) (pa_cons pe_int pa_nil))) pe_int (nomark _)))
      (pss_cons (ps_if (pt_cmpR (op_in_data hr.units65) (pe_tup (pa_cons (pv 6) (pa_cons (pv 9) pa_nil))) (pe_call G_law_offers (hr.mono (by first | decide | omega)) rfl T.g_law_offers T.K_law_offers.kp T.B_law_offers .nil pass0 (pa_cons (pv 2) (pa_cons (pv 3) (pa_cons (pv 4) pa_nil)))) (by with_unfolding_all rfl)) (pss_one (ps_ret (pe_lst (pa_cons (pe_op op_cat (pv 4) (pe_lst (pa_cons (pe_tup (pa_cons (pv 6) (pa_cons (pv 9) pa_nil))) pa_nil))) (pa_cons (pe_cmpR op_eq (pe_callWB (k := 25) (hr.mono (by first | decide | omega)) rfl T.g_law_heard T.K_law_heard.kp T.B_law_heard (fun _ => rfl) (pa_cons (pe_lam LC LB rfl LF2) pa_nil)) pe_str (nomark _)) pa_nil))))) pss_nil)
      (pss_one (ps_ret (pe_lst (pa_cons (pv 4) (pa_cons (pe_cmpR op_eq (pe_callWB (k := 25) (hr.mono (by first | decide | omega)) rfl T.g_law_heard T.K_law_heard.kp T.B_law_heard (fun _ => rfl) (pa_cons (pe_lam LC LB rfl LF2) pa_nil)) pe_str (nomark _)) pa_nil))))))))
  refine ⟨_, (pss_cons (ps_set (i := 5) sc_law_done.nd rfl (Or.inl rfl) (pe_call G_law_take (hr.mono (by first | decide | omega)) rfl T.g_law_take T.K_law_take.kp T.B_law_take .nil pass0 (pa_cons (pv 0) (pa_cons pe_int pa_nil))))
      (pss_cons (ps_set (i := 6) sc_law_done.nd rfl (Or.inr rfl) (pe_call G_law_take (hr.mono (by first | decide | omega)) rfl T.g_law_take T.K_law_take.kp T.B_law_take .nil pass0 (pa_cons (pv 0) (pa_cons (pv 3) pa_nil))))
      (pss_cons (ps_if (pt_cmpR op_eq (pv 5) pe_int (nomark _)) (pss_one (ps_set (i := 6) sc_law_done.nd rfl (Or.inr rfl) (pe_ix (ixL (K := K)) (pe_lst (pa_cons (pe_un un_neg pe_int) (pa_cons (pv 3) (pa_cons (pe_op op_pow pe_int pe_int) (pa_cons pe_int (pa_cons (pe_op op_add (pv 3) pe_int) pa_nil)))))) (pe_call G_law_take (hr.mono (by first | decide | omega)) rfl T.g_law_take T.K_law_take.kp T.B_law_take .nil pass0 (pa_cons (pv 0) (pa_cons pe_int pa_nil))) (fun _ _ => rfl)))) pss_nil)
      ch3))), ?_⟩
  have rest : ∀ (way : V) (kk : Int) (kd : Int) (H2 : Hp), SameX pen H H2 → H2 pen = some (.lst [.ref sp, .int kd]) → k ≤ kd → kd ≤ k + 5 → ct3 { nx := fun _ H' => Q .non H', rt := Q } [some (.ref pen), some (.ref c), some (.ref lb), some (.int (m : Int)), some (.ref lc), some way, some (.int kk), none, none, none] H2 := by
    intro way kk kd H2 x2 hp2 kd0 kd1
    refine cu3 _ _ _ ?_
    have PA2 := PA.x pn.at_ (picks_pen PA pn.at_) x2
    have PC2 := PC.x pn.at_ (picks_pen PC pn.at_) x2
    have hc2 : H2 c = some (.ins a.x_Choice dx (chF wd pl)) := x2 _ _ (fun z => by rw [z, pn.at_] at hc; cases hc) hc
    have KA2 : KeepA [pen, c, pl] H H2 := (KeepA.refl _ H).pen x2 (.inl List.mem_cons_self) pn.at_ hp2
    have t2 := SameX.tup pn.at_ x2
    have hlb2 : H2 lb = some (.lst (natsL (brN m ts))) := x2 _ _ nlbp hlb
    refine ⟨_, rfl, pen, sp, ns, 3, kd, rfl, pn.to x2 hp2, by omega, by omega, by decide, fun w1 w10 w11 => ?_⟩
    have x3 := sameX_pen (pen := pen) (H := H2) (.lst [.ref sp, .int (kd + 1)])
    have g3 : L2.upd H2 pen (.lst [.ref sp, .int (kd + 1)]) pen = some (.lst [.ref sp, .int (kd + 1)]) := upd_same
    generalize L2.upd H2 pen (.lst [.ref sp, .int (kd + 1)]) = H3 at x3 g3 ⊢
    have PA3 := PA2.x hp2 (picks_pen PA2 hp2) x3
    have PC3 := PC2.x hp2 (picks_pen PC2 hp2) x3
    have hc3 : H3 c = some (.ins a.x_Choice dx (chF wd pl)) := x3 _ _ (fun z => by rw [z, hp2] at hc2; cases hc2) hc2
    have KA3 := KA2.pen x3 (.inl List.mem_cons_self) hp2 g3
    have t3 := tupS_trans t2 (SameX.tup hp2 x3)
    have hlb3 : H3 lb = some (.lst (natsL (brN m ts))) := x3 _ _ nlbp hlb2
    refine ⟨rfl, _, rfl, ?_⟩
    refine ite2 (fun c1 => ?_) (fun c1 => ?_)
    · obtain ⟨xs, hlc, pk⟩ := PC3.ex
      have lx := pk.length
      refine ⟨_, rfl, lc, rfl, ⟨_, SqL.of hlc⟩, ?_⟩
      refine lc_list (K := K) (a := lc) (xs := xs) (fun i ys σ H4 => (∃ v, σ = [v, some (.int kk)]) ∧ H4 = H3 ∧ ys.length ≤ i ∧ PickL H3 (woI (ps.take i) kk) ys) ⟨⟨none, rfl⟩, rfl, Nat.le_refl _, rfl⟩ (fun i ys σ H4 hi pv => ?_) (fun i ys σ H4 hi pv => ?_) (fun i x ys σ H4 hx pv => ?_) (fun ys σ H4 pv lf hlf => ?_)
      · exact small (by have := pv.2.2.1; omega)
      · rw [pv.2.1]
        exact SqL.of hlc
      · obtain ⟨⟨v, rfl⟩, rfl, h1, h2⟩ := pv
        obtain ⟨p, t, hp, rfl, ht⟩ := pk.get hx
        have et : woI (ps.take (i + 1)) kk = woI (ps.take i) kk ++ (if (p.1 : Int) = kk then [] else [p]) := by
          unfold woI
          rw [List.take_add_one, hp, Option.toList_some, List.filter_append]
          by_cases z : (p.1 : Int) = kk <;> simp [z]
        refine ⟨_, rfl, t, _, _, _, rfl, rfl, sqT ht, at0, _, rfl, rfl, _, rfl, ?_⟩
        by_cases z : (p.1 : Int) = kk
        · refine iteNS (by rw [z]) ?_
          refine ⟨⟨_, rfl⟩, rfl, by omega, ?_⟩
          rw [et, if_pos z, List.append_nil]
          exact h2
        · refine iteB ?_ ?_
          · rw [Bool.not_eq_true', decide_eq_false_iff_not]
            intro y
            injection y with y
            exact z y
          · refine ⟨_, rfl, ⟨_, rfl⟩, rfl, by rw [List.length_append, List.length_singleton]; omega, ?_⟩
            rw [et, if_neg z]
            exact PickL.snoc (p := p) ht h2
      obtain ⟨_, rfl, _, h2⟩ := pv
      rw [← lx, List.take_length] at h2
      have s5 := same_new hlf (.lst ys)
      have g5 : L2.upd H4 lf (.lst ys) lf = some (.lst ys) := upd_same
      have pk5 := h2.same (Same.tup s5)
      have ly := pk5.length
      generalize L2.upd H4 lf (.lst ys) = H5 at s5 g5 pk5 ⊢
      have hlc5 : H5 lc = some (.lst xs) := s5 _ _ hlc
      refine ⟨small (by show 2 ≤ 1000; decide), fun ld hld => ?_⟩
      have s6 := s5.trans (same_new hld (.lst [.str ("none" : Str), .str ("offer" : Str)]))
      have g6 : L2.upd H5 ld (.lst [.str ("none" : Str), .str ("offer" : Str)]) ld = some (.lst [.str ("none" : Str), .str ("offer" : Str)]) := upd_same
      have g6f := (same_new hld (.lst [.str ("none" : Str), .str ("offer" : Str)])) _ _ g5
      have pk6 := pk5.same (Same.tup (same_new hld (.lst [.str ("none" : Str), .str ("offer" : Str)])))
      generalize L2.upd H5 ld (.lst [.str ("none" : Str), .str ("offer" : Str)]) = H6 at s6 g6 g6f pk6 ⊢
      have hlc6 : H6 lc = some (.lst xs) := s6 _ _ hlc
      refine ⟨_, rfl, lf, _, rfl, .inl (SqL.of g6f), _, rfl, lc, _, rfl, .inl (SqL.of hlc6), rfl, .inr ⟨_, rfl, ?_⟩⟩
      have PA6 := PA3.same s6
      have hc6 : H6 c = some (.ins a.x_Choice dx (chF wd pl)) := s6 _ _ hc3
      have KA6 := KA3.same s6
      have nlf : H4 lf = none := hlf
      have few := PA.few
      by_cases hin : ∃ kn : Nat, kk = kn ∧ kn ∈ ps.map (·.1)
      · obtain ⟨kn, rfl, hkn⟩ := hin
        rw [woI_nat] at pk6 ly
        have less := woP_less hkn
        have e : decide (V.int ((ys.length : Nat) : Int) = V.int ((xs.length : Nat) : Int)) = false := decide_eq_false fun z => by
          injection z with z
          omega
        rw [e]
        refine ⟨ld, _, _, .str ("none" : Str), rfl, rfl, SqL.of g6, rfl, ?_⟩
        refine ⟨_, rfl, KA6.tab _ tb0, fun p c' H7 np s7 hp hc' base' ci _ _ kb => ?_⟩
        have Cl := clo_of (base := base') (fr := ["_law_choice", "_law_k"]) (fv := [.ref c, .int (kn : Int)]) LF1 (by decide +kernel) (by decide +kernel) (fun i x v h1 h2 => by
        match i, h1, h2 with
        | 0, h1, h2 => cases h1; cases h2; exact ci 1 "_law_choice" (.ref c) rfl rfl rfl
        | 1, h1, h2 => cases h1; cases h2; exact ci 6 "_law_k" (.int (kn : Int)) rfl rfl rfl
        | _ + 2, h1, _ => cases h1) injE rfl
        have L := lam_askG (P := P) (w := w) (K := K) (mg := mg) (base := base') (D := a.x_NoOffer) (fr := ["_law_choice", "_law_k"]) (fv := [.ref c, .int (kn : Int)]) (k := 23) (r := false) (fun H => H c = some (.ins a.x_Choice dx (chF wd pl)) ∧ PicksAt H pl ps) (fun H H' => ∃ pl', TupS H H' ∧ LstS H H' ∧ ChS c H H' ∧ H pl' = none ∧ H' c = some (.ins a.x_Choice dx (chF wd pl')) ∧ PicksAt H' pl' (woP ps kn)) hp ⟨rfl, rfl, rfl, by decide +kernel, by decide +kernel, by decide +kernel, by decide +kernel⟩ Cl.hcl Cl.inj Cl.has Cl.hfv Cl.hlen (fun _ _ _ => rfl)
          (fun q A outer s H Q E hr C0 qt qf => ⟨_, pe_meth (pv 0) T.C_Choice T.g_Choice_take_back (ok_Choice_take_back (P := P) (w := w) (base := base') T) (hr.mono (by decide)) T.B_Choice_take_back .nil pass0 (pa_cons (pv 1) pa_nil), ⟨_, rfl, c, _, _, rfl, C0.1, rfl, _, rfl, c, dx, wd, pl, ps, kn, rfl, C0.1, C0.2, hkn, fun pl' H' t l ch n hc' P' => qf rfl _ _ ⟨pl', t, l, ch, n, hc', P'⟩⟩⟩)
        have G := ok_law_heard (P := P) (w := w) (base := base') T HK L (.all fun us hl => match us, hl with | [], _ => rfl) lamP_fn (fun H h => h.2.1)
        refine ⟨_, G, rfl, ⟨⟨s7 _ _ hc6, PA6.same s7⟩, hp, hc'⟩, fun H8 _ R8 => ?_⟩
        obtain ⟨pl', tR, lR, chR, nR, hcR, PR⟩ := R8 rfl
        refine ⟨_, rfl, rfl, small (by show 2 ≤ 1000; decide), fun l hl => ?_⟩
        have s9 := same_new hl (.lst [.ref lf, .bl (decide (V.str (heardC false true) = V.str ("none" : Str)))])
        have g9 : L2.upd H8 l (.lst [.ref lf, .bl (decide (V.str (heardC false true) = V.str ("none" : Str)))]) l = some (.lst [.ref lf, .bl true]) := upd_same
        generalize L2.upd H8 l (.lst [.ref lf, .bl (decide (V.str (heardC false true) = V.str ("none" : Str)))]) = H9 at s9 g9 ⊢
        have g7f : H7 lf = some (.lst ys) := s7 _ _ g6f
        have t39 := tupS_trans (Same.tup (s6.trans s7)) (tupS_trans tR (Same.tup s9))
        refine q l lf pl' (woP ps kn) (kd + 1) H9 (((KA6.same s7).ch chR (.inl (by simp))).same s9) (tupS_trans t3 t39) (s9 _ _ (lR _ _ (s7 _ _ (s6 _ _ g3)))) (by omega) (by omega) g9 (s9 _ _ hcR) (PR.same s9) ⟨⟨ys, s9 _ _ (lR _ _ g7f), pk6.same (tupS_trans (Same.tup s7) (tupS_trans tR (Same.tup s9)))⟩, by omega, fun p hp => PA.le p (List.mem_filter.mp hp).1⟩ (fun z => by rw [← z, g7f] at nR; cases nR) (.inr ((KA6.same s7).dom _ nR)) ok.wo ?_
        obtain ⟨sw, h1, h2, h3⟩ := ware
        exact ⟨sw, h1, inS_wo h2, h3⟩
      · have hnot : ∀ kn : Nat, kk = kn → kn ∉ ps.map (·.1) := fun kn e h => hin ⟨kn, e, h⟩
        rw [woI_none hnot] at pk6 ly
        have e : decide (V.int ((ys.length : Nat) : Int) = V.int ((xs.length : Nat) : Int)) = true := decide_eq_true (by rw [← ly, lx])
        rw [e]
        refine ⟨ld, _, _, .str ("offer" : Str), rfl, rfl, SqL.of g6, rfl, ?_⟩
        refine ⟨_, rfl, KA6.tab _ tb0, fun p c' H7 np s7 hp hc' base' ci _ _ kb => ?_⟩
        have Cl := clo_of (base := base') (fr := ["_law_choice", "_law_k"]) (fv := [.ref c, .int kk]) LF1 (by decide +kernel) (by decide +kernel) (fun i x v h1 h2 => by
        match i, h1, h2 with
        | 0, h1, h2 => cases h1; cases h2; exact ci 1 "_law_choice" (.ref c) rfl rfl rfl
        | 1, h1, h2 => cases h1; cases h2; exact ci 6 "_law_k" (.int kk) rfl rfl rfl
        | _ + 2, h1, _ => cases h1) injE rfl
        have L := lam_askG (P := P) (w := w) (K := K) (mg := mg) (base := base') (D := a.x_NoOffer) (fr := ["_law_choice", "_law_k"]) (fv := [.ref c, .int kk]) (k := 23) (r := true) (fun H => H c = some (.ins a.x_Choice dx (chF wd pl)) ∧ PicksAt H pl ps) Same hp ⟨rfl, rfl, rfl, by decide +kernel, by decide +kernel, by decide +kernel, by decide +kernel⟩ Cl.hcl Cl.inj Cl.has Cl.hfv Cl.hlen (fun _ _ _ => rfl)
          (fun q A outer s H Q E hr C0 qt qf => ⟨_, pe_meth (pv 0) T.C_Choice T.g_Choice_take_back (ok_Choice_take_backX (P := P) (w := w) (base := base') T) (hr.mono (by decide)) T.B_Choice_take_back .nil passUpL (pa_cons (pv 1) pa_nil), ⟨_, rfl, c, _, _, rfl, C0.1, rfl, _, rfl, c, dx, wd, pl, ps, kk, rfl, C0.1, C0.2, hnot, fun H' s' => qt rfl H' s'⟩⟩)
        have G := ok_law_heard (P := P) (w := w) (base := base') T HK L (.all fun us hl => match us, hl with | [], _ => rfl) lamP_fn (fun H h => h.2.1)
        refine ⟨_, G, rfl, ⟨⟨s7 _ _ hc6, PA6.same s7⟩, hp, hc'⟩, fun H8 S8 _ => ?_⟩
        have s8 := S8 rfl
        refine ⟨_, rfl, rfl, small (by show 2 ≤ 1000; decide), fun l hl => ?_⟩
        have s9 := same_new hl (.lst [.ref lf, .bl (decide (V.str (heardC true true) = V.str ("offer" : Str)))])
        have g9 : L2.upd H8 l (.lst [.ref lf, .bl (decide (V.str (heardC true true) = V.str ("offer" : Str)))]) l = some (.lst [.ref lf, .bl true]) := upd_same
        generalize L2.upd H8 l (.lst [.ref lf, .bl (decide (V.str (heardC true true) = V.str ("offer" : Str)))]) = H9 at s9 g9 ⊢
        have s69 := (s7.trans s8).trans s9
        have nfp : lf ≠ pl := fun z => by
          obtain ⟨zs, hz, _⟩ := PA3.ex
          rw [z, hz] at nlf
          cases nlf
        exact q l lf pl ps (kd + 1) H9 (KA6.same s69) (tupS_trans t3 (Same.tup (s6.trans s69))) (s69 _ _ (s6 _ _ g3)) (by omega) (by omega) g9 (s69 _ _ hc6) (PA6.same s69) ⟨⟨ys, s69 _ _ g6f, pk6.same (Same.tup s69)⟩, few, PA.le⟩ nfp (.inl rfl) ok ware
    · refine ⟨_, rfl, pen, sp, ns, 2, kd + 1, rfl, pn.to (x2.trans x3) g3, by omega, by omega, by decide, fun w2 w20 w21 => ?_⟩
      have x4 := sameX_pen (pen := pen) (H := H3) (.lst [.ref sp, .int (kd + 1 + 1)])
      have g4 : L2.upd H3 pen (.lst [.ref sp, .int (kd + 1 + 1)]) pen = some (.lst [.ref sp, .int (kd + 1 + 1)]) := upd_same
      generalize L2.upd H3 pen (.lst [.ref sp, .int (kd + 1 + 1)]) = H4 at x4 g4 ⊢
      have PA4 := PA3.x g3 (picks_pen PA3 g3) x4
      have PC4 := PC3.x g3 (picks_pen PC3 g3) x4
      have hc4 : H4 c = some (.ins a.x_Choice dx (chF wd pl)) := x4 _ _ (fun z => by rw [z, g3] at hc3; cases hc3) hc3
      have KA4 := KA3.pen x4 (.inl List.mem_cons_self) g3 g4
      have t4 := tupS_trans t3 (SameX.tup g3 x4)
      have hlb4 : H4 lb = some (.lst (natsL (brN m ts))) := x4 _ _ nlbp hlb3
      refine ⟨rfl, ?_⟩
      refine ⟨_, rfl, _, rfl, ?_⟩
      obtain ⟨b, hb⟩ : ∃ b, b = decide (V.int w2 = V.int 1) := ⟨_, rfl⟩
      rw [← hb]
      refine ⟨small (by show 2 ≤ 1000; decide), fun tk htk => ?_⟩
      have s5 := same_new htk (.tup [.int kk, .bl b])
      have g5 : L2.upd H4 tk (.tup [.int kk, .bl b]) tk = some (.tup [.int kk, .bl b]) := upd_same
      generalize L2.upd H4 tk (.tup [.int kk, .bl b]) = H5 at s5 g5 ⊢
      refine ⟨_, rfl, _, rfl, _, rfl, lb, lc, m, ts, ps, rfl, s5 _ _ hlb4, PC4.same s5, ok, m1, m9, fun lo os H6 s6 nlo hlo pk6 => ?_⟩
      have s46 := s5.trans s6
      refine ⟨.tuple [.int kk, .bool b], (offL ts m ps).map pickD, ⟨tk, _, rfl, s6 _ _ g5, _, _, rfl, rfl, _, _, rfl, rfl, rfl⟩, ⟨lo, _, rfl, hlo, pk6.dn⟩, shaped_pickI _ _, shaped_picks _, _, rfl, ?_⟩
      have KA6 := KA4.same s46
      have hc6 : H6 c = some (.ins a.x_Choice dx (chF wd pl)) := s46 _ _ hc4
      have PA6 := PA4.same s46
      have PC6 := PC4.same s46
      have few := PA.few
      refine ite2 (fun ca => ?_) (fun ca => ?_)
      · obtain ⟨kn, rfl, hof⟩ := (any_pickI _ _ _).mp ca
        obtain ⟨ho, hl⟩ := mem_offL.mp hof
        have km := mem_openP.mp ho
        have wr := leadP_iff.mp hl
        obtain ⟨xs, hlc, pk⟩ := PC6.ex
        have lx := pk.length
        refine ⟨_, rfl, _, rfl, _, rfl, small (by show 2 ≤ 1000; decide), fun tq htq => ?_⟩
        have s7 := same_new htq (.tup [.int (kn : Int), .bl b])
        have g7 : L2.upd H6 tq (.tup [.int (kn : Int), .bl b]) tq = some (.tup [.int (kn : Int), .bl b]) := upd_same
        generalize L2.upd H6 tq (.tup [.int (kn : Int), .bl b]) = H7 at s7 g7 ⊢
        refine ⟨small (by show 1 ≤ 1000; decide), fun lk hlk => ?_⟩
        have s8 := same_new hlk (.lst [.ref tq])
        have g8 : L2.upd H7 lk (.lst [.ref tq]) lk = some (.lst [.ref tq]) := upd_same
        have g8t := s8 _ _ g7
        generalize L2.upd H7 lk (.lst [.ref tq]) = H8 at s8 g8 g8t ⊢
        have s68 := s7.trans s8
        refine ⟨lc, lk, _, _, rfl, rfl, s68 _ _ hlc, g8, small (by rw [List.length_cons, List.length_nil]; omega), fun lf hlf => ?_⟩
        have s9' := same_new hlf (.lst (xs ++ [.ref tq]))
        have s9 := s68.trans s9'
        have g9 : L2.upd H8 lf (.lst (xs ++ [.ref tq])) lf = some (.lst (xs ++ [.ref tq])) := upd_same
        have pk9 := PickL.snoc (p := (kn, b)) (s9' _ _ g8t) (pk.same (Same.tup s9))
        have nfp : lf ≠ pl := fun z => by
          obtain ⟨zs, hz, _⟩ := (PA6.same s68).ex
          rw [z, hz] at hlf
          cases hlf
        generalize L2.upd H8 lf (.lst (xs ++ [.ref tq])) = H9 at s9 g9 pk9 s9' ⊢
        refine ⟨(KA6.same s9).tab _ tb0, fun p c' HA np sA hp hc' base' ci _ _ kb => ?_⟩
        have s6A := s9.trans sA
        have Cl := clo_of (base := base') (fr := ["_law_choice", "_law_k", "_law_value"]) (fv := [.ref c, .int (kn : Int), .bl b]) LF2 (by decide +kernel) (by decide +kernel) (fun i x v h1 h2 => by
        match i, h1, h2 with
        | 0, h1, h2 => cases h1; cases h2; exact ci 1 "_law_choice" (.ref c) rfl rfl rfl
        | 1, h1, h2 => cases h1; cases h2; exact ci 6 "_law_k" (.int (kn : Int)) rfl rfl rfl
        | 2, h1, h2 => cases h1; cases h2; exact ci 9 "_law_value" (.bl b) rfl rfl rfl
        | _ + 3, h1, _ => cases h1) injE rfl
        have L := lam_askG (P := P) (w := w) (K := K) (mg := mg) (base := base') (D := a.x_NoOffer) (fr := ["_law_choice", "_law_k", "_law_value"]) (fv := [.ref c, .int (kn : Int), .bl b]) (k := 23) (r := false) (fun H => H c = some (.ins a.x_Choice dx (chF wd pl)) ∧ PicksAt H pl ps ∧ WoodT H wd m ts) (fun H H' => TupS H H' ∧ ChS pl H H' ∧ H' c = some (.ins a.x_Choice dx (chF wd pl)) ∧ PicksAt H' pl (ps ++ [(kn, b)])) hp ⟨rfl, rfl, rfl, by decide +kernel, by decide +kernel, by decide +kernel, by decide +kernel⟩ Cl.hcl Cl.inj Cl.has Cl.hfv Cl.hlen (fun _ _ _ => rfl)
          (fun q A outer s H Q E hr C0 qt qf => ⟨_, pe_meth (pv 0) T.C_Choice T.g_Choice_choose (ok_Choice_choose (P := P) (w := w) (base := base') T) (hr.mono (by decide)) T.B_Choice_choose .nil pass0 (pa_cons (pv 1) (pa_cons (pv 2) pa_nil)), ⟨_, rfl, c, _, _, rfl, C0.1, rfl, _, rfl, _, rfl, c, dx, wd, pl, m, ts, ps, kn, b, rfl, C0.1, C0.2.1, C0.2.2, m9, m1, by omega, by omega, ho, (ok.snoc ho).stand m1, wr, fun H' t ch hc' P' => qf rfl _ _ ⟨t, ch, hc', P'⟩⟩⟩)
        have G := ok_law_heard (P := P) (w := w) (base := base') T HK L (.all fun us hl => match us, hl with | [], _ => rfl) lamP_fn (fun H h => h.2.1)
        refine ⟨_, G, rfl, ⟨⟨s6A _ _ hc6, PA6.same s6A, WT' _ (tupS_trans t4 (Same.tup (s46.trans s6A)))⟩, hp, hc'⟩, fun HB _ RB => ?_⟩
        obtain ⟨tR, chR, hcR, PR⟩ := RB rfl
        refine ⟨rfl, small (by show 2 ≤ 1000; decide), fun l hl => ?_⟩
        have sC := same_new hl (.lst [.ref lf, .bl (decide (V.str (heardC false true) = V.str ("none" : Str)))])
        have gC : L2.upd HB l (.lst [.ref lf, .bl (decide (V.str (heardC false true) = V.str ("none" : Str)))]) l = some (.lst [.ref lf, .bl true]) := upd_same
        generalize L2.upd HB l (.lst [.ref lf, .bl (decide (V.str (heardC false true) = V.str ("none" : Str)))]) = HC at sC gC ⊢
        have npp : pen ≠ pl := Ne.symm (picks_pen PA pn.at_)
        exact q l lf pl (ps ++ [(kn, b)]) (kd + 1 + 1) HC (((KA6.same s6A).ch chR (.inl (by simp))).same sC) (tupS_trans t4 (tupS_trans (Same.tup (s46.trans s6A)) (tupS_trans tR (Same.tup sC)))) (sC _ _ (chR.lst npp (s6A _ _ (s46 _ _ g4)))) (by omega) (by omega) gC (sC _ _ hcR) (PR.same sC) ⟨⟨_, sC _ _ (chR.lst nfp (sA _ _ g9)), pk9.same (tupS_trans (Same.tup sA) (tupS_trans tR (Same.tup sC)))⟩, PR.few, PR.le⟩ nfp (.inl rfl) (ok.snoc ho) wr
      · have hno : ∀ kn : Nat, kk = kn → kn ∈ openL m (yesOf ps) (noOf ps) → leadP ts m (yesOf (ps ++ [(kn, b)])) (noOf (ps ++ [(kn, b)])) = false := fun kn e h => by
          rw [Bool.eq_false_iff]
          intro z
          exact ca ((any_pickI _ _ _).mpr ⟨kn, e, mem_offL.mpr ⟨h, z⟩⟩)
        refine ⟨_, rfl, KA6.tab _ tb0, fun p c' HA np sA hp hc' base' ci _ _ kb => ?_⟩
        have Cl := clo_of (base := base') (fr := ["_law_choice", "_law_k", "_law_value"]) (fv := [.ref c, .int kk, .bl b]) LF2 (by decide +kernel) (by decide +kernel) (fun i x v h1 h2 => by
        match i, h1, h2 with
        | 0, h1, h2 => cases h1; cases h2; exact ci 1 "_law_choice" (.ref c) rfl rfl rfl
        | 1, h1, h2 => cases h1; cases h2; exact ci 6 "_law_k" (.int kk) rfl rfl rfl
        | 2, h1, h2 => cases h1; cases h2; exact ci 9 "_law_value" (.bl b) rfl rfl rfl
        | _ + 3, h1, _ => cases h1) injE rfl
        have L := lam_askG (P := P) (w := w) (K := K) (mg := mg) (base := base') (D := a.x_NoOffer) (fr := ["_law_choice", "_law_k", "_law_value"]) (fv := [.ref c, .int kk, .bl b]) (k := 23) (r := true) (fun H => H c = some (.ins a.x_Choice dx (chF wd pl)) ∧ PicksAt H pl ps ∧ WoodT H wd m ts) Same hp ⟨rfl, rfl, rfl, by decide +kernel, by decide +kernel, by decide +kernel, by decide +kernel⟩ Cl.hcl Cl.inj Cl.has Cl.hfv Cl.hlen (fun _ _ _ => rfl)
          (fun q A outer s H Q E hr C0 qt qf => ⟨_, pe_meth (pv 0) T.C_Choice T.g_Choice_choose (ok_Choice_chooseX (P := P) (w := w) (base := base') T) (hr.mono (by decide)) T.B_Choice_choose .nil passUpL (pa_cons (pv 1) (pa_cons (pv 2) pa_nil)), ⟨_, rfl, c, _, _, rfl, C0.1, rfl, _, rfl, _, rfl, c, dx, wd, pl, m, ts, ps, kk, b, rfl, C0.1, C0.2.1, C0.2.2, m9, m1, ok, hno, fun H' s' => qt rfl H' s'⟩⟩)
        have G := ok_law_heard (P := P) (w := w) (base := base') T HK L (.all fun us hl => match us, hl with | [], _ => rfl) lamP_fn (fun H h => h.2.1)
        refine ⟨_, G, rfl, ⟨⟨sA _ _ hc6, PA6.same sA, WT' _ (tupS_trans t4 (Same.tup (s46.trans sA)))⟩, hp, hc'⟩, fun HB SB _ => ?_⟩
        have sB := SB rfl
        refine ⟨rfl, small (by show 2 ≤ 1000; decide), fun l hl => ?_⟩
        have sC := same_new hl (.lst [.ref lc, .bl (decide (V.str (heardC true true) = V.str ("offer" : Str)))])
        have gC : L2.upd HB l (.lst [.ref lc, .bl (decide (V.str (heardC true true) = V.str ("offer" : Str)))]) l = some (.lst [.ref lc, .bl true]) := upd_same
        generalize L2.upd HB l (.lst [.ref lc, .bl (decide (V.str (heardC true true) = V.str ("offer" : Str)))]) = HC at sC gC ⊢
        have s6C := (sA.trans sB).trans sC
        exact q l lc pl ps (kd + 1 + 1) HC (KA6.same s6C) (tupS_trans t4 (Same.tup (s46.trans s6C))) (s6C _ _ (s46 _ _ g4)) (by omega) (by omega) gC (s6C _ _ hc6) (PA6.same s6C) (PC6.same s6C) nlc (.inl rfl) ok ware
  refine ⟨_, rfl, pen, sp, ns, 5, k, rfl, pn, k0, by omega, by decide, fun w1 w10 w11 => ?_⟩
  have x1 := sameX_pen (pen := pen) (H := H) (.lst [.ref sp, .int (k + 1)])
  have g1 : L2.upd H pen (.lst [.ref sp, .int (k + 1)]) pen = some (.lst [.ref sp, .int (k + 1)]) := upd_same
  generalize L2.upd H pen (.lst [.ref sp, .int (k + 1)]) = H1 at x1 g1 ⊢
  refine ⟨_, rfl, _, rfl, pen, sp, ns, (m : Int), k + 1, rfl, pn.to x1 g1, by omega, by omega, by omega, fun w2 w20 w21 => ?_⟩
  have x2 := x1.trans (sameX_pen (pen := pen) (H := H1) (.lst [.ref sp, .int (k + 1 + 1)]))
  have g2 : L2.upd H1 pen (.lst [.ref sp, .int (k + 1 + 1)]) pen = some (.lst [.ref sp, .int (k + 1 + 1)]) := upd_same
  generalize L2.upd H1 pen (.lst [.ref sp, .int (k + 1 + 1)]) = H2 at x2 g2 ⊢
  refine ⟨_, rfl, rfl, _, rfl, ?_⟩
  refine ite2 (fun c1 => ?_) (fun c1 => ?_)
  · refine ⟨1, rfl, _, rfl, _, _, rfl, rfl, ⟨by decide, by decide, by decide⟩, _, rfl, _, _, rfl, rfl, small (by show 5 ≤ 1000; decide), fun lk hlk => ?_⟩
    have s3 := same_new hlk (.lst [.int (-1), .int (m : Int), .int (10 ^ (50 : Int).toNat), .int 0, .int ((m : Int) + 1)])
    have g3 : L2.upd H2 lk (.lst [.int (-1), .int (m : Int), .int (10 ^ (50 : Int).toNat), .int 0, .int ((m : Int) + 1)]) lk = some (.lst [.int (-1), .int (m : Int), .int (10 ^ (50 : Int).toNat), .int 0, .int ((m : Int) + 1)]) := upd_same
    have g3p := s3 _ _ g2
    generalize L2.upd H2 lk (.lst [.int (-1), .int (m : Int), .int (10 ^ (50 : Int).toNat), .int 0, .int ((m : Int) + 1)]) = H3 at s3 g3 g3p ⊢
    have x3 := x2.trans (Same.x s3)
    refine ⟨_, rfl, pen, sp, ns, 5, k + 1 + 1, rfl, pn.to x3 g3p, by omega, by omega, by decide, fun w3 w30 w31 => ?_⟩
    have nk : lk ≠ pen := fun z => by rw [z, g2] at hlk; cases hlk
    have x4 := x3.trans (sameX_pen (pen := pen) (H := H3) (.lst [.ref sp, .int (k + 1 + 1 + 1)]))
    have g4 : L2.upd H3 pen (.lst [.ref sp, .int (k + 1 + 1 + 1)]) pen = some (.lst [.ref sp, .int (k + 1 + 1 + 1)]) := upd_same
    have g4k : L2.upd H3 pen (.lst [.ref sp, .int (k + 1 + 1 + 1)]) lk = some (.lst [.int (-1), .int (m : Int), .int (10 ^ (50 : Int).toNat), .int 0, .int ((m : Int) + 1)]) := by rw [upd_ne nk]; exact g3
    generalize L2.upd H3 pen (.lst [.ref sp, .int (k + 1 + 1 + 1)]) = H4 at x4 g4 g4k ⊢
    obtain ⟨kk, hat⟩ : ∃ kk : Int, atI [V.int (-1), .int (m : Int), .int (10 ^ (50 : Int).toNat), .int 0, .int ((m : Int) + 1)] w3 = some (.int kk) := by
      have e : w3 = 0 ∨ w3 = 1 ∨ w3 = 2 ∨ w3 = 3 ∨ w3 = 4 := by omega
      rcases e with e | e | e | e | e <;> rw [e] <;> exact ⟨_, rfl⟩
    refine ⟨lk, _, _, _, rfl, rfl, SqL.of g4k, hat, ?_⟩
    exact rest _ kk _ H4 x4 g4 (by omega) (by omega)
  · exact rest _ w2 _ H2 x2 g2 (by omega) (by omega)

end
section
variable {P : Program} {w : World} {K : PySem.W.Frag} {mg : Str → Option Value} {base : Heap} {a : Adr} {d : Fds}
theorem ok_Choice___init__ (T : Txt K mg a d) : FnOk P w K mg base CX0 19 a.f_Choice___init__ d.f_Choice___init__ ["self", "wood"] (spInit a.x_Choice) := by
  have G_first_ware_at := ok_first_ware_at (P := P) (w := w) (base := base) T
  refine T.K_Choice___init__.ok sc_Choice___init__ (fun vs H Q E h => ?_) (fun cdv A outer s H vs Q E hr h => ?_)
  · obtain ⟨c, dx, wd, m, ts, rfl, _⟩ := h
    rfl
  obtain ⟨c, dx, wd, m, ts, rfl, hc, W, m9, m1, ⟨sw, sm, sW⟩, q⟩ := h
  refine ⟨_, (pss_cons (ps_if (pt_cmpR op_isN (pe_call G_first_ware_at (hr.mono (by first | decide | omega)) rfl T.g_first_ware_at T.K_first_ware_at.kp T.B_first_ware_at .nil pass0 (pa_cons (pv 1) (pa_cons (pe_lst pa_nil) pa_nil))) pe_non (nomark _)) (pss_one ps_never) pss_nil)
      (pss_cons (ps_fld (pv 0) (pv 1) rfl)
      (pss_one (ps_fld (pv 0) (pe_lst pa_nil) rfl)))), ?_⟩
  refine ⟨_, rfl, small (by show 0 ≤ 1000; decide), fun l1 hl1 => ?_⟩
  have s1 := same_new hl1 (.lst [])
  have h1 : L2.upd H l1 (.lst []) l1 = some (.lst []) := upd_same
  generalize L2.upd H l1 (.lst []) = H1 at s1 h1 ⊢
  refine ⟨wd, l1, m, ts, [], rfl, W.same s1, m9, m1, ⟨⟨[], h1, rfl⟩, by decide, (fun _ z => nomatch z)⟩, stand10 m1, fun H2 o s2 ho => ?_⟩
  obtain ⟨s0, rfl⟩ := first_some ho ⟨sw, sm, inS10 sW, sW⟩
  refine ⟨rfl, _, rfl, ?_⟩
  refine iteDN (fun z => nomatch z) ?_
  have s12 := s1.trans s2
  have hc2 : H2 c = some (.ins a.x_Choice dx []) := s12 _ _ hc
  refine ⟨_, rfl, _, rfl, c, _, _, _, rfl, hc2, T.C_Choice, T.n_Choice_wood, by decide, ?_⟩
  have t3 := tupS_put (o' := .ins a.x_Choice dx [(("wood" : Str), .ref wd)]) hc2 (fun _ z => nomatch z)
  have hc3 : L2.upd H2 c (.ins a.x_Choice dx [(("wood" : Str), .ref wd)]) c = some (.ins a.x_Choice dx [(("wood" : Str), .ref wd)]) := upd_same
  refine ⟨small (by show 0 ≤ 1000; decide), fun l2 hl2 => ?_⟩
  have hl2' : L2.upd H2 c (.ins a.x_Choice dx [(("wood" : Str), .ref wd)]) l2 = none := hl2
  have s4 := same_new hl2' (.lst [])
  have h4 : L2.upd (L2.upd H2 c (.ins a.x_Choice dx [(("wood" : Str), .ref wd)])) l2 (.lst []) l2 = some (.lst []) := upd_same
  have hc4 : L2.upd (L2.upd H2 c (.ins a.x_Choice dx [(("wood" : Str), .ref wd)])) l2 (.lst []) c = some (.ins a.x_Choice dx [(("wood" : Str), .ref wd)]) := s4 _ _ hc3
  have nlc : l2 ≠ c := fun z => by rw [z, hc3] at hl2'; cases hl2'
  refine ⟨_, rfl, c, _, _, _, rfl, hc4, T.C_Choice, T.n_Choice_picks, (by show 1 < 1000; decide), ?_⟩
  refine q l2 _ (tupS_trans (tupS_trans (tupS_trans (Same.tup s12) t3) (Same.tup s4)) (tupS_put hc4 (fun _ z => nomatch z))) (lstS_trans (lstS_trans (lstS_trans (lstS_of s12) (lstS_put (o' := .ins a.x_Choice dx [(("wood" : Str), .ref wd)]) hc2 (fun _ z => nomatch z))) (lstS_of s4)) (lstS_put hc4 (fun _ z => nomatch z))) (chS_trans (chS_trans (chS_trans (chS_of s12) (chS_put hc2)) (chS_of s4)) (chS_put hc4)) (s12.free (by rw [upd_ne nlc] at hl2'; exact hl2')) upd_same ⟨⟨[], ?_, rfl⟩, by decide, (fun _ z => nomatch z)⟩
  rw [upd_ne nlc]
  exact h4

end
section
variable {P : Program} {w : World} {K : PySem.W.Frag} {mg : Str → Option Value} {base : Heap} {a : Adr} {d : Fds}
theorem ok_law (T : Txt K mg a d) (LB : LamB mg base a.c_law_done a.t_law_done) : FnOk P w K mg base CX0 29 a.f_law d.f_law ["_law_script"] (spT a.t_law_done (spLaw K)) := by
  have G_law_wood := ok_law_wood (P := P) (w := w) (base := base) T
  have G_law_broken := ok_law_broken (P := P) (w := w) (base := base) T
  have G_law_sets := ok_law_sets (P := P) (w := w) (base := base) T
  have G_law_take := ok_law_take (P := P) (w := w) (base := base) T
  have G_law_done := ok_law_done (P := P) (w := w) (base := base) T LB
  have G_law_right := ok_law_right (P := P) (w := w) (base := base) T
  have G_Choice___init__ := ok_Choice___init__ (P := P) (w := w) (base := base) T
  refine T.K_law.ok sc_law (fun vs H Q E h => ?_) (fun cdv A outer s H vs Q E hr h => ?_)
  · obtain ⟨_, p, ns, rfl, _⟩ := h
    rfl
  obtain ⟨ta, sp, ns, rfl, hS, hl, q⟩ := h
  have p62 : (2 : Int) ^ 62 = 4611686018427387904 := by decide
  obtain ⟨ct3, ch3, cu3⟩ := cutS (X := (cxOf CX0 P w K mg base ["_law_script", "_law_state", "_law_wood_here", "_law_broken_here", "_law_choice", "_law_beside", "_law_chosen", "_law_turn", "_law_told"] "law" (defScope s_law) a.f_law cdv A outer s H E).nox) (st := (defBody s_law).drop 3) (pss_cons (ps_set (i := 3) sc_law.nd rfl (Or.inl rfl) (pe_call G_law_broken (hr.mono (by first | decide | omega)) rfl T.g_law_broken T.K_law_broken.kp T.B_law_broken .nil pass0 (pa_cons (pv 2) pa_nil)))
      (pss_cons (ps_set (i := 4) sc_law.nd rfl (Or.inl rfl) (pe_make T.g_Choice___init__ G_Choice___init__ (hr.mono (by first | decide | omega)) rfl T.g_Choice T.B_Choice___init__ .nil pass0 (pa_cons (pv 2) pa_nil)))
      (pss_cons (ps_set (i := 5) sc_law.nd rfl (Or.inl rfl) (pe_make T.g_Choice___init__ G_Choice___init__ (hr.mono (by first | decide | omega)) rfl T.g_Choice T.B_Choice___init__ .nil pass0 (pa_cons (pv 2) pa_nil)))
      (pss_cons (ps_set (i := 6) sc_law.nd rfl (Or.inl rfl) (pe_lst pa_nil))
      (pss_cons (ps_for PassesOwn.never rfl (pi_range1 rfl T.m_range (pa_cons (pe_op op_add pe_int (pe_call G_law_take (hr.mono (by first | decide | omega)) rfl T.g_law_take T.K_law_take.kp T.B_law_take .nil pass0 (pa_cons (pv 1) (pa_cons pe_int pa_nil)))) pa_nil)) (pg_name (i := 7) sc_law.nd rfl (Or.inl rfl)) (pss_cons (ps_asg (pe_call G_law_done (hr.mono (by first | decide | omega)) rfl T.g_law_done T.K_law_done.kp T.B_law_done .nil pass0 (pa_cons (pv 1) (pa_cons (pv 4) (pa_cons (pv 3) (pa_cons (pe_ix (ixT (K := K)) (pv 2) pe_int (fun _ _ => rfl)) (pa_cons (pv 6) pa_nil)))))) (pg_lst (K := K) (n := 2) rfl (pgs_cons (pg_name (i := 6) sc_law.nd rfl (Or.inl rfl)) (pgs_cons (pg_name (i := 8) sc_law.nd rfl (Or.inl rfl)) pgs_nil))))
      (pss_one (ps_if (PW.pt (pw_or (pt_not (pt_val (pv 8))) (pw_or1 (pt_not (pt_val (pe_call G_law_right (hr.mono (by first | decide | omega)) rfl T.g_law_right T.K_law_right.kp T.B_law_right .nil pass0 (pa_cons (pv 4) (pa_cons (pv 3) (pa_cons (pe_ix (ixT (K := K)) (pv 2) pe_int (fun _ _ => rfl)) (pa_cons (pv 6) pa_nil)))))))))) (pss_one (ps_ret pe_bl)) pss_nil))))
      (pss_one (ps_ret (pe_call G_law_right (hr.mono (by first | decide | omega)) rfl T.g_law_right T.K_law_right.kp T.B_law_right .nil pass0 (pa_cons (pv 5) (pa_cons (pv 3) (pa_cons (pe_ix (ixT (K := K)) (pv 2) pe_int (fun _ _ => rfl)) (pa_cons (pe_lst pa_nil) pa_nil))))))))))))
  refine ⟨_, (pss_cons (ps_set (i := 1) sc_law.nd rfl (Or.inl rfl) (pe_lst (pa_cons (pv 0) (pa_cons pe_int pa_nil))))
      (pss_cons (ps_set (i := 2) sc_law.nd rfl (Or.inl rfl) (pe_call G_law_wood (hr.mono (by first | decide | omega)) rfl T.g_law_wood T.K_law_wood.kp T.B_law_wood .nil pass0 (pa_cons (pv 1) (pa_cons pe_int pa_nil))))
      (pss_cons (ps_if (pt_cmpR (op_eq_ints hr.units) (pe_call G_law_sets (hr.mono (by first | decide | omega)) rfl T.g_law_sets T.K_law_sets.kp T.B_law_sets .nil pass0 (pa_cons (pe_call G_law_broken (hr.mono (by first | decide | omega)) rfl T.g_law_broken T.K_law_broken.kp T.B_law_broken .nil pass0 (pa_cons (pv 2) pa_nil)) (pa_cons (pe_un un_neg pe_int) (pa_cons (pe_lst pa_nil) pa_nil)))) (pe_lst pa_nil) (nomark _)) (pss_one (ps_set (i := 2) sc_law.nd rfl (Or.inl rfl) (pe_tup (pa_cons (pe_ix (ixT (K := K)) (pv 2) pe_int (fun _ _ => rfl)) (pa_cons (pe_ix (ixT (K := K)) (pv 2) pe_int (fun _ _ => rfl)) (pa_cons (pe_tup pa_nil) pa_nil)))))) pss_nil)
      ch3))), ?_⟩
  refine ⟨_, rfl, small (by show 2 ≤ 1000; decide), fun pen hpen => ?_⟩
  have pn := pen_new hS hl hpen
  have s1 := same_new hpen (.lst [.ref sp, .int 0])
  generalize L2.upd H pen (.lst [.ref sp, .int 0]) = H1 at pn s1 ⊢
  have rest : ∀ (wd : Addr) (m : Nat) (ts : List Tie) (k : Int) (H2 : Hp), KeepA [] H H2 → H2 pen = some (.lst [.ref sp, .int k]) → 0 ≤ k → k ≤ 500 → 1 ≤ m → m ≤ 9 → (∃ s, s < 2 ^ m ∧ wareB ts s = true) → ts.length ≤ 29 → (∀ H', TupS H2 H' → WoodT H' wd m ts) → ct3 { nx := fun _ H' => Q .non H', rt := Q } [some (.ref sp), some (.ref pen), some (.ref wd), none, none, none, none, none, none] H2 := by
    intro wd m ts k H2 KA2 hpen2 k0 k5 m1 m9 ware tsl WT'
    refine cu3 _ _ _ ?_
    have pw : 2 ^ m ≤ 512 := pow_le m9
    have pm := pow_pos2 m
    have W := WT' H2 (tupS_refl H2)
    obtain ⟨wa0, wm0, wW0⟩ := ware
    refine ⟨_, rfl, wd, m, ts, rfl, W, m9, by omega, fun lb H3 s3 nlb hlb' => ?_⟩
    have hlb : H3 lb = some (.lst (natsL (brN m ts))) := hlb'
    refine ⟨_, rfl, fun x dx hx hdx nd => ?_⟩
    have t1 := same_new hdx (.own x)
    have t2 := t1.trans (same_new (show L2.upd H3 dx (.own x) x = none by rw [upd_ne (Ne.symm nd)]; exact hx) (.ins a.x_Choice dx []))
    have t2x : L2.upd (L2.upd H3 dx (.own x)) x (.ins a.x_Choice dx []) x = some (.ins a.x_Choice dx []) := upd_same
    generalize L2.upd (L2.upd H3 dx (.own x)) x (.ins a.x_Choice dx []) = H3' at t2 t2x ⊢
    refine ⟨x, dx, wd, m, ts, rfl, t2x, (WT' H3 (Same.tup s3)).same t2, m9, m1, ⟨wa0, wm0, wW0⟩, fun pl0 H4 t4 l4 c4 n4 hc4 PA4 => ⟨rfl, ?_⟩⟩
    have t34 : TupS H3 H4 := tupS_trans (Same.tup t2) t4
    have W4 := WT' H4 (tupS_trans (Same.tup s3) t34)
    have KA4 := ((KA2.same s3).same t2).ch c4 (.inr (KA2.dom _ (s3.free hx)))
    have hlb4 : H4 lb = some (.lst (natsL (brN m ts))) := l4 _ _ (t2 _ _ hlb)
    have hpen4 : H4 pen = some (.lst [.ref sp, .int k]) := l4 _ _ (t2 _ _ (s3 _ _ hpen2))
    refine ⟨_, rfl, fun y dy hy hdy ndy => ?_⟩
    have u1 := same_new hdy (.own y)
    have u2 := u1.trans (same_new (show L2.upd H4 dy (.own y) y = none by rw [upd_ne (Ne.symm ndy)]; exact hy) (.ins a.x_Choice dy []))
    have u2x : L2.upd (L2.upd H4 dy (.own y)) y (.ins a.x_Choice dy []) y = some (.ins a.x_Choice dy []) := upd_same
    generalize L2.upd (L2.upd H4 dy (.own y)) y (.ins a.x_Choice dy []) = H4' at u2 u2x ⊢
    refine ⟨y, dy, wd, m, ts, rfl, u2x, W4.same u2, m9, m1, ⟨wa0, wm0, wW0⟩, fun pl1 H5 t5 l5 c5 n5 hc5 PA5 => ⟨rfl, ?_⟩⟩
    have t45 : TupS H4 H5 := tupS_trans (Same.tup u2) t5
    have W5 := WT' H5 (tupS_trans (tupS_trans (Same.tup s3) t34) t45)
    have KA5 := ((KA4).same u2).ch c5 (.inr (KA4.dom _ hy))
    have hlb5 : H5 lb = some (.lst (natsL (brN m ts))) := l5 _ _ (u2 _ _ hlb4)
    have hpen5 : H5 pen = some (.lst [.ref sp, .int k]) := l5 _ _ (u2 _ _ hpen4)
    have nxy : x ≠ y := fun z => by rw [← z, hc4] at hy; cases hy
    have hcx5 : H5 x = some (.ins a.x_Choice dx (chF wd pl0)) := c5.ins nxy (u2 _ _ hc4)
    have PAx5 : PicksAt H5 pl0 [] := (PA4.same u2).ch (picks_ins (PA4.same u2) u2x) t5 c5
    refine ⟨small (by show 0 ≤ 1000; decide), fun lc0 hlc0 => ?_⟩
    have s6 := same_new hlc0 (.lst [])
    have g6 : L2.upd H5 lc0 (.lst []) lc0 = some (.lst []) := upd_same
    generalize L2.upd H5 lc0 (.lst []) = H6 at s6 g6 ⊢
    have KA6 := KA5.same s6
    have hpen6 : H6 pen = some (.lst [.ref sp, .int k]) := s6 _ _ hpen5
    refine ⟨_, rfl, pen, sp, ns, 16, k, rfl, pen_base hS hl KA6 hpen hpen6, by omega, by omega, by decide, fun w1 w10 w11 => ?_⟩
    have x7 := sameX_pen (pen := pen) (H := H6) (.lst [.ref sp, .int (k + 1)])
    have g7 : L2.upd H6 pen (.lst [.ref sp, .int (k + 1)]) pen = some (.lst [.ref sp, .int (k + 1)]) := upd_same
    generalize L2.upd H6 pen (.lst [.ref sp, .int (k + 1)]) = H7 at x7 g7 ⊢
    have KA7 := KA6.pen x7 (.inr hpen) hpen6 g7
    have t57 := tupS_trans (Same.tup s6) (SameX.tup hpen6 x7)
    have t27 := tupS_trans (tupS_trans (tupS_trans (Same.tup s3) t34) t45) t57
    have npx : x ≠ pen := fun z => by rw [z, hpen5] at hcx5; cases hcx5
    have npy : y ≠ pen := fun z => by rw [z, hpen5] at hc5; cases hc5
    have hcx7 : H7 x = some (.ins a.x_Choice dx (chF wd pl0)) := x7 _ _ npx (s6 _ _ hcx5)
    have hcy7 : H7 y = some (.ins a.x_Choice dy (chF wd pl1)) := x7 _ _ npy (s6 _ _ hc5)
    have PAx7 := (PAx5.same s6).x hpen6 (picks_pen (PAx5.same s6) hpen6) x7
    have PAy7 := (PA5.same s6).x hpen6 (picks_pen (PA5.same s6) hpen6) x7
    have hlbne : lb ≠ pen := fun z => by
      have e : (some (HO.lst [.ref sp, .int k]) : Option HO) = some (.lst (natsL (brN m ts))) := by rw [← hpen5, ← z]; exact hlb5
      injection e with e
      injection e with e
      cases e2 : brN m ts with
      | nil => rw [e2] at e; cases e
      | cons c r => rw [e2] at e; cases e
    have hlb7 : H7 lb = some (.lst (natsL (brN m ts))) := x7 _ _ hlbne (s6 _ _ hlb5)
    have PC7 : PicksAt H7 lc0 [] := (show PicksAt H6 lc0 [] from ⟨⟨[], g6, rfl⟩, by decide, fun _ z => nomatch z⟩).x hpen6 (fun z => by rw [z, hpen6] at g6; cases g6) x7
    have lbne : natsL (brN m ts) ≠ [] := fun z => by
      have : (natsL (brN m ts)).length = 0 := by rw [z]; rfl
      rw [List.length_map, brN_len] at this
      omega
    have nlb0 : ∀ p, PicksAt H7 p [] → lb ≠ p := fun p h z => by
      obtain ⟨xs, h1, h2⟩ := h.ex
      cases (show xs = [] from h2)
      rw [← z, hlb7] at h1
      injection h1 with h1
      injection h1 with h1
      exact lbne h1
    have npl : pl0 ≠ pl1 := fun z => by
      obtain ⟨xs, h1, _⟩ := (PA4.same u2).ex
      rw [← z, h1] at n5
      cases n5
    have nlc : lc0 ≠ pl0 := fun z => by
      obtain ⟨xs, h1, _⟩ := PAx5.ex
      rw [z, h1] at hlc0
      cases hlc0
    have hn : (1 + w1) = ((w1.toNat + 1 : Nat) : Int) := by omega
    refine ⟨_, _, rfl, rfl, _, rfl, by rw [p62]; omega, by rw [p62]; omega, ?_⟩
    rw [show (1 + w1).toNat = w1.toNat + 1 by omega]
    refine for_range0 (n := w1.toNat + 1) (fun i σ H8 => ∃ (pl lc : Addr) (ps : List (Nat × Bool)) (k8 : Int) (v7 v8 : Option V), σ = [some (.ref sp), some (.ref pen), some (.ref wd), some (.ref lb), some (.ref x), some (.ref y), some (.ref lc), v7, v8] ∧ KeepA [] H H8 ∧ KeepA [pen, x, pl0] H7 H8 ∧ TupS H7 H8 ∧ H8 pen = some (.lst [.ref sp, .int k8]) ∧ 0 ≤ k8 ∧ k8 ≤ 501 + 10 * i ∧ H8 x = some (.ins a.x_Choice dx (chF wd pl)) ∧ PicksAt H8 pl ps ∧ PicksAt H8 lc ps ∧ lc ≠ pl ∧ (pl = pl0 ∨ H7 pl = none) ∧ H pl = none ∧ PickOk m ps ∧ (∃ s, s < 2 ^ m ∧ InS (yesOf ps) (noOf ps) s ∧ wareB ts s = true)) ⟨pl0, lc0, [], k + 1, none, none, rfl, KA7, KeepA.refl _ _, tupS_refl _, g7, by omega, by omega, hcx7, PAx7, PC7, nlc, .inl rfl, KA2.dom _ (s3.free (t2.free n4)), PickOk.nil m, ⟨wa0, wm0, inS10 wW0, wW0⟩⟩ ?_ ?_
    · rintro i σ H8 hi ⟨pl, lc, ps, k8, v7, v8, rfl, KA8, KB8, t8, hp8, k80, k81, hc8, PA8, PC8, nlp, plc, pln, ok, wr⟩
      have lbX : lb ∉ [pen, x, pl0] := not_mem3 hlbne (fun z => by rw [z, hcx7] at hlb7; cases hlb7) (nlb0 pl0 PAx7)
      have nlbpl : lb ≠ pl := fun z => by
        rcases plc with y | y
        · exact nlb0 pl0 PAx7 (z.trans y)
        · rw [← z, hlb7] at y; cases y
      have hlb8 := KB8.lst lbX hlb7
      obtain ⟨xs0, ys0, ⟨tb, tc, hw, hb, hc⟩, dn⟩ := (WT' H8 (tupS_trans t27 t8)).ex
      refine ⟨_, rfl, _, rfl, _, rfl, _, rfl, wd, _, _, _, rfl, rfl, sqT hw, at0, _, rfl, pen, sp, ns, k8, x, dx, wd, pl, lb, lc, m, ts, ps, rfl, KA8.tab _ ta, pen_base hS hl KA8 hpen hp8, k80, by omega, hc8, PA8, PC8, nlp, nlbpl, ok, fun H' t => WT' H' (tupS_trans (tupS_trans t27 t8) t), hlb8, hlbne, m1, m9, wr, fun l lc' pl' ps' k9 H9 KA9 t9 hp9 k90 k91 hl9 hc9 PA9 PC9 nlp9 plc9 ok9 wr9 => ?_⟩
      refine ⟨l, _, rfl, SqL.of hl9, rfl, _, _, rfl, _, _, rfl, rfl, ?_⟩
      refine ⟨_, rfl, _, rfl, ?_⟩
      refine iteF ?_
      have xn : H x = none := KA2.dom _ (s3.free hx)
      have KAA := KA8.comp KA9 (mem3 (.inr hpen) (.inr xn) (.inr pln))
      have KBA := KB8.comp KA9 (mem3 (.inl (by simp)) (.inl (by simp)) (plc.imp (fun z => by rw [z]; simp) id))
      have tA := tupS_trans t8 t9
      obtain ⟨xs1, ys1, ⟨tb1, tc1, hw1, hb1, hc1⟩, dn1⟩ := (WT' H9 (tupS_trans t27 tA)).ex
      refine ⟨_, rfl, _, rfl, _, rfl, wd, _, _, _, rfl, rfl, sqT hw1, at0, _, rfl, x, dx, wd, pl', lb, lc', m, ts, ps', rfl, hc9, PA9, PC9, ok9, WT' H9 (tupS_trans t27 tA), KBA.lst lbX hlb7, m1, m9, wr9, fun HB sB => ?_⟩
      refine ⟨_, rfl, ?_⟩
      refine iteF ?_
      refine ⟨pl', lc', ps', k9, _, _, rfl, KAA.same sB, KBA.same sB, tupS_trans tA (Same.tup sB), sB _ _ hp9, by omega, by omega, sB _ _ hc9, PA9.same sB, PC9.same sB, nlp9, ?_, ?_, ok9, wr9⟩
      · rcases plc9 with z | z
        · rw [z]; exact plc
        · exact .inr (KB8.dom _ z)
      · rcases plc9 with z | z
        · rw [z]; exact pln
        · exact KA8.dom _ z
    · rintro σ H8 ⟨pl, lc, ps, k8, v7, v8, rfl, KA8, KB8, t8, hp8, k80, k81, hc8, PA8, PC8, nlp, plc, pln, ok, wr⟩
      have lbX : lb ∉ [pen, x, pl0] := not_mem3 hlbne (fun z => by rw [z, hcx7] at hlb7; cases hlb7) (nlb0 pl0 PAx7)
      have yX : y ∉ [pen, x, pl0] := not_mem3 npy (Ne.symm nxy) (Ne.symm (picks_ins PAx7 hcy7))
      have plX : pl1 ∉ [pen, x, pl0] := not_mem3 (picks_pen PAy7 g7) (picks_ins PAy7 hcx7) (Ne.symm npl)
      have hy8 : H8 y = some (.ins a.x_Choice dy (chF wd pl1)) := KB8.keep _ _ yX (fun _ z => nomatch z) hcy7
      have Py8 := PAy7.keep plX t8 KB8
      obtain ⟨xs1, ys1, ⟨tb1, tc1, hw1, hb1, hc1⟩, dn1⟩ := (WT' H8 (tupS_trans t27 t8)).ex
      refine ⟨_, rfl, _, rfl, _, rfl, wd, _, _, _, rfl, rfl, sqT hw1, at0, small (by show 0 ≤ 1000; decide), fun le hle => ?_⟩
      have s9 := same_new hle (.lst [])
      have g9 : L2.upd H8 le (.lst []) le = some (.lst []) := upd_same
      generalize L2.upd H8 le (.lst []) = H9 at s9 g9 ⊢
      exact ⟨y, dy, wd, pl1, lb, le, m, ts, [], rfl, s9 _ _ hy8, Py8.same s9, ⟨⟨[], g9, rfl⟩, by decide, fun _ z => nomatch z⟩, PickOk.nil m, (WT' H8 (tupS_trans t27 t8)).same s9, s9 _ _ (KB8.lst lbX hlb7), m1, m9, ⟨wa0, wm0, inS10 wW0, wW0⟩, fun HB _ => q HB⟩
  refine ⟨_, rfl, pen, sp, ns, 6, 0, rfl, pn, by decide, by decide, by decide, by decide, fun wd m bs cs k2 H2 x2 hp2 k20 k21 m1 m9 W2 lc2 => ?_⟩
  have KA2 := ((KeepA.refl [] H).same s1).pen x2 (.inr hpen) pn.at_ hp2
  obtain ⟨ts, ets, okt, tsl, WT'⟩ := W2.ties
  have W := WT' H2 (tupS_refl H2)
  obtain ⟨xs0, ys0, ⟨tb, tc, hw, hb, hc⟩, dn⟩ := W.ex
  refine ⟨_, rfl, wd, m, ts, rfl, W, m9, by omega, fun lb H3 s3 nlb hlb => ?_⟩
  refine ⟨1, rfl, small (by show 0 ≤ 1000; decide), fun le hle => ?_⟩
  have s4 := s3.trans (same_new hle (.lst []))
  have g4 : L2.upd H3 le (.lst []) le = some (.lst []) := upd_same
  have g4b := (same_new hle (.lst [])) _ _ hlb
  generalize L2.upd H3 le (.lst []) = H4 at s4 g4 g4b ⊢
  have pw : 2 ^ m ≤ 512 := pow_le m9
  refine ⟨lb, le, brN m ts, -1, [], rfl, g4b, by rw [brN_len]; exact pw, ⟨⟨[], g4, rfl⟩, by decide, (fun _ z => nomatch z)⟩, fun ls H5 s5 nls hls => ?_⟩
  rw [sets_ware] at hls
  refine ⟨small (by show 0 ≤ 1000; decide), fun le2 hle2 => ?_⟩
  have s6 := (s4.trans s5).trans (same_new hle2 (.lst []))
  have g6 : L2.upd H5 le2 (.lst []) le2 = some (.lst []) := upd_same
  have g6b := (same_new hle2 (.lst [])) _ _ hls
  generalize L2.upd H5 le2 (.lst []) = H6 at s6 g6 g6b ⊢
  refine ⟨ls, le2, (wareL m ts).map (fun k : Nat => (k : Int)), [], rfl, rfl, SqL.of (by rw [natsV]; exact g6b), SqL.of g6, _, rfl, ?_⟩
  have KA6 := KA2.same s6
  by_cases e : wareL m ts = []
  · refine iteD (by rw [e]; rfl) ?_
    refine ⟨_, rfl, wd, _, _, _, rfl, rfl, sqT (s6 _ _ hw), at0, _, rfl, wd, _, _, _, rfl, rfl, sqT (s6 _ _ hw), at1, ?_⟩
    refine ⟨small (by show 0 ≤ 1000; decide), fun te hte => ?_⟩
    have s7 := s6.trans (same_new hte (.tup []))
    have g7 : L2.upd H6 te (.tup []) te = some (.tup []) := upd_same
    generalize L2.upd H6 te (.tup []) = H7 at s7 g7 ⊢
    refine ⟨small (by show 3 ≤ 1000; decide), fun wd' hwd' => ?_⟩
    have s8' := same_new hwd' (.tup [.int (m : Int), .ref tb, .ref te])
    have s8 := s7.trans s8'
    have g8 : L2.upd H7 wd' (.tup [.int (m : Int), .ref tb, .ref te]) wd' = some (.tup [.int (m : Int), .ref tb, .ref te]) := upd_same
    have g8b := s8' _ _ g7
    generalize L2.upd H7 wd' (.tup [.int (m : Int), .ref tb, .ref te]) = H8 at s8 g8 g8b ⊢
    obtain ⟨ts', ware, _, tsl', WT''⟩ := (W2.cut hw (Same.tup s8) g8 g8b).bare
    exact rest wd' m ts' k2 H8 (KA2.same s8) (s8 _ _ hp2) (by omega) (by omega) m1 m9 ware tsl' WT''
  · refine iteDN (fun z => e (by simpa using z)) ?_
    obtain ⟨wa, hwa⟩ := List.exists_mem_of_ne_nil _ e
    exact rest wd m ts k2 H6 KA6 (s6 _ _ hp2) (by omega) (by omega) m1 m9 ⟨wa, mem_wareL.mp hwa⟩ tsl fun H' t => WT' H' (tupS_trans (Same.tup s6) t)

end

-- FOOT
@[elab_as_elim] theorem len1 {α : Type} {R : List α → Prop} : ∀ us : List α, us.length = 1 → (∀ x0, R [x0]) → R us | [x0], _, h => h x0
@[elab_as_elim] theorem len2 {α : Type} {R : List α → Prop} : ∀ us : List α, us.length = 2 → (∀ x0 x1, R [x0, x1]) → R us | [x0, x1], _, h => h x0 x1
@[elab_as_elim] theorem len3 {α : Type} {R : List α → Prop} : ∀ us : List α, us.length = 3 → (∀ x0 x1 x2, R [x0, x1, x2]) → R us | [x0, x1, x2], _, h => h x0 x1 x2
@[elab_as_elim] theorem len4 {α : Type} {R : List α → Prop} : ∀ us : List α, us.length = 4 → (∀ x0 x1 x2 x3, R [x0, x1, x2, x3]) → R us | [x0, x1, x2, x3], _, h => h x0 x1 x2 x3
@[elab_as_elim] theorem len5 {α : Type} {R : List α → Prop} : ∀ us : List α, us.length = 5 → (∀ x0 x1 x2 x3 x4, R [x0, x1, x2, x3, x4]) → R us | [x0, x1, x2, x3, x4], _, h => h x0 x1 x2 x3 x4
theorem all_mk {l : PySem.W.OpenLaw} {w : World} {K : PySem.W.Frag} {h : Heap} {mg : Str → Option Value} {fa f1 f2 f3 f4 f5 f6 f7 f8 f9 f10 f11 f12 f13 f14 f15 f16 f17 f18 f19 f20 f21 f22 f23 f24 f25 f26 f27 f28 f29 f30 f31 f32 f33 f34 f35 f36 f37 cc29 tt29 y_WoodError y_NoWood y_NoCount y_NoWares y_NoOffer y_Unlike y_NoText y_NoRow y_NoName y_Choice : Addr} (X : K.In h) (G : h.Ns mainGlobals mg) (hfa : mg "law" = some (.ref fa))
    {od1 an1 od2 an2 od3 an3 od4 an4 od5 an5 od6 an6 od7 an7 od8 an8 od9 an9 od10 an10 od11 an11 od12 an12 od13 an13 od14 an14 od15 an15 od16 an16 od17 an17 od18 an18 od19 an19 od20 an20 od21 an21 od22 an22 od23 an23 od24 an24 od25 an25 od26 an26 od27 an27 od28 an28 od29 an29 od30 an30 od31 an31 od32 an32 od33 an33 od34 an34 od35 an35 od36 an36 od37 an37 : Option Addr} {sl1 sl2 sl3 sl4 sl5 sl6 sl7 sl8 sl9 sl10 sl11 sl12 sl13 sl14 sl15 sl16 sl17 sl18 sl19 sl20 sl21 sl22 sl23 sl24 sl25 sl26 sl27 sl28 sl29 sl30 sl31 sl32 sl33 sl34 sl35 sl36 sl37 : Array (Option Value)} {kV1 dc1 pm1 ct1 oc1 cd1 kV2 dc2 pm2 ct2 oc2 cd2 kV3 dc3 pm3 ct3 oc3 cd3 kV4 dc4 pm4 ct4 oc4 cd4 kV5 dc5 pm5 ct5 oc5 cd5 kV6 dc6 pm6 ct6 oc6 cd6 kV7 dc7 pm7 ct7 oc7 cd7 kV8 dc8 pm8 ct8 oc8 cd8 kV9 dc9 pm9 ct9 oc9 cd9 kV10 dc10 pm10 ct10 oc10 cd10 kV11 dc11 pm11 ct11 oc11 cd11 kV12 dc12 pm12 ct12 oc12 cd12 kV13 dc13 pm13 ct13 oc13 cd13 kV14 dc14 pm14 ct14 oc14 cd14 kV15 dc15 pm15 ct15 oc15 cd15 kV16 dc16 pm16 ct16 oc16 cd16 kV17 dc17 pm17 ct17 oc17 cd17 kV18 dc18 pm18 ct18 oc18 cd18 kV19 dc19 pm19 ct19 oc19 cd19 kV20 dc20 pm20 ct20 oc20 cd20 kV21 dc21 pm21 ct21 oc21 cd21 kV22 dc22 pm22 ct22 oc22 cd22 kV23 dc23 pm23 ct23 oc23 cd23 kV24 dc24 pm24 ct24 oc24 cd24 kV25 dc25 pm25 ct25 oc25 cd25 kV26 dc26 pm26 ct26 oc26 cd26 kV27 dc27 pm27 ct27 oc27 cd27 kV28 dc28 pm28 ct28 oc28 cd28 kV29 dc29 pm29 ct29 oc29 kV30 dc30 pm30 ct30 oc30 cd30 kV31 dc31 pm31 ct31 oc31 cd31 kV32 dc32 pm32 ct32 oc32 cd32 kV33 dc33 pm33 ct33 oc33 cd33 kV34 dc34 pm34 ct34 oc34 cd34 kV35 dc35 pm35 ct35 oc35 cd35 kV36 dc36 pm36 ct36 oc36 cd36 kV37 dc37 pm37 ct37 oc37 cd37 : Value}
    {coc29 : Value} {cod29 : Option Addr} {cvs29 : Array Value} {csl29 : Array (Option Value)}
    (a1 : PySem.W.nsIn K mainGlobals "has" = some (some (.ref f1))) (l1 : K.lookup f1 = some ⟨oc1, od1, .func (PySem.W.fnOf "has" "has" (defArgs s_has) (defBody s_has) (defScope s_has) .none kV1 dc1 pm1 an1 cd1 ct1), sl1⟩) (c1 : PySem.W.codeIn K cd1 "has" = true) (k1 : PySem.W.keepIn K (.ref f1) = true)
    (a2 : PySem.W.nsIn K mainGlobals "with_option" = some (some (.ref f2))) (l2 : K.lookup f2 = some ⟨oc2, od2, .func (PySem.W.fnOf "with_option" "with_option" (defArgs s_with_option) (defBody s_with_option) (defScope s_with_option) .none kV2 dc2 pm2 an2 cd2 ct2), sl2⟩) (c2 : PySem.W.codeIn K cd2 "with_option" = true) (k2 : PySem.W.keepIn K (.ref f2) = true)
    (a3 : PySem.W.nsIn K mainGlobals "open_options" = some (some (.ref f3))) (l3 : K.lookup f3 = some ⟨oc3, od3, .func (PySem.W.fnOf "open_options" "open_options" (defArgs s_open_options) (defBody s_open_options) (defScope s_open_options) .none kV3 dc3 pm3 an3 cd3 ct3), sl3⟩) (c3 : PySem.W.codeIn K cd3 "open_options" = true) (k3 : PySem.W.keepIn K (.ref f3) = true)
    (a4 : PySem.W.nsIn K mainGlobals "many_ties" = some (some (.ref f4))) (l4 : K.lookup f4 = some ⟨oc4, od4, .func (PySem.W.fnOf "many_ties" "many_ties" (defArgs s_many_ties) (defBody s_many_ties) (defScope s_many_ties) .none kV4 dc4 pm4 an4 cd4 ct4), sl4⟩) (c4 : PySem.W.codeIn K cd4 "many_ties" = true) (k4 : PySem.W.keepIn K (.ref f4) = true)
    (a5 : PySem.W.nsIn K mainGlobals "tie_at" = some (some (.ref f5))) (l5 : K.lookup f5 = some ⟨oc5, od5, .func (PySem.W.fnOf "tie_at" "tie_at" (defArgs s_tie_at) (defBody s_tie_at) (defScope s_tie_at) .none kV5 dc5 pm5 an5 cd5 ct5), sl5⟩) (c5 : PySem.W.codeIn K cd5 "tie_at" = true) (k5 : PySem.W.keepIn K (.ref f5) = true)
    (a6 : PySem.W.nsIn K mainGlobals "count_in" = some (some (.ref f6))) (l6 : K.lookup f6 = some ⟨oc6, od6, .func (PySem.W.fnOf "count_in" "count_in" (defArgs s_count_in) (defBody s_count_in) (defScope s_count_in) .none kV6 dc6 pm6 an6 cd6 ct6), sl6⟩) (c6 : PySem.W.codeIn K cd6 "count_in" = true) (k6 : PySem.W.keepIn K (.ref f6) = true)
    (a7 : PySem.W.nsIn K mainGlobals "every_tie" = some (some (.ref f7))) (l7 : K.lookup f7 = some ⟨oc7, od7, .func (PySem.W.fnOf "every_tie" "every_tie" (defArgs s_every_tie) (defBody s_every_tie) (defScope s_every_tie) .none kV7 dc7 pm7 an7 cd7 ct7), sl7⟩) (c7 : PySem.W.codeIn K cd7 "every_tie" = true) (k7 : PySem.W.keepIn K (.ref f7) = true)
    (a8 : PySem.W.nsIn K mainGlobals "sure_broken" = some (some (.ref f8))) (l8 : K.lookup f8 = some ⟨oc8, od8, .func (PySem.W.fnOf "sure_broken" "sure_broken" (defArgs s_sure_broken) (defBody s_sure_broken) (defScope s_sure_broken) .none kV8 dc8 pm8 an8 cd8 ct8), sl8⟩) (c8 : PySem.W.codeIn K cd8 "sure_broken" = true) (k8 : PySem.W.keepIn K (.ref f8) = true)
    (a9 : PySem.W.nsIn K mainGlobals "least_sum" = some (some (.ref f9))) (l9 : K.lookup f9 = some ⟨oc9, od9, .func (PySem.W.fnOf "least_sum" "least_sum" (defArgs s_least_sum) (defBody s_least_sum) (defScope s_least_sum) .none kV9 dc9 pm9 an9 cd9 ct9), sl9⟩) (c9 : PySem.W.codeIn K cd9 "least_sum" = true) (k9 : PySem.W.keepIn K (.ref f9) = true)
    (a10 : PySem.W.nsIn K mainGlobals "sure_broken_bough" = some (some (.ref f10))) (l10 : K.lookup f10 = some ⟨oc10, od10, .func (PySem.W.fnOf "sure_broken_bough" "sure_broken_bough" (defArgs s_sure_broken_bough) (defBody s_sure_broken_bough) (defScope s_sure_broken_bough) .none kV10 dc10 pm10 an10 cd10 ct10), sl10⟩) (c10 : PySem.W.codeIn K cd10 "sure_broken_bough" = true) (k10 : PySem.W.keepIn K (.ref f10) = true)
    (a11 : PySem.W.nsIn K mainGlobals "first_sure_broken" = some (some (.ref f11))) (l11 : K.lookup f11 = some ⟨oc11, od11, .func (PySem.W.fnOf "first_sure_broken" "first_sure_broken" (defArgs s_first_sure_broken) (defBody s_first_sure_broken) (defScope s_first_sure_broken) .none kV11 dc11 pm11 an11 cd11 ct11), sl11⟩) (c11 : PySem.W.codeIn K cd11 "first_sure_broken" = true) (k11 : PySem.W.keepIn K (.ref f11) = true)
    (a12 : PySem.W.nsIn K mainGlobals "first_ware" = some (some (.ref f12))) (l12 : K.lookup f12 = some ⟨oc12, od12, .func (PySem.W.fnOf "first_ware" "first_ware" (defArgs s_first_ware) (defBody s_first_ware) (defScope s_first_ware) .none kV12 dc12 pm12 an12 cd12 ct12), sl12⟩) (c12 : PySem.W.codeIn K cd12 "first_ware" = true) (k12 : PySem.W.keepIn K (.ref f12) = true)
    (a13 : PySem.W.nsIn K mainGlobals "first_keeping" = some (some (.ref f13))) (l13 : K.lookup f13 = some ⟨oc13, od13, .func (PySem.W.fnOf "first_keeping" "first_keeping" (defArgs s_first_keeping) (defBody s_first_keeping) (defScope s_first_keeping) .none kV13 dc13 pm13 an13 cd13 ct13), sl13⟩) (c13 : PySem.W.codeIn K cd13 "first_keeping" = true) (k13 : PySem.W.keepIn K (.ref f13) = true)
    (a14 : PySem.W.nsIn K mainGlobals "stand_of" = some (some (.ref f14))) (l14 : K.lookup f14 = some ⟨oc14, od14, .func (PySem.W.fnOf "stand_of" "stand_of" (defArgs s_stand_of) (defBody s_stand_of) (defScope s_stand_of) .none kV14 dc14 pm14 an14 cd14 ct14), sl14⟩) (c14 : PySem.W.codeIn K cd14 "stand_of" = true) (k14 : PySem.W.keepIn K (.ref f14) = true)
    (a15 : PySem.W.nsIn K mainGlobals "open_at" = some (some (.ref f15))) (l15 : K.lookup f15 = some ⟨oc15, od15, .func (PySem.W.fnOf "open_at" "open_at" (defArgs s_open_at) (defBody s_open_at) (defScope s_open_at) .none kV15 dc15 pm15 an15 cd15 ct15), sl15⟩) (c15 : PySem.W.codeIn K cd15 "open_at" = true) (k15 : PySem.W.keepIn K (.ref f15) = true)
    (a16 : PySem.W.nsIn K mainGlobals "first_ware_at" = some (some (.ref f16))) (l16 : K.lookup f16 = some ⟨oc16, od16, .func (PySem.W.fnOf "first_ware_at" "first_ware_at" (defArgs s_first_ware_at) (defBody s_first_ware_at) (defScope s_first_ware_at) .none kV16 dc16 pm16 an16 cd16 ct16), sl16⟩) (c16 : PySem.W.codeIn K cd16 "first_ware_at" = true) (k16 : PySem.W.keepIn K (.ref f16) = true)
    (a17 : PySem.W.nsIn K mainGlobals "leads_on" = some (some (.ref f17))) (l17 : K.lookup f17 = some ⟨oc17, od17, .func (PySem.W.fnOf "leads_on" "leads_on" (defArgs s_leads_on) (defBody s_leads_on) (defScope s_leads_on) .none kV17 dc17 pm17 an17 cd17 ct17), sl17⟩) (c17 : PySem.W.codeIn K cd17 "leads_on" = true) (k17 : PySem.W.keepIn K (.ref f17) = true)
    (a18 : PySem.W.nsIn K mainGlobals "_law_take" = some (some (.ref f18))) (l18 : K.lookup f18 = some ⟨oc18, od18, .func (PySem.W.fnOf "_law_take" "_law_take" (defArgs s_law_take) (defBody s_law_take) (defScope s_law_take) .none kV18 dc18 pm18 an18 cd18 ct18), sl18⟩) (c18 : PySem.W.codeIn K cd18 "_law_take" = true) (k18 : PySem.W.keepIn K (.ref f18) = true)
    (a19 : PySem.W.nsIn K mainGlobals "_law_boughs" = some (some (.ref f19))) (l19 : K.lookup f19 = some ⟨oc19, od19, .func (PySem.W.fnOf "_law_boughs" "_law_boughs" (defArgs s_law_boughs) (defBody s_law_boughs) (defScope s_law_boughs) .none kV19 dc19 pm19 an19 cd19 ct19), sl19⟩) (c19 : PySem.W.codeIn K cd19 "_law_boughs" = true) (k19 : PySem.W.keepIn K (.ref f19) = true)
    (a20 : PySem.W.nsIn K mainGlobals "_law_cross" = some (some (.ref f20))) (l20 : K.lookup f20 = some ⟨oc20, od20, .func (PySem.W.fnOf "_law_cross" "_law_cross" (defArgs s_law_cross) (defBody s_law_cross) (defScope s_law_cross) .none kV20 dc20 pm20 an20 cd20 ct20), sl20⟩) (c20 : PySem.W.codeIn K cd20 "_law_cross" = true) (k20 : PySem.W.keepIn K (.ref f20) = true)
    (a21 : PySem.W.nsIn K mainGlobals "_law_wood" = some (some (.ref f21))) (l21 : K.lookup f21 = some ⟨oc21, od21, .func (PySem.W.fnOf "_law_wood" "_law_wood" (defArgs s_law_wood) (defBody s_law_wood) (defScope s_law_wood) .none kV21 dc21 pm21 an21 cd21 ct21), sl21⟩) (c21 : PySem.W.codeIn K cd21 "_law_wood" = true) (k21 : PySem.W.keepIn K (.ref f21) = true)
    (a22 : PySem.W.nsIn K mainGlobals "_law_keeps" = some (some (.ref f22))) (l22 : K.lookup f22 = some ⟨oc22, od22, .func (PySem.W.fnOf "_law_keeps" "_law_keeps" (defArgs s_law_keeps) (defBody s_law_keeps) (defScope s_law_keeps) .none kV22 dc22 pm22 an22 cd22 ct22), sl22⟩) (c22 : PySem.W.codeIn K cd22 "_law_keeps" = true) (k22 : PySem.W.keepIn K (.ref f22) = true)
    (a23 : PySem.W.nsIn K mainGlobals "_law_broken" = some (some (.ref f23))) (l23 : K.lookup f23 = some ⟨oc23, od23, .func (PySem.W.fnOf "_law_broken" "_law_broken" (defArgs s_law_broken) (defBody s_law_broken) (defScope s_law_broken) .none kV23 dc23 pm23 an23 cd23 ct23), sl23⟩) (c23 : PySem.W.codeIn K cd23 "_law_broken" = true) (k23 : PySem.W.keepIn K (.ref f23) = true)
    (a24 : PySem.W.nsIn K mainGlobals "_law_heard" = some (some (.ref f24))) (l24 : K.lookup f24 = some ⟨oc24, od24, .func (PySem.W.fnOf "_law_heard" "_law_heard" (defArgs s_law_heard) (defBody s_law_heard) (defScope s_law_heard) .none kV24 dc24 pm24 an24 cd24 ct24), sl24⟩) (c24 : PySem.W.codeIn K cd24 "_law_heard" = true) (k24 : PySem.W.keepIn K (.ref f24) = true)
    (a25 : PySem.W.nsIn K mainGlobals "_law_stand" = some (some (.ref f25))) (l25 : K.lookup f25 = some ⟨oc25, od25, .func (PySem.W.fnOf "_law_stand" "_law_stand" (defArgs s_law_stand) (defBody s_law_stand) (defScope s_law_stand) .none kV25 dc25 pm25 an25 cd25 ct25), sl25⟩) (c25 : PySem.W.codeIn K cd25 "_law_stand" = true) (k25 : PySem.W.keepIn K (.ref f25) = true)
    (a26 : PySem.W.nsIn K mainGlobals "_law_sets" = some (some (.ref f26))) (l26 : K.lookup f26 = some ⟨oc26, od26, .func (PySem.W.fnOf "_law_sets" "_law_sets" (defArgs s_law_sets) (defBody s_law_sets) (defScope s_law_sets) .none kV26 dc26 pm26 an26 cd26 ct26), sl26⟩) (c26 : PySem.W.codeIn K cd26 "_law_sets" = true) (k26 : PySem.W.keepIn K (.ref f26) = true)
    (a27 : PySem.W.nsIn K mainGlobals "_law_offers" = some (some (.ref f27))) (l27 : K.lookup f27 = some ⟨oc27, od27, .func (PySem.W.fnOf "_law_offers" "_law_offers" (defArgs s_law_offers) (defBody s_law_offers) (defScope s_law_offers) .none kV27 dc27 pm27 an27 cd27 ct27), sl27⟩) (c27 : PySem.W.codeIn K cd27 "_law_offers" = true) (k27 : PySem.W.keepIn K (.ref f27) = true)
    (a28 : PySem.W.nsIn K mainGlobals "_law_right" = some (some (.ref f28))) (l28 : K.lookup f28 = some ⟨oc28, od28, .func (PySem.W.fnOf "_law_right" "_law_right" (defArgs s_law_right) (defBody s_law_right) (defScope s_law_right) .none kV28 dc28 pm28 an28 cd28 ct28), sl28⟩) (c28 : PySem.W.codeIn K cd28 "_law_right" = true) (k28 : PySem.W.keepIn K (.ref f28) = true)
    (a29 : PySem.W.nsIn K mainGlobals "_law_done" = some (some (.ref f29))) (l29 : K.lookup f29 = some ⟨oc29, od29, .func (PySem.W.fnOf "_law_done" "_law_done" (defArgs s_law_done) (defBody s_law_done) (defScope s_law_done) .none kV29 dc29 pm29 an29 (.ref cc29) ct29), sl29⟩) (c29 : PySem.W.codeIn K (.ref cc29) "_law_done" = true) (k29 : PySem.W.keepIn K (.ref f29) = true)
    (m29 : K.lookup cc29 = some ⟨coc29, cod29, .fields cvs29, csl29⟩) (n29 : (cvs29[11]? : Option Value) = some (.ref tt29))
    (a30 : PySem.W.nsIn K mainGlobals "law" = some (some (.ref f30))) (l30 : K.lookup f30 = some ⟨oc30, od30, .func (PySem.W.fnOf "law" "law" (defArgs s_law) (defBody s_law) (defScope s_law) .none kV30 dc30 pm30 an30 cd30 ct30), sl30⟩) (c30 : PySem.W.codeIn K cd30 "law" = true) (k30 : PySem.W.keepIn K (.ref f30) = true)
    (a31 : PySem.W.findIn K (.ref y_Choice) "__init__" = some (some (.ref f31))) (l31 : K.lookup f31 = some ⟨oc31, od31, .func (PySem.W.fnOf "__init__" "Choice.__init__" (defArgs s_Choice___init__) (defBody s_Choice___init__) (defScope s_Choice___init__) .none kV31 dc31 pm31 an31 cd31 ct31), sl31⟩) (c31 : PySem.W.codeIn K cd31 "Choice.__init__" = true) (k31 : PySem.W.keepIn K (.ref f31) = true)
    (i31 : PySem.W.isFn K (.ref f31) = true)
    (a32 : PySem.W.findIn K (.ref y_Choice) "stand" = some (some (.ref f32))) (l32 : K.lookup f32 = some ⟨oc32, od32, .func (PySem.W.fnOf "stand" "Choice.stand" (defArgs s_Choice_stand) (defBody s_Choice_stand) (defScope s_Choice_stand) .none kV32 dc32 pm32 an32 cd32 ct32), sl32⟩) (c32 : PySem.W.codeIn K cd32 "Choice.stand" = true) (k32 : PySem.W.keepIn K (.ref f32) = true)
    (i32 : PySem.W.isFn K (.ref f32) = true)
    (a33 : PySem.W.findIn K (.ref y_Choice) "chosen" = some (some (.ref f33))) (l33 : K.lookup f33 = some ⟨oc33, od33, .func (PySem.W.fnOf "chosen" "Choice.chosen" (defArgs s_Choice_chosen) (defBody s_Choice_chosen) (defScope s_Choice_chosen) .none kV33 dc33 pm33 an33 cd33 ct33), sl33⟩) (c33 : PySem.W.codeIn K cd33 "Choice.chosen" = true) (k33 : PySem.W.keepIn K (.ref f33) = true)
    (i33 : PySem.W.isFn K (.ref f33) = true)
    (a34 : PySem.W.findIn K (.ref y_Choice) "offers" = some (some (.ref f34))) (l34 : K.lookup f34 = some ⟨oc34, od34, .func (PySem.W.fnOf "offers" "Choice.offers" (defArgs s_Choice_offers) (defBody s_Choice_offers) (defScope s_Choice_offers) .none kV34 dc34 pm34 an34 cd34 ct34), sl34⟩) (c34 : PySem.W.codeIn K cd34 "Choice.offers" = true) (k34 : PySem.W.keepIn K (.ref f34) = true)
    (i34 : PySem.W.isFn K (.ref f34) = true)
    (a35 : PySem.W.findIn K (.ref y_Choice) "choose" = some (some (.ref f35))) (l35 : K.lookup f35 = some ⟨oc35, od35, .func (PySem.W.fnOf "choose" "Choice.choose" (defArgs s_Choice_choose) (defBody s_Choice_choose) (defScope s_Choice_choose) .none kV35 dc35 pm35 an35 cd35 ct35), sl35⟩) (c35 : PySem.W.codeIn K cd35 "Choice.choose" = true) (k35 : PySem.W.keepIn K (.ref f35) = true)
    (i35 : PySem.W.isFn K (.ref f35) = true)
    (a36 : PySem.W.findIn K (.ref y_Choice) "take_back" = some (some (.ref f36))) (l36 : K.lookup f36 = some ⟨oc36, od36, .func (PySem.W.fnOf "take_back" "Choice.take_back" (defArgs s_Choice_take_back) (defBody s_Choice_take_back) (defScope s_Choice_take_back) .none kV36 dc36 pm36 an36 cd36 ct36), sl36⟩) (c36 : PySem.W.codeIn K cd36 "Choice.take_back" = true) (k36 : PySem.W.keepIn K (.ref f36) = true)
    (i36 : PySem.W.isFn K (.ref f36) = true)
    (a37 : PySem.W.findIn K (.ref y_Choice) "ware" = some (some (.ref f37))) (l37 : K.lookup f37 = some ⟨oc37, od37, .func (PySem.W.fnOf "ware" "Choice.ware" (defArgs s_Choice_ware) (defBody s_Choice_ware) (defScope s_Choice_ware) .none kV37 dc37 pm37 an37 cd37 ct37), sl37⟩) (c37 : PySem.W.codeIn K cd37 "Choice.ware" = true) (k37 : PySem.W.keepIn K (.ref f37) = true)
    (i37 : PySem.W.isFn K (.ref f37) = true)
    (z1 : PySem.W.nsIn K mainGlobals "ValueError" = some none)
    (z2 : PySem.W.nsIn K mainGlobals "range" = some none)
    (z3 : PySem.W.nsIn K mainGlobals "len" = some none)
    (z4 : PySem.W.nsIn K mainGlobals "isinstance" = some none)
    (z5 : PySem.W.nsIn K mainGlobals "max" = some none)
    (z6 : PySem.W.nsIn K mainGlobals "int" = some none)
    (z7 : PySem.W.nsIn K mainGlobals "bool" = some none)
    (z8 : PySem.W.nsIn K mainGlobals "list" = some none)
    (z9 : PySem.W.nsIn K mainGlobals "tuple" = some none)
    (z10 : PySem.W.nsIn K mainGlobals "enumerate" = some none)
    (z11 : PySem.W.nsIn K mainGlobals "sum" = some none)
    (gm_Choice : PySem.W.nsIn K mainGlobals "Choice" = some (some (.ref y_Choice)))
    (p1_Choice : PySem.W.plainGet K y_Choice Str.empty = true) (p2_Choice : PySem.W.hasDictIn K y_Choice = true) (p3_Choice : PySem.W.plainOver K y_Choice = true) (p4_Choice : PySem.W.findIn K (.ref y_Choice) "__setattr__" = some (some (.builtin "object.__setattr__"))) (p5_Choice : PySem.W.makesIn K y_Choice = true) (p6_Choice : PySem.W.keepIn K (.ref y_Choice) = true)
    (q_Choice_picks : PySem.W.findIn K (.ref y_Choice) "picks" = some none)
    (q_Choice_wood : PySem.W.findIn K (.ref y_Choice) "wood" = some none)
    (g_WoodError : PySem.W.nsIn K mainGlobals "WoodError" = some (some (.ref y_WoodError)))
    (g_NoWood : PySem.W.nsIn K mainGlobals "NoWood" = some (some (.ref y_NoWood)))
    (g_NoCount : PySem.W.nsIn K mainGlobals "NoCount" = some (some (.ref y_NoCount)))
    (g_NoWares : PySem.W.nsIn K mainGlobals "NoWares" = some (some (.ref y_NoWares)))
    (g_NoOffer : PySem.W.nsIn K mainGlobals "NoOffer" = some (some (.ref y_NoOffer)))
    (g_Unlike : PySem.W.nsIn K mainGlobals "Unlike" = some (some (.ref y_Unlike)))
    (g_NoText : PySem.W.nsIn K mainGlobals "NoText" = some (some (.ref y_NoText)))
    (g_NoRow : PySem.W.nsIn K mainGlobals "NoRow" = some (some (.ref y_NoRow)))
    (g_NoName : PySem.W.nsIn K mainGlobals "NoName" = some (some (.ref y_NoName)))
    (xa_WoodError : PySem.W.excIn K y_WoodError bmVE nwVE = true) (xb_WoodError : PySem.W.findIn K (.ref y_WoodError) "__getattribute__" = some (some (.builtin "BaseException.__getattribute__"))) (xc_WoodError : PySem.W.findIn K (.ref y_WoodError) "__getattr__" = some none) (xd_WoodError : PySem.W.findIn K (.ref y_WoodError) "__class__" = some (some (.builtin "object.__class__")))
    (xa_NoWood : PySem.W.excIn K y_NoWood bmVE nwVE = true) (xb_NoWood : PySem.W.findIn K (.ref y_NoWood) "__getattribute__" = some (some (.builtin "BaseException.__getattribute__"))) (xc_NoWood : PySem.W.findIn K (.ref y_NoWood) "__getattr__" = some none) (xd_NoWood : PySem.W.findIn K (.ref y_NoWood) "__class__" = some (some (.builtin "object.__class__")))
    (xa_NoCount : PySem.W.excIn K y_NoCount bmVE nwVE = true) (xb_NoCount : PySem.W.findIn K (.ref y_NoCount) "__getattribute__" = some (some (.builtin "BaseException.__getattribute__"))) (xc_NoCount : PySem.W.findIn K (.ref y_NoCount) "__getattr__" = some none) (xd_NoCount : PySem.W.findIn K (.ref y_NoCount) "__class__" = some (some (.builtin "object.__class__")))
    (xa_NoWares : PySem.W.excIn K y_NoWares bmVE nwVE = true) (xb_NoWares : PySem.W.findIn K (.ref y_NoWares) "__getattribute__" = some (some (.builtin "BaseException.__getattribute__"))) (xc_NoWares : PySem.W.findIn K (.ref y_NoWares) "__getattr__" = some none) (xd_NoWares : PySem.W.findIn K (.ref y_NoWares) "__class__" = some (some (.builtin "object.__class__")))
    (xa_NoOffer : PySem.W.excIn K y_NoOffer bmVE nwVE = true) (xb_NoOffer : PySem.W.findIn K (.ref y_NoOffer) "__getattribute__" = some (some (.builtin "BaseException.__getattribute__"))) (xc_NoOffer : PySem.W.findIn K (.ref y_NoOffer) "__getattr__" = some none) (xd_NoOffer : PySem.W.findIn K (.ref y_NoOffer) "__class__" = some (some (.builtin "object.__class__")))
    (xa_Unlike : PySem.W.excIn K y_Unlike bmVE nwVE = true) (xb_Unlike : PySem.W.findIn K (.ref y_Unlike) "__getattribute__" = some (some (.builtin "BaseException.__getattribute__"))) (xc_Unlike : PySem.W.findIn K (.ref y_Unlike) "__getattr__" = some none) (xd_Unlike : PySem.W.findIn K (.ref y_Unlike) "__class__" = some (some (.builtin "object.__class__")))
    (xa_NoText : PySem.W.excIn K y_NoText bmVE nwVE = true) (xb_NoText : PySem.W.findIn K (.ref y_NoText) "__getattribute__" = some (some (.builtin "BaseException.__getattribute__"))) (xc_NoText : PySem.W.findIn K (.ref y_NoText) "__getattr__" = some none) (xd_NoText : PySem.W.findIn K (.ref y_NoText) "__class__" = some (some (.builtin "object.__class__")))
    (xa_NoRow : PySem.W.excIn K y_NoRow bmVE nwVE = true) (xb_NoRow : PySem.W.findIn K (.ref y_NoRow) "__getattribute__" = some (some (.builtin "BaseException.__getattribute__"))) (xc_NoRow : PySem.W.findIn K (.ref y_NoRow) "__getattr__" = some none) (xd_NoRow : PySem.W.findIn K (.ref y_NoRow) "__class__" = some (some (.builtin "object.__class__")))
    (xa_NoName : PySem.W.excIn K y_NoName bmVE nwVE = true) (xb_NoName : PySem.W.findIn K (.ref y_NoName) "__getattribute__" = some (some (.builtin "BaseException.__getattribute__"))) (xc_NoName : PySem.W.findIn K (.ref y_NoName) "__getattr__" = some none) (xd_NoName : PySem.W.findIn K (.ref y_NoName) "__class__" = some (some (.builtin "object.__class__")))
    (k_NoWares_WoodError : PySem.W.kitOne K (.ref y_NoWares) (.ref y_WoodError) = some true)
    (k_NoWares_NoWood : PySem.W.kitOne K (.ref y_NoWares) (.ref y_NoWood) = some false)
    (k_NoWares_NoCount : PySem.W.kitOne K (.ref y_NoWares) (.ref y_NoCount) = some false)
    (k_NoWares_NoWares : PySem.W.kitOne K (.ref y_NoWares) (.ref y_NoWares) = some true)
    (k_NoWares_NoOffer : PySem.W.kitOne K (.ref y_NoWares) (.ref y_NoOffer) = some false)
    (k_NoWares_Unlike : PySem.W.kitOne K (.ref y_NoWares) (.ref y_Unlike) = some false)
    (k_NoWares_NoText : PySem.W.kitOne K (.ref y_NoWares) (.ref y_NoText) = some false)
    (k_NoWares_NoRow : PySem.W.kitOne K (.ref y_NoWares) (.ref y_NoRow) = some false)
    (k_NoWares_NoName : PySem.W.kitOne K (.ref y_NoWares) (.ref y_NoName) = some false)
    (v_NoWares : PySem.W.kitOne K (.ref y_NoWares) (.type "ValueError") = some true)
    (s_NoWares_WoodError : xsub K y_NoWares y_WoodError = true)
    (k_NoOffer_WoodError : PySem.W.kitOne K (.ref y_NoOffer) (.ref y_WoodError) = some true)
    (k_NoOffer_NoWood : PySem.W.kitOne K (.ref y_NoOffer) (.ref y_NoWood) = some false)
    (k_NoOffer_NoCount : PySem.W.kitOne K (.ref y_NoOffer) (.ref y_NoCount) = some false)
    (k_NoOffer_NoWares : PySem.W.kitOne K (.ref y_NoOffer) (.ref y_NoWares) = some false)
    (k_NoOffer_NoOffer : PySem.W.kitOne K (.ref y_NoOffer) (.ref y_NoOffer) = some true)
    (k_NoOffer_Unlike : PySem.W.kitOne K (.ref y_NoOffer) (.ref y_Unlike) = some false)
    (k_NoOffer_NoText : PySem.W.kitOne K (.ref y_NoOffer) (.ref y_NoText) = some false)
    (k_NoOffer_NoRow : PySem.W.kitOne K (.ref y_NoOffer) (.ref y_NoRow) = some false)
    (k_NoOffer_NoName : PySem.W.kitOne K (.ref y_NoOffer) (.ref y_NoName) = some false)
    (v_NoOffer : PySem.W.kitOne K (.ref y_NoOffer) (.type "ValueError") = some true)
    (s_NoOffer_WoodError : xsub K y_NoOffer y_WoodError = true)
    : (∃ fd : FuncData, (∀ (s : Shared) (v : Value), BindsTo s fd ⟨[v], []⟩ [("_law_script", v)]) ∧ ∀ base : Heap, K.In base → base.Ns mainGlobals mg → (∀ p ∈ ([(cc29, tt29)] : List (Addr × Addr)), LamB mg base p.1 p.2) → FnOk l.prog w K mg base CX0 29 fa fd ["_law_script"] (spT tt29 (spLaw K))) := by
  have e := hfa.symm.trans (PySem.W.mg_of X G a30)
  cases e
  have F1 := fun_mk (st := s_has) l1 c1 k1
  have F2 := fun_mk (st := s_with_option) l2 c2 k2
  have F3 := fun_mk (st := s_open_options) l3 c3 k3
  have F4 := fun_mk (st := s_many_ties) l4 c4 k4
  have F5 := fun_mk (st := s_tie_at) l5 c5 k5
  have F6 := fun_mk (st := s_count_in) l6 c6 k6
  have F7 := fun_mk (st := s_every_tie) l7 c7 k7
  have F8 := fun_mk (st := s_sure_broken) l8 c8 k8
  have F9 := fun_mk (st := s_least_sum) l9 c9 k9
  have F10 := fun_mk (st := s_sure_broken_bough) l10 c10 k10
  have F11 := fun_mk (st := s_first_sure_broken) l11 c11 k11
  have F12 := fun_mk (st := s_first_ware) l12 c12 k12
  have F13 := fun_mk (st := s_first_keeping) l13 c13 k13
  have F14 := fun_mk (st := s_stand_of) l14 c14 k14
  have F15 := fun_mk (st := s_open_at) l15 c15 k15
  have F16 := fun_mk (st := s_first_ware_at) l16 c16 k16
  have F17 := fun_mk (st := s_leads_on) l17 c17 k17
  have F18 := fun_mk (st := s_law_take) l18 c18 k18
  have F19 := fun_mk (st := s_law_boughs) l19 c19 k19
  have F20 := fun_mk (st := s_law_cross) l20 c20 k20
  have F21 := fun_mk (st := s_law_wood) l21 c21 k21
  have F22 := fun_mk (st := s_law_keeps) l22 c22 k22
  have F23 := fun_mk (st := s_law_broken) l23 c23 k23
  have F24 := fun_mk (st := s_law_heard) l24 c24 k24
  have F25 := fun_mk (st := s_law_stand) l25 c25 k25
  have F26 := fun_mk (st := s_law_sets) l26 c26 k26
  have F27 := fun_mk (st := s_law_offers) l27 c27 k27
  have F28 := fun_mk (st := s_law_right) l28 c28 k28
  have F29 := fun_mk (st := s_law_done) l29 c29 k29
  have F30 := fun_mk (st := s_law) l30 c30 k30
  have F31 := fun_mk (st := s_Choice___init__) l31 c31 k31
  have F32 := fun_mk (st := s_Choice_stand) l32 c32 k32
  have F33 := fun_mk (st := s_Choice_chosen) l33 c33 k33
  have F34 := fun_mk (st := s_Choice_offers) l34 c34 k34
  have F35 := fun_mk (st := s_Choice_choose) l35 c35 k35
  have F36 := fun_mk (st := s_Choice_take_back) l36 c36 k36
  have F37 := fun_mk (st := s_Choice_ware) l37 c37 k37
  have b1 := F1.binds (ps := ["some", "k"]) fun _ _ _ _ _ _ us hl => len2 us hl fun _ _ => rfl
  have b2 := F2.binds (ps := ["some", "k"]) fun _ _ _ _ _ _ us hl => len2 us hl fun _ _ => rfl
  have b3 := F3.binds (ps := ["many", "yes", "no"]) fun _ _ _ _ _ _ us hl => len3 us hl fun _ _ _ => rfl
  have b4 := F4.binds (ps := ["wood"]) fun _ _ _ _ _ _ us hl => len1 us hl fun _ => rfl
  have b5 := F5.binds (ps := ["wood", "t"]) fun _ _ _ _ _ _ us hl => len2 us hl fun _ _ => rfl
  have b6 := F6.binds (ps := ["kids", "some"]) fun _ _ _ _ _ _ us hl => len2 us hl fun _ _ => rfl
  have b7 := F7.binds (ps := ["wood"]) fun _ _ _ _ _ _ us hl => len1 us hl fun _ => rfl
  have b8 := F8.binds (ps := ["tie", "yes", "no"]) fun _ _ _ _ _ _ us hl => len3 us hl fun _ _ _ => rfl
  have b9 := F9.binds (ps := ["pairs", "yes", "no"]) fun _ _ _ _ _ _ us hl => len3 us hl fun _ _ _ => rfl
  have b10 := F10.binds (ps := ["bough", "yes", "no"]) fun _ _ _ _ _ _ us hl => len3 us hl fun _ _ _ => rfl
  have b11 := F11.binds (ps := ["wood", "ties", "yes", "no"]) fun _ _ _ _ _ _ us hl => len4 us hl fun _ _ _ _ => rfl
  have b12 := F12.binds (ps := ["wood", "yes", "no"]) fun _ _ _ _ _ _ us hl => len3 us hl fun _ _ _ => rfl
  have b13 := F13.binds (ps := ["wood", "ties", "yes", "no"]) fun _ _ _ _ _ _ us hl => len4 us hl fun _ _ _ _ => rfl
  have b14 := F14.binds (ps := ["picks"]) fun _ _ _ _ _ _ us hl => len1 us hl fun _ => rfl
  have b15 := F15.binds (ps := ["wood", "picks"]) fun _ _ _ _ _ _ us hl => len2 us hl fun _ _ => rfl
  have b16 := F16.binds (ps := ["wood", "picks"]) fun _ _ _ _ _ _ us hl => len2 us hl fun _ _ => rfl
  have b17 := F17.binds (ps := ["wood", "picks", "pick"]) fun _ _ _ _ _ _ us hl => len3 us hl fun _ _ _ => rfl
  have b18 := F18.binds (ps := ["_law_state", "_law_most"]) fun _ _ _ _ _ _ us hl => len2 us hl fun _ _ => rfl
  have b19 := F19.binds (ps := ["_law_state", "_law_many"]) fun _ _ _ _ _ _ us hl => len2 us hl fun _ _ => rfl
  have b20 := F20.binds (ps := ["_law_state", "_law_many", "_law_most"]) fun _ _ _ _ _ _ us hl => len3 us hl fun _ _ _ => rfl
  have b21 := F21.binds (ps := ["_law_state", "_law_most"]) fun _ _ _ _ _ _ us hl => len2 us hl fun _ _ => rfl
  have b22 := F22.binds (ps := ["_law_tie", "_law_some"]) fun _ _ _ _ _ _ us hl => len2 us hl fun _ _ => rfl
  have b23 := F23.binds (ps := ["_law_wood_here"]) fun _ _ _ _ _ _ us hl => len1 us hl fun _ => rfl
  have b24 := F24.binds (ps := ["_law_ask"]) fun _ _ _ _ _ _ us hl => len1 us hl fun _ => rfl
  have b25 := F25.binds (ps := ["_law_chosen"]) fun _ _ _ _ _ _ us hl => len1 us hl fun _ => rfl
  have b26 := F26.binds (ps := ["_law_broken_here", "_law_ties", "_law_chosen"]) fun _ _ _ _ _ _ us hl => len3 us hl fun _ _ _ => rfl
  have b27 := F27.binds (ps := ["_law_broken_here", "_law_many", "_law_chosen"]) fun _ _ _ _ _ _ us hl => len3 us hl fun _ _ _ => rfl
  have b28 := F28.binds (ps := ["_law_choice", "_law_broken_here", "_law_many", "_law_chosen"]) fun _ _ _ _ _ _ us hl => len4 us hl fun _ _ _ _ => rfl
  have b29 := F29.binds (ps := ["_law_state", "_law_choice", "_law_broken_here", "_law_many", "_law_chosen"]) fun _ _ _ _ _ _ us hl => len5 us hl fun _ _ _ _ _ => rfl
  have b30 := F30.binds (ps := ["_law_script"]) fun _ _ _ _ _ _ us hl => len1 us hl fun _ => rfl
  have b31 := F31.binds (ps := ["self", "wood"]) fun _ _ _ _ _ _ us hl => len2 us hl fun _ _ => rfl
  have b32 := F32.binds (ps := ["self"]) fun _ _ _ _ _ _ us hl => len1 us hl fun _ => rfl
  have b33 := F33.binds (ps := ["self"]) fun _ _ _ _ _ _ us hl => len1 us hl fun _ => rfl
  have b34 := F34.binds (ps := ["self"]) fun _ _ _ _ _ _ us hl => len1 us hl fun _ => rfl
  have b35 := F35.binds (ps := ["self", "k", "value"]) fun _ _ _ _ _ _ us hl => len3 us hl fun _ _ _ => rfl
  have b36 := F36.binds (ps := ["self", "k"]) fun _ _ _ _ _ _ us hl => len2 us hl fun _ _ => rfl
  have b37 := F37.binds (ps := ["self"]) fun _ _ _ _ _ _ us hl => len1 us hl fun _ => rfl
  have T : Txt K mg ⟨f1, f2, f3, f4, f5, f6, f7, f8, f9, f10, f11, f12, f13, f14, f15, f16, f17, f18, f19, f20, f21, f22, f23, f24, f25, f26, f27, f28, f29, fa, f31, f32, f33, f34, f35, f36, f37, cc29, tt29, y_WoodError, y_NoWood, y_NoCount, y_NoWares, y_NoOffer, y_Unlike, y_NoText, y_NoRow, y_NoName, y_Choice⟩ ⟨PySem.W.fnOf "has" "has" (defArgs s_has) (defBody s_has) (defScope s_has) .none kV1 dc1 pm1 an1 cd1 ct1, PySem.W.fnOf "with_option" "with_option" (defArgs s_with_option) (defBody s_with_option) (defScope s_with_option) .none kV2 dc2 pm2 an2 cd2 ct2, PySem.W.fnOf "open_options" "open_options" (defArgs s_open_options) (defBody s_open_options) (defScope s_open_options) .none kV3 dc3 pm3 an3 cd3 ct3, PySem.W.fnOf "many_ties" "many_ties" (defArgs s_many_ties) (defBody s_many_ties) (defScope s_many_ties) .none kV4 dc4 pm4 an4 cd4 ct4, PySem.W.fnOf "tie_at" "tie_at" (defArgs s_tie_at) (defBody s_tie_at) (defScope s_tie_at) .none kV5 dc5 pm5 an5 cd5 ct5, PySem.W.fnOf "count_in" "count_in" (defArgs s_count_in) (defBody s_count_in) (defScope s_count_in) .none kV6 dc6 pm6 an6 cd6 ct6, PySem.W.fnOf "every_tie" "every_tie" (defArgs s_every_tie) (defBody s_every_tie) (defScope s_every_tie) .none kV7 dc7 pm7 an7 cd7 ct7, PySem.W.fnOf "sure_broken" "sure_broken" (defArgs s_sure_broken) (defBody s_sure_broken) (defScope s_sure_broken) .none kV8 dc8 pm8 an8 cd8 ct8, PySem.W.fnOf "least_sum" "least_sum" (defArgs s_least_sum) (defBody s_least_sum) (defScope s_least_sum) .none kV9 dc9 pm9 an9 cd9 ct9, PySem.W.fnOf "sure_broken_bough" "sure_broken_bough" (defArgs s_sure_broken_bough) (defBody s_sure_broken_bough) (defScope s_sure_broken_bough) .none kV10 dc10 pm10 an10 cd10 ct10, PySem.W.fnOf "first_sure_broken" "first_sure_broken" (defArgs s_first_sure_broken) (defBody s_first_sure_broken) (defScope s_first_sure_broken) .none kV11 dc11 pm11 an11 cd11 ct11, PySem.W.fnOf "first_ware" "first_ware" (defArgs s_first_ware) (defBody s_first_ware) (defScope s_first_ware) .none kV12 dc12 pm12 an12 cd12 ct12, PySem.W.fnOf "first_keeping" "first_keeping" (defArgs s_first_keeping) (defBody s_first_keeping) (defScope s_first_keeping) .none kV13 dc13 pm13 an13 cd13 ct13, PySem.W.fnOf "stand_of" "stand_of" (defArgs s_stand_of) (defBody s_stand_of) (defScope s_stand_of) .none kV14 dc14 pm14 an14 cd14 ct14, PySem.W.fnOf "open_at" "open_at" (defArgs s_open_at) (defBody s_open_at) (defScope s_open_at) .none kV15 dc15 pm15 an15 cd15 ct15, PySem.W.fnOf "first_ware_at" "first_ware_at" (defArgs s_first_ware_at) (defBody s_first_ware_at) (defScope s_first_ware_at) .none kV16 dc16 pm16 an16 cd16 ct16, PySem.W.fnOf "leads_on" "leads_on" (defArgs s_leads_on) (defBody s_leads_on) (defScope s_leads_on) .none kV17 dc17 pm17 an17 cd17 ct17, PySem.W.fnOf "_law_take" "_law_take" (defArgs s_law_take) (defBody s_law_take) (defScope s_law_take) .none kV18 dc18 pm18 an18 cd18 ct18, PySem.W.fnOf "_law_boughs" "_law_boughs" (defArgs s_law_boughs) (defBody s_law_boughs) (defScope s_law_boughs) .none kV19 dc19 pm19 an19 cd19 ct19, PySem.W.fnOf "_law_cross" "_law_cross" (defArgs s_law_cross) (defBody s_law_cross) (defScope s_law_cross) .none kV20 dc20 pm20 an20 cd20 ct20, PySem.W.fnOf "_law_wood" "_law_wood" (defArgs s_law_wood) (defBody s_law_wood) (defScope s_law_wood) .none kV21 dc21 pm21 an21 cd21 ct21, PySem.W.fnOf "_law_keeps" "_law_keeps" (defArgs s_law_keeps) (defBody s_law_keeps) (defScope s_law_keeps) .none kV22 dc22 pm22 an22 cd22 ct22, PySem.W.fnOf "_law_broken" "_law_broken" (defArgs s_law_broken) (defBody s_law_broken) (defScope s_law_broken) .none kV23 dc23 pm23 an23 cd23 ct23, PySem.W.fnOf "_law_heard" "_law_heard" (defArgs s_law_heard) (defBody s_law_heard) (defScope s_law_heard) .none kV24 dc24 pm24 an24 cd24 ct24, PySem.W.fnOf "_law_stand" "_law_stand" (defArgs s_law_stand) (defBody s_law_stand) (defScope s_law_stand) .none kV25 dc25 pm25 an25 cd25 ct25, PySem.W.fnOf "_law_sets" "_law_sets" (defArgs s_law_sets) (defBody s_law_sets) (defScope s_law_sets) .none kV26 dc26 pm26 an26 cd26 ct26, PySem.W.fnOf "_law_offers" "_law_offers" (defArgs s_law_offers) (defBody s_law_offers) (defScope s_law_offers) .none kV27 dc27 pm27 an27 cd27 ct27, PySem.W.fnOf "_law_right" "_law_right" (defArgs s_law_right) (defBody s_law_right) (defScope s_law_right) .none kV28 dc28 pm28 an28 cd28 ct28, PySem.W.fnOf "_law_done" "_law_done" (defArgs s_law_done) (defBody s_law_done) (defScope s_law_done) .none kV29 dc29 pm29 an29 (.ref cc29) ct29, PySem.W.fnOf "law" "law" (defArgs s_law) (defBody s_law) (defScope s_law) .none kV30 dc30 pm30 an30 cd30 ct30, PySem.W.fnOf "__init__" "Choice.__init__" (defArgs s_Choice___init__) (defBody s_Choice___init__) (defScope s_Choice___init__) .none kV31 dc31 pm31 an31 cd31 ct31, PySem.W.fnOf "stand" "Choice.stand" (defArgs s_Choice_stand) (defBody s_Choice_stand) (defScope s_Choice_stand) .none kV32 dc32 pm32 an32 cd32 ct32, PySem.W.fnOf "chosen" "Choice.chosen" (defArgs s_Choice_chosen) (defBody s_Choice_chosen) (defScope s_Choice_chosen) .none kV33 dc33 pm33 an33 cd33 ct33, PySem.W.fnOf "offers" "Choice.offers" (defArgs s_Choice_offers) (defBody s_Choice_offers) (defScope s_Choice_offers) .none kV34 dc34 pm34 an34 cd34 ct34, PySem.W.fnOf "choose" "Choice.choose" (defArgs s_Choice_choose) (defBody s_Choice_choose) (defScope s_Choice_choose) .none kV35 dc35 pm35 an35 cd35 ct35, PySem.W.fnOf "take_back" "Choice.take_back" (defArgs s_Choice_take_back) (defBody s_Choice_take_back) (defScope s_Choice_take_back) .none kV36 dc36 pm36 an36 cd36 ct36, PySem.W.fnOf "ware" "Choice.ware" (defArgs s_Choice_ware) (defBody s_Choice_ware) (defScope s_Choice_ware) .none kV37 dc37 pm37 an37 cd37 ct37⟩ := ⟨PySem.W.mg_none_of X G z1, PySem.W.mg_none_of X G z2, PySem.W.mg_none_of X G z3, PySem.W.mg_none_of X G z4, PySem.W.mg_none_of X G z5, PySem.W.mg_none_of X G z6, PySem.W.mg_none_of X G z7, PySem.W.mg_none_of X G z8, PySem.W.mg_none_of X G z9, PySem.W.mg_none_of X G z10, PySem.W.mg_none_of X G z11, PySem.W.mg_of X G a1, F1, b1, PySem.W.mg_of X G a2, F2, b2, PySem.W.mg_of X G a3, F3, b3, PySem.W.mg_of X G a4, F4, b4, PySem.W.mg_of X G a5, F5, b5, PySem.W.mg_of X G a6, F6, b6, PySem.W.mg_of X G a7, F7, b7, PySem.W.mg_of X G a8, F8, b8, PySem.W.mg_of X G a9, F9, b9, PySem.W.mg_of X G a10, F10, b10, PySem.W.mg_of X G a11, F11, b11, PySem.W.mg_of X G a12, F12, b12, PySem.W.mg_of X G a13, F13, b13, PySem.W.mg_of X G a14, F14, b14, PySem.W.mg_of X G a15, F15, b15, PySem.W.mg_of X G a16, F16, b16, PySem.W.mg_of X G a17, F17, b17, PySem.W.mg_of X G a18, F18, b18, PySem.W.mg_of X G a19, F19, b19, PySem.W.mg_of X G a20, F20, b20, PySem.W.mg_of X G a21, F21, b21, PySem.W.mg_of X G a22, F22, b22, PySem.W.mg_of X G a23, F23, b23, PySem.W.mg_of X G a24, F24, b24, PySem.W.mg_of X G a25, F25, b25, PySem.W.mg_of X G a26, F26, b26, PySem.W.mg_of X G a27, F27, b27, PySem.W.mg_of X G a28, F28, b28, PySem.W.mg_of X G a29, F29, b29, PySem.W.mg_of X G a30, F30, b30, ⟨p5_Choice, a31, i31, p6_Choice⟩, F31, b31, ⟨a32, i32, k32⟩, F32, b32, ⟨a33, i33, k33⟩, F33, b33, ⟨a34, i34, k34⟩, F34, b34, ⟨a35, i35, k35⟩, F35, b35, ⟨a36, i36, k36⟩, F36, b36, ⟨a37, i37, k37⟩, F37, b37, rfl, PySem.W.mg_of X G gm_Choice, ⟨p1_Choice, p2_Choice, p3_Choice, p4_Choice⟩, q_Choice_picks, q_Choice_wood, PySem.W.mg_of X G g_WoodError, PySem.W.mg_of X G g_NoWood, PySem.W.mg_of X G g_NoCount, PySem.W.mg_of X G g_NoWares, PySem.W.mg_of X G g_NoOffer, PySem.W.mg_of X G g_Unlike, PySem.W.mg_of X G g_NoText, PySem.W.mg_of X G g_NoRow, PySem.W.mg_of X G g_NoName, ⟨xa_WoodError, xb_WoodError, xc_WoodError, xd_WoodError⟩, ⟨xa_NoWood, xb_NoWood, xc_NoWood, xd_NoWood⟩, ⟨xa_NoCount, xb_NoCount, xc_NoCount, xd_NoCount⟩, ⟨xa_NoWares, xb_NoWares, xc_NoWares, xd_NoWares⟩, ⟨xa_NoOffer, xb_NoOffer, xc_NoOffer, xd_NoOffer⟩, ⟨xa_Unlike, xb_Unlike, xc_Unlike, xd_Unlike⟩, ⟨xa_NoText, xb_NoText, xc_NoText, xd_NoText⟩, ⟨xa_NoRow, xb_NoRow, xc_NoRow, xd_NoRow⟩, ⟨xa_NoName, xb_NoName, xc_NoName, xd_NoName⟩, k_NoWares_WoodError, k_NoWares_NoWood, k_NoWares_NoCount, k_NoWares_NoWares, k_NoWares_NoOffer, k_NoWares_Unlike, k_NoWares_NoText, k_NoWares_NoRow, k_NoWares_NoName, v_NoWares, s_NoWares_WoodError, k_NoOffer_WoodError, k_NoOffer_NoWood, k_NoOffer_NoCount, k_NoOffer_NoWares, k_NoOffer_NoOffer, k_NoOffer_Unlike, k_NoOffer_NoText, k_NoOffer_NoRow, k_NoOffer_NoName, v_NoOffer, s_NoOffer_WoodError⟩
  exact ⟨PySem.W.fnOf "law" "law" (defArgs s_law) (defBody s_law) (defScope s_law) .none kV30 dc30 pm30 an30 cd30 ct30, fun s v => .of_eq rfl, fun base _ _ LL => ok_law T (LL _ List.mem_cons_self)⟩
theorem walk {l : PySem.W.OpenLaw} {q : Program} {loose : List Str} {XP : (Str → Option Value) → Heap → Prop} {YP : World → Heap → Prop} {d : DefRec} {K : Params → PySem.W.Frag} {c29 P29 : Addr} (hn : l.most = some 63) (hdf : d.params.defaults = [])
    (hY : ∀ (w : World) (h : Heap), YP w h → (K w.params).In h)
    (hK0 : ∀ w : World, PySem.W.noTabs (K w.params) = true) (hT : ∀ (w : World) (h : Heap), YP w h → PySem.W.TabsAt [(c29, P29)] h)
(F : ∀ (w : World) (mg : Str → Option Value) (fa : Addr) (h : Heap), (K w.params).In h → h.Ns mainGlobals mg → mg d.name = some (.ref fa) →
      ∃ fd : FuncData, (∀ (s : Shared) (u : Value), BindsTo s fd ⟨[u], []⟩ [("_law_script", u)]) ∧ ∀ base : Heap, (K w.params).In base → base.Ns mainGlobals mg → (∀ p ∈ ([(c29, P29)] : List (Addr × Addr)), LamB mg base p.1 p.2) → FnOk l.prog w (K w.params) mg base CX0 29 fa fd ["_law_script"] (spT P29 (spLaw (K w.params)))) :
    PySem.W.WalkO q loose XP YP l.row.toRowW d [] (fun f vs => PySem.call f vs) :=
  
  L2.walk_ofT (n := 63) (k := 29) (x := "_law_script") (tabs := fun _ => [(c29, P29)]) (sp := fun w => (spT P29 (spLaw (K w.params)))) hn (by decide) hdf ⟨rfl, by decide, by decide⟩ hY hK0 hT F (fun _ _ a ns hl hT hS => ⟨hT _ List.mem_cons_self, a, ns, rfl, hS, hl, fun _ => rfl⟩)
end Ow
namespace PySem.W.Fast
def tw16071974985425501313 : Unit := ()
def tw2000803737596939285 : Unit := ()
def tw10879958087278582505 : Unit := ()
def tw5493981051643513669 : Unit := ()
def tw10619170929344622752 : Unit := ()
def tw11482896143997175279 : Unit := ()
def tw15675056484056074817 : Unit := ()
def tw10898199838180065757 : Unit := ()
def tw11875900128678631669 : Unit := ()
def tw4828396717155769618 : Unit := ()
def tw7507779550421743995 : Unit := ()
def tw6681543394869779729 : Unit := ()
def tw17530070299610000803 : Unit := ()
def tw11549010820188933724 : Unit := ()
def tw13906613588123034810 : Unit := ()
def tw277019399302587209 : Unit := ()
def tw13034966768062605362 : Unit := ()
def tw5897505174662814598 : Unit := ()
def tw17559219485513392783 : Unit := ()
def tw3576858076107615730 : Unit := ()
def tw2604923084762894527 : Unit := ()
def tw614616547050274906 : Unit := ()
def tw14368529490981848436 : Unit := ()
def tw11201857962419932433 : Unit := ()
def tw17416574273062421500 : Unit := ()
def tw13904802147982215806 : Unit := ()
def tw8460068873484047379 : Unit := ()
def tw16331879891706141197 : Unit := ()
def tw14966339563835772413 : Unit := ()
def tw5740712086855136475 : Unit := ()
def tw6405918673352307609 : Unit := ()
def tw16327500779985488641 : Unit := ()
def tw14372960118516924517 : Unit := ()
def tw9020718579492485887 : Unit := ()
def tw18088991008968091352 : Unit := ()
def tw17663389176139269290 : Unit := ()
def tw8124167236730813188 : Unit := ()
def tw12007454294346200387 : Unit := ()
def tw7953836660853235911 : Unit := ()
def tw423961792052328198 : Unit := ()
def tw13889688003961540021 : Unit := ()
def tw18129667477540339201 : Unit := ()
def tw16893014063215130534 : Unit := ()
def tw12729425124175604493 : Unit := ()
def tw7086828845039006456 : Unit := ()
def tw3175567743987617699 : Unit := ()
def tw4934458207362763081 : Unit := ()
def tw6410579180346175777 : Unit := ()
def tw5490231909386406599 : Unit := ()
def tw16641283926826191972 : Unit := ()
def tw6474684827794011212 : Unit := ()
def tw8761538944077138071 : Unit := ()
def tw12976940548224694265 : Unit := ()
def tw7693954637095991161 : Unit := ()
def tw88487456531666661 : Unit := ()
def tw11200827251786699500 : Unit := ()
def tw18277859321129898948 : Unit := ()
def tw13801944120668775370 : Unit := ()
def tw2483579784219511837 : Unit := ()
def tw5177186706745337325 : Unit := ()
def tw2158363903359421276 : Unit := ()
def tw17822384578820893077 : Unit := ()
def tw10169131774717653418 : Unit := ()
def tw1125554220431476497 : Unit := ()
def tw908334677671217519 : Unit := ()
def tw389202621427307155 : Unit := ()
def tw3107939377609403603 : Unit := ()
def tw10518221338603543234 : Unit := ()
def tw1910907914268497239 : Unit := ()
def tw14268462042937973452 : Unit := ()
def tw7318676537553865369 : Unit := ()
def tw5532634847001407309 : Unit := ()
def tw3858016115467967291 : Unit := ()
def tw13923086334093331695 : Unit := ()
def tw18431927478442042084 : Unit := ()
def tw9079222898814212977 : Unit := ()
def tw12286987268343102775 : Unit := ()
def tw3740918011981238363 : Unit := ()
def tw3981094504800794350 : Unit := ()
def tw16284519707816637442 : Unit := ()
def tw6381649980342900480 : Unit := ()
def tw18370085823477162685 : Unit := ()
def tw6800657415823425868 : Unit := ()
def tw6551358535854523171 : Unit := ()
def tw16036603822110932507 : Unit := ()
def tw4119392777592368054 : Unit := ()
def tw7967020095179602177 : Unit := ()
def tw3687536488319564052 : Unit := ()
def tw6841378382214770628 : Unit := ()
def tw16164104815748028360 : Unit := ()
def tw422046895151569140 : Unit := ()
def tw5930791507399812949 : Unit := ()
def tw1426917415811010860 : Unit := ()
def tw3078179717040904355 : Unit := ()
def tw9090200930859141368 : Unit := ()
def tw1632391887951025702 : Unit := ()
def tw12192136439535927842 : Unit := ()
def tw8359857677663949890 : Unit := ()
def tw10926690428970100846 : Unit := ()
def tw6255011187829360308 : Unit := ()
def tw12312951771417153496 : Unit := ()
def tw1412637088166288021 : Unit := ()
def tw10266634162981558913 : Unit := ()
def tw5202425574963638600 : Unit := ()
def tw8948120862408452705 : Unit := ()
def tw3524239117677141783 : Unit := ()
def tw14695566573893159546 : Unit := ()
def tw671475103340551262 : Unit := ()
def tw17836886150114544558 : Unit := ()
def tw1786067412851123407 : Unit := ()
def tw7440015926105657623 : Unit := ()
def tw15960152848132231586 : Unit := ()
def tw14425093119810883959 : Unit := ()
def tw698012535929966688 : Unit := ()
def tw13871495073449785868 : Unit := ()
def tw9022700265016033583 : Unit := ()
def tw2654597848931395385 : Unit := ()
def tw13756160780786644834 : Unit := ()
def tw1491408132997591880 : Unit := ()
def tw17678884643552230011 : Unit := ()
def tw5516952640185930974 : Unit := ()
def tw17838288309029817154 : Unit := ()
def tw2053372138154665070 : Unit := ()
def tw386062293598427884 : Unit := ()
def tw1092694270562774110 : Unit := ()
def tw2860963063203840001 : Unit := ()
def tw5769835202260591762 : Unit := ()
def tw10758738057380998094 : Unit := ()
def tw11628020489253212952 : Unit := ()
def tw15282633985504316953 : Unit := ()
def tw9158781641699833421 : Unit := ()
def tw6529721289701534598 : Unit := ()
def tw6199812953567877175 : Unit := ()
def tw15874278854367658762 : Unit := ()
def tw4125582799695303187 : Unit := ()
def tw13835968205333185093 : Unit := ()
def tw17890570249504779979 : Unit := ()
def tw16767224857806855551 : Unit := ()
def tw18017252599755911358 : Unit := ()
def tw18063005783160523241 : Unit := ()
def tw10145125546961105396 : Unit := ()
def tw2135588084633565136 : Unit := ()
def tw13669004518286953551 : Unit := ()
def tw14577804282632532970 : Unit := ()
def tw5237423134724117054 : Unit := ()
def tw16737801872742973644 : Unit := ()
def tw6394208032189307907 : Unit := ()
def tw15241782763858640921 : Unit := ()
def tw12077286769438768989 : Unit := ()
def tw15367702875096405197 : Unit := ()
def tw5064283974398969261 : Unit := ()
def tw2298211965881718656 : Unit := ()
def tw3183455915909317626 : Unit := ()
def tw13640556895924127188 : Unit := ()
def tw1378965081774809587 : Unit := ()
def tw16013298823209793185 : Unit := ()
def tw3433510428213660568 : Unit := ()
def tw2842116600907578599 : Unit := ()
def tw180328559565024859 : Unit := ()
def tw15341540174723884466 : Unit := ()
def tw9118558672036599126 : Unit := ()
def tw14862971381735192968 : Unit := ()
def tw11550414286508420516 : Unit := ()
def tw8253535408814660076 : Unit := ()
def tw14057883101309469087 : Unit := ()
def tw7952393435609767445 : Unit := ()
def tw11150414283559094661 : Unit := ()
def tw2359658078360525600 : Unit := ()
def tw5685830408301231888 : Unit := ()
def tw13700824781445190249 : Unit := ()
def tw1545899941398357336 : Unit := ()
def tw6948572448036494794 : Unit := ()
def tw4283660599914118597 : Unit := ()
def tw6401699955172005587 : Unit := ()
def tw1110723067274737760 : Unit := ()
def tw3379767874795856364 : Unit := ()
def tw9939880566812323575 : Unit := ()
def tw15857090275420963649 : Unit := ()
def tw17258164797979038372 : Unit := ()
def tw15518316691627200048 : Unit := ()
def tw5600544655175579962 : Unit := ()
def tw11985235296553810143 : Unit := ()
def tw1112065986831562866 : Unit := ()
def tw16212036606581277861 : Unit := ()
def tw7057058269728731488 : Unit := ()
def tw13712309688000552343 : Unit := ()
def tw9026324673675643101 : Unit := ()
def tw17661372200346661515 : Unit := ()
def tw201235340514409578 : Unit := ()
def tw9153109419295572177 : Unit := ()
def tw8139134601449804912 : Unit := ()
def tw3015811252299223114 : Unit := ()
def tw4849103007299705274 : Unit := ()
def tw11540105864812426034 : Unit := ()
def tw11055105077366434039 : Unit := ()
def tw13608038171240461367 : Unit := ()
def tw15658067638149347782 : Unit := ()
def tw9694268711251608103 : Unit := ()
def tw10389169385921768161 : Unit := ()
def tw3326848386220260949 : Unit := ()
def tw9090799128779648664 : Unit := ()
def tw6004990239175432302 : Unit := ()
def tw6701184743940361343 : Unit := ()
def tw10106113603990557429 : Unit := ()
def tw17749103465772322069 : Unit := ()
def tw14698944333882688747 : Unit := ()
def tw6796299860116468667 : Unit := ()
def tw17845530197553451791 : Unit := ()
def tw4262414038940697026 : Unit := ()
def tw11238122228846006868 : Unit := ()
def tw8169637813238319026 : Unit := ()
def tw2211348514419062270 : Unit := ()
def tw13779339336917774597 : Unit := ()
def tw6562713596942575143 : Unit := ()
def tw13547685781900337513 : Unit := ()
def tw17142647761412686738 : Unit := ()
def tw12840944626720518622 : Unit := ()
def tw3542780803648391261 : Unit := ()
def tw7605875629864287794 : Unit := ()
def tw109762306715518721 : Unit := ()
def tw10575570647092411046 : Unit := ()
def tw2260584728994932755 : Unit := ()
def tw5152760207774159198 : Unit := ()
def tw9540027259313246947 : Unit := ()
def tw14564792596843557527 : Unit := ()
def tw13915563274684111402 : Unit := ()
def tw10904077388980243042 : Unit := ()
def tw3342680892265818939 : Unit := ()
def tw14333246202459724963 : Unit := ()
def tw12526511473895664302 : Unit := ()
def tw5982716417576397163 : Unit := ()
def tw13418572139246268186 : Unit := ()
def tw14622513458451315188 : Unit := ()
def tw14793340440593112334 : Unit := ()
def tw2788721743458006451 : Unit := ()
def tw7970328627116827253 : Unit := ()
def tw14762213129390851134 : Unit := ()
def tw297478925630932597 : Unit := ()
def tw16357510850291414573 : Unit := ()
def tw12786128368303019591 : Unit := ()
def tw3760947278173032292 : Unit := ()
def tw6368092384591303576 : Unit := ()
def tw16342603335852250017 : Unit := ()
def tw13699118369936868780 : Unit := ()
def tw13102621455429680063 : Unit := ()
def tw8716147788234756709 : Unit := ()
def tw6225858923930142999 : Unit := ()
def tw11585601954166515356 : Unit := ()
def tw18090527824116253705 : Unit := ()
def tw7960111695761355058 : Unit := ()
def tw958407108511958910 : Unit := ()
def tw9109545334232576266 : Unit := ()
def tw10042760851155757245 : Unit := ()
def tw6291661991576665484 : Unit := ()
def tw12768100984362588521 : Unit := ()
def tw1483079015919306865 : Unit := ()
def tw3350174634449190174 : Unit := ()
def tw6234024642496451633 : Unit := ()
def tw8259894778423277637 : Unit := ()
def tw14711642162974147637 : Unit := ()
def tw13437005799683097499 : Unit := ()
def tw3347550313486111104 : Unit := ()
def tw13415252293889855783 : Unit := ()
def tw12269807902790066079 : Unit := ()
def tw1472182003471060955 : Unit := ()
def tw5948121665853894980 : Unit := ()
def tw14575587743670588323 : Unit := ()
def tw3918779848923476208 : Unit := ()
def tw7877474092708799156 : Unit := ()
def tw16816379743882091465 : Unit := ()
def tw3911932936591603988 : Unit := ()
def tw2300723438363142260 : Unit := ()
def tw16987268602199189855 : Unit := ()
def tw4999083975094037653 : Unit := ()
def tw2007867564566790065 : Unit := ()
def tw11780522210147337972 : Unit := ()
def tw16430590868351928246 : Unit := ()
def tw7421410097986221272 : Unit := ()
def tw6908807216732727773 : Unit := ()
def tw4101425514124089016 : Unit := ()
def tw5952963572106768137 : Unit := ()
def tw14884067339287180749 : Unit := ()
def tw7121492411810861838 : Unit := ()
def tw7213041959636471348 : Unit := ()
def tw5908761202654123884 : Unit := ()
def tw360975384659710556 : Unit := ()
def tw12089475075407777655 : Unit := ()
def tw810914104527597938 : Unit := ()
def tw13100745998289298311 : Unit := ()
def tw10620823853682737006 : Unit := ()
def tw16482615121486497010 : Unit := ()
def tw6893157895336071784 : Unit := ()
def tw3627738312656548485 : Unit := ()
def tw14291449078059621561 : Unit := ()
def tw17662368006629722973 : Unit := ()
def tw10516608463371296626 : Unit := ()
def tw9507782572071240725 : Unit := ()
def tw17932883575183098370 : Unit := ()
def tw13298972716772726067 : Unit := ()
def tw3190813021549998822 : Unit := ()
def tw17606747220786494469 : Unit := ()
def tw1155958703417919589 : Unit := ()
def tw10298527872438457233 : Unit := ()
def tw11236948120687187058 : Unit := ()
def tw8055900342932956556 : Unit := ()
def tw17866929520724728228 : Unit := ()
def tw7945490023028824919 : Unit := ()
def tw18340788913157943879 : Unit := ()
def tw15839532263617855648 : Unit := ()
def tw13672792755616369686 : Unit := ()
def tw2247532983249195662 : Unit := ()
def tw7134800852867670362 : Unit := ()
def tw9099244109981678141 : Unit := ()
def tw886842654356213680 : Unit := ()
def tw2753190623788932751 : Unit := ()
def tw13563842848182935440 : Unit := ()
def tw7816879199300966322 : Unit := ()
def tw7442117294928873431 : Unit := ()
def tw9134111669436965374 : Unit := ()
def tw12580368739635052389 : Unit := ()
def tw9664504365853302365 : Unit := ()
def tw14396936761485676888 : Unit := ()
def tw16881284430541067171 : Unit := ()
def tw10142337082787602745 : Unit := ()
def tw11214334354914216596 : Unit := ()
def tw7530647296523927288 : Unit := ()
def tw12002376095399614436 : Unit := ()
def tw9143150923073696330 : Unit := ()
def tw8409422908320850299 : Unit := ()
def tw7915519327345312072 : Unit := ()
def tw134061166460991267 : Unit := ()
def tw10299566206741766073 : Unit := ()
def tw2092854316161089347 : Unit := ()
def tw1844908191887180481 : Unit := ()
def tw10408717417404067604 : Unit := ()
def tw9791609076501697131 : Unit := ()
def tw5054475226652025522 : Unit := ()
def tw10369533490016652990 : Unit := ()
def tw15588842930428591832 : Unit := ()
def tw10542087516779737918 : Unit := ()
def tw12294040271822596454 : Unit := ()
def tw12126274773970088690 : Unit := ()
def tw3801406835256608253 : Unit := ()
def tw14847979802751300254 : Unit := ()
def tw5678299801245803786 : Unit := ()
def tw13086976063749380063 : Unit := ()
def tw4496335234880038337 : Unit := ()
def tw7787691131351505015 : Unit := ()
def tw6960535544879579829 : Unit := ()
def tw1993150060307026643 : Unit := ()
def tw11961408479657583800 : Unit := ()
def tw16918457702324625839 : Unit := ()
def tw4985212666319924108 : Unit := ()
def tw8497406642504980220 : Unit := ()
def tw10803533352585420774 : Unit := ()
def tw11746110258679376443 : Unit := ()
def tw10656970479602180264 : Unit := ()
def tw2463522316080188806 : Unit := ()
def tw12553074060300335177 : Unit := ()
def tw17256646383914006892 : Unit := ()
def tw16950333095517777847 : Unit := ()
def tw650893073597207498 : Unit := ()
def tw4700458315789801203 : Unit := ()
def tw4714772831116491180 : Unit := ()
def tw1462917053996244514 : Unit := ()
def tw15183796443441571186 : Unit := ()
def tw8640767270320316488 : Unit := ()
def tw18130819836346199767 : Unit := ()
def tw15266733901806845060 : Unit := ()
def tw17405695683266594457 : Unit := ()
def tw11427909759455317646 : Unit := ()
def tw3539748777292725964 : Unit := ()
def tw9890453516104376171 : Unit := ()
def tw11941305437703983188 : Unit := ()
def tw2394797577660852329 : Unit := ()
def tw45392727027873266 : Unit := ()
def tw16701753686071595766 : Unit := ()
def tw12883123360024098579 : Unit := ()
def tw8169580112003383981 : Unit := ()
def tw11379106960563744092 : Unit := ()
def tw7657031640069144889 : Unit := ()
end PySem.W.Fast
namespace Ow
end Ow
open PySem PySem.W PyProof.Rows
set_option maxRecDepth 100000 in
set_option maxHeartbeats 0 in
theorem PySem.Challenge.cw_optionwood_k41_deeds_of_a_choice_holds : PySem.Challenge.rw_optionwood_k41_deeds_of_a_choice.Holds := by
  w_on; o_law; k_head; (case hw => w_witness2)
  k_fill
  refine' Ow.walk (l := PySem.Challenge.rw_optionwood_k41_deeds_of_a_choice) (c29 := _) (P29 := _) rfl rfl (fun w h Y => PySem.W.km_in_of Y) ?K0 ?hT ?F
  case F =>
    intro w mg fa h KX G hmg
    refine' Ow.all_mk KX G hmg ?a1 ?l1 ?c1 ?k1 ?a2 ?l2 ?c2 ?k2 ?a3 ?l3 ?c3 ?k3 ?a4 ?l4 ?c4 ?k4 ?a5 ?l5 ?c5 ?k5 ?a6 ?l6 ?c6 ?k6 ?a7 ?l7 ?c7 ?k7 ?a8 ?l8 ?c8 ?k8 ?a9 ?l9 ?c9 ?k9 ?a10 ?l10 ?c10 ?k10 ?a11 ?l11 ?c11 ?k11 ?a12 ?l12 ?c12 ?k12 ?a13 ?l13 ?c13 ?k13 ?a14 ?l14 ?c14 ?k14 ?a15 ?l15 ?c15 ?k15 ?a16 ?l16 ?c16 ?k16 ?a17 ?l17 ?c17 ?k17 ?a18 ?l18 ?c18 ?k18 ?a19 ?l19 ?c19 ?k19 ?a20 ?l20 ?c20 ?k20 ?a21 ?l21 ?c21 ?k21 ?a22 ?l22 ?c22 ?k22 ?a23 ?l23 ?c23 ?k23 ?a24 ?l24 ?c24 ?k24 ?a25 ?l25 ?c25 ?k25 ?a26 ?l26 ?c26 ?k26 ?a27 ?l27 ?c27 ?k27 ?a28 ?l28 ?c28 ?k28 ?a29 ?l29 ?c29 ?k29 ?m29 ?n29 ?a30 ?l30 ?c30 ?k30 ?a31 ?l31 ?c31 ?k31 ?i31 ?a32 ?l32 ?c32 ?k32 ?i32 ?a33 ?l33 ?c33 ?k33 ?i33 ?a34 ?l34 ?c34 ?k34 ?i34 ?a35 ?l35 ?c35 ?k35 ?i35 ?a36 ?l36 ?c36 ?k36 ?i36 ?a37 ?l37 ?c37 ?k37 ?i37 ?z1 ?z2 ?z3 ?z4 ?z5 ?z6 ?z7 ?z8 ?z9 ?z10 ?z11 ?gm_Choice ?p1_Choice ?p2_Choice ?p3_Choice ?p4_Choice ?p5_Choice ?p6_Choice ?q_Choice_picks ?q_Choice_wood ?g_WoodError ?g_NoWood ?g_NoCount ?g_NoWares ?g_NoOffer ?g_Unlike ?g_NoText ?g_NoRow ?g_NoName ?xa_WoodError ?xb_WoodError ?xc_WoodError ?xd_WoodError ?xa_NoWood ?xb_NoWood ?xc_NoWood ?xd_NoWood ?xa_NoCount ?xb_NoCount ?xc_NoCount ?xd_NoCount ?xa_NoWares ?xb_NoWares ?xc_NoWares ?xd_NoWares ?xa_NoOffer ?xb_NoOffer ?xc_NoOffer ?xd_NoOffer ?xa_Unlike ?xb_Unlike ?xc_Unlike ?xd_Unlike ?xa_NoText ?xb_NoText ?xc_NoText ?xd_NoText ?xa_NoRow ?xb_NoRow ?xc_NoRow ?xd_NoRow ?xa_NoName ?xb_NoName ?xc_NoName ?xd_NoName ?k_NoWares_WoodError ?k_NoWares_NoWood ?k_NoWares_NoCount ?k_NoWares_NoWares ?k_NoWares_NoOffer ?k_NoWares_Unlike ?k_NoWares_NoText ?k_NoWares_NoRow ?k_NoWares_NoName ?v_NoWares ?s_NoWares_WoodError ?k_NoOffer_WoodError ?k_NoOffer_NoWood ?k_NoOffer_NoCount ?k_NoOffer_NoWares ?k_NoOffer_NoOffer ?k_NoOffer_Unlike ?k_NoOffer_NoText ?k_NoOffer_NoRow ?k_NoOffer_NoName ?v_NoOffer ?s_NoOffer_WoodError
    (case gm_Choice => k_is)
    (case a1 => k_is)
    (case l1 => k_is)
    (case c1 => k_is)
    (case k1 => k_is)
    (case a2 => k_is)
    (case l2 => k_is)
    (case c2 => k_is)
    (case k2 => k_is)
    (case a3 => k_is)
    (case l3 => k_is)
    (case c3 => k_is)
    (case k3 => k_is)
    (case a4 => k_is)
    (case l4 => k_is)
    (case c4 => k_is)
    (case k4 => k_is)
    (case a5 => k_is)
    (case l5 => k_is)
    (case c5 => k_is)
    (case k5 => k_is)
    (case a6 => k_is)
    (case l6 => k_is)
    (case c6 => k_is)
    (case k6 => k_is)
    (case a7 => k_is)
    (case l7 => k_is)
    (case c7 => k_is)
    (case k7 => k_is)
    (case a8 => k_is)
    (case l8 => k_is)
    (case c8 => k_is)
    (case k8 => k_is)
    (case a9 => k_is)
    (case l9 => k_is)
    (case c9 => k_is)
    (case k9 => k_is)
    (case a10 => k_is)
    (case l10 => k_is)
    (case c10 => k_is)
    (case k10 => k_is)
    (case a11 => k_is)
    (case l11 => k_is)
    (case c11 => k_is)
    (case k11 => k_is)
    (case a12 => k_is)
    (case l12 => k_is)
    (case c12 => k_is)
    (case k12 => k_is)
    (case a13 => k_is)
    (case l13 => k_is)
    (case c13 => k_is)
    (case k13 => k_is)
    (case a14 => k_is)
    (case l14 => k_is)
    (case c14 => k_is)
    (case k14 => k_is)
    (case a15 => k_is)
    (case l15 => k_is)
    (case c15 => k_is)
    (case k15 => k_is)
    (case a16 => k_is)
    (case l16 => k_is)
    (case c16 => k_is)
    (case k16 => k_is)
    (case a17 => k_is)
    (case l17 => k_is)
    (case c17 => k_is)
    (case k17 => k_is)
    (case a18 => k_is)
    (case l18 => k_is)
    (case c18 => k_is)
    (case k18 => k_is)
    (case a19 => k_is)
    (case l19 => k_is)
    (case c19 => k_is)
    (case k19 => k_is)
    (case a20 => k_is)
    (case l20 => k_is)
    (case c20 => k_is)
    (case k20 => k_is)
    (case a21 => k_is)
    (case l21 => k_is)
    (case c21 => k_is)
    (case k21 => k_is)
    (case a22 => k_is)
    (case l22 => k_is)
    (case c22 => k_is)
    (case k22 => k_is)
    (case a23 => k_is)
    (case l23 => k_is)
    (case c23 => k_is)
    (case k23 => k_is)
    (case a24 => k_is)
    (case l24 => k_is)
    (case c24 => k_is)
    (case k24 => k_is)
    (case a25 => k_is)
    (case l25 => k_is)
    (case c25 => k_is)
    (case k25 => k_is)
    (case a26 => k_is)
    (case l26 => k_is)
    (case c26 => k_is)
    (case k26 => k_is)
    (case a27 => k_is)
    (case l27 => k_is)
    (case c27 => k_is)
    (case k27 => k_is)
    (case a28 => k_is)
    (case l28 => k_is)
    (case c28 => k_is)
    (case k28 => k_is)
    (case a29 => k_is)
    (case l29 => k_is)
    (case c29 => k_is)
    (case k29 => k_is)
    (case m29 => k_is)
    (case n29 => exact rfl)
    (case a30 => k_is)
    (case l30 => k_is)
    (case c30 => k_is)
    (case k30 => k_is)
    (case a31 => k_is)
    (case l31 => k_is)
    (case c31 => k_is)
    (case k31 => k_is)
    (case i31 => k_is)
    (case a32 => k_is)
    (case l32 => k_is)
    (case c32 => k_is)
    (case k32 => k_is)
    (case i32 => k_is)
    (case a33 => k_is)
    (case l33 => k_is)
    (case c33 => k_is)
    (case k33 => k_is)
    (case i33 => k_is)
    (case a34 => k_is)
    (case l34 => k_is)
    (case c34 => k_is)
    (case k34 => k_is)
    (case i34 => k_is)
    (case a35 => k_is)
    (case l35 => k_is)
    (case c35 => k_is)
    (case k35 => k_is)
    (case i35 => k_is)
    (case a36 => k_is)
    (case l36 => k_is)
    (case c36 => k_is)
    (case k36 => k_is)
    (case i36 => k_is)
    (case a37 => k_is)
    (case l37 => k_is)
    (case c37 => k_is)
    (case k37 => k_is)
    (case i37 => k_is)
    (case z1 => k_is)
    (case z2 => k_is)
    (case z3 => k_is)
    (case z4 => k_is)
    (case z5 => k_is)
    (case z6 => k_is)
    (case z7 => k_is)
    (case z8 => k_is)
    (case z9 => k_is)
    (case z10 => k_is)
    (case z11 => k_is)
    (case p1_Choice => first | k_is | kernel_rfl)
    (case p2_Choice => first | k_is | kernel_rfl)
    (case p3_Choice => first | k_is | kernel_rfl)
    (case p4_Choice => first | k_is | kernel_rfl)
    (case p5_Choice => first | k_is | kernel_rfl)
    (case p6_Choice => first | k_is | kernel_rfl)
    (case q_Choice_picks => first | k_is | kernel_rfl)
    (case q_Choice_wood => first | k_is | kernel_rfl)
    (case g_WoodError => k_is)
    (case g_NoWood => k_is)
    (case g_NoCount => k_is)
    (case g_NoWares => k_is)
    (case g_NoOffer => k_is)
    (case g_Unlike => k_is)
    (case g_NoText => k_is)
    (case g_NoRow => k_is)
    (case g_NoName => k_is)
    (case xa_WoodError => first | k_is | kernel_rfl)
    (case xb_WoodError => first | k_is | kernel_rfl)
    (case xc_WoodError => first | k_is | kernel_rfl)
    (case xd_WoodError => first | k_is | kernel_rfl)
    (case xa_NoWood => first | k_is | kernel_rfl)
    (case xb_NoWood => first | k_is | kernel_rfl)
    (case xc_NoWood => first | k_is | kernel_rfl)
    (case xd_NoWood => first | k_is | kernel_rfl)
    (case xa_NoCount => first | k_is | kernel_rfl)
    (case xb_NoCount => first | k_is | kernel_rfl)
    (case xc_NoCount => first | k_is | kernel_rfl)
    (case xd_NoCount => first | k_is | kernel_rfl)
    (case xa_NoWares => first | k_is | kernel_rfl)
    (case xb_NoWares => first | k_is | kernel_rfl)
    (case xc_NoWares => first | k_is | kernel_rfl)
    (case xd_NoWares => first | k_is | kernel_rfl)
    (case xa_NoOffer => first | k_is | kernel_rfl)
    (case xb_NoOffer => first | k_is | kernel_rfl)
    (case xc_NoOffer => first | k_is | kernel_rfl)
    (case xd_NoOffer => first | k_is | kernel_rfl)
    (case xa_Unlike => first | k_is | kernel_rfl)
    (case xb_Unlike => first | k_is | kernel_rfl)
    (case xc_Unlike => first | k_is | kernel_rfl)
    (case xd_Unlike => first | k_is | kernel_rfl)
    (case xa_NoText => first | k_is | kernel_rfl)
    (case xb_NoText => first | k_is | kernel_rfl)
    (case xc_NoText => first | k_is | kernel_rfl)
    (case xd_NoText => first | k_is | kernel_rfl)
    (case xa_NoRow => first | k_is | kernel_rfl)
    (case xb_NoRow => first | k_is | kernel_rfl)
    (case xc_NoRow => first | k_is | kernel_rfl)
    (case xd_NoRow => first | k_is | kernel_rfl)
    (case xa_NoName => first | k_is | kernel_rfl)
    (case xb_NoName => first | k_is | kernel_rfl)
    (case xc_NoName => first | k_is | kernel_rfl)
    (case xd_NoName => first | k_is | kernel_rfl)
    (case k_NoWares_WoodError => first | k_is | kernel_rfl)
    (case k_NoWares_NoWood => first | k_is | kernel_rfl)
    (case k_NoWares_NoCount => first | k_is | kernel_rfl)
    (case k_NoWares_NoWares => first | k_is | kernel_rfl)
    (case k_NoWares_NoOffer => first | k_is | kernel_rfl)
    (case k_NoWares_Unlike => first | k_is | kernel_rfl)
    (case k_NoWares_NoText => first | k_is | kernel_rfl)
    (case k_NoWares_NoRow => first | k_is | kernel_rfl)
    (case k_NoWares_NoName => first | k_is | kernel_rfl)
    (case v_NoWares => first | k_is | kernel_rfl)
    (case s_NoWares_WoodError => first | k_is | kernel_rfl)
    (case k_NoOffer_WoodError => first | k_is | kernel_rfl)
    (case k_NoOffer_NoWood => first | k_is | kernel_rfl)
    (case k_NoOffer_NoCount => first | k_is | kernel_rfl)
    (case k_NoOffer_NoWares => first | k_is | kernel_rfl)
    (case k_NoOffer_NoOffer => first | k_is | kernel_rfl)
    (case k_NoOffer_Unlike => first | k_is | kernel_rfl)
    (case k_NoOffer_NoText => first | k_is | kernel_rfl)
    (case k_NoOffer_NoRow => first | k_is | kernel_rfl)
    (case k_NoOffer_NoName => first | k_is | kernel_rfl)
    (case v_NoOffer => first | k_is | kernel_rfl)
    (case s_NoOffer_WoodError => first | k_is | kernel_rfl)
  case K0 => intro w; kernel_rfl
  case hT =>
    intro w h Y q hq
    simp only [List.mem_cons, List.not_mem_nil, or_false] at hq
    subst hq
    exact ⟨PySem.W.codeHd_of_K (PySem.W.km_in_of Y) (by kernel_rfl), PySem.W.km_tabs_of Y _ (by decide)⟩
#print axioms PySem.Challenge.cw_optionwood_k41_deeds_of_a_choice_holds
