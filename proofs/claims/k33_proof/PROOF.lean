import PyProof.Rows.All
import Wide.All
import OpenK.AllK
import Wide.FinOn
import Lean
import PyProof.EqAt
import PyProof.EqKinds
import PyProof.TupleCall
import PySem.Challenge.RW_optionwood_k33_standing_of_options

set_option Elab.async false
set_option linter.all false
set_option maxRecDepth 100000
/-! THE HAND LAYER, for ints, bools, texts, own classes, LISTS and tuples (index, slices, in, append, pop ..), calls, loops. Paste it whole ahead of your own text; what your proof does not reach may be deleted. -/
namespace L2
open PySem PySem.Spec PyProof.Rows

/-- a key: an int or a str -/
abbrev Key := Sum Int Str
def keyIs : Key → Value → Bool
  | .inl k, v => Value.isInt k v
  | .inr x, v => Value.isStrOf x v
def keyH (w : World) : Key → Int
  | .inl k => hashInt k
  | .inr x => hashStr w x
theorem keyIs_shape : ∀ {k : Key} {v : Value}, keyIs k v = true → (∃ i t, k = Sum.inl i ∧ v = Value.int i t) ∨ (∃ x t, k = Sum.inr x ∧ v = Value.str x t)
  | .inl i, v, h => by
    obtain ⟨t, e⟩ := Value.isInt_shape (k := i) (v := v) h
    exact .inl ⟨i, t, rfl, e⟩
  | .inr x, v, h => by
    obtain ⟨t, e⟩ := Value.isStrOf_shape (x := x) (v := v) h
    exact .inr ⟨x, t, rfl, e⟩
theorem key_ll (a b : Int) : decide ((Sum.inl a : Key) = Sum.inl b) = (a == b) := by
  by_cases e : a = b
  · subst e; simp
  · have h : ¬ (Sum.inl a : Key) = Sum.inl b := fun q => e (Sum.inl.inj q)
    rw [decide_eq_false h]
    exact (beq_eq_false_iff_ne.mpr e).symm
theorem key_rr (a b : Str) : decide ((Sum.inr a : Key) = Sum.inr b) = decide (a = b) := by
  by_cases e : a = b
  · subst e; simp
  · have h : ¬ (Sum.inr a : Key) = Sum.inr b := fun q => e (Sum.inr.inj q)
    rw [decide_eq_false h, decide_eq_false e]
theorem key_lr (a : Int) (b : Str) : decide ((Sum.inl a : Key) = Sum.inr b) = false := decide_eq_false (fun q => nomatch q)
theorem key_rl (a : Str) (b : Int) : decide ((Sum.inr a : Key) = Sum.inl b) = false := decide_eq_false (fun q => nomatch q)

def mixKind (prog : Program) (w : World) : PySem.KeyKind prog w Key where
  is := keyIs
  hash := keyH w
  inj := fun v a b ha hb => by
    rcases keyIs_shape ha with ⟨i, t, rfl, rfl⟩ | ⟨x, t, rfl, rfl⟩
    · rcases keyIs_shape hb with ⟨j, u, rfl, e⟩ | ⟨y, u, rfl, e⟩
      · injection e with e1 _; rw [e1]
      · exact nomatch e
    · rcases keyIs_shape hb with ⟨j, u, rfl, e⟩ | ⟨y, u, rfl, e⟩
      · exact nomatch e
      · injection e with e1 _; rw [e1]
  byValue := fun k v h => by
    rcases keyIs_shape h with ⟨i, t, rfl, rfl⟩ | ⟨x, t, rfl, rfl⟩ <;> rfl
  pyHash := fun hv h => by
    rcases keyIs_shape hv with ⟨i, t, rfl, rfl⟩ | ⟨x, t, rfl, rfl⟩
    · exact wpAny_pyHash_int h
    · exact wpAny_pyHash_str h
  eqBool := fun hu hv h => by
    rcases keyIs_shape hu with ⟨i, t, rfl, rfl⟩ | ⟨x, t, rfl, rfl⟩
    · rcases keyIs_shape hv with ⟨j, u, rfl, rfl⟩ | ⟨y, u, rfl, rfl⟩
      · rw [key_ll] at h; exact wpAny_eqBool_int h
      · rw [key_lr] at h; exact SeqAt.EqAt.int_str i t y u _ _ _ _ h
    · rcases keyIs_shape hv with ⟨j, u, rfl, rfl⟩ | ⟨y, u, rfl, rfl⟩
      · rw [key_rl] at h; exact SeqAt.EqAt.str_int x t j u _ _ _ _ h
      · rw [key_rr] at h; exact wpAny_eqBool_str h
  «strs» := fun k x t v h => by
    rcases keyIs_shape h with ⟨i, u, rfl, e⟩ | ⟨y, u, rfl, e⟩
    · exact nomatch e
    · injection e with e1 _
      subst e1
      cases v <;> rfl

end L2

namespace L2
open PySem PySem.Spec PyProof.Rows

/-- a value, without the heap -/
inductive V where
  | non | bl (b : Bool) | int (i : Int) | str (x : Str) | byt (b : Array UInt8) | flt (b : UInt64) | ref (a : Addr) | ty (n : String)
  deriving DecidableEq

def RelV : V → Value → Prop
  | .non, u => u = Value.none
  | .bl b, u => u = Value.bool b
  | .int i, u => ∃ t, u = Value.int i t
  | .str x, u => ∃ t, u = Value.str x t
  | .byt b, u => ∃ t, u = Value.bytes b t
  | .flt b, u => ∃ t, u = Value.float b t
  | .ref a, u => u = Value.ref a
  | .ty n, u => u = Value.type n

abbrev Vals : List V → List Value → Prop := Paired RelV
theorem Vals.length {xs : List V} {us : List Value} (r : Vals xs us) : xs.length = us.length := Paired.length r
theorem Vals.get : ∀ {xs : List V} {us : List Value} {i : Nat} {x : V}, Vals xs us → xs[i]? = some x → ∃ u, us[i]? = some u ∧ RelV x u
  | _, _, _, _, .nil, e => by simp at e
  | _, _, 0, _, .cons r _, e => by simp at e; subst e; exact ⟨_, rfl, r⟩
  | _, _, i + 1, x, .cons _ t, e => by
    obtain ⟨u, h1, h2⟩ := Vals.get (i := i) (x := x) t (by simpa using e)
    exact ⟨u, by simpa using h1, h2⟩
theorem Vals.set {x : V} {u : Value} (r : RelV x u) : ∀ {xs : List V} {us : List Value} (i : Nat), Vals xs us → Vals (xs.set i x) (us.set i u)
  | _, _, _, .nil => .nil
  | _, _, 0, .cons _ t => .cons r t
  | _, _, i + 1, .cons q t => .cons q (Vals.set r i t)
theorem Vals.append : ∀ {xs ys : List V} {us ws : List Value}, Vals xs us → Vals ys ws → Vals (xs ++ ys) (us ++ ws)
  | _, _, _, _, .nil, s => s
  | _, _, _, _, .cons r t, s => .cons r (Vals.append t s)
theorem Vals.take : ∀ {xs : List V} {us : List Value} (n : Nat), Vals xs us → Vals (xs.take n) (us.take n)
  | _, _, 0, _ => .nil
  | _, _, _ + 1, .nil => .nil
  | _, _, n + 1, .cons r t => .cons r (Vals.take n t)
theorem Vals.drop : ∀ {xs : List V} {us : List Value} (n : Nat), Vals xs us → Vals (xs.drop n) (us.drop n)
  | _, _, 0, r => r
  | _, _, _ + 1, .nil => .nil
  | _, _, n + 1, .cons _ t => Vals.drop n t
def RelO : Option V → Option Value → Prop
  | some v, some u => RelV v u
  | none, none => True
  | _, _ => False
def KV {κ : Type} : List (κ × V) → List (κ × Value) → Prop := Paired fun (p : κ × V) (q : κ × Value) => p.1 = q.1 ∧ RelV p.2 q.2

/-- a key of a dict (00_mix): an int or a text -/
def kV : Key → V
  | .inl i => .int i
  | .inr x => .str x

/-- what stands at a tracked address -/
inductive HO where
  /-- a list -/
  | lst (xs : List V)
  /-- a tuple (never changes) -/
  | tup (xs : List V)
  /-- a dict whose keys are ints and texts; one whose keys are tuples of ints and texts (the empty one is both) -/
  | dK (kvs : List (Key × V)) | dT (kvs : List (List Key × V))
  /-- a set of ints: its members, its size -/
  | set (S : Int → Bool) (n : Nat)
  /-- an instance of the class at C, its dict at dx, its attributes -/
  | ins (C dx : Addr) (fs : List (Str × V))
  /-- the dict of the instance at x -/
  | own (x : Addr)
  /-- the dict of an exception -/
  | xd (fs : List (Str × V))
  /-- a bound method, f of x -/
  | met (f x : Addr)
  /-- a range object lo, lo + 1, .. below hi -/
  | rng (lo hi : Int)
  /-- a thing that is known to the object (the script; a dict while a loop walks it): read, never written while it is so -/
  | frz (o : Obj) (u : HO)
  /-- a code object's table -/
  | tbl (ps : Array Value)
  /-- any other thing, by what is true of its one object (a def of one's own: SetO a S n := HO.ext fun h => ..) -/
  | ext (φ : Heap → Prop)

abbrev Hp := Addr → Option HO
def upd (H : Hp) (a : Addr) (o : HO) : Hp := fun b => if b = a then some o else H b
theorem upd_same {H : Hp} {a : Addr} {o : HO} : upd H a o a = some o := by unfold upd; rw [if_pos rfl]
theorem upd_ne {H : Hp} {a b : Addr} {o : HO} (h : b ≠ a) : upd H a o b = H b := by unfold upd; rw [if_neg h]
/-- two objects of different content stand apart -/
theorem ne_of {H : Hp} {a b : Addr} {o u : HO} (h : H a = some o) (h' : H b = some u) (d : o ≠ u) : a ≠ b := by
  intro e; subst e; rw [h] at h'; exact d (Option.some.inj h')
theorem ne_of_none {H : Hp} {a b : Addr} {o : HO} (h : H a = some o) (h' : H b = none) : a ≠ b := by
  intro e; subst e; rw [h] at h'; cases h'

section
variable (P : Program) (w : World)
def ObjOk (H : Hp) (h : Heap) (a : Addr) : HO → Prop
  | .lst xs => xs.length ≤ sizeLine ∧ ∃ (its : List Value) (n : Nat), Vals xs its ∧ h.get? a = some { cls := .type "list", data := .seq its.toArray n }
  | .tup xs => xs.length ≤ sizeLine ∧ ∃ its : List Value, Vals xs its ∧ IsTup h a its.toArray
  | .dK kvs => kvs.length ≤ sizeLine ∧ (a == sysModules) = false ∧ ∃ vs, KV kvs vs ∧ h.DictOf (mixKind P w) a vs
  | .dT kvs => kvs.length ≤ sizeLine ∧ (a == sysModules) = false ∧ ∃ xs : List (List Key × Addr × Value),
      Paired (fun (p : List Key × V) (q : List Key × Addr × Value) => p.1 = q.1 ∧ H q.2.1 = some (.tup (p.1.map kV)) ∧ RelV p.2 q.2.2) kvs xs ∧
      ∃ o es ep, h.get? a = some o ∧ o.ExactDict ∧ o.data = .dict es ep ∧ es.toList = xs.map (entryOfKey (tupleKind (mixKind P w))) ∧ (xs.map (·.1)).Nodup
  | .set S n => h.SetOf (intKind P w) a S n
  | .ins C dx fs => H dx = some (.own a) ∧ fs.length ≤ 1000 ∧ dx ≠ a ∧ h.get? a = some (PySem.W.instObj C dx) ∧
      ∃ mA, h.Ns1 dx mA ∧ (∀ f, RelO (fs.lookup f) (mA f)) ∧ PySem.Within mA (fs.map (·.1))
  | .own _ => ∃ o, h.get? a = some o
  | .xd fs => ∃ mA, h.Ns1 a mA ∧ ∀ f, RelO (fs.lookup f) (mA f)
  | .rng lo hi => ∃ t u v, h.get? a = some { cls := .type "range", data := .fields #[.int lo t, .int hi u, .int 1 v] }
  | .frz o u => h.get? a = some o ∧ ObjOk H h a u
  | .tbl ps => h.get? a = some { cls := .none, data := .fields ps }
  | .met f x => h.get? a = some (PySem.W.methodObj (.ref f) (.ref x))
  | .ext φ => φ h ∧ (∃ o, h.get? a = some o) ∧ ∀ h1 h2 : Heap, φ h1 → (∀ o, h1.get? a = some o → h2.get? a = some o) → φ h2
/-- the abstract heap is held -/
def HOk (H : Hp) (h : Heap) : Prop := ∀ a o, H a = some o → ObjOk P w H h a o
end

section
variable {P : Program} {w : World} {H H' : Hp} {h h' : Heap} {a : Addr} {o : HO}
theorem ObjOk.lt (x : ObjOk P w H h a o) : a < h.objs.size := by
  cases o with
  | lst xs => obtain ⟨_, _, _, _, e⟩ := x; exact Heap.lt_size e
  | tup xs => obtain ⟨_, _, _, p⟩ := x; exact p.lt
  | dK kvs => obtain ⟨_, _, _, _, o, _, _, e, _⟩ := x; exact Heap.lt_size e
  | dT kvs => obtain ⟨_, _, _, _, o, _, _, e, _⟩ := x; exact Heap.lt_size e
  | set S n => obtain ⟨o, _, _, _, e, _⟩ := x; exact Heap.lt_size e
  | ins C dx fs => obtain ⟨_, _, _, e, _⟩ := x; exact Heap.lt_size e
  | own y => obtain ⟨_, e⟩ := x; exact Heap.lt_size e
  | xd fs => obtain ⟨_, ⟨_, _, _, e, _⟩, _⟩ := x; exact Heap.lt_size e
  | rng lo hi => obtain ⟨_, _, _, e⟩ := x; exact Heap.lt_size e
  | frz ob u => obtain ⟨e, _⟩ := x; exact Heap.lt_size e
  | tbl ps => exact Heap.lt_size (show h.get? a = some _ from x)
  | met f y => exact Heap.lt_size (show h.get? a = some _ from x)
  | ext φ => obtain ⟨_, ⟨_, e⟩, _⟩ := x; exact Heap.lt_size e
theorem Paired.mapP {α β : Type} {F G : α → β → Prop} : ∀ {l₁ : List α} {l₂ : List β}, Paired F l₁ l₂ → (∀ a b, F a b → G a b) → Paired G l₁ l₂
  | _, _, .nil, _ => .nil
  | _, _, .cons r t, f => .cons (f _ _ r) (Paired.mapP t f)
/-- what an object's description leans on: its own object, its own dict, the tuples -/
theorem ObjOk.stay (x : ObjOk P w H h a o) (k : ∀ b u, (b = a ∨ H b = some (.own a)) → h.get? b = some u → h'.get? b = some u)
    (ho : ∀ b, H b = some (.own a) → H' b = some (.own a)) (ht : ∀ b xs, H b = some (.tup xs) → H' b = some (.tup xs)) : ObjOk P w H' h' a o := by
  induction o with
  | lst xs => obtain ⟨z, its, n, r, e⟩ := x; exact ⟨z, its, n, r, k _ _ (.inl rfl) e⟩
  | tup xs => obtain ⟨z, its, r, ob, e, c⟩ := x; exact ⟨z, its, r, ob, k _ _ (.inl rfl) e, c⟩
  | dK kvs => obtain ⟨z, y, vs, r, ob, es, ep, e, c⟩ := x; exact ⟨z, y, vs, r, ob, es, ep, k _ _ (.inl rfl) e, c⟩
  | dT kvs =>
    obtain ⟨z, y, xs, r, ob, es, ep, e, c⟩ := x
    exact ⟨z, y, xs, Paired.mapP r fun p q z => ⟨z.1, ht _ _ z.2.1, z.2.2⟩, ob, es, ep, k _ _ (.inl rfl) e, c⟩
  | set S n => obtain ⟨ob, es, ep, t, e, c⟩ := x; exact ⟨ob, es, ep, t, k _ _ (.inl rfl) e, c⟩
  | ins C dx fs =>
    obtain ⟨d, z, ne, e, mA, ⟨od, es, ep, e2, c⟩, r⟩ := x
    exact ⟨ho _ d, z, ne, k _ _ (.inl rfl) e, mA, ⟨od, es, ep, k _ _ (.inr d) e2, c⟩, r⟩
  | own y => obtain ⟨ob, e⟩ := x; exact ⟨ob, k _ _ (.inl rfl) e⟩
  | xd fs => obtain ⟨mA, ⟨od, es, ep, e, c⟩, r⟩ := x; exact ⟨mA, ⟨od, es, ep, k _ _ (.inl rfl) e, c⟩, r⟩
  | rng lo hi => obtain ⟨t, u, v, e⟩ := x; exact ⟨t, u, v, k _ _ (.inl rfl) e⟩
  | frz ob u ih => obtain ⟨e, q⟩ := x; exact ⟨k _ _ (.inl rfl) e, ih q⟩
  | tbl ps =>
    have e : h.get? a = some { cls := .none, data := .fields ps } := x
    show h'.get? a = some { cls := .none, data := .fields ps }
    exact k a _ (.inl rfl) e
  | met f y =>
    have e : h.get? a = some (PySem.W.methodObj (.ref f) (.ref y)) := x
    show h'.get? a = some (PySem.W.methodObj (.ref f) (.ref y))
    exact k a _ (.inl rfl) e
  | ext φ => obtain ⟨p, ⟨o, e⟩, st⟩ := x; exact ⟨st _ _ p fun o q => k _ _ (.inl rfl) q, ⟨o, k _ _ (.inl rfl) e⟩, st⟩
theorem HOk.lt (x : HOk P w H h) (e : H a = some o) : a < h.objs.size := (x a o e).lt
theorem HOk.fresh (x : HOk P w H h) (e : h.objs.size ≤ a) : H a = none := by
  cases q : H a with
  | none => rfl
  | some u => exact absurd (Nat.lt_of_lt_of_le (x.lt q) e) (Nat.lt_irrefl _)
/-- every object of the heap is kept -/
theorem HOk.kept (x : HOk P w H h) (k : ∀ b u, h.get? b = some u → h'.get? b = some u) : HOk P w H h' := fun a o e =>
  (x a o e).stay (fun b u _ q => k b u q) (fun _ q => q) fun _ _ q => q
/-- a new object is laid and tracked -/
theorem HOk.laid (x : HOk P w H h) (k : ∀ b u, h.get? b = some u → h'.get? b = some u) (hp : h.objs.size ≤ a) (new : ObjOk P w (upd H a o) h' a o) : HOk P w (upd H a o) h' := fun b u e => by
  have hn := x.fresh hp
  by_cases hb : b = a
  · subst hb; rw [upd_same] at e; cases e; exact new
  · rw [upd_ne hb] at e
    exact (x b u e).stay (fun c v _ q => k c v q) (fun c q => by rw [upd_ne (ne_of_none q hn)]; exact q) fun c xs q => by rw [upd_ne (ne_of_none q hn)]; exact q
end

/-- what may be read as u: it is u, or a known u -/
def Rd (H : Hp) (a : Addr) (u : HO) : Prop := H a = some u ∨ ∃ o, H a = some (.frz o u)
theorem Rd.ok {P : Program} {w : World} {H : Hp} {h : Heap} {a : Addr} {u : HO} (r : Rd H a u) (x : HOk P w H h) : ObjOk P w H h a u := by
  rcases r with r | ⟨o, r⟩
  · exact x a u r
  · obtain ⟨_, q⟩ := x a _ r
    exact q
/-- what may be written -/
def Mut : Option HO → Prop
  | some (.lst _) => True
  | some (.dK _) => True
  | some (.dT _) => True
  | some (.set _ _) => True
  | some (.ins _ _ _) => True
  | some (.ext _) => True
  | _ => False
section
variable {P : Program} {w : World} {H : Hp} {h h' : Heap} {x e : Addr} {o' : HO}
/-- the object at e is changed: x itself, or the dict of the instance x -/
theorem HOk.write (ok : HOk P w H h) (mu : Mut (H x)) (he : e = x ∨ H e = some (.own x)) (k : ∀ b u, b ≠ e → h.get? b = some u → h'.get? b = some u) (heo : ∃ u, h'.get? e = some u)
    (new : ObjOk P w (upd H x o') h' x o') : HOk P w (upd H x o') h' := fun b u q => by
  have nown : ∀ c y, H c = some (.own y) → c ≠ x := fun c y r z => by subst z; rw [r] at mu; exact mu
  have ntup : ∀ c xs, H c = some (.tup xs) → c ≠ x := fun c xs r z => by subst z; rw [r] at mu; exact mu
  by_cases hb : b = x
  · subst hb; rw [upd_same] at q; cases q; exact new
  · rw [upd_ne hb] at q
    by_cases hbe : b = e
    · have q' : H b = some (.own x) := by
        rcases he with z | z
        · exact absurd (hbe.trans z) hb
        · rw [hbe]; exact z
      rw [q] at q'; cases q'
      obtain ⟨v, hv⟩ := heo
      exact ⟨v, by rw [hbe]; exact hv⟩
    · refine (ok b u q).stay (fun c v hc r => k c v ?_ r) (fun c r => by rw [upd_ne (nown c b r)]; exact r) fun c xs r => by rw [upd_ne (ntup c xs r)]; exact r
      rcases hc with rfl | hc
      · exact hbe
      · rintro rfl
        rcases he with z | z
        · exact nown c b hc z
        · rw [hc] at z; cases z; exact hb rfl
end

/-! ### kept unless tracked; of the frames at fs (the callers') the slots may change (an exception that passes writes there); of the records at ex (iterators) nothing is said -/
structure Un (fs ex : List Addr) (H H' : Hp) (h h' : Heap) : Prop where
  keep : ∀ b o, h.get? b = some o → H b = none → b ∉ fs → b ∉ ex → h'.get? b = some o
  slot : ∀ b o, h.get? b = some o → H b = none → b ∈ fs → b ∉ ex → ∃ sl, h'.get? b = some { o with slots := sl }
  free : ∀ b o, h.get? b = some o → H b = none → b ∉ ex → H' b = none
  there : ∀ b o, h.get? b = some o → b ∉ ex → ∃ o', h'.get? b = some o'
  tups : ∀ b xs, H b = some (.tup xs) → H' b = some (.tup xs)
  frzs : ∀ b o u, H b = some (.frz o u) → H' b = some (.frz o u)
  tbls : ∀ b ps, H b = some (.tbl ps) → ∃ more, H' b = some (.tbl (ps ++ more))
section
variable {fs fs' ex ex' : List Addr} {H H1 H2 : Hp} {h h1 h2 h' : Heap} {a x e : Addr} {o : HO}
theorem Un.any (u : Un fs ex H H1 h h1) {b : Addr} {ob : Obj} (q : h.get? b = some ob) (n : H b = none) (hx : b ∉ ex) : ∃ sl, h1.get? b = some { ob with slots := sl } := by
  by_cases hb : b ∈ fs
  · exact u.slot b ob q n hb hx
  · exact ⟨ob.slots, u.keep b ob q n hb hx⟩
theorem Un.kept (k : ∀ b u, h.get? b = some u → h'.get? b = some u) : Un fs ex H H h h' :=
  ⟨fun b ob q _ _ _ => k b ob q, fun b ob q _ _ _ => ⟨ob.slots, k b ob q⟩, fun _ _ _ n _ => n, fun b ob q _ => ⟨ob, k b ob q⟩, fun _ _ q => q, fun _ _ _ q => q, fun _ ps q => ⟨#[], by rw [q]; simp⟩⟩
theorem Un.refl : Un fs ex H H h h := Un.kept fun _ _ q => q
theorem Un.laid (k : ∀ b u, h.get? b = some u → h'.get? b = some u) (hp : h.objs.size ≤ a) (hn : H a = none) : Un fs ex H (upd H a o) h h' where
  keep := fun b u q _ _ _ => k b u q
  slot := fun b u q _ _ _ => ⟨u.slots, k b u q⟩
  free := fun b u q n _ => by rw [upd_ne (Nat.ne_of_lt (Nat.lt_of_lt_of_le (Heap.lt_size q) hp))]; exact n
  there := fun b u q _ => ⟨u, k b u q⟩
  tups := fun b xs q => by rw [upd_ne (ne_of_none q hn)]; exact q
  frzs := fun b u xs q => by rw [upd_ne (ne_of_none q hn)]; exact q
  tbls := fun b ps q => ⟨#[], by rw [upd_ne (ne_of_none q hn), q]; simp⟩
theorem Un.write (mu : Mut (H x)) (he : e = x ∨ H e = some (.own x)) (k : ∀ b u, b ≠ e → h.get? b = some u → h'.get? b = some u) (heo : ∃ u, h'.get? e = some u) : Un fs ex H (upd H x o) h h' := by
  have hx : ∀ b, H b = none → b ≠ x := fun b n z => by subst z; rw [n] at mu; exact mu
  have hb : ∀ b, H b = none → b ≠ e := fun b n z => by
    subst z
    rcases he with r | r
    · exact hx b n r
    · rw [n] at r; cases r
  have hm : ∀ b u, H b = some u → ¬ Mut (some u) → b ≠ x := fun b u q nm z => by subst z; rw [q] at mu; exact nm mu
  refine ⟨fun b u q n _ _ => k b u (hb b n) q, fun b u q n _ _ => ⟨u.slots, k b u (hb b n) q⟩, fun b u q n _ => by rw [upd_ne (hx b n)]; exact n, fun b u q _ => ?_,
    fun b xs q => by rw [upd_ne (hm b _ q fun z => z)]; exact q, fun b u xs q => by rw [upd_ne (hm b _ q fun z => z)]; exact q, fun b ps q => ⟨#[], by rw [upd_ne (hm b _ q fun z => z), q]; simp⟩⟩
  by_cases hbe : b = e
  · subst hbe; exact heo
  · exact ⟨u, k b u hbe q⟩
end

/-! ### the heap without what is tracked -/
def trk (h : Heap) (H : Hp) : List Addr := (List.range h.objs.size).filter fun a => (H a).isSome
def hidT (h : Heap) (H : Hp) : Heap := PySem.W.hideAll h (trk h H)
theorem hidT_size (h : Heap) (H : Hp) : (hidT h H).objs.size = h.objs.size := PySem.W.hideAll_size _ _
theorem hidT_get {h : Heap} {H : Hp} {b : Addr} {o : Obj} (e : h.get? b = some o) (n : H b = none) : (hidT h H).get? b = some o :=
  PySem.W.hideAll_get _ e fun hm => by
    have q : (H b).isSome = true := (List.mem_filter.mp hm).2
    rw [n] at q; simp at q
theorem of_hidT {h : Heap} {H : Hp} {b : Addr} {o : Obj} (e : (hidT h H).get? b = some o) : h.get? b = some o ∧ H b = none := by
  have e' : h.get? b = some o := PySem.W.of_hideAll (trk h H) e
  refine ⟨e', ?_⟩
  cases q : H b with
  | none => rfl
  | some x =>
    have hm : b ∈ trk h H := List.mem_filter.mpr ⟨List.mem_range.mpr (Heap.lt_size e'), by simp [q]⟩
    have z : (hidT h H).get? b = none := PySem.W.hideAll_none (trk h H) hm
    rw [z] at e; cases e

/-! ### OpenK's ledger, filled with every new object but one -/
end L2

namespace L2
open PySem PySem.Spec PyProof.Rows

/-- the module's facts, over the base: the heap at the law's entry without what is tracked there -/
structure Mod (K : PySem.W.Frag) (mg : Str → Option Value) (base : Heap) : Prop where
  kin : K.In base
  glob : base.Ns mainGlobals mg
  blt : ∃ mb, base.Ns builtinsNs mb ∧ ∀ x : Str, x ≠ "__name__" → mb x = bootBuiltins x
  nolimit : base.NoLimit

/-- the context: a def's body (or a comprehension's block) running. base: fixed through the whole law; s₀, H₀: the entry; outer: the frames whose slots others may change (a def's callers); stack: all frames that run;
   ex: iterators that were made ahead of the entry and are walked here (a comprehension's); fn: the names whose cells were made at the entry (a def: all; a comprehension's block: its own); calm: not within an except suite; pn: pins that every state bears; xe: what is wanted of an exception that leaves the code -/
structure Cx where
  prog : Program
  w : World
  K : PySem.W.Frag
  mg : Str → Option Value
  base : Heap
  A : Around
  N : List Str
  s₀ : Shared
  H₀ : Hp
  env : Env
  outer : List Env
  stack : List Env
  ex : List Addr
  fn : Str → Bool
  calm : Bool
  pn : List (Addr × Obj)
  xe : Value → Shared → Prop
/-- the callers' frames -/
def frs (l : List Env) : List Addr := l.filterMap (·.frame)
abbrev Cx.fs (X : Cx) : List Addr := frs X.outer

def Vis (sc : Scope) (x : Str) : Prop := sc.names.lookup x = some .local ∨ sc.names.lookup x = some .cell ∨ sc.names.lookup x = some .free
def Loc (sc : Scope) (x : Str) : Prop := sc.names.lookup x = some .local ∨ sc.names.lookup x = some .cell
def Look (env : Env) (h : Heap) (m : Str → Option Value) (x : Str) (u : Value) : Prop :=
  (env.kindOf x = some .local ∧ m x = some u) ∨ ((env.kindOf x = some .cell ∨ env.kindOf x = some .free) ∧ ∃ c, env.cells.lookup x = some c ∧ h.IsCell c (some u))

structure Cx.Ok (X : Cx) : Prop where
  mod : Mod X.K X.mg X.base
  kind : X.env.scope.kind = .function
  glob : X.env.globals = mainGlobals
  blt : X.env.builtins = builtinsNs
  above : X.s₀.heap.objs.size ≤ X.env.locals
  inj : ∀ x y c, X.env.cells.lookup x = some c → X.env.cells.lookup y = some c → x = y
  has : ∀ x, (X.env.kindOf x = some .cell ∨ X.env.kindOf x = some .free) → ∃ c, X.env.cells.lookup x = some c
  cab : ∀ x c, X.fn x = true → X.env.cells.lookup x = some c → X.s₀.heap.objs.size ≤ c
  hd : X.calm = true → X.A.handled = none
  frames : X.A.frames = some X.stack
  stk : X.stack = X.outer ∨ (X.stack = X.env :: X.outer ∧ X.env.frame = some X.env.locals)
  exf : ∀ b ∈ X.ex, b ≠ X.env.locals ∧ ∀ x c, X.env.cells.lookup x = some c → c ≠ b
  bs : ∀ b o, X.base.get? b = some o → X.s₀.heap.get? b = some o ∧ X.H₀ b = none
  bsz : X.base.objs.size ≤ X.s₀.heap.objs.size
  noex : ∀ b o, X.base.get? b = some o → b ∉ X.ex
  exfs : ∀ b ∈ X.ex, b ∉ X.fs
  funs : X.s₀.heap.FunFrames X.base X.outer
  frf : ∀ b ∈ X.fs, X.H₀ b = none

structure Inv (X : Cx) (pins : List (Addr × Obj)) (σ : List (Option V)) (H : Hp) (s : Shared) : Prop where
  ok : X.Ok
  os : s.os = X.s₀.os
  bare : AllBare s.gens
  base : Un X.fs X.ex X.H₀ H X.s₀.heap s.heap
  loc : ∃ m, s.heap.Ns X.env.locals m ∧ ∀ (i : Nat) (x : Str) (v : V), X.N[i]? = some x → σ[i]? = some (some v) → Vis X.env.scope x → ∃ u, RelV v u ∧ Look X.env s.heap m x u
  cell : ∀ x c, X.env.cells.lookup x = some c → ∃ v, s.heap.IsCell c v
  free : H X.env.locals = none
  freeC : ∀ x c, X.env.cells.lookup x = some c → H c = none
  pin : ∀ p ∈ X.pn ++ pins, s.heap.get? p.1 = some p.2 ∧ H p.1 = none ∧ p.1 ≠ X.env.locals ∧ p.1 ∉ X.fs ∧ ∀ v, p.2.data ≠ .cell v
  hok : HOk X.prog X.w H s.heap
  len : σ.length = X.N.length

section
variable {X : Cx} {pins : List (Addr × Obj)} {σ : List (Option V)} {H H' : Hp} {s : Shared} {h' : Heap}

theorem Cx.Ok.nofr (ok : X.Ok) {b : Addr} {o : Obj} (e : X.base.get? b = some o) : b ∉ X.fs := fun hb => by
  have := (ok.funs.mem hb).1
  rw [e] at this; cases this
theorem Inv.bs (I : Inv X pins σ H s) : ∀ b o, X.base.get? b = some o → s.heap.get? b = some o ∧ H b = none := fun b o e =>
  ⟨I.base.keep b o (I.ok.bs b o e).1 (I.ok.bs b o e).2 (I.ok.nofr e) (I.ok.noex b o e), I.base.free b o (I.ok.bs b o e).1 (I.ok.bs b o e).2 (I.ok.noex b o e)⟩
theorem Inv.bk (I : Inv X pins σ H s) : ∀ b o, X.base.get? b = some o → s.heap.get? b = some o := fun b o e => (I.bs b o e).1
theorem Inv.mod (I : Inv X pins σ H s) : Mod X.K X.mg X.base := I.ok.mod
theorem Inv.kIn (I : Inv X pins σ H s) : X.K.In s.heap := I.ok.mod.kin.keeps I.bk
theorem Inv.lt (I : Inv X pins σ H s) : X.env.locals < s.heap.objs.size := let ⟨_, hn, _⟩ := I.loc; hn.lt
theorem Inv.sz (I : Inv X pins σ H s) : X.s₀.heap.objs.size ≤ s.heap.objs.size := Nat.le_trans I.ok.above (Nat.le_of_lt I.lt)
theorem Inv.nofs (I : Inv X pins σ H s) {a : Addr} (h : s.heap.objs.size ≤ a) : a ∉ X.fs := fun hb => by
  obtain ⟨_, o, ho, _⟩ := I.ok.funs.mem hb
  exact absurd (Nat.lt_of_lt_of_le (Heap.lt_size ho) (Nat.le_trans I.sz h)) (Nat.lt_irrefl _)
theorem Inv.cne (I : Inv X pins σ H s) : ∀ x c, X.env.cells.lookup x = some c → c ≠ X.env.locals := fun x c e z => by
  obtain ⟨v, o, ho, hd⟩ := I.cell x c e
  obtain ⟨m, ⟨o', es, ep, ho', hd', _⟩, _⟩ := I.loc
  rw [z, ho'] at ho; cases ho; rw [hd'] at hd; cases hd
theorem Inv.funs (I : Inv X pins σ H s) : s.heap.FunFrames X.base X.outer := by
  have all : ∀ (l : List Env), (∀ b ∈ frs l, b ∈ X.fs) → X.s₀.heap.FunFrames X.base l → s.heap.FunFrames X.base l := by
    intro l
    induction l with
    | nil => intro _ _; trivial
    | cons env r ih =>
      intro hs hl
      obtain ⟨hk, ⟨L, o, hf, hn, ho, hd⟩, hr⟩ := hl
      have hL : L ∈ X.fs := hs L (by unfold frs; rw [List.filterMap_cons, hf]; exact List.mem_cons_self)
      obtain ⟨sl, e⟩ := I.base.slot L o ho (I.ok.frf L hL) hL fun z => I.ok.exfs L z hL
      exact ⟨hk, ⟨L, _, hf, hn, e, hd⟩, ih (fun b hb => hs b (by unfold frs; rw [List.filterMap_cons, hf]; exact List.mem_cons_of_mem _ hb)) hr⟩
  exact all X.outer (fun _ hb => hb) I.ok.funs

/-- the frames that run, for a call -/
theorem Inv.stack (I : Inv X pins σ H s) : s.heap.FunFrames X.base X.stack := by
  rcases I.ok.stk with e | ⟨e, hf⟩
  · rw [e]; exact I.funs
  · rw [e]
    obtain ⟨m, hn, _⟩ := I.loc
    refine .cons (by rw [I.ok.kind]; decide) hf hn ?_ I.funs
    exact Heap.get?_none_of_le (Nat.le_trans I.ok.bsz I.ok.above)
theorem Inv.stkSub (I : Inv X pins σ H s) : ∀ b ∈ frs X.stack, b ∈ X.env.locals :: X.fs := fun b hb => by
  rcases I.ok.stk with e | ⟨e, hf⟩
  · rw [e] at hb; exact List.mem_cons_of_mem _ hb
  · rw [e] at hb
    unfold frs at hb
    rw [List.filterMap_cons, hf] at hb
    exact hb
theorem Inv.stkFree (I : Inv X pins σ H s) : ∀ b ∈ frs X.stack, H b = none := fun b hb => by
  rcases List.mem_cons.mp (I.stkSub b hb) with e | hb
  · rw [e]; exact I.free
  · obtain ⟨_, o, ho, _⟩ := I.ok.funs.mem hb
    exact I.base.free b o ho (I.ok.frf b hb) fun z => I.ok.exfs b z hb

/-- THE STEP: the untracked objects but the frame and the records at ch are kept (the callers' frames up to slots), the frame's map is kept, the new abstract heap is held -/
theorem Inv.step {g' : Array GenState} {t' : Nat} {d' : Drawn} {ch : List Addr} (I : Inv X pins σ H s)
    (hch : ∀ b ∈ ch, (b ∈ X.ex ∨ X.s₀.heap.objs.size ≤ b) ∧ b ≠ X.env.locals ∧ (∀ x c, X.env.cells.lookup x = some c → c ≠ b) ∧ ∀ p ∈ X.pn ++ pins, p.1 ≠ b)
    (keep : ∀ b o, b ≠ X.env.locals → b ∉ X.fs → b ∉ ch → s.heap.get? b = some o → H b = none → h'.get? b = some o)
    (slot : ∀ b o, b ≠ X.env.locals → b ∈ X.fs → b ∉ ch → s.heap.get? b = some o → H b = none → ∃ sl, h'.get? b = some { o with slots := sl }) (free : ∀ b o, b ∉ ch → s.heap.get? b = some o → H b = none → H' b = none)
    (there : ∀ b o, b ∉ ch → s.heap.get? b = some o → ∃ o', h'.get? b = some o')
    (tups : ∀ b xs, H b = some (.tup xs) → H' b = some (.tup xs)) (frzs : ∀ b o u, H b = some (.frz o u) → H' b = some (.frz o u)) (tbls : ∀ b ps, H b = some (.tbl ps) → ∃ more, H' b = some (.tbl (ps ++ more)))
    (ns : ∀ m, s.heap.Ns X.env.locals m → h'.Ns X.env.locals m) (hok : HOk X.prog X.w H' h') (hg : AllBare g') :
    Inv X pins σ H' { s with heap := h', gens := g', drawn := d', toks := t' } := by
  have neL : ∀ b o, X.s₀.heap.get? b = some o → b ≠ X.env.locals := fun b o e => Nat.ne_of_lt (Nat.lt_of_lt_of_le (Heap.lt_size e) I.ok.above)
  have neC : ∀ b o, X.s₀.heap.get? b = some o → b ∉ X.ex → b ∉ ch := fun b o e hx hb => by
    rcases (hch b hb).1 with z | z
    · exact hx z
    · exact absurd (Nat.lt_of_lt_of_le (Heap.lt_size e) z) (Nat.lt_irrefl _)
  have cellK : ∀ x c, X.env.cells.lookup x = some c → ∀ v, s.heap.IsCell c v → h'.IsCell c v := fun x c e v ⟨o, ho, hd⟩ => by
    have nch : c ∉ ch := fun z => (hch c z).2.2.1 x c e rfl
    by_cases hc : c ∈ X.fs
    · obtain ⟨sl, q⟩ := slot c o (I.cne x c e) hc nch ho (I.freeC x c e)
      exact ⟨_, q, hd⟩
    · exact ⟨o, keep c o (I.cne x c e) hc nch ho (I.freeC x c e), hd⟩
  refine ⟨I.ok, I.os, hg, ⟨fun b o e n hb hx => ?_, fun b o e n hb hx => ?_, fun b o e n hx => ?_, fun b o e hx => ?_, fun b xs e => tups b xs (I.base.tups b xs e), fun b o xs e => frzs b o xs (I.base.frzs b o xs e), fun b ps e => ?_⟩, ?_, fun x c e => ?_, ?_, fun x c e => ?_, fun p hp => ?_, hok, I.len⟩
  · exact keep b o (neL b o e) hb (neC b o e hx) (I.base.keep b o e n hb hx) (I.base.free b o e n hx)
  · obtain ⟨sl, e1⟩ := I.base.slot b o e n hb hx
    obtain ⟨sl', e2⟩ := slot b _ (neL b o e) hb (neC b o e hx) e1 (I.base.free b o e n hx)
    exact ⟨sl', e2⟩
  · obtain ⟨o', e1⟩ := I.base.there b o e hx
    exact free b o' (neC b o e hx) e1 (I.base.free b o e n hx)
  · obtain ⟨o', e1⟩ := I.base.there b o e hx
    exact there b o' (neC b o e hx) e1
  · obtain ⟨m1, e1⟩ := I.base.tbls b ps e
    obtain ⟨m2, e2⟩ := tbls b _ e1
    exact ⟨m1 ++ m2, by rw [e2, Array.append_assoc]⟩
  · obtain ⟨m, hn, hl⟩ := I.loc
    refine ⟨m, ns m hn, fun i x v e1 e2 e3 => ?_⟩
    obtain ⟨u, r, l⟩ := hl i x v e1 e2 e3
    refine ⟨u, r, ?_⟩
    rcases l with l | ⟨k, c, e, z⟩
    · exact .inl l
    · exact .inr ⟨k, c, e, cellK x c e _ z⟩
  · obtain ⟨v, z⟩ := I.cell x c e
    exact ⟨v, cellK x c e v z⟩
  · obtain ⟨m, ⟨o, _, _, ho, _⟩, _⟩ := I.loc
    exact free _ o (fun z => (hch _ z).2.1 rfl) ho I.free
  · obtain ⟨v, o, ho, hd⟩ := I.cell x c e
    exact free c o (fun z => (hch c z).2.2.1 x c e rfl) ho (I.freeC x c e)
  · obtain ⟨e, n, ne, nf, d⟩ := I.pin p hp
    have nch : p.1 ∉ ch := fun z => (hch p.1 z).2.2.2 p hp rfl
    exact ⟨keep p.1 p.2 ne nf nch e n, free p.1 p.2 nch e n, ne, nf, d⟩
/-- .. where the frame's own object is kept too -/
theorem Inv.un {t' : Nat} (I : Inv X pins σ H s) (u : Un X.fs [] H H' s.heap h') (hok : HOk X.prog X.w H' h') : Inv X pins σ H' { s with heap := h', toks := t' } := by
  obtain ⟨m, ⟨o, es, ep, ho, r⟩, _⟩ := id I.loc
  obtain ⟨sl, hL⟩ := u.any ho I.free (by simp)
  exact I.step (g' := s.gens) (d' := s.drawn) (ch := []) (fun _ z => nomatch z) (fun b o _ hb _ e n => u.keep b o e n hb (by simp)) (fun b o _ hb _ e n => u.slot b o e n hb (by simp)) (fun b o _ e n => u.free b o e n (by simp)) (fun b o _ e => u.there b o e (by simp)) u.tups u.frzs u.tbls (fun m' hm => by
    obtain ⟨o', es', ep', ho', r'⟩ := hm
    rw [ho] at ho'; cases ho'
    exact ⟨_, es', ep', hL, r'⟩) hok I.bare
/-- behind a call (or a comprehension's block): the slots of this frame may have changed too, the records at ch may have turned -/
theorem Inv.call {g' : Array GenState} {t' : Nat} {d' : Drawn} {ch : List Addr} (I : Inv X pins σ H s) (u : Un (frs X.stack) ch H H' s.heap h') (hok : HOk X.prog X.w H' h') (hg : AllBare g')
    (hch : ∀ b ∈ ch, (b ∈ X.ex ∨ X.s₀.heap.objs.size ≤ b) ∧ b ≠ X.env.locals ∧ (∀ x c, X.env.cells.lookup x = some c → c ≠ b) ∧ ∀ p ∈ X.pn ++ pins, p.1 ≠ b) :
    Inv X pins σ H' { s with heap := h', gens := g', drawn := d', toks := t' } := by
  obtain ⟨m, ⟨o, es, ep, ho, r⟩, _⟩ := id I.loc
  obtain ⟨sl, hL⟩ := u.any ho I.free fun z => (hch _ z).2.1 rfl
  exact I.step (ch := ch) hch (fun b o hL hb hc e n => u.keep b o e n (fun z => (List.mem_cons.mp (I.stkSub b z)).elim hL hb) hc) (fun b o _ _ hc e n => u.any e n hc) (fun b o hc e n => u.free b o e n hc) (fun b o hc e => u.there b o e hc) u.tups u.frzs u.tbls (fun m' hm => by
    obtain ⟨o', es', ep', ho', r'⟩ := hm
    rw [ho] at ho'; cases ho'
    exact ⟨_, es', ep', hL, r'⟩) hok hg
/-- an untracked record of ours (an iterator) has turned -/
theorem Inv.turned {t' : Nat} {it : Addr} (I : Inv X pins σ H s) (k : ∀ b o, b ≠ it → s.heap.get? b = some o → h'.get? b = some o) (hn : H it = none) (hL : it ≠ X.env.locals)
    (h1 : it ∈ X.ex ∨ X.s₀.heap.objs.size ≤ it) (h2 : ∀ x c, X.env.cells.lookup x = some c → c ≠ it) (h3 : ∀ p ∈ X.pn ++ pins, p.1 ≠ it) : Inv X pins σ H { s with heap := h', toks := t' } := by
  have nit : ∀ b u, H b = some u → b ≠ it := fun b u e z => by rw [z, hn] at e; cases e
  refine I.step (g' := s.gens) (d' := s.drawn) (ch := [it]) (fun b hb => ?_) (fun b o _ _ hc e _ => k b o (fun z => hc (by simp [z])) e) (fun b o _ _ hc e _ => ⟨o.slots, k b o (fun z => hc (by simp [z])) e⟩) (fun _ _ _ _ n => n)
    (fun b o hc e => ⟨o, k b o (fun z => hc (by simp [z])) e⟩) (fun _ _ e => e) (fun _ _ _ e => e) (fun b ps e => ⟨#[], by rw [e]; simp⟩) (fun m hm => ?_) (fun b u e => ?_) I.bare
  · have e : b = it := by simpa using hb
    subst e
    exact ⟨h1, hL, h2, h3⟩
  · obtain ⟨o, es, ep, ho, r⟩ := hm
    exact ⟨o, es, ep, k _ o (Ne.symm hL) ho, r⟩
  · refine (I.hok b u e).stay (fun c v hc q => k c v ?_ q) (fun _ q => q) fun _ _ q => q
    rcases hc with z | z
    · rw [z]; exact nit b u e
    · exact nit c _ z
theorem Inv.tok (I : Inv X pins σ H s) (t : Nat) : Inv X pins σ H { s with toks := t } := I.un (h' := s.heap) (t' := t) Un.refl I.hok
/-- all objects kept -/
theorem Inv.kept {t' : Nat} (I : Inv X pins σ H s) (k : ∀ b u, s.heap.get? b = some u → h'.get? b = some u) : Inv X pins σ H { s with heap := h', toks := t' } := I.un (Un.kept k) (I.hok.kept k)
/-- a new object laid and tracked -/
theorem Inv.laid {a : Addr} {o : HO} {t' : Nat} (I : Inv X pins σ H s) (k : ∀ b u, s.heap.get? b = some u → h'.get? b = some u) (hp : s.heap.objs.size ≤ a) (new : ObjOk X.prog X.w (upd H a o) h' a o) :
    Inv X pins σ (upd H a o) { s with heap := h', toks := t' } := I.un (Un.laid k hp (I.hok.fresh hp)) (I.hok.laid k hp new)
/-- an object written -/
theorem Inv.write {x e : Addr} {o : HO} {t' : Nat} (I : Inv X pins σ H s) (mu : Mut (H x)) (he : e = x ∨ H e = some (.own x)) (k : ∀ b u, b ≠ e → s.heap.get? b = some u → h'.get? b = some u) (heo : ∃ u, h'.get? e = some u)
    (new : ObjOk X.prog X.w (upd H x o) h' x o) : Inv X pins σ (upd H x o) { s with heap := h', toks := t' } := I.un (Un.write mu he k heo) (I.hok.write mu he k heo new)
theorem Inv.pins_of {pins' : List (Addr × Obj)} (I : Inv X pins σ H s) (h : ∀ p ∈ pins', s.heap.get? p.1 = some p.2 ∧ H p.1 = none ∧ p.1 ≠ X.env.locals ∧ p.1 ∉ X.fs ∧ ∀ v, p.2.data ≠ .cell v) : Inv X pins' σ H s :=
  ⟨I.ok, I.os, I.bare, I.base, I.loc, I.cell, I.free, I.freeC, fun p hp => (List.mem_append.mp hp).elim (fun z => I.pin p (List.mem_append_left _ z)) (h p), I.hok, I.len⟩

theorem nodup_ix {N : List Str} (hN : N.Nodup) {i j : Nat} {x : Str} (a : N[i]? = some x) (b : N[j]? = some x) : i = j := by
  obtain ⟨h1, e1⟩ := List.getElem?_eq_some_iff.mp a
  obtain ⟨h2, e2⟩ := List.getElem?_eq_some_iff.mp b
  exact (List.getElem_inj hN).mp (e1.trans e2.symm)

/-- a name is stored; what changed -/
theorem store_ok2 {M : Model} {A : Around} {E : Value → Shared → Prop} {i : Nat} {x : Str} {v : V} {u : Value} {Q : Unit → Shared → Prop} (I : Inv X pins σ H s) (hN : X.N.Nodup) (hi : X.N[i]? = some x) (hx : Loc X.env.scope x) (r : RelV v u)
    (h : ∀ s', Inv X pins (σ.set i (some v)) H s' → (∃ a, Heap.SameBut a s.heap s'.heap ∧ (a = X.env.locals ∨ X.env.cells.lookup x = some a)) → Q () s') (hf : X.fn x = true ∨ X.env.scope.names.lookup x = some .local := by first | exact .inl rfl | exact .inr rfl | assumption) : wpAny M A (storeName X.env x u) Q E s := by
  obtain ⟨m, hn, hl⟩ := id I.loc
  have hcls : (X.env.scope.kind == .class || (X.env.scope.kind == .module && X.env.locals != X.env.globals)) = false := by rw [I.ok.kind]; rfl
  have hiσ : i < σ.length := by rw [I.len]; exact (List.getElem?_eq_some_iff.mp hi).1
  have cne := I.cne
  have tracked : ∀ {a : Addr} {h' : Heap}, (∃ o, s.heap.get? a = some o ∧ H a = none) → Heap.SameBut a s.heap h' → HOk X.prog X.w H h' := fun {a h'} ha hs b ob e => by
    obtain ⟨_, _, hfree⟩ := ha
    refine (I.hok b ob e).stay (fun c w' hc q => (hs.2 c ?_).trans q) (fun _ q => q) fun _ _ q => q
    rintro rfl
    rcases hc with rfl | hc
    · rw [hfree] at e; cases e
    · rw [hfree] at hc; cases hc
  rcases hx with hk | hk
  · refine wpAny_storeName_local hk hn (fun h' hn' hs => ?_) hcls
    obtain ⟨oL, _, _, hoL, _⟩ := id hn
    refine h _ ⟨I.ok, I.os, I.bare, ⟨fun b o e n hb hx => ?_, fun b o e n hb hx => ?_, I.base.free, fun b o e hx => ?_, I.base.tups, I.base.frzs, I.base.tbls⟩, ⟨_, hn', fun j y v' e1 e2 e3 => ?_⟩, fun y c e => ?_, I.free, I.freeC, fun p hp => ?_, tracked ⟨oL, hoL, I.free⟩ hs, by simpa using I.len⟩ ⟨_, hs, .inl rfl⟩
    · exact (hs.2 b (Nat.ne_of_lt (Nat.lt_of_lt_of_le (Heap.lt_size e) I.ok.above))).trans (I.base.keep b o e n hb hx)
    · obtain ⟨sl, e1⟩ := I.base.slot b o e n hb hx
      exact ⟨sl, (hs.2 b (Nat.ne_of_lt (Nat.lt_of_lt_of_le (Heap.lt_size e) I.ok.above))).trans e1⟩
    · obtain ⟨o', e1⟩ := I.base.there b o e hx
      exact ⟨o', (hs.2 b (Nat.ne_of_lt (Nat.lt_of_lt_of_le (Heap.lt_size e) I.ok.above))).trans e1⟩
    · by_cases hj : j = i
      · subst hj
        rw [hi] at e1; cases e1
        rw [List.getElem?_set_self hiσ] at e2
        cases e2
        exact ⟨u, r, .inl ⟨hk, by simp⟩⟩
      · rw [List.getElem?_set_ne (Ne.symm hj)] at e2
        obtain ⟨u', r', q⟩ := hl j y v' e1 e2 e3
        refine ⟨u', r', ?_⟩
        rcases q with ⟨k, e⟩ | ⟨k, c, e, z⟩
        · refine .inl ⟨k, ?_⟩
          have : y ≠ x := fun e => hj (nodup_ix hN e1 (e ▸ hi))
          simp [this, e]
        · exact .inr ⟨k, c, e, z.sameBut hs (cne y c e)⟩
    · obtain ⟨w', z⟩ := I.cell y c e
      exact ⟨w', z.sameBut hs (cne y c e)⟩
    · obtain ⟨e, n, ne, nf, d⟩ := I.pin p hp
      exact ⟨(hs.2 p.1 ne).trans e, n, ne, nf, d⟩
  · have hfn : X.fn x = true := by
      rcases hf with z | z
      · exact z
      · rw [z] at hk; cases hk
    obtain ⟨c, hc⟩ := I.ok.has x (.inl hk)
    obtain ⟨w', z⟩ := I.cell x c hc
    refine wpAny_storeName_cell I.ok.kind hk hc z (fun h' hc' hs => ?_)
    obtain ⟨oc, hoc, hocd⟩ := id z
    refine h { s with heap := h' } ⟨I.ok, I.os, I.bare, ⟨fun b o e n hb hx => ?_, fun b o e n hb hx => ?_, I.base.free, fun b o e hx => ?_, I.base.tups, I.base.frzs, I.base.tbls⟩, ⟨m, hn.sameBut hs (Ne.symm (cne x c hc)), fun j y v' e1 e2 e3 => ?_⟩, fun y c' e => ?_, I.free, I.freeC, fun p hp => ?_, tracked ⟨oc, hoc, I.freeC x c hc⟩ hs, by simpa using I.len⟩ ⟨c, hs, .inr hc⟩
    · exact (hs.2 b (Nat.ne_of_lt (Nat.lt_of_lt_of_le (Heap.lt_size e) (I.ok.cab x c hfn hc)))).trans (I.base.keep b o e n hb hx)
    · obtain ⟨sl, e1⟩ := I.base.slot b o e n hb hx
      exact ⟨sl, (hs.2 b (Nat.ne_of_lt (Nat.lt_of_lt_of_le (Heap.lt_size e) (I.ok.cab x c hfn hc)))).trans e1⟩
    · obtain ⟨o', e1⟩ := I.base.there b o e hx
      exact ⟨o', (hs.2 b (Nat.ne_of_lt (Nat.lt_of_lt_of_le (Heap.lt_size e) (I.ok.cab x c hfn hc)))).trans e1⟩
    · by_cases hj : j = i
      · subst hj
        rw [hi] at e1; cases e1
        rw [List.getElem?_set_self hiσ] at e2
        cases e2
        exact ⟨u, r, .inr ⟨.inl hk, c, hc, hc'⟩⟩
      · rw [List.getElem?_set_ne (Ne.symm hj)] at e2
        obtain ⟨u', r', q⟩ := hl j y v' e1 e2 e3
        refine ⟨u', r', ?_⟩
        rcases q with q | ⟨k, c', e, z'⟩
        · exact .inl q
        · refine .inr ⟨k, c', e, z'.sameBut hs ?_⟩
          rintro rfl
          exact hj (nodup_ix hN e1 (I.ok.inj _ _ _ e hc ▸ hi))
    · by_cases hcc : c' = c
      · subst hcc; exact ⟨_, hc'⟩
      · obtain ⟨w2, z2⟩ := I.cell y c' e
        exact ⟨w2, z2.sameBut hs hcc⟩
    · obtain ⟨e, n, ne, nf, d⟩ := I.pin p hp
      refine ⟨(hs.2 p.1 ?_).trans e, n, ne, nf, d⟩
      intro q
      rw [q, hoc] at e
      have q' : oc = p.2 := Option.some.inj e
      exact d w' (by rw [← q']; exact hocd)
theorem store_ok {M : Model} {A : Around} {E : Value → Shared → Prop} {i : Nat} {x : Str} {v : V} {u : Value} {Q : Unit → Shared → Prop} (I : Inv X pins σ H s) (hN : X.N.Nodup) (hi : X.N[i]? = some x) (hx : Loc X.env.scope x) (r : RelV v u)
    (h : ∀ s', Inv X pins (σ.set i (some v)) H s' → Q () s') (hf : X.fn x = true ∨ X.env.scope.names.lookup x = some .local := by first | exact .inl rfl | exact .inr rfl | assumption) : wpAny M A (storeName X.env x u) Q E s :=
  store_ok2 I hN hi hx r (fun s' I' _ => h s' I') hf
/-- behind a call or a block, the state as it is -/
theorem Inv.call' {s' : Shared} {ch : List Addr} (I : Inv X pins σ H s) (ho : s'.os = s.os) (u : Un (frs X.stack) ch H H' s.heap s'.heap) (hok : HOk X.prog X.w H' s'.heap) (hg : AllBare s'.gens)
    (hch : ∀ b ∈ ch, (b ∈ X.ex ∨ X.s₀.heap.objs.size ≤ b) ∧ b ≠ X.env.locals ∧ (∀ x c, X.env.cells.lookup x = some c → c ≠ b) ∧ ∀ p ∈ X.pn ++ pins, p.1 ≠ b) : Inv X pins σ H' s' := by
  obtain ⟨h', g', d', t', o'⟩ := s'
  have e : o' = s.os := ho
  subst e
  exact I.call (g' := g') (t' := t') (d' := d') u hok hg hch
end

/-! ### the judgements -/
/-- an exception: its class, its own dict's address (where it has one), the abstract heap behind it -/
abbrev XK := Value → Option Addr → Hp → Prop
abbrev St := List (Option V)
abbrev VK := V → Hp → Prop
/-- an expression's reading; a test's; an argument list's -/
abbrev TE := St → Hp → VK → Prop
abbrev TT := St → Hp → (Bool → Hp → Prop) → Prop
abbrev TA := St → Hp → (List V → Hp → Prop) → Prop
/-- what is wanted behind a statement -/
structure Ends where
  nx : St → Hp → Prop
  rt : VK
  bk : St → Hp → Prop := fun _ _ => False
  ct : St → Hp → Prop := fun _ _ => False
abbrev TS := Ends → St → Hp → Prop

def EP (X : Cx) (pins : List (Addr × Obj)) (σ : St) (Q : VK) (u : Value) (s' : Shared) : Prop := ∃ v H', Inv X pins σ H' s' ∧ RelV v u ∧ Q v H'
def TP (X : Cx) (pins : List (Addr × Obj)) (σ : St) (Q : Bool → Hp → Prop) (b : Bool) (s' : Shared) : Prop := ∃ H', Inv X pins σ H' s' ∧ Q b H'
def AP (X : Cx) (pins : List (Addr × Obj)) (σ : St) (Q : List V → Hp → Prop) (us : List Value) (s' : Shared) : Prop := ∃ vs H', Inv X pins σ H' s' ∧ Vals vs us ∧ Q vs H'
def SP (X : Cx) (pins : List (Addr × Obj)) (D : Ends) (f : Flow) (s' : Shared) : Prop :=
  match f with
  | .next => ∃ σ' H', Inv X pins σ' H' s' ∧ D.nx σ' H'
  | .brk => ∃ σ' H', Inv X pins σ' H' s' ∧ D.bk σ' H'
  | .cont => ∃ σ' H', Inv X pins σ' H' s' ∧ D.ct σ' H'
  | .ret u => ∃ v σ' H', Inv X pins σ' H' s' ∧ RelV v u ∧ D.rt v H'

def PE (X : Cx) (e : Expr) (t : TE) : Prop :=
  ∀ (pins : List (Addr × Obj)) (s : Shared) (σ : St) (H : Hp) (Q : VK), Inv X pins σ H s → t σ H Q → wpAny (model X.prog X.w) X.A (eval e X.env) (EP X pins σ Q) X.xe s
def PT (X : Cx) (e : Expr) (t : TT) : Prop :=
  ∀ (pins : List (Addr × Obj)) (s : Shared) (σ : St) (H : Hp) (Q : Bool → Hp → Prop), Inv X pins σ H s → t σ H Q → wpAny (model X.prog X.w) X.A (isTrue e X.env (eval e X.env)) (TP X pins σ Q) X.xe s
/-- a test whatever its 'whole' is (and, or) -/
def PW (X : Cx) (e : Expr) (t : TT) : Prop :=
  ∀ (whole : Sem Value) (pins : List (Addr × Obj)) (s : Shared) (σ : St) (H : Hp) (Q : Bool → Hp → Prop), Inv X pins σ H s → t σ H Q → wpAny (model X.prog X.w) X.A (isTrue e X.env whole) (TP X pins σ Q) X.xe s
theorem PW.pt {X : Cx} {e : Expr} {t : TT} (h : PW X e t) : PT X e t := h _
/-- an argument list (no star), from the left -/
def PA (X : Cx) (es : List Expr) (t : TA) : Prop :=
  ∀ (pos : Pos) (pins : List (Addr × Obj)) (s : Shared) (σ : St) (H : Hp) (Q : List V → Hp → Prop), Inv X pins σ H s → t σ H Q → wpAny (model X.prog X.w) X.A (spliced (backTo pos (starEach es X.env))) (AP X pins σ Q) X.xe s
def PS (X : Cx) (st : Stmt) (t : TS) : Prop :=
  ∀ (pins : List (Addr × Obj)) (s : Shared) (σ : St) (H : Hp) (D : Ends), Inv X pins σ H s → t D σ H → wpAny (model X.prog X.w) X.A (exec st X.env) (SP X pins D) X.xe s
def PSs (X : Cx) (st : List Stmt) (t : TS) : Prop :=
  ∀ (pins : List (Addr × Obj)) (s : Shared) (σ : St) (H : Hp) (D : Ends), Inv X pins σ H s → t D σ H → wpAny (model X.prog X.w) X.A (execs st X.env) (SP X pins D) X.xe s
/-- weaken the end -/
theorem thn {α : Type} {t : Sem α} {Q Q' : α → Shared → Prop} {M : Model} {A : Around} {E : Value → Shared → Prop} {s : Shared} (h : wpAny M A t Q E s) (hQ : ∀ a s, Q a s → Q' a s) : wpAny M A t Q' E s := wpAny_mono h hQ fun _ _ x => x
end L2

namespace L2
open PySem PySem.Spec PyProof.Rows
section
variable {X : Cx}

/-! ### names and constants -/
def tVar (i : Nat) : TE := fun σ H Q => ∃ v, σ[i]? = some (some v) ∧ Q v H
def tC (v : V) : TE := fun _ H Q => Q v H
theorem pe_var {i : Nat} {x : Str} {pos : Pos} (hN : X.N[i]? = some x) (hv : Vis X.env.scope x) (hd : (x == ("__debug__" : Str)) = false := by decide) (hcd : (x == ("__classdict__" : Str)) = false := by decide) : PE X (.Name x pos) (tVar i) := by
  intro pins s σ H Q I h
  obtain ⟨v, e, h⟩ := h
  obtain ⟨m, hn, hl⟩ := I.loc
  obtain ⟨u, r, l⟩ := hl i x v hN e hv
  have fin : EP X pins σ Q u s := ⟨v, H, I, r, h⟩
  rcases l with ⟨hk, hm⟩ | ⟨hk, c, hc, hcell⟩
  · exact wpAny_Name (wpAny_loadName_local I.ok.kind hk hn hm fin) hd
  · rcases hk with hk | hk
    · exact wpAny_Name (wpAny_loadName_cell I.ok.kind hk hc hcell fin) hd
    · exact wpAny_Name (wpAny_loadName_free I.ok.kind hk hc hcell fin hcd) hd
theorem pe_int {i j pos} : PE X (.Constant (.int i) j pos) (tC (.int i)) := fun _ _ _ H _ I h => wpAny_Constant_int ⟨.int i, H, I.tok _, ⟨_, rfl⟩, h⟩
theorem pe_bl {b j pos} : PE X (.Constant (.bool b) j pos) (tC (.bl b)) := fun _ _ _ H _ I h => Constant_bool ⟨.bl b, H, I, rfl, h⟩
theorem pe_non {j pos} : PE X (.Constant .none j pos) (tC .non) := fun _ _ _ H _ I h => Constant_none ⟨.non, H, I, rfl, h⟩
theorem pe_str {x j pos} : PE X (.Constant (.str x) j pos) (tC (.str x)) := fun _ _ _ H _ I h => Calls.Constant_str ⟨.str x, H, I.tok _, ⟨_, rfl⟩, h⟩

/-- a global name of the def -/
def Gl (X : Cx) (x : Str) : Prop := X.env.kindOf x = some .globalImplicit
theorem ld_glob {E : Value → Shared → Prop} {pins : List (Addr × Obj)} {s : Shared} {σ : St} {H : Hp} {x : Str} {u : Value} {pos : Pos} {Q : Value → Shared → Prop} (I : Inv X pins σ H s) (hg : Gl X x) (hm : X.mg x = some u) (h : Q u s)
    (hd : (x == ("__debug__" : Str)) = false := by decide) : wpAny (model X.prog X.w) X.A (eval (.Name x pos) X.env) Q E s :=
  Calls.Name_function_global I.ok.kind hg (Calls.loadGlobal_global (by rw [I.ok.glob]; exact I.mod.glob.keeps I.bk) hm h) hd
theorem ld_blt {E : Value → Shared → Prop} {pins : List (Addr × Obj)} {s : Shared} {σ : St} {H : Hp} {x : Str} {u : Value} {pos : Pos} {Q : Value → Shared → Prop} (I : Inv X pins σ H s) (hg : Gl X x) (hm : X.mg x = none) (hv : bootBuiltins x = some u) (h : Q u s)
    (hn : x ≠ "__name__" := by decide) (hd : (x == ("__debug__" : Str)) = false := by decide) : wpAny (model X.prog X.w) X.A (eval (.Name x pos) X.env) Q E s := by
  obtain ⟨mb, h1, h2⟩ := I.mod.blt
  exact Calls.Name_function_global I.ok.kind hg (Calls.loadGlobal_builtin (by rw [I.ok.glob]; exact I.mod.glob.keeps I.bk) hm (by rw [I.ok.blt]; exact h1.keeps I.bk) ((h2 x hn).trans hv) h) hd
theorem pe_bltn {x : Str} {v : V} {u : Value} {pos : Pos} (hg : Gl X x) (hm : X.mg x = none) (hv : bootBuiltins x = some u) (r : RelV v u) (hn : x ≠ "__name__" := by decide) (hd : (x == ("__debug__" : Str)) = false := by decide) : PE X (.Name x pos) (tC v) :=
  fun _ _ _ H _ I h => ld_blt I hg hm hv ⟨v, H, I, r, h⟩ hn hd

/-! ### arithmetic -/
variable {a b : Expr} {ta tb : TE} {pos : Pos}
/-! ### comparisons -/
/-- a comparison as a value, as a test -/
def tB (t : TE) : TT := fun σ H Q => t σ H fun x H1 => ∃ c, x = .bl c ∧ Q c H1
/-- an expression whose value is a bool, as a test -/
theorem pt_val {e : Expr} {t : TE} (h : PE X e t) (he : ∀ whole, isTrue e X.env whole = (do let v ← whole; standAt e.pos; holding [v] (truthy v)) := by intro _; rfl) : PT X e (tB t) := by
  intro pins s σ H Q I hw
  refine isTrue_plain (thn (h pins s σ H _ I hw) fun v s1 ⟨x, H1, I1, r1, q1⟩ => ?_) (he _)
  obtain ⟨d, rfl, q⟩ := q1
  cases r1
  exact wpAny_truthy_bool ⟨H1, I1, q⟩

/-! ### and, or, not -/
variable {tA tB' : TT} {rest : List Expr}
def tAnd (t u : TT) : TT := fun σ H Q => t σ H fun c H1 => if c = true then u σ H1 Q else Q false H1
def tOr (t u : TT) : TT := fun σ H Q => t σ H fun c H1 => if c = true then Q true H1 else u σ H1 Q
def tNot (t : TT) : TT := fun σ H Q => t σ H fun c H1 => Q (!c) H1
theorem pw_and1 (ha : PT X a tA) : PW X (.BoolOp .And [a] pos) tA := by
  intro wh pins s σ H Q I h
  refine isTrue_and (thn (ha pins s σ H Q I h) fun c s1 e => ?_)
  cases c with
  | true => exact isTrue_and_nil e
  | false => exact e
theorem pw_or1 (ha : PT X a tA) : PW X (.BoolOp .Or [a] pos) tA := by
  intro wh pins s σ H Q I h
  refine isTrue_or (thn (ha pins s σ H Q I h) fun c s1 e => ?_)
  cases c with
  | false => exact isTrue_or_nil e
  | true => exact e
theorem pw_and (ha : PT X a tA) (hb : PW X (.BoolOp .And (b :: rest) pos) tB') : PW X (.BoolOp .And (a :: b :: rest) pos) (tAnd tA tB') := by
  intro wh pins s σ H Q I h
  refine isTrue_and (thn (ha pins s σ H _ I h) fun c s1 ⟨H1, I1, q1⟩ => ?_)
  cases c with
  | true => exact hb wh pins s1 σ H1 Q I1 q1
  | false => exact ⟨H1, I1, q1⟩
theorem pw_or (ha : PT X a tA) (hb : PW X (.BoolOp .Or (b :: rest) pos) tB') : PW X (.BoolOp .Or (a :: b :: rest) pos) (tOr tA tB') := by
  intro wh pins s σ H Q I h
  refine isTrue_or (thn (ha pins s σ H _ I h) fun c s1 ⟨H1, I1, q1⟩ => ?_)
  cases c with
  | true => exact ⟨H1, I1, q1⟩
  | false => exact hb wh pins s1 σ H1 Q I1 q1
theorem pt_not (ha : PT X a tA) : PT X (.UnaryOp .Not a pos) (tNot tA) := by
  intro pins s σ H Q I h
  exact isTrue_not (ha pins s σ H (fun c H1 => Q (!c) H1) I h)
/-- .. as values (bools) -/
def tAndV (ta tb : TE) : TE := fun σ H Q => ta σ H fun x H1 => ∃ c, x = .bl c ∧ if c = true then tb σ H1 Q else Q (.bl false) H1
def tOrV (ta tb : TE) : TE := fun σ H Q => ta σ H fun x H1 => ∃ c, x = .bl c ∧ if c = true then Q (.bl true) H1 else tb σ H1 Q
def tNotV (ta : TE) : TE := fun σ H Q => ta σ H fun x H1 => ∃ c, x = .bl c ∧ Q (.bl (!c)) H1
theorem pe_one {op} {t : TE} (h : PE X a t) : PE X (.BoolOp op [a] pos) t := fun pins s σ H Q I hw => BoolOp_one (h pins s σ H Q I hw)
theorem pe_and (ha : PE X a ta) (hb : PE X (.BoolOp .And (b :: rest) pos) tb) : PE X (.BoolOp .And (a :: b :: rest) pos) (tAndV ta tb) := by
  intro pins s σ H Q I h
  refine BoolOp_and (thn (ha pins s σ H _ I h) fun v s1 ⟨x, H1, I1, r1, q1⟩ => ?_)
  obtain ⟨c, rfl, q1⟩ := q1
  cases r1
  refine wpAny_truthy_bool ?_
  cases c with
  | true => exact hb pins s1 σ H1 Q I1 q1
  | false => exact ⟨.bl false, H1, I1, rfl, q1⟩
theorem pe_or (ha : PE X a ta) (hb : PE X (.BoolOp .Or (b :: rest) pos) tb) : PE X (.BoolOp .Or (a :: b :: rest) pos) (tOrV ta tb) := by
  intro pins s σ H Q I h
  refine BoolOp_or (thn (ha pins s σ H _ I h) fun v s1 ⟨x, H1, I1, r1, q1⟩ => ?_)
  obtain ⟨c, rfl, q1⟩ := q1
  cases r1
  refine wpAny_truthy_bool ?_
  cases c with
  | false => exact hb pins s1 σ H1 Q I1 q1
  | true => exact ⟨.bl true, H1, I1, rfl, q1⟩
theorem pe_not (ha : PE X a ta) : PE X (.UnaryOp .Not a pos) (tNotV ta) := by
  intro pins s σ H Q I h
  refine UnaryOp_ (thn (ha pins s σ H _ I h) fun v s1 ⟨x, H1, I1, r1, q1⟩ => ?_)
  obtain ⟨c, rfl, q1⟩ := q1
  cases r1
  exact not_of (wpAny_truthy_bool ⟨.bl (!c), H1, I1, rfl, q1⟩)
end
end L2

namespace L2
open PySem PySem.Spec PyProof.Rows

/-! ### a list, a tuple that is read: tracked, frozen, or an object of the module -/
def SqL (K : PySem.W.Frag) (H : Hp) (a : Addr) (xs : List V) : Prop :=
  Rd H a (.lst xs) ∨
    ∃ (o : Obj) (its : Array Value) (n : Nat), K.lookup a = some o ∧ o.cls = .type "list" ∧ o.dict = none ∧ o.data = .seq its n ∧ its.size ≤ sizeLine ∧ Vals xs its.toList
def SqT (K : PySem.W.Frag) (H : Hp) (a : Addr) (xs : List V) : Prop :=
  Rd H a (.tup xs) ∨
    ∃ (o : Obj) (its : Array Value) (n : Nat), K.lookup a = some o ∧ o.cls = .type "tuple" ∧ o.data = .seq its n ∧ its.size ≤ sizeLine ∧ Vals xs its.toList
def absV : Value → Option V
  | .none => some .non
  | .bool b => some (.bl b)
  | .int i _ => some (.int i)
  | .str x _ => some (.str x)
  | .bytes b _ => some (.byt b)
  | .float b _ => some (.flt b)
  | .ref a => some (.ref a)
  | .type n => some (.ty n)
  | _ => none
theorem RelV.abs {x : V} {u : Value} (r : RelV x u) : absV u = some x := by
  cases x with
  | non => cases r; rfl
  | bl _ => cases r; rfl
  | int _ => obtain ⟨t, rfl⟩ := r; rfl
  | str _ => obtain ⟨t, rfl⟩ := r; rfl
  | byt _ => obtain ⟨t, rfl⟩ := r; rfl
  | flt _ => obtain ⟨t, rfl⟩ := r; rfl
  | ref _ => cases r; rfl
  | ty _ => cases r; rfl
theorem RelV.inj {x y : V} {u : Value} (r : RelV x u) (q : RelV y u) : x = y := Option.some.inj (r.abs.symm.trans q.abs)
theorem Vals.inj : ∀ {xs ys : List V} {us : List Value}, Vals xs us → Vals ys us → xs = ys
  | _, _, _, .nil, .nil => rfl
  | _, _, _, .cons r t, .cons r' t' => by rw [r.inj r', Vals.inj t t']
section
variable {X : Cx} {pins : List (Addr × Obj)} {σ : St} {H : Hp} {s : Shared} {a : Addr} {xs ys : List V}
theorem SqL.of {K : PySem.W.Frag} (h : H a = some (.lst xs)) : SqL K H a xs := .inl (.inl h)
theorem Inv.list (I : Inv X pins σ H s) (h : SqL X.K H a xs) : ∃ its : List Value, Vals xs its ∧ PlainL s.heap a its.toArray ∧ xs.length ≤ sizeLine := by
  rcases h with h | ⟨o, its, n, hk, hc, hd, hs, hz, r⟩
  · obtain ⟨z, its, n, r, e⟩ := h.ok I.hok
    exact ⟨its, r, ⟨_, n, e, rfl, rfl, rfl⟩, z⟩
  · refine ⟨its.toList, r, ⟨o, n, I.kIn a o hk, hc, hd, by simpa using hs⟩, ?_⟩
    have e := r.length
    simp only [Array.length_toList] at e
    omega
theorem Inv.tuple (I : Inv X pins σ H s) (h : SqT X.K H a xs) : ∃ its : List Value, Vals xs its ∧ IsTup s.heap a its.toArray ∧ xs.length ≤ sizeLine := by
  rcases h with h | ⟨o, its, n, hk, hc, hs, hz, r⟩
  · obtain ⟨z, its, r, p⟩ := h.ok I.hok
    exact ⟨its, r, p, z⟩
  · refine ⟨its.toList, r, ⟨o, I.kIn a o hk, hc, n, by simpa using hs⟩, ?_⟩
    have e := r.length
    simp only [Array.length_toList] at e
    omega
theorem Inv.list_inj (I : Inv X pins σ H s) (h : SqL X.K H a xs) (h' : SqL X.K H a ys) : xs = ys := by
  obtain ⟨its, r, ⟨o, n, e, _, _, d⟩, _⟩ := I.list h
  obtain ⟨its', r', ⟨o', n', e', _, _, d'⟩, _⟩ := I.list h'
  rw [e] at e'; cases e'
  rw [d] at d'
  injection d' with d1 _
  have : its = its' := by simpa using congrArg Array.toList d1
  subst this
  exact r.inj r'
theorem Inv.tuple_inj (I : Inv X pins σ H s) (h : SqT X.K H a xs) (h' : SqT X.K H a ys) : xs = ys := by
  obtain ⟨its, r, ⟨o, e, _, n, d⟩, _⟩ := I.tuple h
  obtain ⟨its', r', ⟨o', e', _, n', d'⟩, _⟩ := I.tuple h'
  rw [e] at e'; cases e'
  rw [d] at d'
  injection d' with d1 _
  have : its = its' := by simpa using congrArg Array.toList d1
  subst this
  exact r.inj r'
end

/-! ### another wish about exceptions -/
abbrev Cx.wish (X : Cx) (E : Value → Shared → Prop) : Cx := { X with xe := E }
/-- no exception leaves -/
abbrev Cx.nox (X : Cx) : Cx := X.wish fun _ _ => False
theorem Cx.Ok.wish {X : Cx} (ok : X.Ok) (E : Value → Shared → Prop) : (X.wish E).Ok :=
  ⟨ok.mod, ok.kind, ok.glob, ok.blt, ok.above, ok.inj, ok.has, ok.cab, ok.hd, ok.frames, ok.stk, ok.exf, ok.bs, ok.bsz, ok.noex, ok.exfs, ok.funs, ok.frf⟩
theorem Cx.Ok.unwish {X : Cx} {E : Value → Shared → Prop} (ok : (X.wish E).Ok) : X.Ok :=
  ⟨ok.mod, ok.kind, ok.glob, ok.blt, ok.above, ok.inj, ok.has, ok.cab, ok.hd, ok.frames, ok.stk, ok.exf, ok.bs, ok.bsz, ok.noex, ok.exfs, ok.funs, ok.frf⟩
section
variable {X : Cx} {pins : List (Addr × Obj)} {σ : St} {H : Hp} {s : Shared} {E : Value → Shared → Prop}
theorem Inv.wish (I : Inv X pins σ H s) (E : Value → Shared → Prop) : Inv (X.wish E) pins σ H s := ⟨I.ok.wish E, I.os, I.bare, I.base, I.loc, I.cell, I.free, I.freeC, I.pin, I.hok, I.len⟩
theorem Inv.unwish (I : Inv (X.wish E) pins σ H s) : Inv X pins σ H s := ⟨I.ok.unwish, I.os, I.bare, I.base, I.loc, I.cell, I.free, I.freeC, I.pin, I.hok, I.len⟩
theorem SP.unwish {D : Ends} {f : Flow} {s' : Shared} (h : SP (X.wish E) pins D f s') : SP X pins D f s' := by
  cases f with
  | next => obtain ⟨σ', H', I, q⟩ := h; exact ⟨σ', H', I.unwish, q⟩
  | brk => obtain ⟨σ', H', I, q⟩ := h; exact ⟨σ', H', I.unwish, q⟩
  | cont => obtain ⟨σ', H', I, q⟩ := h; exact ⟨σ', H', I.unwish, q⟩
  | ret u => obtain ⟨v, σ', H', I, r, q⟩ := h; exact ⟨v, σ', H', I.unwish, r, q⟩
theorem PSs.nox {st : List Stmt} {t : TS} (h : PSs X.nox st t) : PSs X st t := fun pins s σ H D I hw =>
  wpAny_mono (h pins s σ H D (I.wish _) hw) (fun _ _ q => q.unwish) fun _ _ z => False.elim z
end

/-! ### blocks and small statements -/
section
variable {X : Cx} {st : Stmt} {rest : List Stmt} {t u : TS} {e : Expr} {te : TE} {pos : Pos}
def tNext : TS := fun D σ H => D.nx σ H
def tSeq (t u : TS) : TS := fun D σ H => t { D with nx := u D } σ H
theorem pss_nil : PSs X [] tNext := fun _ _ σ H _ I h => wpAny_execs_nil ⟨σ, H, I, h⟩
theorem pss_cons (h1 : PS X st t) (h2 : PSs X rest u) : PSs X (st :: rest) (tSeq t u) := by
  intro pins s σ H D I h
  refine wpAny_execs_cons (thn (h1 pins s σ H { D with nx := u D } I h) fun f s1 q => ?_)
  cases f with
  | next =>
    obtain ⟨σ', H', I', q⟩ := q
    exact h2 pins s1 σ' H' D I' q
  | ret v => exact q
  | brk => exact q
  | cont => exact q
theorem pss_one (h1 : PS X st t) : PSs X [st] t := by
  intro pins s σ H D I h
  refine wpAny_execs_cons (thn (h1 pins s σ H D I h) fun f s1 q => ?_)
  cases f with
  | next => exact wpAny_execs_nil q
  | ret v => exact q
  | brk => exact q
  | cont => exact q
/-- in a def's body nothing is shown -/
theorem Inv.quiet {pins : List (Addr × Obj)} {σ : St} {H : Hp} {s : Shared} (I : Inv X pins σ H s) : interactive X.env = false := by simp [interactive, I.ok.kind]
/-- an expression whose value is dropped -/
def tDrop (te : TE) : TS := fun D σ H => te σ H fun _ H1 => D.nx σ H1
theorem ps_expr (he : PE X e te) (hs : swapsWith e none pos.line X.env = pure false := by rfl) : PS X (.Expr e pos) (tDrop te) := by
  intro pins s σ H D I h
  exact wpAny_Expr_any (thn (he pins s σ H _ I h) fun v s1 ⟨x, H1, I1, r1, q1⟩ => ⟨σ, H1, I1, q1⟩) I.quiet hs
def tRet (te : TE) : TS := fun D σ H => te σ H D.rt
theorem ps_ret (he : PE X e te) : PS X (.Return (some e) pos) (tRet te) := by
  intro pins s σ H D I h
  exact wpAny_Return_some (thn (he pins s σ H _ I h) fun v s1 ⟨x, H1, I1, r1, q1⟩ => ⟨x, σ, H1, I1, r1, q1⟩)
def tIfS (c : TT) (t u : TS) : TS := fun D σ H => c σ H fun b H1 => if b = true then t D σ H1 else u D σ H1
theorem ps_if {c : Expr} {a b : List Stmt} {tc : TT} (hc : PT X c tc) (ha : PSs X a t) (hb : PSs X b u) : PS X (.If c a b pos) (tIfS tc t u) := by
  intro pins s σ H D I h
  refine wpAny_If (thn (hc pins s σ H _ I h) fun d s1 ⟨H1, I1, q1⟩ => ?_)
  cases d with
  | true => exact ha pins s1 σ H1 D I1 q1
  | false => exact hb pins s1 σ H1 D I1 q1
/-- code that the proof never comes to -/
def tNever : TS := fun _ _ _ => False
theorem pss_never {sts : List Stmt} : PSs X sts tNever := fun _ _ _ _ _ _ h => h.elim
end

/-! ### targets -/
abbrev TG := V → St → Hp → (St → Hp → Prop) → Prop
abbrev TGs := List V → St → Hp → (St → Hp → Prop) → Prop
def PG (X : Cx) (target : Expr) (t : TG) : Prop :=
  ∀ (pins : List (Addr × Obj)) (s : Shared) (σ : St) (H : Hp) (v : V) (u : Value) (Q : St → Hp → Prop), Inv X pins σ H s → RelV v u → t v σ H Q →
    wpAny (model X.prog X.w) X.A (assign target X.env u) (fun _ s' => ∃ σ' H', Inv X pins σ' H' s' ∧ Q σ' H') X.xe s
/-- several targets, one after another -/
def PGs (X : Cx) (ts : List Expr) (t : TGs) : Prop :=
  ∀ (pins : List (Addr × Obj)) (s : Shared) (σ : St) (H : Hp) (vs : List V) (us : List Value) (Q : St → Hp → Prop), Inv X pins σ H s → Vals vs us → t vs σ H Q →
    wpAny (model X.prog X.w) X.A (assignInOrder ((assignEach ts X.env).map (·.2)) us) (fun _ s' => ∃ σ' H', Inv X pins σ' H' s' ∧ Q σ' H') X.xe s
/-- o[i] = v, by values -/
abbrev TSet := V → V → V → Hp → (Hp → Prop) → Prop
def PSet (X : Cx) (t : TSet) : Prop :=
  ∀ (pins : List (Addr × Obj)) (s : Shared) (σ : St) (H : Hp) (o i v : V) (ov iv u : Value) (Q : Hp → Prop), Inv X pins σ H s → RelV o ov → RelV i iv → RelV v u → t o i v H Q →
    wpAny (model X.prog X.w) X.A (setItem ov iv u) (fun _ s' => ∃ H', Inv X pins σ H' s' ∧ Q H') X.xe s
section
variable {X : Cx} {pos : Pos}
def gName (i : Nat) : TG := fun v σ H Q => Q (σ.set i (some v)) H
theorem pg_name {i : Nat} {x : Str} (hN : X.N.Nodup) (hi : X.N[i]? = some x) (hx : Loc X.env.scope x) (hf : X.fn x = true ∨ X.env.scope.names.lookup x = some .local := by first | exact .inl rfl | exact .inr rfl | assumption) : PG X (.Name x pos) (gName i) := by
  intro pins s σ H v u Q I r h
  exact wpAny_assign_Name (store_ok I hN hi hx r (fun s' I' => ⟨_, H, I', h⟩) hf)
def gNil : TGs := fun vs σ H Q => vs = [] ∧ Q σ H
def gCons (t : TG) (u : TGs) : TGs := fun vs σ H Q => ∃ v r, vs = v :: r ∧ t v σ H fun σ' H' => u r σ' H' Q
theorem pgs_nil : PGs X [] gNil := by
  intro pins s σ H vs us Q I r h
  obtain ⟨e, h⟩ := h
  subst e
  cases r
  exact assignInOrder_nil ⟨σ, H, I, h⟩
theorem pgs_cons {e : Expr} {es : List Expr} {t : TG} {u : TGs} (h1 : PG X e t) (h2 : PGs X es u)
    (hs : (assignEach (e :: es) X.env).map (·.2) = assign e X.env :: (assignEach es X.env).map (·.2) := by rfl) : PGs X (e :: es) (gCons t u) := by
  intro pins s σ H vs us Q I r h
  obtain ⟨v, vr, e1, h⟩ := h
  subst e1
  cases r with
  | cons r rr =>
    rw [hs]
    refine assignInOrder_cons (thn (h1 pins s σ H _ _ _ I r h) fun _ s1 ⟨σ1, H1, I1, q1⟩ => ?_)
    exact h2 pins s1 σ1 H1 _ _ Q I1 rr q1
/-- (a, b, ..) = a tuple of that length -/
def gTup (K : PySem.W.Frag) (n : Nat) (t : TGs) : TG := fun v σ H Q => ∃ a xs, v = .ref a ∧ SqT K H a xs ∧ xs.length = n ∧ t xs σ H Q
theorem pg_tup {es : List Expr} {k : Nat} {t : TGs} {n : Nat} (hc : X.calm = true) (h : PGs X es t)
    (hn : (assignEach es X.env).length = n := by rfl) (hst : (assignEach es X.env).findIdx? (·.1) = none := by rfl) : PG X (.Tuple es k pos) (gTup X.K n t) := by
  intro pins s σ H v u Q I r hw
  obtain ⟨a, xs, e1, hq, hl, hw⟩ := hw
  subst e1
  cases r
  obtain ⟨its, rv, ht, hz⟩ := I.tuple hq
  refine assign_Tuple_tuple (I.ok.hd hc) ht (by simp [hn, ← hl, rv.length]) hst fun h' hx => ?_
  have I1 : Inv X pins σ H { s with heap := h' } := I.kept (t' := s.toks) fun b o e => hx b o (Nat.ne_of_lt (Heap.lt_size e)) e
  exact h pins _ σ H xs _ Q I1 (by simpa using rv) hw
/-- o[i] = .. -/
def gSub (to ti : TE) (t : TSet) : TG := fun v σ H Q => to σ H fun o H1 => ti σ H1 fun i H2 => t o i v H2 fun H3 => Q σ H3
theorem pg_sub {o i : Expr} {to ti : TE} {t : TSet} (ho : PE X o to) (hi : PE X i ti) (hs : PSet X t)
    (ha : ∀ v, assign (.Subscript o i pos) X.env v = (do
      let ov ← holding [v] (eval o X.env)
      let iv ← holding [v, ov] (eval i X.env)
      standAt pos
      holding [v, ov, iv] (setItem ov iv v)
      release [v, ov, iv] []) := by intro _; rfl) : PG X (.Subscript o i pos) (gSub to ti t) := by
  intro pins s σ H v u Q I r h
  rw [ha]
  refine wpAny_bind (wpAny_holding (thn (ho pins s σ H _ I h) fun ov s1 ⟨x, H1, I1, r1, q1⟩ => ?_))
  refine wpAny_bind (wpAny_holding (thn (hi pins s1 σ H1 _ I1 q1) fun iv s2 ⟨y, H2, I2, r2, q2⟩ => ?_))
  refine wpAny_bind (wpAny_standAt (wpAny_bind (wpAny_holding (thn (hs pins s2 σ H2 x y v ov iv u _ I2 r1 r2 r q2) fun _ s3 ⟨H3, I3, q3⟩ => ?_))))
  exact wpAny_release ⟨σ, H3, I3, q3⟩
/-- target = value -/
def tAsg (te : TE) (g : TG) : TS := fun D σ H => te σ H fun x H1 => g x σ H1 D.nx
theorem ps_asg {tg e : Expr} {te : TE} {g : TG} (he : PE X e te) (hg : PG X tg g) (hs : swapsWithSole [tg] e pos.line X.env = pure false := by rfl) (hw : swappedStores [tg] e X.env = pure none := by rfl)
    (h1 : (assignEach [tg] X.env).map (·.2) = [assign tg X.env] := by rfl) : PS X (.Assign [tg] e pos) (tAsg te g) := by
  intro pins s σ H D I h
  refine wpAny_Assign_stores (thn (he pins s σ H _ I h) fun v s1 ⟨x, H1, I1, r1, q1⟩ => ?_) hs hw
  rw [h1]
  exact thn (hg pins s1 σ H1 x v _ I1 r1 q1) fun _ s2 q => q
/-- name = value -/
theorem ps_set {i : Nat} {x : Str} {e : Expr} {te : TE} {pos' : Pos} (hN : X.N.Nodup) (hi : X.N[i]? = some x) (hx : Loc X.env.scope x) (he : PE X e te) (hs : swapsWith e (some (.Name x pos')) pos.line X.env = pure false := by rfl) (hf : X.fn x = true ∨ X.env.scope.names.lookup x = some .local := by first | exact .inl rfl | exact .inr rfl | assumption) :
    PS X (.Assign [.Name x pos'] e pos) (tAsg te (gName i)) := by
  intro pins s σ H D I h
  refine wpAny_Assign_Name (thn (he pins s σ H _ I h) fun v s1 ⟨y, H1, I1, r1, q1⟩ => ?_) hs
  exact store_ok I1 hN hi hx r1 (fun s2 I2 => ⟨_, H1, I2, q1⟩) hf
end

/-! ### while -/
section
variable {X : Cx} {pos : Pos}
end

/-! ### what a loop or a comprehension walks -/
/-- at turn i: it yields x (the heap may grow), or it stops -/
structure It where
  go : Nat → Hp → Prop
  yld : Nat → Hp → V → Hp → Prop
  stop : Nat → Hp → Prop
/-- the iterator's own objects may turn: they are not the frame's, not pinned, younger than the entry (or a comprehension's own) -/
def FpOk (X : Cx) (pins : List (Addr × Obj)) (H : Hp) (b : Addr) : Prop :=
  H b = none ∧ b ≠ X.env.locals ∧ b ∉ X.fs ∧ (b ∈ X.ex ∨ X.s₀.heap.objs.size ≤ b) ∧ (∀ x c, X.env.cells.lookup x = some c → c ≠ b) ∧ ∀ p ∈ X.pn ++ pins, p.1 ≠ b
theorem Inv.fpOk {X : Cx} {pins : List (Addr × Obj)} {σ : St} {H H' : Hp} {s : Shared} {b : Addr} (I : Inv X pins σ H s) (hb : s.heap.objs.size ≤ b) (hn : H' b = none) : FpOk X pins H' b := by
  refine ⟨hn, Nat.ne_of_gt (Nat.lt_of_lt_of_le I.lt hb), I.nofs hb, .inr (Nat.le_trans I.sz hb), fun x c e z => ?_, fun p hp z => ?_⟩
  · obtain ⟨v, q⟩ := I.cell x c e
    exact absurd (Nat.lt_of_lt_of_le q.lt (by rw [z]; exact hb)) (Nat.lt_irrefl _)
  · exact absurd (Nat.lt_of_lt_of_le (Heap.lt_size (I.pin p hp).1) (by rw [z]; exact hb)) (Nat.lt_irrefl _)
structure Turn (P : Program) (w : World) (K : PySem.W.Frag) (tg : Expr) (J : It) (fp : List Addr) (it : Addr) (tn : Nat → Heap → Prop) : Prop where
  mem : it ∈ fp
  obj : ∀ i h, tn i h → ∀ b ∈ fp, ∃ o, h.get? b = some o ∧ ∀ v, o.data ≠ .cell v
  keep : ∀ i h h', tn i h → (∀ b ∈ fp, ∀ o, h.get? b = some o → h'.get? b = some o) → tn i h'
  item : ∀ (X : Cx), X.prog = P → X.w = w → X.K = K → X.calm = true → ∀ (i : Nat) (pins : List (Addr × Obj)) (s : Shared) (σ : St) (H : Hp) (E : Value → Shared → Prop), Inv X pins σ H s → (∀ b ∈ fp, FpOk X pins H b) → tn i s.heap → J.go i H →
    wpAny (model P w) X.A (pyNext (.ref it)) (fun r s1 => ∃ u, r = some u ∧
      wpAny (model P w) X.A (letOwnedTupleGo tg (.ref it) u) (fun _ s2 => ∃ x H', Inv X pins σ H' s2 ∧ RelV x u ∧ J.yld i H x H' ∧ tn (i + 1) s2.heap ∧ ∀ b ∈ fp, H' b = none) E s1) E s
  done : ∀ (X : Cx), X.prog = P → X.w = w → X.K = K → X.calm = true → ∀ (i : Nat) (pins : List (Addr × Obj)) (s : Shared) (σ : St) (H : Hp) (E : Value → Shared → Prop), Inv X pins σ H s → (∀ b ∈ fp, FpOk X pins H b) → tn i s.heap → J.stop i H →
    wpAny (model P w) X.A (pyNext (.ref it)) (fun r s1 => r = none ∧ Inv X pins σ H s1) E s
  self : ∀ (A : Around) (i : Nat) (s : Shared) (Q : Value → Shared → Prop) (E : Value → Shared → Prop), tn i s.heap → Q (.ref it) s → wpAny (model P w) A (pyIter (.ref it)) Q E s
abbrev TI := St → Hp → (It → Hp → Prop) → Prop
/-- an iterator has come -/
def PIE (X : Cx) (pins : List (Addr × Obj)) (σ : St) (tg : Expr) (R : It → Hp → Prop) (itv : Value) (s2 : Shared) : Prop :=
  ∃ (it : Addr) (fp : List Addr) (tn : Nat → Heap → Prop) (J : It) (H' : Hp), itv = .ref it ∧ Inv X pins σ H' s2 ∧ Turn X.prog X.w X.K tg J fp it tn ∧ tn 0 s2.heap ∧ (∀ b ∈ fp, FpOk X pins H' b) ∧ R J H'
def PI (X : Cx) (tg iter : Expr) (wi : TI) : Prop :=
  ∀ (pins : List (Addr × Obj)) (s : Shared) (σ : St) (H : Hp) (R : It → Hp → Prop), Inv X pins σ H s → wi σ H R →
    wpAny (model X.prog X.w) X.A (eval iter X.env) (fun v s1 => wpAny (model X.prog X.w) X.A (pyIter v) (PIE X pins σ tg R) X.xe s1) X.xe s

/-- the step ahead of the store is nothing for an iterator that keeps no tuple -/
theorem go_of {M : Model} {A : Around} {E : Value → Shared → Prop} {s : Shared} {tg : Expr} {it : Addr} {u : Value} {o : Obj} {n : String} {vs : Array Value} {Q : Unit → Shared → Prop} (ho : s.heap.get? it = some o) (hc : o.cls = .type n) (hd : o.data = .fields vs)
    (hn : ["enumerate", "zip", "dict_itemiterator", "dict_reverseitemiterator", "odict_iterator", "itertools.zip_longest", "itertools.pairwise"].contains n = false) (hQ : Q () s) : wpAny M A (letOwnedTupleGo tg (.ref it) u) Q E s := by
  unfold letOwnedTupleGo
  cases tg <;> first
    | exact wpAny_pure hQ
    | (cases u <;> first
        | exact wpAny_pure hQ
        | (refine wpAny_bind (wpAny_load ho ?_)
           rw [hc, hd]
           show wpAny M A (if (["enumerate", "zip", "dict_itemiterator", "dict_reverseitemiterator", "odict_iterator", "itertools.zip_longest", "itertools.pairwise"].contains n && vs[0]? == some (rawInt _)) = true then _ else _) Q E s
           rw [if_neg (by intro h; rw [hn, Bool.false_and] at h; cases h)]
           exact wpAny_pure hQ))

/-- the list at a, as it stands at each turn (a loop may append to it) -/
def Itl (K : PySem.W.Frag) (a : Addr) : It :=
  ⟨fun i H => ∃ xs x, SqL K H a xs ∧ xs[i]? = some x, fun i H x H' => H' = H ∧ ∀ xs, SqL K H a xs → xs[i]? = some x, fun i H => ∃ xs, SqL K H a xs ∧ xs.length ≤ i⟩
def Itt (K : PySem.W.Frag) (a : Addr) : It :=
  ⟨fun i H => ∃ xs x, SqT K H a xs ∧ xs[i]? = some x, fun i H x H' => H' = H ∧ ∀ xs, SqT K H a xs → xs[i]? = some x, fun i H => ∃ xs, SqT K H a xs ∧ xs.length ≤ i⟩
/-- lo, lo + 1, .. (n of them) -/
def Itr (lo : Int) (n : Nat) : It := ⟨fun i _ => i < n, fun i H x H' => H' = H ∧ x = .int (lo + i), fun i _ => n ≤ i⟩
theorem turn_list {P : Program} {w : World} {K : PySem.W.Frag} {tg : Expr} (a it : Addr) : Turn P w K tg (Itl K a) [it] it (fun i h => h.IsListIter it a i) where
  mem := by simp
  obj := fun i h st b hb => by
    have e : b = it := by simpa using hb
    subst e
    obtain ⟨o, e, c, d⟩ := st
    exact ⟨o, e, fun v z => by rw [d] at z; cases z⟩
  keep := fun i h h' st k => st.at fun o e => k it (by simp) o e
  item := by
    intro X hP hw hK hc i pins s σ H E I hf st hg
    subst hP hw hK
    obtain ⟨xs, x, hq, hx⟩ := hg
    obtain ⟨its, rv, p, hz⟩ := I.list hq
    obtain ⟨u, hu, ru⟩ := rv.get hx
    obtain ⟨f0, f1, f2, f3, f4, f5⟩ := hf it (by simp)
    refine wpAny_pyNext_list_item st p.isList (x := u) (by simpa using hu) fun h' st' sb => ?_
    have I1 : Inv X pins σ H { s with heap := h' } := I.turned (t' := s.toks) (fun b o hb e => (sb.2 b hb).trans e) f0 f1 f3 f4 f5
    obtain ⟨o, e, c, d⟩ := id st'
    exact ⟨u, rfl, go_of (s := { s with heap := h' }) e c d (by decide) ⟨x, H, I1, ru, ⟨rfl, fun ys hy => by rw [I.list_inj hy hq]; exact hx⟩, st', fun b hb => (hf b hb).1⟩⟩
  done := by
    intro X hP hw hK hc i pins s σ H E I hf st hg
    subst hP hw hK
    obtain ⟨xs, hq, hx⟩ := hg
    obtain ⟨its, rv, p, hz⟩ := I.list hq
    obtain ⟨f0, f1, f2, f3, f4, f5⟩ := hf it (by simp)
    have hl := rv.length
    exact wpAny_pyNext_list_end (I.ok.hd hc) st p.isList (by simp; omega) fun h' eb => ⟨rfl, I.turned (t' := s.toks) (fun b o hb e => eb b o hb e) f0 f1 f3 f4 f5⟩
  self := fun _ _ _ _ _ st h => wpAny_pyIter_listiter st h
theorem turn_tuple {P : Program} {w : World} {K : PySem.W.Frag} {tg : Expr} (a it : Addr) : Turn P w K tg (Itt K a) [it] it (fun i h => h.IsTupleIter it a i) where
  mem := by simp
  obj := fun i h st b hb => by
    have e : b = it := by simpa using hb
    subst e
    obtain ⟨o, e, c, d⟩ := st
    exact ⟨o, e, fun v z => by rw [d] at z; cases z⟩
  keep := fun i h h' st k => st.at fun o e => k it (by simp) o e
  item := by
    intro X hP hw hK hc i pins s σ H E I hf st hg
    subst hP hw hK
    obtain ⟨xs, x, hq, hx⟩ := hg
    obtain ⟨its, rv, p, hz⟩ := I.tuple hq
    obtain ⟨u, hu, ru⟩ := rv.get hx
    obtain ⟨f0, f1, f2, f3, f4, f5⟩ := hf it (by simp)
    refine wpAny_pyNext_tuple_item st (show s.heap.IsTuple a its.toArray from p) (x := u) (by simpa using hu) fun h' st' sb => ?_
    have I1 : Inv X pins σ H { s with heap := h' } := I.turned (t' := s.toks) (fun b o hb e => (sb.2 b hb).trans e) f0 f1 f3 f4 f5
    obtain ⟨o, e, c, d⟩ := id st'
    exact ⟨u, rfl, go_of (s := { s with heap := h' }) e c d (by decide) ⟨x, H, I1, ru, ⟨rfl, fun ys hy => by rw [I.tuple_inj hy hq]; exact hx⟩, st', fun b hb => (hf b hb).1⟩⟩
  done := by
    intro X hP hw hK hc i pins s σ H E I hf st hg
    subst hP hw hK
    obtain ⟨xs, hq, hx⟩ := hg
    obtain ⟨its, rv, p, hz⟩ := I.tuple hq
    obtain ⟨f0, f1, f2, f3, f4, f5⟩ := hf it (by simp)
    have hl := rv.length
    exact wpAny_pyNext_tuple_end (I.ok.hd hc) st (show s.heap.IsTuple a its.toArray from p) (by simp; omega) fun h' eb => ⟨rfl, I.turned (t' := s.toks) (fun b o hb e => eb b o hb e) f0 f1 f3 f4 f5⟩
  self := fun _ _ _ _ _ st h => wpAny_pyIter_tupleiter st h
theorem turn_range {P : Program} {w : World} {K : PySem.W.Frag} {tg : Expr} (it : Addr) (lo : Int) (n : Nat) : Turn P w K tg (Itr lo n) [it] it (fun i h => IsRangeIter h it (lo + (i : Nat) * 1) ((n : Int) - (i : Nat)) 1) where
  mem := by simp
  obj := fun i h st b hb => by
    have e : b = it := by simpa using hb
    subst e
    exact ⟨_, st, fun v z => by
      have z' : Data.fields _ = Data.cell v := z
      cases z'⟩
  keep := fun i h h' st k => k it (by simp) _ st
  item := by
    intro X hP hw hK hc i pins s σ H E I hf st hg
    subst hP hw hK
    obtain ⟨f0, f1, f2, f3, f4, f5⟩ := hf it (by simp)
    have W := Walks.range (prog := X.prog) (w := X.w) (I.ok.hd hc) it lo 1 n
    refine W.item i s _ _ hg st fun v h' tk hv st' kk => ?_
    obtain ⟨t, rfl⟩ := hv
    have I1 : Inv X pins σ H { s with heap := h', toks := tk } := I.turned (fun b o hb e => kk b o (by simpa using hb) e) f0 f1 f3 f4 f5
    refine ⟨_, rfl, go_of (s := { s with heap := h', toks := tk }) (n := "range_iterator") st' rfl rfl (by decide) ⟨.int (lo + i), H, I1, ⟨t, ?_⟩, ⟨rfl, rfl⟩, st', fun b hb => (hf b hb).1⟩⟩
    rw [Int.mul_one]
  done := by
    intro X hP hw hK hc i pins s σ H E I hf st hg
    subst hP hw hK
    obtain ⟨f0, f1, f2, f3, f4, f5⟩ := hf it (by simp)
    exact wpAny_pyNext_range_end (I.ok.hd hc) st (by have : n ≤ i := hg; omega) fun h' eb => ⟨rfl, I.turned (t' := s.toks) (fun b o hb e => eb b o hb e) f0 f1 f3 f4 f5⟩
  self := fun _ _ _ _ _ st h => wpAny_pyIter_rangeiter st h
end L2

namespace L2
open PySem PySem.Spec PyProof.Rows
section
variable {X : Cx} {tg : Expr}
def iList (K : PySem.W.Frag) (tl : TE) : TI := fun σ H R => tl σ H fun x H1 => ∃ a, x = .ref a ∧ (∃ xs, SqL K H1 a xs) ∧ R (Itl K a) H1
def iTup (K : PySem.W.Frag) (tl : TE) : TI := fun σ H R => tl σ H fun x H1 => ∃ a, x = .ref a ∧ (∃ xs, SqT K H1 a xs) ∧ R (Itt K a) H1
theorem pi_list {l : Expr} {tl : TE} (hl : PE X l tl) : PI X tg l (iList X.K tl) := by
  intro pins s σ H R I h
  refine thn (hl pins s σ H _ I h) fun v s1 ⟨x, H1, I1, r1, q1⟩ => ?_
  obtain ⟨a, e, ⟨xs, hq⟩, q⟩ := q1
  subst e
  cases r1
  obtain ⟨its, rv, p, hz⟩ := I1.list hq
  refine wpAny_pyIter_list p.isList ?_
  refine ⟨s1.heap.objs.size, [s1.heap.objs.size], _, _, H1, rfl, I1.kept (t' := s1.toks) fun b o e => Heap.get?_push_of_some _ e, turn_list a _, ⟨_, Heap.get?_push_size _ rfl, rfl, rfl⟩, fun b hb => ?_, q⟩
  have e : b = s1.heap.objs.size := by simpa using hb
  subst e
  exact I1.fpOk (Nat.le_refl _) (I1.hok.fresh (Nat.le_refl _))
theorem pi_tup {l : Expr} {tl : TE} (hl : PE X l tl) : PI X tg l (iTup X.K tl) := by
  intro pins s σ H R I h
  refine thn (hl pins s σ H _ I h) fun v s1 ⟨x, H1, I1, r1, q1⟩ => ?_
  obtain ⟨a, e, ⟨xs, hq⟩, q⟩ := q1
  subst e
  cases r1
  obtain ⟨its, rv, p, hz⟩ := I1.tuple hq
  refine wpAny_pyIter_tuple (show s1.heap.IsTuple a its.toArray from p) ?_
  refine ⟨s1.heap.objs.size, [s1.heap.objs.size], _, _, H1, rfl, I1.kept (t' := s1.toks) fun b o e => Heap.get?_push_of_some _ e, turn_tuple a _, ⟨_, Heap.get?_push_size _ rfl, rfl, rfl⟩, fun b hb => ?_, q⟩
  have e : b = s1.heap.objs.size := by simpa using hb
  subst e
  exact I1.fpOk (Nat.le_refl _) (I1.hok.fresh (Nat.le_refl _))
/-- a range object just made, walked -/
theorem range_it {pins : List (Addr × Obj)} {σ : St} {H : Hp} {s : Shared} {R : It → Hp → Prop} {E : Value → Shared → Prop} {lo hi : Int} {t u v : Tok} {tk : Nat} (I : Inv X pins σ H s) (h1 : -(2 ^ 62) ≤ lo) (h2 : lo < 2 ^ 62) (h3 : -(2 ^ 62) ≤ hi) (h4 : hi < 2 ^ 62)
    (q : R (Itr lo (hi - lo).toNat) H) : wpAny (model X.prog X.w) X.A (pyIter (.ref s.heap.objs.size)) (PIE X pins σ tg R) E { s with heap := s.heap.push { cls := .type "range", data := .fields #[.int lo t, .int hi u, .int 1 v] }, toks := tk } := by
  refine wpAny_pyIter_range (IsRange.new ..) (small_one h1 h2 h3 h4) ?_
  have I1 : Inv X pins σ H { s with heap := s.heap.push { cls := .type "range", data := .fields #[.int lo t, .int hi u, .int 1 v] }, toks := tk } := I.kept fun b o e => Heap.get?_push_of_some _ e
  refine ⟨(s.heap.push { cls := .type "range", data := .fields #[.int lo t, .int hi u, .int 1 v] }).objs.size, [(s.heap.push { cls := .type "range", data := .fields #[.int lo t, .int hi u, .int 1 v] }).objs.size], _, _, H, rfl,
    I1.kept (t' := tk) fun b o e => Heap.get?_push_of_some _ e, turn_range _ lo (hi - lo).toNat, ?_, fun b hb => ?_, q⟩
  · have e1 : lo + ((0 : Nat) : Int) * 1 = lo := by simp
    have e2 : (((hi - lo).toNat : Nat) : Int) - ((0 : Nat) : Int) = Builtin.Range.rangeSize lo hi 1 := by rw [rangeSize_one]; split <;> omega
    show IsRangeIter _ _ (lo + ((0 : Nat) : Int) * 1) ((((hi - lo).toNat : Nat) : Int) - ((0 : Nat) : Int)) 1
    rw [e1, e2]
    exact Heap.get?_push_size _ rfl
  · have e : b = (s.heap.push { cls := .type "range", data := .fields #[.int lo t, .int hi u, .int 1 v] }).objs.size := by simpa using hb
    subst e
    exact I1.fpOk (Nat.le_refl _) (I1.hok.fresh (Nat.le_refl _))
def iRng1 (ta : TA) : TI := fun σ H R => ta σ H fun vs H1 => ∃ j : Int, vs = [.int j] ∧ -(2 ^ 62) ≤ j ∧ j < 2 ^ 62 ∧ R (Itr 0 j.toNat) H1
def iRng2 (ta : TA) : TI := fun σ H R => ta σ H fun vs H1 => ∃ i j : Int, vs = [.int i, .int j] ∧ (-(2 ^ 62) ≤ i ∧ i < 2 ^ 62 ∧ -(2 ^ 62) ≤ j ∧ j < 2 ^ 62) ∧ R (Itr i (j - i).toNat) H1
theorem pi_range1 {a : Expr} {ta : TA} {p pos : Pos} (hg : Gl X "range") (hm : X.mg "range" = none) (ha : PA X [a] ta) (hs : starEach [a] X.env = [(false, eval a X.env)] := by rfl) : PI X tg (.Call (.Name "range" p) [a] [] pos) (iRng1 ta) := by
  intro pins s σ H R I h
  refine Call_ (ld_blt I hg hm boot_range (PyProof.Rows.callWith_type1 (thn (ha pos pins s σ H _ I h) fun us s1 ⟨vs, H1, I1, r1, q1⟩ => ?_) hs rfl))
  obtain ⟨j, e, q1, q2, q⟩ := q1
  subst e
  cases r1 with
  | cons r rr =>
    cases rr
    obtain ⟨t, rfl⟩ := r
    exact call_range_1 (range_it I1 (by omega) (by omega) q1 q2 (by simpa using q))
theorem pi_range2 {a b : Expr} {ta : TA} {p pos : Pos} (hg : Gl X "range") (hm : X.mg "range" = none) (ha : PA X [a, b] ta) (hs : starEach [a, b] X.env = [(false, eval a X.env), (false, eval b X.env)] := by rfl) (hs2 : starEach [b] X.env = [(false, eval b X.env)] := by rfl) :
    PI X tg (.Call (.Name "range" p) [a, b] [] pos) (iRng2 ta) := by
  intro pins s σ H R I h
  refine Call_ (ld_blt I hg hm boot_range (PyProof.Rows.callWith_type1 (thn (ha pos pins s σ H _ I h) fun us s1 ⟨vs, H1, I1, r1, q1⟩ => ?_) (by rw [hs, hs2]) (by rw [hs2]; rfl)))
  obtain ⟨i, j, e, ⟨q1, q2, q3, q4⟩, q⟩ := q1
  subst e
  cases r1 with
  | cons r rr =>
    cases rr with
    | cons r' rr =>
      cases rr
      obtain ⟨t, rfl⟩ := r
      obtain ⟨t', rfl⟩ := r'
      exact call_range_2 (range_it I1 q1 q2 q3 q4 q)

/-! ### for -/
/-- W: the invariant by the turn and a measure; N: what the body is to reach -/
def tFor (wi : TI) (g : TG) (tb : TS) : TS := fun D σ H => wi σ H fun J H1 => ∃ W : Nat → Nat → St → Hp → Prop, (∃ m, W 0 m σ H1) ∧ ∀ i m σ H, W i m σ H →
  (J.stop i H ∧ D.nx σ H) ∨ (J.go i H ∧ ∃ N : St → Hp → Prop, (∀ σ' H', N σ' H' → ∃ m', m' < m ∧ W (i + 1) m' σ' H') ∧ ∀ x H', J.yld i H x H' → g x σ H' fun σ2 H2 => tb { D with nx := N, ct := N, bk := D.nx } σ2 H2)
/-- the records at fp as they stand -/
def pinsAt (fp : List Addr) (h : Heap) : List (Addr × Obj) := fp.filterMap fun b => (h.get? b).map fun o => (b, o)
theorem mem_pinsAt {fp : List Addr} {h : Heap} {b : Addr} {o : Obj} (hb : b ∈ fp) (e : h.get? b = some o) : (b, o) ∈ pinsAt fp h := List.mem_filterMap.mpr ⟨b, hb, by rw [e]; rfl⟩
theorem of_pinsAt {fp : List Addr} {h : Heap} {p : Addr × Obj} (hp : p ∈ pinsAt fp h) : p.1 ∈ fp ∧ h.get? p.1 = some p.2 := by
  obtain ⟨b, hb, e⟩ := List.mem_filterMap.mp hp
  cases q : h.get? b with
  | none => rw [q] at e; cases e
  | some o =>
    rw [q] at e
    have e' : (b, o) = p := Option.some.inj e
    subst e'
    exact ⟨hb, q⟩
theorem Inv.pinned {pins : List (Addr × Obj)} {σ : St} {H : Hp} {s : Shared} {fp : List Addr} (I : Inv X pins σ H s) (hf : ∀ b ∈ fp, FpOk X pins H b) (ho : ∀ b ∈ fp, ∃ o, s.heap.get? b = some o ∧ ∀ v, o.data ≠ .cell v) : Inv X (pins ++ pinsAt fp s.heap) σ H s :=
  I.pins_of fun p hp => (List.mem_append.mp hp).elim (fun z => I.pin p (List.mem_append_right _ z)) fun z => by
    obtain ⟨hb, e⟩ := of_pinsAt z
    obtain ⟨f0, f1, f2, _⟩ := hf p.1 hb
    obtain ⟨o, e', d⟩ := ho p.1 hb
    rw [e] at e'; cases e'
    exact ⟨e, f0, f1, f2, d⟩
theorem Inv.unpinned {pins pl : List (Addr × Obj)} {σ : St} {H : Hp} {s : Shared} (I : Inv X (pins ++ pl) σ H s) : Inv X pins σ H s := I.pins_of fun p hp => I.pin p (List.mem_append_right _ (List.mem_append_left _ hp))
theorem ps_for {iter : Expr} {body : List Stmt} {wi : TI} {g : TG} {tb : TS} {pos : Pos} (hp : PassesOwn (model X.prog X.w) X.A X.env X.xe) (hc : X.calm = true) (hi : PI X tg iter wi) (hg : PG X tg g) (hb : PSs X body tb)
    (hs : ∀ x, foldedSetIterable iter X.env x = pure x := by intro _; rfl) : PS X (.For tg iter body [] pos) (tFor wi g tb) := by
  intro pins s σ H D I h
  refine wpAny_For (thn (hi pins s σ H _ I h) fun v s1 h1 => thn h1 fun itv s2 h2 => ?_) hs
  obtain ⟨it, fp, tn, J, H2, e, I2, T, st2, f2, W, ⟨m0, w0⟩, turn⟩ := h2
  subst e
  -- what stays true of the iterator's objects through the loop
  have stat : ∀ {H' : Hp}, (∀ b ∈ fp, H' b = none) → ∀ b ∈ fp, FpOk X pins H' b := fun hn b hb => ⟨hn b hb, (f2 b hb).2⟩
  refine codeAny_forLoop_any (fun n s' => ∃ i σ' H', Inv X pins σ' H' s' ∧ tn i s'.heap ∧ (∀ b ∈ fp, H' b = none) ∧ W i n σ' H') ?_ m0 ⟨0, σ, H2, I2, st2, fun b hb => (f2 b hb).1, w0⟩
  rintro n s3 ⟨i, σ3, H3, I3, st3, fr3, w3⟩
  rcases turn i n σ3 H3 w3 with ⟨stop, qn⟩ | ⟨go, N, hN, step⟩
  · refine wpAny_passesOwn hp (thn (T.done X rfl rfl rfl hc i pins s3 σ3 H3 X.xe I3 (stat fr3) st3 stop) fun r s4 ⟨hr, I4⟩ => ?_)
    subst hr
    exact wpAny_execs_nil ⟨σ3, H3, I4, qn⟩
  · refine wpAny_passesOwn hp (thn (T.item X rfl rfl rfl hc i pins s3 σ3 H3 X.xe I3 (stat fr3) st3 go) fun r s4 ⟨u, hr, h4⟩ => ?_)
    subst hr
    refine wpAny_passesOwn hp (thn h4 fun _ s5 ⟨x, H5, I5, r5, y5, st5, fr5⟩ => ?_)
    have I5' := I5.pinned (stat fr5) (T.obj _ _ st5)
    refine wpAny_passesOwn hp (thn (hg _ s5 σ3 H5 x u _ I5' r5 (step x H5 y5)) fun _ s6 ⟨σ6, H6, I6, q6⟩ => ?_)
    refine wpAny_passesOwn hp (thn (hb _ s6 σ6 H6 _ I6 q6) fun f s7 q7 => ?_)
    have again : ∀ {σ7 : St} {H7 : Hp}, Inv X (pins ++ pinsAt fp s5.heap) σ7 H7 s7 → N σ7 H7 → ∃ m, m < n ∧ ∃ i σ' H', Inv X pins σ' H' s7 ∧ tn i s7.heap ∧ (∀ b ∈ fp, H' b = none) ∧ W i m σ' H' := fun {σ7 H7} I7 n7 => by
      obtain ⟨m', hm, w7⟩ := hN σ7 H7 n7
      refine ⟨m', hm, i + 1, σ7, H7, I7.unpinned, T.keep _ _ _ st5 fun b hb o e => (I7.pin (b, o) (List.mem_append_right _ (List.mem_append_right _ (mem_pinsAt hb e)))).1, fun b hb => ?_, w7⟩
      obtain ⟨o, e, d⟩ := T.obj _ _ st5 b hb
      exact (I7.pin (b, o) (List.mem_append_right _ (List.mem_append_right _ (mem_pinsAt hb e)))).2.1
    cases f with
    | next => obtain ⟨σ7, H7, I7, n7⟩ := q7; exact again I7 n7
    | cont => obtain ⟨σ7, H7, I7, n7⟩ := q7; exact again I7 n7
    | brk => obtain ⟨σ7, H7, I7, q7⟩ := q7; exact ⟨σ7, H7, I7.unpinned, q7⟩
    | ret v => obtain ⟨x7, σ7, H7, I7, r7, q7⟩ := q7; exact ⟨x7, σ7, H7, I7.unpinned, r7, q7⟩
end

/-! ### the forms one uses -/
/-- over a list that the body leaves as it is -/
theorem for_list {K : PySem.W.Frag} {a : Addr} {xs : List V} {g : TG} {tb : TS} {D : Ends} {σ : St} {H : Hp} (Pv : Nat → St → Hp → Prop) (h0 : Pv 0 σ H) (hl : ∀ i σ H, i ≤ xs.length → Pv i σ H → SqL K H a xs)
    (hs : ∀ i x σ H, xs[i]? = some x → Pv i σ H → g x σ H fun σ2 H2 => tb { D with nx := Pv (i + 1), ct := Pv (i + 1), bk := D.nx } σ2 H2) (hd : ∀ σ H, Pv xs.length σ H → D.nx σ H) :
    ∃ W : Nat → Nat → St → Hp → Prop, (∃ m, W 0 m σ H) ∧ ∀ i m σ H, W i m σ H →
      ((Itl K a).stop i H ∧ D.nx σ H) ∨ ((Itl K a).go i H ∧ ∃ N : St → Hp → Prop, (∀ σ' H', N σ' H' → ∃ m', m' < m ∧ W (i + 1) m' σ' H') ∧ ∀ x H', (Itl K a).yld i H x H' → g x σ H' fun σ2 H2 => tb { D with nx := N, ct := N, bk := D.nx } σ2 H2) := by
  refine ⟨fun i m σ H => m = xs.length - i ∧ i ≤ xs.length ∧ Pv i σ H, ⟨xs.length, by simp, Nat.zero_le _, h0⟩, ?_⟩
  rintro i m σ H ⟨rfl, hi, p⟩
  have q := hl i σ H hi p
  by_cases hlt : i < xs.length
  · refine .inr ⟨⟨xs, xs[i], q, by simp [hlt]⟩, Pv (i + 1), fun σ' H' p' => ⟨xs.length - (i + 1), by omega, rfl, hlt, p'⟩, fun x H' y => ?_⟩
    obtain ⟨e, y⟩ := y
    subst e
    exact hs i x σ _ (y xs q) p
  · have e : i = xs.length := by omega
    subst e
    exact .inl ⟨⟨xs, q, Nat.le_refl _⟩, hd σ H p⟩
theorem for_range {lo : Int} {n : Nat} {g : TG} {tb : TS} {D : Ends} {σ : St} {H : Hp} (Pv : Nat → St → Hp → Prop) (h0 : Pv 0 σ H)
    (hs : ∀ i σ H, i < n → Pv i σ H → g (.int (lo + i)) σ H fun σ2 H2 => tb { D with nx := Pv (i + 1), ct := Pv (i + 1), bk := D.nx } σ2 H2) (hd : ∀ σ H, Pv n σ H → D.nx σ H) :
    ∃ W : Nat → Nat → St → Hp → Prop, (∃ m, W 0 m σ H) ∧ ∀ i m σ H, W i m σ H →
      ((Itr lo n).stop i H ∧ D.nx σ H) ∨ ((Itr lo n).go i H ∧ ∃ N : St → Hp → Prop, (∀ σ' H', N σ' H' → ∃ m', m' < m ∧ W (i + 1) m' σ' H') ∧ ∀ x H', (Itr lo n).yld i H x H' → g x σ H' fun σ2 H2 => tb { D with nx := N, ct := N, bk := D.nx } σ2 H2) := by
  refine ⟨fun i m σ H => m = n - i ∧ i ≤ n ∧ Pv i σ H, ⟨n, by simp, Nat.zero_le _, h0⟩, ?_⟩
  rintro i m σ H ⟨rfl, hi, p⟩
  by_cases hlt : i < n
  · refine .inr ⟨hlt, Pv (i + 1), fun σ' H' p' => ⟨n - (i + 1), by omega, rfl, hlt, p'⟩, fun x H' y => ?_⟩
    obtain ⟨e, y⟩ := y
    subst e y
    exact hs i σ _ hlt p
  · have e : i = n := by omega
    subst e
    exact .inl ⟨Nat.le_refl _, hd σ H p⟩
end L2

namespace L2
open PySem PySem.Spec PyProof.Rows

abbrev R2 := V → V → Hp → VK → Prop
/-- a two-place operation on values: f is binaryOp op, inplaceOp op or compareOp op -/
def OpR (X : Cx) (f : Value → Value → Sem Value) (r : R2) : Prop :=
  ∀ (pins : List (Addr × Obj)) (s : Shared) (σ : St) (H : Hp) (x y : V) (v u : Value) (Q : VK), Inv X pins σ H s → RelV x v → RelV y u → r x y H Q →
    wpAny (model X.prog X.w) X.A (f v u) (EP X pins σ Q) X.xe s
/-- a one-place operation -/
def UnR (X : Cx) (f : Value → Sem Value) (r : V → Hp → VK → Prop) : Prop :=
  ∀ (pins : List (Addr × Obj)) (s : Shared) (σ : St) (H : Hp) (x : V) (v : Value) (Q : VK), Inv X pins σ H s → RelV x v → r x H Q →
    wpAny (model X.prog X.w) X.A (f v) (EP X pins σ Q) X.xe s
/-- a call of a value that is known (a builtin, a type) with values -/
def CallR (X : Cx) (f : Value) (r : List V → Hp → VK → Prop) : Prop :=
  ∀ (pins : List (Addr × Obj)) (s : Shared) (σ : St) (H : Hp) (xs : List V) (us : List Value) (Q : VK), Inv X pins σ H s → Vals xs us → r xs H Q →
    wpAny (model X.prog X.w) X.A (call f us) (EP X pins σ Q) X.xe s
def tOp (r : R2) (ta tb : TE) : TE := fun σ H Q => ta σ H fun x H1 => tb σ H1 fun y H2 => r x y H2 Q
def tUn (r : V → Hp → VK → Prop) (ta : TE) : TE := fun σ H Q => ta σ H fun x H1 => r x H1 Q
/-- ints in, under C, and a value out -/
def rI (C : Int → Int → Prop) (g : Int → Int → V) : R2 := fun x y H Q => ∃ i j, x = .int i ∧ y = .int j ∧ C i j ∧ Q (g i j) H
def rI0 (g : Int → Int → V) : R2 := fun x y H Q => ∃ i j, x = .int i ∧ y = .int j ∧ Q (g i j) H
def rU (g : Int → V) : V → Hp → VK → Prop := fun x H Q => ∃ i, x = .int i ∧ Q (g i) H

section
variable {X : Cx} {a b c : Expr} {ta tb tc : TE} {pos : Pos}

theorem binT (ha : PE X a ta) (hb : PE X b tb) {pins : List (Addr × Obj)} {s : Shared} {σ : St} {H : Hp} {R : V → V → Hp → Prop} (I : Inv X pins σ H s)
    (h : ta σ H fun x H1 => tb σ H1 fun y H2 => R x y H2) {Q : Value → Shared → Prop} {f : Value → Value → Sem Value}
    (hf : ∀ v u s2 x y H2, Inv X pins σ H2 s2 → RelV x v → RelV y u → R x y H2 → wpAny (model X.prog X.w) X.A (f v u) Q X.xe s2) :
    wpAny (model X.prog X.w) X.A (eval a X.env) (fun v s₁ => wpAny (model X.prog X.w) X.A (eval b X.env) (fun u s₂ => wpAny (model X.prog X.w) X.A (f v u) Q X.xe s₂) X.xe s₁) X.xe s := by
  refine thn (ha pins s σ H _ I h) fun v s1 ⟨x, H1, I1, r1, q1⟩ => ?_
  refine thn (hb pins s1 σ H1 _ I1 q1) fun u s2 ⟨y, H2, I2, r2, q2⟩ => ?_
  exact hf v u s2 x y H2 I2 r1 r2 q2

theorem pe_op {op : Operator} {r : R2} (ho : OpR X (binaryOp op) r) (ha : PE X a ta) (hb : PE X b tb) : PE X (.BinOp a op b pos) (tOp r ta tb) := by
  intro pins s σ H Q I h
  exact wpAny_BinOp (binT ha hb I h fun v u s2 x y H2 I2 rx ry q => ho pins s2 σ H2 x y v u Q I2 rx ry q)
theorem pe_un {op : UnaryOp} {r : V → Hp → VK → Prop} (ho : UnR X (unaryOp op) r) (ha : PE X a ta) : PE X (.UnaryOp op a pos) (tUn r ta) := by
  intro pins s σ H Q I h
  exact UnaryOp_ (thn (ha pins s σ H _ I h) fun v s1 ⟨x, H1, I1, r1, q1⟩ => ho pins s1 σ H1 x v Q I1 r1 q1)
/-! ### ints -/
theorem opI {f : Value → Value → Sem Value} {C : Int → Int → Prop} {g : Int → Int → Int}
    (rule : ∀ (i j : Int) (t u : Tok) (s : Shared) (Q : Value → Shared → Prop) (E : Value → Shared → Prop), C i j → Q (.int (g i j) s.toks) { s with toks := s.toks + 1 } → wpAny (model X.prog X.w) X.A (f (.int i t) (.int j u)) Q E s) :
    OpR X f (rI C fun i j => .int (g i j)) := by
  intro pins s σ H x y v u Q I rx ry h
  obtain ⟨i, j, rfl, rfl, hc, q⟩ := h
  obtain ⟨t, rfl⟩ := rx
  obtain ⟨t', rfl⟩ := ry
  exact rule i j t t' s _ _ hc ⟨.int (g i j), H, I.tok _, ⟨_, rfl⟩, q⟩
theorem opI0 {f : Value → Value → Sem Value} {g : Int → Int → Int}
    (rule : ∀ (i j : Int) (t u : Tok) (s : Shared) (Q : Value → Shared → Prop) (E : Value → Shared → Prop), Q (.int (g i j) s.toks) { s with toks := s.toks + 1 } → wpAny (model X.prog X.w) X.A (f (.int i t) (.int j u)) Q E s) :
    OpR X f (rI0 fun i j => .int (g i j)) := by
  intro pins s σ H x y v u Q I rx ry h
  obtain ⟨i, j, rfl, rfl, q⟩ := h
  obtain ⟨t, rfl⟩ := rx
  obtain ⟨t', rfl⟩ := ry
  exact rule i j t t' s _ _ ⟨.int (g i j), H, I.tok _, ⟨_, rfl⟩, q⟩
theorem opB0 {f : Value → Value → Sem Value} {g : Int → Int → Bool}
    (rule : ∀ (i j : Int) (t u : Tok) (s : Shared) (Q : Value → Shared → Prop) (E : Value → Shared → Prop), Q (.bool (g i j)) s → wpAny (model X.prog X.w) X.A (f (.int i t) (.int j u)) Q E s) :
    OpR X f (rI0 fun i j => .bl (g i j)) := by
  intro pins s σ H x y v u Q I rx ry h
  obtain ⟨i, j, rfl, rfl, q⟩ := h
  obtain ⟨t, rfl⟩ := rx
  obtain ⟨t', rfl⟩ := ry
  exact rule i j t t' s _ _ ⟨.bl (g i j), H, I, rfl, q⟩

def CDiv (i j : Int) : Prop := 0 < j ∧ j < 1073741824
def CPow (i j : Int) : Prop := 0 ≤ j ∧ j ≤ 1000000 ∧ i.natAbs < 2 ^ 64
def CMul (i j : Int) : Prop := (-(2 ^ 64) < i ∧ i < 2 ^ 64) ∨ (-(2 ^ 64) < j ∧ j < 2 ^ 64)
theorem CMul.ok {i j : Int} (h : CMul i j) : IntMulOk i j := by
  rcases h with ⟨h1, h2⟩ | ⟨h1, h2⟩
  · exact .of_left (intBits_le_64 h1 h2)
  · exact .of_right (intBits_le_64 h1 h2)
theorem two_pow_nn (k : Nat) : (0 : Int) ≤ 2 ^ k := by
  rw [two_pow_cast]
  exact Int.natCast_nonneg _

theorem op_add : OpR X (binaryOp .Add) (rI0 fun i j => .int (i + j)) := opI0 fun _ _ _ _ _ _ _ q => add_int q
theorem op_sub : OpR X (binaryOp .Sub) (rI0 fun i j => .int (i - j)) := opI0 fun _ _ _ _ _ _ _ q => sub_int q
theorem op_mul : OpR X (binaryOp .Mult) (rI CMul fun i j => .int (i * j)) := opI fun _ _ _ _ _ _ _ hc q => mul_int q hc.ok
/-- // by a positive divisor -/
theorem op_fdiv : OpR X (binaryOp .FloorDiv) (rI CDiv fun i j => .int (i / j)) := opI fun i j _ _ _ _ _ hc q => by
  have h1 : (0 : Int) < j := hc.1
  have h2 : j < 1073741824 := hc.2
  exact floordiv_int (by omega) (by rw [Int.fdiv_eq_ediv_of_nonneg i (by omega)]; exact q) (.inl (PyProof.noPylong_small (by omega)))
/-- % by a positive divisor of any size -/
theorem op_mod : OpR X (binaryOp .Mod) (rI (fun _ j => 0 < j) fun i j => .int (i % j)) := opI fun i j _ _ _ _ _ hc q => by
  have h1 : (0 : Int) < j := hc
  exact mod_int' (by omega) (by rw [Int.fmod_eq_emod_of_nonneg i (by omega)]; exact q)
theorem op_pow : OpR X (binaryOp .Pow) (rI CPow fun i j => .int (i ^ j.toNat)) := opI fun _ _ _ _ _ _ _ hc q => pow_int_small hc.1 hc.2.1 hc.2.2 q
theorem op_shl : OpR X (binaryOp .LShift) (rI CPow fun i j => .int (i * 2 ^ j.toNat)) := opI fun _ _ _ _ _ _ _ hc q => lshift_int_small hc.1 hc.2.1 hc.2.2 q
theorem op_shr : OpR X (binaryOp .RShift) (rI (fun _ j => 0 ≤ j) fun i j => .int (i / 2 ^ j.toNat)) := opI fun i j _ _ _ _ _ hc q =>
  rshift_int hc (by rw [Int.fdiv_eq_ediv_of_nonneg i (two_pow_nn _)]; exact q)
theorem op_and : OpR X (binaryOp .BitAnd) (rI0 fun i j => .int (Builtin.bitAnd i j)) := opI0 fun _ _ _ _ _ _ _ q => and_int q
theorem op_or : OpR X (binaryOp .BitOr) (rI0 fun i j => .int (Builtin.bitOr i j)) := opI0 fun _ _ _ _ _ _ _ q => or_int q
theorem unI {f : Value → Sem Value} {g : Int → Int}
    (rule : ∀ (i : Int) (t : Tok) (s : Shared) (Q : Value → Shared → Prop) (E : Value → Shared → Prop), Q (.int (g i) s.toks) { s with toks := s.toks + 1 } → wpAny (model X.prog X.w) X.A (f (.int i t)) Q E s) :
    UnR X f (rU fun i => .int (g i)) := by
  intro pins s σ H x v Q I rx h
  obtain ⟨i, rfl, q⟩ := h
  obtain ⟨t, rfl⟩ := rx
  exact rule i t s _ _ ⟨.int (g i), H, I.tok _, ⟨_, rfl⟩, q⟩
theorem un_neg : UnR X (unaryOp .USub) (rU fun i => .int (-i)) := unI fun _ _ _ _ _ q => neg_int q
/-! ### bools among ints: n += (a < b) -/
end

/-! ### comparisons -/
/-- the scalars that == tells apart as data does -/
def scal : V → V → Bool
  | .non, .non => true | .non, .int _ => true | .int _, .non => true | .non, .bl _ => true | .bl _, .non => true | .non, .str _ => true | .str _, .non => true
  | .int _, .int _ => true | .bl _, .bl _ => true | .str _, .str _ => true | .byt _, .byt _ => true
  | .int _, .str _ => true | .str _, .int _ => true | .bl _, .str _ => true | .str _, .bl _ => true
  | _, _ => false
def rEq : R2 := fun x y H Q => scal x y = true ∧ Q (.bl (decide (x = y))) H
def rNe : R2 := fun x y H Q => scal x y = true ∧ Q (.bl (!decide (x = y))) H

theorem dec_int {i j : Int} : decide (V.int i = V.int j) = (i == j) := by
  rw [Bool.eq_iff_iff]
  simp
theorem dec_bl {i j : Bool} : decide (V.bl i = V.bl j) = (i == j) := by
  rw [Bool.eq_iff_iff]
  simp
theorem dec_str {i j : Str} : decide (V.str i = V.str j) = (i == j) := by
  rw [Bool.eq_iff_iff]
  simp
theorem dec_byt {i j : Array UInt8} : decide (V.byt i = V.byt j) = (i.toList == j.toList) := by
  rw [Bool.eq_iff_iff]
  cases i
  cases j
  simp

section
variable {X : Cx} {a b c : Expr} {ta tb tc : TE} {pos : Pos}
theorem fin_bl {pins : List (Addr × Obj)} {σ : St} {H : Hp} {s : Shared} {Q : VK} {k k' : Bool} (I : Inv X pins σ H s) (q : Q (.bl k) H) (e : k = k') : EP X pins σ Q (.bool k') s := by
  subst e
  exact ⟨.bl k, H, I, rfl, q⟩
theorem op_eq : OpR X (compareOp .Eq) rEq := by
  intro pins s σ H x y v u Q I rx ry h
  obtain ⟨hs, q⟩ := h
  cases x with
  | non =>
    cases rx
    cases y with
    | non => cases ry; exact PySem.EqNone.eq_none_none (fin_bl I q (by simp))
    | bl j => cases ry; exact PySem.EqNone.eq_none_bool (fin_bl I q (by simp))
    | int j => obtain ⟨t', rfl⟩ := ry; exact PySem.EqNone.eq_none_int (fin_bl I q (by simp))
    | str j => obtain ⟨t', rfl⟩ := ry; exact PySem.EqNone.eq_none_str (fin_bl I q (by simp))
    | _ => exact absurd (show false = true from hs) Bool.false_ne_true
  | bl i =>
    cases rx
    cases y with
    | non => cases ry; exact PySem.EqNone.eq_bool_none (fin_bl I q (by simp))
    | bl j => cases ry; exact eq_bool (fin_bl I q dec_bl)
    | str j => obtain ⟨t', rfl⟩ := ry; exact PySem.EqMixed.eq_bool_str (fin_bl I q (by simp))
    | _ => exact absurd (show false = true from hs) Bool.false_ne_true
  | int i =>
    obtain ⟨t, rfl⟩ := rx
    cases y with
    | non => cases ry; exact PySem.EqNone.eq_int_none (fin_bl I q (by simp))
    | int j => obtain ⟨t', rfl⟩ := ry; exact eq_int (fin_bl I q dec_int)
    | str j => obtain ⟨t', rfl⟩ := ry; exact PySem.EqMixed.eq_int_str (fin_bl I q (by simp))
    | _ => exact absurd (show false = true from hs) Bool.false_ne_true
  | str i =>
    obtain ⟨t, rfl⟩ := rx
    cases y with
    | non => cases ry; exact PySem.EqNone.eq_str_none (fin_bl I q (by simp))
    | bl j => cases ry; exact PySem.EqMixed.eq_str_bool (fin_bl I q (by simp))
    | int j => obtain ⟨t', rfl⟩ := ry; exact PySem.EqMixed.eq_str_int (fin_bl I q (by simp))
    | str j => obtain ⟨t', rfl⟩ := ry; exact eq_str (fin_bl I q dec_str)
    | _ => exact absurd (show false = true from hs) Bool.false_ne_true
  | byt i =>
    obtain ⟨t, rfl⟩ := rx
    cases y with
    | byt j => obtain ⟨t', rfl⟩ := ry; exact PySem.W.eq_bytes (fin_bl I q dec_byt)
    | _ => exact absurd (show false = true from hs) Bool.false_ne_true
  | _ => cases y <;> exact absurd (show false = true from hs) Bool.false_ne_true
theorem op_ne : OpR X (compareOp .NotEq) rNe := by
  intro pins s σ H x y v u Q I rx ry h
  obtain ⟨hs, q⟩ := h
  cases x with
  | non =>
    cases rx
    cases y with
    | non => cases ry; exact PySem.EqNone.ne_none_none (fin_bl I q (by simp))
    | bl j => cases ry; exact PySem.EqNone.ne_none_bool (fin_bl I q (by simp))
    | int j => obtain ⟨t', rfl⟩ := ry; exact PySem.EqNone.ne_none_int (fin_bl I q (by simp))
    | str j => obtain ⟨t', rfl⟩ := ry; exact PySem.EqNone.ne_none_str (fin_bl I q (by simp))
    | _ => exact absurd (show false = true from hs) Bool.false_ne_true
  | bl i =>
    cases rx
    cases y with
    | non => cases ry; exact PySem.EqNone.ne_bool_none (fin_bl I q (by simp))
    | bl j => cases ry; exact ne_bool (fin_bl I q (congrArg not dec_bl))
    | str j => obtain ⟨t', rfl⟩ := ry; exact PySem.EqMixed.ne_bool_str (fin_bl I q (by simp))
    | _ => exact absurd (show false = true from hs) Bool.false_ne_true
  | int i =>
    obtain ⟨t, rfl⟩ := rx
    cases y with
    | non => cases ry; exact PySem.EqNone.ne_int_none (fin_bl I q (by simp))
    | int j => obtain ⟨t', rfl⟩ := ry; exact ne_int (fin_bl I q (congrArg not dec_int))
    | str j => obtain ⟨t', rfl⟩ := ry; exact PySem.EqMixed.ne_int_str (fin_bl I q (by simp))
    | _ => exact absurd (show false = true from hs) Bool.false_ne_true
  | str i =>
    obtain ⟨t, rfl⟩ := rx
    cases y with
    | non => cases ry; exact PySem.EqNone.ne_str_none (fin_bl I q (by simp))
    | bl j => cases ry; exact PySem.EqMixed.ne_str_bool (fin_bl I q (by simp))
    | int j => obtain ⟨t', rfl⟩ := ry; exact PySem.EqMixed.ne_str_int (fin_bl I q (by simp))
    | str j => obtain ⟨t', rfl⟩ := ry; exact ne_str (fin_bl I q (congrArg not dec_str))
    | _ => exact absurd (show false = true from hs) Bool.false_ne_true
  | byt i =>
    obtain ⟨t, rfl⟩ := rx
    cases y with
    | byt j => obtain ⟨t', rfl⟩ := ry; exact PySem.W.ne_bytes (fin_bl I q (congrArg not dec_byt))
    | _ => exact absurd (show false = true from hs) Bool.false_ne_true
  | _ => cases y <;> exact absurd (show false = true from hs) Bool.false_ne_true

theorem op_lt : OpR X (compareOp .Lt) (rI0 fun i j => .bl (decide (i < j))) := opB0 fun _ _ _ _ _ _ _ q => lt_int q
theorem op_le : OpR X (compareOp .LtE) (rI0 fun i j => .bl (decide (i ≤ j))) := opB0 fun _ _ _ _ _ _ _ q => le_int q
theorem op_gt : OpR X (compareOp .Gt) (rI0 fun i j => .bl (decide (j < i))) := opB0 fun _ _ _ _ _ _ _ q => gt_int q
theorem op_ge : OpR X (compareOp .GtE) (rI0 fun i j => .bl (decide (j ≤ i))) := opB0 fun _ _ _ _ _ _ _ q => ge_int q
/-- is None, is not None: the right side a value none -/
theorem op_isN : OpR X (compareOp .Is) (fun x y H Q => y = .non ∧ Q (.bl (decide (x = .non))) H) := by
  intro pins s σ H x y v u Q I rx ry h
  obtain ⟨rfl, q⟩ := h
  cases ry
  refine is_none_gen (fin_bl I q ?_)
  cases x <;> first
    | (cases rx; rfl)
    | (obtain ⟨t, rfl⟩ := rx; rfl)
theorem op_notN : OpR X (compareOp .IsNot) (fun x y H Q => y = .non ∧ Q (.bl (!decide (x = .non))) H) := by
  intro pins s σ H x y v u Q I rx ry h
  obtain ⟨rfl, q⟩ := h
  cases ry
  refine isnot_none_gen (fin_bl I q ?_)
  cases x <;> first
    | (cases rx; rfl)
    | (obtain ⟨t, rfl⟩ := rx; rfl)

theorem nomark (b : Expr) {op : CmpOp} (h : op ≠ .In := by decide) (h2 : op ≠ .NotIn := by decide) : behindInMarks op b = false := by
  have e1 : (op == CmpOp.In) = false := by cases op <;> first | rfl | exact absurd rfl h
  have e2 : (op == CmpOp.NotIn) = false := by cases op <;> first | rfl | exact absurd rfl h2
  cases b <;> simp [behindInMarks, e1, e2]
/-- a comparison as a value; hm: nomark b, or (for in, not in) by with_unfolding_all rfl -/
theorem pe_cmpR {op : CmpOp} {r : R2} (ho : OpR X (compareOp op) r) (ha : PE X a ta) (hb : PE X b tb) (hm : behindInMarks op b = false) : PE X (.Compare a [op] [b] pos) (tOp r ta tb) := by
  intro pins s σ H Q I h
  exact wpAny_Compare1 (binT ha hb I h fun v u s2 x y H2 I2 rx ry q => ho pins s2 σ H2 x y v u Q I2 rx ry q) hm
/-- a reading of a value as a test -/
def tTest (t : TE) : TT := fun σ H Q => t σ H fun x H' => ∃ k, x = .bl k ∧ Q k H'
theorem pt_cmpR {op : CmpOp} {r : R2} (ho : OpR X (compareOp op) r) (ha : PE X a ta) (hb : PE X b tb) (hm : behindInMarks op b = false) : PT X (.Compare a [op] [b] pos) (tTest (tOp r ta tb)) := by
  intro pins s σ H Q I h
  refine wpAny_isTrue_Compare1 (thn (ha pins s σ H _ I h) fun v s1 ⟨x, H1, I1, r1, q1⟩ => thn (hb pins s1 σ H1 _ I1 q1) fun u s2 ⟨y, H2, I2, r2, q2⟩ =>
    thn (ho pins s2 σ H2 x y v u _ I2 r1 r2 q2) fun c s3 ⟨z, H3, I3, r3, k, e, q3⟩ => ?_) hm
  subst e
  cases r3
  exact wpAny_truthy_bool ⟨H3, I3, q3⟩
/-- a op1 b op2 c -/
def tChain (r r' : R2) (ta tb tc : TE) : TE := fun σ H Q => ta σ H fun x H1 => tb σ H1 fun y H2 => r x y H2 fun z H3 => ∃ k, z = .bl k ∧
  (if k = true then tc σ H3 fun w' H4 => r' y w' H4 Q else Q (.bl false) H3)
theorem pe_chain {op op' : CmpOp} {r r' : R2} (ho : OpR X (compareOp op) r) (ho' : OpR X (compareOp op') r') (ha : PE X a ta) (hb : PE X b tb) (hc : PE X c tc)
    (hm : lastMarks [op, op'] [b, c] = false := by with_unfolding_all rfl) : PE X (.Compare a [op, op'] [b, c] pos) (tChain r r' ta tb tc) := by
  intro pins s σ H Q I h
  refine Compare_chain (thn (ha pins s σ H _ I h) fun v s1 ⟨x, H1, I1, r1, q1⟩ => chain_link (thn (hb pins s1 σ H1 _ I1 q1) fun u s2 ⟨y, H2, I2, r2, q2⟩ =>
    thn (ho pins s2 σ H2 x y v u _ I2 r1 r2 q2) fun d s3 ⟨z, H3, I3, r3, k, e, q3⟩ => ?_)) hm
  subst e
  cases r3
  refine wpAny_truthy_bool ?_
  cases k with
  | false => exact ite_ff ⟨.bl false, H3, I3, rfl, q3⟩
  | true => exact ite_tt (chain_last (thn (hc pins s3 σ H3 _ I3 q3) fun w' s4 ⟨z', H4, I4, r4, q4⟩ => ho' pins s4 σ H4 y z' u w' Q I4 r2 r4 q4))
/-! ### truth -/
theorem line63 : (sizeLine : Nat) < 2 ^ 63 := by rw [sizeLine_eq]; decide
/-! ### strs and bytes -/
/-! ### scalar builtins, by CallR -/
theorem vals1 {x : V} {us : List Value} (r : Vals [x] us) : ∃ u, us = [u] ∧ RelV x u := by
  cases r with
  | cons r1 r2 => cases r2; exact ⟨_, rfl, r1⟩
theorem vals2 {x y : V} {us : List Value} (r : Vals [x, y] us) : ∃ u w', us = [u, w'] ∧ RelV x u ∧ RelV y w' := by
  cases r with
  | cons r1 r2 =>
    cases r2 with
    | cons r3 r4 => cases r4; exact ⟨_, _, rfl, r1, r3⟩
theorem call_max2 (hc : X.calm = true) : CallR X (.builtin "max") (fun xs H Q => ∃ i j, xs = [.int i, .int j] ∧ Q (.int (if j > i then j else i)) H) := by
  intro pins s σ H xs us Q I r h
  obtain ⟨i, j, rfl, q⟩ := h
  obtain ⟨u, w', rfl, ⟨t, rfl⟩, ⟨t', rfl⟩⟩ := vals2 r
  refine max_two_ints (I.ok.hd hc) fun h' tk k => ⟨_, H, I.kept k, ?_, q⟩
  by_cases hj : j > i
  · rw [if_pos hj, if_pos hj]; exact ⟨_, rfl⟩
  · rw [if_neg hj, if_neg hj]; exact ⟨_, rfl⟩
theorem call_int1 : CallR X (.type "int") (fun xs H Q => (∃ i, xs = [.int i] ∧ Q (.int i) H) ∨ ∃ k, xs = [.bl k] ∧ Q (.int (if k then 1 else 0)) H) := by
  intro pins s σ H xs us Q I r h
  rcases h with ⟨i, rfl, q⟩ | ⟨k, rfl, q⟩
  · obtain ⟨u, rfl, t, rfl⟩ := vals1 r
    exact call_int_int ⟨.int i, H, I, ⟨_, rfl⟩, q⟩
  · obtain ⟨u, rfl, r1⟩ := vals1 r
    cases r1
    exact call_int_bool ⟨.int (if k then 1 else 0), H, I.tok _, ⟨_, rfl⟩, q⟩
end
end L2

namespace L2
open PySem PySem.Spec PyProof.Rows

/-! ### an instance, its attributes a map -/
structure ObjM (h : Heap) (x dx C : Addr) (mA : Str → Option Value) : Prop where
  obj : h.get? x = some (PySem.W.instObj C dx)
  ns : h.Ns1 dx mA
  ne : dx ≠ x

theorem lookIn_ns {h : Heap} {dx : Addr} {mA : Str → Option Value} (n : h.Ns1 dx mA) : ∃ od, h.get? dx = some od ∧ ∀ name, PySem.W.lookIn name od = some (mA name) := by
  obtain ⟨o, es, ep, ho, hd, hk, _, hm⟩ := n
  refine ⟨o, ho, fun name => ?_⟩
  have e := hm name
  unfold nsFind findBy at e
  rw [← Array.find?_toList] at e
  unfold PySem.W.lookIn
  rw [hd]
  dsimp only
  split
  · rename_i y q
    rw [q] at e
    exact congrArg some e
  · rename_i q
    rw [q] at e
    have a : es.toList.any (·.refKey) = false := by
      rw [List.any_eq_false]
      intro y hy
      obtain ⟨z, t, hkey⟩ := hk y (Array.mem_toList_iff.mp hy)
      simp [DictEntry.refKey, hkey]
    have a' : ¬ es.toList.any (·.refKey) = true := by rw [a]; exact Bool.false_ne_true
    rw [if_neg a']
    exact congrArg some e

theorem ObjM.look {h : Heap} {x dx C : Addr} {mA : Str → Option Value} (I : ObjM h x dx C mA) : ∃ od, PySem.W.InstAt h x (PySem.W.instObj C dx) C (some od) ∧ ∀ name, PySem.W.lookIn name od = some (mA name) :=
  let ⟨od, ho, hl⟩ := lookIn_ns I.ns
  ⟨od, ⟨I.obj, rfl, rfl, ho⟩, hl⟩

section
variable {prog : Program} {w : World} {A : Around} {E : Value → Shared → Prop} {s : Shared} {K : PySem.W.Frag} {x dx C f : Addr} {mA : Str → Option Value} {name : Str} {v : Value}

end

/-! ### the attributes as a list of pairs -/
section
variable {P : Program} {w : World} {H H' : Hp} {h h' : Heap} {a C dx : Addr} {fs fs' : List (Str × V)}
theorem ins_get (hok : HOk P w H h) (e : H a = some (.ins C dx fs)) : ∃ mA, ObjM h a dx C mA ∧ (∀ f, RelO (fs.lookup f) (mA f)) ∧ PySem.Within mA (fs.map (·.1)) ∧ fs.length ≤ 1000 ∧ H dx = some (.own a) := by
  obtain ⟨d, z, ne, ob, mA, n, r, q⟩ := (show ObjOk P w H h a (.ins C dx fs) from hok a _ e)
  exact ⟨mA, ⟨ob, n, ne⟩, r, q, z, d⟩
end

/-! ### what of the text a class must have -/
structure Cls (K : PySem.W.Frag) (C : Addr) : Prop where
  pg : PySem.W.plainGet K C Str.empty = true
  hd : PySem.W.hasDictIn K C = true
  po : PySem.W.plainOver K C = true
  sa : PySem.W.findIn K (.ref C) "__setattr__" = some (some (.builtin "object.__setattr__"))
theorem Cls.get {K : PySem.W.Frag} {C : Addr} (c : Cls K C) (f : Str) : PySem.W.plainGet K C f = true := c.pg
section
variable {X : Cx} {pins : List (Addr × Obj)} {σ : St} {H : Hp} {s : Shared} {a C dx : Addr} {fs : List (Str × V)} {f : Str} {v : V} {A : Around} {E : Value → Shared → Prop}

end

/-! ### readings and rules -/
section
variable {X : Cx} {o e value : Expr} {f : Str} {pos pos' tpos : Pos} {ta tv : TE}
end

/-! ### isinstance -/
section
variable {X : Cx} {pins : List (Addr × Obj)} {σ : St} {H : Hp} {s : Shared} {A : Around} {E : Value → Shared → Prop} {Q : Value → Shared → Prop} {c : Value} {b : Bool}
/-- the type of a value, as the fragment's deciders take it; for an instance its class -/
inductive TyOf (K : PySem.W.Frag) (H : Hp) : V → Value → Prop where
  | non : TyOf K H .non (.type "NoneType")
  | bl (x : Bool) : TyOf K H (.bl x) (.type "bool")
  | int (i : Int) : TyOf K H (.int i) (.type "int")
  | str (x : Str) : TyOf K H (.str x) (.type "str")
  | flt (x : UInt64) : TyOf K H (.flt x) (.type "float")
  | lst {a : Addr} {xs : List V} (e : H a = some (.lst xs)) : TyOf K H (.ref a) (.type "list")
  | frz {a : Addr} {o : Obj} {xs : List V} (e : H a = some (.frz o (.lst xs))) : TyOf K H (.ref a) (.type "list")
  | tup {a : Addr} {xs : List V} (e : H a = some (.tup xs)) : TyOf K H (.ref a) (.type "tuple")
  | dK {a : Addr} {kvs : List (Key × V)} (e : H a = some (.dK kvs)) : TyOf K H (.ref a) (.type "dict")
  | dT {a : Addr} {kvs : List (List Key × V)} (e : H a = some (.dT kvs)) : TyOf K H (.ref a) (.type "dict")
  | ins {a C dx : Addr} {fs : List (Str × V)} (e : H a = some (.ins C dx fs)) (cl : Cls K C) (ha : PySem.W.findIn K (.ref C) "__class__" = some (some (.builtin "object.__class__")))
      (hn : PySem.W.specialIn K (.builtin "object.__class__") "__get__" = some (some (.builtin "getset_descriptor.__get__"))) (htk : PySem.W.takesIn K (.builtin "object.__class__") = some true)
      (hm : PySem.W.mroIn K C (.type "object") = some true) : TyOf K H (.ref a) (.ref C)
/-- isinstance(x, c) for one class c, a built-in or an own one: kitOne's answer -/
theorem isinst_ok {x : V} {u t : Value} (I : Inv X pins σ H s) (rx : RelV x u) (ty : TyOf X.K H x t) (e : PySem.W.kitOne X.K t c = some b) (h : ∀ tk, Q (.bool b) { s with toks := tk }) :
    wpAny (model X.prog X.w) A (call (.builtin "isinstance") [u, c]) Q E s := by
  cases ty with
  | non => cases (show u = Value.none from rx); exact PySem.W.kia_one PySem.W.kitx_none I.kIn True.intro e (fun z => nomatch z) h
  | bl y => cases (show u = Value.bool y from rx); exact PySem.W.kia_one PySem.W.kitx_bool I.kIn True.intro e (fun z => nomatch z) h
  | int i => obtain ⟨t, q⟩ := (show ∃ t, u = Value.int i t from rx); cases q; exact PySem.W.kia_one PySem.W.kitx_int I.kIn True.intro e (fun z => nomatch z) h
  | str y => obtain ⟨t, q⟩ := (show ∃ t, u = Value.str y t from rx); cases q; exact PySem.W.kia_one PySem.W.kitx_str I.kIn True.intro e (fun z => nomatch z) h
  | flt y => obtain ⟨t, q⟩ := (show ∃ t, u = Value.float y t from rx); cases q; exact PySem.W.kia_one PySem.W.kitx_float I.kIn True.intro e (fun z => nomatch z) h
  | @lst a xs ea =>
    cases (show u = Value.ref a from rx)
    obtain ⟨_, _, n, _, h1⟩ := (show ObjOk X.prog X.w H s.heap a (.lst xs) from I.hok a _ ea)
    exact PySem.W.kia_one PySem.W.kitx_list I.kIn ⟨_, h1, rfl⟩ e (fun z => nomatch z) h
  | @frz a ob xs ea =>
    cases (show u = Value.ref a from rx)
    obtain ⟨_, _, _, n, _, h1⟩ := (show ObjOk X.prog X.w H s.heap a (.frz ob (.lst xs)) from I.hok a _ ea)
    exact PySem.W.kia_one PySem.W.kitx_list I.kIn ⟨_, h1, rfl⟩ e (fun z => nomatch z) h
  | @tup a xs ea =>
    cases (show u = Value.ref a from rx)
    obtain ⟨_, _, _, p⟩ := (show ObjOk X.prog X.w H s.heap a (.tup xs) from I.hok a _ ea)
    obtain ⟨o, h1, h2, _⟩ := p
    exact PySem.W.kia_one PySem.W.kitx_tuple I.kIn ⟨o, h1, h2⟩ e (fun z => nomatch z) h
  | @dK a kvs ea =>
    cases (show u = Value.ref a from rx)
    obtain ⟨_, _, vs, _, p⟩ := (show ObjOk X.prog X.w H s.heap a (.dK kvs) from I.hok a _ ea)
    obtain ⟨o, es, ep, h1, h2, _⟩ := p
    exact PySem.W.kia_one PySem.W.kitx_dict I.kIn ⟨o, h1, h2.1⟩ e (fun z => nomatch z) h
  | @dT a kvs ea =>
    cases (show u = Value.ref a from rx)
    obtain ⟨_, _, xs, _, o, es, ep, h1, h2, _⟩ := (show ObjOk X.prog X.w H s.heap a (.dT kvs) from I.hok a _ ea)
    exact PySem.W.kia_one PySem.W.kitx_dict I.kIn ⟨o, h1, h2.1⟩ e (fun z => nomatch z) h
  | @ins a C dx fs ea cl ha hn htk hm =>
    cases (show u = Value.ref a from rx)
    obtain ⟨mA, O, _⟩ := ins_get I.hok ea
    obtain ⟨od, J, _⟩ := O.look
    exact PySem.W.kia_one (PySem.W.kitx_own (cl.get _) cl.hd ha hn htk hm) I.kIn J e (fun z => nomatch z) h
end
end L2

namespace L2
open PySem PySem.Spec PyProof.Rows

/-! ### room -/
structure Room (k : Nat) (A : Around) : Prop where
  hd : A.handled = none
  dp : A.depth + 3 * k + 5 < recursionLimit
  un : A.units + 16 * k + 200 < cLine
theorem Room.mono {j k : Nat} {A : Around} (r : Room k A) (h : j ≤ k) : Room j A := ⟨r.hd, by have := r.dp; omega, by have := r.un; omega⟩
theorem Room.deeper {k : Nat} {A : Around} (r : Room (k + 1) A) (env : Env) : Room k (A.deeper env) :=
  ⟨r.hd, by have := r.dp; show A.depth + 1 + 3 * k + 5 < _; omega, by have := r.un; show A.units + 3 + 16 * k + 200 < _; omega⟩
theorem Room.depth {k : Nat} {A : Around} (r : Room k A) : A.depth < recursionLimit := by have := r.dp; omega
theorem Room.units {k : Nat} {A : Around} (r : Room k A) : A.units + 64 < cLine := by have := r.un; omega
/-! ### argument lists and displays -/
def tNil : TA := fun _ H Q => Q [] H
def tCons (ta : TE) (tr : TA) : TA := fun σ H Q => ta σ H fun x H1 => tr σ H1 fun xs H2 => Q (x :: xs) H2
section
variable {X : Cx} {e : Expr} {es : List Expr} {te : TE} {t : TA} {pos : Pos}
theorem pa_nil : PA X [] tNil := fun _ _ _ _ H Q I h => Calls.spliced_nil ⟨[], H, I, .nil, h⟩
theorem pa_cons (ha : PE X e te) (hr : PA X es t) (hs : starEach (e :: es) X.env = (false, eval e X.env) :: starEach es X.env := by rfl) : PA X (e :: es) (tCons te t) := by
  intro pos pins s σ H Q I h
  rw [hs]
  show wpAny _ _ (spliced ((false, eval e X.env) :: backTo pos (starEach es X.env))) _ _ s
  refine Calls.spliced_cons (thn (ha pins s σ H _ I h) fun u s1 ⟨x, H1, I1, r1, q1⟩ => ?_)
  exact thn (hr pos pins s1 σ H1 _ I1 q1) fun us s2 ⟨xs, H2, I2, r2, q2⟩ => ⟨x :: xs, H2, I2, .cons r1 r2, q2⟩

/-- a tuple, a list of written items -/
def tTup (t : TA) : TE := fun σ H Q => t σ H fun xs H1 => xs.length ≤ sizeLine ∧ ∀ p, H1 p = none → Q (.ref p) (upd H1 p (.tup xs))
def tLst (t : TA) : TE := fun σ H Q => t σ H fun xs H1 => xs.length ≤ sizeLine ∧ ∀ p, H1 p = none → Q (.ref p) (upd H1 p (.lst xs))
theorem pe_tup {x1} (h : PA X es t) : PE X (.Tuple es x1 pos) (tTup t) := by
  intro pins s σ H Q I hq
  refine wpAny_Tuple_spliced (thn (h pos pins s σ H _ I hq) fun us s1 ⟨xs, H1, I1, r, z, q⟩ => ⟨by rw [← r.length]; exact z, ?_⟩)
  have hf : H1 s1.heap.objs.size = none := I1.hok.fresh (Nat.le_refl _)
  refine ⟨.ref s1.heap.objs.size, upd H1 s1.heap.objs.size (.tup xs), I1.laid (t' := s1.toks) (fun b u e => Heap.get?_push_of_some _ e) (Nat.le_refl _) ?_, rfl, q _ hf⟩
  exact ⟨z, us, r, ⟨_, Heap.get?_push_size _ rfl, rfl, _, rfl⟩⟩
theorem pe_lst (h : PA X es t) : PE X (.List es pos) (tLst t) := by
  intro pins s σ H Q I hq
  refine wpAny_List_spliced (thn (h pos pins s σ H _ I hq) fun us s1 ⟨xs, H1, I1, r, z, q⟩ => ⟨by rw [← r.length]; exact z, ?_⟩)
  have hf : H1 s1.heap.objs.size = none := I1.hok.fresh (Nat.le_refl _)
  refine ⟨.ref s1.heap.objs.size, upd H1 s1.heap.objs.size (.lst xs), I1.laid (t' := s1.toks) (fun b u e => Heap.get?_push_of_some _ e) (Nat.le_refl _) ?_, rfl, q _ hf⟩
  exact ⟨z, us, 0, r, Heap.get?_push_size _ rfl⟩
end

/-! ### what a def promises -/
/-- a def's promise: the bound arguments in the parameters' order, the heap, the wanted end, the wanted exception -/
abbrev Sp := List V → Hp → VK → XK → Prop
/-- how an exception lies behind a call (file 08 gives it): the callers' frames, abstract heap and state ahead of the call, the wish, the exception, the state -/
abbrev CXT := List Env → Hp → Shared → XK → Value → Shared → Prop

/-- the state at a call -/
structure Env0 (P : Program) (w : World) (K : PySem.W.Frag) (mg : Str → Option Value) (base : Heap) (A : Around) (outer : List Env) (s : Shared) (H : Hp) : Prop where
  frames : A.frames = some outer
  mod : Mod K mg base
  bs : ∀ b o, base.get? b = some o → s.heap.get? b = some o ∧ H b = none
  bsz : base.objs.size ≤ s.heap.objs.size
  funs : s.heap.FunFrames base outer
  frf : ∀ b ∈ frs outer, H b = none
  hok : HOk P w H s.heap
  bare : AllBare s.gens
/-- a call's end -/
def CE (outer : List Env) (P : Program) (w : World) (H : Hp) (s : Shared) (Q : VK) (u : Value) (s' : Shared) : Prop :=
  ∃ v H', s'.os = s.os ∧ AllBare s'.gens ∧ Un (frs outer) [] H H' s.heap s'.heap ∧ HOk P w H' s'.heap ∧ RelV v u ∧ Q v H'
def CR (CX : CXT) (outer : List Env) (P : Program) (w : World) (H : Hp) (s : Shared) (Q : VK) (E : XK) (r : Result) (s' : Shared) : Prop :=
  match r with
  | .ok (.ret u) => CE outer P w H s Q u s'
  | .ok _ => False
  | .error e => CX outer H s E e s'
structure FnOk (P : Program) (w : World) (K : PySem.W.Frag) (mg : Str → Option Value) (base : Heap) (CX : CXT) (k : Nat) (f : Addr) (fd : FuncData) (ps : List Str) (sp : Sp) : Prop where
  len : ∀ vs H Q E, sp vs H Q E → vs.length = ps.length
  run : ∀ (A : Around) (outer : List Env) (s : Shared) (H : Hp) (args : Args) (us : List Value) (vs : List V) (Q : VK) (E : XK), Room k A → Env0 P w K mg base A outer s H → BindsTo s fd args (ps.zip us) → Vals vs us → sp vs H Q E →
    codeAny (model P w) A (.call (.ref f) args) (CR CX outer P w H s Q E) s
section
variable {X : Cx} {pins : List (Addr × Obj)} {σ : St} {H : Hp} {s s' : Shared}
/-- from a body: what a callee wants -/
theorem Inv.env0 (I : Inv X pins σ H s) : Env0 X.prog X.w X.K X.mg X.base X.A X.stack s H :=
  ⟨I.ok.frames, I.ok.mod, I.bs, Nat.le_trans I.ok.bsz I.sz, I.stack, I.stkFree, I.hok, I.bare⟩
/-- behind a call -/
theorem Inv.after {Q : VK} {u : Value} (I : Inv X pins σ H s) (h : CE X.stack X.prog X.w H s Q u s') : EP X pins σ Q u s' := by
  obtain ⟨v, H', os, bare, un, hok, r, q⟩ := h
  obtain ⟨hh, g, d, t, os'⟩ := s'
  obtain rfl : os' = s.os := os
  exact ⟨v, H', I.call (h' := hh) (g' := g) (d' := d) (t' := t) (ch := []) un hok bare (fun b z => absurd z (by simp)), r, q⟩
end

/-! ### calls -/
/-- f(..): the written arguments, then the defaults dvs; E: what is wanted of an exception -/
def tCall (sp : Sp) (dvs : List V) (E : XK) (t : TA) : TE := fun σ H Q => t σ H fun vs H1 => sp (vs ++ dvs) H1 Q E
/-- how the parameters are bound: us the positional arguments, kw the keywords' values by name, ds the defaults that fill up -/
def Binds (K : PySem.W.Frag) (fd : FuncData) (ps : List Str) (ds : List Value) : Prop :=
  ∀ (s : Shared) (us : List Value), K.In s.heap → (us ++ ds).length = ps.length → BindsTo s fd ⟨us, []⟩ (ps.zip (us ++ ds))
/-- every parameter is given -/
theorem Binds.all {K : PySem.W.Frag} {fd : FuncData} {ps : List Str} (h : ∀ us : List Value, us.length = ps.length → bindArgs fd ⟨us, []⟩ = pure (ps.zip us)) : Binds K fd ps [] := fun s us _ hl => by
  rw [List.append_nil] at hl ⊢
  exact .of_eq (h us hl)

/-- an exception of a callee reaches what this body wants of exceptions -/
def Passes (CX : CXT) (X : Cx) (E : XK) : Prop := ∀ (pins : List (Addr × Obj)) (σ : St) (H : Hp) (s : Shared) (e : Value) (s' : Shared), Inv X pins σ H s → CX X.stack H s E e s' → X.xe e s'

section
variable {X : Cx} {CX : CXT} {k : Nat} {f C : Addr} {fd : FuncData} {ps : List Str} {sp : Sp} {dvs : List V} {ds : List Value} {E : XK} {x m : Str} {p pos apos : Pos} {e o : Expr} {es : List Expr} {ta : TE} {t : TA}

/-- the callee runs -/
theorem run_fn {pins : List (Addr × Obj)} {σ : St} {H : Hp} {s : Shared} {Q : VK} {us : List Value} {vs : List V} (F : FnOk X.prog X.w X.K X.mg X.base CX k f fd ps sp) (hr : Room k X.A) (hb : Binds X.K fd ps ds) (hd : Vals dvs ds) (hx : Passes CX X E)
    (I : Inv X pins σ H s) (r : Vals vs us) (h : sp (vs ++ dvs) H Q E) : wpAny (model X.prog X.w) X.A (call (.ref f) us) (EP X pins σ Q) X.xe s := by
  have r2 : Vals (vs ++ dvs) (us ++ ds) := r.append hd
  have hl : (us ++ ds).length = ps.length := by rw [← r2.length]; exact F.len _ _ _ _ h
  refine wpAny_call (codeAny_mono (F.run X.A X.stack s H ⟨us, []⟩ (us ++ ds) (vs ++ dvs) Q E hr I.env0 (hb s us I.kIn hl) r2 h) fun r s' hq => ?_)
  cases r with
  | error e => exact hx pins σ H s e s' I hq
  | ok fl =>
    cases fl with
    | ret u => exact I.after hq
    | next => exact False.elim hq
    | brk => exact False.elim hq
    | cont => exact False.elim hq

theorem pe_call (F : FnOk X.prog X.w X.K X.mg X.base CX k f fd ps sp) (hr : Room k X.A) (hg : Gl X x) (hm : X.mg x = some (.ref f)) (hk : PySem.W.keepIn X.K (.ref f) = true) (hb : Binds X.K fd ps ds) (hd : Vals dvs ds) (hx : Passes CX X E)
    (ha : PA X (e :: es) t) (hdb : (x == ("__debug__" : Str)) = false := by decide) (he : starEach (e :: es) X.env = (false, eval e X.env) :: starEach es X.env := by rfl) (hpl : (backTo pos (starEach es X.env)).any (·.1) = false := by rfl) :
    PE X (.Call (.Name x p) (e :: es) [] pos) (tCall sp dvs E t) := by
  intro pins s σ H Q I h
  refine wpAny_Call_Name_kw (ld_glob I hg hm ?_ hdb)
  refine PySem.W.callWith_K (h₀ := X.base) I.ok.mod.kin hk (thn (ha pos pins s σ H _ I h) fun us s1 ⟨vs, H1, I1, r, q⟩ => ⟨I1.kIn, ?_⟩) he hpl
  exact run_fn F hr hb hd hx I1 r q
end

/-! ### keywords -/
section
variable {X : Cx} {CX : CXT} {k : Nat} {f C : Addr} {fd : FuncData} {ps ks : List Str} {sp : Sp} {E : XK} {x m : Str} {p pos apos kpos : Pos} {e o : Expr} {es : List Expr} {kws : List Keyword} {te ta : TE} {t tk : TA} {nm : Option Str}
variable {g : List Value → List Value → List Value} {gV : List V → List V → List V}
end

/-! ### a def's body keeps its promise -/
/-- names: the parameters first -/
structure FnScope (N P : List Str) (sc : Scope) : Prop where
  kind : sc.kind = .function
  co : sc.isCoroutine = false
  gen : sc.isGenerator = false
  nd : N.Nodup
  pre : N.take P.length = P
  par : ∀ x ∈ P, sc.names.lookup x = some .local ∨ sc.names.lookup x = some .cell
  nofree : ∀ y ∈ sc.names, y.2 ≠ .free

theorem bindL_out {kindOf : Str → Option NameKind} {x : Str} : ∀ {binds : List (Str × Value)} {m : Str → Option Value}, (∀ v, (x, v) ∉ binds) → bindL kindOf binds m x = m x
  | [], _, _ => rfl
  | (n, v) :: r, m, h => by
    unfold bindL
    rw [bindL_out fun w hw => h w (List.mem_cons_of_mem _ hw)]
    split
    · have : x ≠ n := by rintro rfl; exact h v List.mem_cons_self
      simp [this]
    · rfl
theorem bindC_out {kindOf : Str → Option NameKind} {x : Str} : ∀ {binds : List (Str × Value)} {m : Str → Option Value}, (∀ v, (x, v) ∉ binds) → bindC kindOf binds m x = m x
  | [], _, _ => rfl
  | (n, v) :: r, m, h => by
    unfold bindC
    rw [bindC_out fun w hw => h w (List.mem_cons_of_mem _ hw)]
    split
    · rfl
    · have : x ≠ n := by rintro rfl; exact h v List.mem_cons_self
      simp [this]
theorem bindL_get {kindOf : Str → Option NameKind} {x : Str} {v : Value} : ∀ {P : List Str} {vs : List Value} {i : Nat} {m : Str → Option Value}, P.Nodup → P[i]? = some x → vs[i]? = some v → kindOf x = some .local →
    bindL kindOf (P.zip vs) m x = some v
  | [], _, _, _, _, h, _, _ => by simp at h
  | _ :: _, [], _, _, _, _, h, _ => by simp at h
  | p :: P, w :: vs, 0, m, nd, h1, h2, hk => by
    simp at h1 h2; subst h1; subst h2
    show bindL kindOf ((p, w) :: P.zip vs) m p = _
    unfold bindL
    rw [bindL_out fun v hv => (List.nodup_cons.mp nd).1 (List.of_mem_zip hv).1, if_pos hk]
    simp
  | p :: P, w :: vs, i + 1, m, nd, h1, h2, hk => by
    show bindL kindOf ((p, w) :: P.zip vs) m x = _
    unfold bindL
    exact bindL_get (i := i) (List.nodup_cons.mp nd).2 (by simpa using h1) (by simpa using h2) hk
theorem bindC_get {kindOf : Str → Option NameKind} {x : Str} {v : Value} : ∀ {P : List Str} {vs : List Value} {i : Nat} {m : Str → Option Value}, P.Nodup → P[i]? = some x → vs[i]? = some v → kindOf x ≠ some .local →
    bindC kindOf (P.zip vs) m x = some v
  | [], _, _, _, _, h, _, _ => by simp at h
  | _ :: _, [], _, _, _, _, h, _ => by simp at h
  | p :: P, w :: vs, 0, m, nd, h1, h2, hk => by
    simp at h1 h2; subst h1; subst h2
    show bindC kindOf ((p, w) :: P.zip vs) m p = _
    unfold bindC
    rw [bindC_out fun v hv => (List.nodup_cons.mp nd).1 (List.of_mem_zip hv).1, if_neg hk]
    simp
  | p :: P, w :: vs, i + 1, m, nd, h1, h2, hk => by
    show bindC kindOf ((p, w) :: P.zip vs) m x = _
    unfold bindC
    exact bindC_get (i := i) (List.nodup_cons.mp nd).2 (by simpa using h1) (by simpa using h2) hk

/-- the names' values at the entry -/
def start (N : List Str) (vs : List V) : St := vs.map some ++ List.replicate (N.length - vs.length) none

/-- the context of a def's body, at its entry; an exception leaves the frame, then lies as CX says -/
def cxOf (CX : CXT) (P : Program) (w : World) (K : PySem.W.Frag) (mg : Str → Option Value) (base : Heap) (N : List Str) (qual : Str) (scope : Scope) (f : Addr) (cd : Value) (A : Around) (outer : List Env) (s : Shared) (H : Hp) (E : XK) : Cx where
  prog := P
  w := w
  K := K
  mg := mg
  base := base
  A := A.deeper (envOfC qual scope s.heap.objs.size f cd)
  N := N
  s₀ := s
  H₀ := H
  env := envOfC qual scope s.heap.objs.size f cd
  outer := outer
  stack := envOfC qual scope s.heap.objs.size f cd :: outer
  ex := []
  calm := true
  fn := fun _ => true
  pn := []
  xe := fun e s' => wpAny (model P w) (A.deeper (envOfC qual scope s.heap.objs.size f cd)) (leaving (envOfC qual scope s.heap.objs.size f cd) e) (fun _ s'' => CX outer H s E e s'') (fun e' s'' => CX outer H s E e' s'') s'

theorem cell_has {sc : Scope} {n : Nat} {x : Str} (h : sc.names.lookup x = some .cell) : ∃ c, (cellsFrom n sc.names []).lookup x = some c := by
  have q := PySem.W.cellsFrom_some sc.names n [] (.inl h)
  exact Option.isSome_iff_exists.mp q

theorem inv_start {CX : CXT} {P : Program} {w : World} {K : PySem.W.Frag} {mg : Str → Option Value} {base : Heap} {N ps : List Str} {qual : Str} {scope : Scope} {f : Addr} {cd : Value} {A : Around} {outer : List Env} {s s1 : Shared} {H : Hp} {E : XK} {us : List Value} {vs : List V}
    (S : FnScope N ps scope) (hd : A.handled = none) (e0 : Env0 P w K mg base A outer s H) (hl : vs.length = ps.length) (r : Vals vs us)
    (x : InCallC s s.heap.objs.size (bindL (envOfC qual scope s.heap.objs.size f cd).kindOf (ps.zip us) fun _ => none) (cellsFrom (s.heap.objs.size + 1) scope.names []) (bindC (envOfC qual scope s.heap.objs.size f cd).kindOf (ps.zip us) fun _ => none) s1) :
    Inv (cxOf CX P w K mg base N qual scope f cd A outer s H E) [] (start N vs) H s1 := by
  have hpl : ps.length ≤ N.length := by have := congrArg List.length S.pre; rw [List.length_take] at this; omega
  obtain ⟨h1, tk, rfl, hk⟩ := x.done
  have noA : ∀ b : Addr, b ∉ (cxOf CX P w K mg base N qual scope f cd A outer s H E).ex := fun b z => absurd (show b ∈ ([] : List Addr) from z) (by simp)
  refine ⟨⟨e0.mod, S.kind, rfl, rfl, Nat.le_refl _, fun y z c h1 h2 => ?_, fun y hy => ?_, fun y c _ h => ?_, fun _ => hd, Around.frames_deeper e0.frames, .inr ⟨rfl, rfl⟩, fun b z => absurd z (noA b), e0.bs, e0.bsz, fun b _ _ => noA b, fun b z => absurd z (noA b), e0.funs, e0.frf⟩,
    rfl, e0.bare, Un.kept hk, ⟨_, x.toInCall.ns, fun i y v h1 h2 h3 => ?_⟩, fun y c h => ⟨_, x.cell y c h⟩, e0.hok.fresh (Nat.le_refl _), fun y c h => ?_, fun p hp => absurd (show p ∈ ([] : List (Addr × Obj)) from hp) (by simp), e0.hok.kept hk, ?_⟩
  · exact name_of_addr x.apart (PySem.mem_of_lookup h1) (PySem.mem_of_lookup h2)
  · have hy : scope.names.lookup y = some .cell ∨ scope.names.lookup y = some .free := hy
    rcases hy with hy | hy
    · exact cell_has hy
    · exact absurd rfl (S.nofree _ (PySem.mem_of_lookup hy))
  · exact Nat.le_of_lt (x.above y c (PySem.mem_of_lookup h))
  · have hi : i < vs.length := by
      unfold start at h2
      by_cases hi : i < vs.length
      · exact hi
      · rw [List.getElem?_append_right (by simpa using hi)] at h2
        rw [List.getElem?_replicate] at h2
        split at h2 <;> cases h2
    have ha : vs[i]? = some v := by
      unfold start at h2
      rw [List.getElem?_append_left (by simpa using hi), List.getElem?_map] at h2
      cases e : vs[i]? with
      | none => rw [e] at h2; cases h2
      | some a => rw [e] at h2; cases h2; rfl
    obtain ⟨u, hu, rv⟩ := r.get ha
    have hp : ps[i]? = some y := by
      rw [← S.pre, List.getElem?_take_of_lt (by omega)]; exact h1
    have ndP : ps.Nodup := by rw [← S.pre]; exact S.nd.sublist (List.take_sublist _ _)
    refine ⟨u, rv, ?_⟩
    rcases S.par y (List.mem_of_getElem? hp) with k | k
    · exact .inl ⟨k, bindL_get ndP hp hu k⟩
    · obtain ⟨c, e⟩ := cell_has (n := s.heap.objs.size + 1) k
      refine .inr ⟨.inl k, c, e, ?_⟩
      have q := x.cell y c e
      rw [bindC_get ndP hp hu (by show scope.names.lookup y ≠ _; rw [k]; decide)] at q
      exact q
  · exact e0.hok.fresh (Nat.le_of_lt (x.above y c (PySem.mem_of_lookup h)))
  · unfold start
    show _ = N.length
    rw [List.length_append, List.length_map, List.length_replicate]
    omega

/-- THE RULE: a def (or a method) of the text, by its body. The body's reading t is chosen for each entry; it is run at the parameters' values -/
theorem fn_of {CX : CXT} {P : Program} {w : World} {K : PySem.W.Frag} {mg : Str → Option Value} {base : Heap} {k : Nat} {f : Addr} {name qual : Str} {params : Arguments} {body : List Stmt} {scope : Scope} {dV kV doc pm cdv ct oc : Value} {an od : Option Addr}
    {osl : Array (Option Value)} {N ps : List Str} {sp : Sp} (lk : K.lookup f = some ⟨oc, od, .func (PySem.W.fnOf name qual params body scope dV kV doc pm an cdv ct), osl⟩) (hcd : PySem.W.codeIn K cdv qual = true) (S : FnScope N ps scope)
    (len : ∀ vs H Q E, sp vs H Q E → vs.length = ps.length)
    (hbody : ∀ (A : Around) (outer : List Env) (s : Shared) (H : Hp) (vs : List V) (Q : VK) (E : XK), Room k (A.deeper (envOfC qual scope s.heap.objs.size f cdv)) → sp vs H Q E →
      ∃ t, PSs (cxOf CX P w K mg base N qual scope f cdv A outer s H E) body t ∧ t { nx := fun _ H' => Q .non H', rt := Q } (start N vs) H) :
    FnOk P w K mg base CX (k + 1) f (PySem.W.fnOf name qual params body scope dV kV doc pm an cdv ct) ps sp := by
  refine ⟨len, fun A outer s H args us vs Q E hr e0 hb r hsp => ?_⟩
  have hl := len _ _ _ _ hsp
  have KX : K.In s.heap := e0.mod.kin.keeps fun b o e => (e0.bs b o e).1
  have lim : s.heap.NoLimit := e0.mod.nolimit.keeps fun b o e => (e0.bs b o e).1
  have hkind : ∀ y ∈ ps.zip us, scope.names.lookup y.1 = some .local ∨ (scope.names.lookup y.1 = some .cell ∧ ((cellsFrom (s.heap.objs.size + 1) scope.names []).lookup y.1).isSome = true) := fun ⟨n, v⟩ hy => by
    rcases S.par n (List.of_mem_zip hy).1 with q | q
    · exact .inl q
    · exact .inr ⟨q, PySem.W.cellsFrom_some _ _ _ (.inl q)⟩
  refine codeAny_call_function hr.depth (KX _ _ lk) rfl S.co S.gen rfl (PySem.W.codeRec_of KX hcd) (hb _ _ _ _ ?_)
  refine wpAny_newFunctionEnv_cells S.kind hkind fun env he s1 x => ?_
  subst he
  refine ⟨lim.keeps x.toInCall.keep, codeAny_func ?_⟩
  obtain ⟨t, ht, hq⟩ := hbody A outer s H vs Q E (hr.deeper _) hsp
  have I : Inv (cxOf CX P w K mg base N qual scope f cdv A outer s H E) [] (start N vs) H s1 := inv_start S hr.hd e0 hl r x
  refine wpAny_mono (ht [] s1 (start N vs) H _ I hq) (fun fl s' hs => ?_) fun e s' hs => hs
  have fin : ∀ {σ' : St} {H' : Hp} {v : V} {u : Value}, Inv (cxOf CX P w K mg base N qual scope f cdv A outer s H E) [] σ' H' s' → RelV v u → Q v H' → CE outer P w H s Q u s' :=
    fun {σ' H' v u} J rv q => ⟨v, H', J.os, J.bare, J.base, J.hok, rv, q⟩
  cases fl with
  | ret u =>
    obtain ⟨v, σ', H', J, rv, q⟩ := hs
    exact fin J rv q
  | next =>
    obtain ⟨σ', H', J, q⟩ := hs
    exact fin (v := V.non) (u := Value.none) J rfl q
  | brk =>
    obtain ⟨_, _, _, q⟩ := hs
    exact False.elim q
  | cont =>
    obtain ⟨_, _, _, q⟩ := hs
    exact False.elim q
end L2

namespace L2
open PySem PySem.Spec PyProof.Rows
section
variable {X : Cx} {x : Str} {p pos : Pos} {e : Expr} {es : List Expr} {t : TA} {id T : String} {r : List V → Hp → VK → Prop}

def tCB (r : List V → Hp → VK → Prop) (t : TA) : TE := fun σ H Q => t σ H fun vs H1 => r vs H1 Q
/-- f(e, ..), f a built-in function -/
theorem pe_callB (hc : CallR X (.builtin id) r) (hg : Gl X x) (hm : X.mg x = none) (hv : bootBuiltins x = some (.builtin id)) (ha : PA X (e :: es) t) (hn : x ≠ "__name__" := by decide) (hdb : (x == ("__debug__" : Str)) = false := by decide)
    (he : starEach (e :: es) X.env = (false, eval e X.env) :: starEach es X.env := by rfl) (hpl : (backTo pos (starEach es X.env)).any (·.1) = false := by rfl) : PE X (.Call (.Name x p) (e :: es) [] pos) (tCB r t) := by
  intro pins s σ H Q I h
  refine wpAny_Call_Name_kw (ld_blt I hg hm hv ?_ hn hdb)
  exact PyProof.Rows.callWith_builtin1 (thn (ha pos pins s σ H _ I h) fun us s1 ⟨vs, H1, I1, r1, q1⟩ => hc pins s1 σ H1 vs us Q I1 r1 q1) he hpl
/-- T(e, ..), T a built-in type -/
theorem pe_callTy (hc : CallR X (.type T) r) (hg : Gl X x) (hm : X.mg x = none) (hv : bootBuiltins x = some (.type T)) (ha : PA X (e :: es) t) (hn : x ≠ "__name__" := by decide) (hdb : (x == ("__debug__" : Str)) = false := by decide)
    (he : starEach (e :: es) X.env = (false, eval e X.env) :: starEach es X.env := by rfl) (hpl : (backTo pos (starEach es X.env)).any (·.1) = false := by rfl) : PE X (.Call (.Name x p) (e :: es) [] pos) (tCB r t) := by
  intro pins s σ H Q I h
  refine wpAny_Call_Name_kw (ld_blt I hg hm hv ?_ hn hdb)
  exact PyProof.Rows.callWith_type1 (thn (ha pos pins s σ H _ I h) fun us s1 ⟨vs, H1, I1, r1, q1⟩ => hc pins s1 σ H1 vs us Q I1 r1 q1) he hpl
end
end L2

namespace HT
open PySem PyProof.Rows

section
open PySem.SeqAt
open PySem.AutoSeq1 (wpAny_loadPart')
open PySem.MeetsSeq PySem.MeetsSeq2 PySem.MeetsSeq3

end

section
variable {prog : Program} {w : World} {A : Around} {E : Value → Shared → Prop} {s : Shared}

/-- t + u, t not empty -/
theorem cat_tup {t b : Addr} {vs ws : List Value} {Q : Value → Shared → Prop} (ht : IsTup s.heap t vs.toArray) (hb : IsTup s.heap b ws.toArray) (hv : vs ≠ [])
    (h1 : ws = [] → Q (.ref t) s) (h2 : ws ≠ [] → Q (.ref s.heap.objs.size) { s with heap := s.heap.push { cls := .type "tuple", data := .seq (vs ++ ws).toArray } })
    (hsz : vs.length + ws.length ≤ sizeLine) : wpAny (model prog w) A (binaryOp .Add (.ref t) (.ref b)) Q E s := by
  obtain ⟨⟨cls, dd, data, sl⟩, ho, hc, n, hd⟩ := id ht
  obtain ⟨⟨cls2, dd2, data2, sl2⟩, ho2, hc2, n2, hd2⟩ := id hb
  simp only at hc hd hc2 hd2
  subst hc hd hc2 hd2
  have e : vs.toArray ++ ws.toArray = (vs ++ ws).toArray := by simp
  by_cases hw : ws = []
  · exact concat_meets ⟨_, ho, rfl⟩ ⟨_, ho2, rfl⟩ noFill_tuple_add seq_tuple_add PySem.F.slot_tuple_add PySem.F.entry_tuple_add (PySem.F.args_tuple_add_2 _ _)
      (tuple_addW1 t b vs.toArray ws.toArray n n2 dd dd2 sl sl2 (by simpa using hv) (by simp [hw])) ⟨ho, ho2, h1 hw⟩
  · refine concat_meets ⟨_, ho, rfl⟩ ⟨_, ho2, rfl⟩ noFill_tuple_add seq_tuple_add PySem.F.slot_tuple_add PySem.F.entry_tuple_add (PySem.F.args_tuple_add_2 _ _)
      (tuple_addW2 t b vs.toArray ws.toArray n n2 dd dd2 sl sl2 (by simpa using hv) (by simpa using hw) (by rw [List.size_toArray, List.size_toArray]; exact hsz)) ⟨ho, ho2, ?_⟩
    rw [e]
    exact h2 hw

/-! ### t[a:b], not the whole -/
/-- a slice's bound as a place among n (d where it is left out) -/
def sIx (n d : Nat) : Option Int → Nat
  | none => d
  | some v => if v < 0 then (v + (n : Int)).toNat else min v.toNat n
theorem sIx_none (n d : Nat) : sIx n d none = d := rfl
theorem sIx_nat (n d k : Nat) : sIx n d (some (k : Int)) = min k n := by
  show (if (k : Int) < 0 then ((k : Int) + (n : Int)).toNat else min (k : Int).toNat n) = min k n
  rw [if_neg (by omega), Int.toNat_natCast]
end
end HT

namespace L2
open PySem PySem.Spec PyProof.Rows

/-! ### the parts of a slice -/
abbrev TO := St → Hp → (Option Int → Hp → Prop) → Prop
/-- a slice's part (left out, or an int) -/
def PO (X : Cx) (e : Option Expr) (t : TO) : Prop :=
  ∀ (pins : List (Addr × Obj)) (s : Shared) (σ : St) (H : Hp) (Q : Option Int → Hp → Prop), Inv X pins σ H s → t σ H Q →
    wpAny (model X.prog X.w) X.A (evalPart e X.env) (fun u s' => ∃ o H', Inv X pins σ H' s' ∧ IsPart u o ∧ Q o H') X.xe s
def tNoPart : TO := fun _ H Q => Q none H
def tPart (t : TE) : TO := fun σ H Q => t σ H fun x H1 => ∃ i, x = .int i ∧ Q (some i) H1

theorem intsAre_of {ns : List Int} : ∀ {us : List Value}, Vals (ns.map V.int) us → IntsAre us ns := by
  induction ns with
  | nil => intro us r; rw [List.map_nil] at r; cases r; exact .nil
  | cons n ns ih =>
    intro us r
    rw [List.map_cons] at r
    cases r with
    | cons r1 r2 =>
      obtain ⟨t, e⟩ := r1
      subst e
      exact .cons n t (ih r2)

section
variable {X : Cx} {e : Expr} {te : TE} {lo hi : Option Expr} {tl th : TO} {pos p2 : Pos}

theorem po_none : PO X none tNoPart := by
  intro pins s σ H Q I h
  rw [evalPart_none]
  exact wpAny_pure ⟨none, H, I, .none, h⟩
theorem po_some (h : PE X e te) : PO X (some e) (tPart te) := by
  intro pins s σ H Q I hw
  rw [evalPart_some]
  refine thn (h pins s σ H _ I hw) fun u s1 ⟨x, H1, I1, r1, q1⟩ => ?_
  obtain ⟨i, rfl, q⟩ := q1
  obtain ⟨t, rfl⟩ := r1
  exact ⟨some i, H1, I1, .int i t, q⟩

/-- what a slice of a value is, by values: the slice object stands at sl -/
def SlR (X : Cx) (r : V → Option Int → Option Int → Hp → VK → Prop) : Prop :=
  ∀ (pins : List (Addr × Obj)) (s : Shared) (σ : St) (H : Hp) (x : V) (v vl vu : Value) (lo hi : Option Int) (sl : Addr) (Q : VK), Inv X pins σ H s → RelV x v → s.heap.IsSliceOf sl vl vu .none → IsPart vl lo → IsPart vu hi → r x lo hi H Q →
    ∃ T id, typeLookup (.type T) "__getitem__" = pure (some (.builtin id)) ∧ s.TypeIs v T ∧ wpAny (model X.prog X.w) X.A (getItem v (.ref sl)) (EP X pins σ Q) X.xe s
def tSl (r : V → Option Int → Option Int → Hp → VK → Prop) (te : TE) (tl th : TO) : TE := fun σ H Q => te σ H fun x H1 => tl σ H1 fun l H2 => th σ H2 fun u H3 => r x l u H3 Q
/-- a[lo:hi], any a -/
theorem pe_slice {r : V → Option Int → Option Int → Hp → VK → Prop} (hr : SlR X r) (he : PE X e te) (hl : PO X lo tl) (hu : PO X hi th) : PE X (.Subscript e (.Slice lo hi none p2) pos) (tSl r te tl th) := by
  intro pins s σ H Q I h
  refine Subscript_ (thn (he pins s σ H _ I h) fun v s1 ⟨x, H1, I1, r1, q1⟩ => ?_)
  refine wpAny_Slice (thn (hl pins s1 σ H1 _ I1 q1) fun vl s2 ⟨l, H2, I2, pl, q2⟩ => thn (hu pins s2 σ H2 _ I2 q2) fun vu s3 ⟨u, H3, I3, pu, q3⟩ => ?_)
  rw [evalPart_none]
  refine wpAny_pure ?_
  have I4 : Inv X pins σ H3 { s3 with heap := s3.heap.push { cls := .type "slice", data := .fields #[vl, vu, .none] } } := I3.kept (t' := s3.toks) fun b ob q => Heap.get?_push_of_some _ q
  obtain ⟨T, id, hT, ht, hg⟩ := hr pins { s3 with heap := s3.heap.push { cls := .type "slice", data := .fields #[vl, vu, .none] } } σ H3 x v vl vu l u s3.heap.objs.size Q I4 r1 (Heap.IsSliceOf.new ..) pl pu q3
  show wpAny (model X.prog X.w) X.A (subscriptTail e (.Slice lo hi none p2) v (.ref s3.heap.objs.size)) (EP X pins σ Q) X.xe { s3 with heap := s3.heap.push { cls := .type "slice", data := .fields #[vl, vu, .none] } }
  exact tail_any (ops := [.ref s3.heap.objs.size, v]) ht hT hg (by with_unfolding_all rfl)

/-- the items of xs[lo:hi] -/
def cutV (xs : List V) (lo hi : Option Int) : List V := (xs.drop (HT.sIx xs.length 0 lo)).take (HT.sIx xs.length xs.length hi - HT.sIx xs.length 0 lo)
theorem cutV_length (xs : List V) (lo hi : Option Int) : (cutV xs lo hi).length ≤ xs.length := by
  unfold cutV
  rw [List.length_take, List.length_drop]
  omega
/-! ### t < u, t + u -/
/-- t + u, t not empty: u empty gives t itself -/
def rCatT (K : PySem.W.Frag) : R2 := fun x y H Q => ∃ a b xs ys, x = .ref a ∧ y = .ref b ∧ SqT K H a xs ∧ SqT K H b ys ∧ xs ≠ [] ∧ xs.length + ys.length ≤ sizeLine ∧
  (ys = [] → Q (.ref a) H) ∧ (ys ≠ [] → ∀ p, H p = none → Q (.ref p) (upd H p (.tup (xs ++ ys))))
theorem Vals.nil_iff {xs : List V} {us : List Value} (r : Vals xs us) : us = [] ↔ xs = [] := by
  cases r with
  | nil => simp
  | cons _ _ => simp
theorem op_catT : OpR X (binaryOp .Add) (rCatT X.K) := by
  intro pins s σ H x y v u Q I rx ry h
  obtain ⟨a, b, xs, ys, rfl, rfl, ha, hb, hx, hz, q1, q2⟩ := h
  cases rx
  cases ry
  obtain ⟨its, r1, p1, _⟩ := I.tuple ha
  obtain ⟨its2, r2, p2, _⟩ := I.tuple hb
  refine HT.cat_tup p1 p2 (fun z => hx (r1.nil_iff.mp z)) (fun z => ⟨.ref a, H, I, rfl, q1 (r2.nil_iff.mp z)⟩) (fun z => ?_) (by rw [← r1.length, ← r2.length]; exact hz)
  refine ⟨.ref s.heap.objs.size, _, I.laid (t' := s.toks) (o := .tup (xs ++ ys)) (fun b ob q => Heap.get?_push_of_some _ q) (Nat.le_refl _) ?_, rfl, q2 (fun w => z (r2.nil_iff.mpr w)) _ (I.hok.fresh (Nat.le_refl _))⟩
  exact ⟨by rw [List.length_append]; exact hz, _, r1.append r2, IsTup.new _ _⟩
end
end L2

namespace L2
open PySem PySem.Spec PyProof.Rows

/-! ### places -/
/-- the place that an index of any sign means -/
def ixN (n : Nat) (i : Int) : Option Nat := if 0 ≤ i then (if i < n then some i.toNat else none) else if -(n : Int) ≤ i then some (i + n).toNat else none
def atI {α : Type} (xs : List α) (i : Int) : Option α := (ixN xs.length i).bind fun j => xs[j]?
theorem ixN_seq {n : Nat} {i : Int} {j : Nat} (h : ixN n i = some j) : seqIndex? i n = some j ∧ j < n ∧ -(n : Int) ≤ i ∧ i < n := by
  unfold ixN at h
  by_cases h0 : 0 ≤ i
  · rw [if_pos h0] at h
    by_cases h1 : i < n
    · rw [if_pos h1] at h
      have e : i.toNat = j := Option.some.inj h
      exact ⟨by rw [seqIndex_of h0 h1, e], by omega, by omega, h1⟩
    · rw [if_neg h1] at h; cases h
  · rw [if_neg h0] at h
    by_cases h1 : -(n : Int) ≤ i
    · rw [if_pos h1] at h
      have e : (i + n).toNat = j := Option.some.inj h
      exact ⟨by rw [seqIndex_neg (by omega) h1, e], by omega, h1, by omega⟩
    · rw [if_neg h1] at h; cases h
theorem atI_get {α : Type} {xs : List α} {i : Int} {v : α} (h : atI xs i = some v) : ∃ j, seqIndex? i xs.length = some j ∧ xs[j]? = some v ∧ j < xs.length ∧ -(xs.length : Int) ≤ i ∧ i < xs.length := by
  unfold atI at h
  cases e : ixN xs.length i with
  | none => rw [e] at h; cases h
  | some j =>
    rw [e] at h
    obtain ⟨h1, h2, h3, h4⟩ := ixN_seq e
    exact ⟨j, h1, h, h2, h3, h4⟩
theorem atI_nat {α : Type} {xs : List α} {j : Nat} {v : α} (h : xs[j]? = some v) : atI xs (j : Int) = some v := by
  have hj : j < xs.length := (List.getElem?_eq_some_iff.mp h).1
  have e : ixN xs.length (j : Int) = some j := by
    unfold ixN
    rw [if_pos (by omega), if_pos (by omega)]; simp
  unfold atI; rw [e]; exact h
/-! ### what may be subscripted -/
/-- what stands as an index of a plain subscript -/
def PlainIx (b : Expr) : Prop := ∀ o i, subscripted b false o i = operate [o, i] (getItem o i)
/-- a subscript by values -/
def IxR (X : Cx) (r : R2) : Prop :=
  ∀ (value slice : Expr) (pins : List (Addr × Obj)) (s : Shared) (σ : St) (H : Hp) (x y : V) (v u : Value) (Q : VK), Inv X pins σ H s → RelV x v → RelV y u → r x y H Q →
    subscripted slice false v u = operate [v, u] (getItem v u) → wpAny (model X.prog X.w) X.A (subscriptTail value slice v u) (EP X pins σ Q) X.xe s
/-- a call of a builtin's method by values: the receiver, the arguments -/
def MtR (X : Cx) (id : String) (r : V → List V → Hp → VK → Prop) : Prop :=
  ∀ (pins : List (Addr × Obj)) (s : Shared) (σ : St) (H : Hp) (x : V) (xs : List V) (v : Value) (us : List Value) (Q : VK), Inv X pins σ H s → RelV x v → Vals xs us → r x xs H Q →
    wpAny (model X.prog X.w) X.A (call (.builtin id) (v :: us)) (EP X pins σ Q) X.xe s
section
variable {X : Cx} {a b : Expr} {ta tb : TE} {pos : Pos}
/-- a[b] -/
theorem pe_ix {r : R2} (hr : IxR X r) (ha : PE X a ta) (hb : PE X b tb) (hs : PlainIx b) : PE X (.Subscript a b pos) (tOp r ta tb) := by
  intro pins s σ H Q I h
  exact Subscript_ (binT ha hb I h fun v u s2 x y H2 I2 rx ry q => hr a b pins s2 σ H2 x y v u Q I2 rx ry q (hs _ _))

def rIxL (K : PySem.W.Frag) : R2 := fun x y H Q => ∃ p xs i v, x = .ref p ∧ y = .int i ∧ SqL K H p xs ∧ atI xs i = some v ∧ Q v H
def rIxT (K : PySem.W.Frag) : R2 := fun x y H Q => ∃ p xs i v, x = .ref p ∧ y = .int i ∧ SqT K H p xs ∧ atI xs i = some v ∧ Q v H
theorem ix_list : IxR X (rIxL X.K) := by
  intro value slice pins s σ H x y v u Q I rx ry h hs
  obtain ⟨p, xs, i, z, rfl, rfl, hq, he, q⟩ := h
  cases rx
  obtain ⟨t, rfl⟩ := ry
  obtain ⟨its, r, pl, hz⟩ := I.list hq
  obtain ⟨j, h1, h2, h3, h4, h5⟩ := atI_get he
  obtain ⟨w, ew, rw'⟩ := r.get h2
  have hl := r.length
  have hn := line63
  have fin : EP X pins σ Q w s := ⟨z, H, I, rw', q⟩
  by_cases h0 : 0 ≤ i
  · have hj : i.toNat = j := by
      rw [seqIndex_of h0 h5] at h1
      exact Option.some.inj h1
    exact item_listR pl.isList h0 (by omega) (by rw [hj]; simpa using ew) fin hs
  · have hj : (i + (its.toArray.size : Int)).toNat = j := by
      rw [seqIndex_neg (by omega) h4] at h1
      rw [List.size_toArray, ← hl]
      exact Option.some.inj h1
    exact subscriptTail_builtinR (x := w) pl.isList.typeIs slot_list_getitem.lookup
      (wpAny_getItem_list_neg (Q := fun r s' => r = w ∧ EP X pins σ Q r s') pl.isList (by omega) (by rw [List.size_toArray] <;> omega) (by omega) (by rw [hj]; simpa using ew) ⟨rfl, fin⟩) hs
theorem ix_tup : IxR X (rIxT X.K) := by
  intro value slice pins s σ H x y v u Q I rx ry h hs
  obtain ⟨p, xs, i, z, rfl, rfl, hq, he, q⟩ := h
  cases rx
  obtain ⟨t, rfl⟩ := ry
  obtain ⟨its, r, pl, hz⟩ := I.tuple hq
  obtain ⟨j, h1, h2, h3, h4, h5⟩ := atI_get he
  obtain ⟨w, ew, rw'⟩ := r.get h2
  have hl := r.length
  have hn := line63
  have fin : EP X pins σ Q w s := ⟨z, H, I, rw', q⟩
  exact subscriptTail_builtinR (x := w) pl.typeIs slot_tuple_getitem.lookup
    (getItem_tuple (j := j) (Q := fun r s' => r = w ∧ EP X pins σ Q r s') pl (by omega) (by omega) (by rw [List.size_toArray, ← hl]; exact h1) (by simpa using ew) ⟨rfl, fin⟩) hs
/-! ### xs[i] = v, any sign -/
/-- the list's object behind a store -/
theorem mapSeq_set (its : List Value) (n j : Nat) (u : Value) : Obj.mapSeq (·.setIfInBounds j u) { cls := .type "list", data := .seq its.toArray n } = { cls := .type "list", data := .seq (its.set j u).toArray n } := by
  simp [Obj.mapSeq]
theorem Inv.lst {pins : List (Addr × Obj)} {σ : St} {H : Hp} {s : Shared} {p : Addr} {xs : List V} (I : Inv X pins σ H s) (h : H p = some (.lst xs)) :
    ∃ (its : List Value) (n : Nat), Vals xs its ∧ s.heap.get? p = some { cls := .type "list", data := .seq its.toArray n } ∧ xs.length ≤ sizeLine := by
  obtain ⟨z, its, n, r, e⟩ := I.hok p _ h
  exact ⟨its, n, r, e, z⟩
/-- the list at p is written by an update of its object -/
theorem Inv.lstUpd {pins : List (Addr × Obj)} {σ : St} {H : Hp} {s : Shared} {p : Addr} {xs ys : List V} {its its' : List Value} {n n' : Nat} {f : Obj → Obj} (I : Inv X pins σ H s) (h : H p = some (.lst xs))
    (ho : s.heap.get? p = some { cls := .type "list", data := .seq its.toArray n }) (hf : f { cls := .type "list", data := .seq its.toArray n } = { cls := .type "list", data := .seq its'.toArray n' }) (r : Vals ys its') (hz : ys.length ≤ sizeLine) (t : Nat) :
    Inv X pins σ (upd H p (.lst ys)) { s with heap := s.heap.update p f, toks := t } := by
  have e : (s.heap.update p f).get? p = some { cls := .type "list", data := .seq its'.toArray n' } := by
    rw [Heap.get?_update_self f ho (by rw [hf] <;> rfl), hf]
  refine I.write (x := p) (e := p) (by rw [h]; trivial) (.inl rfl) (fun b u hb q => (Heap.get?_update_other _ _ (Ne.symm hb)).trans q) ⟨_, e⟩ ?_
  exact ⟨hz, its', n', r, e⟩
def rSetL : V → V → V → Hp → (Hp → Prop) → Prop := fun o i v H Q => ∃ p xs k j, o = .ref p ∧ i = .int k ∧ H p = some (.lst xs) ∧ ixN xs.length k = some j ∧ Q (upd H p (.lst (xs.set j v)))
theorem set_list : PSet X rSetL := by
  intro pins s σ H o i v ov iv u Q I ro ri rv h
  obtain ⟨p, xs, k, j, rfl, rfl, hp, hj, q⟩ := h
  cases ro
  obtain ⟨t, rfl⟩ := ri
  obtain ⟨its, n, r, ho, hz⟩ := I.lst hp
  obtain ⟨h1, h2, h3, h4⟩ := ixN_seq hj
  have hl := r.length
  have hn := line63
  have I' : Inv X pins σ (upd H p (.lst (xs.set j v))) { s with heap := s.heap.update p (Obj.mapSeq (·.setIfInBounds j u)) } :=
    I.lstUpd hp ho (mapSeq_set its n j u) (r.set rv j) (by rw [List.length_set]; exact hz) s.toks
  by_cases h0 : 0 ≤ k
  · have hk : k.toNat = j := by
      rw [seqIndex_of h0 h4] at h1
      exact Option.some.inj h1
    exact PySem.W.ki_setAt ho h0 (by omega) (by rw [List.size_toArray, ← hl]; exact h4) (by rw [hk]; exact ⟨_, I', q⟩)
  · have hk : (k + (its.toArray.size : Int)).toNat = j := by
      rw [seqIndex_neg (by omega) h3] at h1
      rw [List.size_toArray, ← hl]
      exact Option.some.inj h1
    exact PySem.W.ki_setBack ho (by omega) (by rw [List.size_toArray, ← hl]; exact h3) (by omega) (by rw [hk]; exact ⟨_, I', q⟩)

/-! ### slices -/
theorem slice_bounds (lo hi : Option Int) (n : Nat) : (sliceBounds lo hi none n).1 = ((HT.sIx n 0 lo : Nat) : Int) ∧ (sliceBounds lo hi none n).2.1 = ((HT.sIx n n hi : Nat) : Int) ∧ (sliceBounds lo hi none n).2.2 = 1 := by
  refine ⟨?_, ?_, rfl⟩
  · cases lo with
    | none => simp [sliceBounds, HT.sIx]
    | some i =>
      simp only [sliceBounds, HT.sIx, Option.getD_none, show (1 : Int) > 0 by decide, if_true]
      by_cases h : i < 0
      · simp only [h, if_true] <;> omega
      · simp only [h, if_false] <;> omega
  · cases hi with
    | none => simp [sliceBounds, HT.sIx]
    | some i =>
      simp only [sliceBounds, HT.sIx, Option.getD_none, show (1 : Int) > 0 by decide, if_true]
      by_cases h : i < 0
      · simp only [h, if_true] <;> omega
      · simp only [h, if_false] <;> omega
theorem slicePick_cut (its : List Value) (lo hi : Option Int) : slicePick its.toArray lo hi none = ((its.drop (HT.sIx its.length 0 lo)).take (HT.sIx its.length its.length hi - HT.sIx its.length 0 lo)).toArray := by
  obtain ⟨h1, h2, h3⟩ := slice_bounds lo hi its.toArray.size
  unfold slicePick
  rw [h1, h2, h3]
  simp only [sliceRange_one, pick_run, List.size_toArray] <;> rfl
/-- xs[lo:hi] of a list: a new list -/
def rSlL (K : PySem.W.Frag) : V → Option Int → Option Int → Hp → VK → Prop := fun x lo hi H Q => ∃ a xs, x = .ref a ∧ SqL K H a xs ∧ ∀ p, H p = none → Q (.ref p) (upd H p (.lst (cutV xs lo hi)))
theorem sl_list : SlR X (rSlL X.K) := by
  intro pins s σ H x v vl vu lo hi sl Q I rx hs pl pu h
  obtain ⟨a, xs, rfl, hx, q⟩ := h
  cases rx
  obtain ⟨its, r, ht, hz⟩ := I.list hx
  have hlen := r.length
  refine ⟨"list", _, slot_list_getitem.lookup, ht.isList.typeIs, ?_⟩
  refine wpAny_getItem_list_slice ht.isList hs pl pu .none (by simp) ?_ (by rw [List.size_toArray] <;> omega)
  rw [slicePick_cut, ← hlen]
  refine ⟨.ref s.heap.objs.size, _, I.laid (t' := s.toks) (o := .lst (cutV xs lo hi)) (fun b ob q => Heap.get?_push_of_some _ q) (Nat.le_refl _) ?_, rfl, q _ (I.hok.fresh (Nat.le_refl _))⟩
  exact ⟨Nat.le_trans (cutV_length xs lo hi) hz, _, 0, (r.drop (HT.sIx xs.length 0 lo)).take (HT.sIx xs.length xs.length hi - HT.sIx xs.length 0 lo), Heap.get?_push_size _ rfl⟩

/-! ### in, not in: flat items -/
/-! ### len, list(x), tuple(x) of any list or tuple that is read -/
theorem call_len_seq : CallR X (.builtin "len") (fun xs H Q => ∃ p ys, xs = [.ref p] ∧ (SqL X.K H p ys ∨ SqT X.K H p ys) ∧ Q (.int ys.length) H) := by
  intro pins s σ H xs us Q I r h
  obtain ⟨p, ys, rfl, hq, q⟩ := h
  obtain ⟨u, rfl, rx⟩ := vals1 r
  cases rx
  have hn := line63
  rcases hq with hq | hq
  · obtain ⟨its, r', pl, hz⟩ := I.list hq
    have hlen := r'.length
    exact Calls.call_len_list pl.isList (by simp only [List.size_toArray] <;> omega) ⟨.int ys.length, H, I.tok _, ⟨s.toks + 1, by rw [List.size_toArray, hlen]⟩, q⟩
  · obtain ⟨its, r', pl, hz⟩ := I.tuple hq
    have hlen := r'.length
    exact len_tuple pl (by simp only [List.size_toArray] <;> omega) ⟨.int ys.length, H, I.tok _, ⟨s.toks + 1, by rw [List.size_toArray, hlen]⟩, q⟩
theorem call_list_of : CallR X (.type "list") (fun xs H Q => ∃ p ys, xs = [.ref p] ∧ (SqL X.K H p ys ∨ SqT X.K H p ys) ∧ ∀ l, H l = none → Q (.ref l) (upd H l (.lst ys))) := by
  intro pins s σ H xs us Q I r h
  obtain ⟨p, ys, rfl, hq, q⟩ := h
  obtain ⟨u, rfl, rx⟩ := vals1 r
  cases rx
  have fin : ∀ (its : List Value), Vals ys its → ys.length ≤ sizeLine → ∀ (h' : Heap) (c' : Nat), (∀ b o', s.heap.get? b = some o' → h'.get? b = some o') →
      h'.get? s.heap.objs.size = some { cls := .type "list", dict := none, data := .seq its.toArray c', slots := #[] } → EP X pins σ Q (.ref s.heap.objs.size) { s with heap := h' } := fun its r' hz h' c' kp e =>
    ⟨.ref s.heap.objs.size, _, I.laid (t' := s.toks) kp (Nat.le_refl _) (show ObjOk X.prog X.w _ h' _ (.lst ys) from ⟨hz, its, c', r', e⟩), rfl, q _ (I.hok.fresh (Nat.le_refl _))⟩
  rcases hq with hq | hq
  · obtain ⟨its, r', pl, hz⟩ := I.list hq
    have hlen := r'.length
    obtain ⟨o, ho, hc, n, hd⟩ := pl.isList
    exact call_list_seq p (.inl rfl) ho hc hd (fun h' c' kp e => fin its r' hz h' c' kp e) (by simp only [List.size_toArray] <;> omega)
  · obtain ⟨its, r', pl, hz⟩ := I.tuple hq
    have hlen := r'.length
    obtain ⟨o, ho, hc, n, hd⟩ := pl
    exact call_list_seq p (.inr rfl) ho hc hd (fun h' c' kp e => fin its r' hz h' c' kp e) (by simp only [List.size_toArray] <;> omega)
theorem call_tuple_of : CallR X (.type "tuple") (fun xs H Q => ∃ p ys, xs = [.ref p] ∧ ((SqL X.K H p ys ∧ ∀ l, H l = none → Q (.ref l) (upd H l (.tup ys))) ∨ (SqT X.K H p ys ∧ Q (.ref p) H))) := by
  intro pins s σ H xs us Q I r h
  obtain ⟨p, ys, rfl, h⟩ := h
  obtain ⟨u, rfl, rx⟩ := vals1 r
  cases rx
  rcases h with ⟨hq, q⟩ | ⟨hq, q⟩
  · obtain ⟨its, r', pl, hz⟩ := I.list hq
    have hlen := r'.length
    refine call_tuple_list pl.isList (fun h' kp => ?_) (by simp only [List.size_toArray] <;> omega)
    have I1 : Inv X pins σ H { s with heap := h' } := I.kept (t' := s.toks) kp
    have I2 : Inv X pins σ (upd H h'.objs.size (.tup ys)) { s with heap := h'.push { cls := .type "tuple", data := .seq its.toArray } } :=
      I1.laid (t' := s.toks) (fun b o e => Heap.get?_push_of_some _ e) (Nat.le_refl _) (show ObjOk X.prog X.w _ _ _ (.tup ys) from ⟨hz, its, r', IsTup.new _ _⟩)
    exact ⟨.ref h'.objs.size, _, I2, rfl, q _ (I1.hok.fresh (Nat.le_refl _))⟩
  · obtain ⟨its, r', pl, hz⟩ := I.tuple hq
    exact call_tuple_same pl ⟨.ref p, H, I, rfl, q⟩

/-! ### the call of a builtin's method: o.m(..) -/
/-- the value is of that builtin type -/
def tyV (K : PySem.W.Frag) (T : String) (x : V) (H : Hp) : Prop := match x with
  | .str _ => T = "str"
  | .int _ => T = "int"
  | .ref p => (T = "list" ∧ ∃ xs, SqL K H p xs) ∨ (T = "tuple" ∧ ∃ o, K.lookup p = some o ∧ o.cls = .type "tuple" ∧ o.dict = none) ∨
      (T = "dict" ∧ ((∃ kvs, H p = some (.dK kvs)) ∨ ∃ kvs, H p = some (.dT kvs))) ∨ (T = "set" ∧ ∃ S n, H p = some (.set S n))
  | _ => False
theorem tyV_is {pins : List (Addr × Obj)} {σ : St} {H : Hp} {s : Shared} {T : String} {x : V} {v : Value} (I : Inv X pins σ H s) (r : RelV x v) (ty : tyV X.K T x H) :
    s.TypeIs v T ∧ ∀ a, v = .ref a → ∃ ob, s.heap.get? a = some ob ∧ ob.dict = none := by
  cases x with
  | str z =>
    obtain ⟨t, rfl⟩ := r
    cases (show T = "str" from ty)
    exact ⟨typeIs_str s z t, fun _ e => nomatch e⟩
  | int i =>
    obtain ⟨t, rfl⟩ := r
    cases (show T = "int" from ty)
    exact ⟨typeIs_int s i t, fun _ e => nomatch e⟩
  | ref p =>
    cases r
    rcases ty with ⟨rfl, xs, hq⟩ | ⟨rfl, o, hk, hc, hd⟩ | ⟨rfl, hk⟩ | ⟨rfl, S, n, hk⟩
    · obtain ⟨its, _, pl, _⟩ := I.list hq
      refine ⟨pl.isList.typeIs, fun a e => ?_⟩
      cases e
      obtain ⟨o, n, e, c, hd, _⟩ := pl
      exact ⟨o, e, hd⟩
    · refine ⟨⟨o, I.kIn p o hk, hc⟩, fun a e => ?_⟩
      cases e
      exact ⟨o, I.kIn _ o hk, hd⟩
    · have z : ∃ o, s.heap.get? p = some o ∧ o.ExactDict := by
        rcases hk with ⟨kvs, hk⟩ | ⟨kvs, hk⟩
        · obtain ⟨_, _, _, _, o, _, _, e, ex, _⟩ := I.hok p _ hk
          exact ⟨o, e, ex⟩
        · obtain ⟨_, _, _, _, o, _, _, e, ex, _⟩ := I.hok p _ hk
          exact ⟨o, e, ex⟩
      obtain ⟨o, e, ex⟩ := z
      refine ⟨⟨o, e, ex.1⟩, fun a e2 => ?_⟩
      cases e2
      exact ⟨o, e, ex.2.1⟩
    · obtain ⟨o, _, _, _, e, ex, _⟩ := I.hok p _ hk
      refine ⟨⟨o, e, ex.1⟩, fun a e2 => ?_⟩
      cases e2
      exact ⟨o, e, ex.2.1⟩
  | _ => exact False.elim ty
def tBM0 (K : PySem.W.Frag) (T : String) (r : V → List V → Hp → VK → Prop) (to : TE) : TE := fun σ H Q => to σ H fun x H1 => tyV K T x H1 ∧ r x [] H1 Q
def tBM (K : PySem.W.Frag) (T : String) (r : V → List V → Hp → VK → Prop) (to : TE) (t : TA) : TE := fun σ H Q => to σ H fun x H1 => tyV K T x H1 ∧ t σ H1 fun xs H2 => r x xs H2 Q
variable {o e : Expr} {es : List Expr} {to : TE} {t : TA} {name : Str} {apos cpos : Pos} {T id : String} {r : V → List V → Hp → VK → Prop}
theorem pe_bm0 (pa : PlainAttrs T) (slot : Slot T name id) (hty : typeOf (.builtin id) = pure (.type "method_descriptor")) (hm : MtR X id r) (ho : PE X o to)
    (hbase : attributeBase o name X.env (eval o X.env) = eval o X.env := by rfl) (hline : (apos.endLine == cpos.line) = true := by rfl) : PE X (.Call (.Attribute o name apos) [] [] cpos) (tBM0 X.K T r to) := by
  intro pins s σ H Q I h
  refine wpAny_Call_method0_late hbase hline (thn (ho pins s σ H _ I h) fun v s1 ⟨x, H1, I1, r1, ty, q1⟩ => ?_)
  obtain ⟨h1, h2⟩ := tyV_is I1 r1 ty
  exact ⟨T, id, pa, slot, hty, h1, h2, Calls.callWith_builtin rfl (PySem.evalArgs_none (hm pins s1 σ H1 x [] v [] Q I1 r1 .nil q1))⟩
theorem pe_bm (pa : PlainAttrs T) (slot : Slot T name id) (hty : typeOf (.builtin id) = pure (.type "method_descriptor")) (hm : MtR X id r) (ho : PE X o to) (ha : PA X (e :: es) t)
    (hbase : attributeBase o name X.env (eval o X.env) = eval o X.env := by rfl)
    (hfew : ((backTo cpos (starEach (e :: es) X.env)).all (fun x => !x.1) && (backToKw cpos (keywordEach [] X.env)).all (fun x => x.1.isSome)
      && decide ((e :: es).length + ([] : List Keyword).length + (if ([] : List Keyword).isEmpty then 0 else 1) < 30)) = true := by rfl)
    (hline : (apos.endLine == cpos.line) = true := by rfl) (hs : starEach (e :: es) X.env = (false, eval e X.env) :: starEach es X.env := by rfl) (hplain : (backTo cpos (starEach es X.env)).any (·.1) = false := by rfl) :
    PE X (.Call (.Attribute o name apos) (e :: es) [] cpos) (tBM X.K T r to t) := by
  intro pins s σ H Q I h
  refine wpAny_Call_method_late hbase hfew hline rfl (thn (ho pins s σ H _ I h) fun v s1 ⟨x, H1, I1, r1, ty, q1⟩ => ?_)
  obtain ⟨h1, h2⟩ := tyV_is I1 r1 ty
  refine ⟨T, id, pa, slot, hty, h1, h2, ?_⟩
  have hA := ha cpos pins s1 σ H1 _ I1 q1
  rw [hs] at hA ⊢
  refine Calls.callWith_builtin (by show (false || (backTo cpos (starEach es X.env)).any (·.1)) = false; rw [hplain] <;> rfl) (Calls.evalArgs_plain ?_)
  exact thn hA fun us s2 ⟨vs, H2, I2, r2, q2⟩ => hm pins s2 σ H2 x vs v us Q I2 r1 r2 q2
/- xs.append(e), list.index on a module's tuple .. are MtR facts of 06m -/
end
end L2

namespace L2
open PySem PySem.Spec PyProof.Rows

def MtM (X : Cx) (id : String) (r : V → List V → Hp → VK → Prop) : Prop :=
  ∀ (pins : List (Addr × Obj)) (s : Shared) (σ : St) (H : Hp) (x : V) (xs : List V) (v : Value) (us : List Value) (Q : VK), Inv X pins σ H s → RelV x v → Vals xs us → r x xs H Q →
    wpAny (model X.prog X.w) X.A (call (.builtin id) (v :: us)) (EP X pins σ Q) X.xe s

/-! ### lists of values -/
theorem Vals.one : ∀ {x : V} {us : List Value}, Vals [x] us → ∃ u, us = [u] ∧ RelV x u
  | _, _, .cons r .nil => ⟨_, rfl, r⟩
theorem Vals.zero : ∀ {us : List Value}, Vals [] us → us = []
  | _, .nil => rfl
section
variable {X : Cx} {pins : List (Addr × Obj)} {σ : St} {H : Hp} {s : Shared} {l b : Addr} {xs ys zs : List V}

/-! ### the two steps: a tracked list is rewritten, a new list is laid -/
theorem Inv.lset {its its' : List Value} {n : Nat} {f : Array Value → Array Value} {t' : Nat} (I : Inv X pins σ H s) (hH : H l = some (.lst xs))
    (e : s.heap.get? l = some { cls := .type "list", data := .seq its.toArray n }) (hf : f its.toArray = its'.toArray) (hv : Vals ys its') (hz : ys.length ≤ sizeLine) :
    Inv X pins σ (upd H l (.lst ys)) { s with heap := s.heap.update l (Obj.mapSeq f), toks := t' } := by
  have q := PySem.IsL.update e f
  rw [hf] at q
  refine I.write (x := l) (e := l) (by rw [hH]; exact trivial) (.inl rfl) (fun b' u hb hu => (Heap.get?_update_other s.heap (Obj.mapSeq f) (Ne.symm hb)).trans hu) ⟨_, q⟩ ?_
  exact ⟨hz, its', _, hv, q⟩
theorem Inv.lnew {its : List Value} {t' : Nat} (I : Inv X pins σ H s) (hv : Vals ys its) (hz : ys.length ≤ sizeLine) :
    Inv X pins σ (upd H s.heap.objs.size (.lst ys)) { s with heap := s.heap.push { cls := .type "list", data := .seq its.toArray }, toks := t' } :=
  I.laid (fun _ _ q => Heap.get?_push_of_some _ q) (Nat.le_refl _) ⟨hz, its, 0, hv, Heap.get?_push_size _ rfl⟩
theorem Inv.fresh (I : Inv X pins σ H s) : H s.heap.objs.size = none := I.hok.fresh (Nat.le_refl _)
theorem Inv.lstM (I : Inv X pins σ H s) (hH : H l = some (.lst xs)) : xs.length ≤ sizeLine ∧ ∃ (its : List Value) (n : Nat), Vals xs its ∧ xs.length = its.length ∧ s.heap.get? l = some { cls := .type "list", data := .seq its.toArray n } := by
  obtain ⟨z, its, n, r, e⟩ := I.hok l _ hH
  exact ⟨z, its, n, r, r.length, e⟩

end

section
variable {X : Cx}

/-! ### methods -/
def rAppend : V → List V → Hp → VK → Prop := fun x vs H Q => ∃ l xs y, x = .ref l ∧ vs = [y] ∧ H l = some (.lst xs) ∧ xs.length < sizeLine ∧ Q .non (upd H l (.lst (xs ++ [y])))
theorem mt_append : MtM X "list.append" rAppend := by
  intro pins s σ H x vs v us Q I rx rv h
  obtain ⟨l, xs, y, rfl, rfl, hH, hz, q⟩ := h
  cases rx
  obtain ⟨u, rfl, ru⟩ := rv.one
  obtain ⟨z, its, n, r, hl, e⟩ := I.lstM hH
  refine call_meets F.slot_list_append ⟨_, e, rfl⟩ F.entry_list_append (F.args_list_append_2 _ _) (PySem.list_append l its.toArray n u (by rw [List.size_toArray]; omega)) ⟨e, ?_⟩
  refine ⟨.non, _, I.lset (its' := its ++ [u]) hH e (by simp) (r.append (.cons ru .nil)) ?_, rfl, q⟩
  rw [List.length_append, List.length_singleton]
  omega

def rClear : V → List V → Hp → VK → Prop := fun x vs H Q => ∃ l xs, x = .ref l ∧ vs = [] ∧ H l = some (.lst xs) ∧ Q .non (upd H l (.lst []))
theorem mt_clear : MtM X "list.clear" rClear := by
  intro pins s σ H x vs v us Q I rx rv h
  obtain ⟨l, xs, rfl, rfl, hH, q⟩ := h
  cases rx
  have hus := rv.zero
  subst hus
  obtain ⟨z, its, n, r, hl, e⟩ := I.lstM hH
  refine call_meets F.slot_list_clear ⟨_, e, rfl⟩ F.entry_list_clear (F.args_list_clear_1 _) (AutoSeq1.list_clear_list_0 l its.toArray n (by rw [List.size_toArray]; omega)) ⟨e, ?_⟩
  exact ⟨.non, _, I.lset (its' := []) (ys := []) hH e rfl .nil (Nat.zero_le _), rfl, q⟩

/-! ### list + list, list += list, list * int -/
def rCat : R2 := fun x y H Q => ∃ l b xs zs, x = .ref l ∧ y = .ref b ∧ H l = some (.lst xs) ∧ H b = some (.lst zs) ∧ xs.length + zs.length ≤ sizeLine ∧ ∀ p, H p = none → Q (.ref p) (upd H p (.lst (xs ++ zs)))
theorem op_cat : OpR X (binaryOp .Add) rCat := by
  intro pins s σ H x y v u Q I rx ry h
  obtain ⟨l, b, xs, zs, rfl, rfl, hH, hB, hz, q⟩ := h
  cases rx
  cases ry
  obtain ⟨z, its, n, r, hl, e⟩ := I.lstM hH
  obtain ⟨z2, its2, n2, r2, hl2, e2⟩ := I.lstM hB
  refine PySem.P.add_list e e2 ?_ (by rw [List.size_toArray, List.size_toArray]; omega)
  have ea : its.toArray ++ its2.toArray = (its ++ its2).toArray := by simp
  rw [ea]
  exact ⟨.ref _, _, I.lnew (t' := s.toks) (r.append r2) (by rw [List.length_append]; omega), rfl, q _ I.fresh⟩
/-! ### del xs[i] -/
end

/-! ### xs[a:b] = ys -/
section
variable {prog : Program} {w : World} {A : Around} {E : Value → Shared → Prop} {s : Shared}
set_option maxRecDepth 100000 in
end

section
variable {X : Cx}
end
end L2

namespace Att
open PySem PySem.W PySem.Calls PyProof.Rows

/-! ### the script -/
theorem ints_of_wellAll {P : Params} {h : Heap} : ∀ (ns : List Int) (vs : List Value), WellAll P h vs (ns.map WData.int) → IntsAre vs ns := by
  intro ns
  induction ns with
  | nil =>
    intro vs w
    rw [List.map_nil] at w
    cases w
    exact .nil
  | cons n ns ih =>
    intro vs w
    rw [List.map_cons] at w
    cases w with
    | cons a b =>
      cases a
      exact .cons _ _ (ih _ b)

theorem script_of {l : OpenLaw} {n : Nat} (hn : l.most = some n) {P : Params} {h : Heap} {args : List WData} {vals : List Value}
    (hpre : l.row.toRowW.claim.pre args = true) (hwl : WellAll P h vals args) :
    ∃ a vs ns, vals = [Value.ref a] ∧ args = [WData.list (ns.map WData.int)] ∧ h.get? a = some { cls := .type "list", data := .seq vs.toArray } ∧ IntsAre vs ns ∧ ns.length ≤ n := by
  have hsh : WShape.hasAll [] args [.list .int] = true := (pre_splitW hpre).1
  have hc : l.pre.holds [] { args := args } = true := (pre_splitW hpre).2
  obtain ⟨d, r, rfl, h1, h2⟩ := hasAllW_cons hsh
  obtain rfl := hasAllW_nil h2
  obtain ⟨xs, rfl, h3⟩ := hasW_list h1
  obtain ⟨ns, rfl⟩ := items_int h3
  have hlen : ns.length ≤ n := by
    unfold OpenLaw.pre at hc
    have h4 : (WTm.not (.lt (.lit (.int (n : Int))) (.len (.arg 0)))).holds [] { args := [.list (ns.map .int)] } = true := by
      have h4 := (holds_andW hc).1
      rw [hn] at h4
      exact h4
    have h5 := condW_of h4 (w_not (w_lt w_lit (w_len_list (w_arg rfl))))
    rw [List.length_map] at h5
    refine Nat.le_of_not_lt fun q => ?_
    have q' : (n : Int) < ((ns.length : Nat) : Int) := by omega
    first
      | (rw [decide_eq_true q'] at h5; exact absurd h5 (by decide))
      | (simp at h5; omega)
  cases hwl with
  | cons w1 w2 =>
    cases w2
    cases w1 with
    | list ho hall => exact ⟨_, _, ns, rfl, rfl, ho, ints_of_wellAll ns _ hall, hlen⟩

theorem post_true (l : OpenLaw) (args : List WData) : l.row.toRowW.claim.post args (.bool true) args = true :=
  postW_of (r := l.row.toRowW) (X := (true == true))
    (show WShape.has [] (.bool true) .bool = true by first | rfl | decide | simp [WShape.has, WShape.arms, WShape.armsAll])
    (show (WTm.eq .res (.lit (.bool true))).value [] { args := args, res := some (.bool true), after := args } = some (.bool (true == true)) from w_eq_bool (w_res rfl) w_lit) rfl

/-! ### the attachment: holds_open's last premise (the goal 'hc' behind k_head) from a wpAny of the law's body -/
/-- the same from a codeAny of the CALL (for a layer whose function contracts speak of calls) -/
theorem attach_call {l : OpenLaw} {n : Nat} {q : Program} {loose : List Str} {XP : (Str → Option Value) → Heap → Prop} {YP : World → Heap → Prop} {d : DefRec}
    (hn : l.most = some n) (hdf : d.params.defaults = [])
    (call : ∀ (w : World) (s₀ s₁ : Shared) (mg mb : Str → Option Value) (fa : Addr) (o : Obj) (pm cd doc : Value) (a : Addr) (vs : List Value) (ns : List Int),
      Ground q loose [] XP w s₀ mg mb s₁.heap → YP w s₁.heap →
      s₁.heap.get? fa = some o → o.data = .func (docDef d.name d.params d.body d.scope pm cd doc) → s₁.heap.CodeRec cd d.name → mg d.name = some (.ref fa) →
      s₁.heap.get? a = some { cls := .type "list", data := .seq vs.toArray } → IntsAre vs ns → ns.length ≤ n → s₁.gens = #[] →
      codeAny (model l.prog w) callerA (.call (.ref fa) ⟨[.ref a], []⟩) (fun r s' => r = .ok (.ret (.bool true)) ∧ OldK s₁.heap s'.heap ∧ s'.os = s₁.os ∧ AllBare s'.gens) s₁) :
    WalkO q loose XP YP l.row.toRowW d [] (fun f vs => PySem.call f vs) := by
  intro w s₀ s₁ mg mb G Y fa o pm cd doc dV kV ho hd hcd hD hmg hg args vals as hpre hlay hrd hwl hlo
  obtain rfl : dV = .none := Dflts.none hD hdf
  obtain rfl : kV = .none := Dflts.noKw hD
  obtain ⟨a, vs, ns, rfl, rfl, hobj, hints, hlen⟩ := script_of hn hpre hwl
  refine enter_call (codeAny_mono (call w s₀ s₁ mg mb fa o pm cd doc a vs ns G Y ho (fd_plain hd) hcd hmg hobj hints hlen hg) fun r s' hq => ?_)
  obtain ⟨rfl, h2, h3, h4⟩ := hq
  exact ⟨.inl ⟨.bool true, .bool true, [], rfl, fun _ => rfl, .bool true, post_true l _, fun _ => ⟨List.Pairwise.nil, fun _ hm => (nomatch hm)⟩⟩, h2, h3, h4⟩

/-! ### rules over ANY heap (no ledger) from facts about the written part K: the library's own take a ledger (News) for what they write -/
section
variable {prog : Program} {w : World} {A : Around} {E : Value → Shared → Prop} {s : Shared} {K : Frag}

/-! the whole heap as the ledger: makes every rule that writes through a ledger a rule over any heap -/
end
end Att

namespace L2
open PySem PySem.Spec PyProof.Rows

theorem vals_ints : ∀ {vs : List Value} {ns : List Int}, IntsAre vs ns → Vals (ns.map V.int) vs
  | _, _, .nil => .nil
  | _, _, .cons n t h => .cons ⟨t, rfl⟩ (vals_ints h)

end L2

namespace L2
open PySem PySem.Spec PyProof.Rows

end L2

/- THE LAST THEOREM (shape; LID, My.* are yours):
   My.Adr: a structure of the addresses that your layer names (classes, functions); My.Txt K t: a structure (Prop) of the equations over K;
   My.txt_mk : {K} {implicit addresses ..} (e1 : nsIn K mainGlobals "law" = some (some (.ref f))) (e2 : K.lookup f = some ⟨oc, od, .func (fnOf "law" "law" params body scope dV kV doc pm an cdv ct), sl⟩) (e3 : codeIn K cdv "law" = true) .. : ∃ t, My.Txt K t

set_option maxRecDepth 100000 in
set_option maxHeartbeats 0 in
theorem PySem.Challenge.cw_LID_holds : PySem.Challenge.rw_LID.Holds := by
  w_on; o_law; k_head; (case hw => w_witness2)
  k_fill
  refine L2.walk_of (l := PySem.Challenge.rw_LID) (n := 63) (k := 40) (x := "script") (CX := fun w => ..) (sp := fun _ => My.sp_law) rfl (by decide) rfl ⟨rfl, by decide, by decide⟩ (fun w h Y => PySem.W.kIn_of Y) ?F ?S ?C
  case F =>
    intro w mg fa h KX G hmg
    have T : ∃ t, My.Txt (L2.KOf KX) t := by
      dsimp only [L2.KOf]                          -- K must stand as «<heap const> w.params» for k_is
      refine' My.txt_mk ?e1 ?e2 ?e3 ..
      (case e1 => PySem.W.k_is)                    -- in the order: a name -> its address -> its object -> its parts
      (case e2 => PySem.W.k_is)
      ..
    obtain ⟨t, T⟩ := T
    have e0 := hmg.symm.trans (PySem.W.mg_of KX G T.law)
    cases e0                                       -- fa is the law's own address
    exact ⟨_, fun s u => .of_eq rfl, fun base kb nb => My.law_fn T kb nb⟩     -- if «.of_eq rfl» comes too early: refine' ⟨_, ?b, fun base kb nb => My.law_fn T kb nb⟩; exact fun s u => .of_eq rfl
  case S => exact fun w H a ns hl hO hS => ..
  case C => exact ..
(the tactic k_is has no namespace: write k_is) -/

/-! SHORT WORDS over the layer: a def of the text, its body, what a loop and a test want. -/
namespace L2
open PySem PySem.Spec PyProof.Rows

/-! ### the text by places -/
def defArgs (s : Stmt) : Arguments := match s with
  | .FunctionDef _ a _ _ _ _ _ _ _ _ => a
  | _ => { posonlyargs := [], args := [], vararg := none, kwonlyargs := [], kw_defaults := [], kwarg := none, defaults := [] }
def defBody (s : Stmt) : List Stmt := match s with
  | .FunctionDef _ _ b _ _ _ _ _ _ _ => b
  | _ => []
def defScope (s : Stmt) : Scope := match s with
  | .FunctionDef _ _ _ _ _ _ sc _ _ _ => sc
  | _ => { kind := .function, names := [], isGenerator := false, isCoroutine := false }

/-! ### no exception leaves a def -/
abbrev CX0 : CXT := fun _ _ _ _ _ _ => False
abbrev E0 : XK := fun _ _ _ => False
theorem pass0 {X : Cx} : Passes CX0 X E0 := fun _ _ _ _ _ _ _ h => h.elim

/-! ### a def (or method) of the text as it stands behind the top -/
structure Fun (K : PySem.W.Frag) (x qual : Str) (st : Stmt) (f : Addr) (fd : FuncData) : Prop where
  ex : ∃ (oc : Value) (od : Option Addr) (kV doc pm : Value) (an : Option Addr) (cdv ct : Value) (osl : Array (Option Value)),
    fd = PySem.W.fnOf x qual (defArgs st) (defBody st) (defScope st) .none kV doc pm an cdv ct ∧ K.lookup f = some ⟨oc, od, .func fd, osl⟩ ∧ PySem.W.codeIn K cdv qual = true
  kp : PySem.W.keepIn K (.ref f) = true
section
variable {P : Program} {w : World} {K : PySem.W.Frag} {mg : Str → Option Value} {base : Heap}
/-- THE RULE for a def: its body as a term of rules, and the reading of that term -/
theorem Fun.ok {x qual : Str} {st : Stmt} {f : Addr} {fd : FuncData} {N ps : List Str} {k : Nat} {sp : Sp} (F : Fun K x qual st f fd) (S : FnScope N ps (defScope st)) (len : ∀ vs H Q E, sp vs H Q E → vs.length = ps.length)
    (hbody : ∀ (cdv : Value) (A : Around) (outer : List Env) (s : Shared) (H : Hp) (vs : List V) (Q : VK) (E : XK), Room k (A.deeper (envOfC qual (defScope st) s.heap.objs.size f cdv)) → sp vs H Q E →
      ∃ t, PSs (cxOf CX0 P w K mg base N qual (defScope st) f cdv A outer s H E).nox (defBody st) t ∧ t { nx := fun _ H' => Q .non H', rt := Q } (start N vs) H) : FnOk P w K mg base CX0 (k + 1) f fd ps sp := by
  obtain ⟨oc, od, kV, doc, pm, an, cdv, ct, osl, rfl, lk, hcd⟩ := F.ex
  refine fn_of lk hcd S len fun A outer s H vs Q E hr hsp => ?_
  obtain ⟨t, h, q⟩ := hbody cdv A outer s H vs Q E hr hsp
  exact ⟨t, h.nox, q⟩
/-- how its arguments bind (no defaults): h is «fun _ _ _ _ _ _ us hl => match us, hl with | [_, _], _ => rfl», one _ a parameter -/
theorem Fun.binds {x qual : Str} {st : Stmt} {f : Addr} {fd : FuncData} {ps : List Str} (F : Fun K x qual st f fd)
    (h : ∀ (kV doc pm : Value) (an : Option Addr) (cdv ct : Value) (us : List Value), us.length = ps.length → bindArgs (PySem.W.fnOf x qual (defArgs st) (defBody st) (defScope st) .none kV doc pm an cdv ct) ⟨us, []⟩ = pure (ps.zip us)) : Binds K fd ps [] := by
  obtain ⟨oc, od, kV, doc, pm, an, cdv, ct, osl, rfl, lk, hcd⟩ := F.ex
  exact .all (h kV doc pm an cdv ct)
theorem fun_mk {x qual : Str} {st : Stmt} {f : Addr} {oc : Value} {od an : Option Addr} {osl : Array (Option Value)} {kV doc pm cdv ct : Value} (l : K.lookup f = some ⟨oc, od, .func (PySem.W.fnOf x qual (defArgs st) (defBody st) (defScope st) .none kV doc pm an cdv ct), osl⟩)
    (c : PySem.W.codeIn K cdv qual = true) (k : PySem.W.keepIn K (.ref f) = true) : Fun K x qual st f (PySem.W.fnOf x qual (defArgs st) (defBody st) (defScope st) .none kV doc pm an cdv ct) := ⟨⟨oc, od, kV, doc, pm, an, cdv, ct, osl, rfl, l, c⟩, k⟩
end
theorem small1000 {n : Nat} (h : n ≤ 1000) : n < sizeLine := Nat.lt_of_le_of_lt h (by decide)

/-! ### expressions in short: the name that stands in the i-th slot -/
section
variable {X : Cx}
theorem pv (i : Nat) {x : Str} {pos : Pos} (hN : X.N[i]? = some x := by rfl) (hv : Vis X.env.scope x := by first | exact Or.inl rfl | exact Or.inr (Or.inl rfl) | exact Or.inr (Or.inr rfl)) (hd : (x == ("__debug__" : Str)) = false := by decide)
    (hcd : (x == ("__classdict__" : Str)) = false := by decide) : PE X (.Name x pos) (tVar i) := pe_var hN hv hd hcd
end

/-! ### tests -/
theorem iteF {A B : Prop} (h : B) : if false = true then A else B := by
  rw [if_neg Bool.false_ne_true]
  exact h
theorem iteT {A B : Prop} (h : A) : if true = true then A else B := by
  rw [if_pos rfl]
  exact h
theorem ite2 {c A B : Prop} [Decidable c] (h1 : c → A) (h2 : ¬ c → B) : if c then A else B := by
  by_cases h : c
  · rw [if_pos h]
    exact h1 h
  · rw [if_neg h]
    exact h2 h
theorem iteNS {c A B : Prop} [Decidable c] (hc : c) (h : B) : if (!decide c) = true then A else B := by
  rw [decide_eq_true hc]
  exact iteF h

end L2

set_option maxRecDepth 100000
set_option maxHeartbeats 4000000
namespace L2
open PySem PySem.Spec PyProof.Rows

/-! ### heaps: what is tracked stays, but for the tables of code, which may grow -/
/-- what is known of a code object that a table names: it is a record with a name -/
def codeP (c : Addr) : Heap → Prop := fun h => ∃ (o : Obj) (vs : Array Value) (q : Str) (t : Nat), h.get? c = some o ∧ o.data = .fields vs ∧ vs[1]? = some (.str q t)
/-- a table of code: all that it names is tracked -/
def TabOk (H : Hp) (P : Addr) : Prop := ∃ ps : Array Value, H P = some (.tbl ps) ∧ TriplesOk ps.toList ∧ ∀ pos : Pos, codeAmong pos ps.toList = none ∨ ∃ c : Addr, codeAmong pos ps.toList = some (.ref c) ∧ H c = some (.ext (codeP c))
def Kp (H H' : Hp) (b : Addr) : HO → Prop
  | .tbl _ => (∃ ps, H' b = some (.tbl ps)) ∧ (TabOk H b → TabOk H' b)
  | o => H' b = some o
/-- all that was tracked is as it was; tables of code may have grown -/
def Same (H H' : Hp) : Prop := ∀ b o, H b = some o → Kp H H' b o
theorem Kp.of {H H' : Hp} {b : Addr} {o : HO} (h : H b = some o) (e : H' b = some o) (hc : ∀ c, H c = some (.ext (codeP c)) → H' c = some (.ext (codeP c))) : Kp H H' b o := by
  cases o
  case tbl ps =>
    refine ⟨⟨ps, e⟩, fun ⟨qs, hq, tr, hp⟩ => ?_⟩
    rw [h] at hq
    cases hq
    exact ⟨_, e, tr, fun pos => (hp pos).imp id fun ⟨c, z1, z2⟩ => ⟨c, z1, hc c z2⟩⟩
  all_goals exact e
theorem same_of {H H' : Hp} (h : ∀ b o, H b = some o → H' b = some o) : Same H H' := fun b o e => Kp.of e (h b o e) fun c z => h c _ z
theorem Same.refl (H : Hp) : Same H H := same_of fun _ _ h => h
theorem Same.trans {H H1 H2 : Hp} (a : Same H H1) (b : Same H1 H2) : Same H H2 := fun c o h => by
  have z := a c o h
  cases o
  case tbl ps =>
    obtain ⟨⟨qs, hq⟩, k⟩ := z
    obtain ⟨q2, k2⟩ := b c _ hq
    exact ⟨q2, fun t => k2 (k t)⟩
  all_goals exact b c _ z
theorem Kp.some {H H' : Hp} {b : Addr} {o : HO} (k : Kp H H' b o) : ∃ u, H' b = some u := by
  cases o
  case tbl ps => exact ⟨_, k.1.choose_spec⟩
  all_goals exact ⟨_, k⟩
theorem Same.free {H H' : Hp} (e : Same H H') {l : Addr} (h : H' l = Option.none) : H l = Option.none := by
  cases q : H l with
  | none => rfl
  | some o =>
    obtain ⟨u, z⟩ := (e l o q).some
    rw [z] at h
    cases h
theorem Same.tab {H H' : Hp} {P : Addr} (e : Same H H') (t : TabOk H P) : TabOk H' P := by
  obtain ⟨ps, h, _⟩ := id t
  exact (e _ _ h).2 t
theorem codeAmong_grow {pos pos' : Pos} {c : Value} (l : List Value) (h : TriplesOk l) : codeAmong pos (l ++ [rawInt pos'.line, rawInt pos'.col, c]) = codeAmong pos l ∨ codeAmong pos (l ++ [rawInt pos'.line, rawInt pos'.col, c]) = some c := by
  fun_induction TriplesOk l with
  | case1 =>
    by_cases hc : ((pos'.line : Int) == (pos.line : Int) && (pos'.col : Int) == (pos.col : Int)) = true
    · exact .inr (by simp only [List.nil_append, codeAmong, rawInt]; rw [if_pos hc])
    · exact .inl (by simp only [List.nil_append, codeAmong, rawInt]; rw [if_neg hc])
  | case2 a t b u x rest ih =>
    simp only [List.cons_append, codeAmong]
    split
    · exact .inl rfl
    · exact ih h
  | case3 => exact h.elim
end L2

set_option maxRecDepth 100000
set_option maxHeartbeats 4000000
namespace L2
open PySem PySem.Spec PyProof.Rows

/-! ### A. List comprehensions of one clause -/
/-- a loop in the machine's monad whose every step is pure -/
theorem forIn_all {α β : Type} (g : α → β → β) {f : α → β → Sem (ForInStep β)} : ∀ (l : List α) (b : β), (∀ x ∈ l, ∀ c, f x c = pure (ForInStep.yield (g x c))) →
    forIn l b f = (pure (l.foldl (fun c x => g x c) b) : Sem β)
  | [], b, _ => by simp only [List.forIn_nil, List.foldl_nil]
  | x :: r, b, h => by
    rw [List.forIn_cons, h x List.mem_cons_self b, pure_bind]
    exact forIn_all g r (g x b) fun y hy c => h y (List.mem_cons_of_mem _ hy) c

/-- the cells that a block takes over from its def -/
def clOf (sc : Scope) (env : Env) : List (Str × Addr) :=
  sc.names.foldl (fun cs y => if (y.2 == NameKind.free) = true then (y.1, (env.cells.lookup y.1).getD 0) :: cs else cs) []
theorem clOf_eq {sc : Scope} {env : Env} (h : ∀ y ∈ sc.names, y.2 = .free → ∃ c, env.cells.lookup y.1 = some c) : closureFor sc env = pure (clOf sc env) := by
  simp only [closureFor]
  rw [forIn_all (fun (y : Str × NameKind) (cs : List (Str × Addr)) => if (y.2 == NameKind.free) = true then (y.1, (env.cells.lookup y.1).getD 0) :: cs else cs) sc.names [] (fun y hy c => by
    obtain ⟨n, k⟩ := y
    by_cases hk : k = .free
    · obtain ⟨a, ha⟩ := h _ hy hk
      subst hk
      simp only [cellOf, ha, beq_self_eq_true, if_true, pure_bind, Option.getD_some]
    · have z : (k == NameKind.free) = false := by simpa using hk
      simp only [z, Bool.false_eq_true, if_false])]
  rfl
theorem foldl_mem {α β : Type} {P : β → Prop} {g : α → List β → List β} : ∀ (l : List α) (b : List β), (∀ p ∈ b, P p) → (∀ x ∈ l, ∀ c, (∀ p ∈ c, P p) → ∀ p ∈ g x c, P p) → ∀ p ∈ l.foldl (fun c x => g x c) b, P p
  | [], b, hb, _ => hb
  | x :: r, b, hb, h => foldl_mem r (g x b) (h x List.mem_cons_self b hb) fun y hy => h y (List.mem_cons_of_mem _ hy)
theorem clOf_mem {sc : Scope} {env : Env} (h : ∀ y ∈ sc.names, y.2 = .free → ∃ c, env.cells.lookup y.1 = some c) : ∀ p ∈ clOf sc env, env.cells.lookup p.1 = some p.2 := by
  refine foldl_mem (P := fun p : Str × Addr => env.cells.lookup p.1 = some p.2) sc.names [] (fun _ z => nomatch z) fun y hy c hc p hp => ?_
  by_cases hk : y.2 = .free
  · have z : (y.2 == NameKind.free) = true := by simpa using hk
    rw [if_pos z] at hp
    rcases List.mem_cons.mp hp with e | hp
    · obtain ⟨a, ha⟩ := h y hy hk
      rw [e]
      show env.cells.lookup y.1 = some ((env.cells.lookup y.1).getD 0)
      rw [ha]
      rfl
    · exact hc p hp
  · have z : ¬ (y.2 == NameKind.free) = true := by simpa using hk
    rw [if_neg z] at hp
    exact hc p hp
theorem foldl_keep {α β : Type} {q : β} {g : α → List β → List β} (hg : ∀ x c, q ∈ c → q ∈ g x c) : ∀ (l : List α) (b : List β), q ∈ b → q ∈ l.foldl (fun c x => g x c) b
  | [], _, hb => hb
  | x :: r, b, hb => foldl_keep hg r (g x b) (hg x b hb)
theorem clOf_has {sc : Scope} {env : Env} {x : Str} {c : Addr} (hx : (x, NameKind.free) ∈ sc.names) (hc : env.cells.lookup x = some c) : (x, c) ∈ clOf sc env := by
  have kp : ∀ (y : Str × NameKind) (cs : List (Str × Addr)), (x, c) ∈ cs → (x, c) ∈ (if (y.2 == NameKind.free) = true then (y.1, (env.cells.lookup y.1).getD 0) :: cs else cs) := fun y cs h => by
    by_cases z : (y.2 == NameKind.free) = true
    · rw [if_pos z]
      exact List.mem_cons_of_mem _ h
    · rw [if_neg z]
      exact h
  unfold clOf
  obtain ⟨l1, l2, e⟩ := List.append_of_mem hx
  rw [e, List.foldl_append, List.foldl_cons]
  refine foldl_keep (g := fun (y : Str × NameKind) (cs : List (Str × Addr)) => if (y.2 == NameKind.free) = true then (y.1, (env.cells.lookup y.1).getD 0) :: cs else cs) kp l2 _ ?_
  rw [if_pos (by simp)]
  rw [hc]
  exact List.mem_cons_self
theorem lookup_some {β : Type} {x : Str} {b : β} : ∀ {l : List (Str × β)}, (x, b) ∈ l → ∃ c, l.lookup x = some c
  | [], h => nomatch h
  | (y, d) :: r, h => by
    by_cases e : x = y
    · subst e
      exact ⟨d, by rw [List.lookup_cons_self]⟩
    · have z : (x == y) = false := by simpa using e
      rcases List.mem_cons.mp h with q | q
      · cases q
        exact absurd rfl e
      · obtain ⟨c, hc⟩ := lookup_some q
        exact ⟨c, by rw [List.lookup_cons, z]; exact hc⟩
theorem clOf_look {sc : Scope} {env : Env} (h : ∀ y ∈ sc.names, y.2 = .free → ∃ c, env.cells.lookup y.1 = some c) {x : Str} {c : Addr} (e : (clOf sc env).lookup x = some c) : env.cells.lookup x = some c :=
  clOf_mem h _ (PySem.mem_of_lookup e)
theorem clOf_at {sc : Scope} {env : Env} (h : ∀ y ∈ sc.names, y.2 = .free → ∃ c, env.cells.lookup y.1 = some c) {x : Str} {c : Addr} (hx : (x, NameKind.free) ∈ sc.names) (hc : env.cells.lookup x = some c) : (clOf sc env).lookup x = some c := by
  obtain ⟨d, hd⟩ := lookup_some (clOf_has hx hc)
  have := clOf_look h hd
  rw [hc] at this
  cases this
  exact hd

/-- a block's scope as it is run, by its def's scope -/
def relS (sc sc0 : Scope) : Scope :=
  { sc with names := sc.names.map fun (n, k) => if (k == .free && sc0.kind == .function && sc0.names.lookup n == some .cell) then (n, .cell) else (n, k) }
/-- what a comprehension's table must be: n of its own names ahead in N', behind them the def's slots kp -/
def lcOk (sc0 sc : Scope) (XN N' : List Str) (n : Nat) (kp : List Nat) : Bool :=
  decide (sc.kind = .function) && sc.names.all (fun y => decide (y.2 ≠ .cell)) && sc.names.all (fun y => decide (y.2 = .local → sc.names.lookup y.1 = some .local)) &&
  sc.names.all (fun y => decide (y.2 = .free → sc0.names.lookup y.1 = some .cell)) && decide (N'.length = n + kp.length) &&
  (List.range kp.length).all (fun i => match N'[n + i]?, kp[i]? with
    | some x, some j => decide (XN[j]? = some x ∧ (x, NameKind.free) ∈ sc.names ∧ ((relS sc sc0).names.lookup x = some .cell ∨ (relS sc sc0).names.lookup x = some .free))
    | _, _ => false)
theorem lcOk_parts {sc0 sc : Scope} {XN N' : List Str} {n : Nat} {kp : List Nat} (h : lcOk sc0 sc XN N' n kp = true) :
    sc.kind = .function ∧ (∀ y ∈ sc.names, y.2 ≠ .cell) ∧ (∀ y ∈ sc.names, y.2 = .local → sc.names.lookup y.1 = some .local) ∧ (∀ y ∈ sc.names, y.2 = .free → sc0.names.lookup y.1 = some .cell) ∧ N'.length = n + kp.length ∧
    ∀ (i : Nat) (x : Str), N'[n + i]? = some x → ∃ j, kp[i]? = some j ∧ XN[j]? = some x ∧ (x, NameKind.free) ∈ sc.names ∧ ((relS sc sc0).names.lookup x = some .cell ∨ (relS sc sc0).names.lookup x = some .free) := by
  unfold lcOk at h
  simp only [Bool.and_eq_true, List.all_eq_true, decide_eq_true_eq] at h
  obtain ⟨⟨⟨⟨⟨h1, h2⟩, h3⟩, h4⟩, h5⟩, h6⟩ := h
  refine ⟨h1, h2, h3, h4, h5, fun i x hx => ?_⟩
  have hi : i < kp.length := by
    have := (List.getElem?_eq_some_iff.mp hx).1
    omega
  have q := h6 i (List.mem_range.mpr hi)
  rw [hx, List.getElem?_eq_getElem hi] at q
  exact ⟨kp[i], List.getElem?_eq_getElem hi, of_decide_eq_true q⟩

abbrev NoX : Value → Shared → Prop := fun _ _ => False
/-- a comprehension's block running, in the context of its def -/
def blk (X : Cx) (N' : List Str) (sc : Scope) (C : Addr) (fp : List Addr) (pins : List (Addr × Obj)) (s : Shared) (H : Hp) : Cx :=
  { X with N := N', s₀ := s, H₀ := H, env := compEnvC sc (clOf sc X.env) C X.env, outer := X.stack, stack := X.stack, ex := fp, fn := fun _ => false, pn := X.pn ++ pins, xe := NoX }
/-- the tests of a clause, one behind another -/
abbrev lcIfs (cs : List Expr) (env : Env) : Sem Bool := forIn cs true fun c r => if r = true then do let ok ← isTrue c env (eval c env); pure (ForInStep.yield ok) else pure (ForInStep.yield r)
def PTs (X : Cx) (cs : List Expr) (t : TT) : Prop :=
  ∀ (pins : List (Addr × Obj)) (s : Shared) (σ : St) (H : Hp) (Q : Bool → Hp → Prop), Inv X pins σ H s → t σ H Q → wpAny (model X.prog X.w) X.A (lcIfs cs X.env) (TP X pins σ Q) X.xe s
def tNoT : TT := fun _ H Q => Q true H
theorem pts_nil {X : Cx} : PTs X [] tNoT := fun _ _ _ H _ I h => wpAny_tests_nil ⟨H, I, h⟩
theorem pts_one {X : Cx} {c : Expr} {t : TT} (hc : PT X c t) : PTs X [c] t := fun pins s σ H Q I h => wpAny_tests_one (hc pins s σ H Q I h)

theorem lc_loop {prog : Program} {w : World} {A : Around} {R : Result → Shared → Prop} {elt tg iter : Expr} {cs : List Expr} {sc : Scope} {pos : Pos} {it acc : Value} {env : Env} (J : Nat → Shared → Prop)
    (turn : ∀ n s, J n s → wpAny (model prog w) A (pyNext it) (fun r s1 => match r with
      | none => R (.ok .next) s1
      | some v => wpAny (model prog w) A (letOwnedTupleGo tg it v) (fun _ s2 => wpAny (model prog w) A (assign tg env v) (fun _ s3 => wpAny (model prog w) A (lcIfs cs env) (fun ok s4 =>
          if ok = true then wpAny (model prog w) A (eval elt env) (fun x s5 => wpAny (model prog w) A (call (.builtin "list.append") [acc, x]) (fun _ s6 => ∃ m, m < n ∧ J m s6) NoX s5) NoX s4
          else ∃ m, m < n ∧ J m s4) NoX s3) NoX s2) NoX s1) NoX s)
    (n : Nat) (s : Shared) (h : J n s) : codeAny (model prog w) A (.compLoop (.ListComp elt [⟨tg, iter, cs, 0⟩] sc pos) 0 it acc env) R s := by
  refine codeAny_loop rfl J (fun n s hJ => ?_) n h
  show wpAny _ A ((compTurn (.ListComp elt [⟨tg, iter, cs, 0⟩] sc pos) 0 it acc env).onRaise (fun x => do noteFrame x env; theTreesLotGoes x)) _ _ s
  refine wpAny_noted ?_
  rw [compTurn_list]
  have no : ∀ {E : Value → Shared → Prop} (e : Value) (z : Shared), NoX e z → E e z := fun _ _ f => f.elim
  refine wpAny_bind (wpAny_standAt (wpAny_bind (wpAny_mono (turn n s hJ) (fun r s1 h1 => ?_) no)))
  cases r with
  | none => exact wpAny_pure h1
  | some v =>
    refine wpAny_bind (wpAny_mono h1 (fun _ s2 h2 => ?_) no)
    refine wpAny_bind (wpAny_mono h2 (fun _ s3 h3 => ?_) no)
    refine wpAny_bind (wpAny_mono h3 (fun ok s4 h4 => ?_) no)
    cases ok with
    | false => exact wpAny_pure ⟨rfl, h4⟩
    | true =>
      exact wpAny_bind (wpAny_bind (wpAny_mono h4 (fun x s5 h5 => wpAny_bind (wpAny_mono h5 (fun _ s6 h6 => wpAny_pure (wpAny_pure ⟨rfl, h6⟩)) no)) no))

/-- a comprehension from its iterator on: W is the invariant, by the turn, a measure, the list so far, the block's slots, the heap -/
def lcGo (J : It) (g : TG) (tc : TT) (te : TE) (σ0 : St) (H1 : Hp) (Q : VK) : Prop := ∃ W : Nat → Nat → List V → St → Hp → Prop,
  (∃ m, W 0 m [] σ0 H1) ∧ ∀ i m ys σ' H', W i m ys σ' H' → ys.length ≤ sizeLine ∧
    ((J.stop i H' ∧ ∀ p, H' p = none → Q (.ref p) (upd H' p (.lst ys))) ∨
     (J.go i H' ∧ ∃ N : List V → St → Hp → Prop, (∀ ys' σ2 H2, N ys' σ2 H2 → ∃ m', m' < m ∧ W (i + 1) m' ys' σ2 H2) ∧ ∀ x H2, J.yld i H' x H2 → g x σ' H2 fun σ3 H3 => tc σ3 H3 fun b H4 =>
       if b = true then te σ3 H4 fun v H5 => N (ys ++ [v]) σ3 H5 else N ys σ3 H4))
/-- the reading of a comprehension -/
def tLc (n : Nat) (kp : List Nat) (wi : TI) (g : TG) (tc : TT) (te : TE) : TE := fun σ H Q => wi σ H fun J H1 => lcGo J g tc te (List.replicate n none ++ kp.map fun j => (σ[j]?).join) H1 Q

/-- a comprehension over a range, by what holds at each turn -/
theorem lc_range {lo : Int} {k : Nat} {σ0 : St} {H : Hp} {g : TG} {tc : TT} {te : TE} {Q : VK} (Pv : Nat → List V → St → Hp → Prop) (h0 : Pv 0 [] σ0 H) (hz : ∀ i ys σ H, i ≤ k → Pv i ys σ H → ys.length ≤ sizeLine)
    (hs : ∀ i ys σ H, i < k → Pv i ys σ H → g (.int (lo + i)) σ H fun σ3 H3 => tc σ3 H3 fun b H4 => if b = true then te σ3 H4 fun v H5 => Pv (i + 1) (ys ++ [v]) σ3 H5 else Pv (i + 1) ys σ3 H4)
    (hd : ∀ ys σ H, Pv k ys σ H → ∀ p, H p = none → Q (.ref p) (upd H p (.lst ys))) :
    lcGo (Itr lo k) g tc te σ0 H Q := by
  refine ⟨fun i m ys σ H => m = k - i ∧ i ≤ k ∧ Pv i ys σ H, ⟨k, by simp, Nat.zero_le _, h0⟩, ?_⟩
  rintro i m ys σ H ⟨rfl, hi, p⟩
  refine ⟨hz i ys σ H hi p, ?_⟩
  by_cases hlt : i < k
  · refine .inr ⟨hlt, Pv (i + 1), fun ys' σ' H' p' => ⟨k - (i + 1), by omega, rfl, hlt, p'⟩, fun x H' y => ?_⟩
    obtain ⟨e1, e2⟩ := y
    subst e1
    subst e2
    exact hs i ys σ _ hlt p
  · have e : i = k := by omega
    subst e
    exact .inl ⟨Nat.le_refl _, hd ys σ H p⟩
/-- .. over a list that stays as it is -/
theorem lc_list {K : PySem.W.Frag} {a : Addr} {xs : List V} {σ0 : St} {H : Hp} {g : TG} {tc : TT} {te : TE} {Q : VK} (Pv : Nat → List V → St → Hp → Prop) (h0 : Pv 0 [] σ0 H) (hz : ∀ i ys σ H, i ≤ xs.length → Pv i ys σ H → ys.length ≤ sizeLine)
    (hl : ∀ i ys σ H, i ≤ xs.length → Pv i ys σ H → SqL K H a xs)
    (hs : ∀ i x ys σ H, xs[i]? = some x → Pv i ys σ H → g x σ H fun σ3 H3 => tc σ3 H3 fun b H4 => if b = true then te σ3 H4 fun v H5 => Pv (i + 1) (ys ++ [v]) σ3 H5 else Pv (i + 1) ys σ3 H4)
    (hd : ∀ ys σ H, Pv xs.length ys σ H → ∀ p, H p = none → Q (.ref p) (upd H p (.lst ys))) :
    lcGo (Itl K a) g tc te σ0 H Q := by
  refine ⟨fun i m ys σ H => m = xs.length - i ∧ i ≤ xs.length ∧ Pv i ys σ H, ⟨xs.length, by simp, Nat.zero_le _, h0⟩, ?_⟩
  rintro i m ys σ H ⟨rfl, hi, p⟩
  refine ⟨hz i ys σ H hi p, ?_⟩
  have q := hl i ys σ H hi p
  by_cases hlt : i < xs.length
  · refine .inr ⟨⟨xs, xs[i], q, by simp [hlt]⟩, Pv (i + 1), fun ys' σ' H' p' => ⟨xs.length - (i + 1), by omega, rfl, hlt, p'⟩, fun x H' y => ?_⟩
    obtain ⟨e, y⟩ := y
    subst e
    exact hs i x ys σ _ (y xs q) p
  · have e : i = xs.length := by omega
    subst e
    exact .inl ⟨⟨xs, q, Nat.le_refl _⟩, hd ys σ H p⟩

/-- .. over a tuple that stays as it is -/
theorem lc_tup {K : PySem.W.Frag} {a : Addr} {xs : List V} {σ0 : St} {H : Hp} {g : TG} {tc : TT} {te : TE} {Q : VK} (Pv : Nat → List V → St → Hp → Prop) (h0 : Pv 0 [] σ0 H) (hz : ∀ i ys σ H, i ≤ xs.length → Pv i ys σ H → ys.length ≤ sizeLine)
    (hl : ∀ i ys σ H, i ≤ xs.length → Pv i ys σ H → SqT K H a xs)
    (hs : ∀ i x ys σ H, xs[i]? = some x → Pv i ys σ H → g x σ H fun σ3 H3 => tc σ3 H3 fun b H4 => if b = true then te σ3 H4 fun v H5 => Pv (i + 1) (ys ++ [v]) σ3 H5 else Pv (i + 1) ys σ3 H4)
    (hd : ∀ ys σ H, Pv xs.length ys σ H → ∀ p, H p = none → Q (.ref p) (upd H p (.lst ys))) :
    lcGo (Itt K a) g tc te σ0 H Q := by
  refine ⟨fun i m ys σ H => m = xs.length - i ∧ i ≤ xs.length ∧ Pv i ys σ H, ⟨xs.length, by simp, Nat.zero_le _, h0⟩, ?_⟩
  rintro i m ys σ H ⟨rfl, hi, p⟩
  refine ⟨hz i ys σ H hi p, ?_⟩
  have q := hl i ys σ H hi p
  by_cases hlt : i < xs.length
  · refine .inr ⟨⟨xs, xs[i], q, by simp [hlt]⟩, Pv (i + 1), fun ys' σ' H' p' => ⟨xs.length - (i + 1), by omega, rfl, hlt, p'⟩, fun x H' y => ?_⟩
    obtain ⟨e, y⟩ := y
    subst e
    exact hs i x ys σ _ (y xs q) p
  · have e : i = xs.length := by omega
    subst e
    exact .inl ⟨⟨xs, q, Nat.le_refl _⟩, hd ys σ H p⟩

section
variable {X : Cx} {tg iter elt : Expr} {cs : List Expr} {sc sc0 : Scope} {pos : Pos} {wi : TI} {g : TG} {tc : TT} {te : TE} {XN N' : List Str} {n : Nat} {kp : List Nat}

theorem blk_ok {pins : List (Addr × Obj)} {σ : St} {H : Hp} {s : Shared} {fp : List Addr} {C : Addr} (I : Inv X pins σ H s) (hk : sc.kind = .function) (hcell : ∀ y ∈ sc.names, y.2 ≠ .cell)
    (hfr : ∀ y ∈ sc.names, y.2 = .free → ∃ c, X.env.cells.lookup y.1 = some c) (hf : ∀ b ∈ fp, FpOk X pins H b) (hl : ∀ b ∈ fp, b < s.heap.objs.size) (hC : s.heap.objs.size ≤ C) : (blk X N' sc C fp pins s H).Ok where
  mod := I.ok.mod
  kind := hk
  glob := I.ok.glob
  blt := I.ok.blt
  above := hC
  inj := fun x y c h1 h2 => I.ok.inj x y c (clOf_look hfr h1) (clOf_look hfr h2)
  has := fun x hx => by
    have q : ∃ k, (x, k) ∈ sc.names ∧ k = .free := by
      have hx' : (relS sc X.env.scope).names.lookup x = some .cell ∨ (relS sc X.env.scope).names.lookup x = some .free := hx
      have go : ∀ k, (relS sc X.env.scope).names.lookup x = some k → (k = .cell ∨ k = .free) → (x, NameKind.free) ∈ sc.names := fun k e hk' => by
        have hm := PySem.mem_of_lookup e
        obtain ⟨⟨y, ky⟩, hy, ey⟩ := List.mem_map.mp hm
        dsimp only at ey
        split at ey
        · rename_i hc
          cases ey
          have z : ky = .free := by
            simp only [Bool.and_eq_true] at hc
            simpa using hc.1.1
          subst z
          exact hy
        · cases ey
          rcases hk' with z | z
          · exact absurd z (hcell _ hy)
          · subst z
            exact hy
      rcases hx' with e | e
      · exact ⟨_, go _ e (.inl rfl), rfl⟩
      · exact ⟨_, go _ e (.inr rfl), rfl⟩
    obtain ⟨k, hm, rfl⟩ := q
    obtain ⟨c, hc⟩ := hfr _ hm rfl
    exact ⟨c, clOf_at hfr hm hc⟩
  cab := fun x c h => absurd h (by simp [blk])
  hd := I.ok.hd
  frames := I.ok.frames
  stk := .inl rfl
  exf := fun b hb => ⟨Nat.ne_of_lt (Nat.lt_of_lt_of_le (hl b hb) hC), fun x c e => (hf b hb).2.2.2.2.1 x c (clOf_look hfr e)⟩
  bs := I.bs
  bsz := Nat.le_trans I.ok.bsz I.sz
  noex := fun b o e hb => by
    rcases (hf b hb).2.2.2.1 with z | z
    · exact I.ok.noex b o e z
    · exact absurd (Nat.lt_of_lt_of_le (Heap.lt_size e) (Nat.le_trans I.ok.bsz z)) (Nat.lt_irrefl _)
  exfs := fun b hb z => by
    rcases List.mem_cons.mp (I.stkSub b z) with q | q
    · exact (hf b hb).2.1 q
    · exact (hf b hb).2.2.1 q
  funs := I.stack
  frf := I.stkFree
end
end L2

set_option maxRecDepth 100000
set_option maxHeartbeats 4000000
namespace L2
open PySem PySem.Spec PyProof.Rows
section
variable {X : Cx} {tg iter elt : Expr} {cs : List Expr} {sc sc0 : Scope} {pos : Pos} {wi : TI} {g : TG} {tc : TT} {te : TE} {XN N' : List Str} {n : Nat} {kp : List Nat}

theorem blk_start {pins : List (Addr × Obj)} {σ : St} {H : Hp} {s : Shared} {fp : List Addr} {C : Addr} {h1 : Heap} {tk : Nat} {m : Str → Option Value} (I : Inv X pins σ H s) (h0 : X.env.scope = sc0) (hN : X.N = XN) (ok : lcOk sc0 sc XN N' n kp = true)
    (hf : ∀ b ∈ fp, FpOk X pins H b) (hl : ∀ b ∈ fp, b < s.heap.objs.size) (hC : s.heap.objs.size ≤ C) (old : ∀ b o, s.heap.get? b = some o → h1.get? b = some o) (ns : h1.Ns C m) :
    Inv (blk X N' sc C fp pins s H) [] (List.replicate n none ++ kp.map fun j => (σ[j]?).join) H { s with heap := h1, toks := tk } := by
  obtain ⟨o1, o2, o3, o4, o5, o6⟩ := lcOk_parts ok
  subst h0
  subst hN
  have hfr : ∀ y ∈ sc.names, y.2 = .free → ∃ c, X.env.cells.lookup y.1 = some c := fun y hy e => I.ok.has y.1 (.inl (o4 y hy e))
  have below : ∀ b, b < s.heap.objs.size → b ≠ C := fun b hb => Nat.ne_of_lt (Nat.lt_of_lt_of_le hb hC)
  refine ⟨blk_ok I o1 o2 hfr hf hl hC, rfl, I.bare, Un.kept old, ⟨m, ns, fun i x v e1 e2 e3 => ?_⟩, fun x c e => ?_, I.hok.fresh hC, fun x c e => ?_, fun p hp => ?_, I.hok.kept old, ?_⟩
  · have hi : n ≤ i := by
      by_cases z : n ≤ i
      · exact z
      · rw [List.getElem?_append_left (by rw [List.length_replicate]; omega), List.getElem?_replicate] at e2
        split at e2 <;> cases e2
    obtain ⟨j, rfl⟩ : ∃ j, i = n + j := ⟨i - n, by omega⟩
    obtain ⟨q, hq, hx, hm, hkd⟩ := o6 j x e1
    rw [List.getElem?_append_right (by rw [List.length_replicate]; omega), List.length_replicate, Nat.add_sub_cancel_left, List.getElem?_map, hq] at e2
    have e4 : (σ[q]?).join = some v := Option.some.inj e2
    have e2' : σ[q]? = some (some v) := by
      cases z : σ[q]? with
      | none => rw [z] at e4; cases e4
      | some w => rw [z] at e4; cases e4; rfl
    obtain ⟨c, hc⟩ := hfr _ hm rfl
    have kx : X.env.kindOf x = some .cell := o4 _ hm rfl
    obtain ⟨m', hn', hl'⟩ := I.loc
    obtain ⟨u, r, lk⟩ := hl' q x v hx e2' (.inr (.inl kx))
    refine ⟨u, r, .inr ⟨hkd, c, clOf_at hfr hm hc, ?_⟩⟩
    rcases lk with ⟨k, _⟩ | ⟨_, c', hc', hv⟩
    · rw [kx] at k
      cases k
    · rw [hc] at hc'
      cases hc'
      exact hv.keeps old
  · obtain ⟨v, hv⟩ := I.cell x c (clOf_look hfr e)
    exact ⟨v, hv.keeps old⟩
  · exact I.freeC x c (clOf_look hfr e)
  · have hp' : p ∈ X.pn ++ pins := by
      have : p ∈ (X.pn ++ pins) ++ ([] : List (Addr × Obj)) := hp
      rw [List.append_nil] at this
      exact this
    obtain ⟨q1, q2, q3, q4, q5⟩ := I.pin p hp'
    refine ⟨old _ _ q1, q2, below _ (Heap.lt_size q1), fun z => ?_, q5⟩
    rcases List.mem_cons.mp (I.stkSub _ z) with r | r
    · exact q3 r
    · exact q4 r
  · show (List.replicate n none ++ kp.map fun j => (σ[j]?).join).length = N'.length
    rw [List.length_append, List.length_replicate, List.length_map, o5]

/-- the run of a comprehension up to its end; what comes then is asked by fin -/
theorem lc_run {pins : List (Addr × Obj)} {s : Shared} {σ : St} {H : Hp} {Q : VK} {use : Option (Value → Sem Unit)} {Qf : Value → Shared → Prop} (hc : X.calm = true) (hi : PI X tg iter wi) (h0 : X.env.scope = sc0) (hN : X.N = XN) (ok : lcOk sc0 sc XN N' n kp = true)
    (hg : ∀ C fp pins s H, PG (blk X N' sc C fp pins s H) tg g) (ht : ∀ C fp pins s H, PTs (blk X N' sc C fp pins s H) cs tc) (he : ∀ C fp pins s H, PE (blk X N' sc C fp pins s H) elt te) (hs : ∀ x, foldedSetIterable iter X.env x = pure x)
    (I : Inv X pins σ H s) (h : tLc n kp wi g tc te σ H Q)
    (fin : ∀ D C ys H' s', Inv X pins σ (upd H' D (.lst ys)) s' → (∃ m, s'.heap.Ns C m) → FpOk X pins (upd H' D (.lst ys)) C → Q (.ref D) (upd H' D (.lst ys)) → compPost (model X.prog X.w) X.A X.xe use Qf (.ref D) C (.ok .next) s') {pos' : Pos} :
    wpAny (model X.prog X.w) X.A (comprehension (.ListComp elt [⟨tg, iter, cs, 0⟩] sc pos) sc X.env pos' (newList []) false (firstIter [⟨tg, iter, cs, 0⟩] X.env) use) Qf X.xe s := by
  obtain ⟨o1, o2, o3, o4, o5, o6⟩ := lcOk_parts ok
  have hfr : ∀ y ∈ sc.names, y.2 = .free → ∃ c, X.env.cells.lookup y.1 = some c := fun y hy e => I.ok.has y.1 (.inl (by rw [Env.kindOf, h0]; exact o4 y hy e))
  refine wpAny_comprehension_free (use := use) rfl hs (clOf_eq hfr) o1 o3 (thn (hi pins s σ H _ I h) fun v s1 h1 => thn h1 fun itv s2 h2 => ?_)
  obtain ⟨it, fp, tn, J, H2, rfl, I2, T, st2, f2, W, ⟨m0, w0⟩, turn⟩ := h2
  have hl : ∀ b ∈ fp, b < s2.heap.objs.size := fun b hb => by
    obtain ⟨o, e, _⟩ := T.obj 0 _ st2 b hb
    exact Heap.lt_size e
  refine wpAny_newObj_type (wpAny_newFunctionEnv o2 (by intro y hy; simp at hy) (fun h1 ns1 sb1 => ?_) o1)
  dsimp only at ns1 sb1 ⊢
  generalize hG : s2.heap.push { cls := .type "list", dict := none, data := .seq ([] : List Value).toArray } = G at ns1 sb1 ⊢
  have hGs : G.objs.size = s2.heap.objs.size + 1 := by rw [← hG, Heap.size_push]
  have hCl : s2.heap.objs.size ≤ G.objs.size := by omega
  have hDC : s2.heap.objs.size ≠ G.objs.size := by omega
  have old : ∀ b o, s2.heap.get? b = some o → h1.get? b = some o := fun b o e => by
    have lt := Heap.lt_size e
    exact sb1.extBut b o (Nat.ne_of_lt (Nat.lt_of_lt_of_le lt hCl)) (Heap.get?_push_of_some _ (hG ▸ Heap.get?_push_of_some _ e))
  have hD1 : h1.get? s2.heap.objs.size = some { cls := .type "list", data := .seq ([] : List Value).toArray 0 } :=
    sb1.extBut _ _ hDC (Heap.get?_push_of_some _ (hG ▸ Heap.get?_push_size _ rfl))
  have nD2 : H2 s2.heap.objs.size = none := I2.hok.fresh (Nat.le_refl _)
  have nC2 : H2 G.objs.size = none := I2.hok.fresh hCl
  -- the loop from any state that the block may begin with
  have loop : ∀ s3 : Shared, s3 = { s2 with heap := h1, toks := s2.toks + ([] : List (Str × Value)).length } →
      codeAny (model X.prog X.w) X.A (.compLoop (.ListComp elt [⟨tg, iter, cs, 0⟩] sc pos) 0 (.ref it) (.ref s2.heap.objs.size) (compEnvC sc (clOf sc X.env) G.objs.size X.env))
        (compPost (model X.prog X.w) X.A X.xe use Qf (.ref s2.heap.objs.size) G.objs.size) s3 := by
    rintro s3 rfl
    have I3 := blk_start (fp := fp) (C := G.objs.size) (h1 := h1) (tk := s2.toks + ([] : List (Str × Value)).length) I2 h0 hN ok f2 hl hCl old ns1
    have stat : ∀ {H' : Hp} {o : Obj}, (∀ b ∈ fp, H' b = none) → ∀ b ∈ fp, FpOk (blk X N' sc G.objs.size fp pins s2 H2) [(s2.heap.objs.size, o)] H' b := fun hn b hb => by
      have lt := hl b hb
      refine ⟨hn b hb, Nat.ne_of_lt (Nat.lt_of_lt_of_le lt hCl), I3.ok.exfs b hb, .inl hb, (I3.ok.exf b hb).2, fun p hp => ?_⟩
      rcases List.mem_append.mp hp with z | z
      · exact (f2 b hb).2.2.2.2.2 p z
      · have e : p.1 = s2.heap.objs.size := by rw [List.mem_singleton.mp z]
        rw [e]
        exact Nat.ne_of_gt lt
    have pinD : ∀ {σ' : St} {H' : Hp} {s' : Shared} {o : Obj}, Inv (blk X N' sc G.objs.size fp pins s2 H2) [] σ' H' s' → s'.heap.get? s2.heap.objs.size = some o → (∀ v, o.data ≠ .cell v) → H' s2.heap.objs.size = none →
        Inv (blk X N' sc G.objs.size fp pins s2 H2) [(s2.heap.objs.size, o)] σ' H' s' := fun {σ' H' s' o} J' e hd hn => J'.pins_of fun p hp => by
      rw [List.mem_singleton.mp hp]
      exact ⟨e, hn, hDC, fun z => by
        rcases List.mem_cons.mp (I2.stkSub _ z) with r | r
        · exact absurd I2.lt (by rw [← r]; exact Nat.lt_irrefl _)
        · exact I2.nofs (Nat.le_refl _) r, hd⟩
    refine lc_loop (fun k s' => ∃ (i : Nat) (ys : List V) (its : List Value) (c : Nat) (σ' : St) (H' : Hp), Inv (blk X N' sc G.objs.size fp pins s2 H2) [] σ' H' s' ∧ tn i s'.heap ∧ (∀ b ∈ fp, H' b = none) ∧
      s'.heap.get? s2.heap.objs.size = some { cls := .type "list", data := .seq its.toArray c } ∧ Vals ys its ∧ H' s2.heap.objs.size = none ∧ W i k ys σ' H') ?_ m0 _
      ⟨0, [], [], 0, _, H2, I3, T.keep _ _ _ st2 fun b _ o e => old b o e, fun b hb => (f2 b hb).1, hD1, .nil, nD2, w0⟩
    rintro k s' ⟨i, ys, its, c, σ', H', I', st', fr', hD', hv, nD, w'⟩
    obtain ⟨hz, cases⟩ := turn i k ys σ' H' w'
    have I'' := pinD I' hD' (fun v => by intro z; cases z) nD
    rcases cases with ⟨stop, q⟩ | ⟨go, N, hN2, step⟩
    · refine thn (T.done (blk X N' sc G.objs.size fp pins s2 H2) rfl rfl rfl hc i _ s' σ' H' NoX I'' (stat fr') st' stop) fun r s4 ⟨hr, I4⟩ => ?_
      subst hr
      obtain ⟨e4, n4, _⟩ := I4.pin (s2.heap.objs.size, { cls := .type "list", data := .seq its.toArray c }) (List.mem_append_right _ (List.mem_singleton.mpr rfl))
      have u4 : Un (frs X.stack) fp H2 H' s2.heap s4.heap := I4.base
      have nC4 : H' G.objs.size = none := I4.free
      obtain ⟨m4, ns4, _⟩ := I4.loc
      have neD : ∀ b o, s2.heap.get? b = some o → b ≠ s2.heap.objs.size := fun b o e => Nat.ne_of_lt (Heap.lt_size e)
      have u5 : Un (frs X.stack) fp H2 (upd H' s2.heap.objs.size (.lst ys)) s2.heap s4.heap :=
        ⟨u4.keep, u4.slot, fun b o e nb hx => by rw [upd_ne (neD b o e)]; exact u4.free b o e nb hx, u4.there, fun b xs e => by rw [upd_ne (ne_of_none e nD2)]; exact u4.tups b xs e,
          fun b o u e => by rw [upd_ne (ne_of_none e nD2)]; exact u4.frzs b o u e, fun b ps e => by rw [upd_ne (ne_of_none e nD2)]; exact u4.tbls b ps e⟩
      have hok5 : HOk X.prog X.w (upd H' s2.heap.objs.size (.lst ys)) s4.heap := fun a o e => by
        by_cases ea : a = s2.heap.objs.size
        · subst ea
          rw [upd_same] at e
          cases e
          exact ⟨hz, its, c, hv, e4⟩
        · rw [upd_ne ea] at e
          exact (I4.hok a o e).stay (fun _ _ _ q => q) (fun b q => by rw [upd_ne (ne_of_none q nD)]; exact q) fun b xs q => by rw [upd_ne (ne_of_none q nD)]; exact q
      have I5 : Inv X pins σ (upd H' s2.heap.objs.size (.lst ys)) s4 := I2.call' I4.os u5 hok5 I4.bare fun b hb => ⟨(f2 b hb).2.2.2.1, (f2 b hb).2.1, (f2 b hb).2.2.2.2.1, (f2 b hb).2.2.2.2.2⟩
      refine fin _ _ ys H' s4 I5 ⟨m4, ns4⟩ (I2.fpOk hCl ?_) (q _ nD)
      rw [upd_ne (Ne.symm hDC)]
      exact nC4
    · refine thn (T.item (blk X N' sc G.objs.size fp pins s2 H2) rfl rfl rfl hc i _ s' σ' H' NoX I'' (stat fr') st' go) fun r s4 ⟨u, hr, h4⟩ => ?_
      subst hr
      refine thn h4 fun _ s5 ⟨x, H5, I5, r5, y5, st5, fr5⟩ => ?_
      have I5' := I5.pinned (stat fr5) (T.obj _ _ st5)
      refine thn (hg _ _ _ _ _ _ s5 σ' H5 x u _ I5' r5 (step x H5 y5)) fun _ s6 ⟨σ6, H6, I6, q6⟩ => ?_
      refine thn (ht _ _ _ _ _ _ s6 σ6 H6 _ I6 q6) fun b s7 ⟨H7, I7, q7⟩ => ?_
      have back : ∀ {s8 : Shared} {H8 : Hp} (m' : Nat), Inv (blk X N' sc G.objs.size fp pins s2 H2) ([(s2.heap.objs.size, { cls := .type "list", data := .seq its.toArray c })] ++ pinsAt fp s5.heap) σ6 H8 s8 →
          tn (i + 1) s8.heap ∧ (∀ b ∈ fp, H8 b = none) ∧ s8.heap.get? s2.heap.objs.size = some { cls := .type "list", data := .seq its.toArray c } ∧ H8 s2.heap.objs.size = none := fun {s8 H8} m' I8 => by
        have pn : ∀ p ∈ [(s2.heap.objs.size, ({ cls := .type "list", data := .seq its.toArray c } : Obj))] ++ pinsAt fp s5.heap, s8.heap.get? p.1 = some p.2 ∧ H8 p.1 = none := fun p hp =>
          let ⟨a, b, _⟩ := I8.pin p (List.mem_append_right _ hp); ⟨a, b⟩
        refine ⟨T.keep _ _ _ st5 fun b hb o e => (pn (b, o) (List.mem_append_right _ (mem_pinsAt hb e))).1, fun b hb => ?_, pn _ (List.mem_append_left _ (List.mem_singleton.mpr rfl))⟩
        obtain ⟨o, e, _⟩ := T.obj _ _ st5 b hb
        exact (pn (b, o) (List.mem_append_right _ (mem_pinsAt hb e))).2
      have bare : ∀ {s8 : Shared} {H8 : Hp} {pl : List (Addr × Obj)}, Inv (blk X N' sc G.objs.size fp pins s2 H2) pl σ6 H8 s8 → Inv (blk X N' sc G.objs.size fp pins s2 H2) [] σ6 H8 s8 := fun I8 => I8.pins_of fun p hp => nomatch hp
      cases b with
      | false =>
        rw [if_neg Bool.false_ne_true] at q7 ⊢
        obtain ⟨m', lt, w7⟩ := hN2 _ _ _ q7
        obtain ⟨b1, b2, b3, b4⟩ := back m' I7
        exact ⟨m', lt, i + 1, ys, its, c, σ6, H7, bare I7, b1, b2, b3, hv, b4, w7⟩
      | true =>
        rw [if_pos rfl] at q7 ⊢
        refine thn (he _ _ _ _ _ _ s7 σ6 H7 _ I7 q7) fun y s8 ⟨yv, H8, I8, r8, q8⟩ => ?_
        obtain ⟨m', lt, w8⟩ := hN2 _ _ _ q8
        obtain ⟨b1, b2, b3, b4⟩ := back m' I8
        have hlen := hv.length
        refine append_at (hsz := by rw [List.size_toArray, ← hlen]; exact hz) b3 fun h9 sb9 e9 => ?_
        have I9 : Inv (blk X N' sc G.objs.size fp pins s2 H2) [] σ6 H8 { s8 with heap := h9 } := (bare I8).turned (t' := s8.toks) (it := s2.heap.objs.size) (fun b o hb e => sb9.extBut b o hb e) b4 hDC (.inr (Nat.le_refl _))
          (fun x c e z => by
            obtain ⟨v, hv⟩ := I2.cell x c (clOf_look hfr e)
            exact absurd hv.lt (by rw [z]; exact Nat.lt_irrefl _))
          fun p hp z => by
            have hp' : p ∈ X.pn ++ pins := by
              have : p ∈ (X.pn ++ pins) ++ ([] : List (Addr × Obj)) := hp
              rw [List.append_nil] at this
              exact this
            exact absurd (Heap.lt_size (I2.pin p hp').1) (by rw [z]; exact Nat.lt_irrefl _)
        refine ⟨m', lt, i + 1, ys ++ [yv], its ++ [y], c + 1, σ6, H8, I9, T.keep _ _ _ b1 fun b hb o e => sb9.extBut b o (Nat.ne_of_lt (hl b hb)) e, b2, ?_, hv.append (.cons r8 .nil), b4, w8⟩
        rw [e9]
        simp
  exact codeAny_compStart_list (loop _ rfl) (T.self _ 0 _ _ _ (T.keep _ _ _ st2 fun b _ o e => old b o e) (loop _ rfl))

/-- a comprehension as a value -/
theorem pe_lc (hc : X.calm = true) (hi : PI X tg iter wi) (h0 : X.env.scope = sc0) (hN : X.N = XN) (ok : lcOk sc0 sc XN N' n kp = true)
    (hg : ∀ C fp pins s H, PG (blk X N' sc C fp pins s H) tg g) (ht : ∀ C fp pins s H, PTs (blk X N' sc C fp pins s H) cs tc) (he : ∀ C fp pins s H, PE (blk X N' sc C fp pins s H) elt te)
    (hs : ∀ x, foldedSetIterable iter X.env x = pure x := by intro _; rfl) : PE X (.ListComp elt [⟨tg, iter, cs, 0⟩] sc pos) (tLc n kp wi g tc te) := by
  intro pins s σ H Q I h
  rw [eval_ListComp]
  refine lc_run hc hi h0 hN ok hg ht he hs I h fun D C ys H' s' I' ns fp q => ?_
  obtain ⟨m, hm⟩ := ns
  refine ⟨m, hm, fun h' sb => ⟨.ref D, _, ?_, rfl, q⟩⟩
  obtain ⟨f1, f2, f3, f4, f5, f6⟩ := fp
  exact I'.turned (t' := s'.toks) (it := C) (fun b o hb e => sb.extBut b o hb e) f1 f2 f4 f5 f6
end
end L2

set_option maxRecDepth 100000
set_option maxHeartbeats 4000000
namespace L2
open PySem PySem.Spec PyProof.Rows
section
variable {X : Cx} {tg iter elt : Expr} {cs : List Expr} {sc sc0 : Scope} {pos : Pos} {wi : TI} {g : TG} {tc : TT} {te : TE} {XN N' : List Str} {n : Nat} {kp : List Nat}
/-- name = [ .. for .. ], where the store is exchanged with the letting go of the block's names -/
theorem ps_setLc {i : Nat} {y : Str} {py spos : Pos} (hNd : X.N.Nodup) (hiy : X.N[i]? = some y) (hy : X.env.scope.names.lookup y = some .local) (hsw : swapsWith (.ListComp elt [⟨tg, iter, cs, 0⟩] sc pos) (some (.Name y py)) spos.line X.env = pure true)
    (hc : X.calm = true) (hi : PI X tg iter wi) (h0 : X.env.scope = sc0) (hN : X.N = XN) (ok : lcOk sc0 sc XN N' n kp = true)
    (hg : ∀ C fp pins s H, PG (blk X N' sc C fp pins s H) tg g) (ht : ∀ C fp pins s H, PTs (blk X N' sc C fp pins s H) cs tc) (he : ∀ C fp pins s H, PE (blk X N' sc C fp pins s H) elt te)
    (hs : ∀ x, foldedSetIterable iter X.env x = pure x := by intro _; rfl) : PS X (.Assign [.Name y py] (.ListComp elt [⟨tg, iter, cs, 0⟩] sc pos) spos) (tAsg (tLc n kp wi g tc te) (gName i)) := by
  intro pins s σ H D I h
  rw [exec_Assign_Name_used _ _ _ _ hsw]
  refine wpAny_bind (wpAny_standAt (wpAny_bind ?_))
  have fin : wpAny (model X.prog X.w) X.A (comprehension (.ListComp elt [⟨tg, iter, cs, 0⟩] sc pos) sc X.env (firstIterPos [⟨tg, iter, cs, 0⟩] pos) (newList []) false (firstIter [⟨tg, iter, cs, 0⟩] X.env) (some (assign (.Name y py) X.env)))
      (fun _ s' => SP X pins D .next s') X.xe s := by
    refine lc_run (Q := fun x H1 => gName i x σ H1 D.nx) hc hi h0 hN ok hg ht he hs I h fun D' C ys H' s' I' ns fp q => ?_
    obtain ⟨m, hm⟩ := ns
    obtain ⟨f1, f2, f3, f4, f5, f6⟩ := fp
    obtain ⟨o, es, ep, ho, rest⟩ := id hm
    have nc : ∀ v, o.data ≠ .cell v := fun v z => by
      rw [rest.1] at z
      cases z
    have I'' : Inv X (pins ++ [(C, o)]) σ (upd H' D' (.lst ys)) s' := I'.pins_of fun p hp => by
      rcases List.mem_append.mp hp with z | z
      · exact I'.pin p (List.mem_append_right _ z)
      · rw [List.mem_singleton.mp z]
        exact ⟨ho, f1, f2, f3, nc⟩
    show wpAny (model X.prog X.w) X.A (assign (.Name y py) X.env (.ref D')) _ X.xe s'
    refine thn (pg_name hNd hiy (.inl hy) (.inr hy) _ s' σ _ (.ref D') (.ref D') D.nx I'' rfl q) fun _ s'' ⟨σ3, H3, I3, q3⟩ => ?_
    obtain ⟨p1, p2, _⟩ := I3.pin (C, o) (List.mem_append_right _ (List.mem_append_right _ (List.mem_singleton.mpr rfl)))
    refine ⟨m, ⟨o, es, ep, p1, rest⟩, fun h' sb => ⟨σ3, H3, ?_, q3⟩⟩
    exact I3.unpinned.turned (t' := s''.toks) (it := C) (fun b o hb e => sb.extBut b o hb e) p2 f2 f4 f5 f6
  show wpAny (model X.prog X.w) X.A (comprehension _ _ _ _ _ _ _ _ >>= _) _ _ s
  exact wpAny_bind (thn fin fun _ s' q => wpAny_pure (wpAny_pure q))
end

/-! ### B. Built-ins that the layer lacks -/
section
variable {X : Cx}
def kitTy (T C : String) : Option Bool := if T = C then some true else if PySem.W.kitMeta C = true then (fastBuiltinMro T).map (·.contains (.type C)) else none
theorem kit_ty {K : PySem.W.Frag} {T C : String} {b : Bool} (h : kitTy T C = some b) : PySem.W.kitOne K (.type T) (.type C) = some b := by
  unfold kitTy at h
  unfold PySem.W.kitOne
  by_cases e : T = C
  · subst e
    rw [if_pos rfl] at h
    rw [if_pos (beq_self_eq_true _)]
    exact h
  · rw [if_neg e] at h
    have z : ¬ (Value.type T == Value.type C) = true := fun q => by
      have q' := eq_of_beq q
      injection q' with q''
      exact e q''
    rw [if_neg z]
    exact h
/-- isinstance(x, T), T a built-in type -/
theorem call_isi : CallR X (.builtin "isinstance") (fun xs H Q => ∃ (x : V) (T C : String) (b : Bool), xs = [x, .ty C] ∧ TyOf X.K H x (.type T) ∧ kitTy T C = some b ∧ Q (.bl b) H) := by
  intro pins s σ H xs us Q I r h
  obtain ⟨x, T, C, b, rfl, ty, e, q⟩ := h
  obtain ⟨u, w', rfl, rx, ry⟩ := vals2 r
  cases (show w' = Value.type C from ry)
  exact isinst_ok I rx ty (kit_ty e) fun tk => ⟨.bl b, H, I.tok tk, rfl, q⟩
theorem isi_int_int : kitTy "int" "int" = some true := by decide +kernel
theorem isi_int_bool : kitTy "int" "bool" = some false := by decide +kernel
theorem isi_list_list : kitTy "list" "list" = some true := by decide +kernel
theorem isi_tuple_tuple : kitTy "tuple" "tuple" = some true := by decide +kernel
theorem all_range (bs : List Bool) : ((List.range bs.length).all fun i => (bs[i]?).getD true) = bs.all id := by
  rw [Bool.eq_iff_iff, List.all_eq_true, List.all_eq_true]
  refine ⟨fun h b hb => ?_, fun h i hi => ?_⟩
  · obtain ⟨i, hi, rfl⟩ := List.getElem_of_mem hb
    have := h i (List.mem_range.mpr hi)
    rw [List.getElem?_eq_getElem hi] at this
    exact this
  · have hi' := List.mem_range.mp hi
    show (bs[i]?).getD true = true
    rw [List.getElem?_eq_getElem hi']
    exact h _ (List.getElem_mem hi')
/-- all of a list of truths -/
theorem call_all_bl (hc : X.calm = true) : CallR X (.builtin "all") (fun xs H Q => ∃ (p : Addr) (bs : List Bool), xs = [.ref p] ∧ SqL X.K H p (bs.map V.bl) ∧ Q (.bl (bs.all id)) H) := by
  intro pins s σ H xs us Q I r h
  obtain ⟨p, bs, rfl, hq, q⟩ := h
  obtain ⟨u, rfl, rx⟩ := vals1 r
  cases rx
  obtain ⟨its, rv, pl, hz⟩ := I.list hq
  have hl := pl.isList
  have hlt : p < s.heap.objs.size := by obtain ⟨_, e, _⟩ := hl; exact Heap.lt_size e
  refine call_all_walk (wpAny_pyIter_list hl ?_)
  refine ⟨s.heap.objs.size, [s.heap.objs.size, p], [s.heap.objs.size], its.toArray.size, _, _, fun i => (bs[i]?).getD true, rfl, Walks.list (A := X.A.in1) (I.ok.hd hc) _ p (Nat.ne_of_lt hlt) its.toArray,
    ⟨⟨_, Heap.get?_push_size _ rfl, rfl, rfl⟩, hl.push _⟩, fun i v s' Q' E' hP hQ => ?_, fun h' tk hk => ?_⟩
  · have e : its[i]? = some v := by simpa using hP
    have hlen := rv.length
    rw [List.length_map] at hlen
    have hi : i < bs.length := by
      have := (List.getElem?_eq_some_iff.mp e).1
      omega
    obtain ⟨u, hu, ru⟩ := rv.get (i := i) (x := .bl bs[i]) (by rw [List.getElem?_map, List.getElem?_eq_getElem hi]; rfl)
    rw [e] at hu
    cases hu
    cases (show v = Value.bool bs[i] from ru)
    dsimp only at hQ
    rw [List.getElem?_eq_getElem hi] at hQ
    exact wpAny_truthy_bool hQ
  · have hlen := rv.length
    rw [List.length_map] at hlen
    have e : ((List.range its.toArray.size).all fun i => (bs[i]?).getD true) = bs.all id := by
      rw [List.size_toArray, ← hlen]
      exact all_range bs
    rw [e]
    refine ⟨.bl _, H, I.kept (t' := tk) fun b o eb => hk b o (fun hm => ?_) (Heap.get?_push_of_some _ eb), rfl, q⟩
    rw [List.mem_singleton.mp hm] at eb
    exact Nat.lt_irrefl _ (Heap.lt_size eb)
end
end L2

set_option maxRecDepth 100000
set_option maxHeartbeats 4000000
namespace L2
open PySem PySem.Spec PyProof.Rows

/-! ### C. enumerate of a list or a tuple -/
section
variable {prog : Program} {w : World} {A : Around} {E : Value → Shared → Prop} {s : Shared}
theorem nextT_item {j q : Addr} {i : Nat} {its : Array Value} {x : Value} {Q : Value → Shared → Prop} (hj : s.heap.IsTupleIter j q i) (hq : s.heap.IsTuple q its) (hx : its[i]? = some x)
    (k : ∀ g, g.IsTupleIter j q (i + 1) → Heap.SameBut j s.heap g → Q x { s with heap := g }) : wpAny (model prog w) A (Builtin.SmallTypes.nextOf (.ref j)) Q E s := by
  obtain ⟨o, ho, oc, od⟩ := id hj
  obtain ⟨p, hp, _, m, pd⟩ := hq
  unfold Builtin.SmallTypes.nextOf
  refine wpAny_bind (wpAny_callSpecial?_slot (name := Str.ofString "__next__") hj.typeIs F.slot_tuple_iterator_next (wpAny_call_entry F.slot_tuple_iterator_next hj.typeIs F.entry_tuple_iterator_next ?_ (F.args_tuple_iterator_next_1 _)))
  show wpAny _ _ (field (.ref j) 0 >>= _) _ _ s
  refine wpAny_bind (wpAny_field ho od (x := .ref q) rfl ?_)
  show wpAny _ _ (if (Value.ref q == Value.none) = true then _ else _) _ _ s
  rw [if_neg (show ¬ ((Value.ref q == Value.none) = true) from Bool.false_ne_true)]
  show wpAny _ _ (field (.ref j) 1 >>= _) _ _ s
  refine wpAny_bind (wpAny_field ho od (x := .int i 0) rfl ?_)
  show wpAny _ _ (seqItems? (.ref q) >>= _) _ _ s
  refine wpAny_bind (wpAny_seqItems hp pd ?_)
  simp only [hx, Int.toNat_natCast]
  refine wpAny_bind (wpAny_setField ho od (by simp) (wpAny_pure ⟨x, rfl, wpAny_pure (k _ ⟨_, Heap.get?_update_self _ ho (Obj.isFreed_of_fields (Obj.data_mapFields od _)), (Obj.cls_mapFields ..).trans oc, ?_⟩ (Heap.SameBut.update ..))⟩))
  rw [Obj.data_mapFields od]
  simp [rawInt]
theorem nextT_end {j q : Addr} {i : Nat} {its : Array Value} {Q : Value → Shared → Prop} (hh : A.handled = none) (hj : s.heap.IsTupleIter j q i) (hq : s.heap.IsTuple q its) (hx : its[i]? = none)
    (k : ∀ g e, Heap.ExtBut j s.heap g → (∃ o, g.get? e = some o ∧ o.cls = .type "StopIteration") → E (.ref e) { s with heap := g }) : wpAny (model prog w) A (Builtin.SmallTypes.nextOf (.ref j)) Q E s := by
  obtain ⟨o, ho, oc, od⟩ := id hj
  obtain ⟨p, hp, _, m, pd⟩ := hq
  unfold Builtin.SmallTypes.nextOf
  refine wpAny_bind (wpAny_callSpecial?_slot (name := Str.ofString "__next__") hj.typeIs F.slot_tuple_iterator_next (wpAny_call_entry F.slot_tuple_iterator_next hj.typeIs F.entry_tuple_iterator_next ?_ (F.args_tuple_iterator_next_1 _)))
  show wpAny _ _ (field (.ref j) 0 >>= _) _ _ s
  refine wpAny_bind (wpAny_field ho od (x := .ref q) rfl ?_)
  show wpAny _ _ (if (Value.ref q == Value.none) = true then _ else _) _ _ s
  rw [if_neg (show ¬ ((Value.ref q == Value.none) = true) from Bool.false_ne_true)]
  show wpAny _ _ (field (.ref j) 1 >>= _) _ _ s
  refine wpAny_bind (wpAny_field ho od (x := .int i 0) rfl ?_)
  show wpAny _ _ (seqItems? (.ref q) >>= _) _ _ s
  refine wpAny_bind (wpAny_seqItems hp pd ?_)
  simp only [hx, Int.toNat_natCast]
  refine wpAny_bind (wpAny_rule (wpAny_bind (wpAny_setField ho od (by simp) ?_)))
  show wpAny _ _ (newExc (.type "StopIteration") [] >>= _) _ _ _; refine wpAny_bind ?_; simp only [newExc, newTuple]
  refine wpAny_bind (wpAny_newObj_type ?_ (by size_fits)); refine wpAny_bind (m := firstArgMember _ _) (wpAny_of_eq (a := Value.none) (by first | rfl | (simp only [firstArgMember]; rfl)) ?_)
  refine wpAny_newObj_type ?_ (by size_fits); simp only [raiseNew]; refine wpAny_bind (wpAny_handled ?_); first | rw [show A.in1.handled = none from hh] | rw [hh]
  refine wpAny_bind (wpAny_pure (wpAny_throw ?_)); exact k _ _ (((Heap.SameBut.update ..).extBut.push _).push _) ⟨_, Heap.get?_push_size _ rfl, rfl⟩
open AutoSeq1 (wpAny_loadPart') in
end

section
variable {X : Cx} {pins : List (Addr × Obj)} {σ : St} {H : Hp} {s : Shared}
end
/-! the iterator of enumerate(e) -/
end L2

set_option maxRecDepth 100000
set_option maxHeartbeats 4000000
namespace L2
open PySem PySem.Spec PyProof.Rows
/-! ### D. More built-ins -/
section
variable {X : Cx}
theorem vals_of {P : Nat → Value → Prop} {f : Nat → V} (hP : ∀ i v, P i v → RelV (f i) v) : ∀ (n k : Nat) (l : List Value), l.length = n → (∀ j v, l[j]? = some v → P (k + j) v) → Vals ((List.range' k n).map f) l
  | 0, k, [], _, _ => .nil
  | n + 1, k, v :: r, hl, h => by
    rw [List.range'_succ, List.map_cons]
    refine .cons (hP _ _ (h 0 v rfl)) (vals_of hP n (k + 1) r (by simpa using hl) fun j v' e => ?_)
    have := h (j + 1) v' (by simpa using e)
    rw [show k + 1 + j = k + (j + 1) by omega]
    exact this
  | 0, _, _ :: _, hl, _ => by simp at hl
  | n + 1, _, [], hl, _ => by simp at hl
/-- list(range) -/
theorem call_list_rng (hc : X.calm = true) : CallR X (.type "list") (fun xs H Q => ∃ (p : Addr) (lo hi : Int), xs = [.ref p] ∧ H p = some (.rng lo hi) ∧ -(2 ^ 62) ≤ lo ∧ lo < 2 ^ 62 ∧ -(2 ^ 62) ≤ hi ∧ hi < 2 ^ 62 ∧ (hi - lo).toNat ≤ 1000 ∧ ∀ l, H l = none → Q (.ref l) (upd H l (.lst ((List.range' 0 (hi - lo).toNat).map fun i : Nat => V.int (lo + i))))) := by
  intro pins s σ H xs us Q I r h
  obtain ⟨p, lo, hi, rfl, hp, b1, b2, b3, b4, hz, q⟩ := h
  obtain ⟨u, rfl, rx⟩ := vals1 r
  cases rx
  obtain ⟨t, u, v, e⟩ := (show ObjOk X.prog X.w H s.heap p (.rng lo hi) from I.hok p _ hp)
  have hn : Builtin.Range.rangeSize lo hi 1 = (((hi - lo).toNat : Nat) : Int) := by
    rw [rangeSize_one]
    split <;> omega
  refine call_list_range (I.ok.hd hc) e (small_one b1 b2 b3 b4) hn (Nat.le_trans hz (by decide)) fun g tk acc c kk eg hi' => ?_
  obtain ⟨sz, it⟩ := hi'
  have vv : Vals ((List.range' 0 (hi - lo).toNat).map fun i : Nat => V.int (lo + i)) acc.toList := by
    refine vals_of (P := fun i v => ∃ t, v = .int (lo + i * 1) t) (fun i v hv => ?_) _ 0 acc.toList (by simpa using sz) fun j v ej => ?_
    · obtain ⟨t, rfl⟩ := hv
      exact ⟨t, by rw [Int.mul_one]⟩
    · have := it j v (by simpa using ej)
      rw [Nat.zero_add]
      exact this
  refine ⟨.ref s.heap.objs.size, _, I.laid (t' := tk) kk (Nat.le_refl _) (show ObjOk X.prog X.w _ _ _ (.lst _) from ⟨?_, acc.toList, c, vv, eg⟩), rfl, q _ (I.hok.fresh (Nat.le_refl _))⟩
  rw [List.length_map, List.length_range']
  exact Nat.le_of_lt (small1000 hz)
open AutoSeq1 (wpAny_loadPart') in
/-- the sum of a list of ints -/
theorem call_sum_ints (hc : X.calm = true) : CallR X (.builtin "sum") (fun xs H Q => ∃ (p : Addr) (ns : List Int), xs = [.ref p] ∧ SqL X.K H p (ns.map V.int) ∧ Q (.int ns.sum) H) := by
  intro pins s σ H xs us Q I r h
  obtain ⟨p, ns, rfl, hq, q⟩ := h
  obtain ⟨u, rfl, rx⟩ := vals1 r
  cases rx
  obtain ⟨its, rv, pl, hz'⟩ := I.list hq
  have ia := intsAre_of rv
  obtain ⟨ps, hx⟩ := ia.allInts.items
  have hl' : s.heap.IsList p (intItems ps) := hx ▸ pl.isList
  refine sum_intListG (I.ok.hd hc) hl' fun g tk t' hk => ?_
  have e1 : ns = ps.toList.map (·.1) := by
    rw [← nums_intItems, ← hx]
    exact (show numsOf its.toArray.toList = ns from ia.numsOf).symm
  have e2 : preSum (numAt ps) ps.size = ns.sum := by
    rw [preSum_eq, List.take_of_length_le (by simp), e1]
  rw [e2]
  exact ⟨.int _, H, I.kept (t' := tk) hk, ⟨t', rfl⟩, q⟩
end

/-! the layer's rules with the text's heap named (for blocks) -/
section
variable {X : Cx} {K : PySem.W.Frag}
theorem ixT (h : X.K = K := by rfl) : IxR X (rIxT K) := h ▸ ix_tup
theorem ixL (h : X.K = K := by rfl) : IxR X (rIxL K) := h ▸ ix_list
theorem lenS (h : X.K = K := by rfl) : CallR X (.builtin "len") (fun xs H Q => ∃ p ys, xs = [.ref p] ∧ (SqL K H p ys ∨ SqT K H p ys) ∧ Q (.int ys.length) H) := h ▸ call_len_seq
theorem isiK (h : X.K = K := by rfl) : CallR X (.builtin "isinstance") (fun xs H Q => ∃ (x : V) (T C : String) (b : Bool), xs = [x, .ty C] ∧ TyOf K H x (.type T) ∧ kitTy T C = some b ∧ Q (.bl b) H) := h ▸ call_isi
end
/-! ### E. Data: what a value stands for -/
mutual
def Dn (H : Hp) : PyData → V → Prop
  | .none, v => v = .non
  | .bool b, v => v = .bl b
  | .int i, v => v = .int i
  | .str x, v => v = .str x
  | .list ds, v => ∃ a xs, v = .ref a ∧ H a = some (.lst xs) ∧ DnL H ds xs
  | .tuple ds, v => ∃ a xs, v = .ref a ∧ H a = some (.tup xs) ∧ DnL H ds xs
  | .dict kvs, v => kvs = [] ∧ ∃ a, v = .ref a ∧ H a = some (.dK [])
def DnL (H : Hp) : List PyData → List V → Prop
  | [], xs => xs = []
  | d :: ds, xs => ∃ x r, xs = x :: r ∧ Dn H d x ∧ DnL H ds r
end
mutual
theorem Dn.same {H H' : Hp} (h : Same H H') : ∀ (d : PyData) (v : V), Dn H d v → Dn H' d v
  | .none, _, q => q
  | .bool _, _, q => q
  | .int _, _, q => q
  | .str _, _, q => q
  | .list ds, _, ⟨a, xs, e, q, r⟩ => ⟨a, xs, e, h _ _ q, DnL.same h ds xs r⟩
  | .tuple ds, _, ⟨a, xs, e, q, r⟩ => ⟨a, xs, e, h _ _ q, DnL.same h ds xs r⟩
  | .dict _, _, ⟨e, a, q, r⟩ => ⟨e, a, q, h _ _ r⟩
theorem DnL.same {H H' : Hp} (h : Same H H') : ∀ (ds : List PyData) (xs : List V), DnL H ds xs → DnL H' ds xs
  | [], _, q => q
  | d :: ds, _, ⟨x, r, e, q, z⟩ => ⟨x, r, e, Dn.same h d x q, DnL.same h ds r z⟩
end
theorem DnL.length {H : Hp} : ∀ {ds : List PyData} {xs : List V}, DnL H ds xs → ds.length = xs.length
  | [], _, q => by cases (show _ = [] from q); rfl
  | d :: ds, _, ⟨x, r, e, _, z⟩ => by rw [e, List.length_cons, List.length_cons, DnL.length z]
theorem DnL.get {H : Hp} : ∀ {ds : List PyData} {xs : List V} {i : Nat} {x : V}, DnL H ds xs → xs[i]? = some x → ∃ d, ds[i]? = some d ∧ Dn H d x
  | [], _, i, x, q, e => by rw [(show _ = [] from q)] at e; simp at e
  | d :: ds, _, 0, x, ⟨y, r, e, q, z⟩, h => by rw [e] at h; cases h; exact ⟨d, rfl, q⟩
  | d :: ds, _, i + 1, x, ⟨y, r, e, q, z⟩, h => by
    rw [e] at h
    obtain ⟨d', h1, h2⟩ := DnL.get (i := i) z (by simpa using h)
    exact ⟨d', by simpa using h1, h2⟩
theorem DnL.get' {H : Hp} : ∀ {ds : List PyData} {xs : List V} {i : Nat} {d : PyData}, DnL H ds xs → ds[i]? = some d → ∃ x, xs[i]? = some x ∧ Dn H d x
  | [], _, i, x, q, e => by simp at e
  | d :: ds, _, 0, x, ⟨y, r, e, q, z⟩, h => by cases h; exact ⟨y, by rw [e]; rfl, q⟩
  | d :: ds, _, i + 1, x, ⟨y, r, e, q, z⟩, h => by
    obtain ⟨d', h1, h2⟩ := DnL.get' (i := i) z (by simpa using h)
    exact ⟨d', by rw [e]; simpa using h1, h2⟩
theorem DnL.append {H : Hp} : ∀ {ds es : List PyData} {xs ys : List V}, DnL H ds xs → DnL H es ys → DnL H (ds ++ es) (xs ++ ys)
  | [], es, xs, ys, q, r => by rw [(show xs = [] from q)]; exact r
  | d :: ds, es, _, ys, ⟨x, t, e, q, z⟩, r => ⟨x, t ++ ys, by rw [e]; rfl, q, DnL.append z r⟩
mutual
theorem Dn.reads {X : Cx} {pins : List (Addr × Obj)} {σ : St} {H : Hp} {s : Shared} (I : Inv X pins σ H s) : ∀ (d : PyData) (v : V) (u : Value), Dn H d v → d.canLay0 = true → RelV v u → ∃ as, Reads s.heap u d as
  | .none, v, u, q, _, r => by cases (show v = .non from q); cases (show u = Value.none from r); exact ⟨_, .none⟩
  | .bool b, v, u, q, _, r => by cases (show v = .bl b from q); cases (show u = Value.bool b from r); exact ⟨_, .bool b⟩
  | .int i, v, u, q, _, r => by cases (show v = .int i from q); obtain ⟨t, rfl⟩ := (show ∃ t, u = Value.int i t from r); exact ⟨_, .int i t⟩
  | .str x, v, u, q, _, r => by cases (show v = .str x from q); obtain ⟨t, rfl⟩ := (show ∃ t, u = Value.str x t from r); exact ⟨_, .str x t⟩
  | .list ds, _, u, ⟨a, xs, rfl, q, z⟩, c, r => by
    cases (show u = Value.ref a from r)
    obtain ⟨_, its, n, rv, e⟩ := (show ObjOk X.prog X.w H s.heap a (.lst xs) from I.hok a _ q)
    obtain ⟨as, ra⟩ := DnL.reads I ds xs its z (by simpa [PyData.canLay0] using c) rv
    exact ⟨_, .list e rfl rfl (by simpa using ra)⟩
  | .tuple ds, _, u, ⟨a, xs, rfl, q, z⟩, c, r => by
    cases (show u = Value.ref a from r)
    obtain ⟨_, its, rv, o, e, hc, n, hd⟩ := (show ObjOk X.prog X.w H s.heap a (.tup xs) from I.hok a _ q)
    obtain ⟨as, ra⟩ := DnL.reads I ds xs its z (by simpa [PyData.canLay0] using c) rv
    exact ⟨_, .tuple e hc hd (by simpa using ra)⟩
  | .dict k, v, u, _, c, _ => by simp [PyData.canLay0] at c
theorem DnL.reads {X : Cx} {pins : List (Addr × Obj)} {σ : St} {H : Hp} {s : Shared} (I : Inv X pins σ H s) : ∀ (ds : List PyData) (xs : List V) (us : List Value), DnL H ds xs → PyData.canLayAll0 ds = true → Vals xs us → ∃ as, ReadsAll s.heap us ds as
  | [], xs, us, q, _, r => by
    cases (show xs = [] from q)
    cases r
    exact ⟨_, .nil⟩
  | d :: ds, _, us, ⟨x, t, rfl, q, z⟩, c, r => by
    cases r with
    | cons rx rt =>
      have c' : PyData.canLay0 d = true ∧ PyData.canLayAll0 ds = true := by simpa [PyData.canLayAll0] using c
      obtain ⟨a1, r1⟩ := Dn.reads I d x _ q c'.1 rx
      obtain ⟨a2, r2⟩ := DnL.reads I ds t _ z c'.2 rt
      exact ⟨_, .cons r1 r2⟩
end
mutual
theorem eqv_refl : ∀ d : PyData, d.canLay0 = true → PyData.eqv d d = true
  | .none, _ => by simp [PyData.eqv]
  | .bool _, _ => by simp [PyData.eqv]
  | .int _, _ => by simp [PyData.eqv]
  | .str _, _ => by simp [PyData.eqv]
  | .list ds, c => by simpa [PyData.eqv] using eqvAll_refl ds (by simpa [PyData.canLay0] using c)
  | .tuple ds, c => by simpa [PyData.eqv] using eqvAll_refl ds (by simpa [PyData.canLay0] using c)
  | .dict _, c => by simp [PyData.canLay0] at c
theorem eqvAll_refl : ∀ ds : List PyData, PyData.canLayAll0 ds = true → PyData.eqvAll ds ds = true
  | [], _ => by simp [PyData.eqvAll]
  | d :: ds, c => by
    have c' : PyData.canLay0 d = true ∧ PyData.canLayAll0 ds = true := by simpa [PyData.canLayAll0] using c
    simp [PyData.eqvAll, eqv_refl d c'.1, eqvAll_refl ds c'.2]
end
end L2

set_option maxRecDepth 100000
set_option maxHeartbeats 4000000
/-! ### F. Woods as data -/
namespace Wd
open PySem L2
def tyN : PyData → String
  | .none => "NoneType" | .bool _ => "bool" | .int _ => "int" | .str _ => "str" | .list _ => "list" | .tuple _ => "tuple" | .dict _ => "dict"
def isW : PyData → Bool
  | .int _ => true
  | _ => false
def isTup : PyData → Bool
  | .tuple _ => true
  | _ => false
def isStr : PyData → Bool
  | .str _ => true
  | _ => false
theorem dn_ty {K : PySem.W.Frag} {H : Hp} : ∀ {d : PyData} {v : V}, Dn H d v → TyOf K H v (.type (tyN d))
  | .none, v, q => by cases (show v = .non from q); exact .non
  | .bool b, v, q => by cases (show v = .bl b from q); exact .bl b
  | .int i, v, q => by cases (show v = .int i from q); exact .int i
  | .str x, v, q => by cases (show v = .str x from q); exact .str x
  | .list ds, _, ⟨a, xs, rfl, q, _⟩ => .lst q
  | .tuple ds, _, ⟨a, xs, rfl, q, _⟩ => .tup q
  | .dict k, _, ⟨_, a, rfl, q⟩ => .dK q
theorem ty_tup : ∀ d : PyData, kitTy (tyN d) "tuple" = some (isTup d)
  | .none => (by decide +kernel : kitTy "NoneType" "tuple" = some false)
  | .bool _ => (by decide +kernel : kitTy "bool" "tuple" = some false)
  | .int _ => (by decide +kernel : kitTy "int" "tuple" = some false)
  | .str _ => (by decide +kernel : kitTy "str" "tuple" = some false)
  | .list _ => (by decide +kernel : kitTy "list" "tuple" = some false)
  | .tuple _ => (by decide +kernel : kitTy "tuple" "tuple" = some true)
  | .dict _ => (by decide +kernel : kitTy "dict" "tuple" = some false)
theorem ty_str : ∀ d : PyData, kitTy (tyN d) "str" = some (isStr d)
  | .none => (by decide +kernel : kitTy "NoneType" "str" = some false)
  | .bool _ => (by decide +kernel : kitTy "bool" "str" = some false)
  | .int _ => (by decide +kernel : kitTy "int" "str" = some false)
  | .str _ => (by decide +kernel : kitTy "str" "str" = some true)
  | .list _ => (by decide +kernel : kitTy "list" "str" = some false)
  | .tuple _ => (by decide +kernel : kitTy "tuple" "str" = some false)
  | .dict _ => (by decide +kernel : kitTy "dict" "str" = some false)
/-! the program's looks at data, as functions -/
def within (d : PyData) (lo hi : Int) : Bool := match d with
  | .int i => decide (lo ≤ i) && decide (i ≤ hi)
  | _ => false
def tupFull (d : PyData) : Bool := match d with
  | .tuple ds => decide (0 < ds.length)
  | _ => false
def rising (many : Int) : List PyData → Int → Bool
  | [], _ => true
  | .int i :: ds, last => decide (last + 1 ≤ i) && decide (i ≤ many - 1) && rising many ds i
  | _ :: _, _ => false
def risK (many : Int) : PyData → PyData → Bool
  | .int up, .tuple ks => rising many ks up
  | _, _ => false
def highK (h : PyData) : PyData → Bool
  | .tuple ks => within h 1 ks.length
  | _ => false
def lowH (l : PyData) : PyData → Bool
  | .int hi => within l 0 hi
  | _ => false
def isBough (many : Int) (d : PyData) : Bool := match d with
  | .tuple [u, l, h, k] => within u 0 (many - 1) && (tupFull k && (risK many u k && (highK h k && lowH l h)))
  | _ => false
def fstD : PyData → PyData
  | .tuple (x :: _) => x
  | _ => .none
def pairOk : PyData → Bool
  | .tuple [_, n] => isW n
  | _ => false
def arePairs (many : Int) (d : PyData) : Bool := match d with
  | .tuple ds => decide (0 < ds.length) && ds.all pairOk && rising many (ds.map fstD) (-1)
  | _ => false
def neI : PyData → PyData → Bool
  | .int i, .int j => !decide (i = j)
  | _, _ => false
def tieK (many : Int) (s : Str) (x y : PyData) : Bool := if s = ("most" : Str) then isW x && arePairs many y else if s = ("needs" : Str) ∨ s = ("bans" : Str) then within x 0 (many - 1) && (within y 0 (many - 1) && neI x y) else false
def tieD (many : Int) (x y : PyData) : PyData → Bool
  | .str s => tieK many s x y
  | _ => false
def isTie (many : Int) (d : PyData) : Bool := match d with
  | .tuple [k, x, y] => tieD many x y k
  | _ => false
def toI : PyData → Int
  | .int i => i
  | _ => 0
def kidsOf : PyData → List Int
  | .tuple [_, _, _, .tuple ks] => ks.map toI
  | _ => []
/-- the boughs are those of a wood -/
structure GoodB (many : Int) (bs : List PyData) : Prop where
  each : ∀ b ∈ bs, isBough many b = true
  kids : (bs.flatMap kidsOf).Perm ((List.range' 0 (many - 1).toNat).map fun i : Nat => (1 : Int) + i)
theorem same_new {H : Hp} {p : Addr} (h : H p = none) (o : HO) : Same H (upd H p o) := same_of fun b u q => by rw [upd_ne (ne_of_none q h)]; exact q
theorem small {n : Nat} (h : n ≤ 1000) : n ≤ sizeLine := Nat.le_of_lt (small1000 h)
theorem dn_int {H : Hp} {i : Int} {v : V} (h : Dn H (.int i) v) : v = .int i := h
theorem dn_tup {H : Hp} {ds : List PyData} {v : V} (h : Dn H (.tuple ds) v) : ∃ a xs, v = .ref a ∧ H a = some (.tup xs) ∧ DnL H ds xs := h
theorem isW_int {d : PyData} (h : isW d = true) : ∃ i, d = .int i := by
  cases d <;> first | exact ⟨_, rfl⟩ | cases h
theorem sqT {K : PySem.W.Frag} {H : Hp} {a : Addr} {xs : List V} (h : H a = some (.tup xs)) : SqT K H a xs := .inl (.inl h)
theorem at0 {x : V} {r : List V} : atI (x :: r) 0 = some x := atI_nat (j := 0) rfl
theorem at1 {x y : V} {r : List V} : atI (x :: y :: r) 1 = some y := atI_nat (j := 1) rfl
theorem at2 {x y z : V} {r : List V} : atI (x :: y :: z :: r) 2 = some z := atI_nat (j := 2) rfl
theorem at3 {x y z w : V} {r : List V} : atI (x :: y :: z :: w :: r) 3 = some w := atI_nat (j := 3) rfl
theorem within_int {d : PyData} {lo hi : Int} (h : within d lo hi = true) : ∃ i, d = .int i ∧ lo ≤ i ∧ i ≤ hi := by
  cases d with
  | int i =>
    have z : (decide (lo ≤ i) && decide (i ≤ hi)) = true := h
    simp only [Bool.and_eq_true, decide_eq_true_eq] at z
    exact ⟨i, rfl, z.1, z.2⟩
  | _ => cases h
theorem tupFull_tup {d : PyData} (h : tupFull d = true) : ∃ ds, d = .tuple ds ∧ 0 < ds.length := by
  cases d with
  | tuple ds => exact ⟨ds, rfl, of_decide_eq_true h⟩
  | _ => cases h
theorem dnl_ints {H : Hp} : ∀ {ns : List Int} {xs : List V}, DnL H (ns.map PyData.int) xs → xs = ns.map V.int
  | [], xs, h => h
  | n :: r, _, ⟨x, t, rfl, hx, ht⟩ => by rw [dnl_ints ht, dn_int hx]; rfl
theorem ints_dnl {H : Hp} : ∀ (ns : List Int), DnL H (ns.map PyData.int) (ns.map V.int)
  | [] => rfl
  | n :: r => ⟨_, _, rfl, rfl, ints_dnl r⟩
end Wd

set_option maxRecDepth 100000
set_option maxHeartbeats 4000000
namespace Ow
open PySem L2 Wd
-- woods
/-! ### the program's looks -/
-- woods2
-- woods3a
/-- a wood in the heap -/
structure WoodAt (H : Hp) (wd : Addr) (many : Int) (xs ys : List V) : Prop where
  ex : ∃ tb tc, H wd = some (.tup [.int many, .ref tb, .ref tc]) ∧ H tb = some (.tup xs) ∧ H tc = some (.tup ys)
def spMany : Sp := fun vs H Q _ => ∃ (wd : Addr) (many : Int) (xs ys : List V), vs = [.ref wd] ∧ WoodAt H wd many xs ys ∧ Q (.int ((xs.length : Int) + (ys.length : Int))) H
def spTieAt : Sp := fun vs H Q _ => ∃ (wd : Addr) (many : Int) (xs ys : List V) (t : Nat) (v : V), vs = [.ref wd, .int t] ∧ WoodAt H wd many xs ys ∧ (xs ++ ys)[t]? = some v ∧ Q v H
theorem flatMap_take {α β : Type} {f : α → List β} {ds : List α} {i : Nat} {d : α} (h : ds[i]? = some d) : (ds.take (i + 1)).flatMap f = (ds.take i).flatMap f ++ f d := by
  obtain ⟨hi, e⟩ := List.getElem?_eq_some_iff.mp h
  rw [List.take_succ_eq_append_getElem hi, List.flatMap_append, e]
  simp
-- woods3t
-- laws
/-! ### the statement's own helpers -/
/-- data of tuples, texts and ints alone, so deep at most -/
def flatD : Nat → PyData → Bool
  | _, .int _ => true
  | _, .str s => PyData.strOk s
  | n + 1, .tuple ds => decide (ds.length ≤ 1000) && ds.all (flatD n)
  | _, _ => false
/-! a tie made -/
theorem mod_near {many one x : Int} (h1 : 1 < many) (h9 : many ≤ 9) (o0 : 0 ≤ one) (o1 : one < many) (x0 : 0 ≤ x) (x1 : x < many - 1) : 0 ≤ (one + 1 + x) % many ∧ (one + 1 + x) % many < many ∧ one ≠ (one + 1 + x) % many := by
  have e : many = 2 ∨ many = 3 ∨ many = 4 ∨ many = 5 ∨ many = 6 ∨ many = 7 ∨ many = 8 ∨ many = 9 := by omega
  rcases e with rfl | rfl | rfl | rfl | rfl | rfl | rfl | rfl <;> omega
theorem strOk_most : PyData.strOk ("most" : Str) = true := by decide +kernel
theorem strOk_needs : PyData.strOk ("needs" : Str) = true := by decide +kernel
theorem strOk_bans : PyData.strOk ("bans" : Str) = true := by decide +kernel
theorem pow_le {m : Nat} (h : m ≤ 9) : 2 ^ m ≤ 512 := Nat.pow_le_pow_right (by decide) h
/-- the pairs of a most tie so far: options below i, rising -/
structure PairsTo (H : Hp) (i : Nat) (ps : List PyData) (xs : List V) : Prop where
  dn : DnL H ps xs
  ok : ps.all pairOk = true
  flat : ps.all (flatD 1) = true
  ris : rising (i : Int) (ps.map fstD) (-1) = true
  few : ps.length ≤ i
theorem rising_mono {m m' : Int} (h : m ≤ m') : ∀ {ks : List PyData} {u : Int}, rising m ks u = true → rising m' ks u = true
  | [], _, _ => rfl
  | .int i :: ks, u, z => by
    have z' : (decide (u + 1 ≤ i) && decide (i ≤ m - 1) && rising m ks i) = true := z
    show (decide (u + 1 ≤ i) && decide (i ≤ m' - 1) && rising m' ks i) = true
    simp only [Bool.and_eq_true, decide_eq_true_eq] at z' ⊢
    exact ⟨⟨z'.1.1, by omega⟩, rising_mono h z'.2⟩
  | .none :: _, _, z => by cases z
  | .bool _ :: _, _, z => by cases z
  | .str _ :: _, _, z => by cases z
  | .list _ :: _, _, z => by cases z
  | .tuple _ :: _, _, z => by cases z
  | .dict _ :: _, _, z => by cases z
theorem rising_snoc {m j : Int} (h : j < m) : ∀ {ks : List PyData} {u : Int}, rising j ks u = true → u < j → rising m (ks ++ [.int j]) u = true
  | [], u, _, hu => by
    show (decide (u + 1 ≤ j) && decide (j ≤ m - 1) && true) = true
    rw [decide_eq_true (by omega), decide_eq_true (by omega)]
    rfl
  | .int i :: ks, u, z, hu => by
    have z' : (decide (u + 1 ≤ i) && decide (i ≤ j - 1) && rising j ks i) = true := z
    show (decide (u + 1 ≤ i) && decide (i ≤ m - 1) && rising m (ks ++ [.int j]) i) = true
    simp only [Bool.and_eq_true, decide_eq_true_eq] at z' ⊢
    exact ⟨⟨z'.1.1, by omega⟩, rising_snoc h z'.2 (by omega)⟩
  | .none :: _, _, z, _ => by cases z
  | .bool _ :: _, _, z, _ => by cases z
  | .str _ :: _, _, z, _ => by cases z
  | .list _ :: _, _, z, _ => by cases z
  | .tuple _ :: _, _, z, _ => by cases z
  | .dict _ :: _, _, z, _ => by cases z
theorem DnL.keepT {H H' : Hp} {f : PyData → Bool} (k : ∀ d v, f d = true → Dn H d v → Dn H' d v) : ∀ (ds : List PyData) (xs : List V), ds.all f = true → DnL H ds xs → DnL H' ds xs
  | [], _, _, q => q
  | d :: ds, _, c, ⟨x, r, e, q, z⟩ => by
    rw [List.all_cons, Bool.and_eq_true] at c
    exact ⟨x, r, e, k d x c.1 q, DnL.keepT k ds r c.2 z⟩
theorem Dn.keepT {H H' : Hp} (h : ∀ b xs, H b = some (.tup xs) → H' b = some (.tup xs)) : ∀ (n : Nat) (d : PyData) (v : V), flatD n d = true → Dn H d v → Dn H' d v
  | _, .int _, _, _, q => q
  | _, .str _, _, _, q => q
  | n + 1, .tuple ds, _, c, ⟨p, xs, e, q, z⟩ => ⟨p, xs, e, h _ _ q, DnL.keepT (Dn.keepT h n) ds xs ((Bool.and_eq_true _ _).mp c).2 z⟩
  | 0, .tuple ds, _, c, _ => by cases c
  | 0, .none, _, c, _ => by cases c
  | n + 1, .none, _, c, _ => by cases c
  | 0, .bool _, _, c, _ => by cases c
  | n + 1, .bool _, _, c, _ => by cases c
  | 0, .list _, _, c, _ => by cases c
  | n + 1, .list _, _, c, _ => by cases c
  | 0, .dict _, _, c, _ => by cases c
  | n + 1, .dict _, _, c, _ => by cases c
theorem keep_lst {H : Hp} {p : Addr} {xs ys : List V} (h : H p = some (.lst xs)) : ∀ b zs, H b = some (.tup zs) → upd H p (.lst ys) b = some (.tup zs) := fun b zs q => by
  rw [upd_ne (ne_of q h (by intro z; cases z))]
  exact q
-- boughs
/-! ### the boughs made -/
structure Grp where
  t : Addr
  up : Int
  l : Addr
  kids : List Int
/-- the groups stand at g; H0 is the heap at the entry -/
structure GAt (H0 H : Hp) (g : Addr) (gs : List Grp) : Prop where
  at_ : H g = some (.lst (gs.map fun x => V.ref x.t))
  new : H0 g = none
  tup : ∀ x ∈ gs, H x.t = some (.tup [.int x.up, .ref x.l])
  lst : ∀ x ∈ gs, H x.l = some (.lst (x.kids.map V.int)) ∧ H0 x.l = none ∧ g ≠ x.l
  nd : (gs.map (·.l)).Nodup
/-- what holds of the groups when the options below k are dealt out -/
structure GOk (k : Int) (gs : List Grp) : Prop where
  each : ∀ x ∈ gs, 0 ≤ x.up ∧ x.kids ≠ [] ∧ rising k (x.kids.map PyData.int) x.up = true
  perm : (gs.flatMap (·.kids)).Perm ((List.range' 0 (k - 1).toNat).map fun i : Nat => (1 : Int) + i)
theorem GOk.few {k : Int} {gs : List Grp} (G : GOk k gs) : gs.length ≤ (k - 1).toNat := by
  have e := G.perm.length_eq
  rw [List.length_map, List.length_range'] at e
  rw [← e]
  have go : ∀ l : List Grp, (∀ x ∈ l, x.kids ≠ []) → l.length ≤ (l.flatMap (·.kids)).length := by
    intro l
    induction l with
    | nil => intro _; exact Nat.le_refl _
    | cons x r ih =>
      intro h
      rw [List.flatMap_cons, List.length_append, List.length_cons]
      have h1 := List.length_pos_iff.mpr (h x List.mem_cons_self)
      have h2 := ih fun y hy => h y (List.mem_cons_of_mem _ hy)
      omega
  exact go gs fun x hx => (G.each x hx).2.1
theorem range_snoc (k : Nat) : ((List.range' 0 k).map fun i : Nat => (1 : Int) + i) ++ [((k : Int) + 1)] = (List.range' 0 (k + 1)).map fun i : Nat => (1 : Int) + i := by
  rw [List.range'_concat, List.map_append]
  simp
  omega
theorem GOk.new {k : Nat} {gs : List Grp} {t l : Addr} {u : Int} (G : GOk ((k : Int) + 1) gs) (u0 : 0 ≤ u) (u1 : u < (k : Int) + 1) : GOk ((k : Int) + 2) (gs ++ [⟨t, u, l, [(k : Int) + 1]⟩]) where
  each := fun x hx => by
    rcases List.mem_append.mp hx with z | z
    · obtain ⟨a, b, c⟩ := G.each x z
      exact ⟨a, b, rising_mono (by omega) c⟩
    · rw [List.mem_singleton.mp z]
      refine ⟨u0, by simp, ?_⟩
      show (decide (u + 1 ≤ (k : Int) + 1) && decide ((k : Int) + 1 ≤ (k : Int) + 2 - 1) && true) = true
      rw [decide_eq_true (by omega), decide_eq_true (by omega)]
      rfl
  perm := by
    rw [List.flatMap_append]
    have e : ((k : Int) + 2 - 1).toNat = k + 1 := by omega
    have e' : ((k : Int) + 1 - 1).toNat = k := by omega
    have p := G.perm
    rw [e'] at p
    rw [e, ← range_snoc]
    exact p.append (by simp)
theorem GOk.put {k : Nat} {pre post : List Grp} {x : Grp} (G : GOk ((k : Int) + 1) (pre ++ x :: post)) : GOk ((k : Int) + 2) (pre ++ ⟨x.t, x.up, x.l, x.kids ++ [(k : Int) + 1]⟩ :: post) where
  each := fun y hy => by
    have old : ∀ z ∈ pre ++ x :: post, 0 ≤ z.up ∧ z.kids ≠ [] ∧ rising ((k : Int) + 2) (z.kids.map PyData.int) z.up = true := fun z hz => by
      obtain ⟨a, b, c⟩ := G.each z hz
      exact ⟨a, b, rising_mono (by omega) c⟩
    rcases List.mem_append.mp hy with z | z
    · exact old y (List.mem_append_left _ z)
    · rcases List.mem_cons.mp z with z | z
      · subst z
        obtain ⟨a, b, c⟩ := G.each x (by simp)
        refine ⟨a, by simp, ?_⟩
        show rising ((k : Int) + 2) ((x.kids ++ [(k : Int) + 1]).map PyData.int) x.up = true
        rw [List.map_append]
        refine rising_snoc (by omega) c ?_
        cases hk : x.kids with
        | nil => exact absurd hk b
        | cons n r =>
          rw [hk] at c
          have c' : (decide (x.up + 1 ≤ n) && decide (n ≤ (k : Int) + 1 - 1) && rising ((k : Int) + 1) (r.map PyData.int) n) = true := c
          simp only [Bool.and_eq_true, decide_eq_true_eq] at c'
          omega
      · exact old y (by simp [z])
  perm := by
    have e : ((k : Int) + 2 - 1).toNat = k + 1 := by omega
    have e' : ((k : Int) + 1 - 1).toNat = k := by omega
    have p := G.perm
    rw [e'] at p
    rw [e, ← range_snoc]
    refine List.Perm.trans ?_ (p.append (List.Perm.refl [((k : Int) + 1)]))
    rw [List.flatMap_append, List.flatMap_append, List.flatMap_cons, List.flatMap_cons, List.append_assoc, List.append_assoc, List.append_assoc]
    exact (List.Perm.refl _).append ((List.Perm.refl _).append List.perm_append_comm)
theorem GAt.put {H0 H : Hp} {g : Addr} {pre post : List Grp} {x : Grp} {k : Int} (G : GAt H0 H g (pre ++ x :: post)) : GAt H0 (upd H x.l (.lst (x.kids.map V.int ++ [.int k]))) g (pre ++ ⟨x.t, x.up, x.l, x.kids ++ [k]⟩ :: post) := by
  have hx : x ∈ pre ++ x :: post := by simp
  obtain ⟨a, b, c⟩ := G.lst x hx
  have nd := G.nd
  rw [List.map_append, List.map_cons] at nd
  obtain ⟨_, n2, n3⟩ := List.nodup_append.mp nd
  have oth : ∀ y, y ∈ pre ∨ y ∈ post → y.l ≠ x.l := fun y hy e => by
    rcases hy with hy | hy
    · exact n3 y.l (List.mem_map.mpr ⟨y, hy, rfl⟩) x.l (by simp) e
    · exact (List.nodup_cons.mp n2).1 (by rw [← e]; exact List.mem_map.mpr ⟨y, hy, rfl⟩)
  have mem : ∀ y ∈ pre ++ (⟨x.t, x.up, x.l, x.kids ++ [k]⟩ : Grp) :: post, (y ∈ pre ∨ y ∈ post) ∨ y = ⟨x.t, x.up, x.l, x.kids ++ [k]⟩ := fun y hy => by
    rcases List.mem_append.mp hy with z | z
    · exact .inl (.inl z)
    · rcases List.mem_cons.mp z with z | z
      · exact .inr z
      · exact .inl (.inr z)
  have old : ∀ y, y ∈ pre ∨ y ∈ post → y ∈ pre ++ x :: post := fun y hy => by
    rcases hy with z | z <;> simp [z]
  refine ⟨?_, G.new, fun y hy => ?_, fun y hy => ?_, ?_⟩
  · rw [upd_ne c, G.at_, List.map_append, List.map_append, List.map_cons, List.map_cons]
  · rcases mem y hy with z | rfl
    · rw [upd_ne (ne_of (G.tup y (old y z)) a (by intro q; cases q))]
      exact G.tup y (old y z)
    · show upd H x.l _ x.t = _
      rw [upd_ne (ne_of (G.tup x hx) a (by intro q; cases q))]
      exact G.tup x hx
  · rcases mem y hy with z | rfl
    · obtain ⟨a', b', c'⟩ := G.lst y (old y z)
      refine ⟨?_, b', c'⟩
      rw [upd_ne (oth y z)]
      exact a'
    · refine ⟨?_, b, c⟩
      show upd H x.l _ x.l = _
      rw [upd_same, List.map_append]
      rfl
  · have e : (pre ++ (⟨x.t, x.up, x.l, x.kids ++ [k]⟩ : Grp) :: post).map (·.l) = (pre ++ x :: post).map (·.l) := by
      rw [List.map_append, List.map_append, List.map_cons, List.map_cons]
    rw [e]
    exact G.nd
/-- the bough of a group -/
def bghD (u lo hi : Int) (kids : List Int) : PyData := .tuple [.int u, .int lo, .int hi, .tuple (kids.map PyData.int)]
theorem bgh_ok {m u lo hi : Int} {kids : List Int} (u0 : 0 ≤ u) (ne : kids ≠ []) (r : rising m (kids.map PyData.int) u = true) (l0 : 0 ≤ lo) (l1 : lo ≤ hi) (h0 : 1 ≤ hi) (h1 : hi ≤ kids.length) : isBough m (bghD u lo hi kids) = true := by
  have u1 : u ≤ m - 1 := by
    cases hk : kids with
    | nil => exact absurd hk ne
    | cons n t =>
      rw [hk] at r
      have c' : (decide (u + 1 ≤ n) && decide (n ≤ m - 1) && rising m (t.map PyData.int) n) = true := r
      simp only [Bool.and_eq_true, decide_eq_true_eq] at c'
      omega
  show (within (.int u) 0 (m - 1) && (tupFull (.tuple (kids.map PyData.int)) && (rising m (kids.map PyData.int) u && (within (.int hi) 1 ((kids.map PyData.int).length : Nat) && within (.int lo) 0 hi)))) = true
  have e1 : within (.int u) 0 (m - 1) = true := by
    show (decide (0 ≤ u) && decide (u ≤ m - 1)) = true
    rw [decide_eq_true u0, decide_eq_true u1]
    rfl
  have e2 : tupFull (.tuple (kids.map PyData.int)) = true := by
    refine decide_eq_true ?_
    rw [List.length_map]
    exact List.length_pos_iff.mpr ne
  have e3 : within (.int hi) 1 ((kids.map PyData.int).length : Nat) = true := by
    show (decide (1 ≤ hi) && decide (hi ≤ ((kids.map PyData.int).length : Nat))) = true
    rw [List.length_map, decide_eq_true h0, decide_eq_true h1]
    rfl
  have e4 : within (.int lo) 0 hi = true := by
    show (decide (0 ≤ lo) && decide (lo ≤ hi)) = true
    rw [decide_eq_true l0, decide_eq_true l1]
    rfl
  rw [e1, e2, r, e3, e4]
  rfl
theorem flat_ints1 (kids : List Int) : (kids.map PyData.int).all (flatD 1) = true := by
  rw [List.all_eq_true]
  intro x hx
  obtain ⟨i, _, rfl⟩ := List.mem_map.mp hx
  rfl
theorem bgh_flat (u lo hi : Int) (kids : List Int) (h : kids.length ≤ 1000) : flatD 3 (bghD u lo hi kids) = true := by
  show (true && (true && (true && (true && ((decide ((kids.map PyData.int).length ≤ 1000) && (kids.map PyData.int).all (flatD 1)) && true))))) = true
  rw [flat_ints1, List.length_map, decide_eq_true h]
  rfl
theorem bgh_kids (u lo hi : Int) (kids : List Int) : kidsOf (bghD u lo hi kids) = kids := by
  show (kids.map PyData.int).map toI = kids
  rw [List.map_map]
  have : (toI ∘ PyData.int) = id := rfl
  rw [this, List.map_id]

theorem cut_rot {α : Type} (f : α → V) (xs : List α) (t : Nat) (h : t ≤ xs.length) : cutV (xs.map f) (some (t : Int)) none ++ cutV (xs.map f) none (some (t : Int)) = (xs.drop t ++ xs.take t).map f := by
  unfold cutV
  rw [HT.sIx_nat, HT.sIx_nat, HT.sIx_none, HT.sIx_none, List.length_map, Nat.min_eq_left h, List.drop_zero, List.map_append, List.map_drop, List.map_take, Nat.sub_zero]
  congr 1
  rw [List.take_of_length_le]
  rw [List.length_drop, List.length_map]
  exact Nat.le_refl _
end Ow

/-! ### Ties and sets: the mathematics -/
namespace Wd
inductive Tie where
  | bough (u : Nat) (lo hi : Int) (ks : List Nat)
  | needs (a b : Nat)
  | bans (a b : Nat)
  | most (top : Int) (ps : List (Nat × Int))
def cnt (ks : List Nat) (s : Nat) : Nat := (ks.filter fun k => s.testBit k).length
def sumP (ps : List (Nat × Int)) (f : Nat × Int → Bool) : Int := ((ps.filter f).map (·.2)).sum
def Tie.keep : Tie → Nat → Bool
  | .bough u lo hi ks, s => if s.testBit u = true then decide (lo ≤ (cnt ks s : Int)) && decide ((cnt ks s : Int) ≤ hi) else decide (cnt ks s = 0)
  | .needs a b, s => !s.testBit a || s.testBit b
  | .bans a b, s => !s.testBit a || !s.testBit b
  | .most top ps, s => decide (sumP ps (fun p => s.testBit p.1) ≤ top)
structure Tie.BoughOk (m u : Nat) (lo hi : Int) (ks : List Nat) : Prop where
  um : u < m
  ks0 : ks ≠ []
  up : ∀ k ∈ ks, u < k ∧ k < m
  ris : ks.Pairwise (· < ·)
  few : ks.length ≤ m
  lo0 : 0 ≤ lo
  lohi : lo ≤ hi
  hi1 : 1 ≤ hi
  hik : hi ≤ ks.length
theorem Tie.BoughOk.nd {m u : Nat} {lo hi : Int} {ks : List Nat} (h : Tie.BoughOk m u lo hi ks) : ks.Nodup := h.ris.imp fun a => Nat.ne_of_lt a
def Tie.Ok (m : Nat) : Tie → Prop
  | .bough u lo hi ks => Tie.BoughOk m u lo hi ks
  | .needs a b => a < m ∧ b < m ∧ a ≠ b
  | .bans a b => a < m ∧ b < m ∧ a ≠ b
  | .most _ ps => ps ≠ [] ∧ (∀ p ∈ ps, p.1 < m) ∧ (ps.map (·.1)).Pairwise (· < ·) ∧ ps.length ≤ m
/-- a set lies in a stand -/
def InS (y n s : Nat) : Prop := (∀ k, y.testBit k = true → s.testBit k = true) ∧ ∀ k, n.testBit k = true → s.testBit k = false
def leastSum (ps : List (Nat × Int)) (y n : Nat) : Int := sumP ps fun p => y.testBit p.1 || (decide (p.2 < 0) && !n.testBit p.1)
def Tie.sb : Tie → Nat → Nat → Bool
  | .needs a b, y, n => y.testBit a && n.testBit b
  | .bans a b, y, n => y.testBit a && y.testBit b
  | .most top ps, y, n => decide (top < leastSum ps y n)
  | .bough u lo hi ks, y, n => !(!n.testBit u && (decide ((cnt ks y : Int) ≤ hi) && decide (lo ≤ (ks.length : Int) - cnt ks n))) && !(!y.testBit u && decide (cnt ks y = 0))
theorem keep_up {u : Nat} {lo hi : Int} {ks : List Nat} {s : Nat} (h : s.testBit u = true) : (Tie.bough u lo hi ks).keep s = (decide (lo ≤ (cnt ks s : Int)) && decide ((cnt ks s : Int) ≤ hi)) := by
  simp only [Tie.keep, h, if_true]
theorem keep_no {u : Nat} {lo hi : Int} {ks : List Nat} {s : Nat} (h : ¬ s.testBit u = true) : (Tie.bough u lo hi ks).keep s = decide (cnt ks s = 0) := by
  simp only [Tie.keep, if_neg h]
theorem sumP_cons (p : Nat × Int) (r : List (Nat × Int)) (f : Nat × Int → Bool) : sumP (p :: r) f = (if f p = true then p.2 else 0) + sumP r f := by
  unfold sumP
  by_cases h : f p = true
  · rw [List.filter_cons_of_pos h, if_pos h]; simp
  · rw [List.filter_cons_of_neg h, if_neg h]; simp
theorem sumP_le {f g : Nat × Int → Bool} : ∀ {ps : List (Nat × Int)}, (∀ p ∈ ps, (if f p = true then p.2 else 0) ≤ (if g p = true then p.2 else 0)) → sumP ps f ≤ sumP ps g
  | [], _ => Int.le_refl _
  | p :: r, h => by
    rw [sumP_cons, sumP_cons]
    have h1 := h p List.mem_cons_self
    have h2 := sumP_le (ps := r) fun q hq => h q (List.mem_cons_of_mem _ hq)
    omega
theorem sumP_eq {f g : Nat × Int → Bool} {ps : List (Nat × Int)} (h : ∀ p ∈ ps, f p = g p) : sumP ps f = sumP ps g := by
  unfold sumP
  rw [List.filter_congr h]
theorem cnt_cons (k : Nat) (r : List Nat) (s : Nat) : cnt (k :: r) s = (if s.testBit k = true then 1 else 0) + cnt r s := by
  unfold cnt
  by_cases h : s.testBit k = true
  · rw [List.filter_cons_of_pos (p := fun k => s.testBit k) h, if_pos h, List.length_cons]; omega
  · rw [List.filter_cons_of_neg (p := fun k => s.testBit k) h, if_neg h]; omega
theorem cnt_congr {ks : List Nat} {s t : Nat} (h : ∀ k ∈ ks, s.testBit k = t.testBit k) : cnt ks s = cnt ks t := by
  unfold cnt
  rw [List.filter_congr h]
theorem cnt_mono {s t : Nat} : ∀ {ks : List Nat}, (∀ k ∈ ks, s.testBit k = true → t.testBit k = true) → cnt ks s ≤ cnt ks t
  | [], _ => Nat.le_refl _
  | k :: r, h => by
    rw [cnt_cons, cnt_cons]
    have h2 := cnt_mono (ks := r) fun q hq => h q (List.mem_cons_of_mem _ hq)
    have h1 := h k List.mem_cons_self
    by_cases c : s.testBit k = true
    · rw [if_pos c, if_pos (h1 c)]; omega
    · rw [if_neg c]; omega
/-- those of yes and those of no are no more than all -/
theorem cnt_two {s n : Nat} : ∀ {ks : List Nat}, (∀ k ∈ ks, n.testBit k = true → s.testBit k = false) → cnt ks s + cnt ks n ≤ ks.length
  | [], _ => Nat.le_refl _
  | k :: r, h => by
    rw [cnt_cons, cnt_cons, List.length_cons]
    have h2 := cnt_two (ks := r) fun q hq => h q (List.mem_cons_of_mem _ hq)
    have h1 := h k List.mem_cons_self
    by_cases c : n.testBit k = true
    · rw [h1 c, if_pos c]; simp; omega
    · rw [if_neg c]; split <;> omega
/-- a set by a predicate -/
def maskL : List Nat → Nat
  | [] => 0
  | k :: r => maskL r ||| 2 ^ k
theorem maskL_bit (j : Nat) : ∀ l : List Nat, (maskL l).testBit j = decide (j ∈ l)
  | [] => by simp [maskL]
  | k :: r => by
    rw [maskL, Nat.testBit_or, maskL_bit j r, Nat.testBit_two_pow]
    by_cases h : k = j
    · subst h; simp
    · have h' : j ≠ k := fun z => h z.symm
      simp [h, h']
theorem nodup_fst {ps : List (Nat × Int)} (h : (ps.map (·.1)).Nodup) {p q : Nat × Int} (hp : p ∈ ps) (hq : q ∈ ps) (e : p.1 = q.1) : p = q := by
  induction ps with
  | nil => cases hp
  | cons x r ih =>
    rw [List.map_cons, List.nodup_cons] at h
    rcases List.mem_cons.mp hp with e1 | hp
    · rcases List.mem_cons.mp hq with e2 | hq
      · rw [e1, e2]
      · exact absurd (show x.1 ∈ r.map (·.1) from List.mem_map.mpr ⟨q, hq, by rw [← e1, e]⟩) h.1
    · rcases List.mem_cons.mp hq with e2 | hq
      · exact absurd (show x.1 ∈ r.map (·.1) from List.mem_map.mpr ⟨p, hp, by rw [← e2, e]⟩) h.1
      · exact ih h.2 hp hq
theorem keep_congr {m : Nat} {t : Tie} (ok : t.Ok m) {s s' : Nat} (h : ∀ k, k < m → s.testBit k = s'.testBit k) : t.keep s = t.keep s' := by
  cases t with
  | bough u lo hi ks =>
    have e : cnt ks s = cnt ks s' := cnt_congr fun k hk => h k (ok.up k hk).2
    simp only [Tie.keep]
    rw [e, h u ok.um]
  | needs a b => simp only [Tie.keep]; rw [h a ok.1, h b ok.2.1]
  | bans a b => simp only [Tie.keep]; rw [h a ok.1, h b ok.2.1]
  | most top ps =>
    simp only [Tie.keep]
    rw [sumP_eq fun p hp => h p.1 (ok.2.1 p hp)]
/-- y with some more options -/
theorem inS_more {y n : Nat} {l : List Nat} (d : ∀ k, y.testBit k = true → n.testBit k = false) (h : ∀ k ∈ l, n.testBit k = false) : InS y n (y ||| maskL l) := by
  refine ⟨fun k hk => ?_, fun k hk => ?_⟩
  · rw [Nat.testBit_or, hk, Bool.true_or]
  · rw [Nat.testBit_or, maskL_bit]
    have h1 : y.testBit k = false := by
      cases e : y.testBit k with
      | false => rfl
      | true => rw [d k e] at hk; cases hk
    have h2 : ¬ k ∈ l := fun z => by rw [h k z] at hk; cases hk
    rw [h1, decide_eq_false h2]; rfl
theorem bit_more (y : Nat) (l : List Nat) (k : Nat) : (y ||| maskL l).testBit k = (y.testBit k || decide (k ∈ l)) := by
  rw [Nat.testBit_or, maskL_bit]
theorem cnt_add {y : Nat} : ∀ {ks : List Nat}, ks.Nodup → ∀ c : Nat, cnt ks y ≤ c → ∀ n : Nat, (∀ k, y.testBit k = true → n.testBit k = false) → c + cnt ks n ≤ ks.length →
    ∃ l : List Nat, (∀ k ∈ l, k ∈ ks ∧ n.testBit k = false) ∧ cnt ks (y ||| maskL l) = c
  | [], _, c, h1, n, _, h2 => ⟨[], (fun _ z => nomatch z), by simp [cnt] at h2 ⊢; omega⟩
  | k :: r, nd, c, h1, n, d, h2 => by
    obtain ⟨nk, nr⟩ := List.nodup_cons.mp nd
    rw [cnt_cons] at h1 h2
    rw [List.length_cons] at h2
    by_cases hy : y.testBit k = true
    · rw [if_pos hy] at h1
      have hn := d k hy
      rw [hn] at h2
      obtain ⟨l, hl, e⟩ := cnt_add nr (c - 1) (by omega) n d (by simp at h2; omega)
      refine ⟨l, fun j hj => ⟨List.mem_cons_of_mem _ (hl j hj).1, (hl j hj).2⟩, ?_⟩
      rw [cnt_cons, e, bit_more, hy, Bool.true_or, if_pos rfl]
      omega
    · rw [if_neg hy] at h1
      by_cases hn : n.testBit k = true
      · rw [if_pos hn] at h2
        obtain ⟨l, hl, e⟩ := cnt_add nr c (by omega) n d (by omega)
        refine ⟨l, fun j hj => ⟨List.mem_cons_of_mem _ (hl j hj).1, (hl j hj).2⟩, ?_⟩
        have : ¬ k ∈ l := fun z => nk (hl k z).1
        rw [cnt_cons, e, bit_more, Bool.eq_false_iff.mpr hy, decide_eq_false this]
        simp
      · rw [if_neg hn] at h2
        by_cases full : c + cnt r n ≤ r.length
        · obtain ⟨l, hl, e⟩ := cnt_add nr c (by omega) n d full
          refine ⟨l, fun j hj => ⟨List.mem_cons_of_mem _ (hl j hj).1, (hl j hj).2⟩, ?_⟩
          have : ¬ k ∈ l := fun z => nk (hl k z).1
          rw [cnt_cons, e, bit_more, Bool.eq_false_iff.mpr hy, decide_eq_false this]
          simp
        · have hc : cnt r y + cnt r n ≤ r.length := cnt_two fun j _ hj => by
            cases e : y.testBit j with
            | false => rfl
            | true => rw [d j e] at hj; cases hj
          obtain ⟨l, hl, e⟩ := cnt_add nr (c - 1) (by omega) n d (by omega)
          refine ⟨k :: l, fun j hj => ?_, ?_⟩
          · rcases List.mem_cons.mp hj with rfl | z
            · exact ⟨List.mem_cons_self, Bool.eq_false_iff.mpr hn⟩
            · exact ⟨List.mem_cons_of_mem _ (hl j z).1, (hl j z).2⟩
          · have e2 : cnt r (y ||| maskL (k :: l)) = cnt r (y ||| maskL l) := cnt_congr fun j hj => by
              have : j ≠ k := fun z => nk (z ▸ hj)
              rw [bit_more, bit_more]
              simp [this]
            rw [cnt_cons, e2, e, bit_more, decide_eq_true List.mem_cons_self, Bool.or_true, if_pos rfl]
            omega
/-- for sure broken, told by all sets in the stand -/
theorem sb_iff {m : Nat} {t : Tie} (ok : t.Ok m) {y n : Nat} (d : ∀ k, y.testBit k = true → n.testBit k = false) : t.sb y n = true ↔ ∀ s, InS y n s → t.keep s = false := by
  have dn : ∀ k, n.testBit k = true → y.testBit k = false := fun k hk => by
    cases e : y.testBit k with
    | false => rfl
    | true => rw [d k e] at hk; cases hk
  cases t with
  | needs a b =>
    constructor
    · intro h s hs
      have h' : (y.testBit a && n.testBit b) = true := h
      rw [Bool.and_eq_true] at h'
      show (!s.testBit a || s.testBit b) = false
      rw [hs.1 a h'.1, hs.2 b h'.2]; rfl
    · intro h
      show (y.testBit a && n.testBit b) = true
      cases e1 : y.testBit a with
      | false =>
        have hh := h y ⟨fun _ z => z, dn⟩
        have h2 : (!y.testBit a || y.testBit b) = false := hh
        rw [e1] at h2; cases h2
      | true =>
        cases e2 : n.testBit b with
        | true => rfl
        | false =>
          have h2 : (!(y ||| maskL [b]).testBit a || (y ||| maskL [b]).testBit b) = false := h _ (inS_more d fun k hk => by rw [List.mem_singleton.mp hk]; exact e2)
          rw [bit_more y [b] b, decide_eq_true (List.mem_singleton.mpr rfl), Bool.or_true, Bool.or_true] at h2
          cases h2
  | bans a b =>
    constructor
    · intro h s hs
      have h' : (y.testBit a && y.testBit b) = true := h
      rw [Bool.and_eq_true] at h'
      show (!s.testBit a || !s.testBit b) = false
      rw [hs.1 a h'.1, hs.1 b h'.2]; rfl
    · intro h
      have h2 : (!y.testBit a || !y.testBit b) = false := h y ⟨fun _ z => z, dn⟩
      show (y.testBit a && y.testBit b) = true
      cases e1 : y.testBit a <;> cases e2 : y.testBit b <;> rw [e1, e2] at h2 <;> simp_all
  | most top ps =>
    constructor
    · intro h s hs
      have h' : top < leastSum ps y n := of_decide_eq_true h
      refine decide_eq_false fun z => ?_
      have le : leastSum ps y n ≤ sumP ps (fun p => s.testBit p.1) := sumP_le fun p _ => by
        cases e1 : y.testBit p.1 with
        | true => rw [hs.1 _ e1]; simp
        | false =>
          cases e2 : n.testBit p.1 with
          | true => rw [hs.2 _ e2]; simp
          | false =>
            by_cases c : p.2 < 0
            · simp [c]; split <;> omega
            · simp [c]; split <;> omega
      omega
    · intro h
      refine decide_eq_true ?_
      let l := (ps.filter fun p => decide (p.2 < 0) && !n.testBit p.1).map (·.1)
      have hl : ∀ k ∈ l, n.testBit k = false := fun k hk => by
        obtain ⟨p, hp, rfl⟩ := List.mem_map.mp hk
        have := (List.mem_filter.mp hp).2
        simp at this
        exact this.2
      have h2 : decide (sumP ps (fun p => (y ||| maskL l).testBit p.1) ≤ top) = false := h _ (inS_more d hl)
      have e : sumP ps (fun p => (y ||| maskL l).testBit p.1) = leastSum ps y n := sumP_eq fun p hp => by
        show (y ||| maskL l).testBit p.1 = (y.testBit p.1 || (decide (p.2 < 0) && !n.testBit p.1))
        rw [bit_more]
        congr 1
        by_cases c : (decide (p.2 < 0) && !n.testBit p.1) = true
        · rw [c]
          exact decide_eq_true (List.mem_map.mpr ⟨p, List.mem_filter.mpr ⟨hp, c⟩, rfl⟩)
        · rw [Bool.eq_false_iff.mpr c]
          refine decide_eq_false fun z => ?_
          obtain ⟨q, hq, e⟩ := List.mem_map.mp z
          have hq' := List.mem_filter.mp hq
          -- the options of the pairs are unlike
          have : q = p := nodup_fst (ok.2.2.1.imp fun a => Nat.ne_of_lt a) hq'.1 hp e
          rw [this] at hq'
          exact c hq'.2
      rw [e] at h2
      have := of_decide_eq_false h2
      omega
  | bough u lo hi ks =>
    have c2 : cnt ks y + cnt ks n ≤ ks.length := cnt_two fun j _ hj => dn j hj
    have uk : ¬ u ∈ ks := fun z => Nat.lt_irrefl _ (ok.up u z).1
    constructor
    · intro h s hs
      have h' : (!(!n.testBit u && (decide ((cnt ks y : Int) ≤ hi) && decide (lo ≤ (ks.length : Int) - cnt ks n))) && !(!y.testBit u && decide (cnt ks y = 0))) = true := h
      have g1 : cnt ks y ≤ cnt ks s := cnt_mono fun k _ hk => hs.1 k hk
      have g2 : cnt ks s + cnt ks n ≤ ks.length := cnt_two fun k _ hk => hs.2 k hk
      show (if s.testBit u = true then decide (lo ≤ (cnt ks s : Int)) && decide ((cnt ks s : Int) ≤ hi) else decide (cnt ks s = 0)) = false
      rw [Bool.and_eq_true] at h'
      by_cases su : s.testBit u = true
      · rw [if_pos su]
        have nu : n.testBit u = false := by
          cases e : n.testBit u with
          | false => rfl
          | true => rw [hs.2 u e] at su; cases su
        have h1 := h'.1
        rw [nu] at h1
        simp at h1
        by_cases z : (cnt ks y : Int) ≤ hi
        · rw [decide_eq_false (show ¬ lo ≤ (cnt ks s : Int) by omega), Bool.false_and]
        · rw [decide_eq_false (show ¬ (cnt ks s : Int) ≤ hi by omega), Bool.and_false]
      · rw [if_neg su]
        have yu : y.testBit u = false := by
          cases e : y.testBit u with
          | false => rfl
          | true => exact absurd (hs.1 u e) su
        have h2 := h'.2
        rw [yu] at h2
        simp at h2
        exact decide_eq_false (by omega)
    · intro h
      show (!(!n.testBit u && (decide ((cnt ks y : Int) ≤ hi) && decide (lo ≤ (ks.length : Int) - cnt ks n))) && !(!y.testBit u && decide (cnt ks y = 0))) = true
      rw [Bool.and_eq_true]
      constructor
      · cases e : (!n.testBit u && (decide ((cnt ks y : Int) ≤ hi) && decide (lo ≤ (ks.length : Int) - cnt ks n))) with
        | false => rfl
        | true =>
          exfalso
          simp only [Bool.and_eq_true, decide_eq_true_eq, Bool.not_eq_true'] at e
          obtain ⟨nu, e1, e2⟩ := e
          have hl0 := ok.lo0
          have hlh := ok.lohi
          obtain ⟨l, hl, ec⟩ := cnt_add (Tie.BoughOk.nd ok) (max (cnt ks y) lo.toNat) (Nat.le_max_left _ _) n d (by omega)
          have hk := h (y ||| maskL (u :: l)) (inS_more d fun k hk => by
            rcases List.mem_cons.mp hk with rfl | z
            · exact nu
            · exact (hl k z).2)
          have hb : (y ||| maskL (u :: l)).testBit u = true := by rw [bit_more, decide_eq_true List.mem_cons_self, Bool.or_true]
          have ec2 : cnt ks (y ||| maskL (u :: l)) = max (cnt ks y) lo.toNat := by
            rw [← ec]
            refine cnt_congr fun j hj => ?_
            have : j ≠ u := fun z => uk (z ▸ hj)
            rw [bit_more, bit_more]
            simp [this]
          simp only [Tie.keep, hb, if_true, ec2] at hk
          rw [decide_eq_true (by omega), decide_eq_true (by omega)] at hk
          cases hk
      · cases e : (!y.testBit u && decide (cnt ks y = 0)) with
        | false => rfl
        | true =>
          exfalso
          simp only [Bool.and_eq_true, decide_eq_true_eq, Bool.not_eq_true'] at e
          have hk := h y ⟨fun _ z => z, dn⟩
          simp [Tie.keep, e.1, e.2] at hk
end Wd

set_option maxRecDepth 100000
set_option maxHeartbeats 4000000
/-! ### H. Ties as data -/
namespace Wd
open PySem L2
def pairD (p : Nat × Int) : PyData := .tuple [.int (p.1 : Int), .int p.2]
def Tie.toD : Tie → PyData
  | .bough u lo hi ks => .tuple [.int (u : Int), .int lo, .int hi, .tuple (ks.map fun k : Nat => PyData.int (k : Int))]
  | .needs a b => .tuple [.str ("needs" : Str), .int (a : Int), .int (b : Int)]
  | .bans a b => .tuple [.str ("bans" : Str), .int (a : Int), .int (b : Int)]
  | .most top ps => .tuple [.str ("most" : Str), .int top, .tuple (ps.map pairD)]
theorem rising_nats {m : Nat} : ∀ {ks : List PyData} {last : Int}, -1 ≤ last → last < m → rising m ks last = true →
    ∃ ns : List Nat, ks = ns.map (fun k : Nat => PyData.int (k : Int)) ∧ ns.Pairwise (· < ·) ∧ (∀ k ∈ ns, last < (k : Int) ∧ k < m) ∧ (ns.length : Int) + last + 1 ≤ m
  | [], last, h0, h1, _ => ⟨[], rfl, List.Pairwise.nil, (fun _ z => nomatch z), by simp; omega⟩
  | .int i :: ks, last, h0, h1, h => by
    have z : (decide (last + 1 ≤ i) && decide (i ≤ (m : Int) - 1) && rising m ks i) = true := h
    simp only [Bool.and_eq_true, decide_eq_true_eq] at z
    obtain ⟨ns, e, pw, ab, ln⟩ := rising_nats (by omega) (by omega) z.2
    obtain ⟨j, rfl⟩ : ∃ j : Nat, i = (j : Int) := ⟨i.toNat, by omega⟩
    refine ⟨j :: ns, by rw [e]; rfl, List.Pairwise.cons (fun k hk => ?_) pw, fun k hk => ?_, ?_⟩
    · have := (ab k hk).1; omega
    · rcases List.mem_cons.mp hk with rfl | hk
      · omega
      · have := ab k hk; omega
    · rw [List.length_cons]; omega
  | .none :: _, _, _, _, h => by cases h
  | .bool _ :: _, _, _, _, h => by cases h
  | .str _ :: _, _, _, _, h => by cases h
  | .list _ :: _, _, _, _, h => by cases h
  | .tuple _ :: _, _, _, _, h => by cases h
  | .dict _ :: _, _, _, _, h => by cases h
theorem tie_of_bough {m : Nat} {d : PyData} (h : isBough m d = true) : ∃ u lo hi ks, d = (Tie.bough u lo hi ks).toD ∧ Tie.BoughOk m u lo hi ks := by
  unfold isBough at h
  split at h
  next u l hd k =>
    simp only [Bool.and_eq_true] at h
    obtain ⟨hu, hk, hr, hh, hl⟩ := h
    obtain ⟨ui, rfl, u0, u1⟩ := within_int hu
    obtain ⟨kd, rfl, k0⟩ := tupFull_tup hk
    obtain ⟨hi, rfl, h0, h1⟩ := within_int (show within hd 1 kd.length = true from hh)
    obtain ⟨lo, rfl, l0, l1⟩ := within_int (show within l 0 hi = true from hl)
    obtain ⟨un, rfl⟩ : ∃ j : Nat, ui = (j : Int) := ⟨ui.toNat, by omega⟩
    obtain ⟨ns, rfl, pw, ab, ln⟩ := rising_nats (by omega) (by omega) (show rising m kd un = true from hr)
    rw [List.length_map] at k0 h1
    exact ⟨un, lo, hi, ns, rfl, ⟨by omega, fun z => by rw [z] at k0; simp at k0, fun k hk => by have := ab k hk; omega, pw, by omega, l0, l1, h0, h1⟩⟩
  next => cases h
theorem pairs_nats {m : Nat} : ∀ {ds : List PyData} {ns : List Nat}, ds.all pairOk = true → ds.map fstD = ns.map (fun k : Nat => PyData.int (k : Int)) → ∃ ps : List (Nat × Int), ds = ps.map pairD ∧ ps.map (·.1) = ns
  | [], [], _, _ => ⟨[], rfl, rfl⟩
  | [], _ :: _, _, e => by cases e
  | _ :: _, [], _, e => by cases e
  | d :: ds, n :: ns, h, e => by
    rw [List.all_cons, Bool.and_eq_true] at h
    rw [List.map_cons, List.map_cons] at e
    injection e with e1 e2
    obtain ⟨ps, rfl, rfl⟩ := pairs_nats (m := m) h.2 e2
    have h1 := h.1
    unfold pairOk at h1
    split at h1
    next x y =>
      obtain ⟨i, rfl⟩ := isW_int h1
      refine ⟨(n, i) :: ps, ?_, rfl⟩
      have e3 : x = PyData.int (n : Int) := e1
      rw [e3]
      rfl
    next => cases h1
theorem tie_of_cross {m : Nat} {d : PyData} (h : isTie m d = true) : ∃ t : Tie, d = t.toD ∧ t.Ok m ∧ ∀ u lo hi ks, t ≠ .bough u lo hi ks := by
  unfold isTie at h
  split at h
  next k x y =>
    unfold tieD at h
    split at h
    next s =>
      unfold tieK at h
      split at h
      next hs =>
        rw [Bool.and_eq_true] at h
        obtain ⟨top, rfl⟩ := isW_int h.1
        have h2 := h.2
        unfold arePairs at h2
        split at h2
        next ds =>
          simp only [Bool.and_eq_true, decide_eq_true_eq] at h2
          obtain ⟨⟨d0, dp⟩, dr⟩ := h2
          obtain ⟨ns, e, pw, ab, ln⟩ := rising_nats (by omega) (by omega) dr
          obtain ⟨ps, rfl, rfl⟩ := pairs_nats (m := m) dp e
          rw [List.length_map] at d0 ln
          refine ⟨.most top ps, by rw [hs]; rfl, ⟨fun z => by rw [z] at d0; simp at d0, fun p hp => (ab p.1 (List.mem_map.mpr ⟨p, hp, rfl⟩)).2, pw, by omega⟩, by intro _ _ _ _ z; cases z⟩
        next => cases h2
      next hs =>
        split at h
        next hn =>
          simp only [Bool.and_eq_true] at h
          obtain ⟨ha, hb, hne⟩ := h
          obtain ⟨a, rfl, a0, a1⟩ := within_int ha
          obtain ⟨b, rfl, b0, b1⟩ := within_int hb
          have ne : ¬ a = b := by
            have z : (!decide (a = b)) = true := hne
            simpa using z
          obtain ⟨an, rfl⟩ : ∃ j : Nat, a = (j : Int) := ⟨a.toNat, by omega⟩
          obtain ⟨bn, rfl⟩ : ∃ j : Nat, b = (j : Int) := ⟨b.toNat, by omega⟩
          rcases hn with rfl | rfl
          · exact ⟨.needs an bn, rfl, ⟨by omega, by omega, by omega⟩, by intro _ _ _ _ z; cases z⟩
          · exact ⟨.bans an bn, rfl, ⟨by omega, by omega, by omega⟩, by intro _ _ _ _ z; cases z⟩
        next => cases h
    next => cases h
  next => cases h
/-! what stands in the heap for a tie -/
theorem natsD (ks : List Nat) : (ks.map fun k : Nat => PyData.int (k : Int)) = (ks.map fun k : Nat => (k : Int)).map PyData.int := by rw [List.map_map]; rfl
theorem natsV (ks : List Nat) : (ks.map fun k : Nat => (k : Int)).map V.int = ks.map fun k : Nat => V.int (k : Int) := by rw [List.map_map]; rfl
theorem at_bough {H : Hp} {u : Nat} {lo hi : Int} {ks : List Nat} {v : V} (h : Dn H (Tie.bough u lo hi ks).toD v) : ∃ p pk, v = .ref p ∧ H p = some (.tup [.int (u : Int), .int lo, .int hi, .ref pk]) ∧ H pk = some (.tup (ks.map fun k : Nat => V.int (k : Int))) := by
  obtain ⟨p, xs, rfl, hp, xu, r1, rfl, hu, xl, r2, rfl, hlo, xh, r3, rfl, hh, xk, r4, rfl, hk, hnil⟩ := dn_tup h
  cases (show r4 = [] from hnil)
  cases dn_int hu
  cases dn_int hlo
  cases dn_int hh
  obtain ⟨pk, ys, rfl, hpk, hks⟩ := dn_tup hk
  rw [natsD] at hks
  rw [dnl_ints hks, natsV] at hpk
  exact ⟨p, pk, rfl, hp, hpk⟩
theorem at_word {H : Hp} {w : Str} {a b : Int} {v : V} (h : Dn H (.tuple [.str w, .int a, .int b]) v) : ∃ p, v = .ref p ∧ H p = some (.tup [.str w, .int a, .int b]) := by
  obtain ⟨p, xs, rfl, hp, xu, r1, rfl, hu, xl, r2, rfl, hlo, xh, r3, rfl, hh, hnil⟩ := dn_tup h
  cases (show r3 = [] from hnil)
  cases (show xu = .str w from hu)
  cases dn_int hlo
  cases dn_int hh
  exact ⟨p, rfl, hp⟩
theorem at_most {H : Hp} {top : Int} {ps : List (Nat × Int)} {v : V} (h : Dn H (Tie.most top ps).toD v) : ∃ p q xs, v = .ref p ∧ H p = some (.tup [.str ("most" : Str), .int top, .ref q]) ∧ H q = some (.tup xs) ∧ DnL H (ps.map pairD) xs := by
  obtain ⟨p, xs, rfl, hp, xu, r1, rfl, hu, xl, r2, rfl, hlo, xh, r3, rfl, hh, hnil⟩ := dn_tup h
  cases (show r3 = [] from hnil)
  cases (show xu = .str ("most" : Str) from hu)
  cases dn_int hlo
  obtain ⟨q, ys, rfl, hq, hks⟩ := dn_tup hh
  exact ⟨p, q, ys, rfl, hp, hq, hks⟩
theorem at_pair {H : Hp} {ps : List (Nat × Int)} {xs : List V} (h : DnL H (ps.map pairD) xs) {i : Nat} {x : V} (hx : xs[i]? = some x) : ∃ p r, ps[i]? = some p ∧ x = .ref r ∧ H r = some (.tup [.int (p.1 : Int), .int p.2]) := by
  obtain ⟨d, hd, hx'⟩ := h.get hx
  rw [List.getElem?_map] at hd
  obtain ⟨p, hp, rfl⟩ := Option.map_eq_some_iff.mp hd
  obtain ⟨r, ys, rfl, hr, xa, r1, rfl, ha, xb, r2, rfl, hb, hnil⟩ := dn_tup (show Dn H (.tuple [.int (p.1 : Int), .int p.2]) x from hx')
  cases (show r2 = [] from hnil)
  cases dn_int ha
  cases dn_int hb
  exact ⟨p, r, hp, rfl, hr⟩
/-! sets as ints -/
def hasV (n k : Int) : Bool := decide (0 ≤ k) && decide (n / 2 ^ k.toNat % 2 = 1)
theorem hasV_nat (s u : Nat) : hasV (s : Int) (u : Int) = s.testBit u := by
  unfold hasV
  rw [decide_eq_true (by omega), Bool.true_and, Nat.testBit_eq_decide_div_mod_eq, Int.toNat_natCast]
  have e : ((s : Int) / 2 ^ u % 2 = 1) ↔ (s / 2 ^ u % 2 = 1) := by
    have e3 : (2 : Int) ^ u = ((2 ^ u : Nat) : Int) := by rw [Int.natCast_pow]; rfl
    rw [e3]
    omega
  by_cases z : s / 2 ^ u % 2 = 1
  · rw [decide_eq_true z, decide_eq_true (e.mpr z)]
  · rw [decide_eq_false z, decide_eq_false (fun y => z (e.mp y))]
theorem bitI (n : Int) (k : Nat) : Builtin.bitAnd (n / 2 ^ k) 1 = n / 2 ^ k % 2 := PySem.W.kbt_mask (n / 2 ^ k) 1
/-- some >> k & 1 -/
theorem shr_bit (s k : Nat) : Builtin.bitAnd ((s : Int) / 2 ^ ((k : Nat) : Int).toNat) 1 = if s.testBit k = true then 1 else 0 := by
  rw [bitI, Int.toNat_natCast, Nat.testBit_eq_decide_div_mod_eq]
  have e3 : (2 : Int) ^ k = ((2 ^ k : Nat) : Int) := by rw [Int.natCast_pow]; rfl
  rw [e3]
  by_cases z : s / 2 ^ k % 2 = 1
  · rw [decide_eq_true z, if_pos rfl]
    omega
  · rw [decide_eq_false z, if_neg (by decide)]
    omega
theorem dec_shr1 (s k : Nat) : decide (V.int (Builtin.bitAnd ((s : Int) / 2 ^ ((k : Nat) : Int).toNat) 1) = V.int 1) = s.testBit k := by
  rw [shr_bit]
  cases s.testBit k <;> rfl
theorem dec_shr0 (s k : Nat) : decide (V.int (Builtin.bitAnd ((s : Int) / 2 ^ ((k : Nat) : Int).toNat) 1) = V.int 0) = !s.testBit k := by
  rw [shr_bit]
  cases s.testBit k <;> rfl
end Wd

set_option maxRecDepth 100000
set_option maxHeartbeats 4000000
namespace L2
open PySem PySem.Spec PyProof.Rows
/-- the rest of a body, by a name -/
theorem cutS {X : Cx} {st : List Stmt} {t : TS} (h : PSs X st t) : ∃ t', PSs X st t' ∧ ∀ D σ H, t D σ H → t' D σ H := ⟨t, h, fun _ _ _ x => x⟩
section
variable {X : Cx} {o e : Expr} {es : List Expr} {to : TE} {t : TA} {name : Str} {apos cpos : Pos} {T id : String} {r : V → List V → Hp → VK → Prop}
/-- methods, with the fragment by its own name -/
theorem pe_bmK {K : PySem.W.Frag} (pa : PlainAttrs T) (slot : Slot T name id) (hty : typeOf (.builtin id) = pure (.type "method_descriptor")) (hm : MtR X id r) (ho : PE X o to) (ha : PA X (e :: es) t) (hK : X.K = K := by rfl)
    (hbase : attributeBase o name X.env (eval o X.env) = eval o X.env := by rfl)
    (hfew : ((backTo cpos (starEach (e :: es) X.env)).all (fun x => !x.1) && (backToKw cpos (keywordEach [] X.env)).all (fun x => x.1.isSome) && decide ((e :: es).length + ([] : List Keyword).length + (if ([] : List Keyword).isEmpty then 0 else 1) < 30)) = true := by rfl)
    (hline : (apos.endLine == cpos.line) = true := by rfl) (hs : starEach (e :: es) X.env = (false, eval e X.env) :: starEach es X.env := by rfl) (hplain : (backTo cpos (starEach es X.env)).any (·.1) = false := by rfl) :
    PE X (.Call (.Attribute o name apos) (e :: es) [] cpos) (tBM K T r to t) := hK ▸ pe_bm pa slot hty hm ho ha hbase hfew hline hs hplain
theorem pe_bm0K {K : PySem.W.Frag} (pa : PlainAttrs T) (slot : Slot T name id) (hty : typeOf (.builtin id) = pure (.type "method_descriptor")) (hm : MtR X id r) (ho : PE X o to) (hK : X.K = K := by rfl)
    (hbase : attributeBase o name X.env (eval o X.env) = eval o X.env := by rfl) (hline : (apos.endLine == cpos.line) = true := by rfl) : PE X (.Call (.Attribute o name apos) [] [] cpos) (tBM0 K T r to) := hK ▸ pe_bm0 pa slot hty hm ho hbase hline
end
end L2

set_option maxRecDepth 100000
set_option maxHeartbeats 4000000
namespace L2
open PySem PySem.Spec PyProof.Rows
section
variable {X : Cx}
/-- a tuple of targets, with the text's heap named (for blocks) -/
theorem pgT {K : PySem.W.Frag} {pos : Pos} {es : List Expr} {k : Nat} {t : TGs} {n : Nat} (hc : X.calm = true) (h : PGs X es t) (hn : (assignEach es X.env).length = n := by rfl) (hst : (assignEach es X.env).findIdx? (·.1) = none := by rfl) (hK : X.K = K := by rfl) : PG X (.Tuple es k pos) (gTup K n t) := hK ▸ pg_tup hc h hn hst
/-- range(b) as a value -/
theorem call_rng1 : CallR X (.type "range") (fun xs H Q => ∃ j : Int, xs = [.int j] ∧ ∀ p, H p = none → Q (.ref p) (upd H p (.rng 0 j))) := by
  intro pins s σ H xs us Q I r h
  obtain ⟨j, rfl, q⟩ := h
  obtain ⟨u, rfl, ⟨t, rfl⟩⟩ := vals1 r
  refine call_range_1 ⟨.ref s.heap.objs.size, _, I.laid (fun b o e => Heap.get?_push_of_some _ e) (Nat.le_refl _) (show ObjOk X.prog X.w _ _ _ (.rng 0 j) from ⟨_, _, _, Heap.get?_push_size _ rfl⟩), rfl, q _ (I.hok.fresh (Nat.le_refl _))⟩
end
end L2
namespace Wd
open PySem L2
/-- a tie and a set, told whether the set keeps it -/
def spKeeps : Sp := fun vs H Q _ => ∃ (t : Tie) (m n : Nat) (v : V), vs = [v, .int n] ∧ Dn H t.toD v ∧ t.Ok m ∧ m ≤ 1000 ∧ ∀ H', Same H H' → Q (.bl (t.keep n)) H'
def spLaw (K : PySem.W.Frag) : Sp := fun vs H Q _ => ∃ (p : Addr) (ns : List Int), vs = [.ref p] ∧ SqL K H p (ns.map V.int) ∧ ns.length ≤ 63 ∧ ∀ H', Q (.bl true) H'
theorem dec_cnt0 (k : Nat) : decide (V.int (k : Int) = V.int 0) = decide (k = 0) := by
  rw [dec_int]
  by_cases z : k = 0
  · rw [z]; rfl
  · rw [decide_eq_false z]
    simpa using z
/-- a tie and a stand, told a truth -/
def spTie3 (f : Tie → Nat → Nat → Bool) : Sp := fun vs H Q _ => ∃ (t : Tie) (m y n : Nat) (v : V), vs = [v, .int y, .int n] ∧ Dn H t.toD v ∧ t.Ok m ∧ m ≤ 1000 ∧ ∀ H', Same H H' → Q (.bl (f t y n)) H'
def spTie3B (f : Tie → Nat → Nat → Bool) : Sp := fun vs H Q _ => ∃ (u : Nat) (lo hi : Int) (ks : List Nat) (m y n : Nat) (v : V), vs = [v, .int y, .int n] ∧ Dn H (Tie.bough u lo hi ks).toD v ∧ Tie.BoughOk m u lo hi ks ∧ m ≤ 1000 ∧ ∀ H', Same H H' → Q (.bl (f (Tie.bough u lo hi ks) y n)) H'
/-- pairs and a stand, told a number -/
def spSum (f : List (Nat × Int) → Nat → Nat → Int) : Sp := fun vs H Q _ => ∃ (q : Addr) (xs : List V) (ps : List (Nat × Int)) (y n : Nat), vs = [.ref q, .int y, .int n] ∧ H q = some (.tup xs) ∧ DnL H (ps.map pairD) xs ∧ ps.length ≤ 1000 ∧ ∀ H', Same H H' → Q (.int (f ps y n)) H'
theorem list_ties {P : Tie → Prop} : ∀ {l : List PyData}, (∀ d ∈ l, ∃ t : Tie, d = t.toD ∧ P t) → ∃ ts : List Tie, l = ts.map Tie.toD ∧ ∀ t ∈ ts, P t
  | [], _ => ⟨[], rfl, (fun _ z => nomatch z)⟩
  | d :: r, h => by
    obtain ⟨t, e, p⟩ := h d List.mem_cons_self
    obtain ⟨ts, e2, p2⟩ := list_ties fun x hx => h x (List.mem_cons_of_mem _ hx)
    refine ⟨t :: ts, by rw [e, e2]; rfl, fun x hx => ?_⟩
    rcases List.mem_cons.mp hx with rfl | z
    · exact p
    · exact p2 x z
theorem bough_tie {m : Nat} {d : PyData} (h : isBough m d = true) : ∃ t : Tie, d = t.toD ∧ t.Ok m := by
  obtain ⟨u, lo, hi, ks, e, ok⟩ := tie_of_bough h
  exact ⟨.bough u lo hi ks, e, ok⟩
theorem cross_tie {m : Nat} {d : PyData} (h : isTie m d = true) : ∃ t : Tie, d = t.toD ∧ t.Ok m := by
  obtain ⟨t, e, ok, _⟩ := tie_of_cross h
  exact ⟨t, e, ok⟩
theorem dn_tie {H : Hp} {ts : List Tie} {xs : List V} (h : DnL H (ts.map Tie.toD) xs) {i : Nat} {x : V} (hx : xs[i]? = some x) : ∃ t, ts[i]? = some t ∧ Dn H t.toD x := by
  obtain ⟨d, hd, q⟩ := h.get hx
  rw [List.getElem?_map] at hd
  obtain ⟨t, ht, rfl⟩ := Option.map_eq_some_iff.mp hd
  exact ⟨t, ht, q⟩
theorem iteD {c A B : Prop} [Decidable c] (hc : c) (h : A) : if decide c = true then A else B := by
  rw [decide_eq_true hc]
  exact iteT h
theorem iteDN {c A B : Prop} [Decidable c] (hc : ¬ c) (h : B) : if decide c = true then A else B := by
  rw [decide_eq_false hc]
  exact iteF h
theorem iteNN {c A B : Prop} [Decidable c] (hc : ¬ c) (h : A) : if (!decide c) = true then A else B := by
  rw [decide_eq_false hc]
  exact iteT h
theorem vs_ne {x y : Str} (h : ¬ x = y) : ¬ V.str x = V.str y := fun z => by injection z with z; exact h z
theorem bans_needs : ¬ V.str ("bans" : Str) = V.str ("needs" : Str) := vs_ne (by decide +kernel)
theorem most_needs : ¬ V.str ("most" : Str) = V.str ("needs" : Str) := vs_ne (by decide +kernel)
theorem most_bans : ¬ V.str ("most" : Str) = V.str ("bans" : Str) := vs_ne (by decide +kernel)
theorem int_str {i : Int} {x : Str} : ¬ V.int i = V.str x := fun z => by cases z
end Wd

set_option maxRecDepth 100000
set_option maxHeartbeats 4000000
/-! ### I. Woods by their ties -/
namespace Wd
open PySem L2 Ow
structure WoodT (H : Hp) (wd : Addr) (m : Nat) (ts : List Tie) : Prop where
  ex : ∃ xs ys, WoodAt H wd m xs ys ∧ DnL H (ts.map Tie.toD) (xs ++ ys)
  ok : ∀ t ∈ ts, t.Ok m
  few : ts.length ≤ 900
  m9 : m ≤ 900
theorem WoodAt.same {H H' : Hp} {wd : Addr} {m : Int} {xs ys : List V} (s : Same H H') (h : WoodAt H wd m xs ys) : WoodAt H' wd m xs ys := by
  obtain ⟨tb, tc, h1, h2, h3⟩ := h.ex
  exact ⟨tb, tc, s _ _ h1, s _ _ h2, s _ _ h3⟩
theorem WoodT.same {H H' : Hp} {wd : Addr} {m : Nat} {ts : List Tie} (s : Same H H') (h : WoodT H wd m ts) : WoodT H' wd m ts := by
  obtain ⟨xs, ys, h1, h2⟩ := h.ex
  exact ⟨⟨xs, ys, WoodAt.same s h1, DnL.same s _ _ h2⟩, h.ok, h.few, h.m9⟩
def optN : Option Nat → V
  | none => .non
  | some i => .int (i : Int)
def wareB (ts : List Tie) (n : Nat) : Bool := n.testBit 0 && ts.all fun t => t.keep n
theorem optN_non (o : Option Nat) : decide (optN o = V.non) = decide (o = none) := by
  cases o <;> rfl
/-- all numbers of ties -/
def spEvery : Sp := fun vs H Q _ => ∃ (wd : Addr) (m : Nat) (ts : List Tie), vs = [.ref wd] ∧ WoodT H wd m ts ∧ ∀ (l : Addr) (H' : Hp), Same H H' → H l = none → H' l = some (.lst ((List.range ts.length).map fun i : Nat => V.int (i : Int))) → Q (.ref l) H'
end Wd

/-! ### Bits: sums and differences of sets -/
namespace Wd
theorem add_bits : ∀ (k a b : Nat), (∀ j, a.testBit j = true → b.testBit j = false) → (a + b).testBit k = (a.testBit k || b.testBit k)
  | k, a, b, h => by
    have h0 := h 0
    rw [Nat.testBit_zero, Nat.testBit_zero] at h0
    have p : a % 2 + b % 2 ≤ 1 := by
      by_cases z : a % 2 = 1
      · have := h0 (decide_eq_true z)
        have := of_decide_eq_false this
        omega
      · omega
    cases k with
    | zero =>
      rw [Nat.testBit_zero, Nat.testBit_zero, Nat.testBit_zero]
      by_cases z : a % 2 = 1
      · rw [decide_eq_true z, decide_eq_true (by omega), Bool.true_or]
      · rw [decide_eq_false z, Bool.false_or]
        by_cases y : b % 2 = 1
        · rw [decide_eq_true y, decide_eq_true (by omega)]
        · rw [decide_eq_false y, decide_eq_false (by omega)]
    | succ k =>
      rw [Nat.testBit_add_one, Nat.testBit_add_one, Nat.testBit_add_one]
      have e : (a + b) / 2 = a / 2 + b / 2 := by omega
      rw [e]
      refine add_bits k (a / 2) (b / 2) fun j hj => ?_
      have := h (j + 1)
      rw [Nat.testBit_add_one, Nat.testBit_add_one] at this
      exact this hj
theorem add_or {a b : Nat} (h : ∀ j, a.testBit j = true → b.testBit j = false) : a + b = a ||| b :=
  Nat.eq_of_testBit_eq fun k => by rw [add_bits k a b h, Nat.testBit_or]
theorem sub_bits : ∀ (k y a : Nat), (∀ j, a.testBit j = true → y.testBit j = true) → (y - a).testBit k = (y.testBit k && !a.testBit k)
  | k, y, a, h => by
    have le : a ≤ y := by
      have e : a = a &&& y := Nat.eq_of_testBit_eq fun j => by
        rw [Nat.testBit_and]
        cases e : a.testBit j with
        | false => rfl
        | true => rw [h j e]; rfl
      rw [e]
      exact Nat.and_le_right
    have h0 := h 0
    rw [Nat.testBit_zero, Nat.testBit_zero] at h0
    have p : a % 2 ≤ y % 2 := by
      by_cases z : a % 2 = 1
      · have := of_decide_eq_true (h0 (decide_eq_true z))
        omega
      · omega
    cases k with
    | zero =>
      rw [Nat.testBit_zero, Nat.testBit_zero, Nat.testBit_zero]
      by_cases z : a % 2 = 1
      · rw [decide_eq_true z, decide_eq_false (by omega)]; simp
      · rw [decide_eq_false z]
        by_cases x : y % 2 = 1
        · rw [decide_eq_true x, decide_eq_true (by omega)]; rfl
        · rw [decide_eq_false x, decide_eq_false (by omega)]; rfl
    | succ k =>
      rw [Nat.testBit_add_one, Nat.testBit_add_one, Nat.testBit_add_one]
      have e : (y - a) / 2 = y / 2 - a / 2 := by omega
      rw [e]
      refine sub_bits k (y / 2) (a / 2) fun j hj => ?_
      have := h (j + 1)
      rw [Nat.testBit_add_one, Nat.testBit_add_one] at this
      exact this hj
theorem or_as_sum (a b : Nat) : a ||| b = a + (b - (a &&& b)) := by
  have hb : ∀ j, (b - (a &&& b)).testBit j = (b.testBit j && !(a &&& b).testBit j) := fun j => sub_bits j b (a &&& b) fun i hi => by
    rw [Nat.testBit_and, Bool.and_eq_true] at hi
    exact hi.2
  rw [add_or fun j hj => by rw [hb, Nat.testBit_and, hj]; cases b.testBit j <;> rfl]
  refine Nat.eq_of_testBit_eq fun j => ?_
  rw [Nat.testBit_or, Nat.testBit_or, hb, Nat.testBit_and]
  cases a.testBit j <;> cases b.testBit j <;> rfl
theorem bit_lt {s n k : Nat} (h : s < 2 ^ n) (hk : s.testBit k = true) : k < n := by
  by_cases z : k < n
  · exact z
  · have := Nat.testBit_lt_two_pow (Nat.lt_of_lt_of_le h (Nat.pow_le_pow_right (by decide) (Nat.le_of_not_lt z)))
    rw [this] at hk
    cases hk
theorem filter_range_succ (p : Nat → Bool) (i : Nat) : (List.range (i + 1)).filter p = (List.range i).filter p ++ (if p i = true then [i] else []) := by
  rw [List.range_succ, List.filter_append]
  congr 1
  by_cases h : p i = true <;> simp [h]
theorem cnt_sum (s : Nat) : ∀ ks : List Nat, (ks.map fun k => if s.testBit k = true then (1 : Int) else 0).sum = (cnt ks s : Nat)
  | [] => rfl
  | k :: r => by
    rw [List.map_cons, List.sum_cons, cnt_sum s r, cnt_cons]
    split <;> omega
/-! stands made finer -/
theorem bit_put (y k j : Nat) : (y ||| 2 ^ k).testBit j = (y.testBit j || decide (k = j)) := by rw [Nat.testBit_or, Nat.testBit_two_pow]
theorem inS_split {y n k s : Nat} : InS y n s ↔ InS (y ||| 2 ^ k) n s ∨ InS y (n ||| 2 ^ k) s := by
  constructor
  · rintro ⟨h1, h2⟩
    cases e : s.testBit k with
    | true =>
      refine .inl ⟨fun j hj => ?_, h2⟩
      rw [bit_put, Bool.or_eq_true, decide_eq_true_eq] at hj
      rcases hj with z | rfl
      · exact h1 j z
      · exact e
    | false =>
      refine .inr ⟨h1, fun j hj => ?_⟩
      rw [bit_put, Bool.or_eq_true, decide_eq_true_eq] at hj
      rcases hj with z | rfl
      · exact h2 j z
      · exact e
  · rintro (⟨h1, h2⟩ | ⟨h1, h2⟩)
    · exact ⟨fun j hj => h1 j (by rw [bit_put, hj, Bool.true_or]), h2⟩
    · exact ⟨h1, fun j hj => h2 j (by rw [bit_put, hj, Bool.true_or])⟩
theorem dj_one {y n k : Nat} (d : ∀ j, y.testBit j = true → n.testBit j = false) (hn : n.testBit k = false) : ∀ j, (y ||| 2 ^ k).testBit j = true → n.testBit j = false := fun j hj => by
  rw [bit_put, Bool.or_eq_true, decide_eq_true_eq] at hj
  rcases hj with z | rfl
  · exact d j z
  · exact hn
theorem dj_other {y n k : Nat} (d : ∀ j, y.testBit j = true → n.testBit j = false) (hy : y.testBit k = false) : ∀ j, y.testBit j = true → (n ||| 2 ^ k).testBit j = false := fun j hj => by
  rw [bit_put, d j hj, Bool.false_or]
  exact decide_eq_false fun z => by rw [← z, hy] at hj; cases hj
theorem inS_self {y n : Nat} (d : ∀ j, y.testBit j = true → n.testBit j = false) : InS y n y := ⟨fun _ z => z, fun k hk => by
  cases e : y.testBit k with
  | false => rfl
  | true => rw [d k e] at hk; cases hk⟩
theorem inS_full {m y n s : Nat} (full : ∀ k, k < m → (y ||| n).testBit k = true) (hs : InS y n s) (d : ∀ j, y.testBit j = true → n.testBit j = false) : ∀ k, k < m → s.testBit k = y.testBit k := fun k hk => by
  have h := full k hk
  rw [Nat.testBit_or, Bool.or_eq_true] at h
  rcases h with z | z
  · rw [z, hs.1 k z]
  · rw [hs.2 k z, (inS_self d).2 k z]
theorem sb_full {m : Nat} {t : Tie} (ok : t.Ok m) {y n : Nat} (d : ∀ j, y.testBit j = true → n.testBit j = false) (full : ∀ k, k < m → (y ||| n).testBit k = true) : t.sb y n = !t.keep y := by
  rw [Bool.eq_iff_iff, sb_iff ok d, Bool.not_eq_true']
  constructor
  · intro h
    exact h y (inS_self d)
  · intro h s hs
    rw [keep_congr ok (inS_full full hs d)]
    exact h
end Wd

set_option maxRecDepth 100000
set_option maxHeartbeats 4000000
/-! ### J. More forms of loops; bits of ints -/
namespace L2
open PySem
theorem op_eq_ints {X : Cx} (hu : X.A.units + 64 < cLine) : OpR X (compareOp .Eq) (fun x y H Q => ∃ (a b : Addr) (ns ms : List Int), x = .ref a ∧ y = .ref b ∧ SqL X.K H a (ns.map V.int) ∧ SqL X.K H b (ms.map V.int) ∧ Q (.bl (decide (ns = ms))) H) := by
  intro pins s σ H x y v u Q I rx ry h
  obtain ⟨a, b, ns, ms, rfl, rfl, ha, hb, q⟩ := h
  cases rx
  cases ry
  obtain ⟨xs, rv, p, _⟩ := I.list ha
  obtain ⟨ys, rv', p', _⟩ := I.list hb
  exact PySem.W.ke_eq_ints p.isList p'.isList (intsAre_of rv) (intsAre_of rv') hu ⟨.bl _, H, I, rfl, q⟩
theorem lc_range0 {k : Nat} {σ0 : St} {H : Hp} {g : TG} {tc : TT} {te : TE} {Q : VK} (Pv : Nat → List V → St → Hp → Prop) (h0 : Pv 0 [] σ0 H) (hz : ∀ i ys σ H, i ≤ k → Pv i ys σ H → ys.length ≤ sizeLine)
    (hs : ∀ i ys σ H, i < k → Pv i ys σ H → g (.int (i : Int)) σ H fun σ3 H3 => tc σ3 H3 fun b H4 => if b = true then te σ3 H4 fun v H5 => Pv (i + 1) (ys ++ [v]) σ3 H5 else Pv (i + 1) ys σ3 H4)
    (hd : ∀ ys σ H, Pv k ys σ H → ∀ p, H p = none → Q (.ref p) (upd H p (.lst ys))) :
    lcGo (Itr 0 k) g tc te σ0 H Q :=
  lc_range (lo := 0) Pv h0 hz (fun i ys σ H hi p => by rw [Int.zero_add]; exact hs i ys σ H hi p) hd
theorem for_range0 {n : Nat} {g : TG} {tb : TS} {D : Ends} {σ : St} {H : Hp} (Pv : Nat → St → Hp → Prop) (h0 : Pv 0 σ H)
    (hs : ∀ i σ H, i < n → Pv i σ H → g (.int (i : Int)) σ H fun σ2 H2 => tb { D with nx := Pv (i + 1), ct := Pv (i + 1), bk := D.nx } σ2 H2) (hd : ∀ σ H, Pv n σ H → D.nx σ H) :
    ∃ W : Nat → Nat → St → Hp → Prop, (∃ m, W 0 m σ H) ∧ ∀ i m σ H, W i m σ H →
      ((Itr 0 n).stop i H ∧ D.nx σ H) ∨ ((Itr 0 n).go i H ∧ ∃ N : St → Hp → Prop, (∀ σ' H', N σ' H' → ∃ m', m' < m ∧ W (i + 1) m' σ' H') ∧ ∀ x H', (Itr 0 n).yld i H x H' → g x σ H' fun σ2 H2 => tb { D with nx := N, ct := N, bk := D.nx } σ2 H2) :=
  for_range (lo := 0) Pv h0 (fun i σ H hi p => by rw [Int.zero_add]; exact hs i σ H hi p) hd
end L2
namespace Wd
open PySem L2 Ow
theorem land_nat (a b : Nat) : Builtin.bitAnd (a : Int) (b : Int) = ((a &&& b : Nat) : Int) := by
  rw [PyProof.Rows.bitAnd_pp (by omega) (by omega), Int.toNat_natCast, Int.toNat_natCast]
theorem lor_nat (a b : Nat) : Builtin.bitOr (a : Int) (b : Int) = ((a ||| b : Nat) : Int) := by
  have le : a &&& b ≤ b := Nat.and_le_right
  rw [PyProof.Rows.bitOr_and, PyProof.Rows.bitAnd_pp (by omega) (by omega), Int.toNat_natCast, Int.toNat_natCast, or_as_sum]
  omega
theorem shl1 (k : Nat) : 1 * (2 : Int) ^ ((k : Nat) : Int).toNat = ((2 ^ k : Nat) : Int) := by
  rw [Int.one_mul, Int.toNat_natCast, Int.natCast_pow]
  rfl
theorem pow_pos2 (k : Nat) : 0 < 2 ^ k := Nat.pow_pos (by decide)
end Wd

set_option maxRecDepth 100000
set_option maxHeartbeats 4000000
/-! ### K. Ranges with a step -/
namespace L2
open PySem PySem.Spec PyProof.Rows
/-- // by a positive divisor of up to 9,000 bits -/
theorem op_fdivB {X : Cx} : OpR X (binaryOp .FloorDiv) (rI (fun _ j => 0 < j ∧ j.natAbs.log2 < 9000) fun i j => .int (i / j)) := opI fun i j _ _ _ _ _ hc q => by
  have h1 : (0 : Int) < j := hc.1
  exact floordiv_int (by omega) (by rw [Int.fdiv_eq_ediv_of_nonneg i (by omega)]; exact q) (.inl (PyProof.noPylong_of_log2 hc.2))
section
variable {X : Cx} {tg : Expr}
end
end L2
namespace Wd
open PySem L2
end Wd

set_option maxRecDepth 100000
set_option maxHeartbeats 4000000
/-! ### L. A pen that turns: a list of the script and a place -/
namespace Wd
open PySem L2 Ow
/-- all but the object at one address stays -/
def KpX (pen : Addr) (H H' : Hp) (b : Addr) : HO → Prop
  | .tbl _ => (∃ ps, H' b = some (.tbl ps)) ∧ (TabOk H b → (∃ ys, H pen = some (.lst ys)) → TabOk H' b ∧ ∃ ys, H' pen = some (.lst ys))
  | o => H' b = some o
/-- all but the pen is as it was; tables of code may have grown -/
def SameX (pen : Addr) (H H' : Hp) : Prop := ∀ b o, b ≠ pen → H b = some o → KpX pen H H' b o
theorem KpX.some {pen : Addr} {H H' : Hp} {b : Addr} {o : HO} (k : KpX pen H H' b o) : ∃ u, H' b = some u := by
  cases o
  case tbl ps => exact ⟨_, k.1.choose_spec⟩
  all_goals exact ⟨_, k⟩
theorem SameX.refl (pen : Addr) (H : Hp) : SameX pen H H := fun _ o _ h => by
  cases o
  case tbl ps => exact ⟨⟨_, h⟩, fun a b => ⟨a, b⟩⟩
  all_goals exact h
theorem SameX.trans {pen : Addr} {H H1 H2 : Hp} (a : SameX pen H H1) (b : SameX pen H1 H2) : SameX pen H H2 := fun c o n h => by
  have z := a c o n h
  cases o
  case tbl ps =>
    obtain ⟨⟨qs, hq⟩, k⟩ := z
    obtain ⟨q2, k2⟩ := b c _ n hq
    exact ⟨q2, fun t y => k2 (k t y).1 (k t y).2⟩
  all_goals exact b c _ n z
theorem Same.x {pen : Addr} {H H' : Hp} (s : Same H H') : SameX pen H H' := fun b o _ h => by
  have z := s b o h
  cases o
  case tbl ps => exact ⟨z.1, fun t ⟨ys, y⟩ => ⟨z.2 t, ys, s pen _ y⟩⟩
  all_goals exact z
theorem sameX_pen {pen : Addr} {H : Hp} (o : HO) (ho : ∃ ys, o = .lst ys := by exact ⟨_, rfl⟩) : SameX pen H (upd H pen o) := fun b u n h => by
  cases u
  case tbl ps =>
    refine ⟨⟨ps, by rw [upd_ne n]; exact h⟩, ?_⟩
    rintro ⟨qs, hq, tr, hp⟩ ⟨ys, hy⟩
    obtain ⟨zs, rfl⟩ := ho
    refine ⟨⟨qs, by rw [upd_ne n]; exact hq, tr, fun pos => ?_⟩, ⟨zs, upd_same⟩⟩
    rcases hp pos with z | ⟨c, z1, z2⟩
    · exact .inl z
    · refine .inr ⟨c, z1, ?_⟩
      rw [upd_ne fun z => by rw [z, hy] at z2; cases z2]
      exact z2
  all_goals (show upd H pen o b = _; rw [upd_ne n]; exact h)
/-- a list that is new is written -/
theorem Same.put {H H1 : Hp} {p : Addr} {xs : List V} {o : HO} (s : Same H H1) (n : H p = none) (e : H1 p = some (.lst xs)) : Same H (upd H1 p o) := fun b u hb => by
  have ne : b ≠ p := ne_of_none hb n
  have z := s b u hb
  cases u
  case tbl ps =>
    refine ⟨⟨z.1.choose, by rw [upd_ne ne]; exact z.1.choose_spec⟩, fun t => ?_⟩
    obtain ⟨qs, hq, tr, hp⟩ := z.2 t
    refine ⟨qs, by rw [upd_ne ne]; exact hq, tr, fun pos => ?_⟩
    rcases hp pos with y | ⟨c, y1, y2⟩
    · exact .inl y
    · refine .inr ⟨c, y1, ?_⟩
      rw [upd_ne fun z => by rw [z, e] at y2; cases y2]
      exact y2
  all_goals (show upd H1 p o b = _; rw [upd_ne ne]; exact z)
theorem SameX.put {pen : Addr} {H H1 : Hp} {p : Addr} {xs : List V} {o : HO} (s : SameX pen H H1) (n : H p = none) (np : p ≠ pen) (e : H1 p = some (.lst xs)) : SameX pen H (upd H1 p o) := fun b u nb hb => by
  have ne : b ≠ p := ne_of_none hb n
  have z := s b u nb hb
  cases u
  case tbl ps =>
    refine ⟨⟨z.1.choose, by rw [upd_ne ne]; exact z.1.choose_spec⟩, fun t y => ?_⟩
    obtain ⟨⟨qs, hq, tr, hp⟩, ys, hy⟩ := z.2 t y
    refine ⟨⟨qs, by rw [upd_ne ne]; exact hq, tr, fun pos => ?_⟩, ys, by rw [upd_ne (Ne.symm np)]; exact hy⟩
    rcases hp pos with y | ⟨c, y1, y2⟩
    · exact .inl y
    · refine .inr ⟨c, y1, ?_⟩
      rw [upd_ne fun z => by rw [z, e] at y2; cases y2]
      exact y2
  all_goals (show upd H1 p o b = _; rw [upd_ne ne]; exact z)
theorem SameX.tab {pen P : Addr} {H H' : Hp} {ys : List V} (s : SameX pen H H') (hp : H pen = some (.lst ys)) (t : TabOk H P) : TabOk H' P := by
  obtain ⟨ps, h, _⟩ := id t
  exact ((s P _ (fun z => by rw [z, hp] at h; cases h) h).2 t ⟨ys, hp⟩).1
theorem SameX.free {pen l : Addr} {H H' : Hp} (s : SameX pen H H') (hp : ∃ o, H' pen = some o) (h : H' l = none) : H l = none := by
  cases q : H l with
  | none => rfl
  | some o =>
    obtain ⟨o', e⟩ := hp
    have n : l ≠ pen := fun z => by rw [z, e] at h; cases h
    obtain ⟨u, z⟩ := (s l o n q).some
    rw [z] at h
    cases h
structure Pen (K : PySem.W.Frag) (H : Hp) (pen sp : Addr) (ns : List Int) (k : Int) : Prop where
  at_ : H pen = some (.lst [.ref sp, .int k])
  len : ns.length ≤ 63
  scr : ∀ H', SameX pen H H' → SqL K H' sp (ns.map V.int)
theorem Pen.to {K : PySem.W.Frag} {H H' : Hp} {pen sp : Addr} {ns : List Int} {k k' : Int} (p : Pen K H pen sp ns k) (s : SameX pen H H') (e : H' pen = some (.lst [.ref sp, .int k'])) : Pen K H' pen sp ns k' :=
  ⟨e, p.len, fun H2 s2 => p.scr H2 (s.trans s2)⟩
theorem DnL.pen {H : Hp} {p : Addr} {xs ys : List V} (h : H p = some (.lst xs)) {n : Nat} {ds : List PyData} {vs : List V} (f : ds.all (flatD n) = true) (q : DnL H ds vs) : DnL (upd H p (.lst ys)) ds vs := DnL.keepT (Dn.keepT (keep_lst h) n) ds vs f q
/-- tuples of H stay in H' -/
def TupS (H H' : Hp) : Prop := ∀ b xs, H b = some (.tup xs) → H' b = some (.tup xs)
theorem SameX.tup {pen : Addr} {H H' : Hp} {ys : List V} (e : H pen = some (.lst ys)) (s : SameX pen H H') : TupS H H' := fun b xs h => s b _ (fun z => by rw [z, e] at h; cases h) h
theorem DnL.tupS {H H' : Hp} (t : TupS H H') {n : Nat} {ds : List PyData} {vs : List V} (f : ds.all (flatD n) = true) (q : DnL H ds vs) : DnL H' ds vs := DnL.keepT (Dn.keepT t n) ds vs f q
def spCellP (K : PySem.W.Frag) : Sp := fun vs H Q _ => ∃ (sp : Addr) (ns : List Int) (k : Int), vs = [.ref sp, .int k] ∧ SqL K H sp (ns.map V.int) ∧ ns.length ≤ 63 ∧ 0 ≤ k ∧ k ≤ 1000000 ∧ ∀ c : Int, Q (.int c) H
def spNext (K : PySem.W.Frag) : Sp := fun vs H Q _ => ∃ (pen sp : Addr) (ns : List Int) (most k : Int), vs = [.ref pen, .int most] ∧ Pen K H pen sp ns k ∧ 0 ≤ k ∧ k ≤ 1000000 ∧ 0 < most ∧ ∀ c : Int, 0 ≤ c → c < most → Q (.int c) (L2.upd H pen (.lst [.ref sp, .int (k + 1)]))
theorem emod_le' {a b : Int} (ha : 0 ≤ a) (hb : 0 < b) : a % b ≤ a := by
  obtain ⟨n, rfl⟩ := Int.eq_ofNat_of_zero_le ha
  obtain ⟨m, rfl⟩ := Int.eq_ofNat_of_zero_le (Int.le_of_lt hb)
  rw [← Int.natCast_emod]
  exact Int.ofNat_le.mpr (Nat.mod_le n m)
theorem cut_rotV (xs : List V) (t : Nat) (h : t ≤ xs.length) : cutV xs (some (t : Int)) none ++ cutV xs none (some (t : Int)) = xs.drop t ++ xs.take t := by
  have := cut_rot (fun x : V => x) xs t h
  simpa using this
theorem DnL.drop {H : Hp} : ∀ {ds : List PyData} {xs : List V} (t : Nat), DnL H ds xs → DnL H (ds.drop t) (xs.drop t)
  | _, _, 0, h => h
  | [], xs, t + 1, h => by rw [(show xs = [] from h)]; exact rfl
  | d :: ds, _, t + 1, ⟨x, r, e, q, z⟩ => by rw [e]; exact DnL.drop t z
theorem DnL.take {H : Hp} : ∀ {ds : List PyData} {xs : List V} (t : Nat), DnL H ds xs → DnL H (ds.take t) (xs.take t)
  | _, _, 0, h => by rw [List.take_zero, List.take_zero]; exact rfl
  | [], xs, t + 1, h => by rw [(show xs = [] from h)]; exact rfl
  | d :: ds, _, t + 1, ⟨x, r, e, q, z⟩ => by rw [e]; exact ⟨x, _, rfl, q, DnL.take t z⟩
theorem rot_mem {α : Type} {l : List α} {t : Nat} {x : α} (h : x ∈ l.drop t ++ l.take t) : x ∈ l := by
  rcases List.mem_append.mp h with z | z
  · exact List.mem_of_mem_drop z
  · exact List.mem_of_mem_take z
theorem rot_perm {α : Type} (l : List α) (t : Nat) : (l.drop t ++ l.take t).Perm l := by
  have e : l = l.take t ++ l.drop t := (List.take_append_drop t l).symm
  exact List.Perm.trans List.perm_append_comm (by rw [← e])
theorem GoodB.rot {m : Int} {bs : List PyData} (G : GoodB m bs) (t : Nat) : GoodB m (bs.drop t ++ bs.take t) :=
  ⟨fun b hb => G.each b (rot_mem hb), (List.Perm.flatMap_right _ (rot_perm bs t)).trans G.kids⟩
def spKidsP (K : PySem.W.Frag) : Sp := fun vs H Q _ => ∃ (pen sp : Addr) (ns : List Int) (m : Nat) (k : Int), vs = [.ref pen, .int m] ∧ Pen K H pen sp ns k ∧ 0 ≤ k ∧ k ≤ 900000 ∧ 1 ≤ m ∧ m ≤ 9 ∧
  ∀ (g : Addr) (gs : List Grp) (k' : Int) (H' : Hp), SameX pen H H' → H' pen = some (.lst [.ref sp, .int k']) → k ≤ k' → k' ≤ k + 30 → GAt H H' g gs → GOk (m : Int) gs → Q (.ref g) H'
def spBoughP (K : PySem.W.Frag) : Sp := fun vs H Q _ => ∃ (pen sp : Addr) (ns : List Int) (l : Addr) (u : Int) (kids : List Int) (m : Int) (k : Int), vs = [.ref pen, .int u, .ref l] ∧ Pen K H pen sp ns k ∧ 0 ≤ k ∧ k ≤ 900000 ∧ H l = some (.lst (kids.map V.int)) ∧ l ≠ pen ∧ kids.length ≤ 9 ∧ 0 ≤ u ∧ kids ≠ [] ∧ rising m (kids.map PyData.int) u = true ∧
  ∀ (d : PyData) (v : V) (k' : Int) (H' : Hp), SameX pen H H' → H' pen = some (.lst [.ref sp, .int k']) → k ≤ k' → k' ≤ k + 3 → Dn H' d v → isBough m d = true → flatD 3 d = true → kidsOf d = kids → Q v H'
def spCrossP (K : PySem.W.Frag) : Sp := fun vs H Q _ => ∃ (pen sp : Addr) (ns : List Int) (m : Nat) (k : Int), vs = [.ref pen, .int m] ∧ Pen K H pen sp ns k ∧ 0 ≤ k ∧ k ≤ 900000 ∧ 1 ≤ m ∧ m ≤ 9 ∧
  ∀ (d : PyData) (v : V) (k' : Int) (H' : Hp), SameX pen H H' → H' pen = some (.lst [.ref sp, .int k']) → k ≤ k' → k' ≤ k + 6 → Dn H' d v → isTie m d = true → flatD 3 d = true → Q v H'
/-- a wood laid as data -/
structure WoodX (H : Hp) (wd : Addr) (m : Nat) (bs cs : List PyData) : Prop where
  ex : ∃ xs ys, WoodAt H wd m xs ys ∧ DnL H bs xs ∧ DnL H cs ys
  gb : GoodB m bs
  gc : ∀ c ∈ cs, isTie m c = true
  b8 : bs.length ≤ 9
  c8 : cs.length ≤ 20
  fb : bs.all (flatD 3) = true
  fc : cs.all (flatD 3) = true
  m1 : 1 ≤ m
  m9 : m ≤ 9
theorem WoodX.tupS {H H' : Hp} {wd : Addr} {m : Nat} {bs cs : List PyData} (t : TupS H H') (h : WoodX H wd m bs cs) : WoodX H' wd m bs cs := by
  obtain ⟨xs, ys, ⟨tb, tc, h1, h2, h3⟩, db, dc⟩ := h.ex
  exact ⟨⟨xs, ys, ⟨tb, tc, t _ _ h1, t _ _ h2, t _ _ h3⟩, DnL.tupS t h.fb db, DnL.tupS t h.fc dc⟩, h.gb, h.gc, h.b8, h.c8, h.fb, h.fc, h.m1, h.m9⟩
theorem WoodX.ties {H : Hp} {wd : Addr} {m : Nat} {bs cs : List PyData} (h : WoodX H wd m bs cs) : ∃ ts : List Tie, bs ++ cs = ts.map Tie.toD ∧ (∀ t ∈ ts, t.Ok m) ∧ ts.length ≤ 29 ∧ ∀ H', TupS H H' → WoodT H' wd m ts := by
  obtain ⟨ts, ets, okt⟩ := list_ties (P := fun t => t.Ok m) (l := bs ++ cs) fun x hx => by
    rcases List.mem_append.mp hx with z | z
    · exact bough_tie (h.gb.each x z)
    · exact cross_tie (h.gc x z)
  have lt : ts.length = bs.length + cs.length := by rw [← List.length_append, ets, List.length_map]
  have b8 := h.b8
  have c8 := h.c8
  have m9 := h.m9
  refine ⟨ts, ets, okt, by omega, fun H' t => ?_⟩
  obtain ⟨xs, ys, WA, db, dc⟩ := (h.tupS t).ex
  exact ⟨⟨xs, ys, WA, by rw [← ets]; exact db.append dc⟩, okt, by omega, by omega⟩
def spWoodP (K : PySem.W.Frag) : Sp := fun vs H Q _ => ∃ (pen sp : Addr) (ns : List Int) (m : Nat) (most k : Int), vs = [.ref pen, .int m, .int most] ∧ Pen K H pen sp ns k ∧ 0 ≤ k ∧ k ≤ 800000 ∧ 1 ≤ m ∧ m ≤ 9 ∧ 0 ≤ most ∧ most ≤ 8 ∧
  ∀ (wd : Addr) (bs cs : List PyData) (k' : Int) (H' : Hp), SameX pen H H' → H' pen = some (.lst [.ref sp, .int k']) → k ≤ k' → k' ≤ k + 300 → WoodX H' wd m bs cs → (cs.length : Int) ≤ most → Q (.ref wd) H'
def spCrossedP (K : PySem.W.Frag) : Sp := fun vs H Q _ => ∃ (pen sp : Addr) (ns : List Int) (wd : Addr) (m : Nat) (bs cs : List PyData) (k : Int), vs = [.ref pen, .ref wd] ∧ Pen K H pen sp ns k ∧ 0 ≤ k ∧ k ≤ 800000 ∧ WoodX H wd m bs cs ∧ cs.length ≤ 8 ∧
  ∀ (wd' : Addr) (cs' : List PyData) (k' : Int) (H' : Hp), SameX pen H H' → H' pen = some (.lst [.ref sp, .int k']) → k ≤ k' → k' ≤ k + 300 → WoodX H' wd' m bs cs' → cs'.length ≤ 8 → Q (.ref wd') H'
theorem _root_.Ow.GAt.add2 {H0 H : Hp} {g l t : Addr} {gs : List Grp} {u k : Int} (G : GAt H0 H g gs) (hf : H0 l = none) (hl : H l = none) (ht : upd H l (.lst [.int k]) t = none) :
    GAt H0 (upd (upd (upd H l (.lst [.int k])) t (.tup [.int u, .ref l])) g (.lst ((gs.map fun x => V.ref x.t) ++ [.ref t]))) g (gs ++ [⟨t, u, l, [k]⟩]) := by
  have ngl : g ≠ l := ne_of_none G.at_ hl
  have s1 := same_new hl (.lst [.int k])
  have s2 := s1.trans (same_new ht (.tup [.int u, .ref l]))
  have ntl : t ≠ l := fun z => by rw [z, upd_same] at ht; cases ht
  have ngt : g ≠ t := ne_of_none (s1 _ _ G.at_) ht
  refine ⟨?_, G.new, fun x hx => ?_, fun x hx => ?_, ?_⟩
  · rw [upd_same, List.map_append]
    rfl
  · rcases List.mem_append.mp hx with z | z
    · rw [upd_ne (ne_of (G.tup x z) G.at_ (by intro q; cases q))]
      exact s2 _ _ (G.tup x z)
    · rw [List.mem_singleton.mp z]
      show L2.upd _ g _ t = _
      rw [upd_ne (Ne.symm ngt), upd_same]
  · rcases List.mem_append.mp hx with z | z
    · obtain ⟨a, b, c⟩ := G.lst x z
      refine ⟨?_, b, c⟩
      rw [upd_ne (Ne.symm c)]
      exact s2 _ _ a
    · rw [List.mem_singleton.mp z]
      refine ⟨?_, hf, ngl⟩
      show L2.upd _ g _ l = _
      rw [upd_ne (Ne.symm ngl), upd_ne (Ne.symm ntl), upd_same]
      rfl
  · rw [List.map_append]
    refine List.nodup_append.mpr ⟨G.nd, by simp, fun x hx y hy => ?_⟩
    obtain ⟨z, hz, rfl⟩ := List.mem_map.mp hx
    have e : y = l := by simpa using hy
    rw [e]
    exact ne_of_none (G.lst z hz).1 hl
/-- the groups stay when the pen turns -/
theorem _root_.Ow.GAt.pen {H0 H : Hp} {g pen : Addr} {gs : List Grp} {xs ys : List V} (G : GAt H0 H g gs) (h0 : ∃ o, H0 pen = some o) (h : H pen = some (.lst xs)) : GAt H0 (L2.upd H pen (.lst ys)) g gs := by
  obtain ⟨o, e0⟩ := h0
  refine ⟨?_, G.new, fun x hx => ?_, fun x hx => ?_, G.nd⟩
  · rw [upd_ne (fun z => by rw [← z, G.new] at e0; cases e0)]
    exact G.at_
  · rw [upd_ne (ne_of (G.tup x hx) h (by intro q; cases q))]
    exact G.tup x hx
  · obtain ⟨a, b, c⟩ := G.lst x hx
    refine ⟨?_, b, c⟩
    rw [upd_ne (fun z => by rw [← z, b] at e0; cases e0)]
    exact a
end Wd

/-! ### Trees of cases and first sets: the mathematics -/
namespace Wd
def keepAt (ts : List Tie) (i s : Nat) : Bool := match ts[i]? with
  | some t => t.keep s
  | none => true
def sbAt (ts : List Tie) (i y n : Nat) : Bool := match ts[i]? with
  | some t => t.sb y n
  | none => false
def firstSB (ts : List Tie) (il : List Nat) (y n : Nat) : Option Nat := il.find? fun i => sbAt ts i y n
def openL (m y n : Nat) : List Nat := (List.range m).filter fun k => !(y ||| n).testBit k
theorem mem_open {m y n k : Nat} : k ∈ openL m y n ↔ k < m ∧ y.testBit k = false ∧ n.testBit k = false := by
  unfold openL
  rw [List.mem_filter, List.mem_range, Bool.not_eq_true', Nat.testBit_or, Bool.or_eq_false_iff]
theorem open_one (m y n k : Nat) : openL m (y ||| 2 ^ k) n = (openL m y n).filter fun j => !decide (k = j) := by
  unfold openL
  rw [List.filter_filter]
  refine List.filter_congr fun j _ => ?_
  rw [Nat.testBit_or, bit_put, Nat.testBit_or]
  cases y.testBit j <;> cases n.testBit j <;> cases decide (k = j) <;> rfl
theorem open_other (m y n k : Nat) : openL m y (n ||| 2 ^ k) = (openL m y n).filter fun j => !decide (k = j) := by
  unfold openL
  rw [List.filter_filter]
  refine List.filter_congr fun j _ => ?_
  rw [Nat.testBit_or, bit_put, Nat.testBit_or]
  cases y.testBit j <;> cases n.testBit j <;> cases decide (k = j) <;> rfl
theorem filter_less {l : List Nat} {k : Nat} (h : k ∈ l) : (l.filter fun j => !decide (k = j)).length < l.length := by
  refine Nat.lt_of_le_of_ne (List.length_filter_le _ _) fun e => ?_
  have := List.length_filter_eq_length_iff.mp e k h
  simp at this
theorem open_less1 {m y n k : Nat} (h : k ∈ openL m y n) : (openL m (y ||| 2 ^ k) n).length < (openL m y n).length := by
  rw [open_one]; exact filter_less h
theorem open_less2 {m y n k : Nat} (h : k ∈ openL m y n) : (openL m y (n ||| 2 ^ k)).length < (openL m y n).length := by
  rw [open_other]; exact filter_less h
theorem open_few (m y n : Nat) : (openL m y n).length ≤ m := by
  refine Nat.le_trans (List.length_filter_le _ _) ?_
  rw [List.length_range]
  exact Nat.le_refl _
theorem put_lt {m y k : Nat} (h : y < 2 ^ m) (hk : k < m) : y ||| 2 ^ k < 2 ^ m := by
  refine Nat.lt_pow_two_of_testBit _ fun i hi => ?_
  rw [bit_put, Nat.testBit_lt_two_pow (Nat.lt_of_lt_of_le h (Nat.pow_le_pow_right (by decide) hi)), Bool.false_or]
  exact decide_eq_false (by omega)
theorem lt_of_bits {x y : Nat} (k : Nat) (hx : x.testBit k = false) (hy : y.testBit k = true) (h : ∀ j, k < j → x.testBit j = y.testBit j) : x < y := by
  have e : x / 2 ^ (k + 1) = y / 2 ^ (k + 1) := Nat.eq_of_testBit_eq fun j => by
    rw [← Nat.testBit_add, ← Nat.testBit_add]
    exact h _ (by omega)
  have r1 : x % 2 ^ (k + 1) < 2 ^ k := Nat.lt_pow_two_of_testBit _ fun i hi => by
    rw [Nat.testBit_mod_two_pow]
    by_cases z : i = k
    · rw [z, hx, Bool.and_false]
    · rw [decide_eq_false (by omega), Bool.false_and]
  have r2 : 2 ^ k ≤ y % 2 ^ (k + 1) := Nat.ge_two_pow_of_testBit (by
    rw [Nat.testBit_mod_two_pow, hy, decide_eq_true (by omega)]; rfl)
  have d1 := Nat.div_add_mod x (2 ^ (k + 1))
  have d2 := Nat.div_add_mod y (2 ^ (k + 1))
  rw [e] at d1
  omega
theorem eq_of_bits {m a b : Nat} (ha : a < 2 ^ m) (hb : b < 2 ^ m) (h : ∀ k, k < m → a.testBit k = b.testBit k) : a = b := by
  refine Nat.eq_of_testBit_eq fun k => ?_
  by_cases z : k < m
  · exact h k z
  · have : 2 ^ m ≤ 2 ^ k := Nat.pow_le_pow_right (by decide) (by omega)
    rw [Nat.testBit_lt_two_pow (by omega), Nat.testBit_lt_two_pow (by omega)]
def allKeep (ts : List Tie) (il : List Nat) (s : Nat) : Bool := il.all fun i => keepAt ts i s
structure Stand (m y n : Nat) : Prop where
  dj : ∀ k, y.testBit k = true → n.testBit k = false
  ym : y < 2 ^ m
  nm : n < 2 ^ m
theorem Stand.one {m y n k : Nat} (S : Stand m y n) (h : k ∈ openL m y n) : Stand m (y ||| 2 ^ k) n := by
  obtain ⟨km, ky, kn⟩ := mem_open.mp h
  exact ⟨dj_one S.dj kn, put_lt S.ym km, S.nm⟩
theorem Stand.other {m y n k : Nat} (S : Stand m y n) (h : k ∈ openL m y n) : Stand m y (n ||| 2 ^ k) := by
  obtain ⟨km, ky, kn⟩ := mem_open.mp h
  exact ⟨dj_other S.dj ky, S.ym, put_lt S.nm km⟩
theorem sbAt_keep {m : Nat} {ts : List Tie} (ok : ∀ t ∈ ts, t.Ok m) {i y n s : Nat} (dj : ∀ k, y.testBit k = true → n.testBit k = false) (h : sbAt ts i y n = true) (hs : InS y n s) : keepAt ts i s = false := by
  unfold sbAt at h
  unfold keepAt
  cases e : ts[i]? with
  | none => rw [e] at h; cases h
  | some t =>
    rw [e] at h
    exact (sb_iff (ok t (List.mem_of_getElem? e)) dj).mp h s hs
theorem keep_full {m : Nat} {ts : List Tie} (ok : ∀ t ∈ ts, t.Ok m) {i y n : Nat} (dj : ∀ k, y.testBit k = true → n.testBit k = false) (full : openL m y n = []) (h : sbAt ts i y n = false) : keepAt ts i y = true := by
  have hf : ∀ k, k < m → (y ||| n).testBit k = true := fun k hk => by
    cases e : (y ||| n).testBit k with
    | true => rfl
    | false =>
      rw [Nat.testBit_or, Bool.or_eq_false_iff] at e
      have := mem_open.mpr ⟨hk, e.1, e.2⟩
      rw [full] at this
      cases this
  unfold sbAt at h
  unfold keepAt
  cases e : ts[i]? with
  | none => rfl
  | some t =>
    rw [e] at h
    have h' : t.sb y n = false := h
    rw [sb_full (ok t (List.mem_of_getElem? e)) dj hf] at h'
    show t.keep y = true
    simpa using h'
theorem stand_full {m y n s : Nat} (S : Stand m y n) (full : openL m y n = []) (hs : InS y n s) (sm : s < 2 ^ m) : s = y := by
  refine eq_of_bits sm S.ym fun k hk => ?_
  refine inS_full (m := m) (fun j hj => ?_) hs S.dj k hk
  cases e : (y ||| n).testBit j with
  | true => rfl
  | false =>
    rw [Nat.testBit_or, Bool.or_eq_false_iff] at e
    have := mem_open.mpr ⟨hj, e.1, e.2⟩
    rw [full] at this
    cases this
/-! first sets -/
def keepF (ts : List Tie) (il : List Nat) (m : Nat) : Nat → Nat → Nat → Option Nat
  | f, y, n => if (firstSB ts il y n).isSome = true then none else match (openL m y n).getLast?, f with
    | none, _ => some y
    | some _, 0 => none
    | some k, f + 1 => match keepF ts il m f y (n ||| 2 ^ k) with
      | some s => some s
      | none => keepF ts il m f (y ||| 2 ^ k) n
/-- the first set in a stand that keeps the named ties -/
def FirstK (ts : List Tie) (il : List Nat) (m y n : Nat) : Option Nat → Prop
  | some s => s < 2 ^ m ∧ InS y n s ∧ allKeep ts il s = true ∧ ∀ s', s' < 2 ^ m → InS y n s' → allKeep ts il s' = true → s ≤ s'
  | none => ∀ s', s' < 2 ^ m → InS y n s' → allKeep ts il s' = false
theorem firstSB_some {ts : List Tie} {il : List Nat} {y n i : Nat} (h : firstSB ts il y n = some i) : i ∈ il ∧ sbAt ts i y n = true :=
  ⟨List.mem_of_find?_eq_some h, List.find?_some (p := fun i => sbAt ts i y n) h⟩
theorem firstSB_none {ts : List Tie} {il : List Nat} {y n : Nat} (h : firstSB ts il y n = none) : ∀ i ∈ il, sbAt ts i y n = false := fun i hi => by
  have := List.find?_eq_none.mp h i hi
  simpa using this
theorem open_last {m y n k : Nat} (h : (openL m y n).getLast? = some k) : k ∈ openL m y n ∧ ∀ j ∈ openL m y n, j ≤ k := by
  have hp : (openL m y n).Pairwise (· < ·) := List.pairwise_lt_range.filter _
  refine ⟨List.mem_of_getLast? h, fun j hj => ?_⟩
  obtain ⟨l, e⟩ := List.getLast?_eq_some_iff.mp h
  rw [e] at hp hj
  rcases List.mem_append.mp hj with z | z
  · exact Nat.le_of_lt ((List.pairwise_append.mp hp).2.2 j z k (List.mem_singleton.mpr rfl))
  · exact Nat.le_of_eq (List.mem_singleton.mp z)
theorem keepF_first {m : Nat} {ts : List Tie} {il : List Nat} (ok : ∀ t ∈ ts, t.Ok m) : ∀ (f y n : Nat), (openL m y n).length ≤ f → Stand m y n → FirstK ts il m y n (keepF ts il m f y n)
  | f, y, n, hf, S => by
    unfold keepF
    cases hb : firstSB ts il y n with
    | some i =>
      obtain ⟨hi, hsb⟩ := firstSB_some hb
      intro s' sm hs
      cases e : allKeep ts il s' with
      | false => rfl
      | true =>
        have := (List.all_eq_true.mp e) i hi
        rw [sbAt_keep ok S.dj hsb hs] at this
        cases this
    | none =>
      have hn := firstSB_none hb
      simp only [Option.isSome_none, Bool.false_eq_true, if_false]
      cases hl : (openL m y n).getLast? with
      | none =>
        have full : openL m y n = [] := List.getLast?_eq_none_iff.mp hl
        refine ⟨S.ym, inS_self S.dj, List.all_eq_true.mpr fun i hi => keep_full ok S.dj full (hn i hi), fun s' sm hs _ => ?_⟩
        rw [stand_full S full hs sm]
        exact Nat.le_refl _
      | some k =>
        obtain ⟨hk, hmax⟩ := open_last hl
        cases f with
        | zero => rw [List.eq_nil_of_length_eq_zero (Nat.le_zero.mp hf)] at hk; cases hk
        | succ f =>
          have l1 := open_less1 hk
          have l2 := open_less2 hk
          have i1 := keepF_first (il := il) ok f y (n ||| 2 ^ k) (by omega) (S.other hk)
          have i2 := keepF_first (il := il) ok f (y ||| 2 ^ k) n (by omega) (S.one hk)
          dsimp only
          cases h1 : keepF ts il m f y (n ||| 2 ^ k) with
          | some s =>
            rw [h1] at i1
            obtain ⟨a1, a2, a3, a4⟩ := i1
            refine ⟨a1, inS_split.mpr (.inr a2), a3, fun s' sm hs hk' => ?_⟩
            rcases (inS_split (k := k)).mp hs with z | z
            · have kt : s'.testBit k = true := z.1 k (by rw [bit_put, decide_eq_true rfl, Bool.or_true])
              have kf : s.testBit k = false := a2.2 k (by rw [bit_put, decide_eq_true rfl, Bool.or_true])
              refine Nat.le_of_lt (lt_of_bits k kf kt fun j hj => ?_)
              by_cases jm : j < m
              · have hno : ¬ j ∈ openL m y n := fun z => by have := hmax j z; omega
                have hyn : y.testBit j = true ∨ n.testBit j = true := by
                  cases ey : y.testBit j with
                  | true => exact .inl rfl
                  | false =>
                    cases en : n.testBit j with
                    | true => exact .inr rfl
                    | false => exact absurd (mem_open.mpr ⟨jm, ey, en⟩) hno
                have hs0 := inS_split.mpr (.inr a2)
                rcases hyn with e | e
                · rw [hs0.1 j e, hs.1 j e]
                · rw [hs0.2 j e, hs.2 j e]
              · have : 2 ^ m ≤ 2 ^ j := Nat.pow_le_pow_right (by decide) (by omega)
                rw [Nat.testBit_lt_two_pow (by omega), Nat.testBit_lt_two_pow (by omega)]
            · exact a4 s' sm z hk'
          | none =>
            rw [h1] at i1
            show FirstK ts il m y n (keepF ts il m f (y ||| 2 ^ k) n)
            cases h2 : keepF ts il m f (y ||| 2 ^ k) n with
            | some s =>
              rw [h2] at i2
              obtain ⟨a1, a2, a3, a4⟩ := i2
              refine ⟨a1, inS_split.mpr (.inl a2), a3, fun s' sm hs hk' => ?_⟩
              rcases (inS_split (k := k)).mp hs with z | z
              · exact a4 s' sm z hk'
              · rw [i1 s' sm z] at hk'
                cases hk'
            | none =>
              rw [h2] at i2
              intro s' sm hs
              rcases (inS_split (k := k)).mp hs with z | z
              · exact i2 s' sm z
              · exact i1 s' sm z
theorem FirstK.unique {ts : List Tie} {il : List Nat} {m y n : Nat} {a b : Option Nat} (ha : FirstK ts il m y n a) (hb : FirstK ts il m y n b) : a = b := by
  cases a with
  | none =>
    cases b with
    | none => rfl
    | some s => have := ha s hb.1 hb.2.1; rw [hb.2.2.1] at this; cases this
  | some s =>
    cases b with
    | none => have := hb s ha.1 ha.2.1; rw [ha.2.2.1] at this; cases this
    | some s' =>
      have h1 := ha.2.2.2 s' hb.1 hb.2.1 hb.2.2.1
      have h2 := hb.2.2.2 s ha.1 ha.2.1 ha.2.2.1
      rw [Nat.le_antisymm h1 h2]
theorem keepF_split {ts : List Tie} {il : List Nat} {m f y n k : Nat} (hb : firstSB ts il y n = none) (ho : (openL m y n).getLast? = some k) : keepF ts il m (f + 1) y n = (match keepF ts il m f y (n ||| 2 ^ k) with | some s => some s | none => keepF ts il m f (y ||| 2 ^ k) n) := by
  conv => lhs; unfold keepF
  simp only [hb, ho, Option.isSome_none, Bool.false_eq_true, if_false]
theorem keepF_full {ts : List Tie} {il : List Nat} {m f y n : Nat} (hb : firstSB ts il y n = none) (ho : openL m y n = []) : keepF ts il m f y n = some y := by
  unfold keepF
  simp [hb, ho]
theorem keepF_broken {ts : List Tie} {il : List Nat} {m f y n i : Nat} (hb : firstSB ts il y n = some i) : keepF ts il m f y n = none := by
  unfold keepF
  simp [hb]
/-! trees of cases -/
inductive CT where
  | broken (t : Nat)
  | ware
  | split (k : Nat) (one other : CT)
def casesF (ts : List Tie) (il : List Nat) (m : Nat) : Nat → Nat → Nat → CT
  | f, y, n => match firstSB ts il y n with
    | some t => .broken t
    | none => match openL m y n, f with
      | [], _ => .ware
      | _ :: _, 0 => .ware
      | k :: _, f + 1 => .split k (casesF ts il m f (y ||| 2 ^ k) n) (casesF ts il m f y (n ||| 2 ^ k))
theorem casesF_split {ts : List Tie} {il r : List Nat} {m f y n k : Nat} (hb : firstSB ts il y n = none) (ho : openL m y n = k :: r) : casesF ts il m (f + 1) y n = .split k (casesF ts il m f (y ||| 2 ^ k) n) (casesF ts il m f y (n ||| 2 ^ k)) := by
  conv => lhs; unfold casesF
  simp only [hb, ho]
theorem casesF_full {ts : List Tie} {il : List Nat} {m f y n : Nat} (hb : firstSB ts il y n = none) (ho : openL m y n = []) : casesF ts il m f y n = .ware := by
  unfold casesF
  simp [hb, ho]
theorem casesF_broken {ts : List Tie} {il : List Nat} {m f y n i : Nat} (hb : firstSB ts il y n = some i) : casesF ts il m f y n = .broken i := by
  unfold casesF
  simp [hb]
def CT.depth : CT → Nat
  | .broken _ => 0
  | .ware => 0
  | .split _ a b => max a.depth b.depth + 1
theorem casesF_depth {ts : List Tie} {il : List Nat} {m : Nat} : ∀ (f y n : Nat), (casesF ts il m f y n).depth ≤ f
  | f, y, n => by
    unfold casesF
    cases firstSB ts il y n with
    | some t => exact Nat.zero_le _
    | none =>
      dsimp only
      cases openL m y n with
      | nil => exact Nat.zero_le _
      | cons k r =>
        cases f with
        | zero => exact Nat.zero_le _
        | succ f =>
          show max _ _ + 1 ≤ f + 1
          have h1 := casesF_depth (ts := ts) (il := il) (m := m) f (y ||| 2 ^ k) n
          have h2 := casesF_depth (ts := ts) (il := il) (m := m) f y (n ||| 2 ^ k)
          omega
end Wd

set_option maxRecDepth 100000
set_option maxHeartbeats 4000000
/-! ### M. Tuples joined, woods by named ties, trees as data -/
namespace L2
open PySem PySem.Spec PyProof.Rows
section
variable {X : Cx}
theorem cat_tup0 {prog : Program} {w : World} {A : Around} {E : Value → Shared → Prop} {s : Shared} {t b : Addr} {ws : List Value} {Q : Value → Shared → Prop} (ht : IsTup s.heap t ([] : List Value).toArray) (hb : IsTup s.heap b ws.toArray) (h : Q (.ref b) s) :
    wpAny (model prog w) A (binaryOp .Add (.ref t) (.ref b)) Q E s := by
  obtain ⟨⟨cls, dd, data, sl⟩, ho, hc, n, hd⟩ := id ht
  obtain ⟨⟨cls2, dd2, data2, sl2⟩, ho2, hc2, n2, hd2⟩ := id hb
  simp only at hc hd hc2 hd2
  subst hc hd hc2 hd2
  exact concat_meets ⟨_, ho, rfl⟩ ⟨_, ho2, rfl⟩ noFill_tuple_add seq_tuple_add PySem.F.slot_tuple_add PySem.F.entry_tuple_add (PySem.F.args_tuple_add_2 _ _)
    (tuple_addW0 t b ([] : List Value).toArray ws.toArray n n2 dd dd2 sl sl2 (by simp)) ⟨ho, ho2, h⟩
/-- two tuples joined, whichever is empty -/
theorem op_catTA : OpR X (binaryOp .Add) (fun x y H Q => ∃ a b xs ys, x = .ref a ∧ y = .ref b ∧ H a = some (.tup xs) ∧ H b = some (.tup ys) ∧ xs.length + ys.length ≤ sizeLine ∧ ∀ c H', Same H H' → H' c = some (.tup (xs ++ ys)) → Q (.ref c) H') := by
  intro pins s σ H x y v u Q I rx ry h
  obtain ⟨a, b, xs, ys, rfl, rfl, ha, hb, hz, q⟩ := h
  by_cases hx : xs = []
  · subst hx
    cases rx
    cases ry
    obtain ⟨its, r1, p1, _⟩ := I.tuple (.inl (.inl ha))
    obtain ⟨its2, r2, p2, _⟩ := I.tuple (.inl (.inl hb))
    cases r1
    exact cat_tup0 p1 p2 ⟨.ref b, H, I, rfl, q b H (Same.refl H) hb⟩
  · refine op_catT pins s σ H _ _ v u Q I rx ry ⟨a, b, xs, ys, rfl, rfl, .inl (.inl ha), .inl (.inl hb), hx, hz, fun e => ?_, fun _ p hp => ?_⟩
    · refine q a H (Same.refl H) ?_
      rw [e, List.append_nil]
      exact ha
    · exact q p _ (same_of fun b o e => by rw [upd_ne (ne_of_none e hp)]; exact e) upd_same
end
end L2
namespace Wd
open PySem L2 Ow
def CT.toD : CT → PyData
  | .broken t => .tuple [.str ("broken" : Str), .int (t : Int)]
  | .ware => .tuple [.str ("ware" : Str)]
  | .split k a b => .tuple [.str ("split" : Str), .int (k : Int), a.toD, b.toD]
abbrev natsL (l : List Nat) : List V := l.map fun k : Nat => V.int (k : Int)
theorem at_last (l : List Nat) (k : Nat) : atI (natsL (l ++ [k])) (-1) = some (.int (k : Int)) := by
  unfold atI ixN
  have e : (natsL (l ++ [k])).length = l.length + 1 := by rw [List.length_map, List.length_append, List.length_singleton]
  rw [e, if_neg (by decide), if_pos (by omega)]
  show (natsL (l ++ [k]))[((-1 : Int) + ((l.length + 1 : Nat) : Int)).toNat]? = _
  have e2 : ((-1 : Int) + ((l.length + 1 : Nat) : Int)).toNat = l.length := by omega
  rw [e2, natsL, List.getElem?_map, List.getElem?_append_right (Nat.le_refl _), Nat.sub_self]
  rfl
def spWithO : Sp := fun vs H Q _ => ∃ n k : Nat, vs = [.int n, .int k] ∧ k ≤ 1000 ∧ Q (.int ((n ||| 2 ^ k : Nat) : Int)) H
def spOpen : Sp := fun vs H Q _ => ∃ m y n : Nat, vs = [.int m, .int y, .int n] ∧ m ≤ 900 ∧ ∀ (l : Addr) (H' : Hp), Same H H' → H l = none → H' l = some (.lst (natsL (openL m y n))) → Q (.ref l) H'
def spFirstSB : Sp := fun vs H Q _ => ∃ (wd : Addr) (m : Nat) (ts : List Tie) (tl : Addr) (il : List Nat) (y n : Nat), vs = [.ref wd, .ref tl, .int y, .int n] ∧ WoodT H wd m ts ∧ H tl = some (.lst (natsL il)) ∧ (∀ i ∈ il, i < ts.length) ∧ ∀ H', Same H H' → Q (optN (firstSB ts il y n)) H'
def spCasesF (f : Nat) : Sp := fun vs H Q _ => ∃ (wd : Addr) (m : Nat) (ts : List Tie) (tl : Addr) (il : List Nat) (y n : Nat), vs = [.ref wd, .ref tl, .int y, .int n] ∧ WoodT H wd m ts ∧ H tl = some (.lst (natsL il)) ∧ (∀ i ∈ il, i < ts.length) ∧ (openL m y n).length ≤ f ∧ ∀ (v : V) (H' : Hp), Same H H' → Dn H' (casesF ts il m f y n).toD v → Q v H'
def spKeepF (f : Nat) : Sp := fun vs H Q _ => ∃ (wd : Addr) (m : Nat) (ts : List Tie) (tl : Addr) (il : List Nat) (y n : Nat), vs = [.ref wd, .ref tl, .int y, .int n] ∧ WoodT H wd m ts ∧ H tl = some (.lst (natsL il)) ∧ (∀ i ∈ il, i < ts.length) ∧ (openL m y n).length ≤ f ∧ ∀ H', Same H H' → Q (optN (keepF ts il m f y n)) H'
/-- the named ties of all of them -/
def allT (ts : List Tie) : List Nat := List.range ts.length
theorem allKeep_all (ts : List Tie) (s : Nat) : allKeep ts (allT ts) s = ts.all fun t => t.keep s := by
  unfold allKeep allT
  rw [Bool.eq_iff_iff, List.all_eq_true, List.all_eq_true]
  constructor
  · intro h t ht
    obtain ⟨i, hi, rfl⟩ := List.getElem_of_mem ht
    have := h i (List.mem_range.mpr hi)
    unfold keepAt at this
    rw [List.getElem?_eq_getElem hi] at this
    exact this
  · intro h i hi
    unfold keepAt
    rw [List.getElem?_eq_getElem (List.mem_range.mp hi)]
    exact h _ (List.getElem_mem _)
def spFirstW : Sp := fun vs H Q _ => ∃ (wd : Addr) (m : Nat) (ts : List Tie) (y n : Nat), vs = [.ref wd, .int y, .int n] ∧ WoodT H wd m ts ∧ m ≤ 9 ∧ 1 ≤ m ∧ Stand m y n ∧ ∀ H' o, Same H H' → (match o with | none => ∀ s, s < 2 ^ m → InS y n s → wareB ts s = false | some s => s < 2 ^ m ∧ InS y n s ∧ wareB ts s = true ∧ ∀ s', s' < 2 ^ m → InS y n s' → wareB ts s' = true → s ≤ s') → Q (optN o) H'
end Wd

set_option maxRecDepth 100000
set_option maxHeartbeats 4000000
/-! ### N. min of a list, a list against [] -/
namespace L2
open PySem PySem.Spec PyProof.Rows
section
variable {X : Cx}
/-- a list against an empty one -/
theorem op_eq_nil (hu : X.A.units + 64 < cLine) : OpR X (compareOp .Eq) (fun x y H Q => ∃ (a b : Addr) (xs : List V), x = .ref a ∧ y = .ref b ∧ H a = some (.lst xs) ∧ H b = some (.lst []) ∧ Q (.bl (decide (xs = []))) H) := by
  intro pins s σ H x y v u Q I rx ry h
  obtain ⟨a, b, xs, rfl, rfl, ha, hb, q⟩ := h
  by_cases hx : xs = []
  · subst hx
    refine op_eq_ints hu pins s σ H _ _ v u Q I rx ry ⟨a, b, [], [], rfl, rfl, SqL.of ha, SqL.of hb, ?_⟩
    exact q
  · cases rx
    cases ry
    obtain ⟨its, n, r1, e1, _⟩ := I.lst ha
    obtain ⟨its2, n2, r2, e2, _⟩ := I.lst hb
    cases r2
    have hl := r1.length
    rw [decide_eq_false hx] at q
    refine PySem.P.eq_list_lengths e1 e2 ?_ (by omega) ⟨.bl false, H, I, rfl, q⟩
    cases its with
    | nil => cases r1; exact absurd rfl hx
    | cons c r => simp
end
end L2
namespace Wd
open PySem L2 Ow
theorem scr_of {K : PySem.W.Frag} {H : Hp} {pen a : Addr} {xs : List V} {o : HO} (h : SqL K H a xs) (hp : H pen = none) : ∀ H', SameX pen (L2.upd H pen o) H' → SqL K H' a xs := fun H' s => by
  have keep : ∀ u, H a = some u → KpX pen (L2.upd H pen o) H' a u := fun u e => s a u (ne_of_none e hp) (by rw [upd_ne (ne_of_none e hp)]; exact e)
  rcases h with (h | ⟨u, h⟩) | h
  · exact .inl (.inl (keep _ h))
  · exact .inl (.inr ⟨u, keep _ h⟩)
  · exact .inr h
theorem pen_new {K : PySem.W.Frag} {H : Hp} {pen sp : Addr} {ns : List Int} (h : SqL K H sp (ns.map V.int)) (hl : ns.length ≤ 63) (hp : H pen = none) : Pen K (L2.upd H pen (.lst [.ref sp, .int 0])) pen sp ns 0 := ⟨upd_same, hl, scr_of h hp⟩
theorem cut_mem {xs : List V} {lo hi : Option Int} {x : V} (h : x ∈ cutV xs lo hi) : x ∈ xs := List.mem_of_mem_drop (List.mem_of_mem_take h)
/-- the first ware of a stand, as one of several ways tells it -/
def FirstWare (ts : List Tie) (m y n : Nat) : Option Nat → Prop
  | none => ∀ s, s < 2 ^ m → InS y n s → wareB ts s = false
  | some s => s < 2 ^ m ∧ InS y n s ∧ wareB ts s = true ∧ ∀ s', s' < 2 ^ m → InS y n s' → wareB ts s' = true → s ≤ s'
theorem land_yes {s y : Nat} : (s &&& y = y) ↔ ∀ k, y.testBit k = true → s.testBit k = true := by
  constructor
  · intro h k hk
    have : (s &&& y).testBit k = true := by rw [h]; exact hk
    rw [Nat.testBit_and, Bool.and_eq_true] at this
    exact this.1
  · intro h
    refine Nat.eq_of_testBit_eq fun k => ?_
    rw [Nat.testBit_and]
    cases e : y.testBit k with
    | false => rw [Bool.and_false]
    | true => rw [h k e]; rfl
theorem land_no {s n : Nat} : (s &&& n = 0) ↔ ∀ k, n.testBit k = true → s.testBit k = false := by
  constructor
  · intro h k hk
    cases e : s.testBit k with
    | false => rfl
    | true =>
      have : (s &&& n).testBit k = true := by rw [Nat.testBit_and, e, hk]; rfl
      rw [h, Nat.zero_testBit] at this
      cases this
  · intro h
    refine Nat.eq_of_testBit_eq fun k => ?_
    rw [Nat.testBit_and, Nat.zero_testBit]
    cases e : n.testBit k with
    | false => rw [Bool.and_false]
    | true => rw [h k e]; rfl
end Wd

set_option maxRecDepth 100000
set_option maxHeartbeats 4000000
/-! ### Comprehensions with cells of their own: an inner one reads their names -/
namespace L2
open PySem PySem.Spec PyProof.Rows
theorem cells_app : ∀ (names : List (Str × NameKind)) (n : Nat) (acc : List (Str × Addr)), cellsFrom n names acc = cellsFrom n names [] ++ acc
  | [], _, _ => rfl
  | (x, k) :: r, n, acc => by
    unfold cellsFrom
    split
    · rw [cells_app r (n + 1) ((x, n) :: acc), cells_app r (n + 1) [(x, n)], List.append_assoc]
      rfl
    · exact cells_app r n acc
theorem cells_mem {x : Str} {c : Addr} : ∀ {names : List (Str × NameKind)} {n : Nat}, (x, c) ∈ cellsFrom n names [] → (x, NameKind.cell) ∈ names
  | [], _, h => nomatch h
  | (y, k) :: r, n, h => by
    unfold cellsFrom at h
    split at h
    · rename_i hk
      rw [cells_app] at h
      rcases List.mem_append.mp h with z | z
      · exact List.mem_cons_of_mem _ (cells_mem z)
      · have e := List.mem_singleton.mp z
        cases e
        have hk' : k = .cell := by simpa using hk
        rw [hk']
        exact List.mem_cons_self
    · exact List.mem_cons_of_mem _ (cells_mem h)
theorem cells_has {x : Str} : ∀ {names : List (Str × NameKind)} {n : Nat}, (x, NameKind.cell) ∈ names → ∃ c, (x, c) ∈ cellsFrom n names []
  | [], _, h => nomatch h
  | (y, k) :: r, n, h => by
    unfold cellsFrom
    rcases List.mem_cons.mp h with e | h
    · cases e
      rw [if_pos (by decide), cells_app]
      exact ⟨n, List.mem_append_right _ (List.mem_singleton.mpr rfl)⟩
    · split
      · obtain ⟨c, hc⟩ := cells_has (n := n + 1) h
        rw [cells_app]
        exact ⟨c, List.mem_append_left _ hc⟩
      · exact cells_has h
theorem cells_ge {x : Str} {c : Addr} : ∀ {names : List (Str × NameKind)} {n : Nat}, (x, c) ∈ cellsFrom n names [] → n ≤ c
  | [], _, h => nomatch h
  | (y, k) :: r, n, h => by
    unfold cellsFrom at h
    split at h
    · rw [cells_app] at h
      rcases List.mem_append.mp h with z | z
      · exact Nat.le_of_succ_le (cells_ge z)
      · have e := List.mem_singleton.mp z
        cases e
        exact Nat.le_refl _
    · exact cells_ge h
theorem cells_inj {x y : Str} {c : Addr} : ∀ {names : List (Str × NameKind)} {n : Nat}, (x, c) ∈ cellsFrom n names [] → (y, c) ∈ cellsFrom n names [] → x = y
  | [], _, h, _ => nomatch h
  | (z, k) :: r, n, h1, h2 => by
    unfold cellsFrom at h1 h2
    split at h1
    · rename_i hk
      rw [if_pos hk] at h2
      rw [cells_app] at h1 h2
      rcases List.mem_append.mp h1 with a | a
      · rcases List.mem_append.mp h2 with b | b
        · exact cells_inj a b
        · have e := List.mem_singleton.mp b
          cases e
          exact absurd (cells_ge a) (Nat.not_succ_le_self _)
      · have e := List.mem_singleton.mp a
        cases e
        rcases List.mem_append.mp h2 with b | b
        · exact absurd (cells_ge b) (Nat.not_succ_le_self _)
        · have e := List.mem_singleton.mp b
          cases e
          rfl
    · rename_i hk
      rw [if_neg hk] at h2
      exact cells_inj h1 h2
def lcS : Expr → Scope
  | .ListComp _ _ sc _ => sc
  | _ => { kind := .function, names := [], isGenerator := false, isCoroutine := false }
def retE : Option Stmt → Expr
  | some (Stmt.Return (some e) _) => e
  | _ => .Constant .none 0 ⟨0, 0, 0, 0⟩
theorem app_look {x : Str} {l r : List (Str × Addr)} : (l ++ r).lookup x = (l.lookup x).or (r.lookup x) := by
  induction l with
  | nil => simp
  | cons p t ih =>
    obtain ⟨y, c⟩ := p
    rw [List.cons_append, List.lookup_cons, List.lookup_cons]
    cases x == y with
    | true => rfl
    | false => exact ih
/-- the cells of a block: its own, and those that it takes over -/
def clsOf (sc : Scope) (C : Addr) (env : Env) : List (Str × Addr) := cellsFrom (C + 1) sc.names [] ++ clOf sc env
theorem cls_look {sc : Scope} {C c : Addr} {env : Env} {x : Str} (h : (clsOf sc C env).lookup x = some c) : (x, c) ∈ cellsFrom (C + 1) sc.names [] ∨ (clOf sc env).lookup x = some c := by
  unfold clsOf at h
  rw [app_look] at h
  cases e : (cellsFrom (C + 1) sc.names []).lookup x with
  | some c' =>
    rw [e] at h
    cases h
    exact .inl (PySem.mem_of_lookup e)
  | none =>
    rw [e] at h
    exact .inr h
theorem cls_own {sc : Scope} {C : Addr} {env : Env} {x : Str} (h : (x, NameKind.cell) ∈ sc.names) : ∃ c, (clsOf sc C env).lookup x = some c ∧ (x, c) ∈ cellsFrom (C + 1) sc.names [] := by
  obtain ⟨c, hc⟩ := cells_has (n := C + 1) h
  obtain ⟨c', e⟩ := lookup_some hc
  refine ⟨c', ?_, PySem.mem_of_lookup e⟩
  unfold clsOf
  rw [app_look, e]
  rfl
theorem cls_free {sc : Scope} {C c : Addr} {env : Env} {x : Str} (hn : ¬ (x, NameKind.cell) ∈ sc.names) (h : (clOf sc env).lookup x = some c) : (clsOf sc C env).lookup x = some c := by
  unfold clsOf
  rw [app_look]
  cases e : (cellsFrom (C + 1) sc.names []).lookup x with
  | some c' => exact absurd (cells_mem (PySem.mem_of_lookup e)) hn
  | none => exact h
/-- a block with cells of its own running, in the context of its def -/
def blk2 (X : Cx) (N' : List Str) (sc : Scope) (C : Addr) (fp : List Addr) (pins : List (Addr × Obj)) (s : Shared) (H : Hp) : Cx :=
  { X with N := N', s₀ := s, H₀ := H, env := compEnvC sc (clsOf sc C X.env) C X.env, outer := X.stack, stack := X.stack, ex := fp, fn := fun x => sc.names.lookup x == some .cell, pn := X.pn ++ pins, xe := NoX }
def lcOk2 (sc0 sc : Scope) (XN N' : List Str) (n : Nat) (kp : List Nat) : Bool :=
  decide (sc.kind = .function) && sc.names.all (fun y => decide (y.2 = .local → sc.names.lookup y.1 = some .local)) &&
  sc.names.all (fun y => decide (y.2 = .free → sc0.names.lookup y.1 = some .cell)) && decide ((sc.names.map (·.1)).Nodup) && decide (N'.length = n + kp.length) &&
  (List.range kp.length).all (fun i => match N'[n + i]?, kp[i]? with
    | some x, some j => decide (XN[j]? = some x ∧ (x, NameKind.free) ∈ sc.names ∧ ((relS sc sc0).names.lookup x = some .cell ∨ (relS sc sc0).names.lookup x = some .free))
    | _, _ => false)
theorem lcOk2_parts {sc0 sc : Scope} {XN N' : List Str} {n : Nat} {kp : List Nat} (h : lcOk2 sc0 sc XN N' n kp = true) :
    sc.kind = .function ∧ (∀ y ∈ sc.names, y.2 = .local → sc.names.lookup y.1 = some .local) ∧ (∀ y ∈ sc.names, y.2 = .free → sc0.names.lookup y.1 = some .cell) ∧ (sc.names.map (·.1)).Nodup ∧ N'.length = n + kp.length ∧
    ∀ (i : Nat) (x : Str), N'[n + i]? = some x → ∃ j, kp[i]? = some j ∧ XN[j]? = some x ∧ (x, NameKind.free) ∈ sc.names ∧ ((relS sc sc0).names.lookup x = some .cell ∨ (relS sc sc0).names.lookup x = some .free) := by
  unfold lcOk2 at h
  simp only [Bool.and_eq_true, List.all_eq_true, decide_eq_true_eq] at h
  obtain ⟨⟨⟨⟨⟨h1, h3⟩, h4⟩, h2⟩, h5⟩, h6⟩ := h
  refine ⟨h1, h3, h4, h2, h5, fun i x hx => ?_⟩
  have hi : i < kp.length := by
    have := (List.getElem?_eq_some_iff.mp hx).1
    omega
  have q := h6 i (List.mem_range.mpr hi)
  rw [hx, List.getElem?_eq_getElem hi] at q
  exact ⟨kp[i], List.getElem?_eq_getElem hi, of_decide_eq_true q⟩
theorem names_one {names : List (Str × NameKind)} (nd : (names.map (·.1)).Nodup) {x : Str} {k k' : NameKind} (h : (x, k) ∈ names) (h' : (x, k') ∈ names) : k = k' := by
  induction names with
  | nil => cases h
  | cons p r ih =>
    rw [List.map_cons, List.nodup_cons] at nd
    rcases List.mem_cons.mp h with e | h
    · rcases List.mem_cons.mp h' with e' | h'
      · rw [← e] at e'
        cases e'
        rfl
      · exact absurd (List.mem_map.mpr ⟨(x, k'), h', by rw [← e]⟩) nd.1
    · rcases List.mem_cons.mp h' with e' | h'
      · exact absurd (List.mem_map.mpr ⟨(x, k), h, by rw [← e']⟩) nd.1
      · exact ih nd.2 h h'
/-- what a comprehension's block is laid with -/
theorem newEnv_comp {M : Model} {A : Around} {E : Value → Shared → Prop} {s : Shared} {scope : Scope} {globals : Addr} {cl : List (Str × Addr)} {qual : Str} {env : Env} {Q : Env → Shared → Prop}
    (h : Q { scope := scope, locals := s.heap.objs.size, globals := globals, cells := cellsFrom (s.heap.objs.size + 1) scope.names cl, qual := qual, func := none, code := env.code, frame := env.frame, builtins := env.builtins } { s with heap := pushCells (s.heap.push { cls := .type "dict", data := .dict #[] }) scope.names }) :
    wpAny M A (newFunctionEnv scope globals cl [] qual none .none (some env)) Q E s := by
  simp only [newFunctionEnv, Option.isSome_some, if_true]
  refine wpAny_bind (wpAny_alloc ?_)
  refine wpAny_bind (wpAny_layCells _ (fun name kind cells => by cases hkc : kind == NameKind.cell <;> simp [hkc]) _ _ _ _ ?_)
  rw [show ({ s with heap := s.heap.push { cls := .type "dict", data := .dict #[] } } : Shared).heap.objs.size = s.heap.objs.size + 1 from Heap.size_push ..]
  refine wpAny_bind ?_
  rw [List.forIn_nil]
  exact wpAny_pure (wpAny_pure h)
section
variable {X : Cx} {tg iter elt : Expr} {cs : List Expr} {sc sc0 : Scope} {pos : Pos} {wi : TI} {g : TG} {tc : TT} {te : TE} {XN N' : List Str} {n : Nat} {kp : List Nat}

theorem blk2_ok {pins : List (Addr × Obj)} {σ : St} {H : Hp} {s : Shared} {fp : List Addr} {C : Addr} (I : Inv X pins σ H s) (hk : sc.kind = .function) (nd : (sc.names.map (·.1)).Nodup)
    (hfr : ∀ y ∈ sc.names, y.2 = .free → ∃ c, X.env.cells.lookup y.1 = some c) (hf : ∀ b ∈ fp, FpOk X pins H b) (hl : ∀ b ∈ fp, b < s.heap.objs.size) (hC : s.heap.objs.size ≤ C) : (blk2 X N' sc C fp pins s H).Ok where
  mod := I.ok.mod
  kind := hk
  glob := I.ok.glob
  blt := I.ok.blt
  above := hC
  inj := fun x y c h1 h2 => by
    have old : ∀ {z : Str}, (clOf sc X.env).lookup z = some c → c < s.heap.objs.size := fun {z} e => by
      obtain ⟨v, hv⟩ := I.cell z c (clOf_look hfr e)
      exact hv.lt
    rcases cls_look h1 with a | a
    · rcases cls_look h2 with b | b
      · exact cells_inj a b
      · exact absurd (Nat.lt_of_lt_of_le (old b) (Nat.le_trans hC (Nat.le_of_succ_le (cells_ge a)))) (Nat.lt_irrefl _)
    · rcases cls_look h2 with b | b
      · exact absurd (Nat.lt_of_lt_of_le (old a) (Nat.le_trans hC (Nat.le_of_succ_le (cells_ge b)))) (Nat.lt_irrefl _)
      · exact I.ok.inj x y c (clOf_look hfr a) (clOf_look hfr b)
  has := fun x hx => by
    have hx' : (relS sc X.env.scope).names.lookup x = some .cell ∨ (relS sc X.env.scope).names.lookup x = some .free := hx
    have go : ∀ k, (relS sc X.env.scope).names.lookup x = some k → (k = .cell ∨ k = .free) → (x, NameKind.free) ∈ sc.names ∨ (x, NameKind.cell) ∈ sc.names := fun k e hk' => by
      have hm := PySem.mem_of_lookup e
      obtain ⟨⟨y, ky⟩, hy, ey⟩ := List.mem_map.mp hm
      dsimp only at ey
      split at ey
      · rename_i hc
        cases ey
        have z : ky = .free := by
          simp only [Bool.and_eq_true] at hc
          simpa using hc.1.1
        subst z
        exact .inl hy
      · cases ey
        rcases hk' with z | z
        · subst z
          exact .inr hy
        · subst z
          exact .inl hy
    have q : (x, NameKind.free) ∈ sc.names ∨ (x, NameKind.cell) ∈ sc.names := by
      rcases hx' with e | e
      · exact go _ e (.inl rfl)
      · exact go _ e (.inr rfl)
    rcases q with hm | hm
    · obtain ⟨c, hc⟩ := hfr _ hm rfl
      exact ⟨c, cls_free (fun z => by have := names_one nd hm z; cases this) (clOf_at hfr hm hc)⟩
    · obtain ⟨c, hc, _⟩ := cls_own (C := C) (env := X.env) hm
      exact ⟨c, hc⟩
  cab := fun x c h e => by
    have h' : (sc.names.lookup x == some NameKind.cell) = true := h
    have hm := PySem.mem_of_lookup (eq_of_beq h')
    obtain ⟨c', e', m'⟩ := cls_own (C := C) (env := X.env) hm
    have e2 : (clsOf sc C X.env).lookup x = some c := e
    rw [e'] at e2
    cases e2
    have := cells_ge m'
    show s.heap.objs.size ≤ c
    omega
  hd := I.ok.hd
  frames := I.ok.frames
  stk := .inl rfl
  exf := fun b hb => ⟨Nat.ne_of_lt (Nat.lt_of_lt_of_le (hl b hb) hC), fun x c e => by
    rcases cls_look e with z | z
    · exact fun w => absurd (Nat.lt_of_lt_of_le (hl b hb) (Nat.le_trans hC (Nat.le_of_succ_le (cells_ge z)))) (by rw [w]; exact Nat.lt_irrefl _)
    · exact (hf b hb).2.2.2.2.1 x c (clOf_look hfr z)⟩
  bs := I.bs
  bsz := Nat.le_trans I.ok.bsz I.sz
  noex := fun b o e hb => by
    rcases (hf b hb).2.2.2.1 with z | z
    · exact I.ok.noex b o e z
    · exact absurd (Nat.lt_of_lt_of_le (Heap.lt_size e) (Nat.le_trans I.ok.bsz z)) (Nat.lt_irrefl _)
  exfs := fun b hb z => by
    rcases List.mem_cons.mp (I.stkSub b z) with q | q
    · exact (hf b hb).2.1 q
    · exact (hf b hb).2.2.1 q
  funs := I.stack
  frf := I.stkFree
theorem blk2_start {pins : List (Addr × Obj)} {σ : St} {H : Hp} {s : Shared} {fp : List Addr} {C : Addr} {h1 : Heap} {tk : Nat} {m : Str → Option Value} (I : Inv X pins σ H s) (h0 : X.env.scope = sc0) (hN : X.N = XN) (ok : lcOk2 sc0 sc XN N' n kp = true)
    (hf : ∀ b ∈ fp, FpOk X pins H b) (hl : ∀ b ∈ fp, b < s.heap.objs.size) (hC : s.heap.objs.size ≤ C) (old : ∀ b o, s.heap.get? b = some o → h1.get? b = some o) (ns : h1.Ns C m) (own : ∀ x c, (x, c) ∈ cellsFrom (C + 1) sc.names [] → h1.IsCell c none) :
    Inv (blk2 X N' sc C fp pins s H) [] (List.replicate n none ++ kp.map fun j => (σ[j]?).join) H { s with heap := h1, toks := tk } := by
  obtain ⟨o1, o3, o4, o2, o5, o6⟩ := lcOk2_parts ok
  subst h0
  subst hN
  have hfr : ∀ y ∈ sc.names, y.2 = .free → ∃ c, X.env.cells.lookup y.1 = some c := fun y hy e => I.ok.has y.1 (.inl (o4 y hy e))
  have below : ∀ b, b < s.heap.objs.size → b ≠ C := fun b hb => Nat.ne_of_lt (Nat.lt_of_lt_of_le hb hC)
  refine ⟨blk2_ok I o1 o2 hfr hf hl hC, rfl, I.bare, Un.kept old, ⟨m, ns, fun i x v e1 e2 e3 => ?_⟩, fun x c e => ?_, I.hok.fresh hC, fun x c e => ?_, fun p hp => ?_, I.hok.kept old, ?_⟩
  · have hi : n ≤ i := by
      by_cases z : n ≤ i
      · exact z
      · rw [List.getElem?_append_left (by rw [List.length_replicate]; omega), List.getElem?_replicate] at e2
        split at e2 <;> cases e2
    obtain ⟨j, rfl⟩ : ∃ j, i = n + j := ⟨i - n, by omega⟩
    obtain ⟨q, hq, hx, hm, hkd⟩ := o6 j x e1
    rw [List.getElem?_append_right (by rw [List.length_replicate]; omega), List.length_replicate, Nat.add_sub_cancel_left, List.getElem?_map, hq] at e2
    have e4 : (σ[q]?).join = some v := Option.some.inj e2
    have e2' : σ[q]? = some (some v) := by
      cases z : σ[q]? with
      | none => rw [z] at e4; cases e4
      | some w => rw [z] at e4; cases e4; rfl
    obtain ⟨c, hc⟩ := hfr _ hm rfl
    have kx : X.env.kindOf x = some .cell := o4 _ hm rfl
    obtain ⟨m', hn', hl'⟩ := I.loc
    obtain ⟨u, r, lk⟩ := hl' q x v hx e2' (.inr (.inl kx))
    refine ⟨u, r, .inr ⟨hkd, c, cls_free (fun z => by have := names_one o2 hm z; cases this) (clOf_at hfr hm hc), ?_⟩⟩
    rcases lk with ⟨k, _⟩ | ⟨_, c', hc', hv⟩
    · rw [kx] at k
      cases k
    · rw [hc] at hc'
      cases hc'
      exact hv.keeps old
  · rcases cls_look e with z | z
    · exact ⟨none, own x c z⟩
    · obtain ⟨v, hv⟩ := I.cell x c (clOf_look hfr z)
      exact ⟨v, hv.keeps old⟩
  · rcases cls_look e with z | z
    · exact I.hok.fresh (Nat.le_trans hC (Nat.le_of_succ_le (cells_ge z)))
    · exact I.freeC x c (clOf_look hfr z)
  · have hp' : p ∈ X.pn ++ pins := by
      have : p ∈ (X.pn ++ pins) ++ ([] : List (Addr × Obj)) := hp
      rw [List.append_nil] at this
      exact this
    obtain ⟨q1, q2, q3, q4, q5⟩ := I.pin p hp'
    refine ⟨old _ _ q1, q2, below _ (Heap.lt_size q1), fun z => ?_, q5⟩
    rcases List.mem_cons.mp (I.stkSub _ z) with r | r
    · exact q3 r
    · exact q4 r
  · show (List.replicate n none ++ kp.map fun j => (σ[j]?).join).length = N'.length
    rw [List.length_append, List.length_replicate, List.length_map, o5]

/-- the run of a comprehension up to its end; what comes then is asked by fin -/
theorem lc_run2 {pins : List (Addr × Obj)} {s : Shared} {σ : St} {H : Hp} {Q : VK} {use : Option (Value → Sem Unit)} {Qf : Value → Shared → Prop} (hc : X.calm = true) (hi : PI X tg iter wi) (h0 : X.env.scope = sc0) (hN : X.N = XN) (ok : lcOk2 sc0 sc XN N' n kp = true)
    (hg : ∀ C fp pins s H, PG (blk2 X N' sc C fp pins s H) tg g) (ht : ∀ C fp pins s H, PTs (blk2 X N' sc C fp pins s H) cs tc) (he : ∀ C fp pins s H, PE (blk2 X N' sc C fp pins s H) elt te) (hs : ∀ x, foldedSetIterable iter X.env x = pure x)
    (I : Inv X pins σ H s) (h : tLc n kp wi g tc te σ H Q)
    (fin : ∀ D C ys H' s', Inv X pins σ (upd H' D (.lst ys)) s' → (∃ m, s'.heap.Ns C m) → FpOk X pins (upd H' D (.lst ys)) C → Q (.ref D) (upd H' D (.lst ys)) → compPost (model X.prog X.w) X.A X.xe use Qf (.ref D) C (.ok .next) s') {pos' : Pos} :
    wpAny (model X.prog X.w) X.A (comprehension (.ListComp elt [⟨tg, iter, cs, 0⟩] sc pos) sc X.env pos' (newList []) false (firstIter [⟨tg, iter, cs, 0⟩] X.env) use) Qf X.xe s := by
  obtain ⟨o1, o3, o4, o2, o5, o6⟩ := lcOk2_parts ok
  have hfr : ∀ y ∈ sc.names, y.2 = .free → ∃ c, X.env.cells.lookup y.1 = some c := fun y hy e => I.ok.has y.1 (.inl (by rw [Env.kindOf, h0]; exact o4 y hy e))
  refine wpAny_comprehension_free (use := use) rfl hs (clOf_eq hfr) o1 o3 (thn (hi pins s σ H _ I h) fun v s1 h1 => thn h1 fun itv s2 h2 => ?_)
  obtain ⟨it, fp, tn, J, H2, rfl, I2, T, st2, f2, W, ⟨m0, w0⟩, turn⟩ := h2
  have hl : ∀ b ∈ fp, b < s2.heap.objs.size := fun b hb => by
    obtain ⟨o, e, _⟩ := T.obj 0 _ st2 b hb
    exact Heap.lt_size e
  refine wpAny_newObj_type (newEnv_comp ?_)
  dsimp only
  generalize hG : s2.heap.push { cls := .type "list", dict := none, data := .seq ([] : List Value).toArray } = G
  have hGs : G.objs.size = s2.heap.objs.size + 1 := by rw [← hG, Heap.size_push]
  have hCl : s2.heap.objs.size ≤ G.objs.size := by omega
  have hDC : s2.heap.objs.size ≠ G.objs.size := by omega
  generalize hh1 : pushCells (G.push { cls := .type "dict", data := .dict #[] }) sc.names = h1
  have keep1 : ∀ b o, (G.push { cls := .type "dict", data := .dict #[] }).get? b = some o → h1.get? b = some o := fun b o e => by
    rw [← hh1]
    exact pushCells_keeps _ _ b o e
  have ns1 : h1.Ns G.objs.size (fun _ => none) := (Heap.Ns.new G (.type "dict")).keeps keep1
  have old : ∀ b o, s2.heap.get? b = some o → h1.get? b = some o := fun b o e => keep1 b o (Heap.get?_push_of_some _ (hG ▸ Heap.get?_push_of_some _ e))
  have hD1 : h1.get? s2.heap.objs.size = some { cls := .type "list", data := .seq ([] : List Value).toArray 0 } := keep1 _ _ (Heap.get?_push_of_some _ (hG ▸ Heap.get?_push_size _ rfl))
  have own : ∀ x c, (x, c) ∈ cellsFrom (G.objs.size + 1) sc.names [] → h1.IsCell c none := fun x c hm => by
    have okc := cellsFrom_ok sc.names (G.push { cls := .type "dict", data := .dict #[] }) (G.objs.size + 1) [] ⟨fun _ _ hm => (nomatch hm), List.Pairwise.nil⟩ (by rw [Heap.size_push]; exact Nat.le_refl _)
    rw [Heap.size_push, hh1] at okc
    exact (okc.empty x c hm).1
  rw [cells_app]
  have nD2 : H2 s2.heap.objs.size = none := I2.hok.fresh (Nat.le_refl _)
  have nC2 : H2 G.objs.size = none := I2.hok.fresh hCl
  -- the loop from any state that the block may begin with
  have loop : ∀ s3 : Shared, s3 = { s2 with heap := h1, toks := s2.toks } →
      codeAny (model X.prog X.w) X.A (.compLoop (.ListComp elt [⟨tg, iter, cs, 0⟩] sc pos) 0 (.ref it) (.ref s2.heap.objs.size) (compEnvC sc (clsOf sc G.objs.size X.env) G.objs.size X.env))
        (compPost (model X.prog X.w) X.A X.xe use Qf (.ref s2.heap.objs.size) G.objs.size) s3 := by
    rintro s3 rfl
    have I3 := blk2_start (fp := fp) (C := G.objs.size) (h1 := h1) (tk := s2.toks) I2 h0 hN ok f2 hl hCl old ns1 own
    have stat : ∀ {H' : Hp} {o : Obj}, (∀ b ∈ fp, H' b = none) → ∀ b ∈ fp, FpOk (blk2 X N' sc G.objs.size fp pins s2 H2) [(s2.heap.objs.size, o)] H' b := fun hn b hb => by
      have lt := hl b hb
      refine ⟨hn b hb, Nat.ne_of_lt (Nat.lt_of_lt_of_le lt hCl), I3.ok.exfs b hb, .inl hb, (I3.ok.exf b hb).2, fun p hp => ?_⟩
      rcases List.mem_append.mp hp with z | z
      · exact (f2 b hb).2.2.2.2.2 p z
      · have e : p.1 = s2.heap.objs.size := by rw [List.mem_singleton.mp z]
        rw [e]
        exact Nat.ne_of_gt lt
    have pinD : ∀ {σ' : St} {H' : Hp} {s' : Shared} {o : Obj}, Inv (blk2 X N' sc G.objs.size fp pins s2 H2) [] σ' H' s' → s'.heap.get? s2.heap.objs.size = some o → (∀ v, o.data ≠ .cell v) → H' s2.heap.objs.size = none →
        Inv (blk2 X N' sc G.objs.size fp pins s2 H2) [(s2.heap.objs.size, o)] σ' H' s' := fun {σ' H' s' o} J' e hd hn => J'.pins_of fun p hp => by
      rw [List.mem_singleton.mp hp]
      exact ⟨e, hn, hDC, fun z => by
        rcases List.mem_cons.mp (I2.stkSub _ z) with r | r
        · exact absurd I2.lt (by rw [← r]; exact Nat.lt_irrefl _)
        · exact I2.nofs (Nat.le_refl _) r, hd⟩
    refine lc_loop (fun k s' => ∃ (i : Nat) (ys : List V) (its : List Value) (c : Nat) (σ' : St) (H' : Hp), Inv (blk2 X N' sc G.objs.size fp pins s2 H2) [] σ' H' s' ∧ tn i s'.heap ∧ (∀ b ∈ fp, H' b = none) ∧
      s'.heap.get? s2.heap.objs.size = some { cls := .type "list", data := .seq its.toArray c } ∧ Vals ys its ∧ H' s2.heap.objs.size = none ∧ W i k ys σ' H') ?_ m0 _
      ⟨0, [], [], 0, _, H2, I3, T.keep _ _ _ st2 fun b _ o e => old b o e, fun b hb => (f2 b hb).1, hD1, .nil, nD2, w0⟩
    rintro k s' ⟨i, ys, its, c, σ', H', I', st', fr', hD', hv, nD, w'⟩
    obtain ⟨hz, cases⟩ := turn i k ys σ' H' w'
    have I'' := pinD I' hD' (fun v => by intro z; cases z) nD
    rcases cases with ⟨stop, q⟩ | ⟨go, N, hN2, step⟩
    · refine thn (T.done (blk2 X N' sc G.objs.size fp pins s2 H2) rfl rfl rfl hc i _ s' σ' H' NoX I'' (stat fr') st' stop) fun r s4 ⟨hr, I4⟩ => ?_
      subst hr
      obtain ⟨e4, n4, _⟩ := I4.pin (s2.heap.objs.size, { cls := .type "list", data := .seq its.toArray c }) (List.mem_append_right _ (List.mem_singleton.mpr rfl))
      have u4 : Un (frs X.stack) fp H2 H' s2.heap s4.heap := I4.base
      have nC4 : H' G.objs.size = none := I4.free
      obtain ⟨m4, ns4, _⟩ := I4.loc
      have neD : ∀ b o, s2.heap.get? b = some o → b ≠ s2.heap.objs.size := fun b o e => Nat.ne_of_lt (Heap.lt_size e)
      have u5 : Un (frs X.stack) fp H2 (upd H' s2.heap.objs.size (.lst ys)) s2.heap s4.heap :=
        ⟨u4.keep, u4.slot, fun b o e nb hx => by rw [upd_ne (neD b o e)]; exact u4.free b o e nb hx, u4.there, fun b xs e => by rw [upd_ne (ne_of_none e nD2)]; exact u4.tups b xs e,
          fun b o u e => by rw [upd_ne (ne_of_none e nD2)]; exact u4.frzs b o u e, fun b ps e => by rw [upd_ne (ne_of_none e nD2)]; exact u4.tbls b ps e⟩
      have hok5 : HOk X.prog X.w (upd H' s2.heap.objs.size (.lst ys)) s4.heap := fun a o e => by
        by_cases ea : a = s2.heap.objs.size
        · subst ea
          rw [upd_same] at e
          cases e
          exact ⟨hz, its, c, hv, e4⟩
        · rw [upd_ne ea] at e
          exact (I4.hok a o e).stay (fun _ _ _ q => q) (fun b q => by rw [upd_ne (ne_of_none q nD)]; exact q) fun b xs q => by rw [upd_ne (ne_of_none q nD)]; exact q
      have I5 : Inv X pins σ (upd H' s2.heap.objs.size (.lst ys)) s4 := I2.call' I4.os u5 hok5 I4.bare fun b hb => ⟨(f2 b hb).2.2.2.1, (f2 b hb).2.1, (f2 b hb).2.2.2.2.1, (f2 b hb).2.2.2.2.2⟩
      refine fin _ _ ys H' s4 I5 ⟨m4, ns4⟩ (I2.fpOk hCl ?_) (q _ nD)
      rw [upd_ne (Ne.symm hDC)]
      exact nC4
    · refine thn (T.item (blk2 X N' sc G.objs.size fp pins s2 H2) rfl rfl rfl hc i _ s' σ' H' NoX I'' (stat fr') st' go) fun r s4 ⟨u, hr, h4⟩ => ?_
      subst hr
      refine thn h4 fun _ s5 ⟨x, H5, I5, r5, y5, st5, fr5⟩ => ?_
      have I5' := I5.pinned (stat fr5) (T.obj _ _ st5)
      refine thn (hg _ _ _ _ _ _ s5 σ' H5 x u _ I5' r5 (step x H5 y5)) fun _ s6 ⟨σ6, H6, I6, q6⟩ => ?_
      refine thn (ht _ _ _ _ _ _ s6 σ6 H6 _ I6 q6) fun b s7 ⟨H7, I7, q7⟩ => ?_
      have back : ∀ {s8 : Shared} {H8 : Hp} (m' : Nat), Inv (blk2 X N' sc G.objs.size fp pins s2 H2) ([(s2.heap.objs.size, { cls := .type "list", data := .seq its.toArray c })] ++ pinsAt fp s5.heap) σ6 H8 s8 →
          tn (i + 1) s8.heap ∧ (∀ b ∈ fp, H8 b = none) ∧ s8.heap.get? s2.heap.objs.size = some { cls := .type "list", data := .seq its.toArray c } ∧ H8 s2.heap.objs.size = none := fun {s8 H8} m' I8 => by
        have pn : ∀ p ∈ [(s2.heap.objs.size, ({ cls := .type "list", data := .seq its.toArray c } : Obj))] ++ pinsAt fp s5.heap, s8.heap.get? p.1 = some p.2 ∧ H8 p.1 = none := fun p hp =>
          let ⟨a, b, _⟩ := I8.pin p (List.mem_append_right _ hp); ⟨a, b⟩
        refine ⟨T.keep _ _ _ st5 fun b hb o e => (pn (b, o) (List.mem_append_right _ (mem_pinsAt hb e))).1, fun b hb => ?_, pn _ (List.mem_append_left _ (List.mem_singleton.mpr rfl))⟩
        obtain ⟨o, e, _⟩ := T.obj _ _ st5 b hb
        exact (pn (b, o) (List.mem_append_right _ (mem_pinsAt hb e))).2
      have bare : ∀ {s8 : Shared} {H8 : Hp} {pl : List (Addr × Obj)}, Inv (blk2 X N' sc G.objs.size fp pins s2 H2) pl σ6 H8 s8 → Inv (blk2 X N' sc G.objs.size fp pins s2 H2) [] σ6 H8 s8 := fun I8 => I8.pins_of fun p hp => nomatch hp
      cases b with
      | false =>
        rw [if_neg Bool.false_ne_true] at q7 ⊢
        obtain ⟨m', lt, w7⟩ := hN2 _ _ _ q7
        obtain ⟨b1, b2, b3, b4⟩ := back m' I7
        exact ⟨m', lt, i + 1, ys, its, c, σ6, H7, bare I7, b1, b2, b3, hv, b4, w7⟩
      | true =>
        rw [if_pos rfl] at q7 ⊢
        refine thn (he _ _ _ _ _ _ s7 σ6 H7 _ I7 q7) fun y s8 ⟨yv, H8, I8, r8, q8⟩ => ?_
        obtain ⟨m', lt, w8⟩ := hN2 _ _ _ q8
        obtain ⟨b1, b2, b3, b4⟩ := back m' I8
        have hlen := hv.length
        refine append_at (hsz := by rw [List.size_toArray, ← hlen]; exact hz) b3 fun h9 sb9 e9 => ?_
        have I9 : Inv (blk2 X N' sc G.objs.size fp pins s2 H2) [] σ6 H8 { s8 with heap := h9 } := (bare I8).turned (t' := s8.toks) (it := s2.heap.objs.size) (fun b o hb e => sb9.extBut b o hb e) b4 hDC (.inr (Nat.le_refl _))
          (fun x c e z => by
            rcases cls_look e with y | y
            · exact absurd (Nat.lt_of_lt_of_le (Nat.lt_succ_self _) (Nat.le_trans (Nat.succ_le_succ hCl) (cells_ge y))) (by rw [z]; exact Nat.lt_irrefl _)
            · obtain ⟨v, hv⟩ := I2.cell x c (clOf_look hfr y)
              exact absurd hv.lt (by rw [z]; exact Nat.lt_irrefl _))
          fun p hp z => by
            have hp' : p ∈ X.pn ++ pins := by
              have : p ∈ (X.pn ++ pins) ++ ([] : List (Addr × Obj)) := hp
              rw [List.append_nil] at this
              exact this
            exact absurd (Heap.lt_size (I2.pin p hp').1) (by rw [z]; exact Nat.lt_irrefl _)
        refine ⟨m', lt, i + 1, ys ++ [yv], its ++ [y], c + 1, σ6, H8, I9, T.keep _ _ _ b1 fun b hb o e => sb9.extBut b o (Nat.ne_of_lt (hl b hb)) e, b2, ?_, hv.append (.cons r8 .nil), b4, w8⟩
        rw [e9]
        simp
  exact codeAny_compStart_list (loop _ rfl) (T.self _ 0 _ _ _ (T.keep _ _ _ st2 fun b _ o e => old b o e) (loop _ rfl))

theorem piL {K : PySem.W.Frag} {l : Expr} {tl : TE} (hl : PE X l tl) (h : X.K = K := by rfl) : PI X tg l (iList K tl) := h ▸ pi_list hl
theorem piT {K : PySem.W.Frag} {l : Expr} {tl : TE} (hl : PE X l tl) (h : X.K = K := by rfl) : PI X tg l (iTup K tl) := h ▸ pi_tup hl
/-- a comprehension with cells of its own, as a value -/
theorem pe_lc2 (hc : X.calm = true) (hi : PI X tg iter wi) (h0 : X.env.scope = sc0) (hN : X.N = XN) (ok : lcOk2 sc0 sc XN N' n kp = true)
    (hg : ∀ C fp pins s H, PG (blk2 X N' sc C fp pins s H) tg g) (ht : ∀ C fp pins s H, PTs (blk2 X N' sc C fp pins s H) cs tc) (he : ∀ C fp pins s H, PE (blk2 X N' sc C fp pins s H) elt te)
    (hs : ∀ x, foldedSetIterable iter X.env x = pure x := by intro _; rfl) : PE X (.ListComp elt [⟨tg, iter, cs, 0⟩] sc pos) (tLc n kp wi g tc te) := by
  intro pins s σ H Q I h
  rw [eval_ListComp]
  refine lc_run2 hc hi h0 hN ok hg ht he hs I h fun D C ys H' s' I' ns fp q => ?_
  obtain ⟨m, hm⟩ := ns
  refine ⟨m, hm, fun h' sb => ⟨.ref D, _, ?_, rfl, q⟩⟩
  obtain ⟨f1, f2, f3, f4, f5, f6⟩ := fp
  exact I'.turned (t' := s'.toks) (it := C) (fun b o hb e => sb.extBut b o hb e) f1 f2 f4 f5 f6
end
end L2

set_option maxRecDepth 100000
set_option maxHeartbeats 4000000
/-! ### O. What each tie's sets are, told in lists; bars -/
namespace Wd
open PySem L2 Ow
abbrev boolsL (m : Nat) (t : Tie) : List V := (List.range (2 ^ m)).map fun s => V.bl (t.keep s)
structure KeptBy (H : Hp) (l : Addr) (m : Nat) (ts : List Tie) : Prop where
  ex : ∃ xs, H l = some (.lst xs) ∧ xs.length = ts.length ∧ ∀ (i : Nat) (t : Tie), ts[i]? = some t → ∃ p, xs[i]? = some (.ref p) ∧ H p = some (.lst (boolsL m t))
theorem KeptBy.same {H H' : Hp} {l : Addr} {m : Nat} {ts : List Tie} (s : Same H H') (h : KeptBy H l m ts) : KeptBy H' l m ts := by
  obtain ⟨xs, e, ln, each⟩ := h.ex
  exact ⟨xs, s _ _ e, ln, fun i t ht => let ⟨p, a, b⟩ := each i t ht; ⟨p, a, s _ _ b⟩⟩
theorem KeptBy.sameX {H H' : Hp} {pen l : Addr} {m : Nat} {ts : List Tie} {k : Int} {sp : Addr} (hp : H pen = some (.lst [.ref sp, .int k])) (s : SameX pen H H') (h : KeptBy H l m ts) : KeptBy H' l m ts := by
  obtain ⟨xs, e, ln, each⟩ := h.ex
  have nl : l ≠ pen := fun z => by
    rw [z, hp] at e
    cases e
    cases ts with
    | nil => cases ln
    | cons t r =>
      obtain ⟨p, a, b⟩ := each 0 t rfl
      cases a
      cases r with
      | nil => cases ln
      | cons t2 r2 =>
        obtain ⟨p2, a2, b2⟩ := each 1 t2 rfl
        cases a2
  refine ⟨xs, s _ _ nl e, ln, fun i t ht => ?_⟩
  obtain ⟨p, a, b⟩ := each i t ht
  refine ⟨p, a, s _ _ (fun z => ?_) b⟩
  rw [z, hp] at b
  have c := Option.some.inj b
  injection c with c
  have := congrArg (fun l : List V => l[0]?) c
  simp only [List.getElem?_map] at this
  cases e2 : (List.range (2 ^ m))[0]? with
  | none => rw [e2] at this; cases this
  | some x => rw [e2] at this; cases this
def spKeptBy : Sp := fun vs H Q _ => ∃ (wd : Addr) (m : Nat) (ts : List Tie), vs = [.ref wd] ∧ WoodT H wd m ts ∧ m ≤ 9 ∧ ∀ (l : Addr) (H' : Hp), Same H H' → H l = none → KeptBy H' l m ts → Q (.ref l) H'
/-- whether the named ties bar a stand -/
def barB (ts : List Tie) (il : List Nat) (m y n : Nat) : Bool := decide (keepF ts il m 9 y n = none)
theorem barB_iff {ts : List Tie} {il : List Nat} {m y n : Nat} (ok : ∀ t ∈ ts, t.Ok m) (m9 : m ≤ 9) (S : Stand m y n) : barB ts il m y n = true ↔ ∀ s, s < 2 ^ m → InS y n s → allKeep ts il s = false := by
  have of := open_few m y n
  have F := keepF_first (il := il) ok 9 y n (by omega) S
  unfold barB
  rw [decide_eq_true_eq]
  cases h : keepF ts il m 9 y n with
  | none =>
    rw [h] at F
    exact ⟨fun _ => F, fun _ => rfl⟩
  | some g =>
    rw [h] at F
    refine ⟨(fun z => by cases z), fun z => ?_⟩
    have := z g F.1 F.2.1
    rw [F.2.2.1] at this
    cases this
def spBars : Sp := fun vs H Q _ => ∃ (wd : Addr) (m : Nat) (ts : List Tie) (tl : Addr) (il : List Nat) (y n : Nat), vs = [.ref wd, .ref tl, .int y, .int n] ∧ WoodT H wd m ts ∧ m ≤ 9 ∧ H tl = some (.lst (natsL il)) ∧ (∀ i ∈ il, i < ts.length) ∧ ∀ H', Same H H' → Q (.bl (barB ts il m y n)) H'
def spDueBar : Sp := fun vs H Q _ => ∃ (wd kb : Addr) (m : Nat) (ts : List Tie) (tl : Addr) (il : List Nat) (y n : Nat), vs = [.ref wd, .ref kb, .ref tl, .int y, .int n] ∧ WoodT H wd m ts ∧ m ≤ 9 ∧ KeptBy H kb m ts ∧ H tl = some (.lst (natsL il)) ∧ il.length ≤ 100 ∧ (∀ i ∈ il, i < ts.length) ∧ Stand m y n ∧ ∀ H', Same H H' → Q (.bl (barB ts il m y n)) H'
end Wd

set_option maxRecDepth 100000
set_option maxHeartbeats 4000000
/-! ### P. Ties left out; ties broken in every set of a stand, told by lists; trees of cases told so -/
namespace Wd
open PySem L2 Ow
theorem sb_iffM {m : Nat} {t : Tie} (ok : t.Ok m) {y n : Nat} (S : Stand m y n) : t.sb y n = true ↔ ∀ s, s < 2 ^ m → InS y n s → t.keep s = false := by
  rw [sb_iff ok S.dj]
  refine ⟨fun h s _ hs => h s hs, fun h s hs => ?_⟩
  have bit : ∀ k, k < m → (s % 2 ^ m).testBit k = s.testBit k := fun k hk => by
    rw [Nat.testBit_mod_two_pow, decide_eq_true hk, Bool.true_and]
  have low : ∀ (x k : Nat), x < 2 ^ m → x.testBit k = true → k < m := fun x k hx hk => by
    by_cases z : k < m
    · exact z
    · have : 2 ^ m ≤ 2 ^ k := Nat.pow_le_pow_right (by decide) (by omega)
      rw [Nat.testBit_lt_two_pow (by omega)] at hk
      cases hk
  have e := h (s % 2 ^ m) (Nat.mod_lt _ (Nat.two_pow_pos m)) ⟨fun k hk => by rw [bit k (low y k S.ym hk)]; exact hs.1 k hk, fun k hk => by rw [bit k (low n k S.nm hk)]; exact hs.2 k hk⟩
  rw [keep_congr ok (s' := s % 2 ^ m) fun k hk => (bit k hk).symm]
  exact e
def spWithoutT : Sp := fun vs H Q _ => ∃ (l : Addr) (il : List Nat) (t : Nat), vs = [.ref l, .int t] ∧ H l = some (.lst (natsL il)) ∧ il.length ≤ 1000 ∧ ∀ (p : Addr) (H' : Hp), Same H H' → H p = none → H' p = some (.lst (natsL (il.filter fun i => !decide (i = t)))) → Q (.ref p) H'
def spBrokenK : Sp := fun vs H Q _ => ∃ (p : Addr) (m : Nat) (t : Tie) (y n : Nat), vs = [.ref p, .int y, .int n] ∧ H p = some (.lst (boolsL m t)) ∧ t.Ok m ∧ m ≤ 9 ∧ Stand m y n ∧ ∀ H', Same H H' → Q (.bl (t.sb y n)) H'
def spTreeK (f : Nat) : Sp := fun vs H Q _ => ∃ (kb tl : Addr) (m : Nat) (ts : List Tie) (il : List Nat) (y n : Nat), vs = [.int m, .ref kb, .ref tl, .int y, .int n] ∧ KeptBy H kb m ts ∧ (∀ t ∈ ts, t.Ok m) ∧ m ≤ 9 ∧ H tl = some (.lst (natsL il)) ∧ (∀ i ∈ il, i < ts.length) ∧ Stand m y n ∧ (openL m y n).length ≤ f ∧ ∀ (v : V) (H' : Hp), Same H H' → Dn H' (casesF ts il m f y n).toD v → Q v H'
/-- a bar made least: ties left out one after another, where what is left still bars -/
abbrev without (il : List Nat) (t : Nat) : List Nat := il.filter fun i => !decide (i = t)
def leastStep (ts : List Tie) (m y n : Nat) (left : List Nat) (t : Nat) : List Nat := if barB ts (without left t) m y n = true then without left t else left
def leastL (ts : List Tie) (m y n : Nat) : List Nat := (allT ts).foldl (leastStep ts m y n) (allT ts)
theorem leastStep_sub {ts : List Tie} {m y n : Nat} {left : List Nat} {t : Nat} : (leastStep ts m y n left t).Sublist left := by
  unfold leastStep
  split
  · exact List.filter_sublist
  · exact List.Sublist.refl _
theorem least_sub {ts : List Tie} {m y n : Nat} : ∀ (l left : List Nat), (l.foldl (leastStep ts m y n) left).Sublist left
  | [], left => List.Sublist.refl _
  | t :: l, left => (least_sub l (leastStep ts m y n left t)).trans leastStep_sub
structure Others (H : Hp) (ol : Addr) (ts : List Tie) (m y n : Nat) (left : List Nat) : Prop where
  ex : ∃ xs, H ol = some (.lst xs) ∧ xs.length = left.length ∧ ∀ (j t : Nat), left[j]? = some t → ∃ q, xs[j]? = some (.ref q) ∧ H q = some (.tup [.int (t : Int), optN (keepF ts (without left t) m 9 y n)])
/-- what least_bar answers -/
def FoundL (H : Hp) (fv : V) (ts : List Tie) (m y n : Nat) : Prop := (barB ts (allT ts) m y n = false ∧ fv = .non) ∨ (barB ts (allT ts) m y n = true ∧ ∃ (p lf ol : Addr) (v : V), fv = .ref p ∧ H p = some (.tup [.ref lf, v, .ref ol]) ∧ H lf = some (.lst (natsL (leastL ts m y n))) ∧ Dn H (casesF ts (leastL ts m y n) m 9 y n).toD v ∧ Others H ol ts m y n (leastL ts m y n))
theorem mem_without {il : List Nat} {t i : Nat} : i ∈ without il t ↔ i ∈ il ∧ i ≠ t := by
  rw [List.mem_filter]
  simp
theorem barB_mono {ts : List Tie} {il jl : List Nat} {m y n : Nat} (ok : ∀ t ∈ ts, t.Ok m) (m9 : m ≤ 9) (S : Stand m y n) (sub : ∀ i ∈ il, i ∈ jl) (h : barB ts il m y n = true) : barB ts jl m y n = true := by
  rw [barB_iff ok m9 S] at h ⊢
  intro s sm hs
  have := h s sm hs
  cases e : allKeep ts jl s with
  | false => rfl
  | true =>
    have z : allKeep ts il s = true := List.all_eq_true.mpr fun i hi => List.all_eq_true.mp e i (sub i hi)
    rw [z] at this
    cases this
theorem leastStep_bars {ts : List Tie} {m y n : Nat} {left : List Nat} {t : Nat} (h : barB ts left m y n = true) : barB ts (leastStep ts m y n left t) m y n = true := by
  unfold leastStep
  split
  · next c => exact c
  · exact h
theorem least_bars {ts : List Tie} {m y n : Nat} : ∀ (l left : List Nat), barB ts left m y n = true → barB ts (l.foldl (leastStep ts m y n) left) m y n = true
  | [], _, h => h
  | t :: l, left, h => least_bars l _ (leastStep_bars h)
theorem least_needed {ts : List Tie} {m y n : Nat} (ok : ∀ t ∈ ts, t.Ok m) (m9 : m ≤ 9) (S : Stand m y n) : ∀ (l left : List Nat) (t : Nat), t ∈ l → t ∈ l.foldl (leastStep ts m y n) left → barB ts (without (l.foldl (leastStep ts m y n) left) t) m y n = false
  | [], _, _, h, _ => nomatch h
  | u :: l, left, t, h, hm => by
    by_cases tl : t ∈ l
    · exact least_needed ok m9 S l (leastStep ts m y n left u) t tl hm
    · have e : t = u := by
        rcases List.mem_cons.mp h with z | z
        · exact z
        · exact absurd z tl
      subst e
      have sub := least_sub (ts := ts) (m := m) (y := y) (n := n) l (leastStep ts m y n left t)
      have hm2 : t ∈ leastStep ts m y n left t := sub.subset hm
      have c : ¬ barB ts (without left t) m y n = true := fun c => by
        unfold leastStep at hm2
        rw [if_pos c] at hm2
        exact (mem_without.mp hm2).2 rfl
      refine Bool.eq_false_iff.mpr fun z => c (barB_mono ok m9 S (fun i hi => ?_) z)
      obtain ⟨a, b⟩ := mem_without.mp hi
      exact mem_without.mpr ⟨leastStep_sub.subset (sub.subset a), b⟩
theorem leastL_sub {ts : List Tie} {m y n : Nat} : (leastL ts m y n).Sublist (allT ts) := least_sub _ _
theorem leastL_bars {ts : List Tie} {m y n : Nat} (h : barB ts (allT ts) m y n = true) : barB ts (leastL ts m y n) m y n = true := least_bars _ _ h
theorem leastL_needed {ts : List Tie} {m y n : Nat} (ok : ∀ t ∈ ts, t.Ok m) (m9 : m ≤ 9) (S : Stand m y n) {t : Nat} (h : t ∈ leastL ts m y n) : barB ts (without (leastL ts m y n) t) m y n = false :=
  least_needed ok m9 S _ _ t (leastL_sub.subset h) h
/-- what a least bar's tie is needed for: a set of the stand that keeps all the others and breaks it -/
theorem leastL_other {ts : List Tie} {m y n : Nat} (ok : ∀ t ∈ ts, t.Ok m) (m9 : m ≤ 9) (S : Stand m y n) (hb : barB ts (allT ts) m y n = true) {t : Nat} (h : t ∈ leastL ts m y n) :
    ∃ s, keepF ts (without (leastL ts m y n) t) m 9 y n = some s ∧ s < 2 ^ m ∧ InS y n s ∧ allKeep ts (without (leastL ts m y n) t) s = true ∧ keepAt ts t s = false := by
  have nb := leastL_needed ok m9 S h
  have of := open_few m y n
  have F := keepF_first (il := without (leastL ts m y n) t) ok 9 y n (by omega) S
  unfold barB at nb
  cases e : keepF ts (without (leastL ts m y n) t) m 9 y n with
  | none => rw [e] at nb; simp at nb
  | some s =>
    rw [e] at F
    refine ⟨s, rfl, F.1, F.2.1, F.2.2.1, ?_⟩
    have all := (barB_iff ok m9 S).mp (leastL_bars hb) s F.1 F.2.1
    cases k : keepAt ts t s with
    | false => rfl
    | true =>
      have z : allKeep ts (leastL ts m y n) s = true := List.all_eq_true.mpr fun i hi => by
        by_cases c : i = t
        · rw [c]; exact k
        · exact List.all_eq_true.mp F.2.2.1 i (mem_without.mpr ⟨hi, c⟩)
      rw [z] at all
      cases all
end Wd

set_option maxRecDepth 100000
set_option maxHeartbeats 4000000
namespace L2
open PySem PySem.Spec PyProof.Rows

/-! ### lambdas -/
/-- what stands at a lambda's address -/
def lamP (f : Addr) (qual : Str) (params : Arguments) (body : Expr) (scope : Scope) (cl : List (Str × Addr)) (c : Addr) : Heap → Prop :=
  fun h => ∃ (pm ctv : Value), h.get? f = some (PySem.W.kla_obj "<lambda>" qual params body scope cl pm c ctv)
/-- what a def that makes lambdas wants of the base: its code object with the table at P, the module of the built-ins -/
structure LamB (mg : Str → Option Value) (base : Heap) (c P : Addr) : Prop where
  code : PySem.W.CodeHd base c P
  blt : ∃ bm ob, mg "__builtins__" = some (.ref bm) ∧ bm ≠ builtinsNs ∧ base.get? bm = some ob ∧ ob.cls = .type "module" ∧ ob.dict = some builtinsNs ∧ ob.data = .plain
theorem ext_ok {P : Program} {w : World} {H : Hp} {h : Heap} {a : Addr} {φ : Heap → Prop} (hH : H a = some (.ext φ)) (ok : HOk P w H h) : φ h := (ok a _ hH).1
section
variable {X : Cx} {params : Arguments} {body : Expr} {scope : Scope} {pos : Pos} {c P : Addr}
theorem pe_lam (hc : X.env.code = .ref c) (B : LamB X.mg X.base c P) (hdef : defaultsOf params X.env = ([], [])) (hfr : ∀ y ∈ scope.names, y.2 = .free → ∃ c, X.env.cells.lookup y.1 = some c) :
    PE X (.Lambda params body scope pos) (fun σ H Q => TabOk H P ∧ ∀ (f c' : Addr) (H1 : Hp), H f = none → Same H H1 →
      H1 f = some (.ext (lamP f (X.env.qual ++ "<lambda>") params body scope (clOf scope X.env) c')) → H1 c' = some (.ext (codeP c')) → Q (.ref f) H1) := by
  intro pins s σ H Q I hq
  obtain ⟨⟨ps, hP, tr, hps⟩, q⟩ := hq
  refine PySem.W.kla_eval hdef ?_
  have hP' : s.heap.get? P = some (PySem.W.tabObj ps) := I.hok P _ hP
  have hg : s.heap.Ns mainGlobals X.mg := I.mod.glob.keeps I.bk
  have C : PySem.W.CodeHd s.heap c P := B.code.keeps I.bk
  have hgP : mainGlobals ≠ P := fun z => by
    obtain ⟨o, es, ep, e, hd, _⟩ := hg
    rw [z, hP'] at e; cases e; cases hd
  have hb : s.heap.BuiltinsAt X.mg P := by
    obtain ⟨bm, ob, b1, b2, b3, b4, b5, b6⟩ := B.blt
    have b3' := I.bk _ _ b3
    refine ⟨bm, ob, b1, b2, fun z => ?_, fun z => ?_, b3', b4, b5, b6⟩
    · obtain ⟨o, es, ep, e, hd, _⟩ := hg
      rw [z, e] at b3'; cases b3'; rw [hd] at b6; cases b6
    · rw [z, hP'] at b3'; cases b3'; cases b4
  have hcl : closureFor scope X.env = pure (clOf scope X.env) := clOf_eq hfr
  rcases hps pos with hnf | ⟨c', hf, hc'⟩
  · refine PySem.W.kla_makeFunction hcl I.ok.glob hg hc C hP' tr hnf hgP hb fun c' ctv h' tk hx hge hlt hrec htb => ?_
    have szP : P < s.heap.objs.size := Heap.lt_size hP'
    have hcn : H c' = none := I.hok.fresh hge
    have hfn : H h'.objs.size = none := I.hok.fresh (Nat.le_trans hge (Nat.le_of_lt hlt))
    have cf : c' ≠ h'.objs.size := Nat.ne_of_lt hlt
    have cP : c' ≠ P := Nat.ne_of_gt (Nat.lt_of_lt_of_le szP hge)
    have fP : h'.objs.size ≠ P := Nat.ne_of_gt (Nat.lt_of_lt_of_le szP (Nat.le_trans hge (Nat.le_of_lt hlt)))
    have keep : ∀ b o, b ≠ P → s.heap.get? b = some o → (h'.push (PySem.W.kla_obj "<lambda>" (X.env.qual ++ "<lambda>") params body scope (clOf scope X.env) ((X.mg "__name__").getD .none) c' ctv)).get? b = some o := fun b o hb e => Heap.get?_push_of_some _ (hx b o hb e)
    obtain ⟨c2, oc, vs, t, e2, hoc, hd, hv⟩ := hrec
    cases e2
    -- the new abstract heap
    let H1 : Hp := upd (upd (upd H P (.tbl (ps ++ #[rawInt pos.line, rawInt pos.col, .ref c']))) c' (.ext (codeP c'))) h'.objs.size (.ext (lamP h'.objs.size (X.env.qual ++ "<lambda>") params body scope (clOf scope X.env) c'))
    have H1f : H1 h'.objs.size = some (.ext (lamP h'.objs.size (X.env.qual ++ "<lambda>") params body scope (clOf scope X.env) c')) := upd_same
    have H1c : H1 c' = some (.ext (codeP c')) := by show upd _ _ _ c' = _; rw [upd_ne cf, upd_same]
    have H1P : H1 P = some (.tbl (ps ++ #[rawInt pos.line, rawInt pos.col, .ref c'])) := by show upd _ _ _ P = _; rw [upd_ne (Ne.symm fP), upd_ne (Ne.symm cP), upd_same]
    have H1o : ∀ b, b ≠ h'.objs.size → b ≠ c' → b ≠ P → H1 b = H b := fun b n1 n2 n3 => by show upd _ _ _ b = _; rw [upd_ne n1, upd_ne n2, upd_ne n3]
    have old : ∀ b u, H b = some u → b ≠ h'.objs.size ∧ b ≠ c' := fun b u e => ⟨ne_of_none e hfn, ne_of_none e hcn⟩
    have oldE : ∀ b, H b = some (.ext (codeP b)) → H1 b = some (.ext (codeP b)) := fun b e => by rw [H1o b (old b _ e).1 (old b _ e).2 (fun z => by rw [z, hP] at e; cases e)]; exact e
    have tabs : TabOk H1 P := ⟨_, H1P, by rw [Array.toList_append]; exact TriplesOk_snoc _ _ _ _ tr, fun p' => by
      rw [Array.toList_append]
      rcases codeAmong_grow (pos := p') (pos' := pos) (c := .ref c') ps.toList tr with z | z
      · rcases hps p' with y | ⟨d, y1, y2⟩
        · exact .inl (z.trans y)
        · exact .inr ⟨d, z.trans y1, oldE d y2⟩
      · exact .inr ⟨c', z, H1c⟩⟩
    have same : Same H H1 := fun b o e => by
      by_cases hbP : b = P
      · subst hbP
        rw [hP] at e
        cases e
        exact ⟨⟨_, H1P⟩, fun _ => tabs⟩
      · exact Kp.of e (by rw [H1o b (old b _ e).1 (old b _ e).2 hbP]; exact e) oldE
    have un : Un X.fs [] H H1 s.heap (h'.push (PySem.W.kla_obj "<lambda>" (X.env.qual ++ "<lambda>") params body scope (clOf scope X.env) ((X.mg "__name__").getD .none) c' ctv)) := by
      have np : ∀ b, H b = none → b ≠ P := fun b n z => by rw [z, hP] at n; cases n
      refine ⟨fun b o e n _ _ => keep b o (np b n) e, fun b o e n _ _ => ⟨o.slots, keep b o (np b n) e⟩, fun b o e n _ => ?_, fun b o e _ => ?_, fun b xs e => ?_, fun b o u e => ?_, fun b qs e => ?_⟩
      · have l := Heap.lt_size e
        rw [H1o b (Nat.ne_of_lt (Nat.lt_trans (Nat.lt_of_lt_of_le l hge) hlt)) (Nat.ne_of_lt (Nat.lt_of_lt_of_le l hge)) (np b n)]
        exact n
      · by_cases hbP : b = P
        · subst hbP
          exact ⟨_, Heap.get?_push_of_some _ htb⟩
        · exact ⟨o, keep b o hbP e⟩
      · rw [H1o b (old b _ e).1 (old b _ e).2 (fun z => by rw [z, hP] at e; cases e)]
        exact e
      · rw [H1o b (old b _ e).1 (old b _ e).2 (fun z => by rw [z, hP] at e; cases e)]
        exact e
      · by_cases hbP : b = P
        · subst hbP
          rw [hP] at e
          cases e
          exact ⟨_, H1P⟩
        · exact ⟨#[], by rw [H1o b (old b _ e).1 (old b _ e).2 hbP, e]; simp⟩
    have hok : HOk X.prog X.w H1 (h'.push (PySem.W.kla_obj "<lambda>" (X.env.qual ++ "<lambda>") params body scope (clOf scope X.env) ((X.mg "__name__").getD .none) c' ctv)) := fun b u e => by
      by_cases h1 : b = h'.objs.size
      · subst h1
        rw [H1f] at e
        cases e
        exact ⟨⟨_, _, Heap.get?_push_size _ rfl⟩, ⟨_, Heap.get?_push_size _ rfl⟩, fun h1 h2 ⟨pm, cv, z⟩ k => ⟨pm, cv, k _ z⟩⟩
      · by_cases h2 : b = c'
        · subst h2
          rw [H1c] at e
          cases e
          exact ⟨⟨oc, vs, _, t, Heap.get?_push_of_some _ hoc, hd, hv⟩, ⟨_, Heap.get?_push_of_some _ hoc⟩, fun h1 h2 ⟨o, v, qq, tt, z1, z2, z3⟩ k => ⟨o, v, qq, tt, k _ z1, z2, z3⟩⟩
        · by_cases h3 : b = P
          · subst h3
            rw [H1P] at e
            cases e
            exact Heap.get?_push_of_some _ htb
          · rw [H1o b h1 h2 h3] at e
            refine (I.hok b u e).stay (fun b' o' hb' e' => ?_) (fun b' e' => ?_) fun b' xs e' => ?_
            · refine keep b' o' ?_ e'
              rcases hb' with z | z
              · rw [z]; exact h3
              · intro z2; rw [z2, hP] at z; cases z
            · rw [H1o b' (old b' _ e').1 (old b' _ e').2 (fun z => by rw [z, hP] at e'; cases e')]; exact e'
            · rw [H1o b' (old b' _ e').1 (old b' _ e').2 (fun z => by rw [z, hP] at e'; cases e')]; exact e'
    exact ⟨.ref h'.objs.size, H1, I.un un hok, rfl, q _ c' H1 hfn same H1f H1c⟩
  · refine PySem.W.kla_makeFunctionHit hcl I.ok.glob hg hc C hP' tr hf hb fun ctv h' tk hk hsz => ?_
    have hfn : H h'.objs.size = none := I.hok.fresh hsz
    have keep : ∀ b o, s.heap.get? b = some o → (h'.push { cls := .type "function", data := .func (PySem.W.kla_fn "<lambda>" (X.env.qual ++ "<lambda>") params body scope (clOf scope X.env) ((X.mg "__name__").getD .none) (.ref c') ctv) }).get? b = some o := fun b o e => Heap.get?_push_of_some _ (hk b o e)
    have same : Same H (upd H h'.objs.size (.ext (lamP h'.objs.size (X.env.qual ++ "<lambda>") params body scope (clOf scope X.env) c'))) := same_of fun b u e => by rw [upd_ne (ne_of_none e hfn)]; exact e
    refine ⟨.ref h'.objs.size, _, I.un (Un.laid keep hsz hfn) (I.hok.laid keep hsz ?_), rfl, q _ c' _ hfn same upd_same (same c' _ hc')⟩
    exact ⟨⟨_, _, Heap.get?_push_size _ rfl⟩, ⟨_, Heap.get?_push_size _ rfl⟩, fun h1 h2 ⟨pm, cv, z⟩ k => ⟨pm, cv, k _ z⟩⟩
end
/-! ### a call with a base that holds all that is untracked now -/
/-- all that is untracked and no frame -/
def baseNow (h : Heap) (H : Hp) (st : List Env) : Heap := PySem.W.hideAll h (trk h H ++ frs st)
section
variable {X : Cx} {pins : List (Addr × Obj)} {σ : St} {H : Hp} {s : Shared}
theorem of_baseNow {h : Heap} {H : Hp} {st : List Env} {b : Addr} {o : Obj} (e : (baseNow h H st).get? b = some o) : h.get? b = some o ∧ H b = none ∧ b ∉ frs st := by
  have e' : h.get? b = some o := PySem.W.of_hideAll _ e
  refine ⟨e', ?_, fun z => ?_⟩
  · cases q : H b with
    | none => rfl
    | some x =>
      have hm : b ∈ trk h H := List.mem_filter.mpr ⟨List.mem_range.mpr (Heap.lt_size e'), by simp [q]⟩
      have z : (baseNow h H st).get? b = none := PySem.W.hideAll_none _ (List.mem_append_left _ hm)
      rw [z] at e; cases e
  · have y : (baseNow h H st).get? b = none := PySem.W.hideAll_none _ (List.mem_append_right _ z)
    rw [y] at e; cases e
theorem baseNow_get {h : Heap} {H : Hp} {st : List Env} {b : Addr} {o : Obj} (e : h.get? b = some o) (n : H b = none) (hf : b ∉ frs st) : (baseNow h H st).get? b = some o :=
  PySem.W.hideAll_get _ e fun hm => by
    rcases List.mem_append.mp hm with z | z
    · have q : (H b).isSome = true := (List.mem_filter.mp z).2
      rw [n] at q; simp at q
    · exact hf z
theorem Inv.noStk (I : Inv X pins σ H s) {b : Addr} {o : Obj} (e : X.base.get? b = some o) : b ∉ frs X.stack := fun hb => by
  have := (I.stack.mem hb).1
  rw [e] at this; cases this
theorem Inv.now (I : Inv X pins σ H s) : Env0 X.prog X.w X.K X.mg (baseNow s.heap H X.stack) X.A X.stack s H := by
  have up : ∀ b o, X.base.get? b = some o → (baseNow s.heap H X.stack).get? b = some o := fun b o e => baseNow_get (I.bs b o e).1 (I.bs b o e).2 (I.noStk e)
  obtain ⟨mb, h1, h2⟩ := I.mod.blt
  refine ⟨I.ok.frames, ⟨I.mod.kin.keeps up, I.mod.glob.keeps up, ⟨mb, h1.keeps up, h2⟩, I.mod.nolimit.keeps up⟩, fun b o e => ⟨(of_baseNow e).1, (of_baseNow e).2.1⟩, Nat.le_of_eq (PySem.W.hideAll_size _ _), ?_, I.stkFree, I.hok, I.bare⟩
  have go : ∀ l : List Env, (∀ b ∈ frs l, b ∈ frs X.stack) → s.heap.FunFrames X.base l → s.heap.FunFrames (baseNow s.heap H X.stack) l := by
    intro l
    induction l with
    | nil => intro _ _; trivial
    | cons env r ih =>
      intro hs hl
      obtain ⟨hk, ⟨L, o, hf, hn, ho, hd⟩, hr⟩ := hl
      have hL : L ∈ frs X.stack := hs L (by unfold frs; rw [List.filterMap_cons, hf]; exact List.mem_cons_self)
      refine ⟨hk, ⟨L, o, hf, ?_, ho, hd⟩, ih (fun b hb => hs b (by unfold frs; rw [List.filterMap_cons, hf]; exact List.mem_cons_of_mem _ hb)) hr⟩
      exact PySem.W.hideAll_none _ (List.mem_append_right _ hL)
  exact go X.stack (fun _ h => h) I.stack
/-- a cell of the def that runs is in that base -/
theorem Inv.nowCell (I : Inv X pins σ H s) {x : Str} {c : Addr} {v : Option Value} (hf : X.fn x = true) (hc : X.env.cells.lookup x = some c) (h : s.heap.IsCell c v) : (baseNow s.heap H X.stack).IsCell c v := by
  obtain ⟨o, ho, hd⟩ := h
  refine ⟨o, baseNow_get ho (I.freeC x c hc) fun z => ?_, hd⟩
  rcases List.mem_cons.mp (I.stkSub c z) with e | e
  · exact I.cne x c hc e
  · obtain ⟨_, ob, e2, _⟩ := I.ok.funs.mem e
    exact absurd (Nat.lt_of_lt_of_le (Heap.lt_size e2) (I.ok.cab x c hf hc)) (Nat.lt_irrefl _)
end
section
variable {X : Cx} {k : Nat} {f : Addr} {fd : FuncData} {ps : List Str} {x : Str} {p pos : Pos} {e : Expr} {es : List Expr} {t : TA}
/-- the values of the def's cells, in a base -/
def CellsIn (X : Cx) (σ : St) (base : Heap) : Prop := ∀ (i : Nat) (y : Str) (v : V), X.N[i]? = some y → σ[i]? = some (some v) → X.env.kindOf y = some .cell → ∃ c u, X.env.cells.lookup y = some c ∧ RelV v u ∧ base.IsCell c (some u)
/-- f(..), where the callee's promise may hang on what is untracked now -/
theorem pe_callW (hr : Room k X.A) (hg : Gl X x) (hm : X.mg x = some (.ref f)) (hk : PySem.W.keepIn X.K (.ref f) = true) (hb : Binds X.K fd ps []) (hfn : ∀ y, X.fn y = true)
    (ha : PA X (e :: es) t) (hdb : (x == ("__debug__" : Str)) = false := by decide) (he : starEach (e :: es) X.env = (false, eval e X.env) :: starEach es X.env := by rfl) (hpl : (backTo pos (starEach es X.env)).any (·.1) = false := by rfl) :
    PE X (.Call (.Name x p) (e :: es) [] pos) (fun σ H Q => t σ H fun vs H1 => ∀ base : Heap, CellsIn X σ base → X.K.In base → base.Ns mainGlobals X.mg → ∃ sp : Sp, FnOk X.prog X.w X.K X.mg base CX0 k f fd ps sp ∧ sp vs H1 Q E0) := by
  intro pins s σ H Q I h
  refine wpAny_Call_Name_kw (ld_glob I hg hm ?_ hdb)
  refine PySem.W.callWith_K (h₀ := X.base) I.ok.mod.kin hk (thn (ha pos pins s σ H _ I h) fun us s1 ⟨vs, H1, I1, r, q⟩ => ⟨I1.kIn, ?_⟩) he hpl
  have e0 := I1.now
  have ci : CellsIn X σ (baseNow s1.heap H1 X.stack) := fun i y v hN hv hk => by
    obtain ⟨m, hn, hl⟩ := I1.loc
    obtain ⟨u, ru, l⟩ := hl i y v hN hv (.inr (.inl hk))
    rcases l with ⟨hk', _⟩ | ⟨_, c, hc, hcell⟩
    · rw [hk] at hk'; cases hk'
    · exact ⟨c, u, hc, ru, I1.nowCell (hfn y) hc hcell⟩
  obtain ⟨sp, F, hs⟩ := q _ ci e0.mod.kin e0.mod.glob
  have hl : us.length = ps.length := by rw [← r.length]; exact F.len _ _ _ _ hs
  have hbb := hb s1 us I1.kIn (by rw [List.append_nil]; exact hl)
  rw [List.append_nil] at hbb
  refine wpAny_call (codeAny_mono (F.run X.A X.stack s1 H1 ⟨us, []⟩ us vs Q E0 hr e0 hbb r hs) fun r s' hq => ?_)
  cases r with
  | error e => exact hq.elim
  | ok fl =>
    cases fl with
    | ret u => exact I1.after hq
    | next => exact False.elim hq
    | brk => exact False.elim hq
    | cont => exact False.elim hq
/-- x(..), x a name of the def that holds a function which was made -/
theorem pe_callV {i : Nat} {φ : Heap → Prop} {sp : Sp} (F : FnOk X.prog X.w X.K X.mg X.base CX0 k f fd ps sp) (hr : Room k X.A) (hN : X.N[i]? = some x) (hv : Vis X.env.scope x) (hb : Binds X.K fd ps [])
    (hφ : ∀ h : Heap, φ h → ∃ o fd', h.get? f = some o ∧ o.data = .func fd') (ha : PA X (e :: es) t)
    (hdb : (x == ("__debug__" : Str)) = false := by decide) (hcd : (x == ("__classdict__" : Str)) = false := by decide) (he : starEach (e :: es) X.env = (false, eval e X.env) :: starEach es X.env := by rfl) (hpl : (backTo pos (starEach es X.env)).any (·.1) = false := by rfl) :
    PE X (.Call (.Name x p) (e :: es) [] pos) (fun σ H Q => σ[i]? = some (some (.ref f)) ∧ t σ H fun vs H1 => H1 f = some (.ext φ) ∧ sp vs H1 Q E0) := by
  intro pins s σ H Q I h
  obtain ⟨hσ, h⟩ := h
  refine wpAny_Call_Name_kw (wpAny_mono (pe_var hN hv hdb hcd pins s σ H (fun v H' => v = .ref f ∧ H' = H) I ⟨_, hσ, rfl, rfl⟩) (fun u s1 hu => ?_) fun _ _ z => z)
  obtain ⟨v, H', I', rv, e1, e2⟩ := hu
  subst e1
  subst e2
  obtain rfl : u = Value.ref f := rv
  have h2 : wpAny (model X.prog X.w) X.A (spliced (backTo pos (starEach (e :: es) X.env))) (fun vs s₁ => (∃ o fd', s₁.heap.get? f = some o ∧ o.data = .func fd') ∧ wpAny (model X.prog X.w) X.A (call (.ref f) ([] ++ vs)) (EP X pins σ Q) X.xe s₁) X.xe s1 := by
    refine thn (ha pos pins s1 σ _ _ I' h) fun us s2 ⟨vs, H1, I1, r, e3, q⟩ => ⟨hφ _ (ext_ok e3 I1.hok), ?_⟩
    have hq := run_fn (ds := []) (dvs := []) (E := E0) F hr hb .nil pass0 I1 r (by rw [List.append_nil]; exact q)
    exact hq
  rw [he] at h2
  show wpAny _ _ (callWith pos (.ref f) [] (backTo pos (starEach (e :: es) X.env)) []) _ _ s1
  rw [he]
  refine PySem.W.callWith_of (by show ((false || (backTo pos (starEach es X.env)).any (·.1)) || false) = false; rw [hpl]; rfl) (P := fun h => ∃ o fd', h.get? f = some o ∧ o.data = .func fd') (fun h ⟨o, fd', e1, e2⟩ => ?_) (Calls.evalArgs_plain h2)
  obtain ⟨oc, od, od', os⟩ := o
  cases e2
  exact ⟨.frame, .inl rfl, (PySem.W.Looks.ld (part := none) e1).andThen .now⟩
end

/-! ### a lambda keeps its promise -/
structure LamScope (ps fr : List Str) (sc : Scope) : Prop where
  kind : sc.kind = .function
  co : sc.isCoroutine = false
  gen : sc.isGenerator = false
  nd : ps.Nodup
  par : ∀ x ∈ ps, sc.names.lookup x = some .local
  fre : ∀ x ∈ fr, sc.names.lookup x = some .free
  nocell : ∀ y ∈ sc.names, y.2 ≠ .cell
theorem rev_lookup_zip {ps : List Str} {us : List Value} {i : Nat} {x : Str} {u : Value} (nd : ps.Nodup) (h1 : ps[i]? = some x) (h2 : us[i]? = some u) : (ps.zip us).reverse.lookup x = some u := by
  have hm : (x, u) ∈ (ps.zip us).reverse := List.mem_reverse.mpr (List.mem_of_getElem? (i := i) (by rw [List.getElem?_zip_eq_some]; exact ⟨h1, h2⟩))
  obtain ⟨c, hc⟩ := lookup_some hm
  have h3 := List.mem_reverse.mp (PySem.mem_of_lookup hc)
  obtain ⟨j, hj⟩ := List.getElem?_of_mem h3
  rw [List.getElem?_zip_eq_some] at hj
  have hij : j = i := by
    obtain ⟨l1, e1⟩ := List.getElem?_eq_some_iff.mp h1
    obtain ⟨l2, e2⟩ := List.getElem?_eq_some_iff.mp hj.1
    rw [List.nodup_iff_pairwise_ne, List.pairwise_iff_getElem] at nd
    rcases Nat.lt_trichotomy j i with z | z | z
    · exact absurd (e2.trans e1.symm) (nd j i l2 l1 z)
    · exact z
    · exact absurd (e1.trans e2.symm) (nd i j l1 l2 z)
  rw [hij, h2] at hj
  rw [hc, hj.2]
/-- a lambda's body, running -/
def cxLam (P : Program) (w : World) (K : PySem.W.Frag) (mg : Str → Option Value) (base : Heap) (N : List Str) (q : Str) (scope : Scope) (f c : Addr) (cl : List (Str × Addr)) (A : Around) (outer : List Env) (s : Shared) (H : Hp) : Cx where
  prog := P
  w := w
  K := K
  mg := mg
  base := base
  A := A.deeper (PySem.W.envX q scope s.heap.objs.size f (.ref c) cl)
  N := N
  s₀ := s
  H₀ := H
  env := PySem.W.envX q scope s.heap.objs.size f (.ref c) cl
  outer := outer
  stack := PySem.W.envX q scope s.heap.objs.size f (.ref c) cl :: outer
  ex := []
  calm := true
  fn := fun _ => false
  pn := []
  xe := fun _ _ => False
theorem callFunQ {prog : Program} {w : World} {A : Around} {R : Result → Shared → Prop} {s : Shared} {a : Addr} {args : Args} {o : Obj} {fd : FuncData} {body : Expr} {q : Str} (hroom : A.depth < recursionLimit)
    (ho : s.heap.get? a = some o)
    (hd' : o.data = .func fd) (hco : fd.scope.isCoroutine = false) (hgen : fd.scope.isGenerator = false) (hbody : fd.body = .expr body) (hcd : ∃ c oc vs t, fd.code = .ref c ∧ s.heap.get? c = some oc ∧ oc.data = .fields vs ∧ vs[1]? = some (.str q t))
    (h : wpAny (model prog w) A.in1 (bindArgs fd args) (fun binds s₁ =>
      wpAny (model prog w) A.in1 (newFunctionEnv fd.scope fd.globals fd.closure binds (q ++ ".<locals>.") (some a) fd.code none fd.builtins)
        (fun env s₂ => s₂.heap.NoLimit ∧ codeAny (model prog w) A (.expr body env) R s₂) (fun e s' => R (.error e) s') s₁) (fun e s' => R (.error e) s') s) :
    codeAny (model prog w) A (.call (.ref a) args) R s := by
  refine codeAny_of_tree ?_
  show wpAny _ A.in1 (callAny (.ref a) args) _ _ s
  simp only [callAny]
  refine wpAny_bind (wpAny_load ho ?_)
  obtain ⟨c, oc, vs, tq, hc, hoc, hdc, hq⟩ := hcd
  simp only [hd', callFunction, hco, hgen, hbody, hc]
  rw [hc] at h
  refine wpAny_bind (m := field (.ref c) 1) (wpAny_field hoc hdc hq (wpAny_bind (wpAny_pure ?_)))
  exact wpAny_bind (wpAny_mono h (fun binds s₁ h₁ => wpAny_bind (wpAny_mono h₁ (fun env s₂ h₂ => wpAny_bind (wpAny_enterFrame h₂.1 hroom
    (wpAny_pure (And.intro rfl h₂.2)))) fun _ _ h' => h')) fun _ _ h' => h')
theorem lam_ok {P : Program} {w : World} {K : PySem.W.Frag} {mg : Str → Option Value} {base : Heap} {f c : Addr} {qual : Str} {params : Arguments} {body : Expr} {scope : Scope} {cl : List (Str × Addr)} {ps fr : List Str} {fv : List V} {k : Nat} {sp : Sp}
    (S : LamScope ps fr scope) (hcl : ∀ x cc, cl.lookup x = some cc → ∃ v, base.IsCell cc v) (inj : ∀ x y cc, cl.lookup x = some cc → cl.lookup y = some cc → x = y) (has : ∀ y ∈ scope.names, y.2 = .free → ∃ cc, cl.lookup y.1 = some cc)
    (hfv : ∀ (i : Nat) (x : Str) (v : V), fr[i]? = some x → fv[i]? = some v → ∃ cc u, cl.lookup x = some cc ∧ RelV v u ∧ base.IsCell cc (some u)) (hlen : fv.length = fr.length)
    (hsame : ∀ pm ctv args, bindArgs (PySem.W.kla_fn "<lambda>" qual params body scope cl pm (.ref c) ctv) args = bindArgs (PySem.W.kla_fn "<lambda>" qual params body scope cl .none (.ref c) .none) args)
    (len : ∀ vs H Q E, sp vs H Q E → vs.length = ps.length)
    (lam : ∀ vs H Q E, sp vs H Q E → H f = some (.ext (lamP f qual params body scope cl c)) ∧ H c = some (.ext (codeP c)))
    (hbody : ∀ (q : Str) (A : Around) (outer : List Env) (s : Shared) (H : Hp) (vs : List V) (Q : VK) (E : XK), Room k (A.deeper (PySem.W.envX q scope s.heap.objs.size f (.ref c) cl)) → sp vs H Q E →
      ∃ t, PE (cxLam P w K mg base (ps ++ fr) q scope f c cl A outer s H) body t ∧ t (vs.map some ++ fv.map some) H Q) :
    FnOk P w K mg base CX0 (k + 1) f (PySem.W.kla_fn "<lambda>" qual params body scope cl .none (.ref c) .none) ps sp := by
  refine ⟨len, fun A outer s H args us vs Q E hr e0 hb r hsp => ?_⟩
  have hl := len _ _ _ _ hsp
  obtain ⟨hf, hc⟩ := lam _ _ _ _ hsp
  obtain ⟨pm, ctv, ho⟩ := ext_ok hf e0.hok
  obtain ⟨oc, vsc, q, t, hoc, hdc, hqc⟩ := ext_ok hc e0.hok
  have lim : s.heap.NoLimit := e0.mod.nolimit.keeps fun b o e => (e0.bs b o e).1
  have toS : ∀ {cc v}, base.IsCell cc v → s.heap.IsCell cc v ∧ H cc = none := fun {cc v} ⟨o, e, d⟩ => ⟨⟨o, (e0.bs _ _ e).1, d⟩, (e0.bs _ _ e).2⟩
  refine callFunQ hr.depth ho rfl S.co S.gen rfl ⟨c, oc, vsc, t, rfl, hoc, hdc, hqc⟩ ?_
  rw [hsame]
  refine hb _ _ _ _ ?_
  have hloc : ∀ y ∈ ps.zip us, scope.names.lookup y.1 = some .local := fun ⟨n, v⟩ hy => S.par n (List.of_mem_zip hy).1
  refine wpAny_newFunctionEnv S.nocell hloc (fun h₁ hns hsb => ?_) S.kind
  have hk₁ : ∀ b o, s.heap.get? b = some o → h₁.get? b = some o := fun b o e => hsb.extBut b o (Nat.ne_of_lt (Heap.lt_size e)) (Heap.get?_push_of_some _ e)
  refine ⟨lim.keeps hk₁, ?_⟩
  obtain ⟨tt, ht, hq⟩ := hbody q A outer s H vs Q E (hr.deeper _) hsp
  have noA : ∀ b : Addr, b ∉ ([] : List Addr) := fun b z => by simp at z
  have kinds : ∀ x, (scope.names.lookup x = some .cell ∨ scope.names.lookup x = some .free) → ∃ cc, cl.lookup x = some cc := fun x hx => by
    rcases hx with z | z
    · exact absurd rfl (S.nocell _ (PySem.mem_of_lookup z))
    · exact has _ (PySem.mem_of_lookup z) rfl
  have I : Inv (cxLam P w K mg base (ps ++ fr) q scope f c cl A outer s H) [] (vs.map some ++ fv.map some) H { s with heap := h₁, toks := s.toks + (ps.zip us).length } := by
    refine ⟨⟨e0.mod, S.kind, rfl, rfl, Nat.le_refl _, inj, kinds, fun x cc z => (by cases z), fun _ => hr.hd, Around.frames_deeper e0.frames, .inr ⟨rfl, rfl⟩, fun b z => absurd z (noA b), e0.bs, e0.bsz, fun b _ _ => noA b, fun b z => absurd z (noA b), e0.funs, e0.frf⟩,
      rfl, e0.bare, Un.kept hk₁, ⟨_, hns, fun i x v h1 h2 h3 => ?_⟩, fun x cc e => ?_, e0.hok.fresh (Nat.le_refl _), fun x cc e => ?_, fun p hp => absurd (show p ∈ ([] : List (Addr × Obj)) from hp) (by simp), e0.hok.kept hk₁, ?_⟩
    · have h1' : (ps ++ fr)[i]? = some x := h1
      by_cases hi : i < ps.length
      · rw [List.getElem?_append_left hi] at h1'
        rw [List.getElem?_append_left (by rw [List.length_map, hl]; exact hi), List.getElem?_map] at h2
        obtain ⟨v', hv, e⟩ := Option.map_eq_some_iff.mp h2
        cases e
        obtain ⟨u, hu, rv⟩ := r.get hv
        exact ⟨u, rv, .inl ⟨S.par x (List.mem_of_getElem? h1'), rev_lookup_zip S.nd h1' hu⟩⟩
      · rw [List.getElem?_append_right (by omega)] at h1'
        rw [List.getElem?_append_right (by rw [List.length_map, hl]; omega), List.getElem?_map, List.length_map, hl] at h2
        obtain ⟨v', hv, e⟩ := Option.map_eq_some_iff.mp h2
        cases e
        obtain ⟨cc, u, e1, ru, ic⟩ := hfv _ _ _ h1' hv
        exact ⟨u, ru, .inr ⟨.inr (S.fre x (List.mem_of_getElem? h1')), cc, e1, (toS ic).1.keeps hk₁⟩⟩
    · obtain ⟨v, ic⟩ := hcl x cc e
      exact ⟨v, (toS ic).1.keeps hk₁⟩
    · obtain ⟨v, ic⟩ := hcl x cc e
      exact (toS ic).2
    · show (vs.map some ++ fv.map some).length = (ps ++ fr).length
      rw [List.length_append, List.length_append, List.length_map, List.length_map, hl, hlen]
  refine PySem.W.kla_codeExpr (wpAny_mono (ht [] _ _ H _ I hq) (fun u s' hs => ?_) fun e s' hs => hs.elim)
  obtain ⟨v, H', J, rv, qq⟩ := hs
  exact ⟨v, H', J.os, J.bare, J.base, J.hok, rv, qq⟩

/-! ### a def that makes lambdas: its code object is known -/
theorem Fun.okC {P : Program} {w : World} {K : PySem.W.Frag} {mg : Str → Option Value} {base : Heap} {x qual : Str} {st : Stmt} {f : Addr} {fd : FuncData} {N ps : List Str} {k : Nat} {sp : Sp} (F : Fun K x qual st f fd) (S : FnScope N ps (defScope st)) (len : ∀ vs H Q E, sp vs H Q E → vs.length = ps.length)
    (hbody : ∀ (cdv : Value) (A : Around) (outer : List Env) (s : Shared) (H : Hp) (vs : List V) (Q : VK) (E : XK), fd.code = cdv → Room k (A.deeper (envOfC qual (defScope st) s.heap.objs.size f cdv)) → sp vs H Q E →
      ∃ t, PSs (cxOf CX0 P w K mg base N qual (defScope st) f cdv A outer s H E).nox (defBody st) t ∧ t { nx := fun _ H' => Q .non H', rt := Q } (start N vs) H) : FnOk P w K mg base CX0 (k + 1) f fd ps sp := by
  obtain ⟨oc, od, kV, doc, pm, an, cdv, ct, osl, rfl, lk, hcd⟩ := F.ex
  refine fn_of lk hcd S len fun A outer s H vs Q E hr hsp => ?_
  obtain ⟨t, h, q⟩ := hbody cdv A outer s H vs Q E rfl hr hsp
  exact ⟨t, h.nox, q⟩
/-! ### the head of a law that comes to lambdas: the tables of their defs are tracked -/
theorem law_callT {P : Program} {w : World} {K : PySem.W.Frag} {mg mb : Str → Option Value} {k : Nat} {fa a : Addr} {fd : FuncData} {x : Str} {sp : Sp} {s₁ : Shared} {vs : List Value} {ns : List Int} {tabs : List (Addr × Addr)}
    (KX : K.In s₁.heap) (hns : s₁.heap.Ns mainGlobals mg) (hb : s₁.heap.Ns builtinsNs mb) (hbb : ∀ x : Str, x ≠ "__name__" → mb x = bootBuiltins x) (hlim : s₁.heap.NoLimit) (hg : s₁.gens = #[])
    (hT : PySem.W.TabsAt tabs s₁.heap) (hK0 : PySem.W.noTabs K = true)
    (hbm : ∃ bm ob, mg "__builtins__" = some (.ref bm) ∧ bm ≠ builtinsNs ∧ s₁.heap.get? bm = some ob ∧ ob.cls = .type "module" ∧ ob.dict = some builtinsNs ∧ ob.data = .plain)
    (ha : s₁.heap.get? a = some { cls := .type "list", data := .seq vs.toArray }) (hi : IntsAre vs ns) (hl : ns.length ≤ sizeLine) (hr : Room k callerA)
    (F : ∀ base : Heap, K.In base → base.Ns mainGlobals mg → (∀ q ∈ tabs, LamB mg base q.1 q.2) → FnOk P w K mg base CX0 k fa fd [x] sp) (hbind : ∀ (s : Shared) (u : Value), BindsTo s fd ⟨[u], []⟩ [(x, u)])
    (hsp : ∀ H : Hp, (∀ q ∈ tabs, TabOk H q.2) → SqL K H a (ns.map V.int) → sp [.ref a] H (fun v _ => v = .bl true) fun _ _ _ => False) :
    codeAny (model P w) callerA (.call (.ref fa) ⟨[.ref a], []⟩) (fun r s' => r = .ok (.ret (.bool true)) ∧ OldK s₁.heap s'.heap ∧ s'.os = s₁.os ∧ AllBare s'.gens) s₁ := by
  have rv := vals_ints hi
  have lenV := hi.length
  have hPa : ∀ q ∈ tabs, q.2 ≠ a := fun q hq z => by
    have e := (hT q hq).2
    rw [z, ha] at e; cases e
  have hKP : ∀ q ∈ tabs, K.lookup q.2 = none := fun q hq => by
    cases e : K.lookup q.2 with
    | none => rfl
    | some o =>
      have e1 := KX _ _ e
      rw [(hT q hq).2] at e1
      cases e1
      have h2 := List.all_eq_true.mp hK0 (q.2, _) (PySem.W.mem_of_lookupK e)
      exact absurd (show false = true from h2) Bool.false_ne_true
  have core : ∀ H : Hp, (∀ b, H b = none ∨ (∃ o xs, H b = some (.frz o (.lst xs)) ∧ b = a ∧ K.lookup a = none) ∨ (H b = some (.tbl #[]) ∧ b ∈ tabs.map (·.2))) → (∀ q ∈ tabs, H q.2 = some (.tbl #[])) → SqL K H a (ns.map V.int) → HOk P w H s₁.heap →
      codeAny (model P w) callerA (.call (.ref fa) ⟨[.ref a], []⟩) (fun r s' => r = .ok (.ret (.bool true)) ∧ OldK s₁.heap s'.heap ∧ s'.os = s₁.os ∧ AllBare s'.gens) s₁ := by
    intro H hO hTb hS hok
    have noP : ∀ {b : Addr} {o : Obj}, s₁.heap.get? b = some o → o ≠ PySem.W.tabObj #[] → b ≠ a → H b = none := fun {b o} e hne hba => by
      rcases hO b with z | ⟨_, _, _, z, _⟩ | ⟨_, z⟩
      · exact z
      · exact absurd z hba
      · obtain ⟨q, hq, rfl⟩ := List.mem_map.mp z
        rw [(hT q hq).2] at e
        exact absurd (Option.some.inj e).symm hne
    have base_of : ∀ {b : Addr} {o : Obj}, s₁.heap.get? b = some o → H b = none → (hidT s₁.heap H).get? b = some o := fun e n => hidT_get e n
    have noA : ∀ {b : Addr} {o : Obj} {es : Array DictEntry} {ep : Nat}, s₁.heap.get? b = some o → o.data = .dict es ep → H b = none := fun {b o es ep} e d => by
      refine noP e (fun z => by rw [z] at d; cases d) fun z => ?_
      subst z
      rw [ha] at e; cases e; cases d
    have nsK : ∀ {b : Addr} {m : Str → Option Value}, s₁.heap.Ns b m → (hidT s₁.heap H).Ns b m := fun {b m} ⟨o, es, ep, e, d, r⟩ => ⟨o, es, ep, base_of e (noA e d), d, r⟩
    have hKb : K.In (hidT s₁.heap H) := fun b o e => base_of (KX b o e) (by
      rcases hO b with z | ⟨_, _, _, z, y⟩ | ⟨_, z⟩
      · exact z
      · rw [z, y] at e; cases e
      · obtain ⟨q, hq, rfl⟩ := List.mem_map.mp z
        rw [hKP q hq] at e; cases e)
    have hM : Mod K mg (hidT s₁.heap H) := ⟨hKb, nsK hns, ⟨mb, nsK hb, hbb⟩, let ⟨mc, h1, h2⟩ := hlim; ⟨mc, nsK h1, h2⟩⟩
    have hL : ∀ q ∈ tabs, LamB mg (hidT s₁.heap H) q.1 q.2 := fun q hq => by
      refine ⟨?_, ?_⟩
      · obtain ⟨o, ws, file, tf, flags, tg, inF, text, tt, e, e1, r⟩ := (hT q hq).1
        refine ⟨o, ws, file, tf, flags, tg, inF, text, tt, base_of e (noP e (fun z => by rw [z] at e1; cases e1) fun z => ?_), e1, r⟩
        rw [z, ha] at e; cases e; exact absurd e1 (by simp)
      · obtain ⟨bm, ob, b1, b2, b3, b4, b5⟩ := hbm
        refine ⟨bm, ob, b1, b2, base_of b3 (noP b3 (fun z => by rw [z] at b4; cases b4) fun z => ?_), b4, b5⟩
        rw [z, ha] at b3; cases b3; exact absurd b4 (by simp)
    have e0 : Env0 P w K mg (hidT s₁.heap H) callerA [] s₁ H := ⟨rfl, hM, fun b o e => of_hidT e, Nat.le_of_eq (hidT_size _ _), trivial, fun b hb => absurd (show b ∈ ([] : List Addr) from hb) (by simp), hok, .of_eq hg⟩
    have tk : ∀ q ∈ tabs, TabOk H q.2 := fun q hq => ⟨#[], hTb q hq, trivial, fun _ => .inl rfl⟩
    refine codeAny_mono ((F _ hKb (nsK hns) hL).run callerA [] s₁ H ⟨[.ref a], []⟩ [.ref a] [.ref a] _ _ hr e0 (hbind s₁ (.ref a)) (.cons rfl .nil) (hsp H tk hS)) fun r s' h => ?_
    cases r with
    | error e => exact h.elim
    | ok fl =>
      cases fl with
      | next => exact False.elim h
      | brk => exact False.elim h
      | cont => exact False.elim h
      | ret u =>
        obtain ⟨v, H', os, bare, un, hok', r', q⟩ := h
        have q' : v = .bl true := q
        subst q'
        obtain rfl : u = Value.bool true := r'
        have cases3 : ∀ b o, s₁.heap.get? b = some o → s'.heap.get? b = some o ∨ (∃ q ∈ tabs, b = q.2 ∧ ∃ ps, s'.heap.get? b = some (PySem.W.tabObj ps)) := fun b o e => by
          rcases hO b with z | ⟨ob, xs, z, _⟩ | ⟨z, y⟩
          · exact .inl (un.keep b o e z (by intro z; exact absurd (show b ∈ ([] : List Addr) from z) (by simp)) (by simp))
          · have z2 := un.frzs b ob _ z
            obtain ⟨e1, _⟩ := hok b _ z
            obtain ⟨e2, _⟩ := hok' b _ z2
            rw [e] at e1; cases e1
            exact .inl e2
          · obtain ⟨q, hq, rfl⟩ := List.mem_map.mp y
            obtain ⟨more, z2⟩ := un.tbls _ _ z
            exact .inr ⟨q, hq, rfl, _, hok' _ _ z2⟩
        refine ⟨rfl, ⟨fun b o e => ?_, fun b o e => ?_⟩, os, bare⟩
        · rcases cases3 b o e with z | ⟨q, hq, rfl, ps, z⟩
          · exact .inl z
          · have e2 := (hT q hq).2
            rw [e] at e2
            cases e2
            exact .inr (.inl ⟨((hT q hq).1.tab (hT q hq).2).isCodeTable, rfl, #[], ps, rfl, by rw [Array.empty_append]; exact z⟩)
        · rcases cases3 b o e with z | ⟨q, hq, rfl, ps, z⟩
          · exact ⟨_, z⟩
          · exact ⟨_, z⟩
  have memT : ∀ b, b ∈ tabs.map (·.2) → s₁.heap.get? b = some (PySem.W.tabObj #[]) := fun b hb => by
    obtain ⟨q, hq, rfl⟩ := List.mem_map.mp hb
    exact (hT q hq).2
  cases hk : K.lookup a with
  | some o =>
    have e := KX a o hk
    rw [ha] at e
    cases e
    refine core (fun b => if b ∈ tabs.map (·.2) then some (.tbl #[]) else none) (fun b => ?_) (fun q hq => if_pos (List.mem_map_of_mem hq)) (.inr ⟨_, vs.toArray, _, hk, rfl, rfl, rfl, by rw [List.size_toArray, lenV]; exact hl, by simpa using rv⟩) (fun b u z => ?_)
    · by_cases hb : b ∈ tabs.map (·.2)
      · exact .inr (.inr ⟨if_pos hb, hb⟩)
      · exact .inl (if_neg hb)
    · by_cases hb : b ∈ tabs.map (·.2)
      · have z' := (if_pos hb).symm.trans z
        cases z'
        exact memT b hb
      · have z' := (if_neg hb).symm.trans z
        cases z'
  | none =>
    refine core (fun b => if b = a then some (.frz { cls := .type "list", data := .seq vs.toArray } (.lst (ns.map V.int))) else if b ∈ tabs.map (·.2) then some (.tbl #[]) else none) (fun b => ?_) (fun q hq => ?_) (.inl (.inr ⟨{ cls := .type "list", data := .seq vs.toArray }, if_pos rfl⟩)) (fun b u z => ?_)
    · by_cases hb : b = a
      · exact .inr (.inl ⟨_, _, if_pos hb, hb, hk⟩)
      · by_cases hb2 : b ∈ tabs.map (·.2)
        · exact .inr (.inr ⟨(if_neg hb).trans (if_pos hb2), hb2⟩)
        · exact .inl ((if_neg hb).trans (if_neg hb2))
    · exact (if_neg (hPa q hq)).trans (if_pos (List.mem_map_of_mem hq))
    · by_cases hb : b = a
      · have z' := (if_pos hb).symm.trans z
        cases z'
        subst hb
        exact ⟨ha, by rw [List.length_map]; exact hl, vs, _, rv, ha⟩
      · have z1 := (if_neg hb).symm.trans z
        by_cases hb2 : b ∈ tabs.map (·.2)
        · have z' := (if_pos hb2).symm.trans z1
          cases z'
          exact memT b hb2
        · have z' := (if_neg hb2).symm.trans z1
          cases z'
/-- the goal that k_head leaves, of a law that comes to lambdas; x the defs that make them -/
theorem walk_ofT {l : PySem.W.OpenLaw} {n k : Nat} {q : Program} {loose : List Str} {XP : (Str → Option Value) → Heap → Prop} {YP : World → Heap → Prop} {d : DefRec} {K : Params → PySem.W.Frag} {sp : World → Sp} {x : Str} {tabs : World → List (Addr × Addr)}
    (hn : l.most = some n) (hn2 : n ≤ sizeLine) (hdf : d.params.defaults = []) (hr : Room k callerA)
    (hY : ∀ (w : World) (h : Heap), YP w h → (K w.params).In h) (hK0 : ∀ w : World, PySem.W.noTabs (K w.params) = true)
    (hT : ∀ (w : World) (h : Heap), YP w h → PySem.W.TabsAt (tabs w) h)
    (F : ∀ (w : World) (mg : Str → Option Value) (fa : Addr) (h : Heap), (K w.params).In h → h.Ns mainGlobals mg → mg d.name = some (.ref fa) →
      ∃ fd : FuncData, (∀ (s : Shared) (u : Value), BindsTo s fd ⟨[u], []⟩ [(x, u)]) ∧
        ∀ base : Heap, (K w.params).In base → base.Ns mainGlobals mg → (∀ p ∈ tabs w, LamB mg base p.1 p.2) → FnOk l.prog w (K w.params) mg base CX0 k fa fd [x] (sp w))
    (hsp : ∀ (w : World) (H : Hp) (a : Addr) (ns : List Int), ns.length ≤ n → (∀ p ∈ tabs w, TabOk H p.2) → SqL (K w.params) H a (ns.map V.int) → sp w [.ref a] H (fun v _ => v = .bl true) fun _ _ _ => False) :
    PySem.W.WalkO q loose XP YP l.row.toRowW d [] (fun f vs => PySem.call f vs) := by
  refine Att.attach_call hn hdf fun w s₀ s₁ mg mb fa o pm cd doc a vs ns G Y ho hd hcd hmg hobj hints hlen hg => ?_
  have KX := hY w _ Y
  obtain ⟨fd, hb, hF⟩ := F w mg fa _ KX G.T.g hmg
  have hTT := hT w _ Y
  exact law_callT KX G.T.g G.T.b G.T.builtins G.T.nolimit hg hTT (hK0 w) G.T.bmain hobj hints (Nat.le_trans hlen hn2) hr hF hb fun H hO hS => hsp w H a ns hlen hO hS
/-- the pieces of a written lambda -/
def lastArg : Expr → Expr
  | .Call _ args _ _ => args.getLastD (.Constant .none 0 ⟨0, 0, 0, 0⟩)
  | e => e
def lamScope : Expr → Scope
  | .Lambda _ _ sc _ => sc
  | _ => { kind := .function, names := [], isGenerator := false, isCoroutine := false }
theorem lookup_one {x y : Str} {c cc : Addr} (h : [(y, c)].lookup x = some cc) : x = y ∧ cc = c := by
  have m := PySem.mem_of_lookup h
  rw [List.mem_singleton] at m
  cases m
  exact ⟨rfl, rfl⟩
end L2

set_option maxRecDepth 100000
set_option maxHeartbeats 4000000
namespace Wd
open PySem L2 Ow
theorem iteC {b : Bool} {A B : Prop} (hb : b = true) (h : A) : if b = true then A else B := by
  rw [if_pos hb]
  exact h
theorem iteCN {b : Bool} {A B : Prop} (hb : b = false) (h : B) : if b = true then A else B := by
  rw [if_neg (by rw [hb]; simp)]
  exact h
/-! ### trees told with leaves of a function -/
/-- a promise at a heap where a table of code is tracked -/
def spT (P0 : Addr) (sp : Sp) : Sp := fun vs H Q E => TabOk H P0 ∧ sp vs H Q E
def toldD (ts : List Tie) (il : List Nat) (m : Nat) (leaf : Nat → Nat → Option PyData) : Nat → Nat → Nat → PyData
  | f, y, n => match firstSB ts il y n with
    | some t => .tuple [.str ("broken" : Str), .int (t : Int)]
    | none => match leaf y n with
      | some d => d
      | none => match openL m y n, f with
        | k :: _, f + 1 => .tuple [.str ("split" : Str), .int (k : Int), toldD ts il m leaf f (y ||| 2 ^ k) n, toldD ts il m leaf f y (n ||| 2 ^ k)]
        | _, _ => .tuple []
section
variable {ts : List Tie} {il : List Nat} {m f y n : Nat} {leaf : Nat → Nat → Option PyData}
theorem toldD_broken {i : Nat} (hb : firstSB ts il y n = some i) : toldD ts il m leaf f y n = .tuple [.str ("broken" : Str), .int (i : Int)] := by
  unfold toldD
  simp [hb]
theorem toldD_leaf {d : PyData} (hb : firstSB ts il y n = none) (hl : leaf y n = some d) : toldD ts il m leaf f y n = d := by
  unfold toldD
  simp [hb, hl]
theorem toldD_split {k : Nat} {r : List Nat} (hb : firstSB ts il y n = none) (hl : leaf y n = none) (ho : openL m y n = k :: r) : toldD ts il m leaf (f + 1) y n = .tuple [.str ("split" : Str), .int (k : Int), toldD ts il m leaf f (y ||| 2 ^ k) n, toldD ts il m leaf f y (n ||| 2 ^ k)] := by
  conv => lhs; unfold toldD
  simp only [hb, hl, ho]
end
/-- what a leaf's function told -/
def LeafV (leaf : Nat → Nat → Option PyData) (y n : Nat) (H : Hp) (v : V) : Prop := match leaf y n with
  | none => v = .non
  | some d => Dn H d v ∧ ∃ p, v = .ref p
def spLf (C : Hp → Prop) (leaf : Nat → Nat → Option PyData) : Sp := fun vs H Q _ => ∃ y n : Nat, vs = [.int y, .int n] ∧ C H ∧ ∀ (v : V) (H' : Hp), Same H H' → LeafV leaf y n H' v → Q v H'
/-- at the stands that are come to, a leaf is told where nothing is open -/
def EndsR (ts : List Tie) (il : List Nat) (m : Nat) (leaf : Nat → Nat → Option PyData) (y n : Nat) : Prop := ∃ R : Nat → Nat → Prop, R y n ∧ (∀ y n k, R y n → k ∈ openL m y n → R (y ||| 2 ^ k) n ∧ R y (n ||| 2 ^ k)) ∧ ∀ y n, R y n → firstSB ts il y n = none → openL m y n = [] → leaf y n ≠ none
theorem EndsR.all {ts : List Tie} {il : List Nat} {m : Nat} {leaf : Nat → Nat → Option PyData} (h : ∀ y n, firstSB ts il y n = none → openL m y n = [] → leaf y n ≠ none) (y n : Nat) : EndsR ts il m leaf y n := ⟨fun _ _ => True, trivial, fun _ _ _ _ _ => ⟨trivial, trivial⟩, fun y n _ => h y n⟩
def spToldF (f : Nat) (p : Addr) (C : Hp → Prop) (m : Nat) (leaf : Nat → Nat → Option PyData) : Sp := fun vs H Q _ => ∃ (wd : Addr) (ts : List Tie) (tl : Addr) (il : List Nat) (y n : Nat), vs = [.ref wd, .ref tl, .int y, .int n, .ref p] ∧ WoodT H wd m ts ∧ H tl = some (.lst (natsL il)) ∧ (∀ i ∈ il, i < ts.length) ∧ (openL m y n).length ≤ f ∧ C H ∧ EndsR ts il m leaf y n ∧ ∀ (v : V) (H' : Hp), Same H H' → Dn H' (toldD ts il m leaf f y n) v → Q v H'
/-- a lambda as a leaf's function -/
theorem lam_fn {P : Program} {w : World} {K : PySem.W.Frag} {mg : Str → Option Value} {base : Heap} {p c : Addr} {qual : Str} {params : Arguments} {body : Expr} {scope : Scope} {cl : List (Str × Addr)} {H1 : Hp} {ps fr : List Str} {fv : List V} {k : Nat} {leaf : Nat → Nat → Option PyData} (C0 : Hp → Prop)
    (hp : H1 p = some (.ext (lamP p qual params body scope cl c)))
    (S : LamScope ps fr scope) (hcl : ∀ x cc, cl.lookup x = some cc → ∃ v, base.IsCell cc v) (inj : ∀ x y cc, cl.lookup x = some cc → cl.lookup y = some cc → x = y) (has : ∀ y ∈ scope.names, y.2 = .free → ∃ cc, cl.lookup y.1 = some cc)
    (hfv : ∀ (i : Nat) (x : Str) (v : V), fr[i]? = some x → fv[i]? = some v → ∃ cc u, cl.lookup x = some cc ∧ RelV v u ∧ base.IsCell cc (some u)) (hlen : fv.length = fr.length)
    (hsame : ∀ pm ctv args, bindArgs (PySem.W.kla_fn "<lambda>" qual params body scope cl pm (.ref c) ctv) args = bindArgs (PySem.W.kla_fn "<lambda>" qual params body scope cl .none (.ref c) .none) args)
    (len2 : ps.length = 2)
    (hbody : ∀ (q : Str) (A : Around) (outer : List Env) (s : Shared) (H : Hp) (y n : Nat) (Q : VK), Room k (A.deeper (PySem.W.envX q scope s.heap.objs.size p (.ref c) cl)) → C0 H → (∀ (v : V) (H' : Hp), Same H H' → LeafV leaf y n H' v → Q v H') →
      ∃ t, PE (cxLam P w K mg base (ps ++ fr) q scope p c cl A outer s H) body t ∧ t ([some (.int y), some (.int n)] ++ fv.map some) H Q) :
    FnOk P w K mg base CX0 (k + 1) p (PySem.W.kla_fn "<lambda>" qual params body scope cl .none (.ref c) .none) ps (spLf (fun H => C0 H ∧ H p = some (.ext (lamP p qual params body scope cl c)) ∧ H c = some (.ext (codeP c))) leaf) := by
  refine lam_ok S hcl inj has hfv hlen hsame (fun vs H Q E h => ?_) (fun vs H Q E h => ?_) (fun q A outer s H vs Q E hr h => ?_)
  · obtain ⟨y, n, rfl, _⟩ := h
    exact len2.symm
  · obtain ⟨y, n, rfl, ⟨_, h1, h2⟩, _⟩ := h
    exact ⟨h1, h2⟩
  · obtain ⟨y, n, rfl, ⟨h0, _, _⟩, q'⟩ := h
    exact hbody q A outer s H y n Q hr h0 q'
theorem lamP_fn {p : Addr} {qual : Str} {params : Arguments} {body : Expr} {scope : Scope} {cl : List (Str × Addr)} {c : Addr} (h : Heap) (x : lamP p qual params body scope cl c h) : ∃ o fd', h.get? p = some o ∧ o.data = .func fd' := by
  obtain ⟨pm, ctv, e⟩ := x
  exact ⟨_, _, e, rfl⟩
/-- the leaves of a tree of cases -/
def wareLeaf (m : Nat) (y n : Nat) : Option PyData := if openL m y n = [] then some (.tuple [.str ("ware" : Str)]) else none
theorem told_cases {ts : List Tie} {il : List Nat} {m : Nat} : ∀ (f y n : Nat), (openL m y n).length ≤ f → toldD ts il m (wareLeaf m) f y n = (casesF ts il m f y n).toD
  | f, y, n, hf => by
    cases hb : firstSB ts il y n with
    | some i => rw [toldD_broken hb, casesF_broken hb]; rfl
    | none =>
      cases ho : openL m y n with
      | nil => rw [toldD_leaf hb (by unfold wareLeaf; rw [if_pos ho]), casesF_full hb ho]; rfl
      | cons k r =>
        cases f with
        | zero => rw [ho] at hf; simp at hf
        | succ f =>
          have hk : k ∈ openL m y n := by rw [ho]; exact List.mem_cons_self
          have l1 := open_less1 hk
          have l2 := open_less2 hk
          rw [toldD_split hb (by unfold wareLeaf; rw [if_neg (by rw [ho]; simp)]) ho, casesF_split hb ho, told_cases f _ _ (by omega), told_cases f _ _ (by omega)]
          rfl
end Wd

set_option maxRecDepth 100000
set_option maxHeartbeats 4000000
namespace L2
open PySem PySem.Spec PyProof.Rows

/-! ### zip of two tuples -/
section
variable {prog : Program} {w : World} {A : Around} {E : Value → Shared → Prop} {s : Shared}
theorem zipT_item {z ti to j1 j2 q1 q2 : Addr} {i1 i2 : Nat} {xs ys : Array Value} {x y a b : Value} {Q : Value → Shared → Prop} (D : ZipApart z ti to j1 j2 q1 q2)
    (hz : IsZip s.heap z ti to .none) (hti : IsPair s.heap ti (.ref j1) (.ref j2)) (hto : IsPair s.heap to a b)
    (k1 : s.heap.IsTupleIter j1 q1 i1) (k2 : s.heap.IsTupleIter j2 q2 i2) (e1 : s.heap.IsTuple q1 xs) (e2 : s.heap.IsTuple q2 ys) (hx : xs[i1]? = some x) (hy : ys[i2]? = some y)
    (done : ∀ g, IsZip g z ti to (rawInt s.heap.objs.size) → IsPair g to x y → g.IsTupleIter j1 q1 (i1 + 1) → g.IsTupleIter j2 q2 (i2 + 1) → IsPair g s.heap.objs.size x y →
      (∀ c o, c ≠ z → c ≠ to → c ≠ j1 → c ≠ j2 → s.heap.get? c = some o → g.get? c = some o) → Q (.ref s.heap.objs.size) { s with heap := g }) :
    wpAny (model prog w) A (Builtin.«zip.__next__» ⟨[.ref z], []⟩) (fun fin s' => ∃ v, fin = .done (.ret v) ∧ Q v s') E s := by
  show wpAny _ _ (field (.ref z) 2 >>= _) _ _ _; refine wpAny_bind (wpAny_field hz rfl (x := .bool false) rfl ?_)
  show wpAny _ _ (field (.ref z) 3 >>= _) _ _ _; refine wpAny_bind (wpAny_field hz rfl (x := .ref ti) rfl ?_); refine wpAny_bind (wpAny_seqItems hti rfl ?_)
  show wpAny _ _ (Builtin.SmallTypes.ownedTupleIsFree (.ref z) >>= _) _ _ _; refine wpAny_bind ?_; unfold Builtin.SmallTypes.ownedTupleIsFree
  refine wpAny_bind (wpAny_field hz rfl (x := .none) rfl (wpAny_pure ?_)); simp only [if_true]; refine wpAny_bind (wpAny_rule ?_)
  refine wpAny_bind (wpAny_field hz rfl (x := .ref to) rfl ?_); refine wpAny_bind (wpAny_setField_rec hz (by simp) fun g1 z1 b1 => ?_)
  replace z1 : IsZip g1 z ti to .ellipsis := z1
  refine wpAny_bind ?_; simp only [List.zipIdx_cons, List.zipIdx_nil, List.forIn_cons, List.forIn_nil]
  refine wpAny_bind (wpAny_bind (wpAny_onRaise ?_)); show wpAny _ _ (Builtin.SmallTypes.nextOf (.ref j1) >>= _) _ _ _
  refine wpAny_bind (nextT_item (k1.extBut b1.extBut D.i1z) (e1.extBut b1.extBut D.l1z) hx fun g2 k12 b2 => wpAny_pure ?_)
  have t2 : IsPair g2 to a b := b2.extBut _ _ D.TOi1 (b1.extBut _ _ D.TOz hto)
  refine wpAny_bind (wpAny_seqItems t2 rfl ?_); refine wpAny_bind (wpAny_updateSeq_pair t2 fun g3 t3 b3 => ?_)
  replace t3 : IsPair g3 to x b := t3
  refine wpAny_bind (wpAny_letGo (wpAny_pure ?_)); refine wpAny_bind (wpAny_bind (wpAny_onRaise ?_)); show wpAny _ _ (Builtin.SmallTypes.nextOf (.ref j2) >>= _) _ _ _
  refine wpAny_bind (nextT_item (((k2.extBut b1.extBut D.i2z).extBut b2.extBut D.i12.symm).extBut b3.extBut D.TOi2.symm) (((e2.extBut b1.extBut D.l2z).extBut b2.extBut D.l2i1).extBut b3.extBut D.l2TO) hy fun g4 k24 b4 => wpAny_pure ?_)
  have t4 : IsPair g4 to x b := b4.extBut _ _ D.TOi2 t3
  refine wpAny_bind (wpAny_seqItems t4 rfl ?_); refine wpAny_bind (wpAny_updateSeq_pair t4 fun g5 t5 b5 => ?_)
  replace t5 : IsPair g5 to x y := t5
  refine wpAny_bind (wpAny_letGo (wpAny_pure (wpAny_pure ?_))); refine wpAny_bind (wpAny_seqItems t5 rfl ?_); refine wpAny_bind (wpAny_newTuple ?_)
  have sz : g5.objs.size = s.heap.objs.size := by rw [b5.1, b4.1, b3.1, b2.1, b1.1]
  have z5 : IsZip g5 z ti to .ellipsis := b5.extBut _ _ D.TOz.symm (b4.extBut _ _ D.i2z.symm (b3.extBut _ _ D.TOz.symm (b2.extBut _ _ D.i1z.symm z1)))
  have kp5 : ∀ c o, c ≠ z → c ≠ to → c ≠ j1 → c ≠ j2 → s.heap.get? c = some o → g5.get? c = some o := fun c o n1 n2 n3 n4 e =>
    b5.extBut _ _ n2 (b4.extBut _ _ n4 (b3.extBut _ _ n2 (b2.extBut _ _ n3 (b1.extBut _ _ n1 e))))
  have k15 : g5.IsTupleIter j1 q1 (i1 + 1) := ((k12.extBut b3.extBut D.TOi1.symm).extBut b4.extBut D.i12).extBut b5.extBut D.TOi1.symm
  have k25 : g5.IsTupleIter j2 q2 (i2 + 1) := k24.extBut b5.extBut D.TOi2.symm
  have zl : z < g5.objs.size := Heap.lt_size z5
  show wpAny _ _ (Builtin.SmallTypes.ownedTupleHandOut (.ref z) (.ref g5.objs.size) >>= _) _ _ _; refine wpAny_bind ?_; unfold Builtin.SmallTypes.ownedTupleHandOut
  have z6 : IsZip (g5.push { cls := .type "tuple", data := .seq #[x, y] }) z ti to .ellipsis := Heap.get?_push_of_some _ z5
  refine wpAny_bind (wpAny_setField_rec z6 (by simp) fun g7 z7 b7 => ?_)
  replace z7 : IsZip g7 z ti to (rawInt g5.objs.size) := z7
  refine wpAny_setField_rec z7 (by simp) fun g8 z8 b8 => ?_
  replace z8 : IsZip g8 z ti to (rawInt g5.objs.size) := z8
  have up : ∀ c o, c ≠ z → g5.get? c = some o → g8.get? c = some o := fun c o n1 e => b8.extBut _ _ n1 (b7.extBut _ _ n1 (Heap.get?_push_of_some _ e))
  have t8 : IsPair g8 g5.objs.size x y := b8.extBut _ _ (Nat.ne_of_gt zl) (b7.extBut _ _ (Nat.ne_of_gt zl) (Heap.get?_push_size _ rfl))
  rw [sz] at z8 t8
  refine wpAny_pure ⟨_, rfl, ?_⟩; show Q (.ref g5.objs.size) _; rw [sz]
  exact done g8 z8 (up _ _ D.TOz t5) (k15.at fun o e => up _ o D.i1z e) (k25.at fun o e => up _ o D.i2z e) t8 fun c o n1 n2 n3 n4 e => up c o n1 (kp5 c o n1 n2 n3 n4 e)
theorem zipT_end {z ti to j1 j2 q1 q2 : Addr} {i1 : Nat} {xs : Array Value} {Q : Fin → Shared → Prop} (hh : A.handled = none) (D : ZipApart z ti to j1 j2 q1 q2)
    (hz : IsZip s.heap z ti to .none) (hti : IsPair s.heap ti (.ref j1) (.ref j2)) (k1 : s.heap.IsTupleIter j1 q1 i1) (e1 : s.heap.IsTuple q1 xs) (hx : xs[i1]? = none)
    (fin : ∀ g e, (∀ c o, c ≠ z → c ≠ to → c ≠ j1 → c ≠ j2 → s.heap.get? c = some o → g.get? c = some o) → (∃ o, g.get? e = some o ∧ o.cls = .type "StopIteration") → E (.ref e) { s with heap := g }) :
    wpAny (model prog w) A (Builtin.«zip.__next__» ⟨[.ref z], []⟩) Q E s := by
  show wpAny _ _ (field (.ref z) 2 >>= _) _ _ _; refine wpAny_bind (wpAny_field hz rfl (x := .bool false) rfl ?_)
  show wpAny _ _ (field (.ref z) 3 >>= _) _ _ _; refine wpAny_bind (wpAny_field hz rfl (x := .ref ti) rfl ?_); refine wpAny_bind (wpAny_seqItems hti rfl ?_)
  show wpAny _ _ (Builtin.SmallTypes.ownedTupleIsFree (.ref z) >>= _) _ _ _; refine wpAny_bind ?_; unfold Builtin.SmallTypes.ownedTupleIsFree
  refine wpAny_bind (wpAny_field hz rfl (x := .none) rfl (wpAny_pure ?_)); simp only [if_true]; refine wpAny_bind (wpAny_rule ?_)
  refine wpAny_bind (wpAny_field hz rfl (x := .ref to) rfl ?_); refine wpAny_bind (wpAny_setField_rec hz (by simp) fun g1 z1 b1 => ?_)
  replace z1 : IsZip g1 z ti to .ellipsis := z1
  refine wpAny_bind ?_; simp only [List.zipIdx_cons, List.zipIdx_nil, List.forIn_cons, List.forIn_nil]
  refine wpAny_bind (wpAny_bind (wpAny_onRaise ?_)); show wpAny _ _ (Builtin.SmallTypes.nextOf (.ref j1) >>= _) _ _ _
  refine wpAny_bind (nextT_end hh (k1.extBut b1.extBut D.i1z) (e1.extBut b1.extBut D.l1z) hx fun g2 e b2 he => ?_)
  obtain ⟨oe, ho, hc⟩ := he
  have z2 : IsZip g2 z ti to .ellipsis := b2 _ _ D.i1z.symm z1
  have ez : e ≠ z := fun n => by subst n; rw [z2] at ho; cases ho; simp at hc
  exact wpAny_setField_rec z2 (by simp) fun g3 _ b3 => fin g3 e (fun c o n1 _ n3 _ n => b3.extBut _ _ n1 (b2 _ _ n3 (b1.extBut _ _ n1 n))) ⟨oe, b3.extBut _ _ ez ho, hc⟩
theorem nextZ_item {z ti to j1 j2 q1 q2 : Addr} {i1 i2 : Nat} {xs ys : Array Value} {x y a b : Value} {Q : Option Value → Shared → Prop} (D : ZipApart z ti to j1 j2 q1 q2)
    (hz : IsZip s.heap z ti to .none) (hti : IsPair s.heap ti (.ref j1) (.ref j2)) (hto : IsPair s.heap to a b)
    (k1 : s.heap.IsTupleIter j1 q1 i1) (k2 : s.heap.IsTupleIter j2 q2 i2) (e1 : s.heap.IsTuple q1 xs) (e2 : s.heap.IsTuple q2 ys) (hx : xs[i1]? = some x) (hy : ys[i2]? = some y)
    (done : ∀ g, IsZip g z ti to (rawInt s.heap.objs.size) → IsPair g to x y → g.IsTupleIter j1 q1 (i1 + 1) → g.IsTupleIter j2 q2 (i2 + 1) → IsPair g s.heap.objs.size x y →
      (∀ c o, c ≠ z → c ≠ to → c ≠ j1 → c ≠ j2 → s.heap.get? c = some o → g.get? c = some o) → Q (some (.ref s.heap.objs.size)) { s with heap := g }) :
    wpAny (model prog w) A (pyNext (.ref z)) Q E s := by
  have ht : s.TypeIs (.ref z) "zip" := ⟨_, hz, rfl⟩
  unfold pyNext
  exact wpAny_bind (wpAny_attempt (wpAny_callSpecial?_slot (name := Str.ofString "__next__") ht F.slot_zip_next (wpAny_call_entry F.slot_zip_next ht F.entry_zip_next
    (zipT_item D hz hti hto k1 k2 e1 e2 hx hy fun g a1 a2 a3 a4 a5 a6 => wpAny_pure (done g a1 a2 a3 a4 a5 a6)) (F.args_zip_next_1 _))))
theorem nextZ_end {z ti to j1 j2 q1 q2 : Addr} {i1 : Nat} {xs : Array Value} {Q : Option Value → Shared → Prop} (hh : A.handled = none) (D : ZipApart z ti to j1 j2 q1 q2)
    (hz : IsZip s.heap z ti to .none) (hti : IsPair s.heap ti (.ref j1) (.ref j2)) (k1 : s.heap.IsTupleIter j1 q1 i1) (e1 : s.heap.IsTuple q1 xs) (hx : xs[i1]? = none)
    (fin : ∀ g, (∀ c o, c ≠ z → c ≠ to → c ≠ j1 → c ≠ j2 → s.heap.get? c = some o → g.get? c = some o) → Q none { s with heap := g }) : wpAny (model prog w) A (pyNext (.ref z)) Q E s := by
  have ht : s.TypeIs (.ref z) "zip" := ⟨_, hz, rfl⟩
  unfold pyNext
  refine wpAny_bind (wpAny_attempt (wpAny_callSpecial?_slot (name := Str.ofString "__next__") ht F.slot_zip_next (wpAny_call_entry F.slot_zip_next ht F.entry_zip_next (zipT_end hh D hz hti k1 e1 hx fun g e kk he => ?_) (F.args_zip_next_1 _))))
  obtain ⟨o, ho, hc⟩ := he
  exact wpAny_bind (wpAny_isInstance (T := "StopIteration") (b := true) ⟨o, ho, hc⟩ isSubtype_stop (wpAny_pure (fin _ kk)))
end
abbrev zT1 (h : Heap) (a : Addr) : Heap := h.push { cls := .type "tuple_iterator", data := .fields #[.ref a, .int 0 0] }
abbrev zT2 (h : Heap) (a b : Addr) : Heap := (zT1 h a).push { cls := .type "tuple_iterator", data := .fields #[.ref b, .int 0 0] }
abbrev zT3 (h : Heap) (a b : Addr) : Heap := (zT2 h a b).push { cls := .type "tuple", data := .seq #[.ref h.objs.size, .ref (zT1 h a).objs.size] }
abbrev zT4 (h : Heap) (a b : Addr) : Heap := (zT3 h a b).push { cls := .type "tuple", data := .seq #[.none, .none] }
abbrev zT5 (h : Heap) (a b : Addr) : Heap := (zT4 h a b).push { cls := .type "zip", data := .fields #[.none, .bool false, .bool false, .ref (zT2 h a b).objs.size, .ref (zT3 h a b).objs.size] }
theorem meets_zipT (a b : Addr) (xs ys : Array Value) :
    Meets (Builtin.«zip.__new__» ⟨[.type "zip", .ref a, .ref b], []⟩) (fun _ R s => s.heap.IsTuple a xs ∧ s.heap.IsTuple b ys ∧ R (.ok (.ret (.ref (zT4 s.heap a b).objs.size))) { s with heap := zT5 s.heap a b }) :=
  .of_wp fun prog w A R s h => by
    obtain ⟨hp, g, d, tk, os⟩ := s
    obtain ⟨ha, hb, h⟩ := h
    have hsub := sub_zip
    have hA : Heap.IsTuple (Shared.heap ⟨hp, g, d, tk, os⟩) a xs := ha
    have hB : Heap.IsTuple (Shared.heap ⟨hp.push { cls := .type "tuple_iterator", data := .fields #[.ref a, .int 0 0] }, g, d, tk, os⟩) b ys := Heap.IsTuple.push hb _
    wp_walk using wpAny_pyIter_tuple hA, wpAny_pyIter_tuple hB
    exact ⟨_, rfl, h⟩
theorem call_zipT {prog : Program} {w : World} {A : Around} {E : Value → Shared → Prop} {s : Shared} {a b : Addr} {xs ys : Array Value} {Q : Value → Shared → Prop} (ha : s.heap.IsTuple a xs) (hb : s.heap.IsTuple b ys)
    (k : ∀ g, IsZip g (s.heap.objs.size + 4) (s.heap.objs.size + 2) (s.heap.objs.size + 3) .none → IsPair g (s.heap.objs.size + 2) (.ref s.heap.objs.size) (.ref (s.heap.objs.size + 1)) →
      IsPair g (s.heap.objs.size + 3) .none .none → g.IsTupleIter s.heap.objs.size a 0 → g.IsTupleIter (s.heap.objs.size + 1) b 0 → (∀ c o, s.heap.get? c = some o → g.get? c = some o) → Q (.ref (s.heap.objs.size + 4)) { s with heap := g }) :
    wpAny (model prog w) A (call (.type "zip") [.ref a, .ref b]) Q E s := by
  refine callType_new F.called_zip (by decide) (F.typeCall_zip_2 _ _) (F.newCall_zip_2 _ _) (fun obj => F.args_object_init_3 obj _ _) F.entry_zip_new (meets_zipT a b xs ys) ⟨ha, hb, ?_⟩
  have n1 : (zT1 s.heap a).objs.size = s.heap.objs.size + 1 := Heap.size_push ..
  have n2 : (zT2 s.heap a b).objs.size = s.heap.objs.size + 2 := by rw [Heap.size_push, n1]
  have n3 : (zT3 s.heap a b).objs.size = s.heap.objs.size + 3 := by rw [Heap.size_push, n2]
  have n4 : (zT4 s.heap a b).objs.size = s.heap.objs.size + 4 := by rw [Heap.size_push, n3]
  have c5 : (zT5 s.heap a b).get? (zT4 s.heap a b).objs.size = some _ := Heap.get?_push_size _ rfl
  have c4 : (zT5 s.heap a b).get? (zT3 s.heap a b).objs.size = some _ := Heap.get?_push_of_some _ (Heap.get?_push_size _ rfl)
  have c3 : (zT5 s.heap a b).get? (zT2 s.heap a b).objs.size = some _ := Heap.get?_push_of_some _ (Heap.get?_push_of_some _ (Heap.get?_push_size _ rfl))
  have c2 : (zT5 s.heap a b).get? (zT1 s.heap a).objs.size = some _ := Heap.get?_push_of_some _ (Heap.get?_push_of_some _ (Heap.get?_push_of_some _ (Heap.get?_push_size _ rfl)))
  have c1 : (zT5 s.heap a b).get? s.heap.objs.size = some _ := Heap.get?_push_of_some _ (Heap.get?_push_of_some _ (Heap.get?_push_of_some _ (Heap.get?_push_of_some _ (Heap.get?_push_size _ rfl))))
  show _ ∧ _
  rw [n2, n3, n4] at c5; rw [n1, n2] at c3; rw [n3] at c4; rw [n1] at c2; rw [n4]
  exact ⟨⟨_, c5, rfl⟩, k _ c5 c3 c4 ⟨_, c1, rfl, rfl⟩ ⟨_, c2, rfl, rfl⟩ fun c o e => Heap.get?_push_of_some _ (Heap.get?_push_of_some _ (Heap.get?_push_of_some _ (Heap.get?_push_of_some _ (Heap.get?_push_of_some _ e))))⟩
/-- zip over two tuples of one length: pairs, each a new tuple -/
def Itz (K : PySem.W.Frag) (a b : Addr) : It :=
  ⟨fun i H => ∃ xs ys x y, SqT K H a xs ∧ SqT K H b ys ∧ xs[i]? = some x ∧ ys[i]? = some y,
   fun i H v H' => ∃ T x y, v = .ref T ∧ H T = none ∧ H' = upd H T (.tup [x, y]) ∧ ∀ xs ys, SqT K H a xs → SqT K H b ys → xs[i]? = some x ∧ ys[i]? = some y,
   fun i H => ∃ xs ys, SqT K H a xs ∧ SqT K H b ys ∧ xs.length = i⟩
/-- some records have turned, a pair is laid -/
theorem Inv.turnedL {X : Cx} {pins : List (Addr × Obj)} {σ : St} {H : Hp} {s : Shared} {h' : Heap} {t' : Nat} {ch : List Addr} {T : Addr} {v v2 : V} {u u2 : Value} (I : Inv X pins σ H s) (fc : ∀ c ∈ ch, FpOk X pins H c) (hT : s.heap.objs.size ≤ T) (rv : RelV v u) (rv2 : RelV v2 u2)
    (k : ∀ b o, b ∉ ch → s.heap.get? b = some o → h'.get? b = some o) (eT : h'.get? T = some { cls := .type "tuple", data := .seq #[u, u2] }) :
    Inv X pins σ (upd H T (.tup [v, v2])) { s with heap := h', toks := t' } := by
  have nT : H T = none := I.hok.fresh hT
  have ne : ∀ b o, H b = some o → b ∉ ch := fun b o q hb => by rw [(fc b hb).1] at q; cases q
  have un : Un (frs X.stack) ch H (upd H T (.tup [v, v2])) s.heap h' := by
    have lt : ∀ b o, s.heap.get? b = some o → b ≠ T := fun b o q => Nat.ne_of_lt (Nat.lt_of_lt_of_le (Heap.lt_size q) hT)
    exact ⟨fun b o q _ _ hx => k b o hx q, fun b o q _ _ hx => ⟨o.slots, k b o hx q⟩, fun b o q n _ => by rw [upd_ne (lt b o q)]; exact n, fun b o q hx => ⟨o, k b o hx q⟩,
      fun b xs q => by rw [upd_ne (ne_of_none q nT)]; exact q, fun b o xs q => by rw [upd_ne (ne_of_none q nT)]; exact q, fun b ps q => ⟨#[], by rw [upd_ne (ne_of_none q nT), q]; simp⟩⟩
  refine I.call (g' := s.gens) (d' := s.drawn) (ch := ch) un (fun a o q => ?_) I.bare fun b hb => ⟨(fc b hb).2.2.2.1, (fc b hb).2.1, (fc b hb).2.2.2.2.1, (fc b hb).2.2.2.2.2⟩
  by_cases ea : a = T
  · subst ea
    rw [upd_same] at q
    cases q
    exact ⟨Nat.le_of_lt (small1000 (by show 2 ≤ 1000; decide)), [u, u2], .cons rv (.cons rv2 .nil), ⟨_, eT, rfl, _, rfl⟩⟩
  · rw [upd_ne ea] at q
    refine (I.hok a o q).stay (fun b z hb r => k b z ?_ r) (fun b r => by rw [upd_ne (ne_of_none r nT)]; exact r) fun b xs r => by rw [upd_ne (ne_of_none r nT)]; exact r
    rcases hb with rfl | hb
    · exact ne _ _ q
    · exact ne _ _ hb
/-- .. and nothing is laid -/
theorem Inv.turnedE {X : Cx} {pins : List (Addr × Obj)} {σ : St} {H : Hp} {s : Shared} {h' : Heap} {t' : Nat} {ch : List Addr} (I : Inv X pins σ H s) (fc : ∀ c ∈ ch, FpOk X pins H c) (k : ∀ b o, b ∉ ch → s.heap.get? b = some o → h'.get? b = some o) :
    Inv X pins σ H { s with heap := h', toks := t' } := by
  have ne : ∀ b o, H b = some o → b ∉ ch := fun b o q hb => by rw [(fc b hb).1] at q; cases q
  have un : Un (frs X.stack) ch H H s.heap h' := ⟨fun b o q _ _ hx => k b o hx q, fun b o q _ _ hx => ⟨o.slots, k b o hx q⟩, fun b o q n _ => n, fun b o q hx => ⟨o, k b o hx q⟩, fun b xs q => q, fun b o xs q => q, fun b ps q => ⟨#[], by rw [q]; simp⟩⟩
  refine I.call (g' := s.gens) (d' := s.drawn) (ch := ch) un (fun a o q => ?_) I.bare fun b hb => ⟨(fc b hb).2.2.2.1, (fc b hb).2.1, (fc b hb).2.2.2.2.1, (fc b hb).2.2.2.2.2⟩
  refine (I.hok a o q).stay (fun b z hb r => k b z ?_ r) (fun b r => r) fun b xs r => r
  rcases hb with rfl | hb
  · exact ne _ _ q
  · exact ne _ _ hb
theorem turn_zip {P : Program} {w : World} {K : PySem.W.Frag} {elts : List Expr} {k : Nat} {pos : Pos} {z ti to j1 j2 a b : Addr} (D : ZipApart z ti to j1 j2 a b) :
    Turn P w K (.Tuple elts k pos) (Itz K a b) [z, ti, to, j1, j2] z (fun i h => (∃ old, IsZip h z ti to old ∧ old = .none) ∧ IsPair h ti (.ref j1) (.ref j2) ∧ (∃ u u2, IsPair h to u u2) ∧ h.IsTupleIter j1 a i ∧ h.IsTupleIter j2 b i) where
  mem := by simp
  obj := fun i h st c hc => by
    obtain ⟨⟨_, e1, _⟩, e2, ⟨u, u2, e3⟩, e4, e5⟩ := st
    simp only [List.mem_cons, List.not_mem_nil, or_false] at hc
    rcases hc with rfl | rfl | rfl | rfl | rfl
    · exact ⟨_, e1, fun v y => by cases (show Data.fields _ = Data.cell v from y)⟩
    · exact ⟨_, e2, fun v y => by cases (show Data.seq _ _ = Data.cell v from y)⟩
    · exact ⟨_, e3, fun v y => by cases (show Data.seq _ _ = Data.cell v from y)⟩
    · obtain ⟨o, e, _, d⟩ := e4
      exact ⟨o, e, fun v y => by rw [d] at y; cases y⟩
    · obtain ⟨o, e, _, d⟩ := e5
      exact ⟨o, e, fun v y => by rw [d] at y; cases y⟩
  keep := fun i h h' st kk => by
    obtain ⟨⟨o, e1, e1'⟩, e2, ⟨u, u2, e3⟩, e4, e5⟩ := st
    exact ⟨⟨o, kk z (by simp) _ e1, e1'⟩, kk ti (by simp) _ e2, ⟨u, u2, kk to (by simp) _ e3⟩, e4.at fun o q => kk j1 (by simp) o q, e5.at fun o q => kk j2 (by simp) o q⟩
  item := by
    intro X hP hw hK hc i pins s σ H E I hf st hg
    subst hP hw hK
    obtain ⟨⟨_, e1, rfl⟩, e2, ⟨u, u2, e3⟩, e4, e5⟩ := st
    obtain ⟨xs, ys, x, y, hx, hy, gx, gy⟩ := hg
    obtain ⟨ix, rx, px, _⟩ := I.tuple hx
    obtain ⟨iy, ry, py, _⟩ := I.tuple hy
    obtain ⟨ux, hux, rux⟩ := rx.get gx
    obtain ⟨uy, huy, ruy⟩ := ry.get gy
    have lz : z < s.heap.objs.size := Heap.lt_size e1
    refine nextZ_item D e1 e2 e3 e4 e5 (show s.heap.IsTuple a ix.toArray from px) (show s.heap.IsTuple b iy.toArray from py) (by rw [List.getElem?_toArray]; exact hux) (by rw [List.getElem?_toArray]; exact huy) fun g z1 t1 k1 k2 pT kk => ?_
    refine ⟨_, rfl, wpAny_letOwnedTupleGo_zip z1 fun g2 z2 sb => ?_⟩
    have I2 := I.turnedL (h' := g2) (t' := s.toks) (ch := [z, ti, to, j1, j2]) (T := s.heap.objs.size) hf (Nat.le_refl _) rux ruy (fun c o hc' q => by
      simp only [List.mem_cons, List.not_mem_nil, or_false, not_or] at hc'
      exact (sb.2 c hc'.1).trans (kk c o hc'.1 hc'.2.2.1 hc'.2.2.2.1 hc'.2.2.2.2 q)) ((sb.2 _ (Nat.ne_of_gt lz)).trans pT)
    refine ⟨.ref s.heap.objs.size, _, I2, rfl, ⟨_, x, y, rfl, I.hok.fresh (Nat.le_refl _), rfl, fun xs' ys' hx' hy' => by rw [I.tuple_inj hx' hx, I.tuple_inj hy' hy]; exact ⟨gx, gy⟩⟩, ?_, fun c hc' => ?_⟩
    · have at2 : ∀ {c o}, c ≠ z → g.get? c = some o → g2.get? c = some o := fun {c o} n q => (sb.2 c n).trans q
      exact ⟨⟨_, z2, rfl⟩, at2 D.TIz (kk _ _ D.TIz D.TITO D.TIi1 D.TIi2 e2), ⟨_, _, at2 D.TOz t1⟩, k1.at fun o q => at2 D.i1z q, k2.at fun o q => at2 D.i2z q⟩
    · have nz : H c = none := (hf c hc').1
      have cl : c < s.heap.objs.size := by
        simp only [List.mem_cons, List.not_mem_nil, or_false] at hc'
        rcases hc' with rfl | rfl | rfl | rfl | rfl
        · exact lz
        · exact Heap.lt_size e2
        · exact Heap.lt_size e3
        · obtain ⟨o, q, _⟩ := e4
          exact Heap.lt_size q
        · obtain ⟨o, q, _⟩ := e5
          exact Heap.lt_size q
      rw [upd_ne (Nat.ne_of_lt cl)]
      exact nz
  done := by
    intro X hP hw hK hc i pins s σ H E I hf st hg
    subst hP hw hK
    obtain ⟨⟨_, e1, rfl⟩, e2, ⟨u, u2, e3⟩, e4, e5⟩ := st
    obtain ⟨xs, ys, hx, hy, hi⟩ := hg
    obtain ⟨ix, rx, px, _⟩ := I.tuple hx
    have hl := rx.length
    refine nextZ_end (I.ok.hd hc) D e1 e2 e4 (show s.heap.IsTuple a ix.toArray from px) (by rw [List.getElem?_toArray]; exact List.getElem?_eq_none (by omega)) fun g kk => ⟨rfl, I.turnedE (t' := s.toks) (ch := [z, ti, to, j1, j2]) hf fun c o hc' q => ?_⟩
    simp only [List.mem_cons, List.not_mem_nil, or_false, not_or] at hc'
    exact kk c o hc'.1 hc'.2.2.1 hc'.2.2.2.1 hc'.2.2.2.2 q
  self := fun _ _ _ _ _ st h => by
    obtain ⟨⟨_, e1, _⟩, _⟩ := st
    exact wpAny_pyIter_zip e1 h
theorem zip_apart (n ca cb : Nat) (la : ca < n) (lb : cb < n) : ZipApart (n + 4) (n + 2) (n + 3) n (n + 1) ca cb :=
  have g : ∀ {i j : Nat}, i < j → i ≠ j := fun h => Nat.ne_of_lt h
  have u : ∀ {i j : Nat}, j < i → i ≠ j := fun h => Nat.ne_of_gt h
  ⟨g (by omega), g (by omega), g (by omega), g (by omega), g (by omega), u (by omega), u (by omega), u (by omega), u (by omega), g (by omega), g (by omega), g (by omega), g (by omega), g (by omega), g (by omega), g (by omega), g (by omega), g (by omega)⟩
def iZip (K : PySem.W.Frag) (ta : TA) : TI := fun σ H R => ta σ H fun vs H1 => ∃ a b : Addr, vs = [.ref a, .ref b] ∧ (∃ xs, SqT K H1 a xs) ∧ (∃ ys, SqT K H1 b ys) ∧ R (Itz K a b) H1
theorem pi_zip {X : Cx} {elts : List Expr} {k : Nat} {pos p pos' : Pos} {a b : Expr} {ta : TA} (hg : Gl X "zip") (hm : X.mg "zip" = none) (ha : PA X [a, b] ta) (hs : starEach [a, b] X.env = (false, eval a X.env) :: starEach [b] X.env := by rfl) (hpl : (backTo pos' (starEach [b] X.env)).any (·.1) = false := by rfl) :
    PI X (.Tuple elts k pos) (.Call (.Name "zip" p) [a, b] [] pos') (iZip X.K ta) := by
  intro pins s σ H R I h
  refine Call_ (ld_blt I hg hm PyProof.Rows.boot_zip (PyProof.Rows.callWith_type1 (thn (ha pos' pins s σ H _ I h) fun us s1 ⟨vs, H1, I1, r1, q1⟩ => ?_) hs hpl))
  obtain ⟨ca, cb, rfl, ⟨xs, hx⟩, ⟨ys, hy⟩, q⟩ := q1
  cases r1 with
  | cons ra rb =>
    cases rb with
    | cons rb r0 =>
      cases r0
      cases ra
      cases rb
      obtain ⟨ix, rx, px, _⟩ := I1.tuple hx
      obtain ⟨iy, ry, py, _⟩ := I1.tuple hy
      have la : ca < s1.heap.objs.size := px.lt
      have lb : cb < s1.heap.objs.size := py.lt
      refine call_zipT (show s1.heap.IsTuple ca ix.toArray from px) (show s1.heap.IsTuple cb iy.toArray from py) fun g z1 t1 t2 k1 k2 kk => ?_
      refine wpAny_pyIter_zip z1 ?_
      generalize hn : s1.heap.objs.size = n at *
      have D := zip_apart n ca cb la lb
      refine ⟨n + 4, [n + 4, n + 2, n + 3, n, n + 1], _, _, H1, rfl, I1.kept (t' := s1.toks) kk, turn_zip D, ⟨⟨_, z1, rfl⟩, t1, ⟨_, _, t2⟩, k1, k2⟩, fun d hd => ?_, q⟩
      have le : s1.heap.objs.size ≤ d := by
        rw [hn]
        simp only [List.mem_cons, List.not_mem_nil, or_false] at hd
        rcases hd with rfl | rfl | rfl | rfl | rfl
        · exact Nat.le_add_right _ _
        · exact Nat.le_add_right _ _
        · exact Nat.le_add_right _ _
        · exact Nat.le_refl _
        · exact Nat.le_add_right _ _
      exact I1.fpOk le (I1.hok.fresh le)
/-- a comprehension over zip of two tuples of one length -/
theorem lc_zip {K : PySem.W.Frag} {a b : Addr} {xs ys : List V} {σ0 : St} {H : Hp} {g : TG} {tc : TT} {te : TE} {Q : VK} (Pv : Nat → List V → St → Hp → Prop) (hlen : xs.length = ys.length) (h0 : Pv 0 [] σ0 H) (hz : ∀ i zs σ H, i ≤ xs.length → Pv i zs σ H → zs.length ≤ sizeLine)
    (hl : ∀ i zs σ H, i ≤ xs.length → Pv i zs σ H → SqT K H a xs ∧ SqT K H b ys)
    (hs : ∀ i x y zs σ H, xs[i]? = some x → ys[i]? = some y → Pv i zs σ H → ∀ T, H T = none → g (.ref T) σ (upd H T (.tup [x, y])) fun σ3 H3 => tc σ3 H3 fun b H4 => if b = true then te σ3 H4 fun v H5 => Pv (i + 1) (zs ++ [v]) σ3 H5 else Pv (i + 1) zs σ3 H4)
    (hd : ∀ zs σ H, Pv xs.length zs σ H → ∀ p, H p = none → Q (.ref p) (upd H p (.lst zs))) :
    lcGo (Itz K a b) g tc te σ0 H Q := by
  refine ⟨fun i m zs σ H => m = xs.length - i ∧ i ≤ xs.length ∧ Pv i zs σ H, ⟨xs.length, by simp, Nat.zero_le _, h0⟩, ?_⟩
  rintro i m zs σ H ⟨rfl, hi, p⟩
  refine ⟨hz i zs σ H hi p, ?_⟩
  obtain ⟨q1, q2⟩ := hl i zs σ H hi p
  by_cases hlt : i < xs.length
  · refine .inr ⟨⟨xs, ys, xs[i], ys[i], q1, q2, by simp [hlt], List.getElem?_eq_getElem (by omega)⟩, Pv (i + 1), fun ys' σ' H' p' => ⟨xs.length - (i + 1), by omega, rfl, hlt, p'⟩, fun v H' y => ?_⟩
    obtain ⟨T, x, y, rfl, hT, rfl, hv⟩ := y
    obtain ⟨v1, v2⟩ := hv xs ys q1 q2
    exact hs i x y zs σ H v1 v2 p T hT
  · have e : i = xs.length := by omega
    subst e
    exact .inl ⟨⟨xs, ys, q1, q2, rfl⟩, hd zs σ H p⟩
end L2
namespace Wd
open PySem L2 Ow
/-- data of texts, whole numbers and tuples of such, so deep at most -/
def plainD : Nat → PyData → Prop
  | 0, _ => False
  | f + 1, .tuple ds => ds.length ≤ 100 ∧ ∀ d ∈ ds, plainD f d
  | _ + 1, .str _ => True
  | _ + 1, .int _ => True
  | _ + 1, _ => False
def spAlike (f : Nat) : Sp := fun vs H Q _ => ∃ (d : PyData) (v u : V), vs = [v, u] ∧ Dn H d v ∧ Dn H d u ∧ plainD f d ∧ ∀ H', Same H H' → Q (.bl true) H'
theorem plain_ct : ∀ t : CT, plainD (t.depth + 2) t.toD
  | .broken t => ⟨by show 2 ≤ 100; decide, fun d hd => by
      rcases List.mem_cons.mp hd with rfl | hd
      · trivial
      · rw [List.mem_singleton.mp hd]; trivial⟩
  | .ware => ⟨by show 1 ≤ 100; decide, fun d hd => by rw [List.mem_singleton.mp hd]; trivial⟩
  | .split k a b => by
    have ha := plain_ct a
    have hb := plain_ct b
    refine ⟨by show 4 ≤ 100; decide, fun d hd => ?_⟩
    have up : ∀ {f g : Nat} {d : PyData}, f ≤ g → plainD f d → plainD g d := by
      intro f
      induction f with
      | zero => intro g d _ h; exact h.elim
      | succ f ih =>
        intro g d hg h
        obtain ⟨g', rfl⟩ : ∃ g', g = g' + 1 := ⟨g - 1, by omega⟩
        cases d with
        | tuple ds => exact ⟨h.1, fun d hd => ih (by omega) (h.2 d hd)⟩
        | str _ => trivial
        | int _ => trivial
        | none => exact h.elim
        | bool _ => exact h.elim
        | list _ => exact h.elim
        | dict _ => exact h.elim
    show plainD ((CT.split k a b).depth + 1) d
    have e : (CT.split k a b).depth = max a.depth b.depth + 1 := rfl
    rw [e]
    rcases List.mem_cons.mp hd with rfl | hd
    · trivial
    rcases List.mem_cons.mp hd with rfl | hd
    · trivial
    rcases List.mem_cons.mp hd with rfl | hd
    · exact up (by have := Nat.le_max_left a.depth b.depth; omega) ha
    · rw [List.mem_singleton.mp hd]
      exact up (by have := Nat.le_max_right a.depth b.depth; omega) hb
theorem plain_up : ∀ {f g : Nat} {d : PyData}, f ≤ g → plainD f d → plainD g d := by
  intro f
  induction f with
  | zero => intro g d _ h; exact h.elim
  | succ f ih =>
    intro g d hg h
    obtain ⟨g', rfl⟩ : ∃ g', g = g' + 1 := ⟨g - 1, by omega⟩
    cases d with
    | tuple ds => exact ⟨h.1, fun d hd => ih (by omega) (h.2 d hd)⟩
    | str _ => trivial
    | int _ => trivial
    | none => exact h.elim
    | bool _ => exact h.elim
    | list _ => exact h.elim
    | dict _ => exact h.elim
end Wd

set_option maxRecDepth 100000
set_option maxHeartbeats 4000000
namespace Wd
open PySem L2 Ow
/-- what least_bar answers, its lists unknown to H0 -/
def FoundF (H0 H : Hp) (fv : V) (ts : List Tie) (m y n : Nat) : Prop := (barB ts (allT ts) m y n = false ∧ fv = .non) ∨ (barB ts (allT ts) m y n = true ∧ ∃ (p lf ol : Addr) (v : V), fv = .ref p ∧ H p = some (.tup [.ref lf, v, .ref ol]) ∧ H lf = some (.lst (natsL (leastL ts m y n))) ∧ Dn H (casesF ts (leastL ts m y n) m 9 y n).toD v ∧ Others H ol ts m y n (leastL ts m y n) ∧ H0 lf = none ∧ H0 ol = none)
theorem FoundF.l {H0 H : Hp} {fv : V} {ts : List Tie} {m y n : Nat} (h : FoundF H0 H fv ts m y n) : FoundL H fv ts m y n := by
  rcases h with z | ⟨b, p, lf, ol, v, a1, a2, a3, a4, a5, _⟩
  · exact .inl z
  · exact .inr ⟨b, p, lf, ol, v, a1, a2, a3, a4, a5⟩
theorem FoundL.f {H : Hp} {fv : V} {ts : List Tie} {m y n : Nat} (h : FoundL H fv ts m y n) : FoundF (fun _ => none) H fv ts m y n := by
  rcases h with z | ⟨b, p, lf, ol, v, a1, a2, a3, a4, a5⟩
  · exact .inl z
  · exact .inr ⟨b, p, lf, ol, v, a1, a2, a3, a4, a5, rfl, rfl⟩
theorem FoundF.same {H0 H H' : Hp} {fv : V} {ts : List Tie} {m y n : Nat} (s : Same H H') (h : FoundF H0 H fv ts m y n) : FoundF H0 H' fv ts m y n := by
  rcases h with z | ⟨b, p, lf, ol, v, a1, a2, a3, a4, a5, a6, a7⟩
  · exact .inl z
  · obtain ⟨xs, h1, h2, h3⟩ := a5.ex
    refine .inr ⟨b, p, lf, ol, v, a1, s _ _ a2, s _ _ a3, Dn.same s _ _ a4, ⟨xs, s _ _ h1, h2, fun j t ht => ?_⟩, a6, a7⟩
    obtain ⟨p', b1, b2⟩ := h3 j t ht
    exact ⟨p', b1, s _ _ b2⟩
theorem FoundF.old {H0 H1 H : Hp} {fv : V} {ts : List Tie} {m y n : Nat} (s : Same H0 H1) (h : FoundF H1 H fv ts m y n) : FoundF H0 H fv ts m y n := by
  rcases h with z | ⟨b, p, lf, ol, v, a1, a2, a3, a4, a5, a6, a7⟩
  · exact .inl z
  · exact .inr ⟨b, p, lf, ol, v, a1, a2, a3, a4, a5, s.free a6, s.free a7⟩
/-- the standing of the option k, as it is told -/
def StandV (H0 H : Hp) (v : V) (ts : List Tie) (m k : Nat) : Prop := ∃ p, v = .ref p ∧
  ((barB ts (allT ts) m 1 0 = true ∧ ∃ fv, H p = some (.tup [.str ("void" : Str), fv]) ∧ FoundF H0 H fv ts m 1 0) ∨
   (barB ts (allT ts) m 1 0 = false ∧ k = 0 ∧ H p = some (.tup [.str ("always" : Str), .non])) ∨
   (barB ts (allT ts) m 1 0 = false ∧ k ≠ 0 ∧ barB ts (allT ts) m (1 ||| 2 ^ k) 0 = true ∧ ∃ fv, H p = some (.tup [.str ("never" : Str), fv]) ∧ FoundF H0 H fv ts m (1 ||| 2 ^ k) 0) ∨
   (barB ts (allT ts) m 1 0 = false ∧ k ≠ 0 ∧ barB ts (allT ts) m (1 ||| 2 ^ k) 0 = false ∧ barB ts (allT ts) m 1 (2 ^ k) = true ∧ ∃ fv, H p = some (.tup [.str ("always" : Str), fv]) ∧ FoundF H0 H fv ts m 1 (2 ^ k)) ∨
   (barB ts (allT ts) m 1 0 = false ∧ k ≠ 0 ∧ barB ts (allT ts) m (1 ||| 2 ^ k) 0 = false ∧ barB ts (allT ts) m 1 (2 ^ k) = false ∧ ∃ s1 s2 : Nat, keepF ts (allT ts) m 9 (1 ||| 2 ^ k) 0 = some s1 ∧ keepF ts (allT ts) m 9 1 (2 ^ k) = some s2 ∧ H p = some (.tup [.str ("either" : Str), .int (s1 : Int), .int (s2 : Int)])))
theorem bar_none {ts : List Tie} {il : List Nat} {m y n : Nat} (h : keepF ts il m 9 y n = none) : barB ts il m y n = true := by unfold barB; rw [h]; rfl
theorem bar_some {ts : List Tie} {il : List Nat} {m y n s : Nat} (h : keepF ts il m 9 y n = some s) : barB ts il m y n = false := by unfold barB; rw [h]; rfl
theorem bar_get {ts : List Tie} {il : List Nat} {m y n : Nat} (h : barB ts il m y n = false) : ∃ s, keepF ts il m 9 y n = some s := by
  cases e : keepF ts il m 9 y n with
  | none => rw [bar_none e] at h; cases h
  | some s => exact ⟨s, rfl⟩
theorem stand_root {m : Nat} (m1 : 1 ≤ m) : Stand m 1 0 := ⟨fun _ _ => Nat.zero_testBit _, Nat.lt_of_lt_of_le (by decide) (Nat.pow_le_pow_right (by decide) m1 : 2 ^ 1 ≤ 2 ^ m), Nat.two_pow_pos m⟩
theorem stand_with {m k : Nat} (m1 : 1 ≤ m) (km : k < m) : Stand m (1 ||| 2 ^ k) 0 := ⟨fun _ _ => Nat.zero_testBit _, Nat.or_lt_two_pow (stand_root m1).ym (Nat.pow_lt_pow_right (by decide) km), Nat.two_pow_pos m⟩
theorem stand_without {m k : Nat} (m1 : 1 ≤ m) (km : k < m) (k0 : k ≠ 0) : Stand m 1 (2 ^ k) := ⟨fun j hj => by
    have : j = 0 := by
      cases j with
      | zero => rfl
      | succ j => rw [show (1 : Nat) = 2 ^ 0 from rfl, Nat.testBit_two_pow] at hj; simp at hj
    subst this
    rw [Nat.testBit_two_pow]
    simpa using k0, (stand_root m1).ym, Nat.pow_lt_pow_right (by decide) km⟩
/-- of a stand with the root the first ware is the first set that keeps all ties -/
theorem ware_keep {ts : List Tie} {m y n : Nat} {o : Option Nat} (y0 : y.testBit 0 = true) (h : FirstWare ts m y n o) : FirstK ts (allT ts) m y n o := by
  have e : ∀ s', InS y n s' → wareB ts s' = allKeep ts (allT ts) s' := fun s' hs => by
    unfold wareB
    rw [hs.1 0 y0, allKeep_all, Bool.true_and]
  cases o with
  | none => exact fun s' a b => by rw [← e s' b]; exact h s' a b
  | some s => exact ⟨h.1, h.2.1, by rw [← e s h.2.1]; exact h.2.2.1, fun s' a b c => h.2.2.2 s' a b (by rw [e s' b]; exact c)⟩
end Wd

set_option maxRecDepth 100000
set_option maxHeartbeats 4000000
namespace Ow
open PySem L2 Wd
def top (i : Nat) : Stmt := PySem.Challenge.pw_optionwood_k33_standing_of_options.main.body.getD i (.Pass ⟨0, 0, 0, 0⟩)
abbrev s_has : Stmt := top 1
abbrev s_with_option : Stmt := top 2
abbrev s_open_options : Stmt := top 3
abbrev s_many_ties : Stmt := top 5
abbrev s_tie_at : Stmt := top 6
abbrev s_count_in : Stmt := top 8
abbrev s_every_tie : Stmt := top 9
abbrev s_sure_broken : Stmt := top 10
abbrev s_least_sum : Stmt := top 11
abbrev s_sure_broken_bough : Stmt := top 12
abbrev s_first_sure_broken : Stmt := top 13
abbrev s_cases_of : Stmt := top 15
abbrev s_ware_leaf : Stmt := top 16
abbrev s_told_tree : Stmt := top 17
abbrev s_first_ware : Stmt := top 19
abbrev s_first_keeping : Stmt := top 20
abbrev s_bars : Stmt := top 22
abbrev s_least_bar : Stmt := top 23
abbrev s_least_ties : Stmt := top 24
abbrev s_tie_others : Stmt := top 25
abbrev s_left_without : Stmt := top 26
abbrev s_standing : Stmt := top 27
abbrev s_law_cell : Stmt := top 29
abbrev s_law_next : Stmt := top 30
abbrev s_law_kids : Stmt := top 31
abbrev s_law_bough : Stmt := top 32
abbrev s_law_cross : Stmt := top 33
abbrev s_law_wood : Stmt := top 34
abbrev s_law_crossed : Stmt := top 35
abbrev s_law_keeps : Stmt := top 36
abbrev s_law_ties : Stmt := top 37
abbrev s_law_kept_by : Stmt := top 38
abbrev s_law_broken : Stmt := top 39
abbrev s_law_tree : Stmt := top 40
abbrev s_law_alike : Stmt := top 41
abbrev s_law_barred : Stmt := top 42
abbrev s_law_first : Stmt := top 43
abbrev s_law_bar : Stmt := top 44
abbrev s_law_is_bar : Stmt := top 45
abbrev s_law_due : Stmt := top 46
abbrev s_law_right : Stmt := top 47
abbrev s_law : Stmt := top 48
set_option genInjectivity false
set_option genSizeOfSpec false
set_option genSizeOf false
structure Adr where
  f_has : Addr
  f_with_option : Addr
  f_open_options : Addr
  f_many_ties : Addr
  f_tie_at : Addr
  f_count_in : Addr
  f_every_tie : Addr
  f_sure_broken : Addr
  f_least_sum : Addr
  f_sure_broken_bough : Addr
  f_first_sure_broken : Addr
  f_cases_of : Addr
  f_ware_leaf : Addr
  f_told_tree : Addr
  f_first_ware : Addr
  f_first_keeping : Addr
  f_bars : Addr
  f_least_bar : Addr
  f_least_ties : Addr
  f_tie_others : Addr
  f_left_without : Addr
  f_standing : Addr
  f_law_cell : Addr
  f_law_next : Addr
  f_law_kids : Addr
  f_law_bough : Addr
  f_law_cross : Addr
  f_law_wood : Addr
  f_law_crossed : Addr
  f_law_keeps : Addr
  f_law_ties : Addr
  f_law_kept_by : Addr
  f_law_broken : Addr
  f_law_tree : Addr
  f_law_alike : Addr
  f_law_barred : Addr
  f_law_first : Addr
  f_law_bar : Addr
  f_law_is_bar : Addr
  f_law_due : Addr
  f_law_right : Addr
  f_law : Addr
  c_cases_of : Addr
  t_cases_of : Addr
structure Fds where
  f_has : FuncData
  f_with_option : FuncData
  f_open_options : FuncData
  f_many_ties : FuncData
  f_tie_at : FuncData
  f_count_in : FuncData
  f_every_tie : FuncData
  f_sure_broken : FuncData
  f_least_sum : FuncData
  f_sure_broken_bough : FuncData
  f_first_sure_broken : FuncData
  f_cases_of : FuncData
  f_ware_leaf : FuncData
  f_told_tree : FuncData
  f_first_ware : FuncData
  f_first_keeping : FuncData
  f_bars : FuncData
  f_least_bar : FuncData
  f_least_ties : FuncData
  f_tie_others : FuncData
  f_left_without : FuncData
  f_standing : FuncData
  f_law_cell : FuncData
  f_law_next : FuncData
  f_law_kids : FuncData
  f_law_bough : FuncData
  f_law_cross : FuncData
  f_law_wood : FuncData
  f_law_crossed : FuncData
  f_law_keeps : FuncData
  f_law_ties : FuncData
  f_law_kept_by : FuncData
  f_law_broken : FuncData
  f_law_tree : FuncData
  f_law_alike : FuncData
  f_law_barred : FuncData
  f_law_first : FuncData
  f_law_bar : FuncData
  f_law_is_bar : FuncData
  f_law_due : FuncData
  f_law_right : FuncData
  f_law : FuncData
structure Txt (K : PySem.W.Frag) (mg : Str → Option Value) (a : Adr) (d : Fds) : Prop where
  m_range : mg "range" = none
  m_len : mg "len" = none
  m_isinstance : mg "isinstance" = none
  m_max : mg "max" = none
  m_all : mg "all" = none
  m_int : mg "int" = none
  m_bool : mg "bool" = none
  m_list : mg "list" = none
  m_tuple : mg "tuple" = none
  m_str : mg "str" = none
  m_sum : mg "sum" = none
  m_zip : mg "zip" = none
  g_has : mg "has" = some (.ref a.f_has)
  K_has : Fun K "has" "has" s_has a.f_has d.f_has
  B_has : Binds K d.f_has ["some", "k"] []
  g_with_option : mg "with_option" = some (.ref a.f_with_option)
  K_with_option : Fun K "with_option" "with_option" s_with_option a.f_with_option d.f_with_option
  B_with_option : Binds K d.f_with_option ["some", "k"] []
  g_open_options : mg "open_options" = some (.ref a.f_open_options)
  K_open_options : Fun K "open_options" "open_options" s_open_options a.f_open_options d.f_open_options
  B_open_options : Binds K d.f_open_options ["many", "yes", "no"] []
  g_many_ties : mg "many_ties" = some (.ref a.f_many_ties)
  K_many_ties : Fun K "many_ties" "many_ties" s_many_ties a.f_many_ties d.f_many_ties
  B_many_ties : Binds K d.f_many_ties ["wood"] []
  g_tie_at : mg "tie_at" = some (.ref a.f_tie_at)
  K_tie_at : Fun K "tie_at" "tie_at" s_tie_at a.f_tie_at d.f_tie_at
  B_tie_at : Binds K d.f_tie_at ["wood", "t"] []
  g_count_in : mg "count_in" = some (.ref a.f_count_in)
  K_count_in : Fun K "count_in" "count_in" s_count_in a.f_count_in d.f_count_in
  B_count_in : Binds K d.f_count_in ["kids", "some"] []
  g_every_tie : mg "every_tie" = some (.ref a.f_every_tie)
  K_every_tie : Fun K "every_tie" "every_tie" s_every_tie a.f_every_tie d.f_every_tie
  B_every_tie : Binds K d.f_every_tie ["wood"] []
  g_sure_broken : mg "sure_broken" = some (.ref a.f_sure_broken)
  K_sure_broken : Fun K "sure_broken" "sure_broken" s_sure_broken a.f_sure_broken d.f_sure_broken
  B_sure_broken : Binds K d.f_sure_broken ["tie", "yes", "no"] []
  g_least_sum : mg "least_sum" = some (.ref a.f_least_sum)
  K_least_sum : Fun K "least_sum" "least_sum" s_least_sum a.f_least_sum d.f_least_sum
  B_least_sum : Binds K d.f_least_sum ["pairs", "yes", "no"] []
  g_sure_broken_bough : mg "sure_broken_bough" = some (.ref a.f_sure_broken_bough)
  K_sure_broken_bough : Fun K "sure_broken_bough" "sure_broken_bough" s_sure_broken_bough a.f_sure_broken_bough d.f_sure_broken_bough
  B_sure_broken_bough : Binds K d.f_sure_broken_bough ["bough", "yes", "no"] []
  g_first_sure_broken : mg "first_sure_broken" = some (.ref a.f_first_sure_broken)
  K_first_sure_broken : Fun K "first_sure_broken" "first_sure_broken" s_first_sure_broken a.f_first_sure_broken d.f_first_sure_broken
  B_first_sure_broken : Binds K d.f_first_sure_broken ["wood", "ties", "yes", "no"] []
  g_cases_of : mg "cases_of" = some (.ref a.f_cases_of)
  K_cases_of : Fun K "cases_of" "cases_of" s_cases_of a.f_cases_of d.f_cases_of
  B_cases_of : Binds K d.f_cases_of ["wood", "ties", "yes", "no"] []
  g_ware_leaf : mg "ware_leaf" = some (.ref a.f_ware_leaf)
  K_ware_leaf : Fun K "ware_leaf" "ware_leaf" s_ware_leaf a.f_ware_leaf d.f_ware_leaf
  B_ware_leaf : Binds K d.f_ware_leaf ["wood", "yes", "no"] []
  g_told_tree : mg "told_tree" = some (.ref a.f_told_tree)
  K_told_tree : Fun K "told_tree" "told_tree" s_told_tree a.f_told_tree d.f_told_tree
  B_told_tree : Binds K d.f_told_tree ["wood", "ties", "yes", "no", "leaf_at"] []
  g_first_ware : mg "first_ware" = some (.ref a.f_first_ware)
  K_first_ware : Fun K "first_ware" "first_ware" s_first_ware a.f_first_ware d.f_first_ware
  B_first_ware : Binds K d.f_first_ware ["wood", "yes", "no"] []
  g_first_keeping : mg "first_keeping" = some (.ref a.f_first_keeping)
  K_first_keeping : Fun K "first_keeping" "first_keeping" s_first_keeping a.f_first_keeping d.f_first_keeping
  B_first_keeping : Binds K d.f_first_keeping ["wood", "ties", "yes", "no"] []
  g_bars : mg "bars" = some (.ref a.f_bars)
  K_bars : Fun K "bars" "bars" s_bars a.f_bars d.f_bars
  B_bars : Binds K d.f_bars ["wood", "ties", "yes", "no"] []
  g_least_bar : mg "least_bar" = some (.ref a.f_least_bar)
  K_least_bar : Fun K "least_bar" "least_bar" s_least_bar a.f_least_bar d.f_least_bar
  B_least_bar : Binds K d.f_least_bar ["wood", "yes", "no"] []
  g_least_ties : mg "least_ties" = some (.ref a.f_least_ties)
  K_least_ties : Fun K "least_ties" "least_ties" s_least_ties a.f_least_ties d.f_least_ties
  B_least_ties : Binds K d.f_least_ties ["wood", "yes", "no"] []
  g_tie_others : mg "tie_others" = some (.ref a.f_tie_others)
  K_tie_others : Fun K "tie_others" "tie_others" s_tie_others a.f_tie_others d.f_tie_others
  B_tie_others : Binds K d.f_tie_others ["wood", "ties", "yes", "no"] []
  g_left_without : mg "left_without" = some (.ref a.f_left_without)
  K_left_without : Fun K "left_without" "left_without" s_left_without a.f_left_without d.f_left_without
  B_left_without : Binds K d.f_left_without ["things", "one"] []
  g_standing : mg "standing" = some (.ref a.f_standing)
  K_standing : Fun K "standing" "standing" s_standing a.f_standing d.f_standing
  B_standing : Binds K d.f_standing ["wood", "k"] []
  g_law_cell : mg "_law_cell" = some (.ref a.f_law_cell)
  K_law_cell : Fun K "_law_cell" "_law_cell" s_law_cell a.f_law_cell d.f_law_cell
  B_law_cell : Binds K d.f_law_cell ["_law_script", "_law_k"] []
  g_law_next : mg "_law_next" = some (.ref a.f_law_next)
  K_law_next : Fun K "_law_next" "_law_next" s_law_next a.f_law_next d.f_law_next
  B_law_next : Binds K d.f_law_next ["_law_pen", "_law_most"] []
  g_law_kids : mg "_law_kids" = some (.ref a.f_law_kids)
  K_law_kids : Fun K "_law_kids" "_law_kids" s_law_kids a.f_law_kids d.f_law_kids
  B_law_kids : Binds K d.f_law_kids ["_law_pen", "_law_many"] []
  g_law_bough : mg "_law_bough" = some (.ref a.f_law_bough)
  K_law_bough : Fun K "_law_bough" "_law_bough" s_law_bough a.f_law_bough d.f_law_bough
  B_law_bough : Binds K d.f_law_bough ["_law_pen", "_law_up", "_law_kids_here"] []
  g_law_cross : mg "_law_cross" = some (.ref a.f_law_cross)
  K_law_cross : Fun K "_law_cross" "_law_cross" s_law_cross a.f_law_cross d.f_law_cross
  B_law_cross : Binds K d.f_law_cross ["_law_pen", "_law_many"] []
  g_law_wood : mg "_law_wood" = some (.ref a.f_law_wood)
  K_law_wood : Fun K "_law_wood" "_law_wood" s_law_wood a.f_law_wood d.f_law_wood
  B_law_wood : Binds K d.f_law_wood ["_law_pen", "_law_many", "_law_most"] []
  g_law_crossed : mg "_law_crossed" = some (.ref a.f_law_crossed)
  K_law_crossed : Fun K "_law_crossed" "_law_crossed" s_law_crossed a.f_law_crossed d.f_law_crossed
  B_law_crossed : Binds K d.f_law_crossed ["_law_pen", "_law_wood_here"] []
  g_law_keeps : mg "_law_keeps" = some (.ref a.f_law_keeps)
  K_law_keeps : Fun K "_law_keeps" "_law_keeps" s_law_keeps a.f_law_keeps d.f_law_keeps
  B_law_keeps : Binds K d.f_law_keeps ["_law_tie", "_law_some"] []
  g_law_ties : mg "_law_ties" = some (.ref a.f_law_ties)
  K_law_ties : Fun K "_law_ties" "_law_ties" s_law_ties a.f_law_ties d.f_law_ties
  B_law_ties : Binds K d.f_law_ties ["_law_wood_here"] []
  g_law_kept_by : mg "_law_kept_by" = some (.ref a.f_law_kept_by)
  K_law_kept_by : Fun K "_law_kept_by" "_law_kept_by" s_law_kept_by a.f_law_kept_by d.f_law_kept_by
  B_law_kept_by : Binds K d.f_law_kept_by ["_law_wood_here"] []
  g_law_broken : mg "_law_broken" = some (.ref a.f_law_broken)
  K_law_broken : Fun K "_law_broken" "_law_broken" s_law_broken a.f_law_broken d.f_law_broken
  B_law_broken : Binds K d.f_law_broken ["_law_kept", "_law_yes", "_law_no"] []
  g_law_tree : mg "_law_tree" = some (.ref a.f_law_tree)
  K_law_tree : Fun K "_law_tree" "_law_tree" s_law_tree a.f_law_tree d.f_law_tree
  B_law_tree : Binds K d.f_law_tree ["_law_many", "_law_kept_by_here", "_law_ties_here", "_law_yes", "_law_no"] []
  g_law_alike : mg "_law_alike" = some (.ref a.f_law_alike)
  K_law_alike : Fun K "_law_alike" "_law_alike" s_law_alike a.f_law_alike d.f_law_alike
  B_law_alike : Binds K d.f_law_alike ["_law_found", "_law_due_here"] []
  g_law_barred : mg "_law_barred" = some (.ref a.f_law_barred)
  K_law_barred : Fun K "_law_barred" "_law_barred" s_law_barred a.f_law_barred d.f_law_barred
  B_law_barred : Binds K d.f_law_barred ["_law_wood_here", "_law_kept_by_here", "_law_ties_here", "_law_yes", "_law_no"] []
  g_law_first : mg "_law_first" = some (.ref a.f_law_first)
  K_law_first : Fun K "_law_first" "_law_first" s_law_first a.f_law_first d.f_law_first
  B_law_first : Binds K d.f_law_first ["_law_wood_here", "_law_kept_by_here", "_law_ties_here", "_law_yes", "_law_no"] []
  g_law_bar : mg "_law_bar" = some (.ref a.f_law_bar)
  K_law_bar : Fun K "_law_bar" "_law_bar" s_law_bar a.f_law_bar d.f_law_bar
  B_law_bar : Binds K d.f_law_bar ["_law_wood_here", "_law_kept_by_here", "_law_yes", "_law_no"] []
  g_law_is_bar : mg "_law_is_bar" = some (.ref a.f_law_is_bar)
  K_law_is_bar : Fun K "_law_is_bar" "_law_is_bar" s_law_is_bar a.f_law_is_bar d.f_law_is_bar
  B_law_is_bar : Binds K d.f_law_is_bar ["_law_found", "_law_due_here"] []
  g_law_due : mg "_law_due" = some (.ref a.f_law_due)
  K_law_due : Fun K "_law_due" "_law_due" s_law_due a.f_law_due d.f_law_due
  B_law_due : Binds K d.f_law_due ["_law_wood_here", "_law_kept_by_here", "_law_k"] []
  g_law_right : mg "_law_right" = some (.ref a.f_law_right)
  K_law_right : Fun K "_law_right" "_law_right" s_law_right a.f_law_right d.f_law_right
  B_law_right : Binds K d.f_law_right ["_law_found", "_law_due_here"] []
  g_law : mg "law" = some (.ref a.f_law)
  K_law : Fun K "law" "law" s_law a.f_law d.f_law
  B_law : Binds K d.f_law ["_law_script"] []
  code_cases_of : d.f_cases_of.code = .ref a.c_cases_of
theorem sc_has : FnScope ["some", "k"] ["some", "k"] (defScope s_has) := ⟨rfl, rfl, rfl, by decide +kernel, rfl, by decide +kernel, by decide +kernel⟩
theorem sc_with_option : FnScope ["some", "k"] ["some", "k"] (defScope s_with_option) := ⟨rfl, rfl, rfl, by decide +kernel, rfl, by decide +kernel, by decide +kernel⟩
theorem sc_open_options : FnScope ["many", "yes", "no"] ["many", "yes", "no"] (defScope s_open_options) := ⟨rfl, rfl, rfl, by decide +kernel, rfl, by decide +kernel, by decide +kernel⟩
theorem sc_many_ties : FnScope ["wood"] ["wood"] (defScope s_many_ties) := ⟨rfl, rfl, rfl, by decide +kernel, rfl, by decide +kernel, by decide +kernel⟩
theorem sc_tie_at : FnScope ["wood", "t", "boughs"] ["wood", "t"] (defScope s_tie_at) := ⟨rfl, rfl, rfl, by decide +kernel, rfl, by decide +kernel, by decide +kernel⟩
theorem sc_count_in : FnScope ["kids", "some"] ["kids", "some"] (defScope s_count_in) := ⟨rfl, rfl, rfl, by decide +kernel, rfl, by decide +kernel, by decide +kernel⟩
theorem sc_every_tie : FnScope ["wood"] ["wood"] (defScope s_every_tie) := ⟨rfl, rfl, rfl, by decide +kernel, rfl, by decide +kernel, by decide +kernel⟩
theorem sc_sure_broken : FnScope ["tie", "yes", "no"] ["tie", "yes", "no"] (defScope s_sure_broken) := ⟨rfl, rfl, rfl, by decide +kernel, rfl, by decide +kernel, by decide +kernel⟩
theorem sc_least_sum : FnScope ["pairs", "yes", "no"] ["pairs", "yes", "no"] (defScope s_least_sum) := ⟨rfl, rfl, rfl, by decide +kernel, rfl, by decide +kernel, by decide +kernel⟩
theorem sc_sure_broken_bough : FnScope ["bough", "yes", "no", "least", "greatest", "some_with_up", "some_without_up"] ["bough", "yes", "no"] (defScope s_sure_broken_bough) := ⟨rfl, rfl, rfl, by decide +kernel, rfl, by decide +kernel, by decide +kernel⟩
theorem sc_first_sure_broken : FnScope ["wood", "ties", "yes", "no", "t"] ["wood", "ties", "yes", "no"] (defScope s_first_sure_broken) := ⟨rfl, rfl, rfl, by decide +kernel, rfl, by decide +kernel, by decide +kernel⟩
theorem sc_cases_of : FnScope ["wood", "ties", "yes", "no"] ["wood", "ties", "yes", "no"] (defScope s_cases_of) := ⟨rfl, rfl, rfl, by decide +kernel, rfl, by decide +kernel, by decide +kernel⟩
theorem sc_ware_leaf : FnScope ["wood", "yes", "no"] ["wood", "yes", "no"] (defScope s_ware_leaf) := ⟨rfl, rfl, rfl, by decide +kernel, rfl, by decide +kernel, by decide +kernel⟩
theorem sc_told_tree : FnScope ["wood", "ties", "yes", "no", "leaf_at", "broken", "leaf", "k", "one", "other"] ["wood", "ties", "yes", "no", "leaf_at"] (defScope s_told_tree) := ⟨rfl, rfl, rfl, by decide +kernel, rfl, by decide +kernel, by decide +kernel⟩
theorem sc_first_ware : FnScope ["wood", "yes", "no"] ["wood", "yes", "no"] (defScope s_first_ware) := ⟨rfl, rfl, rfl, by decide +kernel, rfl, by decide +kernel, by decide +kernel⟩
theorem sc_first_keeping : FnScope ["wood", "ties", "yes", "no", "left", "k", "found"] ["wood", "ties", "yes", "no"] (defScope s_first_keeping) := ⟨rfl, rfl, rfl, by decide +kernel, rfl, by decide +kernel, by decide +kernel⟩
theorem sc_bars : FnScope ["wood", "ties", "yes", "no"] ["wood", "ties", "yes", "no"] (defScope s_bars) := ⟨rfl, rfl, rfl, by decide +kernel, rfl, by decide +kernel, by decide +kernel⟩
theorem sc_least_bar : FnScope ["wood", "yes", "no", "left"] ["wood", "yes", "no"] (defScope s_least_bar) := ⟨rfl, rfl, rfl, by decide +kernel, rfl, by decide +kernel, by decide +kernel⟩
theorem sc_least_ties : FnScope ["wood", "yes", "no", "left", "t", "fewer"] ["wood", "yes", "no"] (defScope s_least_ties) := ⟨rfl, rfl, rfl, by decide +kernel, rfl, by decide +kernel, by decide +kernel⟩
theorem sc_tie_others : FnScope ["wood", "ties", "yes", "no"] ["wood", "ties", "yes", "no"] (defScope s_tie_others) := ⟨rfl, rfl, rfl, by decide +kernel, rfl, by decide +kernel, by decide +kernel⟩
theorem sc_left_without : FnScope ["things", "one"] ["things", "one"] (defScope s_left_without) := ⟨rfl, rfl, rfl, by decide +kernel, rfl, by decide +kernel, by decide +kernel⟩
theorem sc_standing : FnScope ["wood", "k", "root", "alone", "having", "without"] ["wood", "k"] (defScope s_standing) := ⟨rfl, rfl, rfl, by decide +kernel, rfl, by decide +kernel, by decide +kernel⟩
theorem sc_law_cell : FnScope ["_law_script", "_law_k", "_law_number", "_law_spot"] ["_law_script", "_law_k"] (defScope s_law_cell) := ⟨rfl, rfl, rfl, by decide +kernel, rfl, by decide +kernel, by decide +kernel⟩
theorem sc_law_next : FnScope ["_law_pen", "_law_most", "_law_cell_here"] ["_law_pen", "_law_most"] (defScope s_law_next) := ⟨rfl, rfl, rfl, by decide +kernel, rfl, by decide +kernel, by decide +kernel⟩
theorem sc_law_kids : FnScope ["_law_pen", "_law_many", "_law_rows", "_law_k"] ["_law_pen", "_law_many"] (defScope s_law_kids) := ⟨rfl, rfl, rfl, by decide +kernel, rfl, by decide +kernel, by decide +kernel⟩
theorem sc_law_bough : FnScope ["_law_pen", "_law_up", "_law_kids_here", "_law_size", "_law_low", "_law_high", "_law_way"] ["_law_pen", "_law_up", "_law_kids_here"] (defScope s_law_bough) := ⟨rfl, rfl, rfl, by decide +kernel, rfl, by decide +kernel, by decide +kernel⟩
theorem sc_law_cross : FnScope ["_law_pen", "_law_many", "_law_way", "_law_a", "_law_some", "_law_by", "_law_numbers", "_law_pairs", "_law_k", "_law_most"] ["_law_pen", "_law_many"] (defScope s_law_cross) := ⟨rfl, rfl, rfl, by decide +kernel, rfl, by decide +kernel, by decide +kernel⟩
theorem sc_law_wood : FnScope ["_law_pen", "_law_many", "_law_most", "_law_rows", "_law_boughs", "_law_turn", "_law_cross_here"] ["_law_pen", "_law_many", "_law_most"] (defScope s_law_wood) := ⟨rfl, rfl, rfl, by decide +kernel, rfl, by decide +kernel, by decide +kernel⟩
theorem sc_law_crossed : FnScope ["_law_pen", "_law_wood_here", "_law_more"] ["_law_pen", "_law_wood_here"] (defScope s_law_crossed) := ⟨rfl, rfl, rfl, by decide +kernel, rfl, by decide +kernel, by decide +kernel⟩
theorem sc_law_keeps : FnScope ["_law_tie", "_law_some", "_law_up", "_law_low", "_law_high", "_law_kids_here", "_law_many"] ["_law_tie", "_law_some"] (defScope s_law_keeps) := ⟨rfl, rfl, rfl, by decide +kernel, rfl, by decide +kernel, by decide +kernel⟩
theorem sc_law_ties : FnScope ["_law_wood_here"] ["_law_wood_here"] (defScope s_law_ties) := ⟨rfl, rfl, rfl, by decide +kernel, rfl, by decide +kernel, by decide +kernel⟩
theorem sc_law_kept_by : FnScope ["_law_wood_here"] ["_law_wood_here"] (defScope s_law_kept_by) := ⟨rfl, rfl, rfl, by decide +kernel, rfl, by decide +kernel, by decide +kernel⟩
theorem sc_law_broken : FnScope ["_law_kept", "_law_yes", "_law_no", "_law_some"] ["_law_kept", "_law_yes", "_law_no"] (defScope s_law_broken) := ⟨rfl, rfl, rfl, by decide +kernel, rfl, by decide +kernel, by decide +kernel⟩
theorem sc_law_tree : FnScope ["_law_many", "_law_kept_by_here", "_law_ties_here", "_law_yes", "_law_no", "_law_t", "_law_left", "_law_bit", "_law_one"] ["_law_many", "_law_kept_by_here", "_law_ties_here", "_law_yes", "_law_no"] (defScope s_law_tree) := ⟨rfl, rfl, rfl, by decide +kernel, rfl, by decide +kernel, by decide +kernel⟩
theorem sc_law_alike : FnScope ["_law_found", "_law_due_here"] ["_law_found", "_law_due_here"] (defScope s_law_alike) := ⟨rfl, rfl, rfl, by decide +kernel, rfl, by decide +kernel, by decide +kernel⟩
theorem sc_law_barred : FnScope ["_law_wood_here", "_law_kept_by_here", "_law_ties_here", "_law_yes", "_law_no", "_law_some"] ["_law_wood_here", "_law_kept_by_here", "_law_ties_here", "_law_yes", "_law_no"] (defScope s_law_barred) := ⟨rfl, rfl, rfl, by decide +kernel, rfl, by decide +kernel, by decide +kernel⟩
theorem sc_law_first : FnScope ["_law_wood_here", "_law_kept_by_here", "_law_ties_here", "_law_yes", "_law_no", "_law_some"] ["_law_wood_here", "_law_kept_by_here", "_law_ties_here", "_law_yes", "_law_no"] (defScope s_law_first) := ⟨rfl, rfl, rfl, by decide +kernel, rfl, by decide +kernel, by decide +kernel⟩
theorem sc_law_bar : FnScope ["_law_wood_here", "_law_kept_by_here", "_law_yes", "_law_no", "_law_ties_here", "_law_t", "_law_fewer", "_law_others"] ["_law_wood_here", "_law_kept_by_here", "_law_yes", "_law_no"] (defScope s_law_bar) := ⟨rfl, rfl, rfl, by decide +kernel, rfl, by decide +kernel, by decide +kernel⟩
theorem sc_law_is_bar : FnScope ["_law_found", "_law_due_here"] ["_law_found", "_law_due_here"] (defScope s_law_is_bar) := ⟨rfl, rfl, rfl, by decide +kernel, rfl, by decide +kernel, by decide +kernel⟩
theorem sc_law_due : FnScope ["_law_wood_here", "_law_kept_by_here", "_law_k", "_law_every", "_law_bar_here", "_law_word", "_law_yes", "_law_no", "_law_mine"] ["_law_wood_here", "_law_kept_by_here", "_law_k"] (defScope s_law_due) := ⟨rfl, rfl, rfl, by decide +kernel, rfl, by decide +kernel, by decide +kernel⟩
theorem sc_law_right : FnScope ["_law_found", "_law_due_here"] ["_law_found", "_law_due_here"] (defScope s_law_right) := ⟨rfl, rfl, rfl, by decide +kernel, rfl, by decide +kernel, by decide +kernel⟩
theorem sc_law : FnScope ["_law_script", "_law_pen", "_law_many", "_law_wood_here", "_law_kept_by_here", "_law_start", "_law_options", "_law_k", "_law_found"] ["_law_script"] (defScope s_law) := ⟨rfl, rfl, rfl, by decide +kernel, rfl, by decide +kernel, by decide +kernel⟩
end Ow

namespace Ow
open PySem L2 Wd
section
variable {P : Program} {w : World} {K : PySem.W.Frag} {mg : Str → Option Value} {base : Heap} {a : Adr} {d : Fds}
def spHas : Sp := fun vs H Q _ => ∃ n k : Int, vs = [.int n, .int k] ∧ Q (.bl (hasV n k)) H
theorem ok_has (T : Txt K mg a d) : FnOk P w K mg base CX0 1 a.f_has d.f_has ["some", "k"] spHas := by
  refine T.K_has.ok sc_has (fun vs H Q E h => ?_) (fun cdv A outer s H vs Q E hr h => ?_)
  · obtain ⟨n, k, rfl, _⟩ := h
    rfl
  obtain ⟨n, k, rfl, q⟩ := h
  refine ⟨_, (pss_one (ps_ret (pe_and (pe_cmpR op_ge (pv 1) pe_int (nomark _)) (pe_one (pe_cmpR op_eq (pe_op op_and (pe_op op_shr (pv 0) (pv 1)) pe_int) pe_int (nomark _)))))), ?_⟩
  refine ⟨_, rfl, _, _, rfl, rfl, _, rfl, ?_⟩
  refine ite2 (fun c => ?_) (fun c => ?_)
  · have hk : (0 : Int) ≤ k := of_decide_eq_true c
    refine ⟨_, rfl, _, rfl, _, _, rfl, rfl, hk, _, _, rfl, rfl, rfl, ?_⟩
    have e : decide (V.int (Builtin.bitAnd (n / 2 ^ k.toNat) 1) = V.int 1) = hasV n k := by
      unfold hasV
      rw [decide_eq_true hk, Bool.true_and, dec_int, bitI]
      by_cases z : n / 2 ^ k.toNat % 2 = 1
      · rw [decide_eq_true z]
        simpa using z
      · rw [decide_eq_false z]
        simpa using z
    show Q (.bl (decide (V.int (Builtin.bitAnd (n / 2 ^ k.toNat) 1) = V.int 1))) H
    rw [e]
    exact q
  · have hk : ¬ (0 : Int) ≤ k := of_decide_eq_false (Bool.eq_false_iff.mpr c)
    have e : hasV n k = false := by
      unfold hasV
      rw [decide_eq_false hk, Bool.false_and]
    rw [e] at q
    exact q

end
section
variable {P : Program} {w : World} {K : PySem.W.Frag} {mg : Str → Option Value} {base : Heap} {a : Adr} {d : Fds}
theorem ok_with_option (T : Txt K mg a d) : FnOk P w K mg base CX0 1 a.f_with_option d.f_with_option ["some", "k"] spWithO := by
  refine T.K_with_option.ok sc_with_option (fun vs H Q E h => ?_) (fun cdv A outer s H vs Q E hr h => ?_)
  · obtain ⟨n, k, rfl, _⟩ := h
    rfl
  obtain ⟨n, k, rfl, hk, q⟩ := h
  refine ⟨_, (pss_one (ps_ret (pe_op op_or (pv 0) (pe_op op_shl pe_int (pv 1))))), ?_⟩
  refine ⟨_, rfl, _, rfl, _, _, rfl, rfl, ⟨by omega, by omega, by decide⟩, _, _, rfl, rfl, ?_⟩
  have e : Builtin.bitOr (n : Int) (1 * 2 ^ ((k : Nat) : Int).toNat) = ((n ||| 2 ^ k : Nat) : Int) := by rw [shl1, lor_nat]
  show Q (.int (Builtin.bitOr (n : Int) (1 * 2 ^ ((k : Nat) : Int).toNat))) H
  rw [e]
  exact q

end
section
variable {P : Program} {w : World} {K : PySem.W.Frag} {mg : Str → Option Value} {base : Heap} {a : Adr} {d : Fds}
theorem ok_open_options (T : Txt K mg a d) : FnOk P w K mg base CX0 2 a.f_open_options d.f_open_options ["many", "yes", "no"] spOpen := by
  have G_has := ok_has (P := P) (w := w) (base := base) T
  refine T.K_open_options.ok sc_open_options (fun vs H Q E h => ?_) (fun cdv A outer s H vs Q E hr h => ?_)
  · obtain ⟨m, y, n, rfl, _⟩ := h
    rfl
  obtain ⟨m, y, n, rfl, m9, q⟩ := h
  have p62 : (2 : Int) ^ 62 = 4611686018427387904 := by decide
  refine ⟨_, (pss_one (ps_ret (pe_lc (sc0 := defScope s_open_options) (XN := ["many", "yes", "no"]) (N' := ["k", "yes", "no"]) (n := 1) (kp := [1, 2]) rfl (pi_range1 rfl T.m_range (pa_cons (pv 0) pa_nil)) rfl rfl (by decide +kernel) (fun _ _ _ _ _ => (pg_name (i := 0) (by show List.Nodup (["k", "yes", "no"] : List Str); decide +kernel) rfl (Or.inl rfl))) (fun _ _ _ _ _ => (pts_one (pt_not (pt_val (pe_call G_has (hr.mono (by first | decide | omega)) rfl T.g_has T.K_has.kp T.B_has .nil pass0 (pa_cons (pe_op op_or (pv 1) (pv 2)) (pa_cons (pv 0) pa_nil))))))) (fun _ _ _ _ _ => (pv 0))))), ?_⟩
  refine ⟨_, rfl, _, rfl, by rw [p62]; omega, by rw [p62]; omega, ?_⟩
  rw [Int.toNat_natCast]
  refine lc_range0 (k := m) (fun i ys σ H2 => (∃ v, σ = [v, some (.int y), some (.int n)]) ∧ H2 = H ∧ i ≤ m ∧ ys = natsL ((List.range i).filter fun k => !(y ||| n).testBit k)) ⟨⟨none, rfl⟩, rfl, Nat.zero_le _, rfl⟩ (fun i ys σ H2 hi pv => ?_) (fun i ys σ H2 hi pv => ?_) (fun ys σ H2 pv fl hfl => ?_)
  · obtain ⟨_, _, h1, rfl⟩ := pv
    rw [List.length_map]
    refine small (Nat.le_trans (List.length_filter_le _ _) ?_)
    rw [List.length_range]
    omega
  · obtain ⟨⟨v0, rfl⟩, rfl, h1, rfl⟩ := pv
    refine ⟨_, rfl, _, rfl, _, _, rfl, rfl, _, rfl, _, _, rfl, _, rfl, ?_⟩
    have ee := filter_range_succ (fun k => !(y ||| n).testBit k) i
    rw [lor_nat, hasV_nat]
    refine ite2 (fun c2 => ?_) (fun c2 => ?_)
    · refine ⟨_, rfl, ⟨_, rfl⟩, rfl, hi, ?_⟩
      rw [ee, if_pos c2]
      show _ = List.map _ (_ ++ [i])
      rw [List.map_append]
      rfl
    · refine ⟨⟨_, rfl⟩, rfl, hi, ?_⟩
      rw [ee, if_neg c2, List.append_nil]
  obtain ⟨_, rfl, _, rfl⟩ := pv
  exact q fl _ (same_new hfl _) hfl upd_same

end
section
variable {P : Program} {w : World} {K : PySem.W.Frag} {mg : Str → Option Value} {base : Heap} {a : Adr} {d : Fds}
theorem ok_many_ties (T : Txt K mg a d) : FnOk P w K mg base CX0 1 a.f_many_ties d.f_many_ties ["wood"] spMany := by
  refine T.K_many_ties.ok sc_many_ties (fun vs H Q E h => ?_) (fun cdv A outer s H vs Q E hr h => ?_)
  · obtain ⟨wd, many, xs, ys, rfl, _⟩ := h
    rfl
  obtain ⟨wd, many, xs, ys, rfl, ⟨tb, tc, hw, hb, hc⟩, q⟩ := h
  refine ⟨_, (pss_one (ps_ret (pe_op op_add (pe_callB (lenS (K := K)) rfl T.m_len PySem.boot_len (pa_cons (pe_ix (ixT (K := K)) (pv 0) pe_int (fun _ _ => rfl)) pa_nil)) (pe_callB (lenS (K := K)) rfl T.m_len PySem.boot_len (pa_cons (pe_ix (ixT (K := K)) (pv 0) pe_int (fun _ _ => rfl)) pa_nil))))), ?_⟩
  exact ⟨_, rfl, wd, _, _, _, rfl, rfl, sqT hw, at1, tb, _, rfl, .inr (sqT hb), _, rfl, wd, _, _, _, rfl, rfl, sqT hw, at2, tc, _, rfl, .inr (sqT hc), _, _, rfl, rfl, q⟩

end
section
variable {P : Program} {w : World} {K : PySem.W.Frag} {mg : Str → Option Value} {base : Heap} {a : Adr} {d : Fds}
theorem ok_tie_at (T : Txt K mg a d) : FnOk P w K mg base CX0 1 a.f_tie_at d.f_tie_at ["wood", "t"] spTieAt := by
  refine T.K_tie_at.ok sc_tie_at (fun vs H Q E h => ?_) (fun cdv A outer s H vs Q E hr h => ?_)
  · obtain ⟨wd, many, xs, ys, t, v, rfl, _⟩ := h
    rfl
  obtain ⟨wd, many, xs, ys, t, v, rfl, ⟨tb, tc, hw, hb, hc⟩, hv, q⟩ := h
  refine ⟨_, (pss_cons (ps_set (i := 2) sc_tie_at.nd rfl (Or.inl rfl) (pe_ix (ixT (K := K)) (pv 0) pe_int (fun _ _ => rfl)))
      (pss_cons (ps_if (pt_cmpR op_lt (pv 1) (pe_callB (lenS (K := K)) rfl T.m_len PySem.boot_len (pa_cons (pv 2) pa_nil)) (nomark _)) (pss_one (ps_ret (pe_ix (ixT (K := K)) (pv 2) (pv 1) (fun _ _ => rfl)))) pss_nil)
      (pss_one (ps_ret (pe_ix (ixT (K := K)) (pe_ix (ixT (K := K)) (pv 0) pe_int (fun _ _ => rfl)) (pe_op op_sub (pv 1) (pe_callB (lenS (K := K)) rfl T.m_len PySem.boot_len (pa_cons (pv 2) pa_nil))) (fun _ _ => rfl)))))), ?_⟩
  refine ⟨_, rfl, wd, _, _, _, rfl, rfl, sqT hw, at1, ?_⟩
  refine ⟨_, rfl, _, rfl, tb, _, rfl, .inr (sqT hb), _, _, rfl, rfl, _, rfl, ?_⟩
  refine ite2 (fun c => ?_) (fun c => ?_)
  · have c' : (t : Int) < (xs.length : Nat) := of_decide_eq_true c
    rw [List.getElem?_append_left (by omega)] at hv
    exact ⟨_, rfl, _, rfl, tb, _, _, _, rfl, rfl, sqT hb, atI_nat hv, q⟩
  · have c' : ¬ (t : Int) < (xs.length : Nat) := of_decide_eq_false (Bool.eq_false_iff.mpr c)
    rw [List.getElem?_append_right (by omega)] at hv
    have e : ((t : Int) - ((xs.length : Nat) : Int)) = ((t - xs.length : Nat) : Int) := by omega
    refine ⟨_, rfl, wd, _, _, _, rfl, rfl, sqT hw, at2, _, rfl, _, rfl, tb, _, rfl, .inr (sqT hb), _, _, rfl, rfl, tc, _, _, _, rfl, rfl, sqT hc, ?_, q⟩
    show atI ys ((t : Int) - ((xs.length : Nat) : Int)) = some v
    rw [e]
    exact atI_nat hv

end
section
variable {P : Program} {w : World} {K : PySem.W.Frag} {mg : Str → Option Value} {base : Heap} {a : Adr} {d : Fds}
def spCount : Sp := fun vs H Q _ => ∃ (p : Addr) (ks : List Nat) (n : Nat), vs = [.ref p, .int n] ∧ H p = some (.tup (ks.map fun k : Nat => V.int (k : Int))) ∧ ks.length ≤ 1000 ∧ ∀ H', Same H H' → Q (.int (cnt ks n : Nat)) H'
theorem ok_count_in (T : Txt K mg a d) : FnOk P w K mg base CX0 2 a.f_count_in d.f_count_in ["kids", "some"] spCount := by
  have G_has := ok_has (P := P) (w := w) (base := base) T
  refine T.K_count_in.ok sc_count_in (fun vs H Q E h => ?_) (fun cdv A outer s H vs Q E hr h => ?_)
  · obtain ⟨p, ks, n, rfl, _⟩ := h
    rfl
  obtain ⟨p, ks, n, rfl, hp, hk, q⟩ := h
  refine ⟨_, (pss_one (ps_ret (pe_callB (lenS (K := K)) rfl T.m_len PySem.boot_len (pa_cons (pe_lc (sc0 := defScope s_count_in) (XN := ["kids", "some"]) (N' := ["k", "some"]) (n := 1) (kp := [1]) rfl (piT (K := K) (pv 0)) rfl rfl (by decide +kernel) (fun _ _ _ _ _ => (pg_name (i := 0) (by show List.Nodup (["k", "some"] : List Str); decide +kernel) rfl (Or.inl rfl))) (fun _ _ _ _ _ => (pts_one (pt_val (pe_call G_has (hr.mono (by first | decide | omega)) rfl T.g_has T.K_has.kp T.B_has .nil pass0 (pa_cons (pv 1) (pa_cons (pv 0) pa_nil)))))) (fun _ _ _ _ _ => (pv 0))) pa_nil)))), ?_⟩
  refine ⟨_, rfl, p, rfl, ⟨_, sqT hp⟩, ?_⟩
  refine lc_tup (K := K) (a := p) (xs := ks.map fun k : Nat => V.int (k : Int)) (fun i ys σ H2 => (∃ v, σ = [v, some (.int n)]) ∧ H2 = H ∧ i ≤ ks.length ∧ ys = ((ks.take i).filter fun k => n.testBit k).map fun k : Nat => V.int (k : Int)) ⟨⟨none, rfl⟩, rfl, Nat.zero_le _, rfl⟩ (fun i ys σ H2 hi pv => ?_) (fun i ys σ H2 hi pv => ?_) (fun i x ys σ H2 hx pv => ?_) (fun ys σ H2 pv l hl => ?_)
  · obtain ⟨_, _, h1, rfl⟩ := pv
    rw [List.length_map]
    refine small (Nat.le_trans (List.length_filter_le _ _) ?_)
    rw [List.length_take]
    omega
  · rw [pv.2.1]
    exact sqT hp
  · obtain ⟨⟨v, rfl⟩, rfl, h1, rfl⟩ := pv
    rw [List.getElem?_map] at hx
    obtain ⟨k, hk', rfl⟩ := Option.map_eq_some_iff.mp hx
    have hj : i < ks.length := (List.getElem?_eq_some_iff.mp hk').1
    have ee := PySem.take_succ_filter (fun k => n.testBit k) ks i k hk'
    refine ⟨_, rfl, _, rfl, _, _, rfl, _, rfl, ?_⟩
    rw [hasV_nat]
    refine ite2 (fun c => ?_) (fun c => ?_)
    · refine ⟨_, rfl, ⟨_, rfl⟩, rfl, hj, ?_⟩
      rw [ee, if_pos c, List.map_append]
      rfl
    · refine ⟨⟨_, rfl⟩, rfl, hj, ?_⟩
      rw [ee, if_neg c, List.append_nil]
  · obtain ⟨_, rfl, _, rfl⟩ := pv
    have fin : ∀ L : List V, L.length = cnt ks n → ∀ H', Same H2 H' → Q (.int (L.length : Nat)) H' := fun L e H' sm => by
      rw [e]
      exact q H' sm
    exact ⟨l, _, rfl, .inl (SqL.of upd_same), fin _ (by simp [cnt]) _ (same_new hl _)⟩

end
section
variable {P : Program} {w : World} {K : PySem.W.Frag} {mg : Str → Option Value} {base : Heap} {a : Adr} {d : Fds}
theorem ok_every_tie (T : Txt K mg a d) : FnOk P w K mg base CX0 2 a.f_every_tie d.f_every_tie ["wood"] spEvery := by
  have G_many_ties := ok_many_ties (P := P) (w := w) (base := base) T
  refine T.K_every_tie.ok sc_every_tie (fun vs H Q E h => ?_) (fun cdv A outer s H vs Q E hr h => ?_)
  · obtain ⟨wd, m, ts, rfl, _⟩ := h
    rfl
  obtain ⟨wd, m, ts, rfl, W, q⟩ := h
  have p62 : (2 : Int) ^ 62 = 4611686018427387904 := by decide
  obtain ⟨xs, ys, WA, dn⟩ := W.ex
  have few := W.few
  have ln : ts.length = xs.length + ys.length := by
    have := dn.length
    rw [List.length_map, List.length_append] at this
    exact this
  refine ⟨_, (pss_one (ps_ret (pe_callTy (call_list_rng rfl) rfl T.m_list PyProof.Rows.boot_list (pa_cons (pe_callTy call_rng1 rfl T.m_range PyProof.Rows.boot_range (pa_cons (pe_call G_many_ties (hr.mono (by first | decide | omega)) rfl T.g_many_ties T.K_many_ties.kp T.B_many_ties .nil pass0 (pa_cons (pv 0) pa_nil)) pa_nil)) pa_nil)))), ?_⟩
  refine ⟨_, rfl, wd, m, xs, ys, rfl, WA, _, rfl, fun rp hrp => ?_⟩
  refine ⟨rp, 0, _, rfl, upd_same, by rw [p62]; omega, by rw [p62]; omega, by rw [p62]; omega, by rw [p62]; omega, by omega, fun l hl => ?_⟩
  have e : ((List.range' 0 ((xs.length : Int) + (ys.length : Int) - 0).toNat).map fun i : Nat => V.int (0 + (i : Int))) = (List.range ts.length).map fun i : Nat => V.int (i : Int) := by
    have e1 : ((xs.length : Int) + (ys.length : Int) - 0).toNat = ts.length := by omega
    rw [e1, List.range_eq_range']
    simp
  rw [e]
  have s1 := (same_new hrp (.rng 0 ((xs.length : Int) + (ys.length : Int)))).trans (same_new hl (.lst ((List.range ts.length).map fun i : Nat => V.int (i : Int))))
  exact q l _ s1 ((same_new hrp (.rng 0 ((xs.length : Int) + (ys.length : Int)))).free hl) upd_same

end
section
variable {P : Program} {w : World} {K : PySem.W.Frag} {mg : Str → Option Value} {base : Heap} {a : Adr} {d : Fds}
theorem ok_sure_broken_bough (T : Txt K mg a d) : FnOk P w K mg base CX0 3 a.f_sure_broken_bough d.f_sure_broken_bough ["bough", "yes", "no"] (spTie3B Tie.sb) := by
  have G_has := ok_has (P := P) (w := w) (base := base) T
  have G_count_in := ok_count_in (P := P) (w := w) (base := base) T
  refine T.K_sure_broken_bough.ok sc_sure_broken_bough (fun vs H Q E h => ?_) (fun cdv A outer s H vs Q E hr h => ?_)
  · obtain ⟨u, lo, hi, ks, m, y, n, v, rfl, _⟩ := h
    rfl
  obtain ⟨u, lo, hi, ks, m, y, n, v, rfl, hd, ok, hm, q⟩ := h
  obtain ⟨p, pk, rfl, hp, hpk⟩ := at_bough hd
  have few := ok.few
  have rest4 : ∃ t, PSs (cxOf CX0 P w K mg base ["bough", "yes", "no", "least", "greatest", "some_with_up", "some_without_up"] "sure_broken_bough" (defScope s_sure_broken_bough) a.f_sure_broken_bough cdv A outer s H E).nox ((defBody s_sure_broken_bough).drop 4) t ∧ ∀ (v3 v4 : Option V) (b5 b6 : Bool) (H1 : Hp), Same H H1 → (!b5 && !b6) = (Tie.bough u lo hi ks).sb y n → t { nx := fun _ H' => Q .non H', rt := Q } [some (.ref p), some (.int y), some (.int n), v3, v4, some (.bl b5), some (.bl b6)] H1 := by
    refine ⟨_, (pss_one (ps_ret (pe_and (pe_not (pv 5)) (pe_one (pe_not (pv 6)))))), ?_⟩
    intro v3 v4 b5 b6 H1 s1 e
    have q1 := q H1 s1
    rw [← e] at q1
    refine ⟨_, rfl, _, rfl, _, rfl, ?_⟩
    refine ite2 (fun c => ?_) (fun c => ?_)
    · rw [c, Bool.true_and] at q1
      exact ⟨_, rfl, _, rfl, q1⟩
    · rw [Bool.eq_false_iff.mpr c, Bool.false_and] at q1
      exact q1
  obtain ⟨t4, h4, r4⟩ := rest4
  have rest3 : ∃ t, PSs (cxOf CX0 P w K mg base ["bough", "yes", "no", "least", "greatest", "some_with_up", "some_without_up"] "sure_broken_bough" (defScope s_sure_broken_bough) a.f_sure_broken_bough cdv A outer s H E).nox ((defBody s_sure_broken_bough).drop 3) t ∧ ∀ (g : Int) (b5 : Bool) (H1 : Hp), Same H H1 → g = (ks.length : Int) - cnt ks n → b5 = (!n.testBit u && (decide ((cnt ks y : Int) ≤ hi) && decide (lo ≤ g))) → t { nx := fun _ H' => Q .non H', rt := Q } [some (.ref p), some (.int y), some (.int n), some (.int (cnt ks y : Nat)), some (.int g), some (.bl b5), none] H1 := by
    refine ⟨_, (pss_cons (ps_set (i := 6) sc_sure_broken_bough.nd rfl (Or.inl rfl) (pe_and (pe_not (pe_call G_has (hr.mono (by first | decide | omega)) rfl T.g_has T.K_has.kp T.B_has .nil pass0 (pa_cons (pv 1) (pa_cons (pe_ix (ixT (K := K)) (pv 0) pe_int (fun _ _ => rfl)) pa_nil)))) (pe_one (pe_cmpR op_eq (pv 3) pe_int (nomark _)))))
      h4), ?_⟩
    intro g b5 H1 s1 eg e5
    have hp1 := s1 _ _ hp
    refine ⟨_, rfl, _, rfl, p, _, _, _, rfl, rfl, sqT hp1, at0, _, _, rfl, _, rfl, _, rfl, ?_⟩
    rw [hasV_nat]
    refine ite2 (fun c => ?_) (fun c => ?_)
    · refine ⟨_, rfl, rfl, ?_⟩
      refine r4 _ _ _ _ _ s1 ?_
      rw [e5, eg, dec_cnt0]
      show _ = (!_ && !(!y.testBit u && decide (cnt ks y = 0)))
      rw [c, Bool.true_and]
    · refine r4 _ _ _ _ _ s1 ?_
      rw [e5, eg]
      show _ = (!_ && !(!y.testBit u && decide (cnt ks y = 0)))
      rw [Bool.eq_false_iff.mpr c, Bool.false_and]
  obtain ⟨t3, h3, r3⟩ := rest3
  have rest2 : ∃ t, PSs (cxOf CX0 P w K mg base ["bough", "yes", "no", "least", "greatest", "some_with_up", "some_without_up"] "sure_broken_bough" (defScope s_sure_broken_bough) a.f_sure_broken_bough cdv A outer s H E).nox ((defBody s_sure_broken_bough).drop 2) t ∧ ∀ (g : Int) (H1 : Hp), Same H H1 → g = (ks.length : Int) - cnt ks n → t { nx := fun _ H' => Q .non H', rt := Q } [some (.ref p), some (.int y), some (.int n), some (.int (cnt ks y : Nat)), some (.int g), none, none] H1 := by
    refine ⟨_, (pss_cons (ps_set (i := 5) sc_sure_broken_bough.nd rfl (Or.inl rfl) (pe_and (pe_not (pe_call G_has (hr.mono (by first | decide | omega)) rfl T.g_has T.K_has.kp T.B_has .nil pass0 (pa_cons (pv 2) (pa_cons (pe_ix (ixT (K := K)) (pv 0) pe_int (fun _ _ => rfl)) pa_nil)))) (pe_and (pe_cmpR op_le (pv 3) (pe_ix (ixT (K := K)) (pv 0) pe_int (fun _ _ => rfl)) (nomark _)) (pe_one (pe_cmpR op_le (pe_ix (ixT (K := K)) (pv 0) pe_int (fun _ _ => rfl)) (pv 4) (nomark _))))))
      h3), ?_⟩
    intro g H1 s1 eg
    have hp1 := s1 _ _ hp
    refine ⟨_, rfl, _, rfl, p, _, _, _, rfl, rfl, sqT hp1, at0, _, _, rfl, _, rfl, _, rfl, ?_⟩
    rw [hasV_nat]
    refine ite2 (fun c => ?_) (fun c => ?_)
    · refine ⟨_, rfl, _, rfl, p, _, _, _, rfl, rfl, sqT hp1, at2, _, _, rfl, rfl, _, rfl, ?_⟩
      refine ite2 (fun c2 => ?_) (fun c2 => ?_)
      · refine ⟨_, rfl, p, _, _, _, rfl, rfl, sqT hp1, at1, _, rfl, _, _, rfl, rfl, ?_⟩
        exact r3 _ _ _ s1 eg (by rw [c, Bool.true_and, c2, Bool.true_and])
      · exact r3 _ _ _ s1 eg (by rw [c, Bool.true_and, Bool.eq_false_iff.mpr c2, Bool.false_and])
    · exact r3 _ _ _ s1 eg (by rw [Bool.eq_false_iff.mpr c, Bool.false_and])
  obtain ⟨t2, h2, r2⟩ := rest2
  refine ⟨_, (pss_cons (ps_set (i := 3) sc_sure_broken_bough.nd rfl (Or.inl rfl) (pe_call G_count_in (hr.mono (by first | decide | omega)) rfl T.g_count_in T.K_count_in.kp T.B_count_in .nil pass0 (pa_cons (pe_ix (ixT (K := K)) (pv 0) pe_int (fun _ _ => rfl)) (pa_cons (pv 1) pa_nil))))
      (pss_cons (ps_set (i := 4) sc_sure_broken_bough.nd rfl (Or.inl rfl) (pe_op op_sub (pe_callB (lenS (K := K)) rfl T.m_len PySem.boot_len (pa_cons (pe_ix (ixT (K := K)) (pv 0) pe_int (fun _ _ => rfl)) pa_nil)) (pe_call G_count_in (hr.mono (by first | decide | omega)) rfl T.g_count_in T.K_count_in.kp T.B_count_in .nil pass0 (pa_cons (pe_ix (ixT (K := K)) (pv 0) pe_int (fun _ _ => rfl)) (pa_cons (pv 2) pa_nil)))))
      h2)), ?_⟩
  refine ⟨_, rfl, p, _, _, _, rfl, rfl, sqT hp, at3, _, rfl, pk, ks, y, rfl, hpk, by omega, fun H1 s1 => ?_⟩
  have hp1 := s1 _ _ hp
  have hpk1 := s1 _ _ hpk
  refine ⟨_, rfl, p, _, _, _, rfl, rfl, sqT hp1, at3, pk, _, rfl, .inr (sqT hpk1), ?_⟩
  refine ⟨_, rfl, p, _, _, _, rfl, rfl, sqT hp1, at3, _, rfl, pk, ks, n, rfl, hpk1, by omega, fun H2 s2 => ?_⟩
  refine ⟨_, _, rfl, rfl, ?_⟩
  exact r2 _ _ (s1.trans s2) (by rw [List.length_map])

end
section
variable {P : Program} {w : World} {K : PySem.W.Frag} {mg : Str → Option Value} {base : Heap} {a : Adr} {d : Fds}
theorem ok_least_sum (T : Txt K mg a d) : FnOk P w K mg base CX0 2 a.f_least_sum d.f_least_sum ["pairs", "yes", "no"] (spSum leastSum) := by
  have G_has := ok_has (P := P) (w := w) (base := base) T
  refine T.K_least_sum.ok sc_least_sum (fun vs H Q E h => ?_) (fun cdv A outer s H vs Q E hr h => ?_)
  · obtain ⟨pq, xs, ps, y, n, rfl, _⟩ := h
    rfl
  obtain ⟨pq, xs, ps, y, n, rfl, hq, hps, few, q⟩ := h
  have lx : xs.length = ps.length := by rw [← hps.length, List.length_map]
  refine ⟨_, (pss_one (ps_ret (pe_callB (call_sum_ints rfl) rfl T.m_sum PyProof.Rows.boot_sum (pa_cons (pe_lc (sc0 := defScope s_least_sum) (XN := ["pairs", "yes", "no"]) (N' := ["k", "number", "yes", "no"]) (n := 2) (kp := [1, 2]) rfl (piT (K := K) (pv 0)) rfl rfl (by decide +kernel) (fun _ _ _ _ _ => (pgT (K := K) (n := 2) rfl (pgs_cons (pg_name (i := 0) (by show List.Nodup (["k", "number", "yes", "no"] : List Str); decide +kernel) rfl (Or.inl rfl)) (pgs_cons (pg_name (i := 1) (by show List.Nodup (["k", "number", "yes", "no"] : List Str); decide +kernel) rfl (Or.inl rfl)) pgs_nil)))) (fun _ _ _ _ _ => (pts_one (PW.pt (pw_or (pt_val (pe_call G_has (hr.mono (by first | decide | omega)) rfl T.g_has T.K_has.kp T.B_has .nil pass0 (pa_cons (pv 2) (pa_cons (pv 0) pa_nil)))) (pw_or1 (PW.pt (pw_and (pt_cmpR op_lt (pv 1) pe_int (nomark _)) (pw_and1 (pt_not (pt_val (pe_call G_has (hr.mono (by first | decide | omega)) rfl T.g_has T.K_has.kp T.B_has .nil pass0 (pa_cons (pv 3) (pa_cons (pv 0) pa_nil))))))))))))) (fun _ _ _ _ _ => (pv 1))) pa_nil)))), ?_⟩
  refine ⟨_, rfl, pq, rfl, ⟨_, sqT hq⟩, ?_⟩
  refine lc_tup (K := K) (a := pq) (xs := xs) (fun i ys σ H2 => (∃ v v', σ = [v, v', some (.int y), some (.int n)]) ∧ H2 = H ∧ i ≤ ps.length ∧ ys = (((ps.take i).filter fun p => y.testBit p.1 || (decide (p.2 < 0) && !n.testBit p.1)).map (·.2)).map V.int) ⟨⟨none, none, rfl⟩, rfl, Nat.zero_le _, rfl⟩ (fun i ys σ H2 hi pv => ?_) (fun i ys σ H2 hi pv => ?_) (fun i x ys σ H2 hx pv => ?_) (fun ys σ H2 pv l hl => ?_)
  · obtain ⟨_, _, h1, rfl⟩ := pv
    rw [List.length_map, List.length_map]
    refine small (Nat.le_trans (List.length_filter_le _ _) ?_)
    rw [List.length_take]
    omega
  · rw [pv.2.1]
    exact sqT hq
  · obtain ⟨⟨v, v', rfl⟩, rfl, h1, rfl⟩ := pv
    obtain ⟨pr, r, hpr, rfl, hr'⟩ := at_pair hps hx
    have hj : i < ps.length := (List.getElem?_eq_some_iff.mp hpr).1
    have ee := PySem.take_succ_filter (fun p : Nat × Int => y.testBit p.1 || (decide (p.2 < 0) && !n.testBit p.1)) ps i pr hpr
    have yes : (y.testBit pr.1 || (decide (pr.2 < 0) && !n.testBit pr.1)) = true → ((((ps.take i).filter fun p => y.testBit p.1 || (decide (p.2 < 0) && !n.testBit p.1)).map (·.2)).map V.int) ++ [V.int pr.2] = (((ps.take (i + 1)).filter fun p => y.testBit p.1 || (decide (p.2 < 0) && !n.testBit p.1)).map (·.2)).map V.int := fun c => by
      rw [ee, if_pos c, List.map_append, List.map_append]
      rfl
    have noo : (y.testBit pr.1 || (decide (pr.2 < 0) && !n.testBit pr.1)) = false → ((((ps.take i).filter fun p => y.testBit p.1 || (decide (p.2 < 0) && !n.testBit p.1)).map (·.2)).map V.int) = (((ps.take (i + 1)).filter fun p => y.testBit p.1 || (decide (p.2 < 0) && !n.testBit p.1)).map (·.2)).map V.int := fun c => by
      rw [ee, if_neg (by rw [c]; exact Bool.false_ne_true), List.append_nil]
    refine ⟨r, _, rfl, sqT hr', rfl, _, _, rfl, _, _, rfl, rfl, ?_⟩
    refine ⟨_, rfl, _, rfl, _, _, rfl, _, rfl, ?_⟩
    rw [hasV_nat]
    refine ite2 (fun c => ?_) (fun c => ?_)
    · refine iteT ?_
      exact ⟨_, rfl, ⟨_, _, rfl⟩, rfl, hj, yes (by rw [c, Bool.true_or])⟩
    · have c' := Bool.eq_false_iff.mpr c
      refine ⟨_, rfl, _, _, rfl, rfl, _, rfl, ?_⟩
      refine ite2 (fun c2 => ?_) (fun c2 => ?_)
      · refine ⟨_, rfl, _, rfl, _, _, rfl, _, rfl, ?_⟩
        rw [hasV_nat]
        refine ite2 (fun c3 => ?_) (fun c3 => ?_)
        · exact ⟨_, rfl, ⟨_, _, rfl⟩, rfl, hj, yes (by rw [c', Bool.false_or, c2, Bool.true_and, c3])⟩
        · exact ⟨⟨_, _, rfl⟩, rfl, hj, noo (by rw [c', Bool.false_or, c2, Bool.true_and, Bool.eq_false_iff.mpr c3])⟩
      · refine iteF ?_
        exact ⟨⟨_, _, rfl⟩, rfl, hj, noo (by rw [c', Bool.false_or, Bool.eq_false_iff.mpr c2, Bool.false_and])⟩
  · obtain ⟨_, rfl, _, rfl⟩ := pv
    refine ⟨l, _, rfl, SqL.of upd_same, ?_⟩
    have q1 := q _ (same_new hl (.lst ((((ps.take xs.length).filter fun p => y.testBit p.1 || (decide (p.2 < 0) && !n.testBit p.1)).map (·.2)).map V.int)))
    have e : leastSum ps y n = (((ps.take xs.length).filter fun p => y.testBit p.1 || (decide (p.2 < 0) && !n.testBit p.1)).map (·.2)).sum := by
      rw [lx, List.take_length]
      rfl
    rw [e] at q1
    exact q1

end
section
variable {P : Program} {w : World} {K : PySem.W.Frag} {mg : Str → Option Value} {base : Heap} {a : Adr} {d : Fds}
theorem ok_sure_broken (T : Txt K mg a d) : FnOk P w K mg base CX0 4 a.f_sure_broken d.f_sure_broken ["tie", "yes", "no"] (spTie3 Tie.sb) := by
  have G_has := ok_has (P := P) (w := w) (base := base) T
  have G_least_sum := ok_least_sum (P := P) (w := w) (base := base) T
  have G_sure_broken_bough := ok_sure_broken_bough (P := P) (w := w) (base := base) T
  refine T.K_sure_broken.ok sc_sure_broken (fun vs H Q E h => ?_) (fun cdv A outer s H vs Q E hr h => ?_)
  · obtain ⟨t, m, y, n, v, rfl, _⟩ := h
    rfl
  obtain ⟨t, m, y, n, v, rfl, hd, ok, hm, q⟩ := h
  have q0 := q H (Same.refl H)
  refine ⟨_, (pss_cons (ps_if (pt_cmpR op_eq (pe_ix (ixT (K := K)) (pv 0) pe_int (fun _ _ => rfl)) pe_str (nomark _)) (pss_one (ps_ret (pe_and (pe_call G_has (hr.mono (by first | decide | omega)) rfl T.g_has T.K_has.kp T.B_has .nil pass0 (pa_cons (pv 1) (pa_cons (pe_ix (ixT (K := K)) (pv 0) pe_int (fun _ _ => rfl)) pa_nil))) (pe_one (pe_call G_has (hr.mono (by first | decide | omega)) rfl T.g_has T.K_has.kp T.B_has .nil pass0 (pa_cons (pv 2) (pa_cons (pe_ix (ixT (K := K)) (pv 0) pe_int (fun _ _ => rfl)) pa_nil))))))) pss_nil)
      (pss_cons (ps_if (pt_cmpR op_eq (pe_ix (ixT (K := K)) (pv 0) pe_int (fun _ _ => rfl)) pe_str (nomark _)) (pss_one (ps_ret (pe_and (pe_call G_has (hr.mono (by first | decide | omega)) rfl T.g_has T.K_has.kp T.B_has .nil pass0 (pa_cons (pv 1) (pa_cons (pe_ix (ixT (K := K)) (pv 0) pe_int (fun _ _ => rfl)) pa_nil))) (pe_one (pe_call G_has (hr.mono (by first | decide | omega)) rfl T.g_has T.K_has.kp T.B_has .nil pass0 (pa_cons (pv 1) (pa_cons (pe_ix (ixT (K := K)) (pv 0) pe_int (fun _ _ => rfl)) pa_nil))))))) pss_nil)
      (pss_cons (ps_if (pt_cmpR op_eq (pe_ix (ixT (K := K)) (pv 0) pe_int (fun _ _ => rfl)) pe_str (nomark _)) (pss_one (ps_ret (pe_cmpR op_gt (pe_call G_least_sum (hr.mono (by first | decide | omega)) rfl T.g_least_sum T.K_least_sum.kp T.B_least_sum .nil pass0 (pa_cons (pe_ix (ixT (K := K)) (pv 0) pe_int (fun _ _ => rfl)) (pa_cons (pv 1) (pa_cons (pv 2) pa_nil)))) (pe_ix (ixT (K := K)) (pv 0) pe_int (fun _ _ => rfl)) (nomark _)))) pss_nil)
      (pss_one (ps_ret (pe_call G_sure_broken_bough (hr.mono (by first | decide | omega)) rfl T.g_sure_broken_bough T.K_sure_broken_bough.kp T.B_sure_broken_bough .nil pass0 (pa_cons (pv 0) (pa_cons (pv 1) (pa_cons (pv 2) pa_nil))))))))), ?_⟩
  cases t with
  | needs x z =>
    obtain ⟨p, rfl, hp⟩ := at_word hd
    refine ⟨_, rfl, p, _, _, _, rfl, rfl, sqT hp, at0, rfl, _, rfl, ?_⟩
    refine iteD rfl ?_
    refine ⟨_, rfl, _, rfl, p, _, _, _, rfl, rfl, sqT hp, at1, _, _, rfl, _, rfl, ?_⟩
    rw [hasV_nat]
    have q1 : Q (.bl (y.testBit x && n.testBit z)) H := q0
    refine ite2 (fun c => ?_) (fun c => ?_)
    · rw [c, Bool.true_and] at q1
      refine ⟨_, rfl, _, rfl, p, _, _, _, rfl, rfl, sqT hp, at2, _, _, rfl, ?_⟩
      rw [hasV_nat]
      exact q1
    · rw [Bool.eq_false_iff.mpr c, Bool.false_and] at q1
      exact q1
  | bans x z =>
    obtain ⟨p, rfl, hp⟩ := at_word hd
    refine ⟨_, rfl, p, _, _, _, rfl, rfl, sqT hp, at0, rfl, _, rfl, ?_⟩
    refine iteDN bans_needs ?_
    refine ⟨_, rfl, p, _, _, _, rfl, rfl, sqT hp, at0, rfl, _, rfl, ?_⟩
    refine iteD rfl ?_
    refine ⟨_, rfl, _, rfl, p, _, _, _, rfl, rfl, sqT hp, at1, _, _, rfl, _, rfl, ?_⟩
    rw [hasV_nat]
    have q1 : Q (.bl (y.testBit x && y.testBit z)) H := q0
    refine ite2 (fun c => ?_) (fun c => ?_)
    · rw [c, Bool.true_and] at q1
      refine ⟨_, rfl, _, rfl, p, _, _, _, rfl, rfl, sqT hp, at2, _, _, rfl, ?_⟩
      rw [hasV_nat]
      exact q1
    · rw [Bool.eq_false_iff.mpr c, Bool.false_and] at q1
      exact q1
  | most top ps =>
    obtain ⟨p, pq, xs, rfl, hp, hq, hps⟩ := at_most hd
    have few : ps.length ≤ m := ok.2.2.2
    refine ⟨_, rfl, p, _, _, _, rfl, rfl, sqT hp, at0, rfl, _, rfl, ?_⟩
    refine iteDN most_needs ?_
    refine ⟨_, rfl, p, _, _, _, rfl, rfl, sqT hp, at0, rfl, _, rfl, ?_⟩
    refine iteDN most_bans ?_
    refine ⟨_, rfl, p, _, _, _, rfl, rfl, sqT hp, at0, rfl, _, rfl, ?_⟩
    refine iteD rfl ?_
    refine ⟨_, rfl, p, _, _, _, rfl, rfl, sqT hp, at2, _, rfl, _, rfl, pq, xs, ps, y, n, rfl, hq, hps, by omega, fun H1 s1 => ?_⟩
    exact ⟨_, rfl, p, _, _, _, rfl, rfl, sqT (s1 _ _ hp), at1, _, _, rfl, rfl, q H1 s1⟩
  | bough u lo hi ks =>
    obtain ⟨p, pk, e, hp, hpk⟩ := at_bough hd
    subst e
    refine ⟨_, rfl, p, _, _, _, rfl, rfl, sqT hp, at0, rfl, _, rfl, ?_⟩
    refine iteDN int_str ?_
    refine ⟨_, rfl, p, _, _, _, rfl, rfl, sqT hp, at0, rfl, _, rfl, ?_⟩
    refine iteDN int_str ?_
    refine ⟨_, rfl, p, _, _, _, rfl, rfl, sqT hp, at0, rfl, _, rfl, ?_⟩
    refine iteDN int_str ?_
    exact ⟨_, rfl, _, rfl, _, rfl, u, lo, hi, ks, m, y, n, _, rfl, hd, ok, hm, q⟩

end
section
variable {P : Program} {w : World} {K : PySem.W.Frag} {mg : Str → Option Value} {base : Heap} {a : Adr} {d : Fds}
theorem ok_first_sure_broken (T : Txt K mg a d) : FnOk P w K mg base CX0 5 a.f_first_sure_broken d.f_first_sure_broken ["wood", "ties", "yes", "no"] spFirstSB := by
  have G_tie_at := ok_tie_at (P := P) (w := w) (base := base) T
  have G_sure_broken := ok_sure_broken (P := P) (w := w) (base := base) T
  refine T.K_first_sure_broken.ok sc_first_sure_broken (fun vs H Q E h => ?_) (fun cdv A outer s H vs Q E hr h => ?_)
  · obtain ⟨wd, m, ts, tl, il, y, n, rfl, _⟩ := h
    rfl
  obtain ⟨wd, m, ts, tl, il, y, n, rfl, W, htl, ilt, q⟩ := h
  have m9 := W.m9
  refine ⟨_, (pss_cons (ps_for PassesOwn.never rfl (piL (K := K) (pv 1)) (pg_name (i := 4) sc_first_sure_broken.nd rfl (Or.inl rfl)) (pss_one (ps_if (pt_val (pe_call G_sure_broken (hr.mono (by first | decide | omega)) rfl T.g_sure_broken T.K_sure_broken.kp T.B_sure_broken .nil pass0 (pa_cons (pe_call G_tie_at (hr.mono (by first | decide | omega)) rfl T.g_tie_at T.K_tie_at.kp T.B_tie_at .nil pass0 (pa_cons (pv 0) (pa_cons (pv 4) pa_nil))) (pa_cons (pv 2) (pa_cons (pv 3) pa_nil))))) (pss_one (ps_ret (pv 4))) pss_nil)))
      (pss_one (ps_ret pe_non))), ?_⟩
  refine ⟨_, rfl, tl, rfl, ⟨_, SqL.of htl⟩, ?_⟩
  refine for_list (K := K) (a := tl) (xs := natsL il) (fun i σ H2 => (∃ v, σ = [some (.ref wd), some (.ref tl), some (.int y), some (.int n), v]) ∧ Same H H2 ∧ (il.take i).find? (fun i => sbAt ts i y n) = none) ⟨⟨_, rfl⟩, Same.refl _, rfl⟩ (fun i σ H2 _ z => SqL.of (z.2.1 _ _ htl)) ?_ ?_
  · rintro i x σ H2 hx ⟨⟨v, rfl⟩, s2, hb⟩
    rw [List.getElem?_map] at hx
    obtain ⟨t, ht, rfl⟩ := Option.map_eq_some_iff.mp hx
    have htl' := ilt t (List.mem_of_getElem? ht)
    have W2 := W.same s2
    obtain ⟨xs, ys, WA, dn⟩ := W2.ex
    have hts : ts[t]? = some ts[t] := List.getElem?_eq_getElem htl'
    obtain ⟨v2, hv2, hd⟩ := DnL.get' dn (i := t) (d := ts[t].toD) (by rw [List.getElem?_map, hts]; rfl)
    have esb : sbAt ts t y n = ts[t].sb y n := by unfold sbAt; rw [hts]
    refine ⟨_, rfl, _, rfl, wd, m, xs, ys, t, v2, rfl, WA, hv2, ?_⟩
    refine ⟨_, rfl, _, rfl, ts[t], m, y, n, v2, rfl, hd, W.ok _ (List.getElem_mem htl'), by omega, fun H3 s3 => ?_⟩
    refine ⟨_, rfl, ?_⟩
    refine ite2 (fun c => ?_) (fun c => ?_)
    · have q1 := q H3 (s2.trans s3)
      have e : firstSB ts il y n = some t := by
        unfold firstSB
        have el : il = il.take i ++ t :: il.drop (i + 1) := by
          obtain ⟨hi, e⟩ := List.getElem?_eq_some_iff.mp ht
          rw [← e, List.getElem_cons_drop, List.take_append_drop]
        rw [el, List.find?_append, hb]
        simp [esb, c]
      rw [e] at q1
      exact ⟨_, rfl, q1⟩
    · refine ⟨⟨_, rfl⟩, s2.trans s3, ?_⟩
      rw [List.take_add_one, ht, Option.toList_some, List.find?_append, hb]
      simp [esb, c]
  · rintro σ H2 ⟨⟨v, rfl⟩, s2, hb⟩
    have q1 := q H2 s2
    rw [List.length_map, List.take_length] at hb
    have e : firstSB ts il y n = none := hb
    rw [e] at q1
    exact q1

end
section
variable {P : Program} {w : World} {K : PySem.W.Frag} {mg : Str → Option Value} {base : Heap} {a : Adr} {d : Fds}
theorem told_step (T : Txt K mg a d) (f : Nat) {p : Addr} {C : Hp → Prop} {m : Nat} {leaf : Nat → Nat → Option PyData} {fdL : FuncData} {pl : List Str} {φ : Heap → Prop}
    (L_leaf_at : FnOk P w K mg base CX0 7 p fdL pl (spLf C leaf)) (LB_leaf_at : Binds K fdL pl []) (LP_leaf_at : ∀ h : Heap, φ h → ∃ o fd', h.get? p = some o ∧ o.data = .func fd') (hC : ∀ H H', Same H H' → C H → C H') (hCp : ∀ H, C H → H p = some (.ext φ))
    (G_told_tree : f ≠ 0 → FnOk P w K mg base CX0 (f + 7) a.f_told_tree d.f_told_tree ["wood", "ties", "yes", "no", "leaf_at"] (spToldF (f - 1) p C m leaf)) : FnOk P w K mg base CX0 (f + 8) a.f_told_tree d.f_told_tree ["wood", "ties", "yes", "no", "leaf_at"] (spToldF f p C m leaf) := by
  have G_first_sure_broken := ok_first_sure_broken (P := P) (w := w) (base := base) T
  have G_open_options := ok_open_options (P := P) (w := w) (base := base) T
  have G_with_option := ok_with_option (P := P) (w := w) (base := base) T
  refine T.K_told_tree.ok sc_told_tree (fun vs H Q E h => ?_) (fun cdv A outer s H vs Q E hr h => ?_)
  · obtain ⟨wd, ts, tl, il, y, n, rfl, _⟩ := h
    rfl
  obtain ⟨wd, ts, tl, il, y, n, rfl, W, htl, ilt, hf, c0, ends, q⟩ := h
  have m9 := W.m9
  obtain ⟨R, r0, rs, re⟩ := ends
  have rest : ∃ t, PSs (cxOf CX0 P w K mg base ["wood", "ties", "yes", "no", "leaf_at", "broken", "leaf", "k", "one", "other"] "told_tree" (defScope s_told_tree) a.f_told_tree cdv A outer s H E).nox ((defBody s_told_tree).drop 5) t ∧ (∀ (k : Nat) (r : List Nat) (v5 v6 : Option V) (H1 : Hp), Same H H1 → openL m y n = k :: r → firstSB ts il y n = none → leaf y n = none → t { nx := fun _ H' => Q .non H', rt := Q } [some (.ref wd), some (.ref tl), some (.int y), some (.int n), some (.ref p), v5, v6, some (.int (k : Int)), none, none] H1) := by
    by_cases hf0 : f = 0
    · refine ⟨tNever, pss_never, ?_⟩
      intro k r v5 v6 H1 s1 ho hb
      rw [ho, hf0] at hf
      simp at hf
    · have G_told_tree := G_told_tree hf0
      refine ⟨_, (pss_cons (ps_set (i := 8) sc_told_tree.nd rfl (Or.inl rfl) (pe_call G_told_tree (hr.mono (by first | decide | omega)) rfl T.g_told_tree T.K_told_tree.kp T.B_told_tree .nil pass0 (pa_cons (pv 0) (pa_cons (pv 1) (pa_cons (pe_call G_with_option (hr.mono (by first | decide | omega)) rfl T.g_with_option T.K_with_option.kp T.B_with_option .nil pass0 (pa_cons (pv 2) (pa_cons (pv 7) pa_nil))) (pa_cons (pv 3) (pa_cons (pv 4) pa_nil)))))))
      (pss_cons (ps_set (i := 9) sc_told_tree.nd rfl (Or.inl rfl) (pe_call G_told_tree (hr.mono (by first | decide | omega)) rfl T.g_told_tree T.K_told_tree.kp T.B_told_tree .nil pass0 (pa_cons (pv 0) (pa_cons (pv 1) (pa_cons (pv 2) (pa_cons (pe_call G_with_option (hr.mono (by first | decide | omega)) rfl T.g_with_option T.K_with_option.kp T.B_with_option .nil pass0 (pa_cons (pv 3) (pa_cons (pv 7) pa_nil))) (pa_cons (pv 4) pa_nil)))))))
      (pss_one (ps_ret (pe_tup (pa_cons pe_str (pa_cons (pv 7) (pa_cons (pv 8) (pa_cons (pv 9) pa_nil))))))))), ?_⟩
      intro k r v5 v6 H1 s1 ho hb hlf
      have hk : k ∈ openL m y n := by rw [ho]; exact List.mem_cons_self
      have km := (mem_open.mp hk).1
      have l1 := open_less1 hk
      have l2 := open_less2 hk
      refine ⟨_, rfl, _, rfl, _, rfl, _, rfl, y, k, rfl, by omega, _, rfl, _, rfl, wd, ts, tl, il, y ||| 2 ^ k, n, rfl, W.same s1, s1 _ _ htl, ilt, by omega, hC _ _ s1 c0, ⟨R, (rs y n k r0 hk).1, rs, re⟩, fun v1 H2 s2 d1 => ?_⟩
      refine ⟨_, rfl, _, rfl, _, rfl, _, rfl, _, rfl, n, k, rfl, by omega, _, rfl, wd, ts, tl, il, y, n ||| 2 ^ k, rfl, W.same (s1.trans s2), (s1.trans s2) _ _ htl, ilt, by omega, hC _ _ (s1.trans s2) c0, ⟨R, (rs y n k r0 hk).2, rs, re⟩, fun v2 H3 s3 d2 => ?_⟩
      refine ⟨_, rfl, _, rfl, _, rfl, small (by show 4 ≤ 1000; decide), fun tp htp => ?_⟩
      have s4 := same_new htp (.tup [.str ("split" : Str), .int (k : Int), v1, v2])
      refine q _ _ (((s1.trans s2).trans s3).trans s4) ?_
      obtain ⟨f', rfl⟩ : ∃ f', f = f' + 1 := ⟨f - 1, by omega⟩
      rw [toldD_split hb hlf ho]
      exact ⟨tp, _, rfl, upd_same, _, _, rfl, rfl, _, _, rfl, rfl, _, _, rfl, Dn.same (s3.trans s4) _ _ d1, _, _, rfl, Dn.same s4 _ _ d2, rfl⟩
  obtain ⟨t4, h4, r4⟩ := rest
  refine ⟨_, (pss_cons (ps_set (i := 5) sc_told_tree.nd rfl (Or.inl rfl) (pe_call G_first_sure_broken (hr.mono (by first | decide | omega)) rfl T.g_first_sure_broken T.K_first_sure_broken.kp T.B_first_sure_broken .nil pass0 (pa_cons (pv 0) (pa_cons (pv 1) (pa_cons (pv 2) (pa_cons (pv 3) pa_nil))))))
      (pss_cons (ps_if (pt_cmpR op_notN (pv 5) pe_non (nomark _)) (pss_one (ps_ret (pe_tup (pa_cons pe_str (pa_cons (pv 5) pa_nil))))) pss_nil)
      (pss_cons (ps_set (i := 6) sc_told_tree.nd rfl (Or.inl rfl) (pe_callV (i := 4) L_leaf_at (hr.mono (by first | decide | omega)) rfl (.inl rfl) LB_leaf_at LP_leaf_at (pa_cons (pv 2) (pa_cons (pv 3) pa_nil))))
      (pss_cons (ps_if (pt_cmpR op_notN (pv 6) pe_non (nomark _)) (pss_one (ps_ret (pv 6))) pss_nil)
      (pss_cons (ps_set (i := 7) sc_told_tree.nd rfl (Or.inl rfl) (pe_ix (ixL (K := K)) (pe_call G_open_options (hr.mono (by first | decide | omega)) rfl T.g_open_options T.K_open_options.kp T.B_open_options .nil pass0 (pa_cons (pe_ix (ixT (K := K)) (pv 0) pe_int (fun _ _ => rfl)) (pa_cons (pv 2) (pa_cons (pv 3) pa_nil)))) pe_int (fun _ _ => rfl)))
      h4))))), ?_⟩
  refine ⟨_, rfl, _, rfl, _, rfl, _, rfl, wd, m, ts, tl, il, y, n, rfl, W, htl, ilt, fun H1 s1 => ?_⟩
  obtain ⟨o, ho⟩ : ∃ o, firstSB ts il y n = o := ⟨_, rfl⟩
  rw [ho]
  obtain ⟨xs, ys, ⟨tb, tc, hw, hb, hc⟩, dn⟩ := W.ex
  rcases o with _ | t
  · refine ⟨_, rfl, rfl, _, rfl, ?_⟩
    refine iteNS rfl ?_
    refine ⟨rfl, _, rfl, _, rfl, hCp _ (hC _ _ s1 c0), y, n, rfl, hC _ _ s1 c0, fun v H2 s2 lv => ?_⟩
    unfold LeafV at lv
    cases hl : leaf y n with
    | some dd =>
      rw [hl] at lv
      obtain ⟨dv, pp, rfl⟩ := lv
      refine ⟨_, rfl, rfl, _, rfl, ?_⟩
      refine iteNN (by intro z; cases z) ?_
      refine ⟨_, rfl, ?_⟩
      refine q _ _ (s1.trans s2) ?_
      rw [toldD_leaf ho hl]
      exact dv
    | none =>
      rw [hl] at lv
      subst lv
      refine ⟨_, rfl, rfl, _, rfl, ?_⟩
      refine iteNS rfl ?_
      have s12 := s1.trans s2
      refine ⟨_, rfl, wd, _, _, _, rfl, rfl, sqT (s12 _ _ hw), at0, _, rfl, _, rfl, m, y, n, rfl, by omega, fun l H3 s3 nl hl3 => ?_⟩
      obtain ⟨ol, hol⟩ : ∃ ol, openL m y n = ol := ⟨_, rfl⟩
      rw [hol] at hl3
      rcases ol with _ | ⟨k, r⟩
      · exact absurd hl (re y n r0 ho hol)
      · refine ⟨l, _, _, _, rfl, rfl, SqL.of hl3, at0, ?_⟩
        exact r4 k r _ _ H3 (s12.trans s3) hol ho hl
  · refine ⟨_, rfl, rfl, _, rfl, ?_⟩
    refine iteNN (by intro z; cases z) ?_
    refine ⟨_, rfl, small (by show 2 ≤ 1000; decide), fun tp htp => ?_⟩
    have s2 := same_new htp (.tup [.str ("broken" : Str), .int (t : Int)])
    refine q _ _ (s1.trans s2) ?_
    rw [toldD_broken ho]
    exact ⟨tp, _, rfl, upd_same, _, _, rfl, rfl, _, _, rfl, rfl, rfl⟩
theorem ok_told_tree (T : Txt K mg a d) {p : Addr} {C : Hp → Prop} {m : Nat} {leaf : Nat → Nat → Option PyData} {fdL : FuncData} {pl : List Str} {φ : Heap → Prop}
    (L : FnOk P w K mg base CX0 7 p fdL pl (spLf C leaf)) (LB : Binds K fdL pl []) (LP : ∀ h : Heap, φ h → ∃ o fd', h.get? p = some o ∧ o.data = .func fd') (hC : ∀ H H', Same H H' → C H → C H') (hCp : ∀ H, C H → H p = some (.ext φ)) :
    ∀ f : Nat, FnOk P w K mg base CX0 (f + 8) a.f_told_tree d.f_told_tree ["wood", "ties", "yes", "no", "leaf_at"] (spToldF f p C m leaf)
  | 0 => told_step T 0 L LB LP hC hCp fun h => absurd rfl h
  | f + 1 => told_step T (f + 1) L LB LP hC hCp fun _ => ok_told_tree T L LB LP hC hCp f

end
section
variable {P : Program} {w : World} {K : PySem.W.Frag} {mg : Str → Option Value} {base : Heap} {a : Adr} {d : Fds}
def spWareLeaf : Sp := fun vs H Q _ => ∃ (wd : Addr) (m : Nat) (ts : List Tie) (y n : Nat), vs = [.ref wd, .int y, .int n] ∧ WoodT H wd m ts ∧ ∀ (v : V) (H' : Hp), Same H H' → LeafV (wareLeaf m) y n H' v → Q v H'
theorem ok_ware_leaf (T : Txt K mg a d) : FnOk P w K mg base CX0 3 a.f_ware_leaf d.f_ware_leaf ["wood", "yes", "no"] spWareLeaf := by
  have G_open_options := ok_open_options (P := P) (w := w) (base := base) T
  refine T.K_ware_leaf.ok sc_ware_leaf (fun vs H Q E h => ?_) (fun cdv A outer s H vs Q E hr h => ?_)
  · obtain ⟨wd, m, ts, y, n, rfl, _⟩ := h
    rfl
  obtain ⟨wd, m, ts, y, n, rfl, W, q⟩ := h
  have m9 := W.m9
  refine ⟨_, (pss_cons (ps_if (pt_cmpR op_eq (pe_callB (lenS (K := K)) rfl T.m_len PySem.boot_len (pa_cons (pe_call G_open_options (hr.mono (by first | decide | omega)) rfl T.g_open_options T.K_open_options.kp T.B_open_options .nil pass0 (pa_cons (pe_ix (ixT (K := K)) (pv 0) pe_int (fun _ _ => rfl)) (pa_cons (pv 1) (pa_cons (pv 2) pa_nil)))) pa_nil)) pe_int (nomark _)) (pss_one (ps_ret (pe_tup (pa_cons pe_str pa_nil)))) pss_nil)
      (pss_one (ps_ret pe_non))), ?_⟩
  obtain ⟨xs, ys, ⟨tb, tc, hw, hb, hc⟩, dn⟩ := W.ex
  refine ⟨_, rfl, wd, _, _, _, rfl, rfl, sqT hw, at0, _, rfl, _, rfl, m, y, n, rfl, by omega, fun l H2 s2 nl hl => ?_⟩
  refine ⟨l, _, rfl, .inl (SqL.of hl), rfl, _, rfl, ?_⟩
  rw [dec_cnt0, List.length_map]
  obtain ⟨ol, hol⟩ : ∃ ol, openL m y n = ol := ⟨_, rfl⟩
  rw [hol]
  rcases ol with _ | ⟨k, r⟩
  · refine iteD rfl ?_
    refine ⟨small (by show 1 ≤ 1000; decide), fun tp htp => ?_⟩
    have s3 := same_new htp (.tup [.str ("ware" : Str)])
    refine q _ _ (s2.trans s3) ?_
    unfold LeafV wareLeaf
    rw [if_pos hol]
    exact ⟨⟨tp, _, rfl, upd_same, _, _, rfl, rfl, rfl⟩, tp, rfl⟩
  · refine iteDN (by simp) ?_
    refine q _ _ s2 ?_
    unfold LeafV wareLeaf
    rw [if_neg (by rw [hol]; simp)]

end
section
variable {P : Program} {w : World} {K : PySem.W.Frag} {mg : Str → Option Value} {base : Heap} {a : Adr} {d : Fds}
theorem ok_cases_of (T : Txt K mg a d) (LB : LamB mg base a.c_cases_of a.t_cases_of) (f : Nat) : FnOk P w K mg base CX0 (f + 9) a.f_cases_of d.f_cases_of ["wood", "ties", "yes", "no"] (spT a.t_cases_of (spCasesF f)) := by
  refine T.K_cases_of.okC sc_cases_of (fun vs H Q E h => ?_) (fun cdv A outer s H vs Q E hcd hr h => ?_)
  · obtain ⟨_, wd, m, ts, tl, il, y, n, rfl, _⟩ := h
    rfl
  obtain ⟨tb, wd, m, ts, tl, il, y, n, rfl, W, htl, ilt, hf, q⟩ := h
  have LC : ((cxOf CX0 P w K mg base ["wood", "ties", "yes", "no"] "cases_of" (defScope s_cases_of) a.f_cases_of cdv A outer s H E).nox).env.code = .ref a.c_cases_of := hcd.symm.trans T.code_cases_of
  have LF : ∀ y ∈ (lamScope (lastArg (retE (defBody s_cases_of)[0]?))).names, y.2 = .free → ∃ c, ((cxOf CX0 P w K mg base ["wood", "ties", "yes", "no"] "cases_of" (defScope s_cases_of) a.f_cases_of cdv A outer s H E).nox).env.cells.lookup y.1 = some c := by
    intro y hy hz
    have e : y = (("wood" : Str), NameKind.free) := by
      have h := (by decide +kernel : ∀ y ∈ (lamScope (lastArg (retE (defBody s_cases_of)[0]?))).names, y.2 = NameKind.free → y = (("wood" : Str), NameKind.free))
      exact h y hy hz
    subst e
    exact ⟨_, rfl⟩
  refine ⟨_, (pss_one (ps_ret (pe_callW (k := f + 8) (hr.mono (by first | decide | omega)) rfl T.g_told_tree T.K_told_tree.kp T.B_told_tree (fun _ => rfl) (pa_cons (pv 0) (pa_cons (pv 1) (pa_cons (pv 2) (pa_cons (pv 3) (pa_cons (pe_lam LC LB rfl LF) pa_nil)))))))), ?_⟩
  refine ⟨_, rfl, _, rfl, _, rfl, _, rfl, tb, fun p c' H1 np s1 hp hc base' ci _ _ => ?_⟩
  obtain ⟨cw, u, e1, r1, ic⟩ := ci 0 "wood" (.ref wd) rfl rfl rfl
  have hcells : ((cxOf CX0 P w K mg base ["wood", "ties", "yes", "no"] "cases_of" (defScope s_cases_of) a.f_cases_of cdv A outer s H E).nox).env.cells = [(("wood" : Str), cw)] := by
    have z : cw = s.heap.objs.size + 1 := (Option.some.inj (show some (s.heap.objs.size + 1) = some cw from e1)).symm
    rw [z]
    rfl
  have G_ware_leaf := ok_ware_leaf (P := P) (w := w) (base := base') T
  have L := lam_fn (P := P) (w := w) (K := K) (mg := mg) (base := base') (ps := ["come", "gone"]) (fr := ["wood"]) (fv := [.ref wd]) (k := 6) (leaf := wareLeaf m) (fun H => WoodT H wd m ts) hp ⟨rfl, rfl, rfl, by decide +kernel, by decide +kernel, by decide +kernel, by decide +kernel⟩
    (fun x cc h => by
      have h' := clOf_look LF h
      rw [hcells] at h'
      obtain ⟨_, rfl⟩ := lookup_one h'
      exact ⟨_, ic⟩)
    (fun x y cc h1 h2 => by
      have h1' := clOf_look LF h1
      have h2' := clOf_look LF h2
      rw [hcells] at h1' h2'
      rw [(lookup_one h1').1, (lookup_one h2').1])
    (fun y hy hz => by
      obtain ⟨c, hc⟩ := LF y hy hz
      exact ⟨c, clOf_at LF (by rw [← hz]; exact hy) hc⟩)
    (fun i x v h1 h2 => by
      cases i with
      | zero =>
        cases h1
        cases h2
        exact ⟨cw, u, clOf_at LF (by decide +kernel) e1, r1, ic⟩
      | succ i => cases h1)
    rfl (fun _ _ _ => rfl) rfl
    (fun q A outer s H y n Q hr W0 q' => ⟨_, pe_call G_ware_leaf (hr.mono (by decide)) rfl T.g_ware_leaf T.K_ware_leaf.kp T.B_ware_leaf .nil pass0 (pa_cons (pv 2) (pa_cons (pv 0) (pa_cons (pv 1) pa_nil))), ⟨_, rfl, _, rfl, _, rfl, wd, m, ts, y, n, rfl, W0, q'⟩⟩)
  have G := ok_told_tree (P := P) (w := w) (base := base') (m := m) T L (.all fun us hl => match us, hl with | [_, _], _ => rfl) lamP_fn (fun H H' s h => ⟨h.1.same s, s _ _ h.2.1, s _ _ h.2.2⟩) (fun H h => h.2.1) f
  refine ⟨_, G, wd, ts, tl, il, y, n, rfl, W.same s1, s1 _ _ htl, ilt, hf, ⟨W.same s1, hp, hc⟩, EndsR.all (fun y n hb ho => by unfold wareLeaf; rw [if_pos ho]; simp) _ _, fun v H' s2 dv => q v H' (s1.trans s2) ?_⟩
  rw [← told_cases f y n hf]
  exact dv

end
section
variable {P : Program} {w : World} {K : PySem.W.Frag} {mg : Str → Option Value} {base : Heap} {a : Adr} {d : Fds}
theorem keeping_step (T : Txt K mg a d) (f : Nat) (G_first_keeping : f ≠ 0 → FnOk P w K mg base CX0 (f + 6) a.f_first_keeping d.f_first_keeping ["wood", "ties", "yes", "no"] (spKeepF (f - 1))) : FnOk P w K mg base CX0 (f + 7) a.f_first_keeping d.f_first_keeping ["wood", "ties", "yes", "no"] (spKeepF f) := by
  have G_first_sure_broken := ok_first_sure_broken (P := P) (w := w) (base := base) T
  have G_open_options := ok_open_options (P := P) (w := w) (base := base) T
  have G_with_option := ok_with_option (P := P) (w := w) (base := base) T
  refine T.K_first_keeping.ok sc_first_keeping (fun vs H Q E h => ?_) (fun cdv A outer s H vs Q E hr h => ?_)
  · obtain ⟨wd, m, ts, tl, il, y, n, rfl, _⟩ := h
    rfl
  obtain ⟨wd, m, ts, tl, il, y, n, rfl, W, htl, ilt, hf, q⟩ := h
  have m9 := W.m9
  have rest : ∃ t, PSs (cxOf CX0 P w K mg base ["wood", "ties", "yes", "no", "left", "k", "found"] "first_keeping" (defScope s_first_keeping) a.f_first_keeping cdv A outer s H E).nox ((defBody s_first_keeping).drop 4) t ∧ (∀ (k : Nat) (v4 : Option V) (H1 : Hp), Same H H1 → (openL m y n).getLast? = some k → firstSB ts il y n = none → t { nx := fun _ H' => Q .non H', rt := Q } [some (.ref wd), some (.ref tl), some (.int y), some (.int n), v4, some (.int (k : Int)), none] H1) := by
    by_cases hf0 : f = 0
    · refine ⟨tNever, pss_never, ?_⟩
      intro k v4 H1 s1 ho hb
      rw [hf0] at hf
      rw [List.eq_nil_of_length_eq_zero (Nat.le_zero.mp hf)] at ho
      cases ho
    · have G_first_keeping := G_first_keeping hf0
      refine ⟨_, (pss_cons (ps_set (i := 6) sc_first_keeping.nd rfl (Or.inl rfl) (pe_call G_first_keeping (hr.mono (by first | decide | omega)) rfl T.g_first_keeping T.K_first_keeping.kp T.B_first_keeping .nil pass0 (pa_cons (pv 0) (pa_cons (pv 1) (pa_cons (pv 2) (pa_cons (pe_call G_with_option (hr.mono (by first | decide | omega)) rfl T.g_with_option T.K_with_option.kp T.B_with_option .nil pass0 (pa_cons (pv 3) (pa_cons (pv 5) pa_nil))) pa_nil))))))
      (pss_cons (ps_if (pt_cmpR op_notN (pv 6) pe_non (nomark _)) (pss_one (ps_ret (pv 6))) pss_nil)
      (pss_one (ps_ret (pe_call G_first_keeping (hr.mono (by first | decide | omega)) rfl T.g_first_keeping T.K_first_keeping.kp T.B_first_keeping .nil pass0 (pa_cons (pv 0) (pa_cons (pv 1) (pa_cons (pe_call G_with_option (hr.mono (by first | decide | omega)) rfl T.g_with_option T.K_with_option.kp T.B_with_option .nil pass0 (pa_cons (pv 2) (pa_cons (pv 5) pa_nil))) (pa_cons (pv 3) pa_nil))))))))), ?_⟩
      intro k v4 H1 s1 ho hb
      have hk := (open_last ho).1
      have km := (mem_open.mp hk).1
      have l1 := open_less1 hk
      have l2 := open_less2 hk
      have e : keepF ts il m f y n = (match keepF ts il m (f - 1) y (n ||| 2 ^ k) with | some s => some s | none => keepF ts il m (f - 1) (y ||| 2 ^ k) n) := by
        obtain ⟨f', rfl⟩ : ∃ f', f = f' + 1 := ⟨f - 1, by omega⟩
        exact keepF_split hb ho
      refine ⟨_, rfl, _, rfl, _, rfl, _, rfl, _, rfl, n, k, rfl, by omega, wd, m, ts, tl, il, y, n ||| 2 ^ k, rfl, W.same s1, s1 _ _ htl, ilt, by omega, fun H2 s2 => ?_⟩
      obtain ⟨o, ho2⟩ : ∃ o, keepF ts il m (f - 1) y (n ||| 2 ^ k) = o := ⟨_, rfl⟩
      rw [ho2]
      rcases o with _ | g
      · refine ⟨_, rfl, rfl, _, rfl, ?_⟩
        refine iteNS rfl ?_
        refine ⟨_, rfl, _, rfl, _, rfl, _, rfl, y, k, rfl, by omega, _, rfl, wd, m, ts, tl, il, y ||| 2 ^ k, n, rfl, W.same (s1.trans s2), (s1.trans s2) _ _ htl, ilt, by omega, fun H3 s3 => ?_⟩
        have q1 := q H3 ((s1.trans s2).trans s3)
        rw [e, ho2] at q1
        exact q1
      · refine ⟨_, rfl, rfl, _, rfl, ?_⟩
        refine iteNN (by intro z; cases z) ?_
        have q1 := q H2 (s1.trans s2)
        rw [e, ho2] at q1
        exact ⟨_, rfl, q1⟩
  obtain ⟨t4, h4, r4⟩ := rest
  refine ⟨_, (pss_cons (ps_if (pt_cmpR op_notN (pe_call G_first_sure_broken (hr.mono (by first | decide | omega)) rfl T.g_first_sure_broken T.K_first_sure_broken.kp T.B_first_sure_broken .nil pass0 (pa_cons (pv 0) (pa_cons (pv 1) (pa_cons (pv 2) (pa_cons (pv 3) pa_nil))))) pe_non (nomark _)) (pss_one (ps_ret pe_non)) pss_nil)
      (pss_cons (ps_set (i := 4) sc_first_keeping.nd rfl (Or.inl rfl) (pe_call G_open_options (hr.mono (by first | decide | omega)) rfl T.g_open_options T.K_open_options.kp T.B_open_options .nil pass0 (pa_cons (pe_ix (ixT (K := K)) (pv 0) pe_int (fun _ _ => rfl)) (pa_cons (pv 2) (pa_cons (pv 3) pa_nil)))))
      (pss_cons (ps_if (pt_cmpR op_eq (pe_callB (lenS (K := K)) rfl T.m_len PySem.boot_len (pa_cons (pv 4) pa_nil)) pe_int (nomark _)) (pss_one (ps_ret (pv 2))) pss_nil)
      (pss_cons (ps_set (i := 5) sc_first_keeping.nd rfl (Or.inl rfl) (pe_ix (ixL (K := K)) (pv 4) (pe_un un_neg pe_int) (fun _ _ => rfl)))
      h4)))), ?_⟩
  refine ⟨_, rfl, _, rfl, _, rfl, _, rfl, wd, m, ts, tl, il, y, n, rfl, W, htl, ilt, fun H1 s1 => ?_⟩
  obtain ⟨o, ho⟩ : ∃ o, firstSB ts il y n = o := ⟨_, rfl⟩
  rw [ho]
  obtain ⟨xs, ys, ⟨tb, tc, hw, hb, hc⟩, dn⟩ := W.ex
  rcases o with _ | t
  · refine ⟨rfl, _, rfl, ?_⟩
    refine iteNS rfl ?_
    refine ⟨_, rfl, wd, _, _, _, rfl, rfl, sqT (s1 _ _ hw), at0, _, rfl, _, rfl, m, y, n, rfl, by omega, fun l H2 s2 nl hl => ?_⟩
    refine ⟨_, rfl, l, _, rfl, .inl (SqL.of hl), rfl, _, rfl, ?_⟩
    rw [dec_cnt0, List.length_map]
    by_cases hn : openL m y n = []
    · refine iteD (by rw [hn]; rfl) ?_
      have q1 := q H2 (s1.trans s2)
      have e : keepF ts il m f y n = some y := by
        exact keepF_full ho hn
      rw [e] at q1
      exact ⟨_, rfl, q1⟩
    · refine iteDN (fun z => hn (List.eq_nil_of_length_eq_zero z)) ?_
      obtain ⟨k, hk⟩ : ∃ k, (openL m y n).getLast? = some k := by
        cases e : (openL m y n).getLast? with
        | none => exact absurd (List.getLast?_eq_none_iff.mp e) hn
        | some k => exact ⟨k, rfl⟩
      have hat : atI (natsL (openL m y n)) (-1) = some (.int (k : Int)) := by
        obtain ⟨l', e⟩ := List.getLast?_eq_some_iff.mp hk
        rw [e]
        exact at_last l' k
      refine ⟨_, rfl, _, rfl, l, _, _, _, rfl, rfl, SqL.of hl, hat, ?_⟩
      exact r4 k _ H2 (s1.trans s2) hk ho
  · refine ⟨rfl, _, rfl, ?_⟩
    refine iteNN (by intro z; cases z) ?_
    have q1 := q H1 s1
    have e : keepF ts il m f y n = none := by
      exact keepF_broken ho
    rw [e] at q1
    exact q1
theorem ok_first_keeping (T : Txt K mg a d) : ∀ f : Nat, FnOk P w K mg base CX0 (f + 7) a.f_first_keeping d.f_first_keeping ["wood", "ties", "yes", "no"] (spKeepF f)
  | 0 => keeping_step T 0 fun h => absurd rfl h
  | f + 1 => keeping_step T (f + 1) fun _ => ok_first_keeping T f

end
section
variable {P : Program} {w : World} {K : PySem.W.Frag} {mg : Str → Option Value} {base : Heap} {a : Adr} {d : Fds}
theorem ok_first_ware (T : Txt K mg a d) : FnOk P w K mg base CX0 17 a.f_first_ware d.f_first_ware ["wood", "yes", "no"] spFirstW := by
  have G_has := ok_has (P := P) (w := w) (base := base) T
  have G_with_option := ok_with_option (P := P) (w := w) (base := base) T
  have G_every_tie := ok_every_tie (P := P) (w := w) (base := base) T
  have G_first_keeping := ok_first_keeping (P := P) (w := w) (base := base) T 9
  refine T.K_first_ware.ok sc_first_ware (fun vs H Q E h => ?_) (fun cdv A outer s H vs Q E hr h => ?_)
  · obtain ⟨wd, m, ts, y, n, rfl, _⟩ := h
    rfl
  obtain ⟨wd, m, ts, y, n, rfl, W, m9, m1, S, q⟩ := h
  refine ⟨_, (pss_cons (ps_if (pt_val (pe_call G_has (hr.mono (by first | decide | omega)) rfl T.g_has T.K_has.kp T.B_has .nil pass0 (pa_cons (pv 2) (pa_cons pe_int pa_nil)))) (pss_one (ps_ret pe_non)) pss_nil)
      (pss_one (ps_ret (pe_call G_first_keeping (hr.mono (by first | decide | omega)) rfl T.g_first_keeping T.K_first_keeping.kp T.B_first_keeping .nil pass0 (pa_cons (pv 0) (pa_cons (pe_call G_every_tie (hr.mono (by first | decide | omega)) rfl T.g_every_tie T.K_every_tie.kp T.B_every_tie .nil pass0 (pa_cons (pv 0) pa_nil)) (pa_cons (pe_call G_with_option (hr.mono (by first | decide | omega)) rfl T.g_with_option T.K_with_option.kp T.B_with_option .nil pass0 (pa_cons (pv 1) (pa_cons pe_int pa_nil))) (pa_cons (pv 2) pa_nil)))))))), ?_⟩
  refine ⟨_, rfl, _, _, rfl, _, rfl, ?_⟩
  have e0 : hasV (n : Int) 0 = n.testBit 0 := hasV_nat n 0
  rw [e0]
  refine ite2 (fun c => ?_) (fun c => ?_)
  · refine q H none (Same.refl H) fun s' sm hs => ?_
    unfold wareB
    rw [hs.2 0 c, Bool.false_and]
  · have c' := Bool.eq_false_iff.mpr c
    have of := open_few m (y ||| 2 ^ 0) n
    have S' : Stand m (y ||| 2 ^ 0) n := ⟨dj_one S.dj c', put_lt S.ym (by omega), S.nm⟩
    refine ⟨_, rfl, _, rfl, wd, m, ts, rfl, W, fun l H1 s1 nl hl => ?_⟩
    refine ⟨_, rfl, y, 0, rfl, by omega, _, rfl, wd, m, ts, l, allT ts, y ||| 2 ^ 0, n, rfl, W.same s1, hl, fun i hi => List.mem_range.mp hi, by omega, fun H2 s2 => ?_⟩
    have F := keepF_first (il := allT ts) W.ok 9 (y ||| 2 ^ 0) n (by omega) S'
    have iff : ∀ s', InS (y ||| 2 ^ 0) n s' ∧ allKeep ts (allT ts) s' = true ↔ InS y n s' ∧ wareB ts s' = true := fun s' => by
      unfold wareB
      rw [allKeep_all, Bool.and_eq_true]
      constructor
      · rintro ⟨a1, a2⟩
        exact ⟨⟨fun j hj => a1.1 j (by rw [bit_put, hj, Bool.true_or]), a1.2⟩, a1.1 0 (by rw [bit_put, decide_eq_true rfl, Bool.or_true]), a2⟩
      · rintro ⟨a1, a2, a3⟩
        refine ⟨⟨fun j hj => ?_, a1.2⟩, a3⟩
        rw [bit_put, Bool.or_eq_true, decide_eq_true_eq] at hj
        rcases hj with z | rfl
        · exact a1.1 j z
        · exact a2
    generalize keepF ts (allT ts) m 9 (y ||| 2 ^ 0) n = o at F ⊢
    refine q H2 o (s1.trans s2) ?_
    cases o with
    | none =>
      intro s' sm hs
      cases e : wareB ts s' with
      | false => rfl
      | true =>
        have := (iff s').mpr ⟨hs, e⟩
        rw [F s' sm this.1] at this
        cases this.2
    | some g =>
      obtain ⟨b1, b2, b3, b4⟩ := F
      obtain ⟨c1, c2⟩ := (iff g).mp ⟨b2, b3⟩
      refine ⟨b1, c1, c2, fun s' sm hs hw => ?_⟩
      have := (iff s').mpr ⟨hs, hw⟩
      exact b4 s' sm this.1 this.2

end
section
variable {P : Program} {w : World} {K : PySem.W.Frag} {mg : Str → Option Value} {base : Heap} {a : Adr} {d : Fds}
theorem ok_bars (T : Txt K mg a d) : FnOk P w K mg base CX0 17 a.f_bars d.f_bars ["wood", "ties", "yes", "no"] spBars := by
  have G_first_keeping := ok_first_keeping (P := P) (w := w) (base := base) T 9
  refine T.K_bars.ok sc_bars (fun vs H Q E h => ?_) (fun cdv A outer s H vs Q E hr h => ?_)
  · obtain ⟨wd, m, ts, tl, il, y, n, rfl, _⟩ := h
    rfl
  obtain ⟨wd, m, ts, tl, il, y, n, rfl, W, m9, htl, ilt, q⟩ := h
  have of := open_few m y n
  refine ⟨_, (pss_one (ps_ret (pe_cmpR op_isN (pe_call G_first_keeping (hr.mono (by first | decide | omega)) rfl T.g_first_keeping T.K_first_keeping.kp T.B_first_keeping .nil pass0 (pa_cons (pv 0) (pa_cons (pv 1) (pa_cons (pv 2) (pa_cons (pv 3) pa_nil))))) pe_non (nomark _)))), ?_⟩
  refine ⟨_, rfl, _, rfl, _, rfl, _, rfl, wd, m, ts, tl, il, y, n, rfl, W, htl, ilt, by omega, fun H1 s1 => ?_⟩
  have q1 := q H1 s1
  unfold barB at q1
  rw [← optN_non] at q1
  exact ⟨rfl, q1⟩

end
section
variable {P : Program} {w : World} {K : PySem.W.Frag} {mg : Str → Option Value} {base : Heap} {a : Adr} {d : Fds}
theorem ok_left_without (T : Txt K mg a d) : FnOk P w K mg base CX0 1 a.f_left_without d.f_left_without ["things", "one"] spWithoutT := by
  refine T.K_left_without.ok sc_left_without (fun vs H Q E h => ?_) (fun cdv A outer s H vs Q E hr h => ?_)
  · obtain ⟨l, il, t, rfl, _⟩ := h
    rfl
  obtain ⟨l, il, t, rfl, hl, few, q⟩ := h
  refine ⟨_, (pss_one (ps_ret (pe_lc (sc0 := defScope s_left_without) (XN := ["things", "one"]) (N' := ["other", "one"]) (n := 1) (kp := [1]) rfl (piL (K := K) (pv 0)) rfl rfl (by decide +kernel) (fun _ _ _ _ _ => (pg_name (i := 0) (by show List.Nodup (["other", "one"] : List Str); decide +kernel) rfl (Or.inl rfl))) (fun _ _ _ _ _ => (pts_one (pt_cmpR op_ne (pv 0) (pv 1) (nomark _)))) (fun _ _ _ _ _ => (pv 0))))), ?_⟩
  refine ⟨_, rfl, l, rfl, ⟨_, SqL.of hl⟩, ?_⟩
  refine lc_list (K := K) (a := l) (xs := natsL il) (fun j ys σ H2 => (∃ v, σ = [v, some (.int (t : Int))]) ∧ H2 = H ∧ ys = natsL ((il.take j).filter fun i => !decide (i = t))) ⟨⟨none, rfl⟩, rfl, rfl⟩ (fun j ys σ H2 hj pv => ?_) (fun j ys σ H2 hj pv => ?_) (fun j x ys σ H2 hx pv => ?_) (fun ys σ H2 pv p hp => ?_)
  · obtain ⟨_, _, rfl⟩ := pv
    rw [List.length_map]
    refine small (Nat.le_trans (List.length_filter_le _ _) ?_)
    rw [List.length_take]
    omega
  · rw [pv.2.1]
    exact SqL.of hl
  · obtain ⟨⟨v0, rfl⟩, rfl, rfl⟩ := pv
    rw [List.getElem?_map] at hx
    obtain ⟨i, hi, rfl⟩ := Option.map_eq_some_iff.mp hx
    have et : il.take (j + 1) = il.take j ++ [i] := by rw [List.take_add_one, hi, Option.toList_some]
    refine ⟨_, rfl, _, rfl, rfl, _, rfl, ?_⟩
    by_cases c : i = t
    · refine iteNS (by rw [c]) ?_
      refine ⟨⟨_, rfl⟩, rfl, ?_⟩
      rw [et, List.filter_append]
      simp [c]
    · refine iteNN (fun z => c (by injection z with z; omega)) ?_
      refine ⟨_, rfl, ⟨_, rfl⟩, rfl, ?_⟩
      rw [et, List.filter_append]
      simp [c]
  obtain ⟨_, rfl, rfl⟩ := pv
  rw [List.length_map, List.take_length]
  exact q p _ (same_new hp _) hp upd_same

end
section
variable {P : Program} {w : World} {K : PySem.W.Frag} {mg : Str → Option Value} {base : Heap} {a : Adr} {d : Fds}
def spLeastT : Sp := fun vs H Q _ => ∃ (wd : Addr) (m : Nat) (ts : List Tie) (y n : Nat), vs = [.ref wd, .int y, .int n] ∧ WoodT H wd m ts ∧ m ≤ 9 ∧ ∀ (lf : Addr) (H' : Hp), Same H H' → H lf = none → H' lf = some (.lst (natsL (leastL ts m y n))) → Q (.ref lf) H'
theorem ok_least_ties (T : Txt K mg a d) : FnOk P w K mg base CX0 18 a.f_least_ties d.f_least_ties ["wood", "yes", "no"] spLeastT := by
  have G_every_tie := ok_every_tie (P := P) (w := w) (base := base) T
  have G_bars := ok_bars (P := P) (w := w) (base := base) T
  have G_left_without := ok_left_without (P := P) (w := w) (base := base) T
  refine T.K_least_ties.ok sc_least_ties (fun vs H Q E h => ?_) (fun cdv A outer s H vs Q E hr h => ?_)
  · obtain ⟨wd, m, ts, y, n, rfl, _⟩ := h
    rfl
  obtain ⟨wd, m, ts, y, n, rfl, W, m9, q⟩ := h
  have few := W.few
  have of := open_few m y n
  have allt : ∀ i ∈ allT ts, i < ts.length := fun i hi => List.mem_range.mp hi
  have lall : (allT ts).length = ts.length := List.length_range
  refine ⟨_, (pss_cons (ps_set (i := 3) sc_least_ties.nd rfl (Or.inl rfl) (pe_call G_every_tie (hr.mono (by first | decide | omega)) rfl T.g_every_tie T.K_every_tie.kp T.B_every_tie .nil pass0 (pa_cons (pv 0) pa_nil)))
      (pss_cons (ps_for PassesOwn.never rfl (piL (K := K) (pe_call G_every_tie (hr.mono (by first | decide | omega)) rfl T.g_every_tie T.K_every_tie.kp T.B_every_tie .nil pass0 (pa_cons (pv 0) pa_nil))) (pg_name (i := 4) sc_least_ties.nd rfl (Or.inl rfl)) (pss_cons (ps_set (i := 5) sc_least_ties.nd rfl (Or.inl rfl) (pe_call G_left_without (hr.mono (by first | decide | omega)) rfl T.g_left_without T.K_left_without.kp T.B_left_without .nil pass0 (pa_cons (pv 3) (pa_cons (pv 4) pa_nil))))
      (pss_one (ps_if (pt_val (pe_call G_bars (hr.mono (by first | decide | omega)) rfl T.g_bars T.K_bars.kp T.B_bars .nil pass0 (pa_cons (pv 0) (pa_cons (pv 5) (pa_cons (pv 1) (pa_cons (pv 2) pa_nil)))))) (pss_one (ps_set (i := 3) sc_least_ties.nd rfl (Or.inl rfl) (pv 5))) pss_nil))))
      (pss_one (ps_ret (pv 3))))), ?_⟩
  refine ⟨_, rfl, wd, m, ts, rfl, W, fun l0 H1 s1 nl0 hl0 => ?_⟩
  refine ⟨_, rfl, wd, m, ts, rfl, W.same s1, fun l1 H3 s3 nl1 hl1 => ?_⟩
  refine ⟨l1, rfl, ⟨_, SqL.of hl1⟩, ?_⟩
  have s13 := s1.trans s3
  refine for_list (K := K) (a := l1) (xs := natsL (allT ts)) (fun i σ H4 => ∃ (lf : Addr) (v4 v5 : Option V), σ = [some (.ref wd), some (.int y), some (.int n), some (.ref lf), v4, v5] ∧ Same H3 H4 ∧ H4 lf = some (.lst (natsL (((allT ts).take i).foldl (leastStep ts m y n) (allT ts)))) ∧ H lf = none) ⟨l0, _, _, rfl, Same.refl _, s3 _ _ hl0, nl0⟩ (fun i σ H4 _ z => by obtain ⟨_, _, _, _, s4, _⟩ := z; exact SqL.of (s4 _ _ hl1)) ?_ ?_
  · rintro i x σ H4 hx ⟨lf, v4, v5, rfl, s4, hlf, nlf⟩
    rw [List.getElem?_map] at hx
    obtain ⟨t, ht, rfl⟩ := Option.map_eq_some_iff.mp hx
    generalize hleft : ((allT ts).take i).foldl (leastStep ts m y n) (allT ts) = left at hlf
    have sub : left.Sublist (allT ts) := by rw [← hleft]; exact least_sub _ _
    have lle := sub.length_le
    have e1 : ((allT ts).take (i + 1)).foldl (leastStep ts m y n) (allT ts) = leastStep ts m y n left t := by
      rw [List.take_add_one, ht, Option.toList_some, List.foldl_append, hleft]
      rfl
    refine ⟨_, rfl, _, rfl, lf, left, t, rfl, hlf, by omega, fun p H5 s5 np hp => ?_⟩
    refine ⟨_, rfl, _, rfl, _, rfl, _, rfl, wd, m, ts, p, without left t, y, n, rfl, W.same ((s13.trans s4).trans s5), m9, hp, fun i hi => allt i (sub.subset (List.mem_filter.mp hi).1), fun H6 s6 => ?_⟩
    refine ⟨_, rfl, ?_⟩
    refine ite2 (fun c2 => ?_) (fun c2 => ?_)
    · refine ⟨_, rfl, p, _, _, rfl, (s4.trans s5).trans s6, ?_, (s13.trans s4).free np⟩
      rw [e1]
      unfold leastStep
      rw [if_pos c2]
      exact s6 _ _ hp
    · refine ⟨lf, _, _, rfl, (s4.trans s5).trans s6, ?_, nlf⟩
      rw [e1]
      unfold leastStep
      rw [if_neg c2]
      exact (s5.trans s6) _ _ hlf
  · rintro σ H4 ⟨lf, v4, v5, rfl, s4, hlf, nlf⟩
    rw [List.length_map, List.take_length] at hlf
    have sub : (leastL ts m y n).Sublist (allT ts) := least_sub _ _
    have hlf : H4 lf = some (.lst (natsL (leastL ts m y n))) := hlf
    exact ⟨_, rfl, q lf H4 (s13.trans s4) nlf hlf⟩

end
section
variable {P : Program} {w : World} {K : PySem.W.Frag} {mg : Str → Option Value} {base : Heap} {a : Adr} {d : Fds}
def spTieOthers : Sp := fun vs H Q _ => ∃ (wd lf : Addr) (m : Nat) (ts : List Tie) (left : List Nat) (y n : Nat), vs = [.ref wd, .ref lf, .int y, .int n] ∧ WoodT H wd m ts ∧ m ≤ 9 ∧ H lf = some (.lst (natsL left)) ∧ (∀ i ∈ left, i < ts.length) ∧ left.length ≤ 900 ∧ ∀ (ol : Addr) (H' : Hp), Same H H' → H ol = none → Others H' ol ts m y n left → Q (.ref ol) H'
theorem ok_tie_others (T : Txt K mg a d) : FnOk P w K mg base CX0 18 a.f_tie_others d.f_tie_others ["wood", "ties", "yes", "no"] spTieOthers := by
  have G_left_without := ok_left_without (P := P) (w := w) (base := base) T
  have G_first_keeping := ok_first_keeping (P := P) (w := w) (base := base) T 9
  refine T.K_tie_others.ok sc_tie_others (fun vs H Q E h => ?_) (fun cdv A outer s H vs Q E hr h => ?_)
  · obtain ⟨wd, lf, m, ts, left, y, n, rfl, _⟩ := h
    rfl
  obtain ⟨wd, lf, m, ts, left, y, n, rfl, W, m9, hlf, allt, lle, q⟩ := h
  have of := open_few m y n
  refine ⟨_, (pss_one (ps_ret (pe_lc (sc0 := defScope s_tie_others) (XN := ["wood", "ties", "yes", "no"]) (N' := ["t", "wood", "yes", "no", "ties"]) (n := 1) (kp := [0, 2, 3, 1]) rfl (piL (K := K) (pv 1)) rfl rfl (by decide +kernel) (fun _ _ _ _ _ => (pg_name (i := 0) (by show List.Nodup (["t", "wood", "yes", "no", "ties"] : List Str); decide +kernel) rfl (Or.inl rfl))) (fun _ _ _ _ _ => pts_nil) (fun _ _ _ _ _ => (pe_tup (pa_cons (pv 0) (pa_cons (pe_call G_first_keeping (hr.mono (by first | decide | omega)) rfl T.g_first_keeping T.K_first_keeping.kp T.B_first_keeping .nil pass0 (pa_cons (pv 1) (pa_cons (pe_call G_left_without (hr.mono (by first | decide | omega)) rfl T.g_left_without T.K_left_without.kp T.B_left_without .nil pass0 (pa_cons (pv 4) (pa_cons (pv 0) pa_nil))) (pa_cons (pv 2) (pa_cons (pv 3) pa_nil))))) pa_nil))))))), ?_⟩
  refine ⟨_, rfl, lf, rfl, ⟨_, SqL.of hlf⟩, ?_⟩
  refine lc_list (K := K) (a := lf) (xs := natsL left) (fun j ys σ H5 => (∃ v, σ = [v, some (.ref wd), some (.int y), some (.int n), some (.ref lf)]) ∧ Same H H5 ∧ ys.length = j ∧ ∀ (i t : Nat), i < j → left[i]? = some t → ∃ q, ys[i]? = some (.ref q) ∧ H5 q = some (.tup [.int (t : Int), optN (keepF ts (without left t) m 9 y n)])) ⟨⟨none, rfl⟩, Same.refl _, rfl, fun i t hi => absurd hi (Nat.not_lt_zero i)⟩ (fun j ys σ H5 hj pv => ?_) (fun j ys σ H5 hj pv => ?_) (fun j x ys σ H5 hx pv => ?_) (fun ys σ H5 pv ol hol => ?_)
  · obtain ⟨_, _, h1, _⟩ := pv
    rw [List.length_map] at hj
    exact small (by omega)
  · exact SqL.of (pv.2.1 _ _ hlf)
  · obtain ⟨⟨v, rfl⟩, s5, h1, each⟩ := pv
    rw [List.getElem?_map] at hx
    obtain ⟨t, ht, rfl⟩ := Option.map_eq_some_iff.mp hx
    refine ⟨_, rfl, _, rfl, _, rfl, _, rfl, lf, left, t, rfl, s5 _ _ hlf, by omega, fun p H6 s6 np hp => ?_⟩
    refine ⟨_, rfl, _, rfl, wd, m, ts, p, without left t, y, n, rfl, W.same (s5.trans s6), hp, fun i hi => allt i (List.mem_filter.mp hi).1, by omega, fun H7 s7 => ?_⟩
    refine ⟨small (by show 2 ≤ 1000; decide), fun tp htp => ?_⟩
    have s8 := same_new htp (.tup [.int (t : Int), optN (keepF ts (without left t) m 9 y n)])
    have s58 := (s6.trans s7).trans s8
    refine ⟨⟨_, rfl⟩, s5.trans s58, by rw [List.length_append, List.length_singleton, h1], fun i t' hi ht' => ?_⟩
    by_cases e : i = j
    · subst e
      rw [ht] at ht'
      cases ht'
      refine ⟨tp, ?_, upd_same⟩
      rw [List.getElem?_append_right (by omega), h1, Nat.sub_self]
      rfl
    · obtain ⟨p', a1, a2⟩ := each i t' (by omega) ht'
      refine ⟨p', ?_, s58 _ _ a2⟩
      rw [List.getElem?_append_left (by omega)]
      exact a1
  · obtain ⟨_, s5, h1, each⟩ := pv
    rw [List.length_map] at h1 each
    have s6 := same_new hol (.lst ys)
    refine q ol _ (s5.trans s6) (s5.free hol) ⟨ys, upd_same, h1, fun j t ht => ?_⟩
    obtain ⟨p', a1, a2⟩ := each j t (List.getElem?_eq_some_iff.mp ht).1 ht
    exact ⟨p', a1, s6 _ _ a2⟩

end
section
variable {P : Program} {w : World} {K : PySem.W.Frag} {mg : Str → Option Value} {base : Heap} {a : Adr} {d : Fds}
def FreshL (H H' : Hp) (fv : V) : Prop := ∀ (p lf ol : Addr) (v : V), fv = .ref p → H' p = some (.tup [.ref lf, v, .ref ol]) → H lf = none ∧ H ol = none
def spLeastN : Sp := fun vs H Q _ => ∃ (wd : Addr) (m : Nat) (ts : List Tie) (y n : Nat), vs = [.ref wd, .int y, .int n] ∧ WoodT H wd m ts ∧ m ≤ 9 ∧ ∀ (fv : V) (H' : Hp), Same H H' → FoundL H' fv ts m y n → FreshL H H' fv → Q fv H'
theorem ok_least_barN (T : Txt K mg a d) (LB : LamB mg base a.c_cases_of a.t_cases_of) : FnOk P w K mg base CX0 19 a.f_least_bar d.f_least_bar ["wood", "yes", "no"] (spT a.t_cases_of spLeastN) := by
  have G_every_tie := ok_every_tie (P := P) (w := w) (base := base) T
  have G_bars := ok_bars (P := P) (w := w) (base := base) T
  have G_least_ties := ok_least_ties (P := P) (w := w) (base := base) T
  have G_tie_others := ok_tie_others (P := P) (w := w) (base := base) T
  have G_cases_of := ok_cases_of (P := P) (w := w) (base := base) T LB 9
  refine T.K_least_bar.ok sc_least_bar (fun vs H Q E h => ?_) (fun cdv A outer s H vs Q E hr h => ?_)
  · obtain ⟨_, wd, m, ts, y, n, rfl, _⟩ := h
    rfl
  obtain ⟨tb, wd, m, ts, y, n, rfl, W, m9, q⟩ := h
  have few := W.few
  have of := open_few m y n
  have allt : ∀ i ∈ allT ts, i < ts.length := fun i hi => List.mem_range.mp hi
  have lall : (allT ts).length = ts.length := List.length_range
  refine ⟨_, (pss_cons (ps_if (pt_not (pt_val (pe_call G_bars (hr.mono (by first | decide | omega)) rfl T.g_bars T.K_bars.kp T.B_bars .nil pass0 (pa_cons (pv 0) (pa_cons (pe_call G_every_tie (hr.mono (by first | decide | omega)) rfl T.g_every_tie T.K_every_tie.kp T.B_every_tie .nil pass0 (pa_cons (pv 0) pa_nil)) (pa_cons (pv 1) (pa_cons (pv 2) pa_nil))))))) (pss_one (ps_ret pe_non)) pss_nil)
      (pss_cons (ps_set (i := 3) sc_least_bar.nd rfl (Or.inl rfl) (pe_call G_least_ties (hr.mono (by first | decide | omega)) rfl T.g_least_ties T.K_least_ties.kp T.B_least_ties .nil pass0 (pa_cons (pv 0) (pa_cons (pv 1) (pa_cons (pv 2) pa_nil)))))
      (pss_one (ps_ret (pe_tup (pa_cons (pv 3) (pa_cons (pe_call G_cases_of (hr.mono (by first | decide | omega)) rfl T.g_cases_of T.K_cases_of.kp T.B_cases_of .nil pass0 (pa_cons (pv 0) (pa_cons (pv 3) (pa_cons (pv 1) (pa_cons (pv 2) pa_nil))))) (pa_cons (pe_call G_tie_others (hr.mono (by first | decide | omega)) rfl T.g_tie_others T.K_tie_others.kp T.B_tie_others .nil pass0 (pa_cons (pv 0) (pa_cons (pv 3) (pa_cons (pv 1) (pa_cons (pv 2) pa_nil))))) pa_nil)))))))), ?_⟩
  refine ⟨_, rfl, _, rfl, wd, m, ts, rfl, W, fun l0 H1 s1 nl0 hl0 => ?_⟩
  refine ⟨_, rfl, _, rfl, wd, m, ts, l0, allT ts, y, n, rfl, W.same s1, m9, hl0, allt, fun H2 s2 => ?_⟩
  refine ⟨_, rfl, ?_⟩
  refine ite2 (fun c => ?_) (fun c => ?_)
  · exact q .non H2 (s1.trans s2) (.inl ⟨by simpa using c, rfl⟩) (fun _ _ _ _ z => nomatch z)
  have hbar : barB ts (allT ts) m y n = true := by simpa using c
  have s12 := s1.trans s2
  refine ⟨_, rfl, _, rfl, _, rfl, wd, m, ts, y, n, rfl, W.same s12, m9, fun lf H3 s3 nlf hlf => ?_⟩
  have s13 := s12.trans s3
  have sub : (leastL ts m y n).Sublist (allT ts) := least_sub _ _
  have lle := sub.length_le
  refine ⟨_, rfl, _, rfl, _, rfl, _, rfl, _, rfl, s13.tab tb, wd, m, ts, lf, leastL ts m y n, y, n, rfl, W.same s13, hlf, fun i hi => allt i (sub.subset hi), by omega, fun v H4 s4 d1 => ?_⟩
  have s14 := s13.trans s4
  refine ⟨_, rfl, _, rfl, _, rfl, _, rfl, wd, lf, m, ts, leastL ts m y n, y, n, rfl, W.same s14, m9, s4 _ _ hlf, fun i hi => allt i (sub.subset hi), by omega, fun ol H5 s5 nol ot => ?_⟩
  refine ⟨small (by show 3 ≤ 1000; decide), fun tp htp => ?_⟩
  have s6 := same_new htp (.tup [.ref lf, v, .ref ol])
  refine q (.ref tp) _ ((s14.trans s5).trans s6) (.inr ⟨hbar, tp, lf, ol, v, rfl, upd_same, ((s4.trans s5).trans s6) _ _ hlf, Dn.same (s5.trans s6) _ _ d1, ?_⟩) ?_
  · obtain ⟨xs, h1, h2, h3⟩ := ot.ex
    refine ⟨xs, s6 _ _ h1, h2, fun j t ht => ?_⟩
    obtain ⟨p', a1, a2⟩ := h3 j t ht
    exact ⟨p', a1, s6 _ _ a2⟩
  · intro p' lf' ol' v' e1 e2
    cases e1
    rw [upd_same] at e2
    cases e2
    exact ⟨s12.free nlf, s14.free nol⟩
end
section
variable {P : Program} {w : World} {K : PySem.W.Frag} {mg : Str → Option Value} {base : Heap} {a : Adr} {d : Fds}
theorem found_f {H H' : Hp} {fv : V} {ts : List Tie} {m y n : Nat} (h : FoundL H' fv ts m y n) (fr : FreshL H H' fv) : FoundF H H' fv ts m y n := by
  rcases h with z | ⟨b, p, lf, ol, v, a1, a2, a3, a4, a5⟩
  · exact .inl z
  · obtain ⟨f1, f2⟩ := fr p lf ol v a1 a2
    exact .inr ⟨b, p, lf, ol, v, a1, a2, a3, a4, a5, f1, f2⟩
def spStanding : Sp := fun vs H Q _ => ∃ (wd : Addr) (m : Nat) (ts : List Tie) (k : Nat), vs = [.ref wd, .int k] ∧ WoodT H wd m ts ∧ 1 ≤ m ∧ m ≤ 9 ∧ k < m ∧ ∀ (v : V) (H' : Hp), Same H H' → StandV H H' v ts m k → Q v H'
theorem ok_standing (T : Txt K mg a d) (LB : LamB mg base a.c_cases_of a.t_cases_of) : FnOk P w K mg base CX0 20 a.f_standing d.f_standing ["wood", "k"] (spT a.t_cases_of spStanding) := by
  have G_with_option := ok_with_option (P := P) (w := w) (base := base) T
  have G_first_ware := ok_first_ware (P := P) (w := w) (base := base) T
  have G_least_bar := ok_least_barN (P := P) (w := w) (base := base) T LB
  refine T.K_standing.ok sc_standing (fun vs H Q E h => ?_) (fun cdv A outer s H vs Q E hr h => ?_)
  · obtain ⟨_, wd, m, ts, k, rfl, _⟩ := h
    rfl
  obtain ⟨tb, wd, m, ts, k, rfl, W, m1, m9, km, q⟩ := h
  have S0 := stand_root m1
  have o0 := open_few m 1 0
  have k1 : (1 ||| 2 ^ k).testBit 0 = true := by rw [Nat.testBit_or]; rfl
  refine ⟨_, (pss_cons (ps_set (i := 2) sc_standing.nd rfl (Or.inl rfl) (pe_call G_with_option (hr.mono (by first | decide | omega)) rfl T.g_with_option T.K_with_option.kp T.B_with_option .nil pass0 (pa_cons pe_int (pa_cons pe_int pa_nil))))
      (pss_cons (ps_set (i := 3) sc_standing.nd rfl (Or.inl rfl) (pe_call G_with_option (hr.mono (by first | decide | omega)) rfl T.g_with_option T.K_with_option.kp T.B_with_option .nil pass0 (pa_cons pe_int (pa_cons (pv 1) pa_nil))))
      (pss_cons (ps_if (pt_cmpR op_isN (pe_call G_first_ware (hr.mono (by first | decide | omega)) rfl T.g_first_ware T.K_first_ware.kp T.B_first_ware .nil pass0 (pa_cons (pv 0) (pa_cons (pv 2) (pa_cons pe_int pa_nil)))) pe_non (nomark _)) (pss_one (ps_ret (pe_tup (pa_cons pe_str (pa_cons (pe_call G_least_bar (hr.mono (by first | decide | omega)) rfl T.g_least_bar T.K_least_bar.kp T.B_least_bar .nil pass0 (pa_cons (pv 0) (pa_cons (pv 2) (pa_cons pe_int pa_nil)))) pa_nil))))) pss_nil)
      (pss_cons (ps_if (pt_cmpR op_eq (pv 1) pe_int (nomark _)) (pss_one (ps_ret (pe_tup (pa_cons pe_str (pa_cons pe_non pa_nil))))) pss_nil)
      (pss_cons (ps_set (i := 4) sc_standing.nd rfl (Or.inl rfl) (pe_call G_first_ware (hr.mono (by first | decide | omega)) rfl T.g_first_ware T.K_first_ware.kp T.B_first_ware .nil pass0 (pa_cons (pv 0) (pa_cons (pe_op op_or (pv 2) (pv 3)) (pa_cons pe_int pa_nil)))))
      (pss_cons (ps_if (pt_cmpR op_isN (pv 4) pe_non (nomark _)) (pss_one (ps_ret (pe_tup (pa_cons pe_str (pa_cons (pe_call G_least_bar (hr.mono (by first | decide | omega)) rfl T.g_least_bar T.K_least_bar.kp T.B_least_bar .nil pass0 (pa_cons (pv 0) (pa_cons (pe_op op_or (pv 2) (pv 3)) (pa_cons pe_int pa_nil)))) pa_nil))))) pss_nil)
      (pss_cons (ps_set (i := 5) sc_standing.nd rfl (Or.inl rfl) (pe_call G_first_ware (hr.mono (by first | decide | omega)) rfl T.g_first_ware T.K_first_ware.kp T.B_first_ware .nil pass0 (pa_cons (pv 0) (pa_cons (pv 2) (pa_cons (pv 3) pa_nil)))))
      (pss_cons (ps_if (pt_cmpR op_isN (pv 5) pe_non (nomark _)) (pss_one (ps_ret (pe_tup (pa_cons pe_str (pa_cons (pe_call G_least_bar (hr.mono (by first | decide | omega)) rfl T.g_least_bar T.K_least_bar.kp T.B_least_bar .nil pass0 (pa_cons (pv 0) (pa_cons (pv 2) (pa_cons (pv 3) pa_nil)))) pa_nil))))) pss_nil)
      (pss_one (ps_ret (pe_tup (pa_cons pe_str (pa_cons (pv 4) (pa_cons (pv 5) pa_nil)))))))))))))), ?_⟩
  refine ⟨0, 0, rfl, by decide, ?_⟩
  refine ⟨_, rfl, 0, k, rfl, by omega, ?_⟩
  rw [Nat.zero_or (2 ^ k), show (0 ||| 2 ^ 0 : Nat) = 1 from rfl]
  refine ⟨_, rfl, _, rfl, wd, m, ts, 1, 0, rfl, W, m9, m1, S0, fun H1 o s1 fw => ?_⟩
  have eo : o = keepF ts (allT ts) m 9 1 0 := FirstK.unique (ware_keep rfl (by cases o <;> exact fw)) (keepF_first W.ok 9 1 0 (by omega) S0)
  cases o with
  | none =>
    have b1 := bar_none eo.symm
    refine ⟨rfl, _, rfl, ?_⟩
    refine iteD rfl ?_
    refine ⟨_, rfl, _, rfl, s1.tab tb, wd, m, ts, 1, 0, rfl, W.same s1, m9, fun fv H2 s2 fl fr => ?_⟩
    refine ⟨small (by show 2 ≤ 1000; decide), fun tp htp => ?_⟩
    have s3 := same_new htp (.tup [.str ("void" : Str), fv])
    exact q (.ref tp) _ ((s1.trans s2).trans s3) ⟨tp, rfl, .inl ⟨b1, fv, upd_same, ((found_f fl fr).old s1).same s3⟩⟩
  | some g0 =>
    have b1 := bar_some eo.symm
    refine ⟨rfl, _, rfl, ?_⟩
    refine iteDN (by intro z; cases z) ?_
    refine ⟨_, rfl, rfl, _, rfl, ?_⟩
    by_cases k0 : k = 0
    · refine iteD (by rw [k0]; rfl) ?_
      refine ⟨small (by show 2 ≤ 1000; decide), fun tp htp => ?_⟩
      have s3 := same_new htp (.tup [.str ("always" : Str), .non])
      exact q (.ref tp) _ (s1.trans s3) ⟨tp, rfl, .inr (.inl ⟨b1, k0, upd_same⟩)⟩
    refine iteDN (fun z => k0 (by injection z with z; omega)) ?_
    have Sw := stand_with m1 km
    have Sn := stand_without m1 km k0
    have ow := open_few m (1 ||| 2 ^ k) 0
    have on := open_few m 1 (2 ^ k)
    refine ⟨_, rfl, _, rfl, _, rfl, _, _, rfl, rfl, wd, m, ts, 1 ||| 2 ^ k, 0, by dsimp only; rw [show ((1 : Nat) : Int) = ((1 : Nat) : Int) from rfl, lor_nat]; rfl, W.same s1, m9, m1, Sw, fun H2 o2 s2 fw2 => ?_⟩
    have eo2 : o2 = keepF ts (allT ts) m 9 (1 ||| 2 ^ k) 0 := FirstK.unique (ware_keep k1 (by cases o2 <;> exact fw2)) (keepF_first W.ok 9 _ 0 (by omega) Sw)
    have s12 := s1.trans s2
    cases o2 with
    | none =>
      have b2 := bar_none eo2.symm
      refine ⟨_, rfl, rfl, _, rfl, ?_⟩
      refine iteD rfl ?_
      refine ⟨_, rfl, _, rfl, _, rfl, _, _, rfl, rfl, s12.tab tb, wd, m, ts, 1 ||| 2 ^ k, 0, by dsimp only; rw [lor_nat]; rfl, W.same s12, m9, fun fv H3 s3 fl fr => ?_⟩
      refine ⟨small (by show 2 ≤ 1000; decide), fun tp htp => ?_⟩
      have s4 := same_new htp (.tup [.str ("never" : Str), fv])
      exact q (.ref tp) _ ((s12.trans s3).trans s4) ⟨tp, rfl, .inr (.inr (.inl ⟨b1, k0, b2, fv, upd_same, ((found_f fl fr).old s12).same s4⟩))⟩
    | some g1 =>
      have b2 := bar_some eo2.symm
      refine ⟨_, rfl, rfl, _, rfl, ?_⟩
      refine iteDN (by intro z; cases z) ?_
      refine ⟨_, rfl, _, rfl, _, rfl, wd, m, ts, 1, 2 ^ k, rfl, W.same s12, m9, m1, Sn, fun H3 o3 s3 fw3 => ?_⟩
      have eo3 : o3 = keepF ts (allT ts) m 9 1 (2 ^ k) := FirstK.unique (ware_keep rfl (by cases o3 <;> exact fw3)) (keepF_first W.ok 9 1 _ (by omega) Sn)
      have s13 := s12.trans s3
      cases o3 with
      | none =>
        have b3 := bar_none eo3.symm
        refine ⟨_, rfl, rfl, _, rfl, ?_⟩
        refine iteD rfl ?_
        refine ⟨_, rfl, _, rfl, _, rfl, s13.tab tb, wd, m, ts, 1, 2 ^ k, rfl, W.same s13, m9, fun fv H4 s4 fl fr => ?_⟩
        refine ⟨small (by show 2 ≤ 1000; decide), fun tp htp => ?_⟩
        have s5 := same_new htp (.tup [.str ("always" : Str), fv])
        exact q (.ref tp) _ ((s13.trans s4).trans s5) ⟨tp, rfl, .inr (.inr (.inr (.inl ⟨b1, k0, b2, b3, fv, upd_same, ((found_f fl fr).old s13).same s5⟩)))⟩
      | some g2 =>
        have b3 := bar_some eo3.symm
        refine ⟨_, rfl, rfl, _, rfl, ?_⟩
        refine iteDN (by intro z; cases z) ?_
        refine ⟨_, rfl, _, rfl, small (by show 3 ≤ 1000; decide), fun tp htp => ?_⟩
        have s5 := same_new htp (.tup [.str ("either" : Str), .int (g1 : Int), .int (g2 : Int)])
        exact q (.ref tp) _ (s13.trans s5) ⟨tp, rfl, .inr (.inr (.inr (.inr ⟨b1, k0, b2, b3, g1, g2, eo2.symm, eo3.symm, upd_same⟩)))⟩

end
section
variable {P : Program} {w : World} {K : PySem.W.Frag} {mg : Str → Option Value} {base : Heap} {a : Adr} {d : Fds}
theorem ok_law_cell (T : Txt K mg a d) : FnOk P w K mg base CX0 1 a.f_law_cell d.f_law_cell ["_law_script", "_law_k"] (spCellP K) := by
  refine T.K_law_cell.ok sc_law_cell (fun vs H Q E h => ?_) (fun cdv A outer s H vs Q E hr h => ?_)
  · obtain ⟨p, ns, k, rfl, _⟩ := h
    rfl
  obtain ⟨p, ns, k, rfl, hS, hl, k0, k1, q⟩ := h
  have el : (ns.map V.int).length = ns.length := List.length_map _
  have item : ∀ j : Int, 0 ≤ j → j < ns.length → ∃ v : Int, atI (ns.map V.int) j = some (.int v) := fun j j0 j1 => by
    obtain ⟨m, rfl⟩ : ∃ m : Nat, j = (m : Int) := ⟨j.toNat, by omega⟩
    have hj : m < ns.length := by omega
    refine ⟨ns[m], atI_nat ?_⟩
    rw [List.getElem?_map, List.getElem?_eq_getElem hj]
    rfl
  refine ⟨_, (pss_cons (ps_if (pt_cmpR op_lt (pv 1) (pe_callB (lenS (K := K)) rfl T.m_len PySem.boot_len (pa_cons (pv 0) pa_nil)) (nomark _)) (pss_one (ps_ret (pe_ix (ixL (K := K)) (pv 0) (pv 1) (fun _ _ => rfl)))) pss_nil)
      (pss_cons (ps_set (i := 2) sc_law_cell.nd rfl (Or.inl rfl) (pe_op op_add (pe_op op_mul (pv 1) pe_int) pe_int))
      (pss_cons (ps_if (pt_cmpR op_gt (pe_callB (lenS (K := K)) rfl T.m_len PySem.boot_len (pa_cons (pv 0) pa_nil)) pe_int (nomark _)) (pss_cons (ps_set (i := 3) sc_law_cell.nd rfl (Or.inl rfl) (pe_ix (ixL (K := K)) (pv 0) (pe_op op_mod (pe_op op_mul (pv 1) pe_int) (pe_callB (lenS (K := K)) rfl T.m_len PySem.boot_len (pa_cons (pv 0) pa_nil))) (fun _ _ => rfl)))
      (pss_one (ps_set (i := 2) sc_law_cell.nd rfl (Or.inl rfl) (pe_op op_mod (pe_op op_add (pe_op op_add (pe_op op_mul (pv 3) pe_int) (pe_op op_mul (pe_op op_mul (pv 1) (pv 1)) pe_int)) (pv 1)) pe_int)))) pss_nil)
      (pss_one (ps_ret (pe_op op_mod (pe_op op_mul (pv 2) (pv 2)) pe_int)))))), ?_⟩
  refine ⟨_, rfl, _, rfl, p, _, rfl, .inl hS, _, _, rfl, rfl, _, rfl, ?_⟩
  refine ite2 (fun c => ?_) (fun c => ?_)
  · have c' : k < ((ns.map V.int).length : Nat) := of_decide_eq_true c
    rw [el] at c'
    obtain ⟨v, hv⟩ := item k k0 c'
    exact ⟨_, rfl, _, rfl, p, _, _, _, rfl, rfl, hS, hv, q v⟩
  · refine ⟨_, rfl, _, _, rfl, rfl, .inr ⟨by decide, by decide⟩, _, _, rfl, rfl, ?_⟩
    refine ⟨_, rfl, p, _, rfl, .inl hS, _, _, rfl, rfl, _, rfl, ?_⟩
    refine ite2 (fun c2 => ?_) (fun c2 => ?_)
    · have c2' : (0 : Int) < ((ns.map V.int).length : Nat) := of_decide_eq_true c2
      rw [el] at c2'
      have m0 : 0 ≤ k * 7 % (ns.length : Int) := Int.emod_nonneg _ (by omega)
      have m1 : k * 7 % (ns.length : Int) < ns.length := Int.emod_lt_of_pos _ c2'
      obtain ⟨v, hv⟩ := item _ m0 m1
      refine ⟨_, rfl, _, rfl, _, _, rfl, rfl, .inr ⟨by decide, by decide⟩, _, rfl, p, _, rfl, .inl hS, _, _, rfl, rfl, (by rw [el]; exact c2'), p, _, _, _, rfl, rfl, hS, (by rw [el]; exact hv), ?_⟩
      refine ⟨_, rfl, _, _, rfl, rfl, .inr ⟨by decide, by decide⟩, _, rfl, _, rfl, _, _, rfl, rfl, (by unfold CMul; omega), _, _, rfl, rfl, .inr ⟨by decide, by decide⟩, _, _, rfl, rfl, _, rfl, _, _, rfl, rfl, _, _, rfl, rfl, (by show (0 : Int) < 2147483647; decide), ?_⟩
      have n0 : 0 ≤ (v * 48271 + k * k * 7919 + k) % 2147483647 := Int.emod_nonneg _ (by decide)
      have n1 : (v * 48271 + k * k * 7919 + k) % 2147483647 < 2147483647 := Int.emod_lt_of_pos _ (by decide)
      exact ⟨_, rfl, _, rfl, _, _, rfl, rfl, (by unfold CMul; omega), _, _, rfl, rfl, (by show (0 : Int) < 2147483629; decide), q _⟩
    · exact ⟨_, rfl, _, rfl, _, _, rfl, rfl, (by unfold CMul; omega), _, _, rfl, rfl, (by show (0 : Int) < 2147483629; decide), q _⟩

end
section
variable {P : Program} {w : World} {K : PySem.W.Frag} {mg : Str → Option Value} {base : Heap} {a : Adr} {d : Fds}
theorem ok_law_next (T : Txt K mg a d) : FnOk P w K mg base CX0 2 a.f_law_next d.f_law_next ["_law_pen", "_law_most"] (spNext K) := by
  have G_law_cell := ok_law_cell (P := P) (w := w) (base := base) T
  refine T.K_law_next.ok sc_law_next (fun vs H Q E h => ?_) (fun cdv A outer s H vs Q E hr h => ?_)
  · obtain ⟨pen, sp, ns, most, k, rfl, _⟩ := h
    rfl
  obtain ⟨pen, sp, ns, most, k, rfl, pn, k0, k1, m0, q⟩ := h
  have hp := pn.at_
  refine ⟨_, (pss_cons (ps_set (i := 2) sc_law_next.nd rfl (Or.inl rfl) (pe_op op_mod (pe_call G_law_cell (hr.mono (by first | decide | omega)) rfl T.g_law_cell T.K_law_cell.kp T.B_law_cell .nil pass0 (pa_cons (pe_ix (ixL (K := K)) (pv 0) pe_int (fun _ _ => rfl)) (pa_cons (pe_ix (ixL (K := K)) (pv 0) pe_int (fun _ _ => rfl)) pa_nil))) (pv 1)))
      (pss_cons (ps_asg (pe_op op_add (pe_ix (ixL (K := K)) (pv 0) pe_int (fun _ _ => rfl)) pe_int) (pg_sub (pv 0) pe_int set_list))
      (pss_one (ps_ret (pv 2))))), ?_⟩
  refine ⟨_, rfl, pen, _, _, _, rfl, rfl, SqL.of hp, at0, _, rfl, pen, _, _, _, rfl, rfl, SqL.of hp, at1, sp, ns, k, rfl, pn.scr H (SameX.refl _ _), pn.len, k0, k1, fun c => ?_⟩
  refine ⟨_, rfl, _, _, rfl, rfl, m0, ?_⟩
  refine ⟨_, rfl, pen, _, _, _, rfl, rfl, SqL.of hp, at1, _, _, rfl, rfl, _, rfl, pen, _, _, _, rfl, rfl, hp, rfl, ?_⟩
  exact ⟨_, rfl, q _ (Int.emod_nonneg _ (by omega)) (Int.emod_lt_of_pos _ m0)⟩

end
section
variable {P : Program} {w : World} {K : PySem.W.Frag} {mg : Str → Option Value} {base : Heap} {a : Adr} {d : Fds}
theorem ok_law_kids (T : Txt K mg a d) : FnOk P w K mg base CX0 3 a.f_law_kids d.f_law_kids ["_law_pen", "_law_many"] (spKidsP K) := by
  have G_law_next := ok_law_next (P := P) (w := w) (base := base) T
  refine T.K_law_kids.ok sc_law_kids (fun vs H Q E h => ?_) (fun cdv A outer s H vs Q E hr h => ?_)
  · obtain ⟨pen, sp, ns, m, k, rfl, _⟩ := h
    rfl
  obtain ⟨pen, sp, ns, m, k, rfl, pn, k0, k1, m1, m9, q⟩ := h
  have p62 : (2 : Int) ^ 62 = 4611686018427387904 := by decide
  refine ⟨_, (pss_cons (ps_set (i := 2) sc_law_kids.nd rfl (Or.inl rfl) (pe_lst pa_nil))
      (pss_cons (ps_for PassesOwn.never rfl (pi_range2 rfl T.m_range (pa_cons pe_int (pa_cons (pv 1) pa_nil))) (pg_name (i := 3) sc_law_kids.nd rfl (Or.inl rfl)) (pss_one (ps_if (PW.pt (pw_or (pt_cmpR op_eq (pe_callB (lenS (K := K)) rfl T.m_len PySem.boot_len (pa_cons (pv 2) pa_nil)) pe_int (nomark _)) (pw_or1 (pt_cmpR op_eq (pe_call G_law_next (hr.mono (by first | decide | omega)) rfl T.g_law_next T.K_law_next.kp T.B_law_next .nil pass0 (pa_cons (pv 0) (pa_cons pe_int pa_nil))) pe_int (nomark _))))) (pss_one (ps_expr (pe_bmK (K := K) PySem.F.plainAttrs_list PySem.F.slot_list_append PySem.F.type_list_append mt_append (pv 2) (pa_cons (pe_tup (pa_cons (pe_call G_law_next (hr.mono (by first | decide | omega)) rfl T.g_law_next T.K_law_next.kp T.B_law_next .nil pass0 (pa_cons (pv 0) (pa_cons (pv 3) pa_nil))) (pa_cons (pe_lst (pa_cons (pv 3) pa_nil)) pa_nil))) pa_nil)))) (pss_one (ps_expr (pe_bmK (K := K) PySem.F.plainAttrs_list PySem.F.slot_list_append PySem.F.type_list_append mt_append (pe_ix (ixT (K := K)) (pe_ix (ixL (K := K)) (pv 2) (pe_call G_law_next (hr.mono (by first | decide | omega)) rfl T.g_law_next T.K_law_next.kp T.B_law_next .nil pass0 (pa_cons (pv 0) (pa_cons (pe_callB (lenS (K := K)) rfl T.m_len PySem.boot_len (pa_cons (pv 2) pa_nil)) pa_nil))) (fun _ _ => rfl)) pe_int (fun _ _ => rfl)) (pa_cons (pv 3) pa_nil)))))))
      (pss_one (ps_ret (pv 2))))), ?_⟩
  refine ⟨small (by decide), fun g hg => ?_⟩
  have ngp : pen ≠ g := ne_of_none pn.at_ hg
  refine ⟨_, rfl, _, _, rfl, ⟨by rw [p62]; omega, by rw [p62]; omega, by rw [p62]; omega, by rw [p62]; omega⟩, ?_⟩
  refine for_range (lo := 1) (n := ((m : Int) - 1).toNat) (fun i σ H2 => ∃ (v3 : Option V) (gs : List Grp) (kk : Int), σ = [some (.ref pen), some (.int m), some (.ref g), v3] ∧ SameX pen H H2 ∧ H2 pen = some (.lst [.ref sp, .int kk]) ∧ k ≤ kk ∧ kk ≤ k + 2 * i ∧ GAt H H2 g gs ∧ GOk ((i : Int) + 1) gs)
    ⟨none, [], k, rfl, Same.x (same_new hg _), (same_new hg _) _ _ pn.at_, Int.le_refl _, by omega, ⟨upd_same, hg, (fun _ z => nomatch z), (fun _ z => nomatch z), List.nodup_nil⟩, ⟨(fun _ z => nomatch z), List.Perm.refl _⟩⟩ ?_ ?_
  · rintro i σ H2 hi ⟨v3, gs, kk, rfl, sx, hp2, kk0, kk1, GA, GK⟩
    have few := GK.few
    have i9 : (i : Int) < 9 := by omega
    have el : (gs.map fun x => V.ref x.t).length = gs.length := List.length_map _
    have e1 : 1 + (i : Int) = (i : Int) + 1 := by omega
    have e2 : ((i + 1 : Nat) : Int) + 1 = (i : Int) + 2 := by omega
    refine ⟨_, rfl, g, _, rfl, .inl (SqL.of GA.at_), rfl, _, rfl, ?_⟩
    rw [dec_cnt0, el]
    refine ite2 (fun c => ?h1) (fun c => ?h2)
    case' h1 => refine iteT ?_
    case' h1 => obtain ⟨k3, k30, k31, hp3⟩ : ∃ k3, k ≤ k3 ∧ k3 ≤ k + 2 * i + 1 ∧ H2 pen = some (.lst [.ref sp, .int k3]) := ⟨kk, kk0, by omega, hp2⟩
    case' h1 => have GA3 : GAt H H2 g gs := GA
    case' h1 => have sx3 : SameX pen H H2 := sx
    case' h1 => generalize H2 = H3 at hp3 GA3 sx3 ⊢
    case' h2 => refine ⟨_, rfl, pen, sp, ns, 3, kk, rfl, pn.to sx hp2, by omega, by omega, by decide, fun c2 c20 c21 => ?_⟩
    case' h2 => obtain ⟨k3, k30, k31, hp3⟩ : ∃ k3, k ≤ k3 ∧ k3 ≤ k + 2 * i + 1 ∧ L2.upd H2 pen (.lst [.ref sp, .int (kk + 1)]) pen = some (.lst [.ref sp, .int k3]) := ⟨kk + 1, by omega, by omega, upd_same⟩
    case' h2 => have GA3 : GAt H (L2.upd H2 pen (.lst [.ref sp, .int (kk + 1)])) g gs := GA.pen ⟨_, pn.at_⟩ hp2
    case' h2 => have sx3 : SameX pen H (L2.upd H2 pen (.lst [.ref sp, .int (kk + 1)])) := sx.trans (sameX_pen _)
    case' h2 => generalize L2.upd H2 pen (.lst [.ref sp, .int (kk + 1)]) = H3 at hp3 GA3 sx3 ⊢
    case' h2 => refine ⟨rfl, _, rfl, ?_⟩
    case' h2 => refine ite2 (fun c3 => ?h3) (fun c3 => ?h4)
    case h4 =>
      have glen : ¬ gs.length = 0 := fun z => c (decide_eq_true z)
      refine ⟨_, rfl, _, rfl, _, rfl, g, _, rfl, .inl (SqL.of GA3.at_), pen, sp, ns, _, k3, rfl, pn.to sx3 hp3, by omega, by omega, (by rw [el]; omega), fun j j0 j1 => ?_⟩
      rw [el] at j1
      obtain ⟨jn, rfl⟩ : ∃ jn : Nat, j = (jn : Int) := ⟨j.toNat, by omega⟩
      have GA4 := GA3.pen (ys := [.ref sp, .int (k3 + 1)]) ⟨_, pn.at_⟩ hp3
      have sx4 := sx3.trans (sameX_pen (H := H3) (.lst [.ref sp, .int (k3 + 1)]))
      have jl : jn < gs.length := by omega
      have hx : gs[jn] ∈ gs := List.getElem_mem jl
      have egs : gs = gs.take jn ++ gs[jn] :: gs.drop (jn + 1) := by
        rw [List.getElem_cons_drop, List.take_append_drop]
      generalize hxx : gs[jn] = x at *
      have ty := GA4.tup x hx
      have ly := GA4.lst x hx
      refine ⟨g, _, _, .ref x.t, rfl, rfl, SqL.of GA4.at_, atI_nat (by rw [List.getElem?_map, List.getElem?_eq_getElem jl, hxx]; rfl), x.t, _, _, _, rfl, rfl, sqT ty, at1, .inl ⟨rfl, _, SqL.of ly.1⟩, _, rfl, x.l, _, _, rfl, rfl, ly.1, ?_, ?_⟩
      · have h1 := GK.perm.length_eq
        rw [List.length_map, List.length_range', egs, List.flatMap_append, List.flatMap_cons, List.length_append, List.length_append] at h1
        rw [List.length_map]
        exact small1000 (by omega)
      have G5 : GAt H _ g _ := GAt.put (k := 1 + (i : Int)) (pre := gs.take jn) (post := gs.drop (jn + 1)) (x := x) (by rw [← egs]; exact GA4)
      refine ⟨_, _, k3 + 1, rfl, SameX.put sx4 ly.2.1 (fun z => by have := pn.at_; rw [← z, ly.2.1] at this; cases this) ly.1, ?_, by omega, by push_cast; omega, G5, ?_⟩
      · rw [upd_ne (fun z => by have := pn.at_; rw [z, ly.2.1] at this; cases this)]
        exact upd_same
      · rw [e2, e1]
        exact GOk.put (k := i) (by rw [← egs]; exact GK)
    all_goals
      refine ⟨_, rfl, .inl ⟨rfl, _, SqL.of GA3.at_⟩, _, rfl, _, rfl, pen, sp, ns, _, k3, rfl, pn.to sx3 hp3, by omega, by omega, by omega, fun u u0 u1 => ?_⟩
      have GA4 := GA3.pen (ys := [.ref sp, .int (k3 + 1)]) ⟨_, pn.at_⟩ hp3
      have sx4 := sx3.trans (sameX_pen (H := H3) (.lst [.ref sp, .int (k3 + 1)]))
      refine ⟨_, rfl, small (by show 1 ≤ 1000; decide), fun nl hnl => ?_⟩
      refine ⟨small (by show 2 ≤ 1000; decide), fun nt hnt => ?_⟩
      have s6 := (same_new hnl (.lst [.int (1 + (i : Int))])).trans (same_new hnt (.tup [.int u, .ref nl]))
      refine ⟨g, _, _, rfl, rfl, s6 _ _ GA4.at_, (by rw [el]; exact small1000 (by omega)), ?_⟩
      have G5 := GA4.add2 (u := u) (k := 1 + (i : Int)) (sx4.free ⟨_, upd_same⟩ hnl) hnl hnt
      refine ⟨_, gs ++ [⟨nt, u, nl, [1 + (i : Int)]⟩], k3 + 1, rfl, SameX.put (sx4.trans (Same.x s6)) hg (Ne.symm ngp) (s6 _ _ GA4.at_), ?_, by omega, by push_cast; omega, G5, ?_⟩
      · rw [upd_ne ngp]
        exact s6 _ _ upd_same
      · rw [e2, e1]
        exact GOk.new (k := i) GK u0 (by omega)
  · rintro σ H2 ⟨v3, gs, kk, rfl, sx, hp2, kk0, kk1, GA, GK⟩
    have em : (((m : Int) - 1).toNat : Int) + 1 = (m : Int) := by omega
    rw [em] at GK
    exact ⟨_, rfl, q g gs kk H2 sx hp2 kk0 (by omega) GA GK⟩

end
section
variable {P : Program} {w : World} {K : PySem.W.Frag} {mg : Str → Option Value} {base : Heap} {a : Adr} {d : Fds}
theorem ok_law_bough (T : Txt K mg a d) : FnOk P w K mg base CX0 3 a.f_law_bough d.f_law_bough ["_law_pen", "_law_up", "_law_kids_here"] (spBoughP K) := by
  have G_law_next := ok_law_next (P := P) (w := w) (base := base) T
  refine T.K_law_bough.ok sc_law_bough (fun vs H Q E h => ?_) (fun cdv A outer s H vs Q E hr h => ?_)
  · obtain ⟨pen, sp, ns, l, u, kids, m, k, rfl, _⟩ := h
    rfl
  obtain ⟨pen, sp, ns, l, u, kids, m, k, rfl, pn, k0, k1, hl, nl, kl, u0, kne, ris, q⟩ := h
  have el : (kids.map V.int).length = kids.length := List.length_map _
  have kp := List.length_pos_iff.mpr kne
  have rest5 : ∃ t, PSs (cxOf CX0 P w K mg base ["_law_pen", "_law_up", "_law_kids_here", "_law_size", "_law_low", "_law_high", "_law_way"] "_law_bough" (defScope s_law_bough) a.f_law_bough cdv A outer s H E).nox ((defBody s_law_bough).drop 5) t ∧ ∀ (v3 v6 : Option V) (lo hi k' : Int) (H1 : Hp), SameX pen H H1 → H1 pen = some (.lst [.ref sp, .int k']) → k ≤ k' → k' ≤ k + 3 → 0 ≤ lo → lo ≤ hi → 1 ≤ hi → hi ≤ kids.length →
      t { nx := fun _ H' => Q .non H', rt := Q } [some (.ref pen), some (.int u), some (.ref l), v3, some (.int lo), some (.int hi), v6] H1 := by
    refine ⟨_, (pss_one (ps_ret (pe_tup (pa_cons (pv 1) (pa_cons (pv 4) (pa_cons (pv 5) (pa_cons (pe_callTy call_tuple_of rfl T.m_tuple PyProof.Rows.boot_tuple (pa_cons (pv 2) pa_nil)) pa_nil))))))), ?_⟩
    intro v3 v6 lo hi k' H1 sx hp kk0 kk1 l0 l1 h1 h2
    have hl1 := sx _ _ nl hl
    refine ⟨_, rfl, _, rfl, _, rfl, _, rfl, l, _, rfl, .inl ⟨SqL.of hl1, fun tk htk => ?_⟩⟩
    refine ⟨small (by show 4 ≤ 1000; decide), fun tb htb => ?_⟩
    have s1 := (same_new htk (.tup (kids.map V.int))).trans (same_new htb (.tup [.int u, .int lo, .int hi, .ref tk]))
    refine q (bghD u lo hi kids) _ k' _ (sx.trans (Same.x s1)) (s1 _ _ hp) kk0 kk1 ?_ (bgh_ok u0 kne ris l0 l1 h1 h2) (bgh_flat _ _ _ _ (by omega)) (bgh_kids _ _ _ _)
    exact ⟨tb, _, rfl, upd_same, _, _, rfl, rfl, _, _, rfl, rfl, _, _, rfl, rfl, _, _, rfl, ⟨tk, _, rfl, (same_new htb _) _ _ upd_same, ints_dnl kids⟩, rfl⟩
  obtain ⟨t5, h5, r5⟩ := rest5
  refine ⟨_, (pss_cons (ps_set (i := 3) sc_law_bough.nd rfl (Or.inl rfl) (pe_callB (lenS (K := K)) rfl T.m_len PySem.boot_len (pa_cons (pv 2) pa_nil)))
      (pss_cons (ps_set (i := 4) sc_law_bough.nd rfl (Or.inl rfl) (pe_call G_law_next (hr.mono (by first | decide | omega)) rfl T.g_law_next T.K_law_next.kp T.B_law_next .nil pass0 (pa_cons (pv 0) (pa_cons (pe_op op_add (pv 3) pe_int) pa_nil))))
      (pss_cons (ps_set (i := 5) sc_law_bough.nd rfl (Or.inl rfl) (pe_callB (call_max2 rfl) rfl T.m_max PyProof.Rows.boot_max (pa_cons pe_int (pa_cons (pe_op op_add (pv 4) (pe_call G_law_next (hr.mono (by first | decide | omega)) rfl T.g_law_next T.K_law_next.kp T.B_law_next .nil pass0 (pa_cons (pv 0) (pa_cons (pe_op op_add (pe_op op_sub (pv 3) (pv 4)) pe_int) pa_nil)))) pa_nil))))
      (pss_cons (ps_set (i := 6) sc_law_bough.nd rfl (Or.inl rfl) (pe_call G_law_next (hr.mono (by first | decide | omega)) rfl T.g_law_next T.K_law_next.kp T.B_law_next .nil pass0 (pa_cons (pv 0) (pa_cons pe_int pa_nil))))
      (pss_cons (ps_if (pt_cmpR op_lt (pv 6) pe_int (nomark _)) (pss_one (ps_asg (pe_ix (ixL (K := K)) (pe_lst (pa_cons (pe_tup (pa_cons (pv 3) (pa_cons (pv 3) pa_nil))) (pa_cons (pe_tup (pa_cons pe_int (pa_cons (pv 3) pa_nil))) (pa_cons (pe_tup (pa_cons pe_int (pa_cons pe_int pa_nil))) (pa_cons (pe_tup (pa_cons pe_int (pa_cons pe_int pa_nil))) pa_nil))))) (pv 6) (fun _ _ => rfl)) (pgT (K := K) (n := 2) rfl (pgs_cons (pg_name (i := 4) sc_law_bough.nd rfl (Or.inl rfl)) (pgs_cons (pg_name (i := 5) sc_law_bough.nd rfl (Or.inl rfl)) pgs_nil))))) pss_nil)
      h5))))), ?_⟩
  refine ⟨_, rfl, l, _, rfl, .inl (SqL.of hl), ?_⟩
  rw [el]
  refine ⟨_, rfl, _, rfl, _, _, rfl, rfl, pen, sp, ns, _, k, rfl, pn, by omega, by omega, by omega, fun lo lo0 lo1 => ?_⟩
  have sx1 := sameX_pen (pen := pen) (H := H) (.lst [.ref sp, .int (k + 1)])
  refine ⟨_, rfl, _, rfl, _, rfl, _, rfl, _, _, rfl, rfl, _, _, rfl, rfl, pen, sp, ns, _, k + 1, rfl, pn.to sx1 upd_same, by omega, by omega, by omega, fun x x0 x1 => ?_⟩
  have sx2 := sx1.trans (sameX_pen (pen := pen) (.lst [.ref sp, .int (k + 1 + 1)]))
  refine ⟨_, _, rfl, rfl, _, _, rfl, ?_⟩
  refine ⟨_, rfl, pen, sp, ns, 6, k + 1 + 1, rfl, pn.to sx2 upd_same, by omega, by omega, by decide, fun y y0 y1 => ?_⟩
  have sx3 := sx2.trans (sameX_pen (pen := pen) (.lst [.ref sp, .int (k + 1 + 1 + 1)]))
  generalize hH3 : L2.upd (L2.upd (L2.upd H pen (.lst [.ref sp, .int (k + 1)])) pen (.lst [.ref sp, .int (k + 1 + 1)])) pen (.lst [.ref sp, .int (k + 1 + 1 + 1)]) = H3 at *
  have hp3 : H3 pen = some (.lst [.ref sp, .int (k + 1 + 1 + 1)]) := by rw [← hH3]; exact upd_same
  refine ⟨_, rfl, _, _, rfl, rfl, _, rfl, ?_⟩
  refine ite2 (fun c => ?_) (fun c => ?_)
  · have c' : y < 4 := of_decide_eq_true c
    refine ⟨_, rfl, _, rfl, small (by show 2 ≤ 1000; decide), fun t1 ht1 => ?_⟩
    refine ⟨_, rfl, small (by show 2 ≤ 1000; decide), fun t2 ht2 => ?_⟩
    refine ⟨small (by show 2 ≤ 1000; decide), fun t3 ht3 => ?_⟩
    refine ⟨small (by show 2 ≤ 1000; decide), fun t4 ht4 => ?_⟩
    refine ⟨small (by show 4 ≤ 1000; decide), fun tl htl => ?_⟩
    have s1 := same_new ht1 (.tup [.int (kids.length : Nat), .int (kids.length : Nat)])
    have s2 := same_new ht2 (.tup [.int 0, .int (kids.length : Nat)])
    have s3 := same_new ht3 (.tup [.int 1, .int 1])
    have s4 := same_new ht4 (.tup [.int 0, .int 1])
    have s5 := same_new htl (.lst [.ref t1, .ref t2, .ref t3, .ref t4])
    have sA := (((s1.trans s2).trans s3).trans s4).trans s5
    obtain ⟨tt, lo', hi', hat, ht, q1, q2, q3, q4⟩ : ∃ (tt : Addr) (lo' hi' : Int), atI [V.ref t1, V.ref t2, V.ref t3, V.ref t4] y = some (.ref tt) ∧ L2.upd (L2.upd (L2.upd (L2.upd (L2.upd H3 t1 (.tup [.int (kids.length : Nat), .int (kids.length : Nat)])) t2 (.tup [.int 0, .int (kids.length : Nat)])) t3 (.tup [.int 1, .int 1])) t4 (.tup [.int 0, .int 1])) tl (.lst [.ref t1, .ref t2, .ref t3, .ref t4]) tt = some (.tup [.int lo', .int hi']) ∧ 0 ≤ lo' ∧ lo' ≤ hi' ∧ 1 ≤ hi' ∧ hi' ≤ kids.length := by
      have e : y = 0 ∨ y = 1 ∨ y = 2 ∨ y = 3 := by omega
      rcases e with e | e | e | e <;> rw [e]
      · exact ⟨t1, _, _, rfl, s5 _ _ (s4 _ _ (s3 _ _ (s2 _ _ upd_same))), by omega, by omega, by omega, by omega⟩
      · exact ⟨t2, _, _, rfl, s5 _ _ (s4 _ _ (s3 _ _ upd_same)), by omega, by omega, by omega, by omega⟩
      · exact ⟨t3, _, _, rfl, s5 _ _ (s4 _ _ upd_same), by omega, by omega, by omega, by omega⟩
      · exact ⟨t4, _, _, rfl, s5 _ _ upd_same, by omega, by omega, by omega, by omega⟩
    refine ⟨_, rfl, tl, _, _, _, rfl, rfl, SqL.of upd_same, hat, ?_⟩
    refine ⟨tt, _, rfl, sqT ht, rfl, _, _, rfl, _, _, rfl, rfl, ?_⟩
    exact r5 _ _ lo' hi' (k + 1 + 1 + 1) _ (sx3.trans (Same.x sA)) (sA _ _ hp3) (by omega) (by omega) q1 q2 q3 q4
  · refine r5 _ _ lo _ (k + 1 + 1 + 1) _ sx3 hp3 (by omega) (by omega) lo0 ?_ ?_ ?_
    all_goals split <;> omega

end
section
variable {P : Program} {w : World} {K : PySem.W.Frag} {mg : Str → Option Value} {base : Heap} {a : Adr} {d : Fds}
theorem ok_law_cross (T : Txt K mg a d) : FnOk P w K mg base CX0 3 a.f_law_cross d.f_law_cross ["_law_pen", "_law_many"] (spCrossP K) := by
  have G_law_next := ok_law_next (P := P) (w := w) (base := base) T
  refine T.K_law_cross.ok sc_law_cross (fun vs H Q E h => ?_) (fun cdv A outer s H vs Q E hr h => ?_)
  · obtain ⟨pen, sp, ns, m, k, rfl, _⟩ := h
    rfl
  obtain ⟨pen, sp, ns, m, k, rfl, pn, k0, k1, m1, m9, q⟩ := h
  have p62 : (2 : Int) ^ 62 = 4611686018427387904 := by decide
  have rest3 : ∃ t, PSs (cxOf CX0 P w K mg base ["_law_pen", "_law_many", "_law_way", "_law_a", "_law_some", "_law_by", "_law_numbers", "_law_pairs", "_law_k", "_law_most"] "_law_cross" (defScope s_law_cross) a.f_law_cross cdv A outer s H E).nox ((defBody s_law_cross).drop 3) t ∧ ∀ (way : Int) (v3 : Option V) (H1 : Hp), SameX pen H H1 → H1 pen = some (.lst [.ref sp, .int (k + 1 + 1)]) →
      t { nx := fun _ H' => Q .non H', rt := Q } [some (.ref pen), some (.int m), some (.int way), v3, none, none, none, none, none, none] H1 := by
    obtain ⟨ct8, ch8, cu8⟩ := cutS (X := (cxOf CX0 P w K mg base ["_law_pen", "_law_many", "_law_way", "_law_a", "_law_some", "_law_by", "_law_numbers", "_law_pairs", "_law_k", "_law_most"] "_law_cross" (defScope s_law_cross) a.f_law_cross cdv A outer s H E).nox) (st := (defBody s_law_cross).drop 8) (pss_cons (ps_set (i := 9) sc_law_cross.nd rfl (Or.inl rfl) (pe_callB (call_sum_ints rfl) rfl T.m_sum PyProof.Rows.boot_sum (pa_cons (pe_lc (sc0 := defScope s_law_cross) (XN := ["_law_pen", "_law_many", "_law_way", "_law_a", "_law_some", "_law_by", "_law_numbers", "_law_pairs", "_law_k", "_law_most"]) (N' := ["_law_k", "_law_number"]) (n := 2) (kp := []) rfl (piL (K := K) (pv 7)) rfl rfl (by decide +kernel) (fun _ _ _ _ _ => (pgT (K := K) (n := 2) rfl (pgs_cons (pg_name (i := 0) (by show List.Nodup (["_law_k", "_law_number"] : List Str); decide +kernel) rfl (Or.inl rfl)) (pgs_cons (pg_name (i := 1) (by show List.Nodup (["_law_k", "_law_number"] : List Str); decide +kernel) rfl (Or.inl rfl)) pgs_nil)))) (fun _ _ _ _ _ => pts_nil) (fun _ _ _ _ _ => (pe_callB (call_max2 rfl) rfl T.m_max PyProof.Rows.boot_max (pa_cons pe_int (pa_cons (pv 1) pa_nil))))) pa_nil)))
      (pss_one (ps_ret (pe_tup (pa_cons pe_str (pa_cons (pe_op op_sub (pe_op op_mul (pe_op op_mod (pe_call G_law_next (hr.mono (by first | decide | omega)) rfl T.g_law_next T.K_law_next.kp T.B_law_next .nil pass0 (pa_cons (pv 0) (pa_cons (pe_op op_pow pe_int pe_int) pa_nil))) (pe_op op_add (pe_op op_fdivB (pv 9) (pv 5)) pe_int)) (pv 5)) (pe_op op_mul (pv 5) (pe_callTy call_int1 rfl T.m_int PyProof.Rows.boot_int (pa_cons (pe_cmpR op_eq (pv 2) pe_int (nomark _)) pa_nil)))) (pa_cons (pe_callTy call_tuple_of rfl T.m_tuple PyProof.Rows.boot_tuple (pa_cons (pv 7) pa_nil)) pa_nil)))))))
    obtain ⟨ct6, ch6, cu6⟩ := cutS (X := (cxOf CX0 P w K mg base ["_law_pen", "_law_many", "_law_way", "_law_a", "_law_some", "_law_by", "_law_numbers", "_law_pairs", "_law_k", "_law_most"] "_law_cross" (defScope s_law_cross) a.f_law_cross cdv A outer s H E).nox) (st := (defBody s_law_cross).drop 6) (pss_cons (ps_set (i := 7) sc_law_cross.nd rfl (Or.inl rfl) (pe_lst pa_nil))
      (pss_cons (ps_for PassesOwn.never rfl (pi_range1 rfl T.m_range (pa_cons (pv 1) pa_nil)) (pg_name (i := 8) sc_law_cross.nd rfl (Or.inl rfl)) (pss_cons (ps_if (pt_cmpR op_eq (pe_op op_and (pe_op op_shr (pv 4) (pv 8)) pe_int) pe_int (nomark _)) (pss_one (ps_expr (pe_bmK (K := K) PySem.F.plainAttrs_list PySem.F.slot_list_append PySem.F.type_list_append mt_append (pv 7) (pa_cons (pe_tup (pa_cons (pv 8) (pa_cons (pe_op op_mul (pe_op op_sub (pe_op op_mod (pv 6) pe_int) pe_int) (pv 5)) pa_nil))) pa_nil)))) pss_nil)
      (pss_one (ps_set (i := 6) sc_law_cross.nd rfl (Or.inl rfl) (pe_op op_add (pe_op op_fdiv (pv 6) pe_int) (pe_op op_mul pe_int (pv 8)))))))
      ch8))
    obtain ⟨ct4, ch4, cu4⟩ := cutS (X := (cxOf CX0 P w K mg base ["_law_pen", "_law_many", "_law_way", "_law_a", "_law_some", "_law_by", "_law_numbers", "_law_pairs", "_law_k", "_law_most"] "_law_cross" (defScope s_law_cross) a.f_law_cross cdv A outer s H E).nox) (st := (defBody s_law_cross).drop 4) (pss_cons (ps_set (i := 5) sc_law_cross.nd rfl (Or.inl rfl) (pe_ix (ixL (K := K)) (pe_lst (pa_cons pe_int (pa_cons pe_int (pa_cons pe_int (pa_cons (pe_op op_pow pe_int pe_int) pa_nil))))) (pe_call G_law_next (hr.mono (by first | decide | omega)) rfl T.g_law_next T.K_law_next.kp T.B_law_next .nil pass0 (pa_cons (pv 0) (pa_cons pe_int pa_nil))) (fun _ _ => rfl)))
      (pss_cons (ps_set (i := 6) sc_law_cross.nd rfl (Or.inl rfl) (pe_call G_law_next (hr.mono (by first | decide | omega)) rfl T.g_law_next T.K_law_next.kp T.B_law_next .nil pass0 (pa_cons (pv 0) (pa_cons (pe_op op_pow pe_int pe_int) pa_nil))))
      ch6))
    refine ⟨_, (pss_cons (ps_set (i := 4) sc_law_cross.nd rfl (Or.inl rfl) (pe_op op_add pe_int (pe_call G_law_next (hr.mono (by first | decide | omega)) rfl T.g_law_next T.K_law_next.kp T.B_law_next .nil pass0 (pa_cons (pv 0) (pa_cons (pe_op op_sub (pe_op op_shl pe_int (pv 1)) pe_int) pa_nil)))))
      ch4), ?_⟩
    intro way v3 H1 sx hp
    have pm := pow_pos2 m
    have pm2 : 2 ≤ 2 ^ m := Nat.le_trans (by decide) (Nat.pow_le_pow_right (by decide) m1)
    have e1 : 1 * (2 : Int) ^ ((m : Nat) : Int).toNat - 1 = ((2 ^ m - 1 : Nat) : Int) := by
      rw [shl1]
      omega
    refine ⟨_, rfl, _, rfl, _, _, rfl, rfl, ⟨by omega, by omega, by decide⟩, _, _, rfl, rfl, pen, sp, ns, _, k + 1 + 1, rfl, pn.to sx hp, by omega, by omega, (by rw [e1]; omega), fun x x0 x1 => ?_⟩
    rw [e1] at x1
    refine ⟨_, _, rfl, rfl, ?_⟩
    obtain ⟨S, eS⟩ : ∃ S : Nat, 1 + x = (S : Int) := ⟨(1 + x).toNat, by omega⟩
    dsimp only
    rw [eS]
    have s0 : 0 < S := by omega
    have s1 : S < 2 ^ m := by omega
    have sx2 := sx.trans (sameX_pen (pen := pen) (.lst [.ref sp, .int (k + 1 + 1 + 1)]))
    refine cu4 _ _ _ ?_
    refine ⟨_, _, rfl, rfl, ⟨by decide, by decide, by decide⟩, small (by show 4 ≤ 1000; decide), fun bl hbl => ?_⟩
    have sn := same_new hbl (.lst [.int 1, .int 1, .int 1, .int (10 ^ (50 : Int).toNat)])
    have sx3 := sx2.trans (Same.x sn)
    refine ⟨_, rfl, pen, sp, ns, 4, k + 1 + 1 + 1, rfl, pn.to sx3 (sn _ _ upd_same), by omega, by omega, by decide, fun y y0 y1 => ?_⟩
    have sx4 := sx3.trans (sameX_pen (pen := pen) (.lst [.ref sp, .int (k + 1 + 1 + 1 + 1)]))
    have nbp : bl ≠ pen := fun z => by rw [z, upd_same] at hbl; cases hbl
    obtain ⟨by', hat, b0, bl2⟩ : ∃ by' : Int, atI [V.int 1, V.int 1, V.int 1, V.int (10 ^ (50 : Int).toNat)] y = some (.int by') ∧ 0 < by' ∧ by'.natAbs.log2 < 9000 := by
      have e : y = 0 ∨ y = 1 ∨ y = 2 ∨ y = 3 := by omega
      rcases e with e | e | e | e <;> rw [e]
      · exact ⟨_, rfl, by decide, by decide +kernel⟩
      · exact ⟨_, rfl, by decide, by decide +kernel⟩
      · exact ⟨_, rfl, by decide, by decide +kernel⟩
      · exact ⟨_, rfl, by decide +kernel, by decide +kernel⟩
    refine ⟨bl, _, _, _, rfl, rfl, SqL.of (by rw [upd_ne nbp]; exact upd_same), hat, ?_⟩
    refine ⟨_, rfl, _, _, rfl, rfl, ⟨by decide, by decide, by decide⟩, pen, sp, ns, _, k + 1 + 1 + 1 + 1, rfl, pn.to sx4 upd_same, by omega, by omega, by decide, fun z z0 z1 => ?_⟩
    have sx5 := sx4.trans (sameX_pen (pen := pen) (.lst [.ref sp, .int (k + 1 + 1 + 1 + 1 + 1)]))
    generalize hH5 : L2.upd (L2.upd (L2.upd (L2.upd H1 pen (.lst [.ref sp, .int (k + 1 + 1 + 1)])) bl (.lst [.int 1, .int 1, .int 1, .int (10 ^ (50 : Int).toNat)])) pen (.lst [.ref sp, .int (k + 1 + 1 + 1 + 1)])) pen (.lst [.ref sp, .int (k + 1 + 1 + 1 + 1 + 1)]) = H5 at *
    have hp5 : H5 pen = some (.lst [.ref sp, .int (k + 1 + 1 + 1 + 1 + 1)]) := by rw [← hH5]; exact upd_same
    refine cu6 _ _ _ ?_
    refine ⟨small (by decide), fun pl hpl => ?_⟩
    have npp : pen ≠ pl := ne_of_none hp5 hpl
    have hplH : H pl = none := sx5.free ⟨_, hp5⟩ hpl
    refine ⟨_, rfl, _, rfl, by rw [p62]; omega, by rw [p62]; omega, ?_⟩
    rw [Int.toNat_natCast]
    refine for_range0 (n := m) (fun i σ H6 => ∃ (nn : Int) (v8 v9 : Option V) (ps : List PyData) (xs : List V), σ = [some (.ref pen), some (.int m), some (.int way), v3, some (.int (S : Int)), some (.int by'), some (.int nn), some (.ref pl), v8, v9] ∧ Same H5 H6 ∧ H6 pl = some (.lst xs) ∧ PairsTo H6 i ps xs ∧ i ≤ m ∧ ((∃ j, j < i ∧ S.testBit j = true) → 0 < ps.length))
      ⟨z, none, none, [], [], rfl, same_new hpl _, upd_same, ⟨rfl, rfl, rfl, rfl, Nat.le_refl _⟩, Nat.zero_le _, fun ⟨j, hj, _⟩ => absurd hj (Nat.not_lt_zero j)⟩ ?_ ?_
    · rintro i σ H6 hi ⟨nn, v8, v9, ps, xs, rfl, s6, hp6, pt, hile, hne⟩
      have few := pt.few
      have lx := pt.dn.length
      refine ⟨_, rfl, _, rfl, _, _, rfl, rfl, by omega, _, _, rfl, rfl, rfl, _, rfl, ?_⟩
      rw [dec_shr1]
      refine ite2 (fun b => ?_) (fun b => ?_)
      · have n0 : 0 ≤ nn % 8 := Int.emod_nonneg _ (by decide)
        have n1 : nn % 8 < 8 := Int.emod_lt_of_pos _ (by decide)
        refine ⟨_, rfl, .inl ⟨rfl, _, SqL.of hp6⟩, _, rfl, _, rfl, _, _, rfl, rfl, (by show (0 : Int) < 8; decide), _, _, rfl, rfl, _, rfl, _, _, rfl, rfl, .inl ⟨by omega, by omega⟩, small (by show 2 ≤ 1000; decide), fun tp htp => ?_⟩
        have s7 := same_new htp (.tup [.int (i : Int), .int ((nn % 8 - 2) * by')])
        have hp7 := s7 _ _ hp6
        refine ⟨pl, _, _, rfl, rfl, hp7, small1000 (by omega), ?_⟩
        refine ⟨_, rfl, _, _, rfl, rfl, ⟨by decide, by decide⟩, _, rfl, _, _, rfl, rfl, .inl ⟨by decide, by decide⟩, _, _, rfl, rfl, ?_⟩
        have pd7 := DnL.same s7 _ _ pt.dn
        refine ⟨_, _, _, ps ++ [.tuple [.int (i : Int), .int ((nn % 8 - 2) * by')]], xs ++ [.ref tp], rfl, Same.put (s6.trans s7) hpl hp7, upd_same, ⟨?_, ?_, ?_, ?_, ?_⟩, hi, fun _ => ?_⟩
        · refine DnL.append (DnL.keepT (Dn.keepT (keep_lst hp7) 1) _ _ pt.flat pd7) ⟨_, [], rfl, ⟨tp, _, rfl, keep_lst hp7 _ _ upd_same, _, _, rfl, rfl, _, _, rfl, rfl, rfl⟩, rfl⟩
        · rw [List.all_append, pt.ok]
          rfl
        · rw [List.all_append, pt.flat]
          rfl
        · rw [List.map_append]
          show rising ((i + 1 : Nat) : Int) (ps.map fstD ++ [.int (i : Int)]) (-1) = true
          exact rising_snoc (by omega) pt.ris (by omega)
        · rw [List.length_append, List.length_singleton]
          omega
        · rw [List.length_append, List.length_singleton]
          omega
      · refine ⟨_, rfl, _, _, rfl, rfl, ⟨by decide, by decide⟩, _, rfl, _, _, rfl, rfl, .inl ⟨by decide, by decide⟩, _, _, rfl, rfl, ?_⟩
        refine ⟨_, _, _, ps, xs, rfl, s6, hp6, ⟨pt.dn, pt.ok, pt.flat, rising_mono (by omega) pt.ris, by omega⟩, hi, fun ⟨j, hj, hb⟩ => ?_⟩
        by_cases ej : j = i
        · subst ej
          exact absurd hb b
        · exact hne ⟨j, by omega, hb⟩
    · rintro σ H6 ⟨nn, v8, v9, ps, xs, rfl, s6, hp6, pt, hile, hne⟩
      refine cu8 _ _ _ ?_
      have few := pt.few
      have lx := pt.dn.length
      have p0 : 0 < ps.length := by
        refine hne ?_
        obtain ⟨j, hj⟩ := Nat.exists_testBit_of_ne_zero (show S ≠ 0 by omega)
        exact ⟨j, bit_lt s1 hj, hj⟩
      refine ⟨_, rfl, pl, rfl, ⟨_, SqL.of hp6⟩, ?_⟩
      refine lc_list (K := K) (a := pl) (xs := xs) (fun i ys σ H7 => (∃ v v', σ = [v, v']) ∧ H7 = H6 ∧ ∃ nl : List Int, ys = nl.map V.int ∧ 0 ≤ nl.sum ∧ nl.length = i) ⟨⟨none, none, rfl⟩, rfl, [], rfl, Int.le_refl _, rfl⟩ (fun i ys σ H7 hi pv => ?_) (fun i ys σ H7 hi pv => ?_) (fun i x ys σ H7 hx pv => ?_) (fun ys σ H7 pv l hl => ?_)
      · obtain ⟨_, _, nl, rfl, _, h1⟩ := pv
        rw [List.length_map]
        exact small (by omega)
      · rw [pv.2.1]
        exact SqL.of hp6
      · obtain ⟨⟨v, v', rfl⟩, rfl, nl, rfl, h0, h1⟩ := pv
        obtain ⟨dd, hdd, hx'⟩ := pt.dn.get hx
        have pk := (List.all_eq_true.mp pt.ok) dd (List.mem_of_getElem? hdd)
        obtain ⟨r, xa, nb, rfl, hr'⟩ : ∃ (r : Addr) (xa : V) (nb : Int), x = .ref r ∧ H7 r = some (.tup [xa, .int nb]) := by
          unfold pairOk at pk
          split at pk
          next dx dy =>
            obtain ⟨iy, rfl⟩ := isW_int pk
            obtain ⟨r, ys, rfl, hr2, xa, r1, rfl, ha, xb, r2, rfl, hb, hnil⟩ := dn_tup hx'
            cases (show r2 = [] from hnil)
            cases dn_int hb
            exact ⟨r, xa, iy, rfl, hr2⟩
          next => cases pk
        refine ⟨r, _, rfl, sqT hr', rfl, _, _, rfl, _, _, rfl, rfl, ?_⟩
        refine ⟨_, rfl, _, _, rfl, ⟨_, _, rfl⟩, rfl, nl ++ [if nb > 0 then nb else 0], ?_, ?_, ?_⟩
        · rw [List.map_append]
          rfl
        · rw [List.sum_append]
          have : 0 ≤ (if nb > 0 then nb else 0) := by split <;> omega
          simp only [List.sum_cons, List.sum_nil]
          omega
        · rw [List.length_append, List.length_singleton, h1]
      · obtain ⟨_, rfl, nl, rfl, h0, _⟩ := pv
        have s7 := same_new hl (.lst (nl.map V.int))
        have hp7 : L2.upd H7 l (.lst (nl.map V.int)) pen = some (.lst [.ref sp, .int (k + 1 + 1 + 1 + 1 + 1)]) := s7 _ _ (s6 _ _ hp5)
        have sx7 := sx5.trans (Same.x (s6.trans s7))
        refine ⟨l, nl, rfl, SqL.of upd_same, ?_⟩
        have d0 : 0 ≤ nl.sum / by' := Int.ediv_nonneg h0 (by omega)
        refine ⟨_, rfl, _, _, rfl, rfl, ⟨by decide, by decide, by decide⟩, pen, sp, ns, _, k + 1 + 1 + 1 + 1 + 1, rfl, pn.to sx7 hp7, by omega, by omega, by decide, fun xx xx0 xx1 => ?_⟩
        have sx8 := sx7.trans (sameX_pen (pen := pen) (.lst [.ref sp, .int (k + 1 + 1 + 1 + 1 + 1 + 1)]))
        have xx2 : xx < 1000000 := xx1
        have r0 : 0 ≤ xx % (nl.sum / by' + 2) := Int.emod_nonneg _ (by omega)
        have r1 : xx % (nl.sum / by' + 2) ≤ xx := emod_le' xx0 (by omega)
        refine ⟨_, rfl, _, rfl, _, _, rfl, rfl, ⟨b0, bl2⟩, _, _, rfl, rfl, _, _, rfl, rfl, (by show (0 : Int) < nl.sum / by' + 2; omega), _, rfl, _, _, rfl, rfl, .inl ⟨by omega, by omega⟩, ?_⟩
        refine ⟨_, rfl, _, rfl, rfl, .inr ⟨_, rfl, ?_⟩⟩
        refine ⟨_, _, rfl, rfl, .inr ⟨by split <;> decide, by split <;> decide⟩, _, _, rfl, rfl, ?_⟩
        have hpl8 : L2.upd (L2.upd H7 l (.lst (nl.map V.int))) pen (.lst [.ref sp, .int (k + 1 + 1 + 1 + 1 + 1 + 1)]) pl = some (.lst xs) := by
          rw [upd_ne (Ne.symm npp)]
          exact s7 _ _ hp6
        refine ⟨_, rfl, pl, _, rfl, .inl ⟨SqL.of hpl8, fun tk htk => ?_⟩⟩
        dsimp only
        refine ⟨small (by show 3 ≤ 1000; decide), fun tt htt => ?_⟩
        generalize hv : xx % (nl.sum / by' + 2) * by' - by' * (if decide (V.int way = V.int 3) = true then 1 else 0) = top at *
        have s9 := (same_new htk (.tup xs)).trans (same_new htt (.tup [.str ("most" : Str), .int top, .ref tk]))
        have tS : TupS H7 (L2.upd (L2.upd (L2.upd (L2.upd H7 l (.lst (nl.map V.int))) pen (.lst [.ref sp, .int (k + 1 + 1 + 1 + 1 + 1 + 1)])) tk (.tup xs)) tt (.tup [.str ("most" : Str), .int top, .ref tk])) := fun b zs hb => s9 b (.tup zs) (by rw [upd_ne (ne_of (s7 _ _ hb) hp7 (by intro q; cases q))]; exact s7 _ _ hb)
        refine q (.tuple [.str ("most" : Str), .int top, .tuple ps]) _ (k + 1 + 1 + 1 + 1 + 1 + 1) _ (sx8.trans (Same.x s9)) (s9 _ _ upd_same) (by omega) (by omega) ⟨tt, _, rfl, upd_same, _, _, rfl, rfl, _, _, rfl, rfl, _, _, rfl, ⟨tk, _, rfl, (same_new htt _) _ _ upd_same, DnL.tupS tS pt.flat pt.dn⟩, rfl⟩ ?_ ?_
        · show tieK m ("most" : Str) (.int top) (.tuple ps) = true
          unfold tieK
          rw [if_pos rfl]
          show (true && (decide (0 < ps.length) && ps.all pairOk && rising m (ps.map fstD) (-1))) = true
          rw [decide_eq_true p0, pt.ok, pt.ris]
          rfl
        · have f2 : flatD 2 (.tuple ps) = true := by
            show (decide (ps.length ≤ 1000) && ps.all (flatD 1)) = true
            rw [decide_eq_true (by omega), pt.flat]
            rfl
          show (true && (flatD 2 (.str ("most" : Str)) && (flatD 2 (.int top) && (flatD 2 (.tuple ps) && true)))) = true
          rw [show flatD 2 (.str ("most" : Str)) = true from strOk_most, f2]
          rfl
  obtain ⟨t3, h3, r3⟩ := rest3
  refine ⟨_, (pss_cons (ps_set (i := 2) sc_law_cross.nd rfl (Or.inl rfl) (pe_call G_law_next (hr.mono (by first | decide | omega)) rfl T.g_law_next T.K_law_next.kp T.B_law_next .nil pass0 (pa_cons (pv 0) (pa_cons pe_int pa_nil))))
      (pss_cons (ps_set (i := 3) sc_law_cross.nd rfl (Or.inl rfl) (pe_call G_law_next (hr.mono (by first | decide | omega)) rfl T.g_law_next T.K_law_next.kp T.B_law_next .nil pass0 (pa_cons (pv 0) (pa_cons (pv 1) pa_nil))))
      (pss_cons (ps_if (PW.pt (pw_and (pt_cmpR op_lt (pv 2) pe_int (nomark _)) (pw_and1 (pt_cmpR op_gt (pv 1) pe_int (nomark _))))) (pss_one (ps_ret (pe_tup (pa_cons (pe_ix (ixL (K := K)) (pe_lst (pa_cons pe_str (pa_cons pe_str pa_nil))) (pv 2) (fun _ _ => rfl)) (pa_cons (pv 3) (pa_cons (pe_op op_mod (pe_op op_add (pe_op op_add (pv 3) pe_int) (pe_call G_law_next (hr.mono (by first | decide | omega)) rfl T.g_law_next T.K_law_next.kp T.B_law_next .nil pass0 (pa_cons (pv 0) (pa_cons (pe_op op_sub (pv 1) pe_int) pa_nil)))) (pv 1)) pa_nil)))))) pss_nil)
      h3))), ?_⟩
  refine ⟨_, rfl, pen, sp, ns, 4, k, rfl, pn, by omega, by omega, by decide, fun way w0 w1 => ?_⟩
  have sx1 := sameX_pen (pen := pen) (H := H) (.lst [.ref sp, .int (k + 1)])
  refine ⟨_, rfl, _, rfl, pen, sp, ns, _, k + 1, rfl, pn.to sx1 upd_same, by omega, by omega, by omega, fun one o0 o1 => ?_⟩
  have sx2 := sx1.trans (sameX_pen (pen := pen) (.lst [.ref sp, .int (k + 1 + 1)]))
  refine ⟨_, rfl, _, _, rfl, rfl, _, rfl, ?_⟩
  refine ite2 (fun c => ?_) (fun c => ?_)
  · refine ⟨_, rfl, _, _, rfl, rfl, _, rfl, ?_⟩
    refine ite2 (fun m2 => ?_) (fun m2 => ?_)
    · have c' : way < 2 := of_decide_eq_true c
      have m2' : (1 : Int) < m := of_decide_eq_true m2
      refine ⟨small (by show 2 ≤ 1000; decide), fun lp hlp => ?_⟩
      have sn := same_new hlp (.lst [.str ("needs" : Str), .str ("bans" : Str)])
      have item : ∃ sN : Str, (sN = ("needs" : Str) ∨ sN = ("bans" : Str)) ∧ ¬ sN = ("most" : Str) ∧ PyData.strOk sN = true ∧ atI ([.str ("needs" : Str), .str ("bans" : Str)] : List V) way = some (.str sN) := by
        have e : way = 0 ∨ way = 1 := by omega
        rcases e with e | e <;> rw [e]
        · exact ⟨_, .inl rfl, by decide +kernel, strOk_needs, rfl⟩
        · exact ⟨_, .inr rfl, by decide +kernel, strOk_bans, rfl⟩
      obtain ⟨sN, sk, snm, sok, hat⟩ := item
      have sx3 := sx2.trans (Same.x sn)
      refine ⟨_, rfl, lp, _, _, _, rfl, rfl, SqL.of upd_same, hat, _, rfl, _, rfl, _, _, rfl, rfl, _, rfl, _, rfl, _, _, rfl, rfl, pen, sp, ns, _, k + 1 + 1, rfl, pn.to sx3 (sn _ _ upd_same), by omega, by omega, by omega, fun x x0 x1 => ?_⟩
      have sx4 := sx3.trans (sameX_pen (pen := pen) (.lst [.ref sp, .int (k + 1 + 1 + 1)]))
      refine ⟨_, _, rfl, rfl, _, rfl, _, _, rfl, rfl, (by show (0 : Int) < m; omega), small (by show 3 ≤ 1000; decide), fun tp htp => ?_⟩
      obtain ⟨n0, n1, n2⟩ := mod_near (many := m) m2' (by omega) o0 o1 x0 x1
      have st := same_new htp (.tup [.str sN, .int one, .int ((one + 1 + x) % (m : Int))])
      refine q (.tuple [.str sN, .int one, .int ((one + 1 + x) % (m : Int))]) _ (k + 1 + 1 + 1) _ (sx4.trans (Same.x st)) (st _ _ upd_same) (by omega) (by omega) ⟨tp, _, rfl, upd_same, _, _, rfl, rfl, _, _, rfl, rfl, _, _, rfl, rfl, rfl⟩ ?_ ?_
      · show tieK m sN _ _ = true
        unfold tieK
        rw [if_neg snm, if_pos sk]
        show ((decide ((0 : Int) ≤ _) && decide (_ ≤ (m : Int) - 1)) && ((decide ((0 : Int) ≤ _) && decide (_ ≤ (m : Int) - 1)) && !decide (_ = _))) = true
        rw [decide_eq_true o0, decide_eq_true (by omega), decide_eq_true n0, decide_eq_true (by omega), decide_eq_false n2]
        rfl
      · show (true && (flatD 2 (.str sN) && (true && (true && true)))) = true
        rw [show flatD 2 (.str sN) = true from sok]
        rfl
    · exact r3 _ _ _ sx2 upd_same
  · refine iteF ?_
    exact r3 _ _ _ sx2 upd_same

end
section
variable {P : Program} {w : World} {K : PySem.W.Frag} {mg : Str → Option Value} {base : Heap} {a : Adr} {d : Fds}
theorem ok_law_wood (T : Txt K mg a d) : FnOk P w K mg base CX0 4 a.f_law_wood d.f_law_wood ["_law_pen", "_law_many", "_law_most"] (spWoodP K) := by
  have G_law_next := ok_law_next (P := P) (w := w) (base := base) T
  have G_law_kids := ok_law_kids (P := P) (w := w) (base := base) T
  have G_law_bough := ok_law_bough (P := P) (w := w) (base := base) T
  have G_law_cross := ok_law_cross (P := P) (w := w) (base := base) T
  refine T.K_law_wood.ok sc_law_wood (fun vs H Q E h => ?_) (fun cdv A outer s H vs Q E hr h => ?_)
  · obtain ⟨pen, sp, ns, m, most, k, rfl, _⟩ := h
    rfl
  obtain ⟨pen, sp, ns, m, most, k, rfl, pn, k0, k1, m1, m9, mo0, mo1, q⟩ := h
  have p62 : (2 : Int) ^ 62 = 4611686018427387904 := by decide
  obtain ⟨ct4, ch4, cu4⟩ := cutS (X := (cxOf CX0 P w K mg base ["_law_pen", "_law_many", "_law_most", "_law_rows", "_law_boughs", "_law_turn", "_law_cross_here"] "_law_wood" (defScope s_law_wood) a.f_law_wood cdv A outer s H E).nox) (st := (defBody s_law_wood).drop 4) (pss_one (ps_ret (pe_tup (pa_cons (pv 1) (pa_cons (pe_callTy call_tuple_of rfl T.m_tuple PyProof.Rows.boot_tuple (pa_cons (pe_op op_cat (pe_slice sl_list (pv 4) (po_some (pv 5)) po_none) (pe_slice sl_list (pv 4) po_none (po_some (pv 5)))) pa_nil)) (pa_cons (pe_callTy call_tuple_of rfl T.m_tuple PyProof.Rows.boot_tuple (pa_cons (pv 6) pa_nil)) pa_nil))))))
  obtain ⟨ct2, ch2, cu2⟩ := cutS (X := (cxOf CX0 P w K mg base ["_law_pen", "_law_many", "_law_most", "_law_rows", "_law_boughs", "_law_turn", "_law_cross_here"] "_law_wood" (defScope s_law_wood) a.f_law_wood cdv A outer s H E).nox) (st := (defBody s_law_wood).drop 2) (pss_cons (ps_set (i := 5) sc_law_wood.nd rfl (Or.inl rfl) (pe_call G_law_next (hr.mono (by first | decide | omega)) rfl T.g_law_next T.K_law_next.kp T.B_law_next .nil pass0 (pa_cons (pv 0) (pa_cons (pe_op op_add (pe_callB (lenS (K := K)) rfl T.m_len PySem.boot_len (pa_cons (pv 4) pa_nil)) pe_int) pa_nil))))
      (pss_cons (ps_setLc (i := 6) sc_law_wood.nd rfl rfl rfl (sc0 := defScope s_law_wood) (XN := ["_law_pen", "_law_many", "_law_most", "_law_rows", "_law_boughs", "_law_turn", "_law_cross_here"]) (N' := ["_law_k", "_law_pen", "_law_many"]) (n := 1) (kp := [0, 1]) rfl (pi_range1 rfl T.m_range (pa_cons (pe_call G_law_next (hr.mono (by first | decide | omega)) rfl T.g_law_next T.K_law_next.kp T.B_law_next .nil pass0 (pa_cons (pv 0) (pa_cons (pe_op op_add (pv 2) pe_int) pa_nil))) pa_nil)) rfl rfl (by decide +kernel) (fun _ _ _ _ _ => (pg_name (i := 0) (by show List.Nodup (["_law_k", "_law_pen", "_law_many"] : List Str); decide +kernel) rfl (Or.inl rfl))) (fun _ _ _ _ _ => pts_nil) (fun _ _ _ _ _ => (pe_call G_law_cross (hr.mono (by first | decide | omega)) rfl T.g_law_cross T.K_law_cross.kp T.B_law_cross .nil pass0 (pa_cons (pv 1) (pa_cons (pv 2) pa_nil)))))
      ch4))
  refine ⟨_, (pss_cons (ps_set (i := 3) sc_law_wood.nd rfl (Or.inl rfl) (pe_call G_law_kids (hr.mono (by first | decide | omega)) rfl T.g_law_kids T.K_law_kids.kp T.B_law_kids .nil pass0 (pa_cons (pv 0) (pa_cons (pv 1) pa_nil))))
      (pss_cons (ps_setLc (i := 4) sc_law_wood.nd rfl rfl rfl (sc0 := defScope s_law_wood) (XN := ["_law_pen", "_law_many", "_law_most", "_law_rows", "_law_boughs", "_law_turn", "_law_cross_here"]) (N' := ["_law_up", "_law_kids_here", "_law_pen"]) (n := 2) (kp := [0]) rfl (piL (K := K) (pv 3)) rfl rfl (by decide +kernel) (fun _ _ _ _ _ => (pgT (K := K) (n := 2) rfl (pgs_cons (pg_name (i := 0) (by show List.Nodup (["_law_up", "_law_kids_here", "_law_pen"] : List Str); decide +kernel) rfl (Or.inl rfl)) (pgs_cons (pg_name (i := 1) (by show List.Nodup (["_law_up", "_law_kids_here", "_law_pen"] : List Str); decide +kernel) rfl (Or.inl rfl)) pgs_nil)))) (fun _ _ _ _ _ => pts_nil) (fun _ _ _ _ _ => (pe_call G_law_bough (hr.mono (by first | decide | omega)) rfl T.g_law_bough T.K_law_bough.kp T.B_law_bough .nil pass0 (pa_cons (pv 2) (pa_cons (pv 0) (pa_cons (pv 1) pa_nil))))))
      ch2)), ?_⟩
  refine ⟨_, rfl, _, rfl, pen, sp, ns, m, k, rfl, pn, k0, by omega, m1, m9, fun g gs ka H1 sx1 hp1 ka0 ka1 GA GK => ?_⟩
  have ngp : g ≠ pen := fun z => by have := pn.at_; rw [← z, GA.new] at this; cases this
  have few := GK.few
  have pk := GK.perm.length_eq
  rw [List.length_map, List.length_range'] at pk
  refine ⟨_, rfl, g, rfl, ⟨_, SqL.of GA.at_⟩, ?_⟩
  refine lc_list (K := K) (a := g) (xs := gs.map fun x => V.ref x.t) (fun i ys σ H2 => (∃ v v', σ = [v, v', some (.ref pen)]) ∧ SameX pen H1 H2 ∧ ∃ (kk : Int) (bs : List PyData), H2 pen = some (.lst [.ref sp, .int kk]) ∧ ka ≤ kk ∧ kk ≤ ka + 3 * i ∧ DnL H2 bs ys ∧ bs.length = i ∧ (∀ b ∈ bs, isBough m b = true) ∧ bs.flatMap kidsOf = (gs.take i).flatMap (·.kids) ∧ bs.all (flatD 3) = true)
    ⟨⟨none, none, rfl⟩, SameX.refl _ _, ka, [], hp1, Int.le_refl _, by omega, rfl, rfl, (fun _ z => nomatch z), rfl, rfl⟩ (fun i ys σ H2 hi pv => ?_) (fun i ys σ H2 hi pv => ?_) (fun i x ys σ H2 hx pv => ?_) (fun ys σ H2 pv bl hbl => ?_)
  · obtain ⟨_, _, kk, bs, _, _, _, dn, ln, _⟩ := pv
    have := dn.length
    rw [List.length_map] at hi
    exact small (by omega)
  · exact SqL.of (pv.2.1 _ _ ngp GA.at_)
  · obtain ⟨⟨v, v', rfl⟩, sx2, kk, bs, hp2, kk0, kk1, dn, ln, ok, ki, fl⟩ := pv
    rw [List.getElem?_map] at hx
    obtain ⟨x, hx', rfl⟩ := Option.map_eq_some_iff.mp hx
    have hil : i < gs.length := (List.getElem?_eq_some_iff.mp hx').1
    have hm := List.mem_of_getElem? hx'
    have ty : H2 x.t = some (.tup [.int x.up, .ref x.l]) := (SameX.tup hp1 sx2) _ _ (GA.tup x hm)
    have lx := GA.lst x hm
    have nlp : x.l ≠ pen := fun z => by have := pn.at_; rw [← z, lx.2.1] at this; cases this
    have gx := GK.each x hm
    have kl : x.kids.length ≤ 9 := by
      have : x.kids.length ≤ (gs.flatMap (·.kids)).length := by
        obtain ⟨l1, l2, e⟩ := List.append_of_mem hm
        rw [e, List.flatMap_append, List.flatMap_cons, List.length_append, List.length_append]
        omega
      omega
    refine ⟨x.t, _, rfl, sqT ty, rfl, _, _, rfl, _, _, rfl, rfl, ?_⟩
    refine ⟨_, rfl, _, rfl, _, rfl, pen, sp, ns, x.l, x.up, x.kids, m, kk, rfl, pn.to (sx1.trans sx2) hp2, by omega, by omega, sx2 _ _ nlp lx.1, nlp, kl, gx.1, gx.2.1, gx.2.2, fun dd vv kb H3 sx3 hp3 kb0 kb1 hd hb hf hk => ?_⟩
    refine ⟨⟨_, _, rfl⟩, sx2.trans sx3, kb, bs ++ [dd], hp3, by omega, by push_cast; omega, (DnL.tupS (SameX.tup hp2 sx3) fl dn).append ⟨vv, [], rfl, hd, rfl⟩, by rw [List.length_append, List.length_singleton, ln], fun b hb' => ?_, ?_, ?_⟩
    · rcases List.mem_append.mp hb' with z | z
      · exact ok b z
      · rw [List.mem_singleton.mp z]
        exact hb
    · rw [List.flatMap_append, ki, flatMap_take hx']
      simp [hk]
    · rw [List.all_append, fl]
      simp [hf]
  obtain ⟨_, sx2, kk, bs, hp2, kk0, kk1, dn, ln, okb, ki, fl⟩ := pv
  rw [List.length_map] at ln ki kk1
  rw [List.take_length] at ki
  have lys := dn.length
  have s2 := same_new hbl (.lst ys)
  have gb : GoodB m bs := ⟨okb, by rw [ki]; exact GK.perm⟩
  have sxB := (sx1.trans sx2).trans (Same.x s2)
  have hpB := s2 _ _ hp2
  have nbp : bl ≠ pen := fun z => by rw [z, hp2] at hbl; cases hbl
  refine cu2 _ _ _ ?_
  refine ⟨_, rfl, _, rfl, bl, _, rfl, .inl (SqL.of upd_same), _, _, rfl, rfl, pen, sp, ns, _, kk, rfl, pn.to sxB hpB, by omega, by omega, by omega, fun tn tn0 tn1 => ?_⟩
  obtain ⟨tt, rfl⟩ : ∃ tt : Nat, tn = (tt : Int) := ⟨tn.toNat, by omega⟩
  have sxC := sxB.trans (sameX_pen (pen := pen) (.lst [.ref sp, .int (kk + 1)]))
  refine ⟨_, rfl, _, rfl, _, _, rfl, rfl, pen, sp, ns, _, kk + 1, rfl, pn.to sxC upd_same, by omega, by omega, by omega, fun cn cn0 cn1 => ?_⟩
  have sxD := sxC.trans (sameX_pen (pen := pen) (.lst [.ref sp, .int (kk + 1 + 1)]))
  generalize hHD : L2.upd (L2.upd (L2.upd H2 bl (.lst ys)) pen (.lst [.ref sp, .int (kk + 1)])) pen (.lst [.ref sp, .int (kk + 1 + 1)]) = HD at *
  have hpD : HD pen = some (.lst [.ref sp, .int (kk + 1 + 1)]) := by rw [← hHD]; exact upd_same
  have hblD : HD bl = some (.lst ys) := by rw [← hHD, upd_ne nbp, upd_ne nbp]; exact upd_same
  have dnD : DnL HD bs ys := by
    rw [← hHD]
    exact DnL.pen upd_same fl (DnL.pen hpB fl (DnL.same s2 _ _ dn))
  refine ⟨_, rfl, by rw [p62]; omega, by rw [p62]; omega, ?_⟩
  refine lc_range0 (k := cn.toNat) (fun i zs σ H3 => (∃ v, σ = [v, some (.ref pen), some (.int m)]) ∧ SameX pen HD H3 ∧ ∃ (kc : Int) (cs : List PyData), H3 pen = some (.lst [.ref sp, .int kc]) ∧ kk + 2 ≤ kc ∧ kc ≤ kk + 2 + 6 * i ∧ DnL H3 cs zs ∧ cs.length = i ∧ (∀ c ∈ cs, isTie m c = true) ∧ cs.all (flatD 3) = true)
    ⟨⟨none, rfl⟩, SameX.refl _ _, kk + 1 + 1, [], hpD, by omega, by omega, rfl, rfl, (fun _ z => nomatch z), rfl⟩ (fun i zs σ H3 hi pv => ?_) (fun i zs σ H3 hi pv => ?_) (fun zs σ H3 pv cl hcl => ?_)
  · obtain ⟨_, _, kc, cs, _, _, _, dc, lc, _⟩ := pv
    have := dc.length
    exact small (by omega)
  · obtain ⟨⟨v, rfl⟩, sx3, kc, cs, hp3, kc0, kc1, dc, lc, okc, fc⟩ := pv
    refine ⟨_, rfl, _, rfl, pen, sp, ns, m, kc, rfl, pn.to (sxD.trans sx3) hp3, by omega, by omega, m1, m9, fun dd vv kd H4 sx4 hp4 kd0 kd1 hd ht hf => ?_⟩
    refine ⟨⟨_, rfl⟩, sx3.trans sx4, kd, cs ++ [dd], hp4, by omega, by push_cast; omega, (DnL.tupS (SameX.tup hp3 sx4) fc dc).append ⟨vv, [], rfl, hd, rfl⟩, by rw [List.length_append, List.length_singleton, lc], fun b hb' => ?_, ?_⟩
    · rcases List.mem_append.mp hb' with z | z
      · exact okc b z
      · rw [List.mem_singleton.mp z]
        exact ht
    · rw [List.all_append, fc]
      simp [hf]
  obtain ⟨_, sx3, kc, cs, hp3, kc0, kc1, dc, lc, okc, fc⟩ := pv
  have lzs := dc.length
  have s4 := same_new hcl (.lst zs)
  have hbl4 := s4 _ _ (sx3 _ _ nbp hblD)
  have dn3 := DnL.tupS (SameX.tup hpD sx3) fl dnD
  refine cu4 _ _ _ ?_
  refine ⟨_, rfl, _, rfl, _, rfl, _, rfl, bl, _, rfl, SqL.of hbl4, fun p1 hp1' => ?_⟩
  have s5 := same_new hp1' (.lst (cutV ys (some (tt : Int)) none))
  refine ⟨_, rfl, _, rfl, _, rfl, bl, _, rfl, SqL.of (s5 _ _ hbl4), fun p2 hp2' => ?_⟩
  have s6 := same_new hp2' (.lst (cutV ys none (some (tt : Int))))
  have l1 := cutV_length ys (some (tt : Int)) none
  have l2 := cutV_length ys none (some (tt : Int))
  refine ⟨p1, p2, _, _, rfl, rfl, s6 _ _ upd_same, upd_same, small (by omega), fun p3 hp3' => ?_⟩
  rw [cut_rotV ys tt (by omega)] at *
  have s7 := same_new hp3' (.lst (ys.drop tt ++ ys.take tt))
  refine ⟨p3, _, rfl, .inl ⟨SqL.of upd_same, fun t1 ht1 => ?_⟩⟩
  have s8 := same_new ht1 (.tup (ys.drop tt ++ ys.take tt))
  have s48 := (((s5.trans s6).trans s7).trans s8)
  refine ⟨_, rfl, cl, _, rfl, .inl ⟨SqL.of (s48 _ _ upd_same), fun t2 ht2 => ?_⟩⟩
  have s9 := same_new ht2 (.tup zs)
  refine ⟨small (by show 3 ≤ 1000; decide), fun wd hwd => ?_⟩
  have s10 := same_new hwd (.tup [.int m, .ref t1, .ref t2])
  have sE := (((s4.trans s48).trans s9).trans s10)
  refine q wd (bs.drop tt ++ bs.take tt) cs kc _ ((sxD.trans sx3).trans (Same.x sE)) (sE _ _ hp3) (by omega) (by omega) ⟨⟨ys.drop tt ++ ys.take tt, zs, ⟨t1, t2, upd_same, s10 _ _ (s9 _ _ upd_same), s10 _ _ upd_same⟩, (DnL.same sE _ _ ((DnL.drop tt dn3).append (DnL.take tt dn3))), DnL.same sE _ _ dc⟩, gb.rot tt, okc, ?_, by omega, ?_, fc, m1, m9⟩ (by omega)
  · rw [List.length_append, List.length_drop, List.length_take]
    omega
  · rw [List.all_eq_true]
    intro b hb'
    exact (List.all_eq_true.mp fl) b (rot_mem hb')

end
section
variable {P : Program} {w : World} {K : PySem.W.Frag} {mg : Str → Option Value} {base : Heap} {a : Adr} {d : Fds}
theorem ok_law_crossed (T : Txt K mg a d) : FnOk P w K mg base CX0 4 a.f_law_crossed d.f_law_crossed ["_law_pen", "_law_wood_here"] (spCrossedP K) := by
  have G_law_next := ok_law_next (P := P) (w := w) (base := base) T
  have G_law_cross := ok_law_cross (P := P) (w := w) (base := base) T
  refine T.K_law_crossed.ok sc_law_crossed (fun vs H Q E h => ?_) (fun cdv A outer s H vs Q E hr h => ?_)
  · obtain ⟨pen, sp, ns, wd, m, bs, cs, k, rfl, _⟩ := h
    rfl
  obtain ⟨pen, sp, ns, wd, m, bs, cs, k, rfl, pn, k0, k1, W, c8, q⟩ := h
  have p62 : (2 : Int) ^ 62 = 4611686018427387904 := by decide
  have sx1 := sameX_pen (pen := pen) (H := H) (.lst [.ref sp, .int (k + 1)])
  have W1 := W.tupS (SameX.tup pn.at_ sx1)
  refine ⟨_, (pss_cons (ps_if (PW.pt (pw_or (pt_cmpR op_gt (pe_call G_law_next (hr.mono (by first | decide | omega)) rfl T.g_law_next T.K_law_next.kp T.B_law_next .nil pass0 (pa_cons (pv 0) (pa_cons pe_int pa_nil))) pe_int (nomark _)) (pw_or1 (pt_cmpR op_gt (pe_ix (ixT (K := K)) (pv 1) pe_int (fun _ _ => rfl)) pe_int (nomark _))))) (pss_one (ps_ret (pv 1))) pss_nil)
      (pss_cons (ps_setLc (i := 2) sc_law_crossed.nd rfl rfl rfl (sc0 := defScope s_law_crossed) (XN := ["_law_pen", "_law_wood_here", "_law_more"]) (N' := ["_law_k", "_law_pen", "_law_wood_here"]) (n := 1) (kp := [0, 1]) rfl (pi_range1 rfl T.m_range (pa_cons (pe_op op_sub pe_int (pe_callB (lenS (K := K)) rfl T.m_len PySem.boot_len (pa_cons (pe_ix (ixT (K := K)) (pv 1) pe_int (fun _ _ => rfl)) pa_nil))) pa_nil)) rfl rfl (by decide +kernel) (fun _ _ _ _ _ => (pg_name (i := 0) (by show List.Nodup (["_law_k", "_law_pen", "_law_wood_here"] : List Str); decide +kernel) rfl (Or.inl rfl))) (fun _ _ _ _ _ => pts_nil) (fun _ _ _ _ _ => (pe_call G_law_cross (hr.mono (by first | decide | omega)) rfl T.g_law_cross T.K_law_cross.kp T.B_law_cross .nil pass0 (pa_cons (pv 1) (pa_cons (pe_ix (ixT (K := K)) (pv 2) pe_int (fun _ _ => rfl)) pa_nil)))))
      (pss_one (ps_ret (pe_tup (pa_cons (pe_ix (ixT (K := K)) (pv 1) pe_int (fun _ _ => rfl)) (pa_cons (pe_ix (ixT (K := K)) (pv 1) pe_int (fun _ _ => rfl)) (pa_cons (pe_op op_catTA (pe_ix (ixT (K := K)) (pv 1) pe_int (fun _ _ => rfl)) (pe_callTy call_tuple_of rfl T.m_tuple PyProof.Rows.boot_tuple (pa_cons (pv 2) pa_nil))) pa_nil)))))))), ?_⟩
  refine ⟨_, rfl, pen, sp, ns, 4, k, rfl, pn, k0, by omega, by decide, fun c c0 c1 => ?_⟩
  generalize hH1 : L2.upd H pen (.lst [.ref sp, .int (k + 1)]) = H1 at *
  have hp1 : H1 pen = some (.lst [.ref sp, .int (k + 1)]) := by rw [← hH1]; exact upd_same
  have same := q wd cs (k + 1) H1 sx1 hp1 (by omega) (by omega) W1 c8
  refine ⟨_, _, rfl, rfl, _, rfl, ?_⟩
  obtain ⟨xs, ys, ⟨tb, tc, hw, hb, hc⟩, db, dc⟩ := W1.ex
  have lc := dc.length
  refine ite2 (fun z => ?_) (fun z => ?_)
  · refine iteT ?_
    exact ⟨_, rfl, same⟩
  · refine ⟨_, rfl, wd, _, _, _, rfl, rfl, sqT hw, at0, _, _, rfl, rfl, _, rfl, ?_⟩
    refine ite2 (fun z2 => ⟨_, rfl, same⟩) (fun z2 => ?_)
    refine ⟨_, rfl, wd, _, _, _, rfl, rfl, sqT hw, at2, tc, _, rfl, .inr (sqT hc), _, _, rfl, rfl, _, rfl, by rw [p62]; omega, by rw [p62]; omega, ?_⟩
    refine lc_range0 (k := ((8 : Int) - (ys.length : Nat)).toNat) (fun i zs σ H3 => (∃ v, σ = [v, some (.ref pen), some (.ref wd)]) ∧ SameX pen H1 H3 ∧ ∃ (kc : Int) (ds : List PyData), H3 pen = some (.lst [.ref sp, .int kc]) ∧ k + 1 ≤ kc ∧ kc ≤ k + 1 + 6 * i ∧ DnL H3 ds zs ∧ ds.length = i ∧ (∀ c ∈ ds, isTie m c = true) ∧ ds.all (flatD 3) = true)
      ⟨⟨none, rfl⟩, SameX.refl _ _, k + 1, [], hp1, by omega, by omega, rfl, rfl, (fun _ z => nomatch z), rfl⟩ (fun i zs σ H3 hi pv => ?_) (fun i zs σ H3 hi pv => ?_) (fun zs σ H3 pv cl hcl => ?_)
    · obtain ⟨_, _, kc, ds, _, _, _, dd, ld, _⟩ := pv
      have := dd.length
      exact small (by omega)
    · obtain ⟨⟨v, rfl⟩, sx3, kc, ds, hp3, kc0, kc1, dd, ld, okd, fd⟩ := pv
      have hw3 := (SameX.tup hp1 sx3) _ _ hw
      refine ⟨_, rfl, _, rfl, wd, _, _, _, rfl, rfl, sqT hw3, at0, pen, sp, ns, m, kc, rfl, pn.to (sx1.trans sx3) hp3, by omega, by omega, W.m1, W.m9, fun d1 vv kd H4 sx4 hp4 kd0 kd1 hd ht hf => ?_⟩
      refine ⟨⟨_, rfl⟩, sx3.trans sx4, kd, ds ++ [d1], hp4, by omega, by push_cast; omega, (DnL.tupS (SameX.tup hp3 sx4) fd dd).append ⟨vv, [], rfl, hd, rfl⟩, by rw [List.length_append, List.length_singleton, ld], fun b hb' => ?_, ?_⟩
      · rcases List.mem_append.mp hb' with z | z
        · exact okd b z
        · rw [List.mem_singleton.mp z]
          exact ht
      · rw [List.all_append, fd]
        simp [hf]
    obtain ⟨_, sx3, kc, ds, hp3, kc0, kc1, dd, ld, okd, fd⟩ := pv
    have ldz := dd.length
    have s4 := same_new hcl (.lst zs)
    have t3 := SameX.tup hp1 sx3
    have hw4 := s4 _ _ (t3 _ _ hw)
    have hc4 := s4 _ _ (t3 _ _ hc)
    refine ⟨_, rfl, wd, _, _, _, rfl, rfl, sqT hw4, at0, _, rfl, wd, _, _, _, rfl, rfl, sqT hw4, at1, _, rfl, wd, _, _, _, rfl, rfl, sqT hw4, at2, _, rfl, cl, _, rfl, .inl ⟨SqL.of upd_same, fun t1 ht1 => ?_⟩⟩
    have s5 := same_new ht1 (.tup zs)
    refine ⟨tc, t1, _, _, rfl, rfl, s5 _ _ hc4, upd_same, small (by omega), fun t2 H6 s6 ht2 => ?_⟩
    refine ⟨small (by show 3 ≤ 1000; decide), fun wd' hwd => ?_⟩
    have s7 := same_new hwd (.tup [.int m, .ref tb, .ref t2])
    have sE := ((s4.trans s5).trans s6).trans s7
    refine q wd' (cs ++ ds) kc _ ((sx1.trans sx3).trans (Same.x sE)) (sE _ _ hp3) (by omega) (by omega) ⟨⟨xs, ys ++ zs, ⟨tb, t2, upd_same, sE _ _ (t3 _ _ hb), s7 _ _ ht2⟩, DnL.same sE _ _ (DnL.tupS t3 W.fb db), DnL.same sE _ _ ((DnL.tupS t3 W.fc dc).append dd)⟩, W.gb, fun c hc' => ?_, W.b8, ?_, W.fb, ?_, W.m1, W.m9⟩ ?_
    · rcases List.mem_append.mp hc' with z | z
      · exact W.gc c z
      · exact okd c z
    · rw [List.length_append]
      omega
    · rw [List.all_append, W.fc, fd]
      rfl
    · rw [List.length_append]
      omega

end
section
variable {P : Program} {w : World} {K : PySem.W.Frag} {mg : Str → Option Value} {base : Heap} {a : Adr} {d : Fds}
theorem ok_law_keeps (T : Txt K mg a d) : FnOk P w K mg base CX0 1 a.f_law_keeps d.f_law_keeps ["_law_tie", "_law_some"] spKeeps := by
  refine T.K_law_keeps.ok sc_law_keeps (fun vs H Q E h => ?_) (fun cdv A outer s H vs Q E hr h => ?_)
  · obtain ⟨t, m, n, v, rfl, _⟩ := h
    rfl
  obtain ⟨t, m, n, v, rfl, hd, ok, hm, q⟩ := h
  have q0 := q H (Same.refl H)
  obtain ⟨ct5, ch5, cu5⟩ := cutS (X := (cxOf CX0 P w K mg base ["_law_tie", "_law_some", "_law_up", "_law_low", "_law_high", "_law_kids_here", "_law_many"] "_law_keeps" (defScope s_law_keeps) a.f_law_keeps cdv A outer s H E).nox) (st := (defBody s_law_keeps).drop 5) (pss_cons (ps_if (pt_cmpR op_eq (pe_op op_and (pe_op op_shr (pv 1) (pv 2)) pe_int) pe_int (nomark _)) (pss_one (ps_ret (pe_cmpR op_eq (pv 6) pe_int (nomark _)))) pss_nil)
      (pss_one (ps_ret (pe_chain op_le op_le (pv 3) (pv 6) (pv 4)))))
  obtain ⟨ct3, ch3, cu3⟩ := cutS (X := (cxOf CX0 P w K mg base ["_law_tie", "_law_some", "_law_up", "_law_low", "_law_high", "_law_kids_here", "_law_many"] "_law_keeps" (defScope s_law_keeps) a.f_law_keeps cdv A outer s H E).nox) (st := (defBody s_law_keeps).drop 3) (pss_cons (ps_asg (pv 0) (pgT (K := K) (n := 4) rfl (pgs_cons (pg_name (i := 2) sc_law_keeps.nd rfl (Or.inl rfl)) (pgs_cons (pg_name (i := 3) sc_law_keeps.nd rfl (Or.inl rfl)) (pgs_cons (pg_name (i := 4) sc_law_keeps.nd rfl (Or.inl rfl)) (pgs_cons (pg_name (i := 5) sc_law_keeps.nd rfl (Or.inl rfl)) pgs_nil))))))
      (pss_cons (ps_set (i := 6) sc_law_keeps.nd rfl (Or.inl rfl) (pe_callB (call_sum_ints rfl) rfl T.m_sum PyProof.Rows.boot_sum (pa_cons (pe_lc (sc0 := defScope s_law_keeps) (XN := ["_law_tie", "_law_some", "_law_up", "_law_low", "_law_high", "_law_kids_here", "_law_many"]) (N' := ["_law_k", "_law_some"]) (n := 1) (kp := [1]) rfl (piT (K := K) (pv 5)) rfl rfl (by decide +kernel) (fun _ _ _ _ _ => (pg_name (i := 0) (by show List.Nodup (["_law_k", "_law_some"] : List Str); decide +kernel) rfl (Or.inl rfl))) (fun _ _ _ _ _ => pts_nil) (fun _ _ _ _ _ => (pe_op op_and (pe_op op_shr (pv 1) (pv 0)) pe_int))) pa_nil)))
      ch5))
  obtain ⟨ct2, ch2, cu2⟩ := cutS (X := (cxOf CX0 P w K mg base ["_law_tie", "_law_some", "_law_up", "_law_low", "_law_high", "_law_kids_here", "_law_many"] "_law_keeps" (defScope s_law_keeps) a.f_law_keeps cdv A outer s H E).nox) (st := (defBody s_law_keeps).drop 2) (pss_cons (ps_if (pt_cmpR op_eq (pe_ix (ixT (K := K)) (pv 0) pe_int (fun _ _ => rfl)) pe_str (nomark _)) (pss_one (ps_ret (pe_cmpR op_le (pe_callB (call_sum_ints rfl) rfl T.m_sum PyProof.Rows.boot_sum (pa_cons (pe_lc (sc0 := defScope s_law_keeps) (XN := ["_law_tie", "_law_some", "_law_up", "_law_low", "_law_high", "_law_kids_here", "_law_many"]) (N' := ["_law_k", "_law_number", "_law_some"]) (n := 2) (kp := [1]) rfl (piT (K := K) (pe_ix (ixT (K := K)) (pv 0) pe_int (fun _ _ => rfl))) rfl rfl (by decide +kernel) (fun _ _ _ _ _ => (pgT (K := K) (n := 2) rfl (pgs_cons (pg_name (i := 0) (by show List.Nodup (["_law_k", "_law_number", "_law_some"] : List Str); decide +kernel) rfl (Or.inl rfl)) (pgs_cons (pg_name (i := 1) (by show List.Nodup (["_law_k", "_law_number", "_law_some"] : List Str); decide +kernel) rfl (Or.inl rfl)) pgs_nil)))) (fun _ _ _ _ _ => (pts_one (pt_cmpR op_eq (pe_op op_and (pe_op op_shr (pv 2) (pv 0)) pe_int) pe_int (nomark _)))) (fun _ _ _ _ _ => (pv 1))) pa_nil)) (pe_ix (ixT (K := K)) (pv 0) pe_int (fun _ _ => rfl)) (nomark _)))) pss_nil)
      ch3)
  obtain ⟨ct1, ch1, cu1⟩ := cutS (X := (cxOf CX0 P w K mg base ["_law_tie", "_law_some", "_law_up", "_law_low", "_law_high", "_law_kids_here", "_law_many"] "_law_keeps" (defScope s_law_keeps) a.f_law_keeps cdv A outer s H E).nox) (st := (defBody s_law_keeps).drop 1) (pss_cons (ps_if (pt_cmpR op_eq (pe_ix (ixT (K := K)) (pv 0) pe_int (fun _ _ => rfl)) pe_str (nomark _)) (pss_one (ps_ret (pe_or (pe_cmpR op_eq (pe_op op_and (pe_op op_shr (pv 1) (pe_ix (ixT (K := K)) (pv 0) pe_int (fun _ _ => rfl))) pe_int) pe_int (nomark _)) (pe_one (pe_cmpR op_eq (pe_op op_and (pe_op op_shr (pv 1) (pe_ix (ixT (K := K)) (pv 0) pe_int (fun _ _ => rfl))) pe_int) pe_int (nomark _)))))) pss_nil)
      ch2)
  refine ⟨_, (pss_cons (ps_if (pt_cmpR op_eq (pe_ix (ixT (K := K)) (pv 0) pe_int (fun _ _ => rfl)) pe_str (nomark _)) (pss_one (ps_ret (pe_or (pe_cmpR op_eq (pe_op op_and (pe_op op_shr (pv 1) (pe_ix (ixT (K := K)) (pv 0) pe_int (fun _ _ => rfl))) pe_int) pe_int (nomark _)) (pe_one (pe_cmpR op_eq (pe_op op_and (pe_op op_shr (pv 1) (pe_ix (ixT (K := K)) (pv 0) pe_int (fun _ _ => rfl))) pe_int) pe_int (nomark _)))))) pss_nil)
      ch1), ?_⟩
  cases t with
  | needs x y =>
    obtain ⟨p, rfl, hp⟩ := at_word hd
    refine ⟨_, rfl, p, _, _, _, rfl, rfl, sqT hp, at0, rfl, _, rfl, ?_⟩
    refine iteD rfl ?_
    refine ⟨_, rfl, _, rfl, p, _, _, _, rfl, rfl, sqT hp, at1, _, _, rfl, rfl, by omega, _, _, rfl, rfl, rfl, _, rfl, ?_⟩
    rw [dec_shr0]
    have q1 : Q (.bl (!n.testBit x || n.testBit y)) H := q0
    refine ite2 (fun c => ?_) (fun c => ?_)
    · rw [c, Bool.true_or] at q1
      exact q1
    · refine ⟨_, rfl, _, rfl, p, _, _, _, rfl, rfl, sqT hp, at2, _, _, rfl, rfl, by omega, _, _, rfl, rfl, rfl, ?_⟩
      rw [Bool.eq_false_iff.mpr c, Bool.false_or, ← dec_shr1] at q1
      exact q1
  | bans x y =>
    obtain ⟨p, rfl, hp⟩ := at_word hd
    refine ⟨_, rfl, p, _, _, _, rfl, rfl, sqT hp, at0, rfl, _, rfl, ?_⟩
    refine iteDN bans_needs ?_
    refine cu1 _ _ _ ?_
    refine ⟨_, rfl, p, _, _, _, rfl, rfl, sqT hp, at0, rfl, _, rfl, ?_⟩
    refine iteD rfl ?_
    refine ⟨_, rfl, _, rfl, p, _, _, _, rfl, rfl, sqT hp, at1, _, _, rfl, rfl, by omega, _, _, rfl, rfl, rfl, _, rfl, ?_⟩
    rw [dec_shr0]
    have q1 : Q (.bl (!n.testBit x || !n.testBit y)) H := q0
    refine ite2 (fun c => ?_) (fun c => ?_)
    · rw [c, Bool.true_or] at q1
      exact q1
    · refine ⟨_, rfl, _, rfl, p, _, _, _, rfl, rfl, sqT hp, at2, _, _, rfl, rfl, by omega, _, _, rfl, rfl, rfl, ?_⟩
      rw [Bool.eq_false_iff.mpr c, Bool.false_or, ← dec_shr0] at q1
      exact q1
  | most top ps =>
    obtain ⟨p, pq, xs, rfl, hp, hq, hps⟩ := at_most hd
    have lx : xs.length = ps.length := by rw [← hps.length, List.length_map]
    have few : ps.length ≤ m := ok.2.2.2
    refine ⟨_, rfl, p, _, _, _, rfl, rfl, sqT hp, at0, rfl, _, rfl, ?_⟩
    refine iteDN most_needs ?_
    refine cu1 _ _ _ ?_
    refine ⟨_, rfl, p, _, _, _, rfl, rfl, sqT hp, at0, rfl, _, rfl, ?_⟩
    refine iteDN most_bans ?_
    refine cu2 _ _ _ ?_
    refine ⟨_, rfl, p, _, _, _, rfl, rfl, sqT hp, at0, rfl, _, rfl, ?_⟩
    refine iteD rfl ?_
    refine ⟨_, rfl, p, _, _, _, rfl, rfl, sqT hp, at2, pq, rfl, ⟨_, sqT hq⟩, ?_⟩
    refine lc_tup (K := K) (a := pq) (xs := xs) (fun i ys σ H2 => (∃ v v', σ = [v, v', some (.int n)]) ∧ H2 = H ∧ i ≤ ps.length ∧ ys = (((ps.take i).filter fun p => n.testBit p.1).map (·.2)).map V.int) ⟨⟨none, none, rfl⟩, rfl, Nat.zero_le _, rfl⟩ (fun i ys σ H2 hi pv => ?_) (fun i ys σ H2 hi pv => ?_) (fun i x ys σ H2 hx pv => ?_) (fun ys σ H2 pv l hl => ?_)
    · obtain ⟨_, _, h1, rfl⟩ := pv
      rw [List.length_map, List.length_map]
      refine small (Nat.le_trans (List.length_filter_le _ _) ?_)
      rw [List.length_take]
      omega
    · rw [pv.2.1]
      exact sqT hq
    · obtain ⟨⟨v, v', rfl⟩, rfl, h1, rfl⟩ := pv
      obtain ⟨pr, r, hpr, rfl, hr'⟩ := at_pair hps hx
      have hj : i < ps.length := (List.getElem?_eq_some_iff.mp hpr).1
      have ee := PySem.take_succ_filter (fun p : Nat × Int => n.testBit p.1) ps i pr hpr
      refine ⟨r, _, rfl, sqT hr', rfl, _, _, rfl, _, _, rfl, rfl, ?_⟩
      refine ⟨_, rfl, _, rfl, _, _, rfl, rfl, by omega, _, _, rfl, rfl, rfl, _, rfl, ?_⟩
      rw [dec_shr1]
      refine ite2 (fun c => ?_) (fun c => ?_)
      · refine ⟨_, rfl, ⟨_, _, rfl⟩, rfl, hj, ?_⟩
        rw [ee, if_pos c, List.map_append, List.map_append]
        rfl
      · refine ⟨⟨_, _, rfl⟩, rfl, hj, ?_⟩
        rw [ee, if_neg c, List.append_nil]
    · obtain ⟨_, rfl, _, rfl⟩ := pv
      have sm := same_new hl (.lst ((((ps.take xs.length).filter fun p => n.testBit p.1).map (·.2)).map V.int))
      refine ⟨l, _, rfl, SqL.of upd_same, _, rfl, p, _, _, _, rfl, rfl, sqT (sm _ _ hp), at1, _, _, rfl, rfl, ?_⟩
      have q1 := q _ sm
      have e : (Tie.most top ps).keep n = decide ((((ps.take xs.length).filter fun p => n.testBit p.1).map (·.2)).sum ≤ top) := by
        rw [lx, List.take_length]
        rfl
      rw [e] at q1
      exact q1
  | bough u lo hi ks =>
    obtain ⟨p, pk, rfl, hp, hpk⟩ := at_bough hd
    have ok' : Tie.BoughOk m u lo hi ks := ok
    have few := ok'.few
    refine ⟨_, rfl, p, _, _, _, rfl, rfl, sqT hp, at0, rfl, _, rfl, ?_⟩
    refine iteDN int_str ?_
    refine cu1 _ _ _ ?_
    refine ⟨_, rfl, p, _, _, _, rfl, rfl, sqT hp, at0, rfl, _, rfl, ?_⟩
    refine iteDN int_str ?_
    refine cu2 _ _ _ ?_
    refine ⟨_, rfl, p, _, _, _, rfl, rfl, sqT hp, at0, rfl, _, rfl, ?_⟩
    refine iteDN int_str ?_
    refine cu3 _ _ _ ?_
    refine ⟨_, rfl, p, _, rfl, sqT hp, rfl, _, _, rfl, _, _, rfl, _, _, rfl, _, _, rfl, rfl, ?_⟩
    refine ⟨_, rfl, pk, rfl, ⟨_, sqT hpk⟩, ?_⟩
    refine lc_tup (K := K) (a := pk) (xs := ks.map fun k : Nat => V.int (k : Int)) (fun i ys σ H2 => (∃ v, σ = [v, some (.int n)]) ∧ H2 = H ∧ i ≤ ks.length ∧ ys = ((ks.take i).map fun k => if n.testBit k = true then (1 : Int) else 0).map V.int) ⟨⟨none, rfl⟩, rfl, Nat.zero_le _, rfl⟩ (fun i ys σ H2 hi pv => ?_) (fun i ys σ H2 hi pv => ?_) (fun i x ys σ H2 hx pv => ?_) (fun ys σ H2 pv l hl => ?_)
    · obtain ⟨_, _, h1, rfl⟩ := pv
      rw [List.length_map, List.length_map, List.length_take]
      exact small (by omega)
    · rw [pv.2.1]
      exact sqT hpk
    · obtain ⟨⟨v, rfl⟩, rfl, h1, rfl⟩ := pv
      rw [List.getElem?_map] at hx
      obtain ⟨k, hk', rfl⟩ := Option.map_eq_some_iff.mp hx
      have hj : i < ks.length := (List.getElem?_eq_some_iff.mp hk').1
      refine ⟨_, rfl, _, rfl, _, _, rfl, rfl, by omega, _, _, rfl, rfl, ⟨_, rfl⟩, rfl, hj, ?_⟩
      rw [List.take_add_one, hk', Option.toList_some, List.map_append, List.map_append]
      show _ ++ [V.int (Builtin.bitAnd ((n : Int) / 2 ^ ((k : Nat) : Int).toNat) 1)] = _
      rw [shr_bit]
      rfl
    · obtain ⟨_, rfl, _, rfl⟩ := pv
      rw [List.length_map, List.take_length] at *
      have sm := same_new hl (.lst ((ks.map fun k => if n.testBit k = true then (1 : Int) else 0).map V.int))
      refine ⟨l, _, rfl, SqL.of upd_same, ?_⟩
      rw [cnt_sum]
      refine cu5 _ _ _ ?_
      have q1 := q _ sm
      refine ⟨_, rfl, _, rfl, _, _, rfl, rfl, by omega, _, _, rfl, rfl, rfl, _, rfl, ?_⟩
      rw [dec_shr0]
      refine ite2 (fun c => ?_) (fun c => ?_)
      · have c' : ¬ n.testBit u = true := by simpa using c
        rw [keep_no c', ← dec_cnt0] at q1
        exact ⟨_, rfl, rfl, q1⟩
      · have c' : n.testBit u = true := by simpa using c
        rw [keep_up c'] at q1
        refine ⟨_, rfl, _, rfl, _, _, rfl, rfl, _, rfl, ?_⟩
        refine ite2 (fun c2 => ?_) (fun c2 => ?_)
        · rw [c2, Bool.true_and] at q1
          exact ⟨_, rfl, _, _, rfl, rfl, q1⟩
        · rw [Bool.eq_false_iff.mpr c2, Bool.false_and] at q1
          exact q1

end
section
variable {P : Program} {w : World} {K : PySem.W.Frag} {mg : Str → Option Value} {base : Heap} {a : Adr} {d : Fds}
def spTiesL : Sp := fun vs H Q _ => ∃ (wd : Addr) (m : Nat) (ts : List Tie), vs = [.ref wd] ∧ WoodT H wd m ts ∧ ∀ (l : Addr) (xs : List V) (H' : Hp), Same H H' → H l = none → H' l = some (.lst xs) → DnL H' (ts.map Tie.toD) xs → Q (.ref l) H'
theorem ok_law_ties (T : Txt K mg a d) : FnOk P w K mg base CX0 1 a.f_law_ties d.f_law_ties ["_law_wood_here"] spTiesL := by
  refine T.K_law_ties.ok sc_law_ties (fun vs H Q E h => ?_) (fun cdv A outer s H vs Q E hr h => ?_)
  · obtain ⟨wd, m, ts, rfl, _⟩ := h
    rfl
  obtain ⟨wd, m, ts, rfl, W, q⟩ := h
  obtain ⟨xs, ys, ⟨tb, tc, hw, hb, hc⟩, dn⟩ := W.ex
  have few := W.few
  have ln : ts.length = xs.length + ys.length := by
    have := dn.length
    rw [List.length_map, List.length_append] at this
    exact this
  refine ⟨_, (pss_one (ps_ret (pe_op op_cat (pe_callTy call_list_of rfl T.m_list PyProof.Rows.boot_list (pa_cons (pe_ix (ixT (K := K)) (pv 0) pe_int (fun _ _ => rfl)) pa_nil)) (pe_callTy call_list_of rfl T.m_list PyProof.Rows.boot_list (pa_cons (pe_ix (ixT (K := K)) (pv 0) pe_int (fun _ _ => rfl)) pa_nil))))), ?_⟩
  refine ⟨_, rfl, wd, _, _, _, rfl, rfl, sqT hw, at1, tb, _, rfl, .inr (sqT hb), fun l1 hl1 => ?_⟩
  have s1 := same_new hl1 (.lst xs)
  refine ⟨_, rfl, wd, _, _, _, rfl, rfl, sqT (s1 _ _ hw), at2, tc, _, rfl, .inr (sqT (s1 _ _ hc)), fun l2 hl2 => ?_⟩
  have s2 := same_new hl2 (.lst ys)
  refine ⟨l1, l2, xs, ys, rfl, rfl, s2 _ _ upd_same, upd_same, small (by omega), fun l3 hl3 => ?_⟩
  have s3 := (s1.trans s2).trans (same_new hl3 (.lst (xs ++ ys)))
  exact q l3 _ _ s3 ((s1.trans s2).free hl3) upd_same (DnL.same s3 _ _ dn)

end
section
variable {P : Program} {w : World} {K : PySem.W.Frag} {mg : Str → Option Value} {base : Heap} {a : Adr} {d : Fds}
theorem ok_law_kept_by (T : Txt K mg a d) : FnOk P w K mg base CX0 3 a.f_law_kept_by d.f_law_kept_by ["_law_wood_here"] spKeptBy := by
  have G_law_ties := ok_law_ties (P := P) (w := w) (base := base) T
  have G_law_keeps := ok_law_keeps (P := P) (w := w) (base := base) T
  refine T.K_law_kept_by.ok sc_law_kept_by (fun vs H Q E h => ?_) (fun cdv A outer s H vs Q E hr h => ?_)
  · obtain ⟨wd, m, ts, rfl, _⟩ := h
    rfl
  obtain ⟨wd, m, ts, rfl, W, m9, q⟩ := h
  have p62 : (2 : Int) ^ 62 = 4611686018427387904 := by decide
  have pw : 2 ^ m ≤ 512 := pow_le m9
  have pwi : ((2 ^ m : Nat) : Int) ≤ 512 := Int.ofNat_le.mpr pw
  have pwn : (0 : Int) ≤ ((2 ^ m : Nat) : Int) := Int.natCast_nonneg _
  have few := W.few
  refine ⟨_, (pss_one (ps_ret (pe_lc2 (sc0 := defScope s_law_kept_by) (XN := ["_law_wood_here"]) (N' := ["_law_tie", "_law_wood_here"]) (n := 1) (kp := [0]) rfl (piL (K := K) (pe_call G_law_ties (hr.mono (by first | decide | omega)) rfl T.g_law_ties T.K_law_ties.kp T.B_law_ties .nil pass0 (pa_cons (pv 0) pa_nil))) rfl rfl (by decide +kernel) (fun _ _ _ _ _ => (pg_name (i := 0) (by show List.Nodup (["_law_tie", "_law_wood_here"] : List Str); decide +kernel) rfl (Or.inr rfl))) (fun _ _ _ _ _ => pts_nil) (fun _ _ _ _ _ => (pe_lc (sc0 := (relS (lcS (retE (defBody s_law_kept_by)[0]?)) (defScope s_law_kept_by))) (XN := ["_law_tie", "_law_wood_here"]) (N' := ["_law_some", "_law_tie"]) (n := 1) (kp := [0]) rfl (pi_range1 rfl T.m_range (pa_cons (pe_op op_shl pe_int (pe_ix (ixT (K := K)) (pv 1) pe_int (fun _ _ => rfl))) pa_nil)) rfl rfl (by decide +kernel) (fun _ _ _ _ _ => (pg_name (i := 0) (by show List.Nodup (["_law_some", "_law_tie"] : List Str); decide +kernel) rfl (Or.inl rfl))) (fun _ _ _ _ _ => pts_nil) (fun _ _ _ _ _ => (pe_call G_law_keeps (hr.mono (by first | decide | omega)) rfl T.g_law_keeps T.K_law_keeps.kp T.B_law_keeps .nil pass0 (pa_cons (pv 1) (pa_cons (pv 0) pa_nil))))))))), ?_⟩
  refine ⟨_, rfl, wd, m, ts, rfl, W, fun l xs H1 s1 nl hl dn => ?_⟩
  have lx : xs.length = ts.length := by rw [← dn.length, List.length_map]
  obtain ⟨xs0, ys0, ⟨tb, tc, hw, hb, hc⟩, _⟩ := (W.same s1).ex
  refine ⟨l, rfl, ⟨_, SqL.of hl⟩, ?_⟩
  refine lc_list (K := K) (a := l) (xs := xs) (fun j ys σ H2 => (∃ v, σ = [v, some (.ref wd)]) ∧ Same H1 H2 ∧ ys.length = j ∧ ∀ (i : Nat) (t : Tie), i < j → ts[i]? = some t → ∃ p, ys[i]? = some (.ref p) ∧ H2 p = some (.lst (boolsL m t))) ⟨⟨none, rfl⟩, Same.refl _, rfl, fun i t hi => absurd hi (Nat.not_lt_zero i)⟩ (fun j ys σ H2 hj pv => ?_) (fun j ys σ H2 hj pv => ?_) (fun j x ys σ H2 hx pv => ?_) (fun ys σ H2 pv p hp => ?_)
  · obtain ⟨_, _, h1, _⟩ := pv
    exact small (by omega)
  · exact SqL.of (pv.2.1 _ _ hl)
  · obtain ⟨⟨v, rfl⟩, s2, h1, each⟩ := pv
    obtain ⟨t, ht, hd⟩ := dn_tie dn hx
    refine ⟨_, rfl, wd, _, _, _, rfl, rfl, sqT (s2 _ _ hw), at0, _, _, rfl, rfl, ⟨by omega, by omega, by decide⟩, _, rfl, by rw [shl1, p62]; omega, by rw [shl1, p62]; omega, ?_⟩
    rw [shl1, Int.toNat_natCast]
    refine lc_range0 (k := 2 ^ m) (fun i zs σ H3 => (∃ v, σ = [v, some x]) ∧ Same H2 H3 ∧ zs = (List.range i).map fun s => V.bl (t.keep s)) ⟨⟨none, rfl⟩, Same.refl _, rfl⟩ (fun i zs σ H3 hi pv => ?_) (fun i zs σ H3 hi pv => ?_) (fun zs σ H3 pv p hp => ?_)
    · obtain ⟨_, _, rfl⟩ := pv
      rw [List.length_map, List.length_range]
      exact small (by omega)
    · obtain ⟨⟨v, rfl⟩, s3, rfl⟩ := pv
      refine ⟨_, rfl, _, rfl, t, m, i, x, rfl, Dn.same (s2.trans s3) _ _ hd, W.ok t (List.mem_of_getElem? ht), by omega, fun H4 s4 => ?_⟩
      refine ⟨⟨_, rfl⟩, s3.trans s4, ?_⟩
      rw [List.range_succ, List.map_append]
      rfl
    · obtain ⟨_, s3, rfl⟩ := pv
      have s4 := s3.trans (same_new hp (.lst (boolsL m t)))
      refine ⟨⟨_, rfl⟩, s2.trans s4, by rw [List.length_append, List.length_singleton, h1], fun i t' hi ht' => ?_⟩
      by_cases e : i = j
      · subst e
        rw [ht] at ht'
        cases ht'
        refine ⟨p, ?_, upd_same⟩
        rw [List.getElem?_append_right (by omega), h1, Nat.sub_self]
        rfl
      · obtain ⟨p', a1, a2⟩ := each i t' (by omega) ht'
        refine ⟨p', ?_, s4 _ _ a2⟩
        rw [List.getElem?_append_left (by omega)]
        exact a1
  · obtain ⟨_, s2, h1, each⟩ := pv
    have s3 := same_new hp (.lst ys)
    rw [lx] at h1 each
    exact q p _ ((s1.trans s2).trans s3) ((s1.trans s2).free hp) ⟨ys, upd_same, h1, fun i t ht => by
      obtain ⟨p', a1, a2⟩ := each i t (List.getElem?_eq_some_iff.mp ht).1 ht
      exact ⟨p', a1, s3 _ _ a2⟩⟩

end
section
variable {P : Program} {w : World} {K : PySem.W.Frag} {mg : Str → Option Value} {base : Heap} {a : Adr} {d : Fds}
theorem ok_law_broken (T : Txt K mg a d) : FnOk P w K mg base CX0 1 a.f_law_broken d.f_law_broken ["_law_kept", "_law_yes", "_law_no"] spBrokenK := by
  refine T.K_law_broken.ok sc_law_broken (fun vs H Q E h => ?_) (fun cdv A outer s H vs Q E hr h => ?_)
  · obtain ⟨p, m, t, y, n, rfl, _⟩ := h
    rfl
  obtain ⟨p, m, t, y, n, rfl, hp, ok, m9, S, q⟩ := h
  have p62 : (2 : Int) ^ 62 = 4611686018427387904 := by decide
  have pw : 2 ^ m ≤ 512 := pow_le m9
  have q0 := q H (Same.refl H)
  have si := sb_iffM ok S
  have ln : (boolsL m t).length = 2 ^ m := by rw [List.length_map, List.length_range]
  refine ⟨_, (pss_cons (ps_for PassesOwn.never rfl (pi_range1 rfl T.m_range (pa_cons (pe_callB (lenS (K := K)) rfl T.m_len PySem.boot_len (pa_cons (pv 0) pa_nil)) pa_nil)) (pg_name (i := 3) sc_law_broken.nd rfl (Or.inl rfl)) (pss_one (ps_if (PW.pt (pw_and (pt_val (pe_ix (ixL (K := K)) (pv 0) (pv 3) (fun _ _ => rfl))) (pw_and (pt_cmpR op_eq (pe_op op_and (pv 3) (pv 1)) (pv 1) (nomark _)) (pw_and1 (pt_cmpR op_eq (pe_op op_and (pv 3) (pv 2)) pe_int (nomark _)))))) (pss_one (ps_ret pe_bl)) pss_nil)))
      (pss_one (ps_ret pe_bl))), ?_⟩
  refine ⟨_, rfl, p, _, rfl, .inl (SqL.of hp), _, rfl, by rw [ln, p62]; omega, by rw [ln, p62]; omega, ?_⟩
  rw [ln, Int.toNat_natCast]
  refine for_range0 (n := 2 ^ m) (fun i σ H2 => (∃ v3, σ = [some (.ref p), some (.int y), some (.int n), v3]) ∧ H2 = H ∧ ∀ s', s' < i → InS y n s' → t.keep s' = false) ⟨⟨_, rfl⟩, rfl, fun s' hs' => absurd hs' (Nat.not_lt_zero _)⟩ ?_ ?_
  · rintro i σ H2 hi ⟨⟨v3, rfl⟩, rfl, inv⟩
    have next : (InS y n i → t.keep i = false) → ((∃ v3, [some (.ref p), some (.int y), some (.int n), some (V.int (i : Int))] = [some (.ref p), some (.int y), some (.int n), v3]) ∧ H2 = H2 ∧ ∀ s', s' < i + 1 → InS y n s' → t.keep s' = false) := fun h => by
      refine ⟨⟨_, rfl⟩, rfl, fun s' a b => ?_⟩
      by_cases z : s' < i
      · exact inv s' z b
      · have : s' = i := by omega
        rw [this] at b ⊢
        exact h b
    refine ⟨_, rfl, _, rfl, p, _, _, .bl (t.keep i), rfl, rfl, SqL.of hp, atI_nat (by rw [List.getElem?_map, List.getElem?_range hi]; rfl), _, rfl, ?_⟩
    refine ite2 (fun c0 => ?_) (fun c0 => ?_)
    · refine ⟨_, rfl, _, rfl, _, _, rfl, rfl, _, rfl, rfl, _, rfl, ?_⟩
      by_cases c : i &&& y = y
      · refine iteD (show V.int (Builtin.bitAnd (i : Int) (y : Int)) = V.int (y : Int) by rw [land_nat, c]) ?_
        have c1 := land_yes.mp c
        refine ⟨_, rfl, _, rfl, _, _, rfl, rfl, rfl, _, rfl, ?_⟩
        by_cases c' : i &&& n = 0
        · refine iteD (show V.int (Builtin.bitAnd (i : Int) (n : Int)) = V.int 0 by rw [land_nat, c']; rfl) ?_
          have hin : InS y n i := ⟨c1, land_no.mp c'⟩
          have e : t.sb y n = false := by
            cases e : t.sb y n with
            | false => rfl
            | true =>
              have := si.mp e i hi hin
              rw [c0] at this
              cases this
          rw [e] at q0
          exact q0
        · refine iteDN (fun z : V.int (Builtin.bitAnd (i : Int) (n : Int)) = V.int 0 => by
            injection z with z
            rw [land_nat] at z
            exact c' (by omega)) ?_
          exact next fun hin => absurd (land_no.mpr hin.2) c'
      · refine iteDN (fun z : V.int (Builtin.bitAnd (i : Int) (y : Int)) = V.int (y : Int) => by
          injection z with z
          rw [land_nat] at z
          exact c (by omega)) ?_
        refine iteF ?_
        exact next fun hin => absurd (land_yes.mpr hin.1) c
    · refine iteF ?_
      exact next fun _ => Bool.eq_false_iff.mpr c0
  · rintro σ H2 ⟨⟨v3, rfl⟩, rfl, inv⟩
    rw [si.mpr inv] at q0
    exact q0

end
section
variable {P : Program} {w : World} {K : PySem.W.Frag} {mg : Str → Option Value} {base : Heap} {a : Adr} {d : Fds}
theorem law_tree_step (T : Txt K mg a d) (f : Nat) (G_law_tree : f ≠ 0 → FnOk P w K mg base CX0 (f + 1) a.f_law_tree d.f_law_tree ["_law_many", "_law_kept_by_here", "_law_ties_here", "_law_yes", "_law_no"] (spTreeK (f - 1))) : FnOk P w K mg base CX0 (f + 2) a.f_law_tree d.f_law_tree ["_law_many", "_law_kept_by_here", "_law_ties_here", "_law_yes", "_law_no"] (spTreeK f) := by
  have G_law_broken := ok_law_broken (P := P) (w := w) (base := base) T
  refine T.K_law_tree.ok sc_law_tree (fun vs H Q E h => ?_) (fun cdv A outer s H vs Q E hr h => ?_)
  · obtain ⟨kb, tl, m, ts, il, y, n, rfl, _⟩ := h
    rfl
  obtain ⟨kb, tl, m, ts, il, y, n, rfl, KB, ok, m9, htl, ilt, S, hf, q⟩ := h
  have p62 : (2 : Int) ^ 62 = 4611686018427387904 := by decide
  have rest : ∃ t, PSs (cxOf CX0 P w K mg base ["_law_many", "_law_kept_by_here", "_law_ties_here", "_law_yes", "_law_no", "_law_t", "_law_left", "_law_bit", "_law_one"] "_law_tree" (defScope s_law_tree) a.f_law_tree cdv A outer s H E).nox ((defBody s_law_tree).drop 3) t ∧ (∀ (k : Nat) (r : List Nat) (v5 : Option V) (lf : Addr) (H1 : Hp), Same H H1 → openL m y n = k :: r → firstSB ts il y n = none → H1 lf = some (.lst (natsL (k :: r))) → t { nx := fun _ H' => Q .non H', rt := Q } [some (.int m), some (.ref kb), some (.ref tl), some (.int y), some (.int n), v5, some (.ref lf), none, none] H1) := by
    by_cases hf0 : f = 0
    · refine ⟨tNever, pss_never, ?_⟩
      intro k r v5 lf H1 s1 ho hb
      rw [ho, hf0] at hf
      simp at hf
    · have G_law_tree := G_law_tree hf0
      refine ⟨_, (pss_cons (ps_set (i := 7) sc_law_tree.nd rfl (Or.inl rfl) (pe_op op_shl pe_int (pe_ix (ixL (K := K)) (pv 6) pe_int (fun _ _ => rfl))))
      (pss_cons (ps_set (i := 8) sc_law_tree.nd rfl (Or.inl rfl) (pe_call G_law_tree (hr.mono (by first | decide | omega)) rfl T.g_law_tree T.K_law_tree.kp T.B_law_tree .nil pass0 (pa_cons (pv 0) (pa_cons (pv 1) (pa_cons (pv 2) (pa_cons (pe_op op_or (pv 3) (pv 7)) (pa_cons (pv 4) pa_nil)))))))
      (pss_one (ps_ret (pe_tup (pa_cons pe_str (pa_cons (pe_ix (ixL (K := K)) (pv 6) pe_int (fun _ _ => rfl)) (pa_cons (pv 8) (pa_cons (pe_call G_law_tree (hr.mono (by first | decide | omega)) rfl T.g_law_tree T.K_law_tree.kp T.B_law_tree .nil pass0 (pa_cons (pv 0) (pa_cons (pv 1) (pa_cons (pv 2) (pa_cons (pv 3) (pa_cons (pe_op op_or (pv 4) (pv 7)) pa_nil)))))) pa_nil))))))))), ?_⟩
      intro k r v5 lf H1 s1 ho hb hlf
      have hk : k ∈ openL m y n := by rw [ho]; exact List.mem_cons_self
      have km := (mem_open.mp hk).1
      have l1 := open_less1 hk
      have l2 := open_less2 hk
      refine ⟨_, rfl, lf, _, _, _, rfl, rfl, SqL.of hlf, at0, _, _, rfl, rfl, ⟨by omega, by omega, by decide⟩, ?_⟩
      refine ⟨_, rfl, _, rfl, _, rfl, _, rfl, _, rfl, _, _, rfl, rfl, _, rfl, kb, tl, m, ts, il, y ||| 2 ^ k, n, by rw [shl1]; dsimp only; rw [lor_nat]; rfl, KB.same s1, ok, m9, s1 _ _ htl, ilt, S.one hk, by omega, fun v1 H2 s2 d1 => ?_⟩
      refine ⟨_, rfl, lf, _, _, _, rfl, rfl, SqL.of (s2 _ _ hlf), at0, _, rfl, _, rfl, _, rfl, _, rfl, _, rfl, _, rfl, _, rfl, _, _, rfl, rfl, kb, tl, m, ts, il, y, n ||| 2 ^ k, by rw [shl1]; dsimp only; rw [lor_nat]; rfl, KB.same (s1.trans s2), ok, m9, (s1.trans s2) _ _ htl, ilt, S.other hk, by omega, fun v2 H3 s3 d2 => ?_⟩
      refine ⟨small (by show 4 ≤ 1000; decide), fun tp htp => ?_⟩
      have s4 := same_new htp (.tup [.str ("split" : Str), .int (k : Int), v1, v2])
      refine q _ _ (((s1.trans s2).trans s3).trans s4) ?_
      have e : casesF ts il m f y n = .split k (casesF ts il m (f - 1) (y ||| 2 ^ k) n) (casesF ts il m (f - 1) y (n ||| 2 ^ k)) := by
        obtain ⟨f', rfl⟩ : ∃ f', f = f' + 1 := ⟨f - 1, by omega⟩
        exact casesF_split hb ho
      rw [e]
      exact ⟨tp, _, rfl, upd_same, _, _, rfl, rfl, _, _, rfl, rfl, _, _, rfl, Dn.same (s3.trans s4) _ _ d1, _, _, rfl, Dn.same s4 _ _ d2, rfl⟩
  obtain ⟨t4, h4, r4⟩ := rest
  refine ⟨_, (pss_cons (ps_for PassesOwn.never rfl (piL (K := K) (pv 2)) (pg_name (i := 5) sc_law_tree.nd rfl (Or.inl rfl)) (pss_one (ps_if (pt_val (pe_call G_law_broken (hr.mono (by first | decide | omega)) rfl T.g_law_broken T.K_law_broken.kp T.B_law_broken .nil pass0 (pa_cons (pe_ix (ixL (K := K)) (pv 1) (pv 5) (fun _ _ => rfl)) (pa_cons (pv 3) (pa_cons (pv 4) pa_nil))))) (pss_one (ps_ret (pe_tup (pa_cons pe_str (pa_cons (pv 5) pa_nil))))) pss_nil)))
      (pss_cons (ps_setLc (i := 6) sc_law_tree.nd rfl rfl rfl (sc0 := defScope s_law_tree) (XN := ["_law_many", "_law_kept_by_here", "_law_ties_here", "_law_yes", "_law_no", "_law_t", "_law_left", "_law_bit", "_law_one"]) (N' := ["_law_k", "_law_yes", "_law_no"]) (n := 1) (kp := [3, 4]) rfl (pi_range1 rfl T.m_range (pa_cons (pv 0) pa_nil)) rfl rfl (by decide +kernel) (fun _ _ _ _ _ => (pg_name (i := 0) (by show List.Nodup (["_law_k", "_law_yes", "_law_no"] : List Str); decide +kernel) rfl (Or.inl rfl))) (fun _ _ _ _ _ => (pts_one (pt_cmpR op_eq (pe_op op_and (pe_op op_shr (pe_op op_or (pv 1) (pv 2)) (pv 0)) pe_int) pe_int (nomark _)))) (fun _ _ _ _ _ => (pv 0)))
      (pss_cons (ps_if (pt_cmpR (op_eq_nil hr.units) (pv 6) (pe_lst pa_nil) (nomark _)) (pss_one (ps_ret (pe_tup (pa_cons pe_str pa_nil)))) pss_nil)
      h4))), ?_⟩
  refine ⟨_, rfl, tl, rfl, ⟨_, SqL.of htl⟩, ?_⟩
  refine for_list (K := K) (a := tl) (xs := natsL il) (fun i σ H2 => (∃ v, σ = [some (.int m), some (.ref kb), some (.ref tl), some (.int y), some (.int n), v, none, none, none]) ∧ Same H H2 ∧ (il.take i).find? (fun i => sbAt ts i y n) = none) ⟨⟨_, rfl⟩, Same.refl _, rfl⟩ (fun i σ H2 _ z => SqL.of (z.2.1 _ _ htl)) ?_ ?_
  · rintro i x σ H2 hx ⟨⟨v, rfl⟩, s2, hb⟩
    rw [List.getElem?_map] at hx
    obtain ⟨t, ht, rfl⟩ := Option.map_eq_some_iff.mp hx
    have htl' := ilt t (List.mem_of_getElem? ht)
    have hts : ts[t]? = some ts[t] := List.getElem?_eq_getElem htl'
    obtain ⟨xs, hkb, lk, each⟩ := (KB.same s2).ex
    obtain ⟨p, a1, a2⟩ := each t ts[t] hts
    have esb : sbAt ts t y n = ts[t].sb y n := by unfold sbAt; rw [hts]
    refine ⟨_, rfl, _, rfl, kb, _, _, _, rfl, rfl, SqL.of hkb, atI_nat a1, _, rfl, _, rfl, p, m, ts[t], y, n, rfl, a2, ok _ (List.getElem_mem htl'), m9, S, fun H3 s3 => ?_⟩
    refine ⟨_, rfl, ?_⟩
    refine ite2 (fun c => ?_) (fun c => ?_)
    · have e : firstSB ts il y n = some t := by
        unfold firstSB
        have el : il = il.take i ++ t :: il.drop (i + 1) := by
          obtain ⟨hi, e⟩ := List.getElem?_eq_some_iff.mp ht
          rw [← e, List.getElem_cons_drop, List.take_append_drop]
        rw [el, List.find?_append, hb]
        simp [esb, c]
      refine ⟨_, rfl, small (by show 2 ≤ 1000; decide), fun tp htp => ?_⟩
      have s4 := same_new htp (.tup [.str ("broken" : Str), .int (t : Int)])
      refine q _ _ ((s2.trans s3).trans s4) ?_
      have e2 : casesF ts il m f y n = .broken t := casesF_broken e
      rw [e2]
      exact ⟨tp, _, rfl, upd_same, _, _, rfl, rfl, _, _, rfl, rfl, rfl⟩
    · refine ⟨⟨_, rfl⟩, s2.trans s3, ?_⟩
      rw [List.take_add_one, ht, Option.toList_some, List.find?_append, hb]
      simp [esb, c]
  · rintro σ H2 ⟨⟨v, rfl⟩, s2, hb⟩
    rw [List.length_map, List.take_length] at hb
    have eb : firstSB ts il y n = none := hb
    refine ⟨_, rfl, _, rfl, by rw [p62]; omega, by rw [p62]; omega, ?_⟩
    rw [Int.toNat_natCast]
    refine lc_range0 (k := m) (fun i ys σ H3 => (∃ v, σ = [v, some (.int y), some (.int n)]) ∧ H3 = H2 ∧ i ≤ m ∧ ys = natsL ((List.range i).filter fun k => !(y ||| n).testBit k)) ⟨⟨none, rfl⟩, rfl, Nat.zero_le _, rfl⟩ (fun i ys σ H3 hi pv => ?_) (fun i ys σ H3 hi pv => ?_) (fun ys σ H3 pv lf hlf => ?_)
    · obtain ⟨_, _, h1, rfl⟩ := pv
      rw [List.length_map]
      refine small (Nat.le_trans (List.length_filter_le _ _) ?_)
      rw [List.length_range]
      omega
    · obtain ⟨⟨v0, rfl⟩, rfl, h1, rfl⟩ := pv
      refine ⟨_, rfl, _, rfl, _, _, rfl, rfl, _, rfl, _, _, rfl, rfl, by omega, _, _, rfl, rfl, rfl, _, rfl, ?_⟩
      have ee := filter_range_succ (fun k => !(y ||| n).testBit k) i
      rw [lor_nat, dec_shr0]
      refine ite2 (fun c2 => ?_) (fun c2 => ?_)
      · refine ⟨_, rfl, ⟨_, rfl⟩, rfl, hi, ?_⟩
        rw [ee, if_pos c2]
        show _ = List.map _ (_ ++ [i])
        rw [List.map_append]
        rfl
      · refine ⟨⟨_, rfl⟩, rfl, hi, ?_⟩
        rw [ee, if_neg c2, List.append_nil]
    · obtain ⟨_, rfl, _, rfl⟩ := pv
      have s4 := same_new hlf (.lst (natsL (openL m y n)))
      refine ⟨_, rfl, small (by decide), fun el hel => ?_⟩
      have s5 := same_new hel (.lst [])
      refine ⟨lf, el, natsL (openL m y n), rfl, rfl, s5 _ _ upd_same, upd_same, _, rfl, ?_⟩
      have s45 := s2.trans (s4.trans s5)
      obtain ⟨ol, hol⟩ : ∃ ol, openL m y n = ol := ⟨_, rfl⟩
      rcases ol with _ | ⟨k, r⟩
      · refine iteD (by rw [hol]; rfl) ?_
        refine ⟨small (by show 1 ≤ 1000; decide), fun tp htp => ?_⟩
        have s6 := same_new htp (.tup [.str ("ware" : Str)])
        refine q _ _ (s45.trans s6) ?_
        have e : casesF ts il m f y n = .ware := casesF_full eb hol
        rw [e]
        exact ⟨tp, _, rfl, upd_same, _, _, rfl, rfl, rfl⟩
      · refine iteDN (by rw [hol]; simp) ?_
        exact r4 k r _ lf _ s45 hol eb (by rw [← hol]; exact s5 _ _ upd_same)
theorem ok_law_tree (T : Txt K mg a d) : ∀ f : Nat, FnOk P w K mg base CX0 (f + 2) a.f_law_tree d.f_law_tree ["_law_many", "_law_kept_by_here", "_law_ties_here", "_law_yes", "_law_no"] (spTreeK f)
  | 0 => law_tree_step T 0 fun h => absurd rfl h
  | f + 1 => law_tree_step T (f + 1) fun _ => ok_law_tree T f

end
section
variable {P : Program} {w : World} {K : PySem.W.Frag} {mg : Str → Option Value} {base : Heap} {a : Adr} {d : Fds}
theorem alike_step (T : Txt K mg a d) (f : Nat) (G_law_alike : FnOk P w K mg base CX0 (f + 1) a.f_law_alike d.f_law_alike ["_law_found", "_law_due_here"] (spAlike f)) : FnOk P w K mg base CX0 (f + 2) a.f_law_alike d.f_law_alike ["_law_found", "_law_due_here"] (spAlike (f + 1)) := by
  refine T.K_law_alike.ok sc_law_alike (fun vs H Q E h => ?_) (fun cdv A outer s H vs Q E hr h => ?_)
  · obtain ⟨d, v, u, rfl, _⟩ := h
    rfl
  obtain ⟨d, v, u, rfl, h1, h2, pl, q⟩ := h
  refine ⟨_, (pss_cons (ps_if (pt_val (pe_callB (isiK (K := K)) rfl T.m_isinstance PyProof.Rows.boot_isinstance (pa_cons (pv 1) (pa_cons (pe_bltn (v := .ty "tuple") rfl T.m_tuple PyProof.Rows.boot_tuple rfl) pa_nil)))) (pss_cons (ps_if (PW.pt (pw_or (pt_not (pt_val (pe_callB (isiK (K := K)) rfl T.m_isinstance PyProof.Rows.boot_isinstance (pa_cons (pv 0) (pa_cons (pe_bltn (v := .ty "tuple") rfl T.m_tuple PyProof.Rows.boot_tuple rfl) pa_nil))))) (pw_or1 (pt_cmpR op_ne (pe_callB (lenS (K := K)) rfl T.m_len PySem.boot_len (pa_cons (pv 0) pa_nil)) (pe_callB (lenS (K := K)) rfl T.m_len PySem.boot_len (pa_cons (pv 1) pa_nil)) (nomark _))))) (pss_one (ps_ret pe_bl)) pss_nil)
      (pss_one (ps_ret (pe_callB (call_all_bl rfl) rfl T.m_all PyProof.Rows.boot_all (pa_cons (pe_lc (sc0 := defScope s_law_alike) (XN := ["_law_found", "_law_due_here"]) (N' := ["_law_one", "_law_other"]) (n := 2) (kp := []) rfl (pi_zip rfl T.m_zip (pa_cons (pv 0) (pa_cons (pv 1) pa_nil))) rfl rfl (by decide +kernel) (fun _ _ _ _ _ => (pgT (K := K) (n := 2) rfl (pgs_cons (pg_name (i := 0) (by show List.Nodup (["_law_one", "_law_other"] : List Str); decide +kernel) rfl (Or.inl rfl)) (pgs_cons (pg_name (i := 1) (by show List.Nodup (["_law_one", "_law_other"] : List Str); decide +kernel) rfl (Or.inl rfl)) pgs_nil)))) (fun _ _ _ _ _ => pts_nil) (fun _ _ _ _ _ => (pe_call G_law_alike (hr.mono (by first | decide | omega)) rfl T.g_law_alike T.K_law_alike.kp T.B_law_alike .nil pass0 (pa_cons (pv 0) (pa_cons (pv 1) pa_nil))))) pa_nil))))) pss_nil)
      (pss_cons (ps_if (pt_val (pe_callB (isiK (K := K)) rfl T.m_isinstance PyProof.Rows.boot_isinstance (pa_cons (pv 1) (pa_cons (pe_bltn (v := .ty "str") rfl T.m_str PyProof.Rows.boot_str rfl) pa_nil)))) (pss_one (ps_ret (pe_and (pe_callB (isiK (K := K)) rfl T.m_isinstance PyProof.Rows.boot_isinstance (pa_cons (pv 0) (pa_cons (pe_bltn (v := .ty "str") rfl T.m_str PyProof.Rows.boot_str rfl) pa_nil))) (pe_one (pe_cmpR op_eq (pv 0) (pv 1) (nomark _)))))) pss_nil)
      (pss_one (ps_ret (pe_and (pe_callB (isiK (K := K)) rfl T.m_isinstance PyProof.Rows.boot_isinstance (pa_cons (pv 0) (pa_cons (pe_bltn (v := .ty "int") rfl T.m_int PyProof.Rows.boot_int rfl) pa_nil))) (pe_and (pe_not (pe_callB (isiK (K := K)) rfl T.m_isinstance PyProof.Rows.boot_isinstance (pa_cons (pv 0) (pa_cons (pe_bltn (v := .ty "bool") rfl T.m_bool PyProof.Rows.boot_bool rfl) pa_nil)))) (pe_one (pe_cmpR op_eq (pv 0) (pv 1) (nomark _))))))))), ?_⟩
  cases d with
  | tuple ds =>
    obtain ⟨p, xs, rfl, hp, hl⟩ := dn_tup h1
    obtain ⟨p2, ys, rfl, hp2, hl2⟩ := dn_tup h2
    have lx := hl.length
    have ly := hl2.length
    refine ⟨_, rfl, _, _, _, _, rfl, dn_ty h2, ty_tup _, _, rfl, ?_⟩
    refine iteC rfl ?_
    refine ⟨_, rfl, _, _, _, _, rfl, dn_ty h1, ty_tup _, _, rfl, ?_⟩
    refine iteCN rfl ?_
    refine ⟨_, rfl, p, _, rfl, .inr (sqT hp), _, rfl, p2, _, rfl, .inr (sqT hp2), rfl, _, rfl, ?_⟩
    refine iteNS (by rw [← lx, ← ly]) ?_
    refine ⟨_, rfl, _, rfl, p, p2, rfl, ⟨_, sqT hp⟩, ⟨_, sqT hp2⟩, ?_⟩
    refine lc_zip (K := K) (a := p) (b := p2) (xs := xs) (ys := ys) (fun i zs σ H2 => (∃ v0 v1, σ = [v0, v1]) ∧ Same H H2 ∧ zs = List.replicate i (V.bl true)) (by omega) ⟨⟨none, none, rfl⟩, Same.refl _, rfl⟩ (fun i zs σ H2 hi pv => ?_) (fun i zs σ H2 hi pv => ?_) (fun i x y zs σ H2 hx hy pv TT hT => ?_) (fun zs σ H2 pv l2 hl2' => ?_)
    · obtain ⟨_, _, rfl⟩ := pv
      rw [List.length_replicate]
      exact small (by have := pl.1; omega)
    · exact ⟨sqT (pv.2.1 _ _ hp), sqT (pv.2.1 _ _ hp2)⟩
    · obtain ⟨⟨v0, v1, rfl⟩, s2, rfl⟩ := pv
      have s3 := same_new hT (.tup [x, y])
      obtain ⟨d1, g1, dx⟩ := hl.get hx
      obtain ⟨d2, g2, dy⟩ := hl2.get hy
      rw [g1] at g2
      cases g2
      refine ⟨TT, _, rfl, sqT upd_same, rfl, _, _, rfl, _, _, rfl, rfl, ?_⟩
      refine ⟨_, rfl, _, rfl, d1, x, y, rfl, Dn.same (s2.trans s3) _ _ dx, Dn.same (s2.trans s3) _ _ dy, pl.2 _ (List.mem_of_getElem? g1), fun H4 s4 => ?_⟩
      exact ⟨⟨_, _, rfl⟩, (s2.trans s3).trans s4, by rw [← List.replicate_succ']⟩
    · obtain ⟨_, s2, rfl⟩ := pv
      have s3 := same_new hl2' (.lst (List.replicate xs.length (V.bl true)))
      refine ⟨l2, List.replicate xs.length true, rfl, ?_, ?_⟩
      · rw [List.map_replicate]
        exact SqL.of upd_same
      · have e : (List.replicate xs.length true).all id = true := by rw [List.all_eq_true]; intro b hb; rw [List.eq_of_mem_replicate hb]; rfl
        rw [e]
        exact q _ (s2.trans s3)
  | str x =>
    cases (show v = .str x from h1)
    cases (show u = .str x from h2)
    refine ⟨_, rfl, _, _, _, _, rfl, dn_ty h2, ty_tup _, _, rfl, ?_⟩
    refine iteCN rfl ?_
    refine ⟨_, rfl, _, _, _, _, rfl, dn_ty h2, ty_str _, _, rfl, ?_⟩
    refine iteC rfl ?_
    refine ⟨_, rfl, _, _, _, _, rfl, dn_ty h1, ty_str _, _, rfl, ?_⟩
    refine iteC rfl ?_
    refine ⟨_, rfl, _, rfl, rfl, ?_⟩
    rw [decide_eq_true rfl]
    exact q _ (Same.refl _)
  | int i =>
    cases (show v = .int i from h1)
    cases (show u = .int i from h2)
    refine ⟨_, rfl, _, _, _, _, rfl, dn_ty h2, ty_tup _, _, rfl, ?_⟩
    refine iteCN rfl ?_
    refine ⟨_, rfl, _, _, _, _, rfl, dn_ty h2, ty_str _, _, rfl, ?_⟩
    refine iteCN rfl ?_
    refine ⟨_, rfl, _, _, _, _, rfl, .int _, isi_int_int, _, rfl, ?_⟩
    refine iteT ?_
    refine ⟨_, rfl, _, _, _, _, rfl, .int _, isi_int_bool, _, rfl, _, rfl, ?_⟩
    refine iteT ?_
    refine ⟨_, rfl, _, rfl, rfl, ?_⟩
    rw [decide_eq_true rfl]
    exact q _ (Same.refl _)
  | none => exact pl.elim
  | bool _ => exact pl.elim
  | list _ => exact pl.elim
  | dict _ => exact pl.elim
theorem ok_law_alike (T : Txt K mg a d) : ∀ f : Nat, FnOk P w K mg base CX0 (f + 1) a.f_law_alike d.f_law_alike ["_law_found", "_law_due_here"] (spAlike f)
  | 0 => ⟨fun _ _ _ _ h => by obtain ⟨_, _, _, _, _, _, z, _⟩ := h; exact z.elim, fun _ _ _ _ _ _ _ _ _ _ _ _ _ h => by obtain ⟨_, _, _, _, _, _, z, _⟩ := h; exact z.elim⟩
  | f + 1 => alike_step T f (ok_law_alike T f)

end
section
variable {P : Program} {w : World} {K : PySem.W.Frag} {mg : Str → Option Value} {base : Heap} {a : Adr} {d : Fds}
theorem ok_law_barred (T : Txt K mg a d) : FnOk P w K mg base CX0 1 a.f_law_barred d.f_law_barred ["_law_wood_here", "_law_kept_by_here", "_law_ties_here", "_law_yes", "_law_no"] spDueBar := by
  refine T.K_law_barred.ok sc_law_barred (fun vs H Q E h => ?_) (fun cdv A outer s H vs Q E hr h => ?_)
  · obtain ⟨wd, kb, m, ts, tl, il, y, n, rfl, _⟩ := h
    rfl
  obtain ⟨wd, kb, m, ts, tl, il, y, n, rfl, W, m9, KB, htl, ill, ilt, S, q⟩ := h
  have p62 : (2 : Int) ^ 62 = 4611686018427387904 := by decide
  have pw : 2 ^ m ≤ 512 := pow_le m9
  have pwi : ((2 ^ m : Nat) : Int) ≤ 512 := Int.ofNat_le.mpr pw
  have pwn : (0 : Int) ≤ ((2 ^ m : Nat) : Int) := Int.natCast_nonneg _
  obtain ⟨xs0, ys0, ⟨tb, tc, hw, hb, hc⟩, _⟩ := W.ex
  obtain ⟨xs, hkb, lk, each⟩ := KB.ex
  have bfi := barB_iff (il := il) W.ok m9 S
  refine ⟨_, (pss_cons (ps_for PassesOwn.never rfl (pi_range1 rfl T.m_range (pa_cons (pe_op op_shl pe_int (pe_ix (ixT (K := K)) (pv 0) pe_int (fun _ _ => rfl))) pa_nil)) (pg_name (i := 5) sc_law_barred.nd rfl (Or.inr rfl)) (pss_one (ps_if (PW.pt (pw_and (pt_cmpR op_eq (pe_op op_and (pv 5) (pv 3)) (pv 3) (nomark _)) (pw_and (pt_cmpR op_eq (pe_op op_and (pv 5) (pv 4)) pe_int (nomark _)) (pw_and1 (pt_cmpR (op_eq_nil hr.units) (pe_lc (sc0 := defScope s_law_barred) (XN := ["_law_wood_here", "_law_kept_by_here", "_law_ties_here", "_law_yes", "_law_no", "_law_some"]) (N' := ["_law_t", "_law_some", "_law_kept_by_here"]) (n := 1) (kp := [5, 1]) rfl (piL (K := K) (pv 2)) rfl rfl (by decide +kernel) (fun _ _ _ _ _ => (pg_name (i := 0) (by show List.Nodup (["_law_t", "_law_some", "_law_kept_by_here"] : List Str); decide +kernel) rfl (Or.inl rfl))) (fun _ _ _ _ _ => (pts_one (pt_not (pt_val (pe_ix (ixL (K := K)) (pe_ix (ixL (K := K)) (pv 2) (pv 0) (fun _ _ => rfl)) (pv 1) (fun _ _ => rfl)))))) (fun _ _ _ _ _ => (pv 0))) (pe_lst pa_nil) (nomark _)))))) (pss_one (ps_ret pe_bl)) pss_nil)))
      (pss_one (ps_ret pe_bl))), ?_⟩
  refine ⟨_, rfl, wd, _, _, _, rfl, rfl, sqT hw, at0, _, _, rfl, rfl, ⟨by omega, by omega, by decide⟩, _, rfl, by rw [shl1, p62]; omega, by rw [shl1, p62]; omega, ?_⟩
  rw [shl1, Int.toNat_natCast]
  refine for_range0 (n := 2 ^ m) (fun i σ H2 => (∃ v5, σ = [some (.ref wd), some (.ref kb), some (.ref tl), some (.int y), some (.int n), v5]) ∧ Same H H2 ∧ ∀ s', s' < i → InS y n s' → allKeep ts il s' = false) ⟨⟨_, rfl⟩, Same.refl _, fun s' hs' => absurd hs' (Nat.not_lt_zero _)⟩ ?_ ?_
  · rintro i σ H2 hi ⟨⟨v5, rfl⟩, s2, inv⟩
    have next : ∀ H3, Same H H3 → (InS y n i → allKeep ts il i = false) → ((∃ v5, [some (.ref wd), some (.ref kb), some (.ref tl), some (.int y), some (.int n), some (V.int (i : Int))] = [some (.ref wd), some (.ref kb), some (.ref tl), some (.int y), some (.int n), v5]) ∧ Same H H3 ∧ ∀ s', s' < i + 1 → InS y n s' → allKeep ts il s' = false) := fun H3 s3 h => by
      refine ⟨⟨_, rfl⟩, s3, fun s' a b => ?_⟩
      by_cases z : s' < i
      · exact inv s' z b
      · have : s' = i := by omega
        rw [this] at b ⊢
        exact h b
    refine ⟨_, rfl, _, rfl, _, _, rfl, rfl, _, rfl, rfl, _, rfl, ?_⟩
    by_cases c : i &&& y = y
    · refine iteD (show V.int (Builtin.bitAnd (i : Int) (y : Int)) = V.int (y : Int) by rw [land_nat, c]) ?_
      have c1 := land_yes.mp c
      refine ⟨_, rfl, _, rfl, _, _, rfl, rfl, rfl, _, rfl, ?_⟩
      by_cases c' : i &&& n = 0
      · refine iteD (show V.int (Builtin.bitAnd (i : Int) (n : Int)) = V.int 0 by rw [land_nat, c']; rfl) ?_
        have hin : InS y n i := ⟨c1, land_no.mp c'⟩
        have htl2 := s2 _ _ htl
        have hkb2 := s2 _ _ hkb
        refine ⟨_, rfl, tl, rfl, ⟨_, SqL.of htl2⟩, ?_⟩
        refine lc_list (K := K) (a := tl) (xs := natsL il) (fun j zs σ H3 => (∃ v, σ = [v, some (.int (i : Int)), some (.ref kb)]) ∧ H3 = H2 ∧ zs.length ≤ j ∧ (zs = [] ↔ ∀ t ∈ il.take j, keepAt ts t i = true)) ⟨⟨none, rfl⟩, rfl, Nat.le_refl _, ⟨fun _ t ht => by simp at ht, fun _ => rfl⟩⟩ (fun j zs σ H3 hj pv => ?_) (fun j zs σ H3 hj pv => ?_) (fun j x zs σ H3 hx pv => ?_) (fun zs σ H3 pv l3 hl3 => ?_)
        · obtain ⟨_, _, h1, _⟩ := pv
          rw [List.length_map] at hj
          exact small (by omega)
        · rw [pv.2.1]
          exact SqL.of htl2
        · obtain ⟨⟨v, rfl⟩, rfl, h1, h2⟩ := pv
          rw [List.getElem?_map] at hx
          obtain ⟨t, ht, rfl⟩ := Option.map_eq_some_iff.mp hx
          have htlt := ilt t (List.mem_of_getElem? ht)
          have hts : ts[t]? = some ts[t] := List.getElem?_eq_getElem htlt
          obtain ⟨p, a1, a2⟩ := each t ts[t] hts
          have ek : keepAt ts t i = ts[t].keep i := by unfold keepAt; rw [hts]
          have et : il.take (j + 1) = il.take j ++ [t] := by rw [List.take_add_one, ht, Option.toList_some]
          refine ⟨_, rfl, _, rfl, kb, _, _, _, rfl, rfl, SqL.of hkb2, atI_nat a1, _, rfl, p, _, _, .bl (ts[t].keep i), rfl, rfl, SqL.of (s2 _ _ a2), atI_nat (by rw [List.getElem?_map, List.getElem?_range hi]; rfl), _, rfl, ?_⟩
          refine ite2 (fun c3 => ?_) (fun c3 => ?_)
          · have k3 : ts[t].keep i = false := by simpa using c3
            refine ⟨_, rfl, ⟨_, rfl⟩, rfl, by rw [List.length_append, List.length_singleton]; omega, ⟨fun z => by simp at z, fun z => ?_⟩⟩
            have := z t (by rw [et]; simp)
            rw [ek, k3] at this
            cases this
          · have k3 : ts[t].keep i = true := by simpa using c3
            refine ⟨⟨_, rfl⟩, rfl, by omega, ⟨fun z u hu => ?_, fun z => h2.mpr fun u hu => z u (by rw [et]; exact List.mem_append_left _ hu)⟩⟩
            rw [et] at hu
            rcases List.mem_append.mp hu with a | a
            · exact h2.mp z u a
            · rw [List.mem_singleton.mp a, ek]
              exact k3
        · obtain ⟨_, rfl, _, h2⟩ := pv
          have s4 := same_new hl3 (.lst zs)
          refine ⟨small (by decide), fun el hel => ?_⟩
          have s5 := same_new hel (.lst [])
          have s45 := s2.trans (s4.trans s5)
          refine ⟨l3, el, zs, rfl, rfl, s5 _ _ upd_same, upd_same, _, rfl, ?_⟩
          rw [List.length_map, List.take_length] at h2
          by_cases hz : zs = []
          · refine iteD hz ?_
            have q1 := q _ s45
            have e : barB ts il m y n = false := by
              cases e : barB ts il m y n with
              | false => rfl
              | true =>
                have := bfi.mp e i hi hin
                have h3 : allKeep ts il i = true := List.all_eq_true.mpr (h2.mp hz)
                rw [h3] at this
                cases this
            rw [e] at q1
            exact q1
          · refine iteDN hz ?_
            refine next _ s45 fun _ => ?_
            cases e : allKeep ts il i with
            | false => rfl
            | true => exact absurd (h2.mpr (List.all_eq_true.mp e)) hz
      · refine iteDN (fun z : V.int (Builtin.bitAnd (i : Int) (n : Int)) = V.int 0 => by
          injection z with z
          rw [land_nat] at z
          exact c' (by omega)) ?_
        refine iteF ?_
        exact next _ s2 fun hin => absurd (land_no.mpr hin.2) c'
    · refine iteDN (fun z : V.int (Builtin.bitAnd (i : Int) (y : Int)) = V.int (y : Int) => by
        injection z with z
        rw [land_nat] at z
        exact c (by omega)) ?_
      refine iteF ?_
      exact next _ s2 fun hin => absurd (land_yes.mpr hin.1) c
  · rintro σ H2 ⟨⟨v5, rfl⟩, s2, inv⟩
    have q1 := q H2 s2
    have e : barB ts il m y n = true := bfi.mpr inv
    rw [e] at q1
    exact q1

end
section
variable {P : Program} {w : World} {K : PySem.W.Frag} {mg : Str → Option Value} {base : Heap} {a : Adr} {d : Fds}
def spFirstKB : Sp := fun vs H Q _ => ∃ (wd kb : Addr) (m : Nat) (ts : List Tie) (tl : Addr) (il : List Nat) (y n : Nat), vs = [.ref wd, .ref kb, .ref tl, .int y, .int n] ∧ WoodT H wd m ts ∧ m ≤ 9 ∧ KeptBy H kb m ts ∧ H tl = some (.lst (natsL il)) ∧ il.length ≤ 100 ∧ (∀ i ∈ il, i < ts.length) ∧ Stand m y n ∧ ∀ H', Same H H' → Q (optN (keepF ts il m 9 y n)) H'
theorem ok_law_first (T : Txt K mg a d) : FnOk P w K mg base CX0 1 a.f_law_first d.f_law_first ["_law_wood_here", "_law_kept_by_here", "_law_ties_here", "_law_yes", "_law_no"] spFirstKB := by
  refine T.K_law_first.ok sc_law_first (fun vs H Q E h => ?_) (fun cdv A outer s H vs Q E hr h => ?_)
  · obtain ⟨wd, kb, m, ts, tl, il, y, n, rfl, _⟩ := h
    rfl
  obtain ⟨wd, kb, m, ts, tl, il, y, n, rfl, W, m9, KB, htl, ill, ilt, S, q⟩ := h
  have p62 : (2 : Int) ^ 62 = 4611686018427387904 := by decide
  have pw : 2 ^ m ≤ 512 := pow_le m9
  have pwi : ((2 ^ m : Nat) : Int) ≤ 512 := Int.ofNat_le.mpr pw
  have pwn : (0 : Int) ≤ ((2 ^ m : Nat) : Int) := Int.natCast_nonneg _
  obtain ⟨xs0, ys0, ⟨tb, tc, hw, hb, hc⟩, _⟩ := W.ex
  obtain ⟨xs, hkb, lk, each⟩ := KB.ex
  have of := open_few m y n
  have FK := keepF_first (il := il) W.ok 9 y n (by omega) S
  refine ⟨_, (pss_cons (ps_for PassesOwn.never rfl (pi_range1 rfl T.m_range (pa_cons (pe_op op_shl pe_int (pe_ix (ixT (K := K)) (pv 0) pe_int (fun _ _ => rfl))) pa_nil)) (pg_name (i := 5) sc_law_first.nd rfl (Or.inr rfl)) (pss_one (ps_if (PW.pt (pw_and (pt_cmpR op_eq (pe_op op_and (pv 5) (pv 3)) (pv 3) (nomark _)) (pw_and (pt_cmpR op_eq (pe_op op_and (pv 5) (pv 4)) pe_int (nomark _)) (pw_and1 (pt_cmpR (op_eq_nil hr.units) (pe_lc (sc0 := defScope s_law_first) (XN := ["_law_wood_here", "_law_kept_by_here", "_law_ties_here", "_law_yes", "_law_no", "_law_some"]) (N' := ["_law_t", "_law_some", "_law_kept_by_here"]) (n := 1) (kp := [5, 1]) rfl (piL (K := K) (pv 2)) rfl rfl (by decide +kernel) (fun _ _ _ _ _ => (pg_name (i := 0) (by show List.Nodup (["_law_t", "_law_some", "_law_kept_by_here"] : List Str); decide +kernel) rfl (Or.inl rfl))) (fun _ _ _ _ _ => (pts_one (pt_not (pt_val (pe_ix (ixL (K := K)) (pe_ix (ixL (K := K)) (pv 2) (pv 0) (fun _ _ => rfl)) (pv 1) (fun _ _ => rfl)))))) (fun _ _ _ _ _ => (pv 0))) (pe_lst pa_nil) (nomark _)))))) (pss_one (ps_ret (pv 5))) pss_nil)))
      (pss_one (ps_ret pe_non))), ?_⟩
  refine ⟨_, rfl, wd, _, _, _, rfl, rfl, sqT hw, at0, _, _, rfl, rfl, ⟨by omega, by omega, by decide⟩, _, rfl, by rw [shl1, p62]; omega, by rw [shl1, p62]; omega, ?_⟩
  rw [shl1, Int.toNat_natCast]
  refine for_range0 (n := 2 ^ m) (fun i σ H2 => (∃ v5, σ = [some (.ref wd), some (.ref kb), some (.ref tl), some (.int y), some (.int n), v5]) ∧ Same H H2 ∧ ∀ s', s' < i → InS y n s' → allKeep ts il s' = false) ⟨⟨_, rfl⟩, Same.refl _, fun s' hs' => absurd hs' (Nat.not_lt_zero _)⟩ ?_ ?_
  · rintro i σ H2 hi ⟨⟨v5, rfl⟩, s2, inv⟩
    have next : ∀ H3, Same H H3 → (InS y n i → allKeep ts il i = false) → ((∃ v5, [some (.ref wd), some (.ref kb), some (.ref tl), some (.int y), some (.int n), some (V.int (i : Int))] = [some (.ref wd), some (.ref kb), some (.ref tl), some (.int y), some (.int n), v5]) ∧ Same H H3 ∧ ∀ s', s' < i + 1 → InS y n s' → allKeep ts il s' = false) := fun H3 s3 h => by
      refine ⟨⟨_, rfl⟩, s3, fun s' a b => ?_⟩
      by_cases z : s' < i
      · exact inv s' z b
      · have : s' = i := by omega
        rw [this] at b ⊢
        exact h b
    refine ⟨_, rfl, _, rfl, _, _, rfl, rfl, _, rfl, rfl, _, rfl, ?_⟩
    by_cases c : i &&& y = y
    · refine iteD (show V.int (Builtin.bitAnd (i : Int) (y : Int)) = V.int (y : Int) by rw [land_nat, c]) ?_
      have c1 := land_yes.mp c
      refine ⟨_, rfl, _, rfl, _, _, rfl, rfl, rfl, _, rfl, ?_⟩
      by_cases c' : i &&& n = 0
      · refine iteD (show V.int (Builtin.bitAnd (i : Int) (n : Int)) = V.int 0 by rw [land_nat, c']; rfl) ?_
        have hin : InS y n i := ⟨c1, land_no.mp c'⟩
        have htl2 := s2 _ _ htl
        have hkb2 := s2 _ _ hkb
        refine ⟨_, rfl, tl, rfl, ⟨_, SqL.of htl2⟩, ?_⟩
        refine lc_list (K := K) (a := tl) (xs := natsL il) (fun j zs σ H3 => (∃ v, σ = [v, some (.int (i : Int)), some (.ref kb)]) ∧ H3 = H2 ∧ zs.length ≤ j ∧ (zs = [] ↔ ∀ t ∈ il.take j, keepAt ts t i = true)) ⟨⟨none, rfl⟩, rfl, Nat.le_refl _, ⟨fun _ t ht => by simp at ht, fun _ => rfl⟩⟩ (fun j zs σ H3 hj pv => ?_) (fun j zs σ H3 hj pv => ?_) (fun j x zs σ H3 hx pv => ?_) (fun zs σ H3 pv l3 hl3 => ?_)
        · obtain ⟨_, _, h1, _⟩ := pv
          rw [List.length_map] at hj
          exact small (by omega)
        · rw [pv.2.1]
          exact SqL.of htl2
        · obtain ⟨⟨v, rfl⟩, rfl, h1, h2⟩ := pv
          rw [List.getElem?_map] at hx
          obtain ⟨t, ht, rfl⟩ := Option.map_eq_some_iff.mp hx
          have htlt := ilt t (List.mem_of_getElem? ht)
          have hts : ts[t]? = some ts[t] := List.getElem?_eq_getElem htlt
          obtain ⟨p, a1, a2⟩ := each t ts[t] hts
          have ek : keepAt ts t i = ts[t].keep i := by unfold keepAt; rw [hts]
          have et : il.take (j + 1) = il.take j ++ [t] := by rw [List.take_add_one, ht, Option.toList_some]
          refine ⟨_, rfl, _, rfl, kb, _, _, _, rfl, rfl, SqL.of hkb2, atI_nat a1, _, rfl, p, _, _, .bl (ts[t].keep i), rfl, rfl, SqL.of (s2 _ _ a2), atI_nat (by rw [List.getElem?_map, List.getElem?_range hi]; rfl), _, rfl, ?_⟩
          refine ite2 (fun c3 => ?_) (fun c3 => ?_)
          · have k3 : ts[t].keep i = false := by simpa using c3
            refine ⟨_, rfl, ⟨_, rfl⟩, rfl, by rw [List.length_append, List.length_singleton]; omega, ⟨fun z => by simp at z, fun z => ?_⟩⟩
            have := z t (by rw [et]; simp)
            rw [ek, k3] at this
            cases this
          · have k3 : ts[t].keep i = true := by simpa using c3
            refine ⟨⟨_, rfl⟩, rfl, by omega, ⟨fun z u hu => ?_, fun z => h2.mpr fun u hu => z u (by rw [et]; exact List.mem_append_left _ hu)⟩⟩
            rw [et] at hu
            rcases List.mem_append.mp hu with a | a
            · exact h2.mp z u a
            · rw [List.mem_singleton.mp a, ek]
              exact k3
        · obtain ⟨_, rfl, _, h2⟩ := pv
          have s4 := same_new hl3 (.lst zs)
          refine ⟨small (by decide), fun el hel => ?_⟩
          have s5 := same_new hel (.lst [])
          have s45 := s2.trans (s4.trans s5)
          refine ⟨l3, el, zs, rfl, rfl, s5 _ _ upd_same, upd_same, _, rfl, ?_⟩
          rw [List.length_map, List.take_length] at h2
          by_cases hz : zs = []
          · refine iteD hz ?_
            have q1 := q _ s45
            have e : keepF ts il m 9 y n = some i := FirstK.unique FK ⟨hi, hin, List.all_eq_true.mpr (h2.mp hz), fun s' a b c => by
              by_cases z : s' < i
              · rw [inv s' z b] at c
                cases c
              · omega⟩
            rw [e] at q1
            exact ⟨_, rfl, q1⟩
          · refine iteDN hz ?_
            refine next _ s45 fun _ => ?_
            cases e : allKeep ts il i with
            | false => rfl
            | true => exact absurd (h2.mpr (List.all_eq_true.mp e)) hz
      · refine iteDN (fun z : V.int (Builtin.bitAnd (i : Int) (n : Int)) = V.int 0 => by
          injection z with z
          rw [land_nat] at z
          exact c' (by omega)) ?_
        refine iteF ?_
        exact next _ s2 fun hin => absurd (land_no.mpr hin.2) c'
    · refine iteDN (fun z : V.int (Builtin.bitAnd (i : Int) (y : Int)) = V.int (y : Int) => by
        injection z with z
        rw [land_nat] at z
        exact c (by omega)) ?_
      refine iteF ?_
      exact next _ s2 fun hin => absurd (land_yes.mpr hin.1) c
  · rintro σ H2 ⟨⟨v5, rfl⟩, s2, inv⟩
    have q1 := q H2 s2
    have e : keepF ts il m 9 y n = none := FirstK.unique FK inv
    rw [e] at q1
    exact q1

end
section
variable {P : Program} {w : World} {K : PySem.W.Frag} {mg : Str → Option Value} {base : Heap} {a : Adr} {d : Fds}
def spBarKB : Sp := fun vs H Q _ => ∃ (wd kb : Addr) (m : Nat) (ts : List Tie) (y n : Nat), vs = [.ref wd, .ref kb, .int y, .int n] ∧ WoodT H wd m ts ∧ m ≤ 9 ∧ KeptBy H kb m ts ∧ ts.length ≤ 90 ∧ Stand m y n ∧ ∀ (fv : V) (H' : Hp), Same H H' → FoundL H' fv ts m y n → Q fv H'
theorem ok_law_bar (T : Txt K mg a d) : FnOk P w K mg base CX0 12 a.f_law_bar d.f_law_bar ["_law_wood_here", "_law_kept_by_here", "_law_yes", "_law_no"] spBarKB := by
  have G_law_barred := ok_law_barred (P := P) (w := w) (base := base) T
  have G_law_first := ok_law_first (P := P) (w := w) (base := base) T
  have G_law_tree := ok_law_tree (P := P) (w := w) (base := base) T 9
  refine T.K_law_bar.ok sc_law_bar (fun vs H Q E h => ?_) (fun cdv A outer s H vs Q E hr h => ?_)
  · obtain ⟨wd, kb, m, ts, y, n, rfl, _⟩ := h
    rfl
  obtain ⟨wd, kb, m, ts, y, n, rfl, W, m9, KB, few, S, q⟩ := h
  have p62 : (2 : Int) ^ 62 = 4611686018427387904 := by decide
  have of := open_few m y n
  have allt : ∀ i ∈ allT ts, i < ts.length := fun i hi => List.mem_range.mp hi
  have lall : (allT ts).length = ts.length := List.length_range
  obtain ⟨xk, hxk, lxk, _⟩ := KB.ex
  obtain ⟨ct5, ch5, cu5⟩ := cutS (X := (cxOf CX0 P w K mg base ["_law_wood_here", "_law_kept_by_here", "_law_yes", "_law_no", "_law_ties_here", "_law_t", "_law_fewer", "_law_others"] "_law_bar" (defScope s_law_bar) a.f_law_bar cdv A outer s H E).nox) (st := (defBody s_law_bar).drop 5) (pss_one (ps_ret (pe_tup (pa_cons (pv 4) (pa_cons (pe_call G_law_tree (hr.mono (by first | decide | omega)) rfl T.g_law_tree T.K_law_tree.kp T.B_law_tree .nil pass0 (pa_cons (pe_ix (ixT (K := K)) (pv 0) pe_int (fun _ _ => rfl)) (pa_cons (pv 1) (pa_cons (pv 4) (pa_cons (pv 2) (pa_cons (pv 3) pa_nil)))))) (pa_cons (pv 7) pa_nil))))))
  obtain ⟨ct3, ch3, cu3⟩ := cutS (X := (cxOf CX0 P w K mg base ["_law_wood_here", "_law_kept_by_here", "_law_yes", "_law_no", "_law_ties_here", "_law_t", "_law_fewer", "_law_others"] "_law_bar" (defScope s_law_bar) a.f_law_bar cdv A outer s H E).nox) (st := (defBody s_law_bar).drop 3) (pss_cons (ps_set (i := 7) sc_law_bar.nd rfl (Or.inl rfl) (pe_lst pa_nil))
      (pss_cons (ps_for PassesOwn.never rfl (piL (K := K) (pv 4)) (pg_name (i := 5) sc_law_bar.nd rfl (Or.inr rfl)) (pss_one (ps_expr (pe_bmK (K := K) PySem.F.plainAttrs_list PySem.F.slot_list_append PySem.F.type_list_append mt_append (pv 7) (pa_cons (pe_tup (pa_cons (pv 5) (pa_cons (pe_call G_law_first (hr.mono (by first | decide | omega)) rfl T.g_law_first T.K_law_first.kp T.B_law_first .nil pass0 (pa_cons (pv 0) (pa_cons (pv 1) (pa_cons (pe_lc (sc0 := defScope s_law_bar) (XN := ["_law_wood_here", "_law_kept_by_here", "_law_yes", "_law_no", "_law_ties_here", "_law_t", "_law_fewer", "_law_others"]) (N' := ["_law_other", "_law_t"]) (n := 1) (kp := [5]) rfl (piL (K := K) (pv 4)) rfl rfl (by decide +kernel) (fun _ _ _ _ _ => (pg_name (i := 0) (by show List.Nodup (["_law_other", "_law_t"] : List Str); decide +kernel) rfl (Or.inl rfl))) (fun _ _ _ _ _ => (pts_one (pt_cmpR op_ne (pv 0) (pv 1) (nomark _)))) (fun _ _ _ _ _ => (pv 0))) (pa_cons (pv 2) (pa_cons (pv 3) pa_nil)))))) pa_nil))) pa_nil)))))
      ch5))
  obtain ⟨ct2, ch2, cu2⟩ := cutS (X := (cxOf CX0 P w K mg base ["_law_wood_here", "_law_kept_by_here", "_law_yes", "_law_no", "_law_ties_here", "_law_t", "_law_fewer", "_law_others"] "_law_bar" (defScope s_law_bar) a.f_law_bar cdv A outer s H E).nox) (st := (defBody s_law_bar).drop 2) (pss_cons (ps_for PassesOwn.never rfl (pi_range1 rfl T.m_range (pa_cons (pe_callB (lenS (K := K)) rfl T.m_len PySem.boot_len (pa_cons (pv 1) pa_nil)) pa_nil)) (pg_name (i := 5) sc_law_bar.nd rfl (Or.inr rfl)) (pss_cons (ps_setLc (i := 6) sc_law_bar.nd rfl rfl rfl (sc0 := defScope s_law_bar) (XN := ["_law_wood_here", "_law_kept_by_here", "_law_yes", "_law_no", "_law_ties_here", "_law_t", "_law_fewer", "_law_others"]) (N' := ["_law_other", "_law_t"]) (n := 1) (kp := [5]) rfl (piL (K := K) (pv 4)) rfl rfl (by decide +kernel) (fun _ _ _ _ _ => (pg_name (i := 0) (by show List.Nodup (["_law_other", "_law_t"] : List Str); decide +kernel) rfl (Or.inl rfl))) (fun _ _ _ _ _ => (pts_one (pt_cmpR op_ne (pv 0) (pv 1) (nomark _)))) (fun _ _ _ _ _ => (pv 0)))
      (pss_one (ps_if (pt_val (pe_call G_law_barred (hr.mono (by first | decide | omega)) rfl T.g_law_barred T.K_law_barred.kp T.B_law_barred .nil pass0 (pa_cons (pv 0) (pa_cons (pv 1) (pa_cons (pv 6) (pa_cons (pv 2) (pa_cons (pv 3) pa_nil))))))) (pss_one (ps_set (i := 4) sc_law_bar.nd rfl (Or.inl rfl) (pv 6))) pss_nil))))
      ch3)
  refine ⟨_, (pss_cons (ps_set (i := 4) sc_law_bar.nd rfl (Or.inl rfl) (pe_callTy (call_list_rng rfl) rfl T.m_list PyProof.Rows.boot_list (pa_cons (pe_callTy call_rng1 rfl T.m_range PyProof.Rows.boot_range (pa_cons (pe_callB (lenS (K := K)) rfl T.m_len PySem.boot_len (pa_cons (pv 1) pa_nil)) pa_nil)) pa_nil)))
      (pss_cons (ps_if (pt_not (pt_val (pe_call G_law_barred (hr.mono (by first | decide | omega)) rfl T.g_law_barred T.K_law_barred.kp T.B_law_barred .nil pass0 (pa_cons (pv 0) (pa_cons (pv 1) (pa_cons (pv 4) (pa_cons (pv 2) (pa_cons (pv 3) pa_nil)))))))) (pss_one (ps_ret pe_non)) pss_nil)
      ch2)), ?_⟩
  refine ⟨_, rfl, kb, _, rfl, .inl (SqL.of hxk), _, rfl, fun rp hrp => ?_⟩
  refine ⟨rp, 0, _, rfl, upd_same, by rw [p62]; omega, by rw [p62]; omega, by rw [p62]; omega, by rw [p62]; omega, by omega, fun l0 hl0 => ?_⟩
  have eR : ((List.range' 0 (((xk.length : Nat) : Int) - 0).toNat).map fun i : Nat => V.int (0 + (i : Int))) = natsL (allT ts) := by
    have e1 : (((xk.length : Nat) : Int) - 0).toNat = ts.length := by omega
    unfold allT
    rw [e1, List.range_eq_range']
    simp
  rw [eR] at *
  have sa := same_new hrp (.rng 0 ((xk.length : Nat) : Int))
  have sb := same_new hl0 (.lst (natsL (allT ts)))
  have s1 := sa.trans sb
  generalize hH1 : L2.upd (L2.upd H rp (.rng 0 ((xk.length : Nat) : Int))) l0 (.lst (natsL (allT ts))) = H1 at *
  have hl01 : H1 l0 = some (.lst (natsL (allT ts))) := by rw [← hH1]; exact upd_same
  refine ⟨_, rfl, _, rfl, _, rfl, _, rfl, _, rfl, wd, kb, m, ts, l0, allT ts, y, n, rfl, W.same s1, m9, KB.same s1, hl01, by omega, allt, S, fun H2 s2 => ?_⟩
  refine ⟨_, rfl, ?_⟩
  refine ite2 (fun c => ?_) (fun c => ?_)
  · exact q .non H2 (s1.trans s2) (.inl ⟨by simpa using c, rfl⟩)
  have hbar : barB ts (allT ts) m y n = true := by simpa using c
  have s12 := s1.trans s2
  refine cu2 _ _ _ ?_
  refine ⟨_, rfl, kb, _, rfl, .inl (SqL.of (s12 _ _ hxk)), _, rfl, by rw [lxk, p62]; omega, by rw [lxk, p62]; omega, ?_⟩
  rw [lxk, Int.toNat_natCast]
  refine for_range0 (n := ts.length) (fun i σ H4 => ∃ (lf : Addr) (v5 v6 : Option V), σ = [some (.ref wd), some (.ref kb), some (.int y), some (.int n), some (.ref lf), v5, v6, none] ∧ Same H2 H4 ∧ H4 lf = some (.lst (natsL (((allT ts).take i).foldl (leastStep ts m y n) (allT ts))))) ⟨l0, _, _, rfl, Same.refl _, s2 _ _ hl01⟩ ?_ ?_
  · rintro i σ H4 hi ⟨lf, v5, v6, rfl, s4, hlf⟩
    have ht : (allT ts)[i]? = some i := by unfold allT; rw [List.getElem?_range hi]
    generalize hleft : ((allT ts).take i).foldl (leastStep ts m y n) (allT ts) = left at hlf
    have sub : left.Sublist (allT ts) := by rw [← hleft]; exact least_sub _ _
    have lle := sub.length_le
    have e1 : ((allT ts).take (i + 1)).foldl (leastStep ts m y n) (allT ts) = leastStep ts m y n left i := by
      rw [List.take_add_one, ht, Option.toList_some, List.foldl_append, hleft]
      rfl
    refine ⟨_, rfl, lf, rfl, ⟨_, SqL.of hlf⟩, ?_⟩
    refine lc_list (K := K) (a := lf) (xs := natsL left) (fun j ys σ H5 => (∃ v, σ = [v, some (.int (i : Int))]) ∧ H5 = H4 ∧ ys = natsL ((left.take j).filter fun x => !decide (x = i))) ⟨⟨none, rfl⟩, rfl, rfl⟩ (fun j ys σ H5 hj pv => ?_) (fun j ys σ H5 hj pv => ?_) (fun j x ys σ H5 hx pv => ?_) (fun ys σ H5 pv p hp => ?_)
    · obtain ⟨_, _, rfl⟩ := pv
      rw [List.length_map]
      refine small (Nat.le_trans (List.length_filter_le _ _) ?_)
      rw [List.length_take]
      omega
    · rw [pv.2.1]
      exact SqL.of hlf
    · obtain ⟨⟨v0, rfl⟩, rfl, rfl⟩ := pv
      rw [List.getElem?_map] at hx
      obtain ⟨x', hx', rfl⟩ := Option.map_eq_some_iff.mp hx
      have et : left.take (j + 1) = left.take j ++ [x'] := by rw [List.take_add_one, hx', Option.toList_some]
      refine ⟨_, rfl, _, rfl, rfl, _, rfl, ?_⟩
      by_cases c2 : x' = i
      · refine iteNS (by rw [c2]) ?_
        refine ⟨⟨_, rfl⟩, rfl, ?_⟩
        rw [et, List.filter_append]
        simp [c2]
      · refine iteNN (fun z => c2 (by injection z with z; omega)) ?_
        refine ⟨_, rfl, ⟨_, rfl⟩, rfl, ?_⟩
        rw [et, List.filter_append]
        simp [c2]
    obtain ⟨_, rfl, rfl⟩ := pv
    rw [List.length_map, List.take_length] at *
    have s5 := same_new hp (.lst (natsL (without left i)))
    have s15 := (s12.trans s4).trans s5
    refine ⟨_, rfl, _, rfl, _, rfl, _, rfl, _, rfl, wd, kb, m, ts, p, without left i, y, n, rfl, W.same s15, m9, KB.same s15, upd_same, Nat.le_trans (List.length_filter_le _ _) (by omega), fun i hi => allt i (sub.subset (List.mem_filter.mp hi).1), S, fun H6 s6 => ?_⟩
    refine ⟨_, rfl, ?_⟩
    refine ite2 (fun c2 => ?_) (fun c2 => ?_)
    · refine ⟨_, rfl, p, _, _, rfl, (s4.trans s5).trans s6, ?_⟩
      rw [e1]
      unfold leastStep
      rw [if_pos c2]
      exact s6 _ _ upd_same
    · refine ⟨lf, _, _, rfl, (s4.trans s5).trans s6, ?_⟩
      rw [e1]
      unfold leastStep
      rw [if_neg c2]
      exact (s5.trans s6) _ _ hlf
  · rintro σ H4 ⟨lf, v5, v6, rfl, s4, hlf⟩
    refine cu3 _ _ _ ?_
    rw [← lall, List.take_length] at hlf
    have sub : (leastL ts m y n).Sublist (allT ts) := least_sub _ _
    have hlf : H4 lf = some (.lst (natsL (leastL ts m y n))) := hlf
    generalize hleft : leastL ts m y n = left at sub hlf
    have lle := sub.length_le
    have s14 := s12.trans s4
    refine ⟨small (by decide), fun ol hol => ?_⟩
    have s5 := same_new hol (.lst [])
    refine ⟨_, rfl, lf, rfl, ⟨_, SqL.of (s5 _ _ hlf)⟩, ?_⟩
    refine for_list (K := K) (a := lf) (xs := natsL left) (fun j σ H6 => ∃ (v5 : Option V) (ys : List V), σ = [some (.ref wd), some (.ref kb), some (.int y), some (.int n), some (.ref lf), v5, v6, some (.ref ol)] ∧ Same H4 H6 ∧ H6 ol = some (.lst ys) ∧ ys.length = j ∧ ∀ (i t : Nat), i < j → left[i]? = some t → ∃ q, ys[i]? = some (.ref q) ∧ H6 q = some (.tup [.int (t : Int), optN (keepF ts (without left t) m 9 y n)])) ⟨_, [], rfl, s5, upd_same, rfl, fun i t hi => absurd hi (Nat.not_lt_zero i)⟩ (fun j σ H6 _ z => by obtain ⟨_, _, _, s6, _⟩ := z; exact SqL.of (s6 _ _ hlf)) ?_ ?_
    · rintro j x σ H6 hx ⟨v5, ys, rfl, s6, hol6, h1, each⟩
      rw [List.getElem?_map] at hx
      obtain ⟨t, ht, rfl⟩ := Option.map_eq_some_iff.mp hx
      have hlf6 := s6 _ _ hlf
      refine ⟨_, rfl, .inl ⟨rfl, _, SqL.of hol6⟩, _, rfl, _, rfl, _, rfl, _, rfl, lf, rfl, ⟨_, SqL.of hlf6⟩, ?_⟩
      refine lc_list (K := K) (a := lf) (xs := natsL left) (fun j ys σ H7 => (∃ v, σ = [v, some (.int (t : Int))]) ∧ H7 = H6 ∧ ys = natsL ((left.take j).filter fun x => !decide (x = t))) ⟨⟨none, rfl⟩, rfl, rfl⟩ (fun j ys σ H7 hj pv => ?_) (fun j ys σ H7 hj pv => ?_) (fun j x ys σ H7 hx pv => ?_) (fun zs σ H7 pv p hp => ?_)
      · obtain ⟨_, _, rfl⟩ := pv
        rw [List.length_map]
        refine small (Nat.le_trans (List.length_filter_le _ _) ?_)
        rw [List.length_take]
        omega
      · rw [pv.2.1]
        exact SqL.of hlf6
      · obtain ⟨⟨v0, rfl⟩, rfl, rfl⟩ := pv
        rw [List.getElem?_map] at hx
        obtain ⟨x', hx', rfl⟩ := Option.map_eq_some_iff.mp hx
        have et : left.take (j + 1) = left.take j ++ [x'] := by rw [List.take_add_one, hx', Option.toList_some]
        refine ⟨_, rfl, _, rfl, rfl, _, rfl, ?_⟩
        by_cases c2 : x' = t
        · refine iteNS (by rw [c2]) ?_
          refine ⟨⟨_, rfl⟩, rfl, ?_⟩
          rw [et, List.filter_append]
          simp [c2]
        · refine iteNN (fun z => c2 (by injection z with z; omega)) ?_
          refine ⟨_, rfl, ⟨_, rfl⟩, rfl, ?_⟩
          rw [et, List.filter_append]
          simp [c2]
      obtain ⟨_, rfl, rfl⟩ := pv
      rw [List.length_map, List.take_length] at *
      have s7 := same_new hp (.lst (natsL (without left t)))
      have s17 := (s14.trans s6).trans s7
      refine ⟨_, rfl, _, rfl, wd, kb, m, ts, p, without left t, y, n, rfl, W.same s17, m9, KB.same s17, upd_same, Nat.le_trans (List.length_filter_le _ _) (by omega), fun i hi => allt i (sub.subset (List.mem_filter.mp hi).1), S, fun H8 s8 => ?_⟩
      refine ⟨small (by show 2 ≤ 1000; decide), fun tp htp => ?_⟩
      have s9 := same_new htp (.tup [.int (t : Int), optN (keepF ts (without left t) m 9 y n)])
      have s79 := (s7.trans s8).trans s9
      have hol9 : (L2.upd H8 tp (.tup [.int (t : Int), optN (keepF ts (without left t) m 9 y n)])) ol = some (.lst ys) := s79 _ _ hol6
      have jl : j < left.length := (List.getElem?_eq_some_iff.mp ht).1
      refine ⟨ol, _, _, rfl, rfl, hol9, small1000 (by omega), ?_⟩
      refine ⟨_, ys ++ [.ref tp], rfl, Same.put (s6.trans s79) hol hol9, upd_same, by rw [List.length_append, List.length_singleton, h1], fun i t' hi ht' => ?_⟩
      by_cases e : i = j
      · subst e
        rw [ht] at ht'
        cases ht'
        refine ⟨tp, ?_, ?_⟩
        · rw [List.getElem?_append_right (by omega), h1, Nat.sub_self]
          rfl
        · rw [upd_ne (fun z => by rw [← z, upd_same] at hol9; cases hol9)]
          exact upd_same
      · obtain ⟨p', a1, a2⟩ := each i t' (by omega) ht'
        refine ⟨p', ?_, ?_⟩
        · rw [List.getElem?_append_left (by omega)]
          exact a1
        · have a3 := s79 _ _ a2
          rw [upd_ne (fun z => by rw [z, hol6] at a2; cases a2)]
          exact a3
    · rintro σ H6 ⟨v5, ys, rfl, s6, hol6, h1, each⟩
      refine cu5 _ _ _ ?_
      rw [List.length_map] at h1 each
      have s16 := s14.trans s6
      obtain ⟨xs0, ys0, ⟨tb, tc, hw, hb, hc⟩, _⟩ := W.ex
      refine ⟨_, rfl, _, rfl, wd, _, _, _, rfl, rfl, sqT (s16 _ _ hw), at0, _, rfl, _, rfl, _, rfl, _, rfl, kb, lf, m, ts, left, y, n, rfl, KB.same s16, W.ok, m9, s6 _ _ hlf, fun i hi => allt i (sub.subset hi), S, by omega, fun v H7 s7 d1 => ?_⟩
      refine ⟨_, rfl, small (by show 3 ≤ 1000; decide), fun tp htp => ?_⟩
      have s8 := same_new htp (.tup [.ref lf, v, .ref ol])
      refine q (.ref tp) _ ((s16.trans s7).trans s8) (.inr ⟨hbar, tp, lf, ol, v, rfl, upd_same, ?_, ?_, ?_⟩)
      · rw [hleft]
        exact (s6.trans (s7.trans s8)) _ _ hlf
      · rw [hleft]
        exact Dn.same s8 _ _ d1
      · rw [hleft]
        refine ⟨ys, (s7.trans s8) _ _ hol6, h1, fun j t ht => ?_⟩
        obtain ⟨p', a1, a2⟩ := each j t (List.getElem?_eq_some_iff.mp ht).1 ht
        exact ⟨p', a1, (s7.trans s8) _ _ a2⟩

end
section
variable {P : Program} {w : World} {K : PySem.W.Frag} {mg : Str → Option Value} {base : Heap} {a : Adr} {d : Fds}
def spIsBar : Sp := fun vs H Q _ => ∃ (fv dv : V) (m : Nat) (ts : List Tie) (y n : Nat), vs = [fv, dv] ∧ FoundL H fv ts m y n ∧ FoundL H dv ts m y n ∧ (∀ t ∈ ts, t.Ok m) ∧ ts.length ≤ 90 ∧ m ≤ 9 ∧ Stand m y n ∧ ∀ H', Same H H' → Q (.bl true) H'
theorem nats_dn {H : Hp} : ∀ l : List Nat, DnL H (l.map fun k : Nat => PyData.int (k : Int)) (natsL l)
  | [] => rfl
  | k :: l => ⟨_, _, rfl, rfl, nats_dn l⟩
/-- the pairs of a bar's others, as data -/
def otherD (ts : List Tie) (m y n : Nat) (left : List Nat) (t : Nat) : PyData := .tuple [.int (t : Int), .int (((keepF ts (without left t) m 9 y n).getD 0 : Nat) : Int)]
theorem dnl_of {H : Hp} : ∀ {ds : List PyData} {xs : List V}, ds.length = xs.length → (∀ (i : Nat) (d : PyData), ds[i]? = some d → ∃ x, xs[i]? = some x ∧ Dn H d x) → DnL H ds xs
  | [], [], _, _ => rfl
  | [], _ :: _, h, _ => by simp at h
  | _ :: _, [], h, _ => by simp at h
  | d :: ds, x :: xs, h, e => by
    obtain ⟨x', h1, h2⟩ := e 0 d rfl
    cases h1
    exact ⟨x, xs, rfl, h2, dnl_of (by simpa using h) fun i d' hd => e (i + 1) d' (by simpa using hd)⟩
theorem others_dn {H : Hp} {ol : Addr} {ts : List Tie} {m y n : Nat} (ok : ∀ t ∈ ts, t.Ok m) (m9 : m ≤ 9) (S : Stand m y n) (hb : barB ts (allT ts) m y n = true) (ot : Others H ol ts m y n (leastL ts m y n)) : ∃ xs, H ol = some (.lst xs) ∧ DnL H ((leastL ts m y n).map (otherD ts m y n (leastL ts m y n))) xs := by
  obtain ⟨xs, h1, h2, h3⟩ := ot.ex
  refine ⟨xs, h1, dnl_of (by rw [List.length_map, h2]) fun i d hd => ?_⟩
  rw [List.getElem?_map] at hd
  obtain ⟨t, ht, rfl⟩ := Option.map_eq_some_iff.mp hd
  obtain ⟨p, a1, a2⟩ := h3 i t ht
  obtain ⟨s, e, _⟩ := leastL_other ok m9 S hb (List.mem_of_getElem? ht)
  rw [e] at a2
  refine ⟨_, a1, ⟨p, _, rfl, a2, ?_⟩⟩
  refine ⟨_, _, rfl, rfl, _, _, rfl, ?_, rfl⟩
  show V.int (s : Int) = V.int _
  rw [e]
  rfl
theorem ok_law_is_bar (T : Txt K mg a d) : FnOk P w K mg base CX0 13 a.f_law_is_bar d.f_law_is_bar ["_law_found", "_law_due_here"] spIsBar := by
  have G_law_alike := ok_law_alike (P := P) (w := w) (base := base) T 11
  refine T.K_law_is_bar.ok sc_law_is_bar (fun vs H Q E h => ?_) (fun cdv A outer s H vs Q E hr h => ?_)
  · obtain ⟨fv, dv, m, ts, y, n, rfl, _⟩ := h
    rfl
  obtain ⟨fv, dv, m, ts, y, n, rfl, f1, f2, ok, few, m9, S, q⟩ := h
  refine ⟨_, (pss_cons (ps_if (pt_cmpR op_isN (pv 1) pe_non (nomark _)) (pss_one (ps_ret (pe_cmpR op_isN (pv 0) pe_non (nomark _)))) pss_nil)
      (pss_cons (ps_if (PW.pt (pw_or (pt_not (pt_val (pe_callB (isiK (K := K)) rfl T.m_isinstance PyProof.Rows.boot_isinstance (pa_cons (pv 0) (pa_cons (pe_bltn (v := .ty "tuple") rfl T.m_tuple PyProof.Rows.boot_tuple rfl) pa_nil))))) (pw_or (pt_cmpR op_ne (pe_callB (lenS (K := K)) rfl T.m_len PySem.boot_len (pa_cons (pv 0) pa_nil)) pe_int (nomark _)) (pw_or1 (pt_not (pt_val (pe_callB (isiK (K := K)) rfl T.m_isinstance PyProof.Rows.boot_isinstance (pa_cons (pe_ix (ixT (K := K)) (pv 0) pe_int (fun _ _ => rfl)) (pa_cons (pe_bltn (v := .ty "list") rfl T.m_list PyProof.Rows.boot_list rfl) pa_nil))))))))) (pss_one (ps_ret pe_bl)) pss_nil)
      (pss_cons (ps_if (PW.pt (pw_or (pt_not (pt_val (pe_callB (isiK (K := K)) rfl T.m_isinstance PyProof.Rows.boot_isinstance (pa_cons (pe_ix (ixT (K := K)) (pv 0) pe_int (fun _ _ => rfl)) (pa_cons (pe_bltn (v := .ty "list") rfl T.m_list PyProof.Rows.boot_list rfl) pa_nil))))) (pw_or1 (pt_not (pt_val (pe_call G_law_alike (hr.mono (by first | decide | omega)) rfl T.g_law_alike T.K_law_alike.kp T.B_law_alike .nil pass0 (pa_cons (pe_callTy call_tuple_of rfl T.m_tuple PyProof.Rows.boot_tuple (pa_cons (pe_ix (ixT (K := K)) (pv 0) pe_int (fun _ _ => rfl)) pa_nil)) (pa_cons (pe_callTy call_tuple_of rfl T.m_tuple PyProof.Rows.boot_tuple (pa_cons (pe_ix (ixT (K := K)) (pv 1) pe_int (fun _ _ => rfl)) pa_nil)) pa_nil)))))))) (pss_one (ps_ret pe_bl)) pss_nil)
      (pss_one (ps_ret (pe_and (pe_call G_law_alike (hr.mono (by first | decide | omega)) rfl T.g_law_alike T.K_law_alike.kp T.B_law_alike .nil pass0 (pa_cons (pe_ix (ixT (K := K)) (pv 0) pe_int (fun _ _ => rfl)) (pa_cons (pe_ix (ixT (K := K)) (pv 1) pe_int (fun _ _ => rfl)) pa_nil))) (pe_one (pe_call G_law_alike (hr.mono (by first | decide | omega)) rfl T.g_law_alike T.K_law_alike.kp T.B_law_alike .nil pass0 (pa_cons (pe_callTy call_tuple_of rfl T.m_tuple PyProof.Rows.boot_tuple (pa_cons (pe_ix (ixT (K := K)) (pv 0) pe_int (fun _ _ => rfl)) pa_nil)) (pa_cons (pe_callTy call_tuple_of rfl T.m_tuple PyProof.Rows.boot_tuple (pa_cons (pe_ix (ixT (K := K)) (pv 1) pe_int (fun _ _ => rfl)) pa_nil)) pa_nil)))))))))), ?_⟩
  rcases f1 with ⟨b1, rfl⟩ | ⟨b1, p, lf, ol, v, rfl, hp, hlf, hv, ot⟩
  · rcases f2 with ⟨b2, rfl⟩ | ⟨b2, _⟩
    · refine ⟨_, rfl, rfl, _, rfl, ?_⟩
      refine iteD rfl ?_
      exact ⟨_, rfl, rfl, q _ (Same.refl _)⟩
    · rw [b1] at b2
      cases b2
  rcases f2 with ⟨b2, _⟩ | ⟨b2, p2, lf2, ol2, v2, rfl, hp2, hlf2, hv2, ot2⟩
  · rw [b1] at b2
    cases b2
  obtain ⟨xo, ho, do1⟩ := others_dn ok m9 S b1 ot
  obtain ⟨xo2, ho2, do2⟩ := others_dn ok m9 S b1 ot2
  have sub : (leastL ts m y n).Sublist (allT ts) := leastL_sub
  have lall : (allT ts).length = ts.length := List.length_range
  have lle := sub.length_le
  have pi : plainD 11 (.tuple ((leastL ts m y n).map fun k : Nat => PyData.int (k : Int))) := ⟨by rw [List.length_map]; omega, fun d hd => by
    obtain ⟨k, _, rfl⟩ := List.mem_map.mp hd
    trivial⟩
  have po : plainD 11 (.tuple ((leastL ts m y n).map (otherD ts m y n (leastL ts m y n)))) := ⟨by rw [List.length_map]; omega, fun d hd => by
    obtain ⟨k, _, rfl⟩ := List.mem_map.mp hd
    refine ⟨by show 2 ≤ 100; decide, fun d hd => ?_⟩
    rcases List.mem_cons.mp hd with rfl | hd
    · trivial
    · rw [List.mem_singleton.mp hd]
      trivial⟩
  have pt : plainD 11 (casesF ts (leastL ts m y n) m 9 y n).toD := plain_up (by have := casesF_depth (ts := ts) (il := leastL ts m y n) (m := m) 9 y n; omega) (plain_ct _)
  refine ⟨_, rfl, rfl, _, rfl, ?_⟩
  refine iteDN (by intro z; cases z) ?_
  refine ⟨_, rfl, _, _, _, _, rfl, .tup hp, isi_tuple_tuple, _, rfl, ?_⟩
  refine iteF ?_
  refine ⟨_, rfl, p, _, rfl, .inr (sqT hp), rfl, _, rfl, ?_⟩
  refine iteNS rfl ?_
  refine ⟨_, rfl, p, _, _, _, rfl, rfl, sqT hp, at0, _, _, _, _, rfl, .lst hlf, isi_list_list, _, rfl, ?_⟩
  refine iteF ?_
  refine ⟨_, rfl, p, _, _, _, rfl, rfl, sqT hp, at2, _, _, _, _, rfl, .lst ho, isi_list_list, _, rfl, ?_⟩
  refine iteF ?_
  refine ⟨_, rfl, p, _, _, _, rfl, rfl, sqT hp, at0, lf, _, rfl, .inl ⟨SqL.of hlf, fun t1 ht1 => ?_⟩⟩
  have s1 := same_new ht1 (.tup (natsL (leastL ts m y n)))
  refine ⟨_, rfl, p2, _, _, _, rfl, rfl, sqT (s1 _ _ hp2), at0, lf2, _, rfl, .inl ⟨SqL.of (s1 _ _ hlf2), fun t2 ht2 => ?_⟩⟩
  have s2 := same_new ht2 (.tup (natsL (leastL ts m y n)))
  refine ⟨.tuple ((leastL ts m y n).map fun k : Nat => PyData.int (k : Int)), _, _, rfl, ⟨t1, _, rfl, s2 _ _ upd_same, nats_dn _⟩, ⟨t2, _, rfl, upd_same, nats_dn _⟩, pi, fun H3 s3 => ?_⟩
  refine ⟨_, rfl, ?_⟩
  refine iteF ?_
  have s13 := (s1.trans s2).trans s3
  refine ⟨_, rfl, p, _, _, _, rfl, rfl, sqT (s13 _ _ hp), at1, _, rfl, p2, _, _, _, rfl, rfl, sqT (s13 _ _ hp2), at1, _, v, v2, rfl, Dn.same s13 _ _ hv, Dn.same s13 _ _ hv2, pt, fun H4 s4 => ?_⟩
  refine ⟨_, rfl, ?_⟩
  refine iteT ?_
  have s14 := s13.trans s4
  refine ⟨_, rfl, p, _, _, _, rfl, rfl, sqT (s14 _ _ hp), at2, ol, _, rfl, .inl ⟨SqL.of (s14 _ _ ho), fun t5 ht5 => ?_⟩⟩
  have s5 := same_new ht5 (.tup xo)
  refine ⟨_, rfl, p2, _, _, _, rfl, rfl, sqT (s5 _ _ (s14 _ _ hp2)), at2, ol2, _, rfl, .inl ⟨SqL.of (s5 _ _ (s14 _ _ ho2)), fun t6 ht6 => ?_⟩⟩
  have s6 := same_new ht6 (.tup xo2)
  have s16 := (s14.trans s5).trans s6
  exact ⟨.tuple ((leastL ts m y n).map (otherD ts m y n (leastL ts m y n))), _, _, rfl, ⟨t5, _, rfl, s6 _ _ upd_same, DnL.same s16 _ _ do1⟩, ⟨t6, _, rfl, upd_same, DnL.same s16 _ _ do2⟩, po, fun H7 s7 => q _ (s16.trans s7)⟩

end
section
variable {P : Program} {w : World} {K : PySem.W.Frag} {mg : Str → Option Value} {base : Heap} {a : Adr} {d : Fds}
def spDueS : Sp := fun vs H Q _ => ∃ (wd kb : Addr) (m : Nat) (ts : List Tie) (k : Nat), vs = [.ref wd, .ref kb, .int k] ∧ WoodT H wd m ts ∧ 1 ≤ m ∧ m ≤ 9 ∧ k < m ∧ KeptBy H kb m ts ∧ ts.length ≤ 90 ∧ ∀ (v : V) (H' : Hp), Same H H' → StandV (fun _ => none) H' v ts m k → Q v H'
theorem ok_law_due (T : Txt K mg a d) : FnOk P w K mg base CX0 13 a.f_law_due d.f_law_due ["_law_wood_here", "_law_kept_by_here", "_law_k"] spDueS := by
  have G_law_bar := ok_law_bar (P := P) (w := w) (base := base) T
  have G_law_first := ok_law_first (P := P) (w := w) (base := base) T
  refine T.K_law_due.ok sc_law_due (fun vs H Q E h => ?_) (fun cdv A outer s H vs Q E hr h => ?_)
  · obtain ⟨wd, kb, m, ts, k, rfl, _⟩ := h
    rfl
  obtain ⟨wd, kb, m, ts, k, rfl, W, m1, m9, km, KB, few, q⟩ := h
  have p62 : (2 : Int) ^ 62 = 4611686018427387904 := by decide
  have S0 := stand_root m1
  have allt : ∀ i ∈ allT ts, i < ts.length := fun i hi => List.mem_range.mp hi
  have lall : (allT ts).length = ts.length := List.length_range
  obtain ⟨xk, hxk, lxk, _⟩ := KB.ex
  obtain ⟨ct5, ch5, cu5⟩ := cutS (X := (cxOf CX0 P w K mg base ["_law_wood_here", "_law_kept_by_here", "_law_k", "_law_every", "_law_bar_here", "_law_word", "_law_yes", "_law_no", "_law_mine"] "_law_due" (defScope s_law_due) a.f_law_due cdv A outer s H E).nox) (st := (defBody s_law_due).drop 5) (pss_cons (ps_set (i := 8) sc_law_due.nd rfl (Or.inl rfl) (pe_call G_law_first (hr.mono (by first | decide | omega)) rfl T.g_law_first T.K_law_first.kp T.B_law_first .nil pass0 (pa_cons (pv 0) (pa_cons (pv 1) (pa_cons (pv 3) (pa_cons (pe_op op_or pe_int (pe_op op_shl pe_int (pv 2))) (pa_cons pe_int pa_nil)))))))
      (pss_one (ps_ret (pe_tup (pa_cons pe_str (pa_cons (pv 8) (pa_cons (pe_call G_law_first (hr.mono (by first | decide | omega)) rfl T.g_law_first T.K_law_first.kp T.B_law_first .nil pass0 (pa_cons (pv 0) (pa_cons (pv 1) (pa_cons (pv 3) (pa_cons pe_int (pa_cons (pe_op op_shl pe_int (pv 2)) pa_nil)))))) pa_nil)))))))
  obtain ⟨ct4, ch4, cu4⟩ := cutS (X := (cxOf CX0 P w K mg base ["_law_wood_here", "_law_kept_by_here", "_law_k", "_law_every", "_law_bar_here", "_law_word", "_law_yes", "_law_no", "_law_mine"] "_law_due" (defScope s_law_due) a.f_law_due cdv A outer s H E).nox) (st := (defBody s_law_due).drop 4) (pss_cons (ps_for PassesOwn.never rfl (piL (K := K) (pe_lst (pa_cons (pe_tup (pa_cons pe_str (pa_cons (pe_op op_or pe_int (pe_op op_shl pe_int (pv 2))) (pa_cons pe_int pa_nil)))) (pa_cons (pe_tup (pa_cons pe_str (pa_cons pe_int (pa_cons (pe_op op_shl pe_int (pv 2)) pa_nil)))) pa_nil)))) (pgT (K := K) (n := 3) rfl (pgs_cons (pg_name (i := 5) sc_law_due.nd rfl (Or.inl rfl)) (pgs_cons (pg_name (i := 6) sc_law_due.nd rfl (Or.inl rfl)) (pgs_cons (pg_name (i := 7) sc_law_due.nd rfl (Or.inl rfl)) pgs_nil)))) (pss_cons (ps_set (i := 4) sc_law_due.nd rfl (Or.inl rfl) (pe_call G_law_bar (hr.mono (by first | decide | omega)) rfl T.g_law_bar T.K_law_bar.kp T.B_law_bar .nil pass0 (pa_cons (pv 0) (pa_cons (pv 1) (pa_cons (pv 6) (pa_cons (pv 7) pa_nil))))))
      (pss_one (ps_if (pt_cmpR op_notN (pv 4) pe_non (nomark _)) (pss_one (ps_ret (pe_tup (pa_cons (pv 5) (pa_cons (pv 4) pa_nil))))) pss_nil))))
      ch5)
  obtain ⟨ct2, ch2, cu2⟩ := cutS (X := (cxOf CX0 P w K mg base ["_law_wood_here", "_law_kept_by_here", "_law_k", "_law_every", "_law_bar_here", "_law_word", "_law_yes", "_law_no", "_law_mine"] "_law_due" (defScope s_law_due) a.f_law_due cdv A outer s H E).nox) (st := (defBody s_law_due).drop 2) (pss_cons (ps_if (pt_cmpR op_notN (pv 4) pe_non (nomark _)) (pss_one (ps_ret (pe_tup (pa_cons pe_str (pa_cons (pv 4) pa_nil))))) pss_nil)
      (pss_cons (ps_if (pt_cmpR op_eq (pv 2) pe_int (nomark _)) (pss_one (ps_ret (pe_tup (pa_cons pe_str (pa_cons pe_non pa_nil))))) pss_nil)
      ch4))
  obtain ⟨ct1, ch1, cu1⟩ := cutS (X := (cxOf CX0 P w K mg base ["_law_wood_here", "_law_kept_by_here", "_law_k", "_law_every", "_law_bar_here", "_law_word", "_law_yes", "_law_no", "_law_mine"] "_law_due" (defScope s_law_due) a.f_law_due cdv A outer s H E).nox) (st := (defBody s_law_due).drop 1) (pss_cons (ps_set (i := 4) sc_law_due.nd rfl (Or.inl rfl) (pe_call G_law_bar (hr.mono (by first | decide | omega)) rfl T.g_law_bar T.K_law_bar.kp T.B_law_bar .nil pass0 (pa_cons (pv 0) (pa_cons (pv 1) (pa_cons pe_int (pa_cons pe_int pa_nil))))))
      ch2)
  refine ⟨_, (pss_cons (ps_set (i := 3) sc_law_due.nd rfl (Or.inl rfl) (pe_callTy (call_list_rng rfl) rfl T.m_list PyProof.Rows.boot_list (pa_cons (pe_callTy call_rng1 rfl T.m_range PyProof.Rows.boot_range (pa_cons (pe_callB (lenS (K := K)) rfl T.m_len PySem.boot_len (pa_cons (pv 1) pa_nil)) pa_nil)) pa_nil)))
      ch1), ?_⟩
  refine ⟨_, rfl, kb, _, rfl, .inl (SqL.of hxk), _, rfl, fun rp hrp => ?_⟩
  refine ⟨rp, 0, _, rfl, upd_same, by rw [p62]; omega, by rw [p62]; omega, by rw [p62]; omega, by rw [p62]; omega, by omega, fun l0 hl0 => ?_⟩
  have eR : ((List.range' 0 (((xk.length : Nat) : Int) - 0).toNat).map fun i : Nat => V.int (0 + (i : Int))) = natsL (allT ts) := by
    have e1 : (((xk.length : Nat) : Int) - 0).toNat = ts.length := by omega
    unfold allT
    rw [e1, List.range_eq_range']
    simp
  rw [eR] at *
  have sa := same_new hrp (.rng 0 ((xk.length : Nat) : Int))
  have sb := same_new hl0 (.lst (natsL (allT ts)))
  have s1 := sa.trans sb
  generalize hH1 : L2.upd (L2.upd H rp (.rng 0 ((xk.length : Nat) : Int))) l0 (.lst (natsL (allT ts))) = H1 at *
  have hl01 : H1 l0 = some (.lst (natsL (allT ts))) := by rw [← hH1]; exact upd_same
  refine cu1 _ _ _ ?_
  refine ⟨_, rfl, _, rfl, wd, kb, m, ts, 1, 0, rfl, W.same s1, m9, KB.same s1, few, S0, fun fv H2 s2 fl => ?_⟩
  have s12 := s1.trans s2
  refine cu2 _ _ _ ?_
  rcases fl with ⟨b1, rfl⟩ | fl'
  case inr =>
    obtain ⟨b1, p0, rest⟩ := id fl'
    obtain ⟨lf, ol, v, e1, rest⟩ := rest
    subst e1
    refine ⟨_, rfl, rfl, _, rfl, ?_⟩
    refine iteNN (by intro z; cases z) ?_
    refine ⟨_, rfl, small (by show 2 ≤ 1000; decide), fun tp htp => ?_⟩
    have s3 := same_new htp (.tup [.str ("void" : Str), .ref p0])
    exact q (.ref tp) _ (s12.trans s3) ⟨tp, rfl, .inl ⟨b1, _, upd_same, (FoundL.f (.inr fl')).same s3⟩⟩
  refine ⟨_, rfl, rfl, _, rfl, ?_⟩
  refine iteNS rfl ?_
  refine ⟨_, rfl, rfl, _, rfl, ?_⟩
  by_cases k0 : k = 0
  · refine iteD (by rw [k0]; rfl) ?_
    refine ⟨small (by show 2 ≤ 1000; decide), fun tp htp => ?_⟩
    have s3 := same_new htp (.tup [.str ("always" : Str), .non])
    exact q (.ref tp) _ (s12.trans s3) ⟨tp, rfl, .inr (.inl ⟨b1, k0, upd_same⟩)⟩
  refine iteDN (fun z => k0 (by injection z with z; omega)) ?_
  refine cu4 _ _ _ ?_
  have Sw := stand_with m1 km
  have Sn := stand_without m1 km k0
  have ew : Builtin.bitOr 1 (1 * (2 : Int) ^ ((k : Nat) : Int).toNat) = ((1 ||| 2 ^ k : Nat) : Int) := by
    rw [shl1]
    exact lor_nat 1 (2 ^ k)
  refine ⟨_, rfl, _, _, rfl, rfl, ⟨by omega, by omega, by decide⟩, _, _, rfl, rfl, small (by show 3 ≤ 1000; decide), fun t1 ht1 => ?_⟩
  refine ⟨_, rfl, _, _, rfl, rfl, ⟨by omega, by omega, by decide⟩, small (by show 3 ≤ 1000; decide), fun t2 ht2 => ?_⟩
  refine ⟨small (by show 2 ≤ 1000; decide), fun l3 hl3 => ?_⟩
  obtain ⟨HE, hHE⟩ : ∃ HE, HE = (L2.upd (L2.upd (L2.upd H2 t1 (.tup [.str ("never" : Str), .int (Builtin.bitOr 1 (1 * (2 : Int) ^ ((k : Nat) : Int).toNat)), .int 0])) t2 (.tup [.str ("always" : Str), .int 1, .int (1 * (2 : Int) ^ ((k : Nat) : Int).toNat)])) l3 (.lst [.ref t1, .ref t2])) := ⟨_, rfl⟩
  have sc := same_new ht1 (.tup [.str ("never" : Str), .int (Builtin.bitOr 1 (1 * (2 : Int) ^ ((k : Nat) : Int).toNat)), .int 0])
  have sd := same_new ht2 (.tup [.str ("always" : Str), .int 1, .int (1 * (2 : Int) ^ ((k : Nat) : Int).toNat)])
  have se := same_new hl3 (.lst [.ref t1, .ref t2])
  have sE : Same H2 HE := by rw [hHE]; exact (sc.trans sd).trans se
  have s1E := s12.trans sE
  have ht1E : HE t1 = some (.tup [.str ("never" : Str), .int ((1 ||| 2 ^ k : Nat) : Int), .int 0]) := by rw [← ew, hHE]; exact se _ _ (sd _ _ upd_same)
  have ht2E : HE t2 = some (.tup [.str ("always" : Str), .int 1, .int ((2 ^ k : Nat) : Int)]) := by rw [← shl1, hHE]; exact se _ _ upd_same
  have hl3E : HE l3 = some (.lst [.ref t1, .ref t2]) := by rw [hHE]; exact upd_same
  refine ⟨l3, rfl, ⟨_, SqL.of (show (L2.upd (L2.upd (L2.upd H2 t1 (.tup [.str ("never" : Str), .int (Builtin.bitOr 1 (1 * (2 : Int) ^ ((k : Nat) : Int).toNat)), .int 0])) t2 (.tup [.str ("always" : Str), .int 1, .int (1 * (2 : Int) ^ ((k : Nat) : Int).toNat)])) l3 (.lst [.ref t1, .ref t2])) l3 = some (.lst [.ref t1, .ref t2]) from upd_same)⟩, ?_⟩
  refine for_list (K := K) (a := l3) (xs := [.ref t1, .ref t2]) (fun i σ H4 => (∃ v4 v5 v6 v7, σ = [some (.ref wd), some (.ref kb), some (.int k), some (.ref l0), v4, v5, v6, v7, none]) ∧ Same HE H4 ∧ (1 ≤ i → barB ts (allT ts) m (1 ||| 2 ^ k) 0 = false) ∧ (2 ≤ i → barB ts (allT ts) m 1 (2 ^ k) = false)) ⟨⟨_, _, _, _, rfl⟩, (by rw [hHE]; exact Same.refl _), fun z => absurd z (by decide), fun z => absurd z (by decide)⟩ (fun i σ H4 _ z => SqL.of (z.2.1 _ _ hl3E)) ?_ ?_
  · rintro i x σ H4 hx ⟨⟨v4, v5, v6, v7, rfl⟩, s4, i1, i2⟩
    have s14 := s1E.trans s4
    match i, hx with
    | 0, hx =>
      cases hx
      refine ⟨t1, _, rfl, sqT (s4 _ _ ht1E), rfl, _, _, rfl, _, _, rfl, _, _, rfl, rfl, ?_⟩
      refine ⟨_, rfl, _, rfl, _, rfl, _, rfl, wd, kb, m, ts, 1 ||| 2 ^ k, 0, rfl, W.same s14, m9, KB.same s14, few, Sw, fun fv H5 s5 fl => ?_⟩
      rcases fl with ⟨b2, rfl⟩ | fl'
      · refine ⟨_, rfl, rfl, _, rfl, ?_⟩
        refine iteNS rfl ?_
        exact ⟨⟨_, _, _, _, rfl⟩, s4.trans s5, fun _ => b2, fun z => absurd z (by decide)⟩
      · obtain ⟨b2, p0, lf, ol, v, e1, _⟩ := id fl'
        subst e1
        refine ⟨_, rfl, rfl, _, rfl, ?_⟩
        refine iteNN (by intro z; cases z) ?_
        refine ⟨_, rfl, _, rfl, small (by show 2 ≤ 1000; decide), fun tp htp => ?_⟩
        have s6 := same_new htp (.tup [.str ("never" : Str), .ref p0])
        exact q (.ref tp) _ ((s14.trans s5).trans s6) ⟨tp, rfl, .inr (.inr (.inl ⟨b1, k0, b2, _, upd_same, (FoundL.f (.inr fl')).same s6⟩))⟩
    | 1, hx =>
      cases hx
      refine ⟨t2, _, rfl, sqT (s4 _ _ ht2E), rfl, _, _, rfl, _, _, rfl, _, _, rfl, rfl, ?_⟩
      refine ⟨_, rfl, _, rfl, _, rfl, _, rfl, wd, kb, m, ts, 1, 2 ^ k, rfl, W.same s14, m9, KB.same s14, few, Sn, fun fv H5 s5 fl => ?_⟩
      have b2 := i1 (Nat.le_refl _)
      rcases fl with ⟨b3, rfl⟩ | fl'
      · refine ⟨_, rfl, rfl, _, rfl, ?_⟩
        refine iteNS rfl ?_
        exact ⟨⟨_, _, _, _, rfl⟩, s4.trans s5, fun _ => b2, fun _ => b3⟩
      · obtain ⟨b3, p0, lf, ol, v, e1, _⟩ := id fl'
        subst e1
        refine ⟨_, rfl, rfl, _, rfl, ?_⟩
        refine iteNN (by intro z; cases z) ?_
        refine ⟨_, rfl, _, rfl, small (by show 2 ≤ 1000; decide), fun tp htp => ?_⟩
        have s6 := same_new htp (.tup [.str ("always" : Str), .ref p0])
        exact q (.ref tp) _ ((s14.trans s5).trans s6) ⟨tp, rfl, .inr (.inr (.inr (.inl ⟨b1, k0, b2, b3, _, upd_same, (FoundL.f (.inr fl')).same s6⟩)))⟩
    | i + 2, hx => cases hx
  · rintro σ H4 ⟨⟨v4, v5, v6, v7, rfl⟩, s4, i1, i2⟩
    refine cu5 _ _ _ ?_
    have b2 := i1 (by show 1 ≤ 2; decide)
    have b3 := i2 (Nat.le_refl _)
    obtain ⟨g1, e1⟩ := bar_get b2
    obtain ⟨g2, e2⟩ := bar_get b3
    have s14 := s1E.trans s4
    have hl04 := (sE.trans s4) _ _ (s2 _ _ hl01)
    refine ⟨_, rfl, _, rfl, _, rfl, _, rfl, _, _, rfl, rfl, ⟨by omega, by omega, by decide⟩, _, _, rfl, rfl, wd, kb, m, ts, l0, allT ts, 1 ||| 2 ^ k, 0, by dsimp only; rw [ew]; rfl, W.same s14, m9, KB.same s14, hl04, by omega, allt, Sw, fun H5 s5 => ?_⟩
    rw [e1]
    have s15 := s14.trans s5
    refine ⟨_, rfl, _, rfl, _, rfl, _, rfl, _, rfl, _, _, rfl, rfl, ⟨by omega, by omega, by decide⟩, wd, kb, m, ts, l0, allT ts, 1, 2 ^ k, by dsimp only; rw [shl1]; rfl, W.same s15, m9, KB.same s15, s5 _ _ hl04, by omega, allt, Sn, fun H6 s6 => ?_⟩
    rw [e2]
    refine ⟨small (by show 3 ≤ 1000; decide), fun tp htp => ?_⟩
    have s7 := same_new htp (.tup [.str ("either" : Str), .int (g1 : Int), .int (g2 : Int)])
    exact q (.ref tp) _ ((s15.trans s6).trans s7) ⟨tp, rfl, .inr (.inr (.inr (.inr ⟨b1, k0, b2, b3, g1, g2, e1, e2, upd_same⟩)))⟩

end
section
variable {P : Program} {w : World} {K : PySem.W.Frag} {mg : Str → Option Value} {base : Heap} {a : Adr} {d : Fds}
def spRightS : Sp := fun vs H Q _ => ∃ (fv dv : V) (H0 : Hp) (m : Nat) (ts : List Tie) (k : Nat), vs = [fv, dv] ∧ StandV H0 H fv ts m k ∧ StandV (fun _ => none) H dv ts m k ∧ (∀ t ∈ ts, t.Ok m) ∧ ts.length ≤ 90 ∧ 1 ≤ m ∧ m ≤ 9 ∧ k < m ∧ ∀ H', Same H H' → Q (.bl true) H'
theorem void_either : ¬ V.str ("void" : Str) = V.str ("either" : Str) := vs_ne (by decide +kernel)
theorem always_either : ¬ V.str ("always" : Str) = V.str ("either" : Str) := vs_ne (by decide +kernel)
theorem never_either : ¬ V.str ("never" : Str) = V.str ("either" : Str) := vs_ne (by decide +kernel)
/-- two standings of one option: told alike, with bars of one stand, or with the same wares -/
theorem stand_two {H0 H : Hp} {fv dv : V} {ts : List Tie} {m k : Nat} (m1 : 1 ≤ m) (km : k < m) (h : StandV H0 H fv ts m k) (h' : StandV (fun _ => none) H dv ts m k) :
    ∃ p p', fv = .ref p ∧ dv = .ref p' ∧ ((∃ (w : Str) (b b' : V) (y n : Nat), ¬ V.str w = V.str ("either" : Str) ∧ H p = some (.tup [.str w, b]) ∧ H p' = some (.tup [.str w, b']) ∧ ((b = .non ∧ b' = .non) ∨ (Stand m y n ∧ FoundL H b ts m y n ∧ FoundL H b' ts m y n))) ∨
      ∃ s1 s2 : Nat, H p = some (.tup [.str ("either" : Str), .int (s1 : Int), .int (s2 : Int)]) ∧ H p' = some (.tup [.str ("either" : Str), .int (s1 : Int), .int (s2 : Int)])) := by
  obtain ⟨p, rfl, h⟩ := h
  obtain ⟨p', rfl, h'⟩ := h'
  refine ⟨p, p', rfl, rfl, ?_⟩
  rcases h with ⟨b1, b, hp, hb⟩ | ⟨b1, k0, hp⟩ | ⟨b1, k0, b2, b, hp, hb⟩ | ⟨b1, k0, b2, b3, b, hp, hb⟩ | ⟨b1, k0, b2, b3, s1, s2, e1, e2, hp⟩ <;>
    rcases h' with ⟨c1, c, hc, hd⟩ | ⟨c1, l0, hc⟩ | ⟨c1, l0, c2, c, hc, hd⟩ | ⟨c1, l0, c2, c3, c, hc, hd⟩ | ⟨c1, l0, c2, c3, u1, u2, f1, f2, hc⟩
  · exact .inl ⟨_, b, c, 1, 0, void_either, hp, hc, .inr ⟨stand_root m1, hb.l, hd.l⟩⟩
  · rw [b1] at c1; cases c1
  · rw [b1] at c1; cases c1
  · rw [b1] at c1; cases c1
  · rw [b1] at c1; cases c1
  · rw [b1] at c1; cases c1
  · exact .inl ⟨_, .non, .non, 0, 0, always_either, hp, hc, .inl ⟨rfl, rfl⟩⟩
  · exact absurd k0 l0
  · exact absurd k0 l0
  · exact absurd k0 l0
  · rw [b1] at c1; cases c1
  · exact absurd l0 k0
  · exact .inl ⟨_, b, c, _, 0, never_either, hp, hc, .inr ⟨stand_with m1 km, hb.l, hd.l⟩⟩
  · rw [b2] at c2; cases c2
  · rw [b2] at c2; cases c2
  · rw [b1] at c1; cases c1
  · exact absurd l0 k0
  · rw [b2] at c2; cases c2
  · exact .inl ⟨_, b, c, 1, _, always_either, hp, hc, .inr ⟨stand_without m1 km k0, hb.l, hd.l⟩⟩
  · rw [b3] at c3; cases c3
  · rw [b1] at c1; cases c1
  · exact absurd l0 k0
  · rw [b2] at c2; cases c2
  · rw [b3] at c3; cases c3
  · rw [e1] at f1
    rw [e2] at f2
    cases f1
    cases f2
    exact .inr ⟨s1, s2, hp, hc⟩
theorem ok_law_right (T : Txt K mg a d) : FnOk P w K mg base CX0 14 a.f_law_right d.f_law_right ["_law_found", "_law_due_here"] spRightS := by
  have G_law_alike := ok_law_alike (P := P) (w := w) (base := base) T 11
  have G_law_is_bar := ok_law_is_bar (P := P) (w := w) (base := base) T
  refine T.K_law_right.ok sc_law_right (fun vs H Q E h => ?_) (fun cdv A outer s H vs Q E hr h => ?_)
  · obtain ⟨fv, dv, H0, m, ts, k, rfl, _⟩ := h
    rfl
  obtain ⟨fv, dv, H0, m, ts, k, rfl, f1, f2, ok, few, m1, m9, km, q⟩ := h
  refine ⟨_, (pss_cons (ps_if (PW.pt (pw_or (pt_not (pt_val (pe_callB (isiK (K := K)) rfl T.m_isinstance PyProof.Rows.boot_isinstance (pa_cons (pv 0) (pa_cons (pe_bltn (v := .ty "tuple") rfl T.m_tuple PyProof.Rows.boot_tuple rfl) pa_nil))))) (pw_or (pt_cmpR op_ne (pe_callB (lenS (K := K)) rfl T.m_len PySem.boot_len (pa_cons (pv 0) pa_nil)) (pe_callB (lenS (K := K)) rfl T.m_len PySem.boot_len (pa_cons (pv 1) pa_nil)) (nomark _)) (pw_or1 (pt_cmpR op_ne (pe_ix (ixT (K := K)) (pv 0) pe_int (fun _ _ => rfl)) (pe_ix (ixT (K := K)) (pv 1) pe_int (fun _ _ => rfl)) (nomark _)))))) (pss_one (ps_ret pe_bl)) pss_nil)
      (pss_cons (ps_if (pt_cmpR op_eq (pe_ix (ixT (K := K)) (pv 1) pe_int (fun _ _ => rfl)) pe_str (nomark _)) (pss_one (ps_ret (pe_call G_law_alike (hr.mono (by first | decide | omega)) rfl T.g_law_alike T.K_law_alike.kp T.B_law_alike .nil pass0 (pa_cons (pv 0) (pa_cons (pv 1) pa_nil))))) pss_nil)
      (pss_one (ps_ret (pe_call G_law_is_bar (hr.mono (by first | decide | omega)) rfl T.g_law_is_bar T.K_law_is_bar.kp T.B_law_is_bar .nil pass0 (pa_cons (pe_ix (ixT (K := K)) (pv 0) pe_int (fun _ _ => rfl)) (pa_cons (pe_ix (ixT (K := K)) (pv 1) pe_int (fun _ _ => rfl)) pa_nil))))))), ?_⟩
  obtain ⟨p, p', rfl, rfl, z⟩ := stand_two m1 km f1 f2
  rcases z with ⟨wo, b, b', y, n, ne, hp, hp', bb⟩ | ⟨s1, s2, hp, hp'⟩
  · refine ⟨_, rfl, _, _, _, _, rfl, .tup hp, isi_tuple_tuple, _, rfl, ?_⟩
    refine iteF ?_
    refine ⟨_, rfl, p, _, rfl, .inr (sqT hp), _, rfl, p', _, rfl, .inr (sqT hp'), rfl, _, rfl, ?_⟩
    refine iteNS rfl ?_
    refine ⟨_, rfl, p, _, _, _, rfl, rfl, sqT hp, at0, _, rfl, p', _, _, _, rfl, rfl, sqT hp', at0, rfl, _, rfl, ?_⟩
    refine iteNS rfl ?_
    refine ⟨_, rfl, p', _, _, _, rfl, rfl, sqT hp', at0, rfl, _, rfl, ?_⟩
    refine iteDN ne ?_
    refine ⟨_, rfl, p, _, _, _, rfl, rfl, sqT hp, at1, _, rfl, p', _, _, _, rfl, rfl, sqT hp', at1, ?_⟩
    rcases bb with ⟨rfl, rfl⟩ | ⟨S, g1, g2⟩
    · by_cases hb : barB ts (allT ts) m 1 0 = false
      · exact ⟨.non, .non, m, ts, 1, 0, rfl, .inl ⟨hb, rfl⟩, .inl ⟨hb, rfl⟩, ok, few, m9, stand_root m1, q⟩
      · obtain ⟨pp, e, f1⟩ := f1
        rcases f1 with ⟨_, b, hp2, hb2⟩ | ⟨b1, _⟩ | ⟨b1, _⟩ | ⟨b1, _⟩ | ⟨b1, _⟩
        · cases e
          rw [hp] at hp2
          cases hp2
          rcases hb2 with ⟨z, _⟩ | ⟨_, _, _, _, _, z, _⟩
          · exact absurd z hb
          · cases z
        · exact absurd b1 hb
        · exact absurd b1 hb
        · exact absurd b1 hb
        · exact absurd b1 hb
    · exact ⟨b, b', m, ts, y, n, rfl, g1, g2, ok, few, m9, S, q⟩
  · refine ⟨_, rfl, _, _, _, _, rfl, .tup hp, isi_tuple_tuple, _, rfl, ?_⟩
    refine iteF ?_
    refine ⟨_, rfl, p, _, rfl, .inr (sqT hp), _, rfl, p', _, rfl, .inr (sqT hp'), rfl, _, rfl, ?_⟩
    refine iteNS rfl ?_
    refine ⟨_, rfl, p, _, _, _, rfl, rfl, sqT hp, at0, _, rfl, p', _, _, _, rfl, rfl, sqT hp', at0, rfl, _, rfl, ?_⟩
    refine iteNS rfl ?_
    refine ⟨_, rfl, p', _, _, _, rfl, rfl, sqT hp', at0, rfl, _, rfl, ?_⟩
    refine iteD rfl ?_
    have pl : plainD 11 (.tuple [.str ("either" : Str), .int (s1 : Int), .int (s2 : Int)]) := ⟨by show 3 ≤ 100; decide, fun d hd => by
      simp only [List.mem_cons, List.not_mem_nil, or_false] at hd
      rcases hd with rfl | rfl | rfl <;> trivial⟩
    exact ⟨_, rfl, _, rfl, .tuple [.str ("either" : Str), .int (s1 : Int), .int (s2 : Int)], _, _, rfl, ⟨p, _, rfl, hp, _, _, rfl, rfl, _, _, rfl, rfl, _, _, rfl, rfl, rfl⟩, ⟨p', _, rfl, hp', _, _, rfl, rfl, _, _, rfl, rfl, _, _, rfl, rfl, rfl⟩, pl, q⟩

end
section
variable {P : Program} {w : World} {K : PySem.W.Frag} {mg : Str → Option Value} {base : Heap} {a : Adr} {d : Fds}
theorem StandV.same {H0 H H' : Hp} {v : V} {ts : List Tie} {m k : Nat} (s : Same H H') (h : StandV H0 H v ts m k) : StandV H0 H' v ts m k := by
  obtain ⟨p, e, h⟩ := h
  refine ⟨p, e, ?_⟩
  rcases h with ⟨b1, b, hp, hb⟩ | ⟨b1, k0, hp⟩ | ⟨b1, k0, b2, b, hp, hb⟩ | ⟨b1, k0, b2, b3, b, hp, hb⟩ | ⟨b1, k0, b2, b3, s1, s2, e1, e2, hp⟩
  · exact .inl ⟨b1, b, s _ _ hp, hb.same s⟩
  · exact .inr (.inl ⟨b1, k0, s _ _ hp⟩)
  · exact .inr (.inr (.inl ⟨b1, k0, b2, b, s _ _ hp, hb.same s⟩))
  · exact .inr (.inr (.inr (.inl ⟨b1, k0, b2, b3, b, s _ _ hp, hb.same s⟩)))
  · exact .inr (.inr (.inr (.inr ⟨b1, k0, b2, b3, s1, s2, e1, e2, s _ _ hp⟩)))
/-- what a told standing holds: either two wares, or None, or a bar whose lists are new -/
theorem StandV.parts {H0 H : Hp} {v : V} {ts : List Tie} {m k : Nat} (h : StandV H0 H v ts m k) : ∃ p, v = .ref p ∧ ((∃ s1 s2 : Nat, H p = some (.tup [.str ("either" : Str), .int (s1 : Int), .int (s2 : Int)])) ∨
    ∃ (w : Str) (b : V), ¬ V.str w = V.str ("either" : Str) ∧ H p = some (.tup [.str w, b]) ∧ (b = .non ∨ ∃ (y n : Nat) (q lf ol : Addr) (u : V) (xs : List V), b = .ref q ∧ H q = some (.tup [.ref lf, u, .ref ol]) ∧ H lf = some (.lst (natsL (leastL ts m y n))) ∧ H ol = some (.lst xs) ∧ H0 lf = none ∧ H0 ol = none)) := by
  have go : ∀ {b : V} {y n : Nat}, FoundF H0 H b ts m y n → b = .non ∨ ∃ (y n : Nat) (q lf ol : Addr) (u : V) (xs : List V), b = .ref q ∧ H q = some (.tup [.ref lf, u, .ref ol]) ∧ H lf = some (.lst (natsL (leastL ts m y n))) ∧ H ol = some (.lst xs) ∧ H0 lf = none ∧ H0 ol = none := fun {b y n} hb => by
    rcases hb with ⟨_, z⟩ | ⟨_, p, lf, ol, u, a1, a2, a3, _, a5, a6, a7⟩
    · exact .inl z
    · obtain ⟨xs, h1, _⟩ := a5.ex
      exact .inr ⟨y, n, p, lf, ol, u, xs, a1, a2, a3, h1, a6, a7⟩
  obtain ⟨p, e, h⟩ := h
  refine ⟨p, e, ?_⟩
  rcases h with ⟨b1, b, hp, hb⟩ | ⟨b1, k0, hp⟩ | ⟨b1, k0, b2, b, hp, hb⟩ | ⟨b1, k0, b2, b3, b, hp, hb⟩ | ⟨b1, k0, b2, b3, s1, s2, e1, e2, hp⟩
  · exact .inr ⟨_, b, void_either, hp, go hb⟩
  · exact .inr ⟨_, _, always_either, hp, .inl rfl⟩
  · exact .inr ⟨_, b, never_either, hp, go hb⟩
  · exact .inr ⟨_, b, always_either, hp, go hb⟩
  · exact .inl ⟨s1, s2, hp⟩
theorem ok_law (T : Txt K mg a d) (LB : LamB mg base a.c_cases_of a.t_cases_of) : FnOk P w K mg base CX0 21 a.f_law d.f_law ["_law_script"] (spT a.t_cases_of (spLaw K)) := by
  have G_law_next := ok_law_next (P := P) (w := w) (base := base) T
  have G_law_wood := ok_law_wood (P := P) (w := w) (base := base) T
  have G_law_crossed := ok_law_crossed (P := P) (w := w) (base := base) T
  have G_law_kept_by := ok_law_kept_by (P := P) (w := w) (base := base) T
  have G_law_due := ok_law_due (P := P) (w := w) (base := base) T
  have G_law_right := ok_law_right (P := P) (w := w) (base := base) T
  have G_standing := ok_standing (P := P) (w := w) (base := base) T LB
  refine T.K_law.ok sc_law (fun vs H Q E h => ?_) (fun cdv A outer s H vs Q E hr h => ?_)
  · obtain ⟨_, p, ns, rfl, _⟩ := h
    rfl
  obtain ⟨tb, sp, ns, rfl, hS, hl, q⟩ := h
  have p62 : (2 : Int) ^ 62 = 4611686018427387904 := by decide
  obtain ⟨ct6, ch6, cu6⟩ := cutS (X := (cxOf CX0 P w K mg base ["_law_script", "_law_pen", "_law_many", "_law_wood_here", "_law_kept_by_here", "_law_start", "_law_options", "_law_k", "_law_found"] "law" (defScope s_law) a.f_law cdv A outer s H E).nox) (st := (defBody s_law).drop 6) (pss_cons (ps_for PassesOwn.never rfl (piL (K := K) (pe_op op_cat (pv 6) (pe_slice sl_list (pv 6) po_none (po_some pe_int)))) (pg_name (i := 7) sc_law.nd rfl (Or.inl rfl)) (pss_cons (ps_set (i := 8) sc_law.nd rfl (Or.inl rfl) (pe_call G_standing (hr.mono (by first | decide | omega)) rfl T.g_standing T.K_standing.kp T.B_standing .nil pass0 (pa_cons (pv 3) (pa_cons (pv 7) pa_nil))))
      (pss_cons (ps_if (pt_not (pt_val (pe_call G_law_right (hr.mono (by first | decide | omega)) rfl T.g_law_right T.K_law_right.kp T.B_law_right .nil pass0 (pa_cons (pv 8) (pa_cons (pe_call G_law_due (hr.mono (by first | decide | omega)) rfl T.g_law_due T.K_law_due.kp T.B_law_due .nil pass0 (pa_cons (pv 3) (pa_cons (pv 4) (pa_cons (pv 7) pa_nil)))) pa_nil))))) (pss_one (ps_ret pe_bl)) pss_nil)
      (pss_one (ps_if (PW.pt (pw_and (pt_cmpR op_ne (pe_ix (ixT (K := K)) (pv 8) pe_int (fun _ _ => rfl)) pe_str (nomark _)) (pw_and1 (pt_cmpR op_notN (pe_ix (ixT (K := K)) (pv 8) pe_int (fun _ _ => rfl)) pe_non (nomark _))))) (pss_cons (ps_expr (pe_bmK (K := K) PySem.F.plainAttrs_list PySem.F.slot_list_append PySem.F.type_list_append mt_append (pe_ix (ixT (K := K)) (pe_ix (ixT (K := K)) (pv 8) pe_int (fun _ _ => rfl)) pe_int (fun _ _ => rfl)) (pa_cons pe_int pa_nil)))
      (pss_one (ps_expr (pe_bm0K (K := K) PySem.F.plainAttrs_list PySem.F.slot_list_clear PySem.F.type_list_clear mt_clear (pe_ix (ixT (K := K)) (pe_ix (ixT (K := K)) (pv 8) pe_int (fun _ _ => rfl)) pe_int (fun _ _ => rfl)))))) pss_nil)))))
      (pss_one (ps_ret pe_bl)))
  obtain ⟨ct5, ch5, cu5⟩ := cutS (X := (cxOf CX0 P w K mg base ["_law_script", "_law_pen", "_law_many", "_law_wood_here", "_law_kept_by_here", "_law_start", "_law_options", "_law_k", "_law_found"] "law" (defScope s_law) a.f_law cdv A outer s H E).nox) (st := (defBody s_law).drop 5) (pss_cons (ps_setLc (i := 6) sc_law.nd rfl rfl rfl (sc0 := defScope s_law) (XN := ["_law_script", "_law_pen", "_law_many", "_law_wood_here", "_law_kept_by_here", "_law_start", "_law_options", "_law_k", "_law_found"]) (N' := ["_law_k", "_law_many", "_law_start"]) (n := 1) (kp := [2, 5]) rfl (pi_range1 rfl T.m_range (pa_cons (pv 2) pa_nil)) rfl rfl (by decide +kernel) (fun _ _ _ _ _ => (pg_name (i := 0) (by show List.Nodup (["_law_k", "_law_many", "_law_start"] : List Str); decide +kernel) rfl (Or.inl rfl))) (fun _ _ _ _ _ => pts_nil) (fun _ _ _ _ _ => (pe_op op_mod (pe_op op_add (pv 2) (pv 0)) (pv 1))))
      ch6)
  obtain ⟨ct4, ch4, cu4⟩ := cutS (X := (cxOf CX0 P w K mg base ["_law_script", "_law_pen", "_law_many", "_law_wood_here", "_law_kept_by_here", "_law_start", "_law_options", "_law_k", "_law_found"] "law" (defScope s_law) a.f_law cdv A outer s H E).nox) (st := (defBody s_law).drop 4) (pss_cons (ps_set (i := 5) sc_law.nd rfl (Or.inr rfl) (pe_call G_law_next (hr.mono (by first | decide | omega)) rfl T.g_law_next T.K_law_next.kp T.B_law_next .nil pass0 (pa_cons (pv 1) (pa_cons (pv 2) pa_nil))))
      ch5)
  obtain ⟨ct2, ch2, cu2⟩ := cutS (X := (cxOf CX0 P w K mg base ["_law_script", "_law_pen", "_law_many", "_law_wood_here", "_law_kept_by_here", "_law_start", "_law_options", "_law_k", "_law_found"] "law" (defScope s_law) a.f_law cdv A outer s H E).nox) (st := (defBody s_law).drop 2) (pss_cons (ps_set (i := 3) sc_law.nd rfl (Or.inl rfl) (pe_call G_law_crossed (hr.mono (by first | decide | omega)) rfl T.g_law_crossed T.K_law_crossed.kp T.B_law_crossed .nil pass0 (pa_cons (pv 1) (pa_cons (pe_call G_law_wood (hr.mono (by first | decide | omega)) rfl T.g_law_wood T.K_law_wood.kp T.B_law_wood .nil pass0 (pa_cons (pv 1) (pa_cons (pv 2) (pa_cons pe_int pa_nil)))) pa_nil))))
      (pss_cons (ps_set (i := 4) sc_law.nd rfl (Or.inl rfl) (pe_call G_law_kept_by (hr.mono (by first | decide | omega)) rfl T.g_law_kept_by T.K_law_kept_by.kp T.B_law_kept_by .nil pass0 (pa_cons (pv 3) pa_nil)))
      ch4))
  refine ⟨_, (pss_cons (ps_set (i := 1) sc_law.nd rfl (Or.inl rfl) (pe_lst (pa_cons (pv 0) (pa_cons pe_int pa_nil))))
      (pss_cons (ps_set (i := 2) sc_law.nd rfl (Or.inr rfl) (pe_ix (ixL (K := K)) (pe_lst (pa_cons pe_int (pa_cons pe_int (pa_cons pe_int (pa_cons pe_int (pa_cons pe_int (pa_cons pe_int (pa_cons pe_int (pa_cons pe_int pa_nil))))))))) (pe_call G_law_next (hr.mono (by first | decide | omega)) rfl T.g_law_next T.K_law_next.kp T.B_law_next .nil pass0 (pa_cons (pv 1) (pa_cons pe_int pa_nil))) (fun _ _ => rfl)))
      ch2)), ?_⟩
  refine ⟨_, rfl, small (by show 2 ≤ 1000; decide), fun pen hpen => ?_⟩
  have pn := pen_new hS hl hpen
  have tb1 := (same_new hpen (.lst [.ref sp, .int 0])).tab tb
  generalize hH1 : L2.upd H pen (.lst [.ref sp, .int 0]) = H1 at pn tb1 ⊢
  refine ⟨small (by show 8 ≤ 1000; decide), fun tl htl => ?_⟩
  have s2 := same_new htl (.lst [.int 4, .int 3, .int 5, .int 2, .int 4, .int 3, .int 1, .int 5])
  have ntp : tl ≠ pen := fun z => by have := pn.at_; rw [← z, htl] at this; cases this
  refine ⟨_, rfl, pen, sp, ns, 8, 0, rfl, pn.to (Same.x s2) (s2 _ _ pn.at_), by decide, by decide, by decide, fun c c0 c1 => ?_⟩
  have sx3 := SameX.trans (Same.x (pen := pen) s2) (sameX_pen (pen := pen) (.lst [.ref sp, .int (0 + 1)]))
  obtain ⟨m, hat, m1, m9⟩ : ∃ m : Nat, atI [V.int 4, V.int 3, V.int 5, V.int 2, V.int 4, V.int 3, V.int 1, V.int 5] c = some (.int (m : Int)) ∧ 1 ≤ m ∧ m ≤ 9 := by
    have e : c = 0 ∨ c = 1 ∨ c = 2 ∨ c = 3 ∨ c = 4 ∨ c = 5 ∨ c = 6 ∨ c = 7 := by omega
    rcases e with e | e | e | e | e | e | e | e <;> rw [e]
    · exact ⟨4, rfl, by decide, by decide⟩
    · exact ⟨3, rfl, by decide, by decide⟩
    · exact ⟨5, rfl, by decide, by decide⟩
    · exact ⟨2, rfl, by decide, by decide⟩
    · exact ⟨4, rfl, by decide, by decide⟩
    · exact ⟨3, rfl, by decide, by decide⟩
    · exact ⟨1, rfl, by decide, by decide⟩
    · exact ⟨5, rfl, by decide, by decide⟩
  refine ⟨tl, _, _, _, rfl, rfl, SqL.of (by rw [upd_ne ntp]; exact upd_same), hat, ?_⟩
  generalize hH3 : L2.upd (L2.upd H1 tl (.lst [.int 4, .int 3, .int 5, .int 2, .int 4, .int 3, .int 1, .int 5])) pen (.lst [.ref sp, .int (0 + 1)]) = H3 at sx3 ⊢
  have hp3 : H3 pen = some (.lst [.ref sp, .int (0 + 1)]) := by rw [← hH3]; exact upd_same
  refine cu2 _ _ _ ?_
  refine ⟨_, rfl, _, rfl, _, rfl, pen, sp, ns, m, 6, 0 + 1, rfl, pn.to sx3 hp3, by decide, by decide, m1, m9, by decide, by decide, fun wd bs cs k5 H5 sx5 hp5 k50 k51 W5 lc5 => ?_⟩
  refine ⟨pen, sp, ns, wd, m, bs, cs, k5, rfl, pn.to (sx3.trans sx5) hp5, by omega, by omega, W5, by omega, fun wd' cs' k6 H6 sx6 hp6 k60 k61 W6 lc6 => ?_⟩
  obtain ⟨ts, ets, okt, tsl, WT⟩ := W6.ties
  have sxA := (sx3.trans sx5).trans sx6
  have tb6 := sxA.tab pn.at_ tb1
  refine ⟨_, rfl, wd', m, ts, rfl, WT H6 (fun _ _ h => h), m9, fun kb H7 s7 nkb KB => ?_⟩
  have hp7 := s7 _ _ hp6
  have sx7 := sxA.trans (Same.x s7)
  refine cu4 _ _ _ ?_
  refine ⟨_, rfl, _, rfl, pen, sp, ns, m, k6, rfl, pn.to sx7 hp7, by omega, by omega, by omega, fun c8 c80 c81 => ?_⟩
  obtain ⟨st, rfl⟩ : ∃ st : Nat, c8 = (st : Int) := ⟨c8.toNat, by omega⟩
  have sx8 : SameX pen H7 (L2.upd H7 pen (.lst [.ref sp, .int (k6 + 1)])) := sameX_pen _
  have t8 : TupS H6 (L2.upd H7 pen (.lst [.ref sp, .int (k6 + 1)])) := fun b xs hb => (SameX.tup hp7 sx8) _ _ (s7 _ _ hb)
  have KB8 := KB.sameX hp7 sx8
  have tb8 := sx8.tab hp7 (s7.tab tb6)
  have W8 := WT _ t8
  generalize hH8 : L2.upd H7 pen (.lst [.ref sp, .int (k6 + 1)]) = H8 at *
  refine cu5 _ _ _ ?_
  refine ⟨_, rfl, _, rfl, by rw [p62]; omega, by rw [p62]; omega, ?_⟩
  rw [Int.toNat_natCast]
  refine lc_range0 (k := m) (fun i zs σ H9 => (∃ v, σ = [v, some (.int m), some (.int st)]) ∧ H9 = H8 ∧ zs = natsL ((List.range i).map fun j => (st + j) % m)) ⟨⟨none, rfl⟩, rfl, rfl⟩ (fun i zs σ H9 hi pv => ?_) (fun i zs σ H9 hi pv => ?_) (fun zs σ H9 pv sl hsl => ?_)
  · obtain ⟨_, _, rfl⟩ := pv
    rw [List.length_map, List.length_map, List.length_range]
    exact small (by omega)
  · obtain ⟨⟨v, rfl⟩, rfl, rfl⟩ := pv
    refine ⟨_, rfl, _, rfl, _, _, rfl, rfl, _, rfl, _, _, rfl, rfl, (by show (0 : Int) < (m : Int); omega), ?_⟩
    refine ⟨⟨_, rfl⟩, rfl, ?_⟩
    rw [List.range_succ, List.map_append]
    show _ ++ [V.int (((st : Int) + (i : Int)) % (m : Int))] = List.map _ (_ ++ _)
    rw [List.map_append]
    show _ ++ [V.int (((st : Int) + (i : Int)) % (m : Int))] = _ ++ [V.int (((st + i) % m : Nat) : Int)]
    rw [show (((st + i) % m : Nat) : Int) = ((st : Int) + (i : Int)) % (m : Int) by push_cast; rfl]
  obtain ⟨_, rfl, rfl⟩ := pv
  have opts : ∀ x ∈ natsL ((List.range m).map fun j => (st + j) % m), ∃ k : Nat, x = .int (k : Int) ∧ k < m := fun x hx => by
    obtain ⟨k, hk, rfl⟩ := List.mem_map.mp hx
    obtain ⟨j, _, rfl⟩ := List.mem_map.mp hk
    exact ⟨_, rfl, Nat.mod_lt _ (by omega)⟩
  have lz : (natsL ((List.range m).map fun j => (st + j) % m)).length ≤ 9 := by rw [List.length_map, List.length_map, List.length_range]; exact m9
  generalize natsL ((List.range m).map fun j => (st + j) % m) = zs at opts lz hsl
  have s9 := same_new hsl (.lst zs)
  refine cu6 _ _ _ ?_
  refine ⟨_, rfl, _, rfl, _, rfl, sl, _, rfl, SqL.of upd_same, fun p1 hp1 => ?_⟩
  have s10 := same_new hp1 (.lst (cutV zs none (some 1)))
  have lcut := cutV_length zs none (some 1)
  refine ⟨sl, p1, zs, _, rfl, rfl, s10 _ _ upd_same, upd_same, small (by omega), fun p2 hp2 => ?_⟩
  have s11 := same_new hp2 (.lst (zs ++ cutV zs none (some 1)))
  have sE := (s9.trans s10).trans s11
  generalize hHE : L2.upd (L2.upd (L2.upd H9 sl (.lst zs)) p1 (.lst (cutV zs none (some 1)))) p2 (.lst (zs ++ cutV zs none (some 1))) = HE at sE ⊢
  have hp2E : HE p2 = some (.lst (zs ++ cutV zs none (some 1))) := by rw [← hHE]; exact upd_same
  refine ⟨p2, rfl, ⟨_, SqL.of hp2E⟩, ?_⟩
  refine for_list (K := K) (a := p2) (xs := zs ++ cutV zs none (some 1)) (fun i σ HF => (∃ v7 v8, σ = [some (.ref sp), some (.ref pen), some (.int m), some (.ref wd'), some (.ref kb), some (.int st), some (.ref sl), v7, v8]) ∧ Same HE HF) ⟨⟨_, _, rfl⟩, Same.refl _⟩ (fun i σ HF _ z => SqL.of (z.2 _ _ hp2E)) ?_ ?_
  · rintro i x σ HF hx ⟨⟨v7, v8, rfl⟩, sF⟩
    have hxm : x ∈ zs := by
      rcases List.mem_append.mp (List.mem_of_getElem? hx) with z | z
      · exact z
      · exact cut_mem z
    obtain ⟨k, rfl, km⟩ := opts x hxm
    have sEF := sE.trans sF
    refine ⟨_, rfl, _, rfl, sEF.tab tb8, wd', m, ts, k, rfl, W8.same sEF, m1, m9, km, fun fv HG sG fl => ?_⟩
    have sEG := sEF.trans sG
    refine ⟨_, rfl, _, rfl, _, rfl, _, rfl, wd', kb, m, ts, k, rfl, W8.same sEG, m1, m9, km, KB8.same sEG, by omega, fun dv HH sH dl => ?_⟩
    refine ⟨fv, dv, HF, m, ts, k, rfl, StandV.same sH fl, dl, okt, by omega, m1, m9, km, fun HI sI => ?_⟩
    refine ⟨_, rfl, ?_⟩
    refine iteF ?_
    have sGI := sH.trans sI
    have sFI := sG.trans sGI
    obtain ⟨p, rfl, pt⟩ := StandV.parts (StandV.same sGI fl)
    rcases pt with ⟨s1, s2, hp⟩ | ⟨wo, b, ne, hp, bb⟩
    · refine ⟨_, rfl, p, _, _, _, rfl, rfl, sqT hp, at0, rfl, _, rfl, ?_⟩
      refine iteNS rfl ?_
      refine iteF ?_
      exact ⟨⟨_, _, rfl⟩, sF.trans sFI⟩
    · refine ⟨_, rfl, p, _, _, _, rfl, rfl, sqT hp, at0, rfl, _, rfl, ?_⟩
      refine iteNN ne ?_
      refine ⟨_, rfl, p, _, _, _, rfl, rfl, sqT hp, at1, rfl, _, rfl, ?_⟩
      rcases bb with rfl | ⟨y, n, qa, lf, ol, u, xo, rfl, hq, hlf, ho, nlf, nol⟩
      · refine iteNS rfl ?_
        exact ⟨⟨_, _, rfl⟩, sF.trans sFI⟩
      · refine iteNN (by intro z; cases z) ?_
        have sub : (leastL ts m y n).Sublist (allT ts) := leastL_sub
        have lall : (allT ts).length = ts.length := List.length_range
        have lle := sub.length_le
        refine ⟨_, rfl, p, _, _, _, rfl, rfl, sqT hp, at1, qa, _, _, _, rfl, rfl, sqT hq, at0, .inl ⟨rfl, _, SqL.of hlf⟩, lf, _, _, rfl, rfl, hlf, (by rw [List.length_map]; exact small1000 (by omega)), ?_⟩
        have sJ := Same.put (o := .lst (natsL (leastL ts m y n) ++ [.int 0])) sFI nlf hlf
        obtain ⟨xj, hoJ⟩ : ∃ xj, (L2.upd HI lf (.lst (natsL (leastL ts m y n) ++ [.int 0]))) ol = some (.lst xj) := by
          by_cases z : ol = lf
          · rw [z]
            exact ⟨_, upd_same⟩
          · rw [upd_ne z]
            exact ⟨_, ho⟩
        have npl : p ≠ lf := fun z => by rw [z, hlf] at hp; cases hp
        have nql : qa ≠ lf := fun z => by rw [z, hlf] at hq; cases hq
        refine ⟨_, rfl, p, [.str wo, .ref qa], _, .ref qa, rfl, rfl, sqT (by rw [upd_ne npl]; exact hp), at1, qa, [.ref lf, u, .ref ol], _, .ref ol, rfl, rfl, sqT (by rw [upd_ne nql]; exact hq), at2, .inl ⟨rfl, _, SqL.of hoJ⟩, ol, _, rfl, rfl, hoJ, ?_⟩
        exact ⟨⟨_, _, rfl⟩, sF.trans (Same.put sJ nol hoJ)⟩
  · rintro σ HF ⟨_, _⟩
    exact q _

end

-- FOOT
@[elab_as_elim] theorem len1 {α : Type} {R : List α → Prop} : ∀ us : List α, us.length = 1 → (∀ x0, R [x0]) → R us | [x0], _, h => h x0
@[elab_as_elim] theorem len2 {α : Type} {R : List α → Prop} : ∀ us : List α, us.length = 2 → (∀ x0 x1, R [x0, x1]) → R us | [x0, x1], _, h => h x0 x1
@[elab_as_elim] theorem len3 {α : Type} {R : List α → Prop} : ∀ us : List α, us.length = 3 → (∀ x0 x1 x2, R [x0, x1, x2]) → R us | [x0, x1, x2], _, h => h x0 x1 x2
@[elab_as_elim] theorem len4 {α : Type} {R : List α → Prop} : ∀ us : List α, us.length = 4 → (∀ x0 x1 x2 x3, R [x0, x1, x2, x3]) → R us | [x0, x1, x2, x3], _, h => h x0 x1 x2 x3
@[elab_as_elim] theorem len5 {α : Type} {R : List α → Prop} : ∀ us : List α, us.length = 5 → (∀ x0 x1 x2 x3 x4, R [x0, x1, x2, x3, x4]) → R us | [x0, x1, x2, x3, x4], _, h => h x0 x1 x2 x3 x4
theorem all_mk {l : PySem.W.OpenLaw} {w : World} {K : PySem.W.Frag} {h : Heap} {mg : Str → Option Value} {fa f1 f2 f3 f4 f5 f6 f7 f8 f9 f10 f11 f12 f13 f14 f15 f16 f17 f18 f19 f20 f21 f22 f23 f24 f25 f26 f27 f28 f29 f30 f31 f32 f33 f34 f35 f36 f37 f38 f39 f40 f41 f42 cc12 tt12 : Addr} (X : K.In h) (G : h.Ns mainGlobals mg) (hfa : mg "law" = some (.ref fa))
    {od1 an1 od2 an2 od3 an3 od4 an4 od5 an5 od6 an6 od7 an7 od8 an8 od9 an9 od10 an10 od11 an11 od12 an12 od13 an13 od14 an14 od15 an15 od16 an16 od17 an17 od18 an18 od19 an19 od20 an20 od21 an21 od22 an22 od23 an23 od24 an24 od25 an25 od26 an26 od27 an27 od28 an28 od29 an29 od30 an30 od31 an31 od32 an32 od33 an33 od34 an34 od35 an35 od36 an36 od37 an37 od38 an38 od39 an39 od40 an40 od41 an41 od42 an42 : Option Addr} {sl1 sl2 sl3 sl4 sl5 sl6 sl7 sl8 sl9 sl10 sl11 sl12 sl13 sl14 sl15 sl16 sl17 sl18 sl19 sl20 sl21 sl22 sl23 sl24 sl25 sl26 sl27 sl28 sl29 sl30 sl31 sl32 sl33 sl34 sl35 sl36 sl37 sl38 sl39 sl40 sl41 sl42 : Array (Option Value)} {kV1 dc1 pm1 ct1 oc1 cd1 kV2 dc2 pm2 ct2 oc2 cd2 kV3 dc3 pm3 ct3 oc3 cd3 kV4 dc4 pm4 ct4 oc4 cd4 kV5 dc5 pm5 ct5 oc5 cd5 kV6 dc6 pm6 ct6 oc6 cd6 kV7 dc7 pm7 ct7 oc7 cd7 kV8 dc8 pm8 ct8 oc8 cd8 kV9 dc9 pm9 ct9 oc9 cd9 kV10 dc10 pm10 ct10 oc10 cd10 kV11 dc11 pm11 ct11 oc11 cd11 kV12 dc12 pm12 ct12 oc12 kV13 dc13 pm13 ct13 oc13 cd13 kV14 dc14 pm14 ct14 oc14 cd14 kV15 dc15 pm15 ct15 oc15 cd15 kV16 dc16 pm16 ct16 oc16 cd16 kV17 dc17 pm17 ct17 oc17 cd17 kV18 dc18 pm18 ct18 oc18 cd18 kV19 dc19 pm19 ct19 oc19 cd19 kV20 dc20 pm20 ct20 oc20 cd20 kV21 dc21 pm21 ct21 oc21 cd21 kV22 dc22 pm22 ct22 oc22 cd22 kV23 dc23 pm23 ct23 oc23 cd23 kV24 dc24 pm24 ct24 oc24 cd24 kV25 dc25 pm25 ct25 oc25 cd25 kV26 dc26 pm26 ct26 oc26 cd26 kV27 dc27 pm27 ct27 oc27 cd27 kV28 dc28 pm28 ct28 oc28 cd28 kV29 dc29 pm29 ct29 oc29 cd29 kV30 dc30 pm30 ct30 oc30 cd30 kV31 dc31 pm31 ct31 oc31 cd31 kV32 dc32 pm32 ct32 oc32 cd32 kV33 dc33 pm33 ct33 oc33 cd33 kV34 dc34 pm34 ct34 oc34 cd34 kV35 dc35 pm35 ct35 oc35 cd35 kV36 dc36 pm36 ct36 oc36 cd36 kV37 dc37 pm37 ct37 oc37 cd37 kV38 dc38 pm38 ct38 oc38 cd38 kV39 dc39 pm39 ct39 oc39 cd39 kV40 dc40 pm40 ct40 oc40 cd40 kV41 dc41 pm41 ct41 oc41 cd41 kV42 dc42 pm42 ct42 oc42 cd42 : Value}
    {coc12 : Value} {cod12 : Option Addr} {cvs12 : Array Value} {csl12 : Array (Option Value)}
    (a1 : PySem.W.nsIn K mainGlobals "has" = some (some (.ref f1))) (l1 : K.lookup f1 = some ⟨oc1, od1, .func (PySem.W.fnOf "has" "has" (defArgs s_has) (defBody s_has) (defScope s_has) .none kV1 dc1 pm1 an1 cd1 ct1), sl1⟩) (c1 : PySem.W.codeIn K cd1 "has" = true) (k1 : PySem.W.keepIn K (.ref f1) = true)
    (a2 : PySem.W.nsIn K mainGlobals "with_option" = some (some (.ref f2))) (l2 : K.lookup f2 = some ⟨oc2, od2, .func (PySem.W.fnOf "with_option" "with_option" (defArgs s_with_option) (defBody s_with_option) (defScope s_with_option) .none kV2 dc2 pm2 an2 cd2 ct2), sl2⟩) (c2 : PySem.W.codeIn K cd2 "with_option" = true) (k2 : PySem.W.keepIn K (.ref f2) = true)
    (a3 : PySem.W.nsIn K mainGlobals "open_options" = some (some (.ref f3))) (l3 : K.lookup f3 = some ⟨oc3, od3, .func (PySem.W.fnOf "open_options" "open_options" (defArgs s_open_options) (defBody s_open_options) (defScope s_open_options) .none kV3 dc3 pm3 an3 cd3 ct3), sl3⟩) (c3 : PySem.W.codeIn K cd3 "open_options" = true) (k3 : PySem.W.keepIn K (.ref f3) = true)
    (a4 : PySem.W.nsIn K mainGlobals "many_ties" = some (some (.ref f4))) (l4 : K.lookup f4 = some ⟨oc4, od4, .func (PySem.W.fnOf "many_ties" "many_ties" (defArgs s_many_ties) (defBody s_many_ties) (defScope s_many_ties) .none kV4 dc4 pm4 an4 cd4 ct4), sl4⟩) (c4 : PySem.W.codeIn K cd4 "many_ties" = true) (k4 : PySem.W.keepIn K (.ref f4) = true)
    (a5 : PySem.W.nsIn K mainGlobals "tie_at" = some (some (.ref f5))) (l5 : K.lookup f5 = some ⟨oc5, od5, .func (PySem.W.fnOf "tie_at" "tie_at" (defArgs s_tie_at) (defBody s_tie_at) (defScope s_tie_at) .none kV5 dc5 pm5 an5 cd5 ct5), sl5⟩) (c5 : PySem.W.codeIn K cd5 "tie_at" = true) (k5 : PySem.W.keepIn K (.ref f5) = true)
    (a6 : PySem.W.nsIn K mainGlobals "count_in" = some (some (.ref f6))) (l6 : K.lookup f6 = some ⟨oc6, od6, .func (PySem.W.fnOf "count_in" "count_in" (defArgs s_count_in) (defBody s_count_in) (defScope s_count_in) .none kV6 dc6 pm6 an6 cd6 ct6), sl6⟩) (c6 : PySem.W.codeIn K cd6 "count_in" = true) (k6 : PySem.W.keepIn K (.ref f6) = true)
    (a7 : PySem.W.nsIn K mainGlobals "every_tie" = some (some (.ref f7))) (l7 : K.lookup f7 = some ⟨oc7, od7, .func (PySem.W.fnOf "every_tie" "every_tie" (defArgs s_every_tie) (defBody s_every_tie) (defScope s_every_tie) .none kV7 dc7 pm7 an7 cd7 ct7), sl7⟩) (c7 : PySem.W.codeIn K cd7 "every_tie" = true) (k7 : PySem.W.keepIn K (.ref f7) = true)
    (a8 : PySem.W.nsIn K mainGlobals "sure_broken" = some (some (.ref f8))) (l8 : K.lookup f8 = some ⟨oc8, od8, .func (PySem.W.fnOf "sure_broken" "sure_broken" (defArgs s_sure_broken) (defBody s_sure_broken) (defScope s_sure_broken) .none kV8 dc8 pm8 an8 cd8 ct8), sl8⟩) (c8 : PySem.W.codeIn K cd8 "sure_broken" = true) (k8 : PySem.W.keepIn K (.ref f8) = true)
    (a9 : PySem.W.nsIn K mainGlobals "least_sum" = some (some (.ref f9))) (l9 : K.lookup f9 = some ⟨oc9, od9, .func (PySem.W.fnOf "least_sum" "least_sum" (defArgs s_least_sum) (defBody s_least_sum) (defScope s_least_sum) .none kV9 dc9 pm9 an9 cd9 ct9), sl9⟩) (c9 : PySem.W.codeIn K cd9 "least_sum" = true) (k9 : PySem.W.keepIn K (.ref f9) = true)
    (a10 : PySem.W.nsIn K mainGlobals "sure_broken_bough" = some (some (.ref f10))) (l10 : K.lookup f10 = some ⟨oc10, od10, .func (PySem.W.fnOf "sure_broken_bough" "sure_broken_bough" (defArgs s_sure_broken_bough) (defBody s_sure_broken_bough) (defScope s_sure_broken_bough) .none kV10 dc10 pm10 an10 cd10 ct10), sl10⟩) (c10 : PySem.W.codeIn K cd10 "sure_broken_bough" = true) (k10 : PySem.W.keepIn K (.ref f10) = true)
    (a11 : PySem.W.nsIn K mainGlobals "first_sure_broken" = some (some (.ref f11))) (l11 : K.lookup f11 = some ⟨oc11, od11, .func (PySem.W.fnOf "first_sure_broken" "first_sure_broken" (defArgs s_first_sure_broken) (defBody s_first_sure_broken) (defScope s_first_sure_broken) .none kV11 dc11 pm11 an11 cd11 ct11), sl11⟩) (c11 : PySem.W.codeIn K cd11 "first_sure_broken" = true) (k11 : PySem.W.keepIn K (.ref f11) = true)
    (a12 : PySem.W.nsIn K mainGlobals "cases_of" = some (some (.ref f12))) (l12 : K.lookup f12 = some ⟨oc12, od12, .func (PySem.W.fnOf "cases_of" "cases_of" (defArgs s_cases_of) (defBody s_cases_of) (defScope s_cases_of) .none kV12 dc12 pm12 an12 (.ref cc12) ct12), sl12⟩) (c12 : PySem.W.codeIn K (.ref cc12) "cases_of" = true) (k12 : PySem.W.keepIn K (.ref f12) = true)
    (m12 : K.lookup cc12 = some ⟨coc12, cod12, .fields cvs12, csl12⟩) (n12 : (cvs12[11]? : Option Value) = some (.ref tt12))
    (a13 : PySem.W.nsIn K mainGlobals "ware_leaf" = some (some (.ref f13))) (l13 : K.lookup f13 = some ⟨oc13, od13, .func (PySem.W.fnOf "ware_leaf" "ware_leaf" (defArgs s_ware_leaf) (defBody s_ware_leaf) (defScope s_ware_leaf) .none kV13 dc13 pm13 an13 cd13 ct13), sl13⟩) (c13 : PySem.W.codeIn K cd13 "ware_leaf" = true) (k13 : PySem.W.keepIn K (.ref f13) = true)
    (a14 : PySem.W.nsIn K mainGlobals "told_tree" = some (some (.ref f14))) (l14 : K.lookup f14 = some ⟨oc14, od14, .func (PySem.W.fnOf "told_tree" "told_tree" (defArgs s_told_tree) (defBody s_told_tree) (defScope s_told_tree) .none kV14 dc14 pm14 an14 cd14 ct14), sl14⟩) (c14 : PySem.W.codeIn K cd14 "told_tree" = true) (k14 : PySem.W.keepIn K (.ref f14) = true)
    (a15 : PySem.W.nsIn K mainGlobals "first_ware" = some (some (.ref f15))) (l15 : K.lookup f15 = some ⟨oc15, od15, .func (PySem.W.fnOf "first_ware" "first_ware" (defArgs s_first_ware) (defBody s_first_ware) (defScope s_first_ware) .none kV15 dc15 pm15 an15 cd15 ct15), sl15⟩) (c15 : PySem.W.codeIn K cd15 "first_ware" = true) (k15 : PySem.W.keepIn K (.ref f15) = true)
    (a16 : PySem.W.nsIn K mainGlobals "first_keeping" = some (some (.ref f16))) (l16 : K.lookup f16 = some ⟨oc16, od16, .func (PySem.W.fnOf "first_keeping" "first_keeping" (defArgs s_first_keeping) (defBody s_first_keeping) (defScope s_first_keeping) .none kV16 dc16 pm16 an16 cd16 ct16), sl16⟩) (c16 : PySem.W.codeIn K cd16 "first_keeping" = true) (k16 : PySem.W.keepIn K (.ref f16) = true)
    (a17 : PySem.W.nsIn K mainGlobals "bars" = some (some (.ref f17))) (l17 : K.lookup f17 = some ⟨oc17, od17, .func (PySem.W.fnOf "bars" "bars" (defArgs s_bars) (defBody s_bars) (defScope s_bars) .none kV17 dc17 pm17 an17 cd17 ct17), sl17⟩) (c17 : PySem.W.codeIn K cd17 "bars" = true) (k17 : PySem.W.keepIn K (.ref f17) = true)
    (a18 : PySem.W.nsIn K mainGlobals "least_bar" = some (some (.ref f18))) (l18 : K.lookup f18 = some ⟨oc18, od18, .func (PySem.W.fnOf "least_bar" "least_bar" (defArgs s_least_bar) (defBody s_least_bar) (defScope s_least_bar) .none kV18 dc18 pm18 an18 cd18 ct18), sl18⟩) (c18 : PySem.W.codeIn K cd18 "least_bar" = true) (k18 : PySem.W.keepIn K (.ref f18) = true)
    (a19 : PySem.W.nsIn K mainGlobals "least_ties" = some (some (.ref f19))) (l19 : K.lookup f19 = some ⟨oc19, od19, .func (PySem.W.fnOf "least_ties" "least_ties" (defArgs s_least_ties) (defBody s_least_ties) (defScope s_least_ties) .none kV19 dc19 pm19 an19 cd19 ct19), sl19⟩) (c19 : PySem.W.codeIn K cd19 "least_ties" = true) (k19 : PySem.W.keepIn K (.ref f19) = true)
    (a20 : PySem.W.nsIn K mainGlobals "tie_others" = some (some (.ref f20))) (l20 : K.lookup f20 = some ⟨oc20, od20, .func (PySem.W.fnOf "tie_others" "tie_others" (defArgs s_tie_others) (defBody s_tie_others) (defScope s_tie_others) .none kV20 dc20 pm20 an20 cd20 ct20), sl20⟩) (c20 : PySem.W.codeIn K cd20 "tie_others" = true) (k20 : PySem.W.keepIn K (.ref f20) = true)
    (a21 : PySem.W.nsIn K mainGlobals "left_without" = some (some (.ref f21))) (l21 : K.lookup f21 = some ⟨oc21, od21, .func (PySem.W.fnOf "left_without" "left_without" (defArgs s_left_without) (defBody s_left_without) (defScope s_left_without) .none kV21 dc21 pm21 an21 cd21 ct21), sl21⟩) (c21 : PySem.W.codeIn K cd21 "left_without" = true) (k21 : PySem.W.keepIn K (.ref f21) = true)
    (a22 : PySem.W.nsIn K mainGlobals "standing" = some (some (.ref f22))) (l22 : K.lookup f22 = some ⟨oc22, od22, .func (PySem.W.fnOf "standing" "standing" (defArgs s_standing) (defBody s_standing) (defScope s_standing) .none kV22 dc22 pm22 an22 cd22 ct22), sl22⟩) (c22 : PySem.W.codeIn K cd22 "standing" = true) (k22 : PySem.W.keepIn K (.ref f22) = true)
    (a23 : PySem.W.nsIn K mainGlobals "_law_cell" = some (some (.ref f23))) (l23 : K.lookup f23 = some ⟨oc23, od23, .func (PySem.W.fnOf "_law_cell" "_law_cell" (defArgs s_law_cell) (defBody s_law_cell) (defScope s_law_cell) .none kV23 dc23 pm23 an23 cd23 ct23), sl23⟩) (c23 : PySem.W.codeIn K cd23 "_law_cell" = true) (k23 : PySem.W.keepIn K (.ref f23) = true)
    (a24 : PySem.W.nsIn K mainGlobals "_law_next" = some (some (.ref f24))) (l24 : K.lookup f24 = some ⟨oc24, od24, .func (PySem.W.fnOf "_law_next" "_law_next" (defArgs s_law_next) (defBody s_law_next) (defScope s_law_next) .none kV24 dc24 pm24 an24 cd24 ct24), sl24⟩) (c24 : PySem.W.codeIn K cd24 "_law_next" = true) (k24 : PySem.W.keepIn K (.ref f24) = true)
    (a25 : PySem.W.nsIn K mainGlobals "_law_kids" = some (some (.ref f25))) (l25 : K.lookup f25 = some ⟨oc25, od25, .func (PySem.W.fnOf "_law_kids" "_law_kids" (defArgs s_law_kids) (defBody s_law_kids) (defScope s_law_kids) .none kV25 dc25 pm25 an25 cd25 ct25), sl25⟩) (c25 : PySem.W.codeIn K cd25 "_law_kids" = true) (k25 : PySem.W.keepIn K (.ref f25) = true)
    (a26 : PySem.W.nsIn K mainGlobals "_law_bough" = some (some (.ref f26))) (l26 : K.lookup f26 = some ⟨oc26, od26, .func (PySem.W.fnOf "_law_bough" "_law_bough" (defArgs s_law_bough) (defBody s_law_bough) (defScope s_law_bough) .none kV26 dc26 pm26 an26 cd26 ct26), sl26⟩) (c26 : PySem.W.codeIn K cd26 "_law_bough" = true) (k26 : PySem.W.keepIn K (.ref f26) = true)
    (a27 : PySem.W.nsIn K mainGlobals "_law_cross" = some (some (.ref f27))) (l27 : K.lookup f27 = some ⟨oc27, od27, .func (PySem.W.fnOf "_law_cross" "_law_cross" (defArgs s_law_cross) (defBody s_law_cross) (defScope s_law_cross) .none kV27 dc27 pm27 an27 cd27 ct27), sl27⟩) (c27 : PySem.W.codeIn K cd27 "_law_cross" = true) (k27 : PySem.W.keepIn K (.ref f27) = true)
    (a28 : PySem.W.nsIn K mainGlobals "_law_wood" = some (some (.ref f28))) (l28 : K.lookup f28 = some ⟨oc28, od28, .func (PySem.W.fnOf "_law_wood" "_law_wood" (defArgs s_law_wood) (defBody s_law_wood) (defScope s_law_wood) .none kV28 dc28 pm28 an28 cd28 ct28), sl28⟩) (c28 : PySem.W.codeIn K cd28 "_law_wood" = true) (k28 : PySem.W.keepIn K (.ref f28) = true)
    (a29 : PySem.W.nsIn K mainGlobals "_law_crossed" = some (some (.ref f29))) (l29 : K.lookup f29 = some ⟨oc29, od29, .func (PySem.W.fnOf "_law_crossed" "_law_crossed" (defArgs s_law_crossed) (defBody s_law_crossed) (defScope s_law_crossed) .none kV29 dc29 pm29 an29 cd29 ct29), sl29⟩) (c29 : PySem.W.codeIn K cd29 "_law_crossed" = true) (k29 : PySem.W.keepIn K (.ref f29) = true)
    (a30 : PySem.W.nsIn K mainGlobals "_law_keeps" = some (some (.ref f30))) (l30 : K.lookup f30 = some ⟨oc30, od30, .func (PySem.W.fnOf "_law_keeps" "_law_keeps" (defArgs s_law_keeps) (defBody s_law_keeps) (defScope s_law_keeps) .none kV30 dc30 pm30 an30 cd30 ct30), sl30⟩) (c30 : PySem.W.codeIn K cd30 "_law_keeps" = true) (k30 : PySem.W.keepIn K (.ref f30) = true)
    (a31 : PySem.W.nsIn K mainGlobals "_law_ties" = some (some (.ref f31))) (l31 : K.lookup f31 = some ⟨oc31, od31, .func (PySem.W.fnOf "_law_ties" "_law_ties" (defArgs s_law_ties) (defBody s_law_ties) (defScope s_law_ties) .none kV31 dc31 pm31 an31 cd31 ct31), sl31⟩) (c31 : PySem.W.codeIn K cd31 "_law_ties" = true) (k31 : PySem.W.keepIn K (.ref f31) = true)
    (a32 : PySem.W.nsIn K mainGlobals "_law_kept_by" = some (some (.ref f32))) (l32 : K.lookup f32 = some ⟨oc32, od32, .func (PySem.W.fnOf "_law_kept_by" "_law_kept_by" (defArgs s_law_kept_by) (defBody s_law_kept_by) (defScope s_law_kept_by) .none kV32 dc32 pm32 an32 cd32 ct32), sl32⟩) (c32 : PySem.W.codeIn K cd32 "_law_kept_by" = true) (k32 : PySem.W.keepIn K (.ref f32) = true)
    (a33 : PySem.W.nsIn K mainGlobals "_law_broken" = some (some (.ref f33))) (l33 : K.lookup f33 = some ⟨oc33, od33, .func (PySem.W.fnOf "_law_broken" "_law_broken" (defArgs s_law_broken) (defBody s_law_broken) (defScope s_law_broken) .none kV33 dc33 pm33 an33 cd33 ct33), sl33⟩) (c33 : PySem.W.codeIn K cd33 "_law_broken" = true) (k33 : PySem.W.keepIn K (.ref f33) = true)
    (a34 : PySem.W.nsIn K mainGlobals "_law_tree" = some (some (.ref f34))) (l34 : K.lookup f34 = some ⟨oc34, od34, .func (PySem.W.fnOf "_law_tree" "_law_tree" (defArgs s_law_tree) (defBody s_law_tree) (defScope s_law_tree) .none kV34 dc34 pm34 an34 cd34 ct34), sl34⟩) (c34 : PySem.W.codeIn K cd34 "_law_tree" = true) (k34 : PySem.W.keepIn K (.ref f34) = true)
    (a35 : PySem.W.nsIn K mainGlobals "_law_alike" = some (some (.ref f35))) (l35 : K.lookup f35 = some ⟨oc35, od35, .func (PySem.W.fnOf "_law_alike" "_law_alike" (defArgs s_law_alike) (defBody s_law_alike) (defScope s_law_alike) .none kV35 dc35 pm35 an35 cd35 ct35), sl35⟩) (c35 : PySem.W.codeIn K cd35 "_law_alike" = true) (k35 : PySem.W.keepIn K (.ref f35) = true)
    (a36 : PySem.W.nsIn K mainGlobals "_law_barred" = some (some (.ref f36))) (l36 : K.lookup f36 = some ⟨oc36, od36, .func (PySem.W.fnOf "_law_barred" "_law_barred" (defArgs s_law_barred) (defBody s_law_barred) (defScope s_law_barred) .none kV36 dc36 pm36 an36 cd36 ct36), sl36⟩) (c36 : PySem.W.codeIn K cd36 "_law_barred" = true) (k36 : PySem.W.keepIn K (.ref f36) = true)
    (a37 : PySem.W.nsIn K mainGlobals "_law_first" = some (some (.ref f37))) (l37 : K.lookup f37 = some ⟨oc37, od37, .func (PySem.W.fnOf "_law_first" "_law_first" (defArgs s_law_first) (defBody s_law_first) (defScope s_law_first) .none kV37 dc37 pm37 an37 cd37 ct37), sl37⟩) (c37 : PySem.W.codeIn K cd37 "_law_first" = true) (k37 : PySem.W.keepIn K (.ref f37) = true)
    (a38 : PySem.W.nsIn K mainGlobals "_law_bar" = some (some (.ref f38))) (l38 : K.lookup f38 = some ⟨oc38, od38, .func (PySem.W.fnOf "_law_bar" "_law_bar" (defArgs s_law_bar) (defBody s_law_bar) (defScope s_law_bar) .none kV38 dc38 pm38 an38 cd38 ct38), sl38⟩) (c38 : PySem.W.codeIn K cd38 "_law_bar" = true) (k38 : PySem.W.keepIn K (.ref f38) = true)
    (a39 : PySem.W.nsIn K mainGlobals "_law_is_bar" = some (some (.ref f39))) (l39 : K.lookup f39 = some ⟨oc39, od39, .func (PySem.W.fnOf "_law_is_bar" "_law_is_bar" (defArgs s_law_is_bar) (defBody s_law_is_bar) (defScope s_law_is_bar) .none kV39 dc39 pm39 an39 cd39 ct39), sl39⟩) (c39 : PySem.W.codeIn K cd39 "_law_is_bar" = true) (k39 : PySem.W.keepIn K (.ref f39) = true)
    (a40 : PySem.W.nsIn K mainGlobals "_law_due" = some (some (.ref f40))) (l40 : K.lookup f40 = some ⟨oc40, od40, .func (PySem.W.fnOf "_law_due" "_law_due" (defArgs s_law_due) (defBody s_law_due) (defScope s_law_due) .none kV40 dc40 pm40 an40 cd40 ct40), sl40⟩) (c40 : PySem.W.codeIn K cd40 "_law_due" = true) (k40 : PySem.W.keepIn K (.ref f40) = true)
    (a41 : PySem.W.nsIn K mainGlobals "_law_right" = some (some (.ref f41))) (l41 : K.lookup f41 = some ⟨oc41, od41, .func (PySem.W.fnOf "_law_right" "_law_right" (defArgs s_law_right) (defBody s_law_right) (defScope s_law_right) .none kV41 dc41 pm41 an41 cd41 ct41), sl41⟩) (c41 : PySem.W.codeIn K cd41 "_law_right" = true) (k41 : PySem.W.keepIn K (.ref f41) = true)
    (a42 : PySem.W.nsIn K mainGlobals "law" = some (some (.ref f42))) (l42 : K.lookup f42 = some ⟨oc42, od42, .func (PySem.W.fnOf "law" "law" (defArgs s_law) (defBody s_law) (defScope s_law) .none kV42 dc42 pm42 an42 cd42 ct42), sl42⟩) (c42 : PySem.W.codeIn K cd42 "law" = true) (k42 : PySem.W.keepIn K (.ref f42) = true)
    (z1 : PySem.W.nsIn K mainGlobals "range" = some none)
    (z2 : PySem.W.nsIn K mainGlobals "len" = some none)
    (z3 : PySem.W.nsIn K mainGlobals "isinstance" = some none)
    (z4 : PySem.W.nsIn K mainGlobals "max" = some none)
    (z5 : PySem.W.nsIn K mainGlobals "all" = some none)
    (z6 : PySem.W.nsIn K mainGlobals "int" = some none)
    (z7 : PySem.W.nsIn K mainGlobals "bool" = some none)
    (z8 : PySem.W.nsIn K mainGlobals "list" = some none)
    (z9 : PySem.W.nsIn K mainGlobals "tuple" = some none)
    (z10 : PySem.W.nsIn K mainGlobals "str" = some none)
    (z11 : PySem.W.nsIn K mainGlobals "sum" = some none)
    (z12 : PySem.W.nsIn K mainGlobals "zip" = some none)
    : (∃ fd : FuncData, (∀ (s : Shared) (v : Value), BindsTo s fd ⟨[v], []⟩ [("_law_script", v)]) ∧ ∀ base : Heap, K.In base → base.Ns mainGlobals mg → (∀ p ∈ ([(cc12, tt12)] : List (Addr × Addr)), LamB mg base p.1 p.2) → FnOk l.prog w K mg base CX0 21 fa fd ["_law_script"] (spT tt12 (spLaw K))) := by
  have e := hfa.symm.trans (PySem.W.mg_of X G a42)
  cases e
  have F1 := fun_mk (st := s_has) l1 c1 k1
  have F2 := fun_mk (st := s_with_option) l2 c2 k2
  have F3 := fun_mk (st := s_open_options) l3 c3 k3
  have F4 := fun_mk (st := s_many_ties) l4 c4 k4
  have F5 := fun_mk (st := s_tie_at) l5 c5 k5
  have F6 := fun_mk (st := s_count_in) l6 c6 k6
  have F7 := fun_mk (st := s_every_tie) l7 c7 k7
  have F8 := fun_mk (st := s_sure_broken) l8 c8 k8
  have F9 := fun_mk (st := s_least_sum) l9 c9 k9
  have F10 := fun_mk (st := s_sure_broken_bough) l10 c10 k10
  have F11 := fun_mk (st := s_first_sure_broken) l11 c11 k11
  have F12 := fun_mk (st := s_cases_of) l12 c12 k12
  have F13 := fun_mk (st := s_ware_leaf) l13 c13 k13
  have F14 := fun_mk (st := s_told_tree) l14 c14 k14
  have F15 := fun_mk (st := s_first_ware) l15 c15 k15
  have F16 := fun_mk (st := s_first_keeping) l16 c16 k16
  have F17 := fun_mk (st := s_bars) l17 c17 k17
  have F18 := fun_mk (st := s_least_bar) l18 c18 k18
  have F19 := fun_mk (st := s_least_ties) l19 c19 k19
  have F20 := fun_mk (st := s_tie_others) l20 c20 k20
  have F21 := fun_mk (st := s_left_without) l21 c21 k21
  have F22 := fun_mk (st := s_standing) l22 c22 k22
  have F23 := fun_mk (st := s_law_cell) l23 c23 k23
  have F24 := fun_mk (st := s_law_next) l24 c24 k24
  have F25 := fun_mk (st := s_law_kids) l25 c25 k25
  have F26 := fun_mk (st := s_law_bough) l26 c26 k26
  have F27 := fun_mk (st := s_law_cross) l27 c27 k27
  have F28 := fun_mk (st := s_law_wood) l28 c28 k28
  have F29 := fun_mk (st := s_law_crossed) l29 c29 k29
  have F30 := fun_mk (st := s_law_keeps) l30 c30 k30
  have F31 := fun_mk (st := s_law_ties) l31 c31 k31
  have F32 := fun_mk (st := s_law_kept_by) l32 c32 k32
  have F33 := fun_mk (st := s_law_broken) l33 c33 k33
  have F34 := fun_mk (st := s_law_tree) l34 c34 k34
  have F35 := fun_mk (st := s_law_alike) l35 c35 k35
  have F36 := fun_mk (st := s_law_barred) l36 c36 k36
  have F37 := fun_mk (st := s_law_first) l37 c37 k37
  have F38 := fun_mk (st := s_law_bar) l38 c38 k38
  have F39 := fun_mk (st := s_law_is_bar) l39 c39 k39
  have F40 := fun_mk (st := s_law_due) l40 c40 k40
  have F41 := fun_mk (st := s_law_right) l41 c41 k41
  have F42 := fun_mk (st := s_law) l42 c42 k42
  have b1 := F1.binds (ps := ["some", "k"]) fun _ _ _ _ _ _ us hl => len2 us hl fun _ _ => rfl
  have b2 := F2.binds (ps := ["some", "k"]) fun _ _ _ _ _ _ us hl => len2 us hl fun _ _ => rfl
  have b3 := F3.binds (ps := ["many", "yes", "no"]) fun _ _ _ _ _ _ us hl => len3 us hl fun _ _ _ => rfl
  have b4 := F4.binds (ps := ["wood"]) fun _ _ _ _ _ _ us hl => len1 us hl fun _ => rfl
  have b5 := F5.binds (ps := ["wood", "t"]) fun _ _ _ _ _ _ us hl => len2 us hl fun _ _ => rfl
  have b6 := F6.binds (ps := ["kids", "some"]) fun _ _ _ _ _ _ us hl => len2 us hl fun _ _ => rfl
  have b7 := F7.binds (ps := ["wood"]) fun _ _ _ _ _ _ us hl => len1 us hl fun _ => rfl
  have b8 := F8.binds (ps := ["tie", "yes", "no"]) fun _ _ _ _ _ _ us hl => len3 us hl fun _ _ _ => rfl
  have b9 := F9.binds (ps := ["pairs", "yes", "no"]) fun _ _ _ _ _ _ us hl => len3 us hl fun _ _ _ => rfl
  have b10 := F10.binds (ps := ["bough", "yes", "no"]) fun _ _ _ _ _ _ us hl => len3 us hl fun _ _ _ => rfl
  have b11 := F11.binds (ps := ["wood", "ties", "yes", "no"]) fun _ _ _ _ _ _ us hl => len4 us hl fun _ _ _ _ => rfl
  have b12 := F12.binds (ps := ["wood", "ties", "yes", "no"]) fun _ _ _ _ _ _ us hl => len4 us hl fun _ _ _ _ => rfl
  have b13 := F13.binds (ps := ["wood", "yes", "no"]) fun _ _ _ _ _ _ us hl => len3 us hl fun _ _ _ => rfl
  have b14 := F14.binds (ps := ["wood", "ties", "yes", "no", "leaf_at"]) fun _ _ _ _ _ _ us hl => len5 us hl fun _ _ _ _ _ => rfl
  have b15 := F15.binds (ps := ["wood", "yes", "no"]) fun _ _ _ _ _ _ us hl => len3 us hl fun _ _ _ => rfl
  have b16 := F16.binds (ps := ["wood", "ties", "yes", "no"]) fun _ _ _ _ _ _ us hl => len4 us hl fun _ _ _ _ => rfl
  have b17 := F17.binds (ps := ["wood", "ties", "yes", "no"]) fun _ _ _ _ _ _ us hl => len4 us hl fun _ _ _ _ => rfl
  have b18 := F18.binds (ps := ["wood", "yes", "no"]) fun _ _ _ _ _ _ us hl => len3 us hl fun _ _ _ => rfl
  have b19 := F19.binds (ps := ["wood", "yes", "no"]) fun _ _ _ _ _ _ us hl => len3 us hl fun _ _ _ => rfl
  have b20 := F20.binds (ps := ["wood", "ties", "yes", "no"]) fun _ _ _ _ _ _ us hl => len4 us hl fun _ _ _ _ => rfl
  have b21 := F21.binds (ps := ["things", "one"]) fun _ _ _ _ _ _ us hl => len2 us hl fun _ _ => rfl
  have b22 := F22.binds (ps := ["wood", "k"]) fun _ _ _ _ _ _ us hl => len2 us hl fun _ _ => rfl
  have b23 := F23.binds (ps := ["_law_script", "_law_k"]) fun _ _ _ _ _ _ us hl => len2 us hl fun _ _ => rfl
  have b24 := F24.binds (ps := ["_law_pen", "_law_most"]) fun _ _ _ _ _ _ us hl => len2 us hl fun _ _ => rfl
  have b25 := F25.binds (ps := ["_law_pen", "_law_many"]) fun _ _ _ _ _ _ us hl => len2 us hl fun _ _ => rfl
  have b26 := F26.binds (ps := ["_law_pen", "_law_up", "_law_kids_here"]) fun _ _ _ _ _ _ us hl => len3 us hl fun _ _ _ => rfl
  have b27 := F27.binds (ps := ["_law_pen", "_law_many"]) fun _ _ _ _ _ _ us hl => len2 us hl fun _ _ => rfl
  have b28 := F28.binds (ps := ["_law_pen", "_law_many", "_law_most"]) fun _ _ _ _ _ _ us hl => len3 us hl fun _ _ _ => rfl
  have b29 := F29.binds (ps := ["_law_pen", "_law_wood_here"]) fun _ _ _ _ _ _ us hl => len2 us hl fun _ _ => rfl
  have b30 := F30.binds (ps := ["_law_tie", "_law_some"]) fun _ _ _ _ _ _ us hl => len2 us hl fun _ _ => rfl
  have b31 := F31.binds (ps := ["_law_wood_here"]) fun _ _ _ _ _ _ us hl => len1 us hl fun _ => rfl
  have b32 := F32.binds (ps := ["_law_wood_here"]) fun _ _ _ _ _ _ us hl => len1 us hl fun _ => rfl
  have b33 := F33.binds (ps := ["_law_kept", "_law_yes", "_law_no"]) fun _ _ _ _ _ _ us hl => len3 us hl fun _ _ _ => rfl
  have b34 := F34.binds (ps := ["_law_many", "_law_kept_by_here", "_law_ties_here", "_law_yes", "_law_no"]) fun _ _ _ _ _ _ us hl => len5 us hl fun _ _ _ _ _ => rfl
  have b35 := F35.binds (ps := ["_law_found", "_law_due_here"]) fun _ _ _ _ _ _ us hl => len2 us hl fun _ _ => rfl
  have b36 := F36.binds (ps := ["_law_wood_here", "_law_kept_by_here", "_law_ties_here", "_law_yes", "_law_no"]) fun _ _ _ _ _ _ us hl => len5 us hl fun _ _ _ _ _ => rfl
  have b37 := F37.binds (ps := ["_law_wood_here", "_law_kept_by_here", "_law_ties_here", "_law_yes", "_law_no"]) fun _ _ _ _ _ _ us hl => len5 us hl fun _ _ _ _ _ => rfl
  have b38 := F38.binds (ps := ["_law_wood_here", "_law_kept_by_here", "_law_yes", "_law_no"]) fun _ _ _ _ _ _ us hl => len4 us hl fun _ _ _ _ => rfl
  have b39 := F39.binds (ps := ["_law_found", "_law_due_here"]) fun _ _ _ _ _ _ us hl => len2 us hl fun _ _ => rfl
  have b40 := F40.binds (ps := ["_law_wood_here", "_law_kept_by_here", "_law_k"]) fun _ _ _ _ _ _ us hl => len3 us hl fun _ _ _ => rfl
  have b41 := F41.binds (ps := ["_law_found", "_law_due_here"]) fun _ _ _ _ _ _ us hl => len2 us hl fun _ _ => rfl
  have b42 := F42.binds (ps := ["_law_script"]) fun _ _ _ _ _ _ us hl => len1 us hl fun _ => rfl
  have T : Txt K mg ⟨f1, f2, f3, f4, f5, f6, f7, f8, f9, f10, f11, f12, f13, f14, f15, f16, f17, f18, f19, f20, f21, f22, f23, f24, f25, f26, f27, f28, f29, f30, f31, f32, f33, f34, f35, f36, f37, f38, f39, f40, f41, fa, cc12, tt12⟩ ⟨PySem.W.fnOf "has" "has" (defArgs s_has) (defBody s_has) (defScope s_has) .none kV1 dc1 pm1 an1 cd1 ct1, PySem.W.fnOf "with_option" "with_option" (defArgs s_with_option) (defBody s_with_option) (defScope s_with_option) .none kV2 dc2 pm2 an2 cd2 ct2, PySem.W.fnOf "open_options" "open_options" (defArgs s_open_options) (defBody s_open_options) (defScope s_open_options) .none kV3 dc3 pm3 an3 cd3 ct3, PySem.W.fnOf "many_ties" "many_ties" (defArgs s_many_ties) (defBody s_many_ties) (defScope s_many_ties) .none kV4 dc4 pm4 an4 cd4 ct4, PySem.W.fnOf "tie_at" "tie_at" (defArgs s_tie_at) (defBody s_tie_at) (defScope s_tie_at) .none kV5 dc5 pm5 an5 cd5 ct5, PySem.W.fnOf "count_in" "count_in" (defArgs s_count_in) (defBody s_count_in) (defScope s_count_in) .none kV6 dc6 pm6 an6 cd6 ct6, PySem.W.fnOf "every_tie" "every_tie" (defArgs s_every_tie) (defBody s_every_tie) (defScope s_every_tie) .none kV7 dc7 pm7 an7 cd7 ct7, PySem.W.fnOf "sure_broken" "sure_broken" (defArgs s_sure_broken) (defBody s_sure_broken) (defScope s_sure_broken) .none kV8 dc8 pm8 an8 cd8 ct8, PySem.W.fnOf "least_sum" "least_sum" (defArgs s_least_sum) (defBody s_least_sum) (defScope s_least_sum) .none kV9 dc9 pm9 an9 cd9 ct9, PySem.W.fnOf "sure_broken_bough" "sure_broken_bough" (defArgs s_sure_broken_bough) (defBody s_sure_broken_bough) (defScope s_sure_broken_bough) .none kV10 dc10 pm10 an10 cd10 ct10, PySem.W.fnOf "first_sure_broken" "first_sure_broken" (defArgs s_first_sure_broken) (defBody s_first_sure_broken) (defScope s_first_sure_broken) .none kV11 dc11 pm11 an11 cd11 ct11, PySem.W.fnOf "cases_of" "cases_of" (defArgs s_cases_of) (defBody s_cases_of) (defScope s_cases_of) .none kV12 dc12 pm12 an12 (.ref cc12) ct12, PySem.W.fnOf "ware_leaf" "ware_leaf" (defArgs s_ware_leaf) (defBody s_ware_leaf) (defScope s_ware_leaf) .none kV13 dc13 pm13 an13 cd13 ct13, PySem.W.fnOf "told_tree" "told_tree" (defArgs s_told_tree) (defBody s_told_tree) (defScope s_told_tree) .none kV14 dc14 pm14 an14 cd14 ct14, PySem.W.fnOf "first_ware" "first_ware" (defArgs s_first_ware) (defBody s_first_ware) (defScope s_first_ware) .none kV15 dc15 pm15 an15 cd15 ct15, PySem.W.fnOf "first_keeping" "first_keeping" (defArgs s_first_keeping) (defBody s_first_keeping) (defScope s_first_keeping) .none kV16 dc16 pm16 an16 cd16 ct16, PySem.W.fnOf "bars" "bars" (defArgs s_bars) (defBody s_bars) (defScope s_bars) .none kV17 dc17 pm17 an17 cd17 ct17, PySem.W.fnOf "least_bar" "least_bar" (defArgs s_least_bar) (defBody s_least_bar) (defScope s_least_bar) .none kV18 dc18 pm18 an18 cd18 ct18, PySem.W.fnOf "least_ties" "least_ties" (defArgs s_least_ties) (defBody s_least_ties) (defScope s_least_ties) .none kV19 dc19 pm19 an19 cd19 ct19, PySem.W.fnOf "tie_others" "tie_others" (defArgs s_tie_others) (defBody s_tie_others) (defScope s_tie_others) .none kV20 dc20 pm20 an20 cd20 ct20, PySem.W.fnOf "left_without" "left_without" (defArgs s_left_without) (defBody s_left_without) (defScope s_left_without) .none kV21 dc21 pm21 an21 cd21 ct21, PySem.W.fnOf "standing" "standing" (defArgs s_standing) (defBody s_standing) (defScope s_standing) .none kV22 dc22 pm22 an22 cd22 ct22, PySem.W.fnOf "_law_cell" "_law_cell" (defArgs s_law_cell) (defBody s_law_cell) (defScope s_law_cell) .none kV23 dc23 pm23 an23 cd23 ct23, PySem.W.fnOf "_law_next" "_law_next" (defArgs s_law_next) (defBody s_law_next) (defScope s_law_next) .none kV24 dc24 pm24 an24 cd24 ct24, PySem.W.fnOf "_law_kids" "_law_kids" (defArgs s_law_kids) (defBody s_law_kids) (defScope s_law_kids) .none kV25 dc25 pm25 an25 cd25 ct25, PySem.W.fnOf "_law_bough" "_law_bough" (defArgs s_law_bough) (defBody s_law_bough) (defScope s_law_bough) .none kV26 dc26 pm26 an26 cd26 ct26, PySem.W.fnOf "_law_cross" "_law_cross" (defArgs s_law_cross) (defBody s_law_cross) (defScope s_law_cross) .none kV27 dc27 pm27 an27 cd27 ct27, PySem.W.fnOf "_law_wood" "_law_wood" (defArgs s_law_wood) (defBody s_law_wood) (defScope s_law_wood) .none kV28 dc28 pm28 an28 cd28 ct28, PySem.W.fnOf "_law_crossed" "_law_crossed" (defArgs s_law_crossed) (defBody s_law_crossed) (defScope s_law_crossed) .none kV29 dc29 pm29 an29 cd29 ct29, PySem.W.fnOf "_law_keeps" "_law_keeps" (defArgs s_law_keeps) (defBody s_law_keeps) (defScope s_law_keeps) .none kV30 dc30 pm30 an30 cd30 ct30, PySem.W.fnOf "_law_ties" "_law_ties" (defArgs s_law_ties) (defBody s_law_ties) (defScope s_law_ties) .none kV31 dc31 pm31 an31 cd31 ct31, PySem.W.fnOf "_law_kept_by" "_law_kept_by" (defArgs s_law_kept_by) (defBody s_law_kept_by) (defScope s_law_kept_by) .none kV32 dc32 pm32 an32 cd32 ct32, PySem.W.fnOf "_law_broken" "_law_broken" (defArgs s_law_broken) (defBody s_law_broken) (defScope s_law_broken) .none kV33 dc33 pm33 an33 cd33 ct33, PySem.W.fnOf "_law_tree" "_law_tree" (defArgs s_law_tree) (defBody s_law_tree) (defScope s_law_tree) .none kV34 dc34 pm34 an34 cd34 ct34, PySem.W.fnOf "_law_alike" "_law_alike" (defArgs s_law_alike) (defBody s_law_alike) (defScope s_law_alike) .none kV35 dc35 pm35 an35 cd35 ct35, PySem.W.fnOf "_law_barred" "_law_barred" (defArgs s_law_barred) (defBody s_law_barred) (defScope s_law_barred) .none kV36 dc36 pm36 an36 cd36 ct36, PySem.W.fnOf "_law_first" "_law_first" (defArgs s_law_first) (defBody s_law_first) (defScope s_law_first) .none kV37 dc37 pm37 an37 cd37 ct37, PySem.W.fnOf "_law_bar" "_law_bar" (defArgs s_law_bar) (defBody s_law_bar) (defScope s_law_bar) .none kV38 dc38 pm38 an38 cd38 ct38, PySem.W.fnOf "_law_is_bar" "_law_is_bar" (defArgs s_law_is_bar) (defBody s_law_is_bar) (defScope s_law_is_bar) .none kV39 dc39 pm39 an39 cd39 ct39, PySem.W.fnOf "_law_due" "_law_due" (defArgs s_law_due) (defBody s_law_due) (defScope s_law_due) .none kV40 dc40 pm40 an40 cd40 ct40, PySem.W.fnOf "_law_right" "_law_right" (defArgs s_law_right) (defBody s_law_right) (defScope s_law_right) .none kV41 dc41 pm41 an41 cd41 ct41, PySem.W.fnOf "law" "law" (defArgs s_law) (defBody s_law) (defScope s_law) .none kV42 dc42 pm42 an42 cd42 ct42⟩ := ⟨PySem.W.mg_none_of X G z1, PySem.W.mg_none_of X G z2, PySem.W.mg_none_of X G z3, PySem.W.mg_none_of X G z4, PySem.W.mg_none_of X G z5, PySem.W.mg_none_of X G z6, PySem.W.mg_none_of X G z7, PySem.W.mg_none_of X G z8, PySem.W.mg_none_of X G z9, PySem.W.mg_none_of X G z10, PySem.W.mg_none_of X G z11, PySem.W.mg_none_of X G z12, PySem.W.mg_of X G a1, F1, b1, PySem.W.mg_of X G a2, F2, b2, PySem.W.mg_of X G a3, F3, b3, PySem.W.mg_of X G a4, F4, b4, PySem.W.mg_of X G a5, F5, b5, PySem.W.mg_of X G a6, F6, b6, PySem.W.mg_of X G a7, F7, b7, PySem.W.mg_of X G a8, F8, b8, PySem.W.mg_of X G a9, F9, b9, PySem.W.mg_of X G a10, F10, b10, PySem.W.mg_of X G a11, F11, b11, PySem.W.mg_of X G a12, F12, b12, PySem.W.mg_of X G a13, F13, b13, PySem.W.mg_of X G a14, F14, b14, PySem.W.mg_of X G a15, F15, b15, PySem.W.mg_of X G a16, F16, b16, PySem.W.mg_of X G a17, F17, b17, PySem.W.mg_of X G a18, F18, b18, PySem.W.mg_of X G a19, F19, b19, PySem.W.mg_of X G a20, F20, b20, PySem.W.mg_of X G a21, F21, b21, PySem.W.mg_of X G a22, F22, b22, PySem.W.mg_of X G a23, F23, b23, PySem.W.mg_of X G a24, F24, b24, PySem.W.mg_of X G a25, F25, b25, PySem.W.mg_of X G a26, F26, b26, PySem.W.mg_of X G a27, F27, b27, PySem.W.mg_of X G a28, F28, b28, PySem.W.mg_of X G a29, F29, b29, PySem.W.mg_of X G a30, F30, b30, PySem.W.mg_of X G a31, F31, b31, PySem.W.mg_of X G a32, F32, b32, PySem.W.mg_of X G a33, F33, b33, PySem.W.mg_of X G a34, F34, b34, PySem.W.mg_of X G a35, F35, b35, PySem.W.mg_of X G a36, F36, b36, PySem.W.mg_of X G a37, F37, b37, PySem.W.mg_of X G a38, F38, b38, PySem.W.mg_of X G a39, F39, b39, PySem.W.mg_of X G a40, F40, b40, PySem.W.mg_of X G a41, F41, b41, PySem.W.mg_of X G a42, F42, b42, rfl⟩
  exact ⟨PySem.W.fnOf "law" "law" (defArgs s_law) (defBody s_law) (defScope s_law) .none kV42 dc42 pm42 an42 cd42 ct42, fun s v => .of_eq rfl, fun base _ _ LL => ok_law T (LL _ List.mem_cons_self)⟩
theorem walk {l : PySem.W.OpenLaw} {q : Program} {loose : List Str} {XP : (Str → Option Value) → Heap → Prop} {YP : World → Heap → Prop} {d : DefRec} {K : Params → PySem.W.Frag} {c12 P12 : Addr} (hn : l.most = some 63) (hdf : d.params.defaults = [])
    (hY : ∀ (w : World) (h : Heap), YP w h → (K w.params).In h)
    (hK0 : ∀ w : World, PySem.W.noTabs (K w.params) = true) (hT : ∀ (w : World) (h : Heap), YP w h → PySem.W.TabsAt [(c12, P12)] h)
(F : ∀ (w : World) (mg : Str → Option Value) (fa : Addr) (h : Heap), (K w.params).In h → h.Ns mainGlobals mg → mg d.name = some (.ref fa) →
      ∃ fd : FuncData, (∀ (s : Shared) (u : Value), BindsTo s fd ⟨[u], []⟩ [("_law_script", u)]) ∧ ∀ base : Heap, (K w.params).In base → base.Ns mainGlobals mg → (∀ p ∈ ([(c12, P12)] : List (Addr × Addr)), LamB mg base p.1 p.2) → FnOk l.prog w (K w.params) mg base CX0 21 fa fd ["_law_script"] (spT P12 (spLaw (K w.params)))) :
    PySem.W.WalkO q loose XP YP l.row.toRowW d [] (fun f vs => PySem.call f vs) :=
  
  L2.walk_ofT (n := 63) (k := 21) (x := "_law_script") (tabs := fun _ => [(c12, P12)]) (sp := fun w => (spT P12 (spLaw (K w.params)))) hn (by decide) hdf ⟨rfl, by decide, by decide⟩ hY hK0 hT F (fun _ _ a ns hl hT hS => ⟨hT _ List.mem_cons_self, a, ns, rfl, hS, hl, fun _ => rfl⟩)
end Ow
namespace PySem.W.Fast
def tw14165036758528542720 : Unit := ()
def tw115777346473871277 : Unit := ()
def tw6020693815409012371 : Unit := ()
def tw10088767099124673335 : Unit := ()
def tw17413486154976120703 : Unit := ()
def tw10095357628111041388 : Unit := ()
def tw8819157390702179918 : Unit := ()
def tw1562173293029030577 : Unit := ()
def tw13474175763907735872 : Unit := ()
def tw9302802842452504510 : Unit := ()
def tw7476953037431306109 : Unit := ()
def tw4827005139751901943 : Unit := ()
def tw15760816271817883446 : Unit := ()
def tw9288563843082583553 : Unit := ()
def tw5258525449802745555 : Unit := ()
def tw11936836274400573588 : Unit := ()
def tw5733317229353450280 : Unit := ()
def tw15216638735552953135 : Unit := ()
def tw17962211660399121886 : Unit := ()
def tw16360958388428100102 : Unit := ()
def tw3744430480613393123 : Unit := ()
def tw6108965379683484585 : Unit := ()
def tw11710511412242730913 : Unit := ()
def tw14516409064256658368 : Unit := ()
def tw12110213229936865571 : Unit := ()
def tw13765181766320035506 : Unit := ()
def tw17066593798605938791 : Unit := ()
def tw9888609330861833536 : Unit := ()
def tw8694136092478397940 : Unit := ()
def tw17725469002059262786 : Unit := ()
def tw11602133371064980213 : Unit := ()
def tw17874907180343560150 : Unit := ()
def tw9912586030636071741 : Unit := ()
def tw1730994097880644677 : Unit := ()
def tw15955880534946865132 : Unit := ()
def tw8387590352978890591 : Unit := ()
def tw4830803196517490564 : Unit := ()
def tw8331278483334862546 : Unit := ()
def tw8953170265832304971 : Unit := ()
def tw13319840857098876198 : Unit := ()
def tw13271659672177163966 : Unit := ()
def tw1053402405137433169 : Unit := ()
def tw7978907649923800527 : Unit := ()
def tw15498804753470891966 : Unit := ()
def tw2585226130301715115 : Unit := ()
def tw13937188350181207657 : Unit := ()
def tw466517228210354121 : Unit := ()
def tw8645199609466157006 : Unit := ()
def tw7155291396343986216 : Unit := ()
def tw7896682250603672146 : Unit := ()
def tw2944808949836427907 : Unit := ()
def tw6937351542794262499 : Unit := ()
def tw13522013665342918520 : Unit := ()
def tw13948796331590426203 : Unit := ()
def tw5385134483784661107 : Unit := ()
def tw16587475194906110003 : Unit := ()
def tw17272563732139814444 : Unit := ()
def tw10526338618467535025 : Unit := ()
def tw16828206153481278971 : Unit := ()
def tw4400619956056392953 : Unit := ()
def tw17356293901257334272 : Unit := ()
def tw7728272330040784004 : Unit := ()
def tw5026542980133310964 : Unit := ()
def tw9102137702946576801 : Unit := ()
def tw17932116693773109727 : Unit := ()
def tw14367536244184353034 : Unit := ()
def tw1710065667755361089 : Unit := ()
def tw17135262176757731882 : Unit := ()
def tw17915478135700233454 : Unit := ()
def tw9044902793132857231 : Unit := ()
def tw4186531162673782025 : Unit := ()
def tw7898234919671061223 : Unit := ()
def tw9277149514533306091 : Unit := ()
def tw16305730165176640337 : Unit := ()
def tw4536113652126638293 : Unit := ()
def tw11542187972679624952 : Unit := ()
def tw9480466688757511194 : Unit := ()
def tw16074110022625911201 : Unit := ()
def tw16064944820834241826 : Unit := ()
def tw17670977920960823047 : Unit := ()
def tw200137503098614425 : Unit := ()
def tw16197477187777505800 : Unit := ()
def tw3109992218496695119 : Unit := ()
def tw10323075432454058295 : Unit := ()
def tw12730315408466441090 : Unit := ()
def tw4617491595904579896 : Unit := ()
def tw14803104394676865613 : Unit := ()
def tw6663918582992583113 : Unit := ()
def tw13093451229192988328 : Unit := ()
def tw6556200528006771934 : Unit := ()
def tw1585315232206098989 : Unit := ()
def tw11095110238737730797 : Unit := ()
def tw13221401952581257045 : Unit := ()
def tw646076905369953006 : Unit := ()
def tw12221214528831178113 : Unit := ()
def tw7924597785395965806 : Unit := ()
def tw16563599941663076188 : Unit := ()
def tw14588644663173559102 : Unit := ()
def tw4378835383641673893 : Unit := ()
def tw15726200529466044304 : Unit := ()
def tw16813617704372404688 : Unit := ()
def tw2183381890569629140 : Unit := ()
def tw11361434095532720848 : Unit := ()
def tw4897302302008440169 : Unit := ()
def tw15115025308893627326 : Unit := ()
def tw5789927445862067625 : Unit := ()
def tw7572763662588995401 : Unit := ()
def tw3082564744002231396 : Unit := ()
def tw16190636105683268585 : Unit := ()
def tw10521465358179645083 : Unit := ()
def tw17899875867966056586 : Unit := ()
def tw10381661363130474671 : Unit := ()
def tw9319352721127218097 : Unit := ()
def tw6903390688914211744 : Unit := ()
def tw1343166984067186097 : Unit := ()
def tw11821356514508291592 : Unit := ()
def tw5104258411071700241 : Unit := ()
def tw6305862807436131882 : Unit := ()
def tw11634093418589139366 : Unit := ()
def tw15388236870981339694 : Unit := ()
def tw861794586135523793 : Unit := ()
def tw845796846145763319 : Unit := ()
def tw15650900685933021250 : Unit := ()
def tw7587819215894424887 : Unit := ()
def tw3127802609485884052 : Unit := ()
def tw4866032751903282610 : Unit := ()
def tw4343926913901487217 : Unit := ()
def tw11052177917817546257 : Unit := ()
def tw3515469650569164661 : Unit := ()
def tw883194262966961807 : Unit := ()
def tw13059786714284125940 : Unit := ()
def tw5699329250142730689 : Unit := ()
def tw5120902110344168933 : Unit := ()
def tw9745516709958331502 : Unit := ()
def tw6049989671969022451 : Unit := ()
def tw11603830283906999520 : Unit := ()
def tw7007654635186519575 : Unit := ()
def tw10186835895580992226 : Unit := ()
def tw8251075726986087861 : Unit := ()
def tw1856957028903310564 : Unit := ()
def tw15583814727823095802 : Unit := ()
def tw16624085672300469111 : Unit := ()
def tw7410423806438536088 : Unit := ()
def tw6230187727636349024 : Unit := ()
def tw420887218442047686 : Unit := ()
def tw2473361288886824733 : Unit := ()
def tw13834142476051110733 : Unit := ()
def tw13847114033522187419 : Unit := ()
def tw17903239143193217860 : Unit := ()
def tw14492749526794313442 : Unit := ()
def tw10107570162831036590 : Unit := ()
def tw5171054750335475003 : Unit := ()
def tw4415491472528791815 : Unit := ()
def tw9351246396210371771 : Unit := ()
def tw3004436312176792481 : Unit := ()
def tw10306192221713839269 : Unit := ()
def tw9360584700792671465 : Unit := ()
def tw8937748864964927539 : Unit := ()
def tw5622688696305857178 : Unit := ()
def tw7302143021261897575 : Unit := ()
def tw13759678595697482205 : Unit := ()
def tw12781556205579898390 : Unit := ()
def tw9647658562471625050 : Unit := ()
def tw705372802143733562 : Unit := ()
def tw9500000423032870565 : Unit := ()
def tw17881013354117355995 : Unit := ()
def tw5618061149593868717 : Unit := ()
def tw18277668265964878036 : Unit := ()
def tw6728528021759881589 : Unit := ()
def tw14763040604359730426 : Unit := ()
def tw14480988136808480499 : Unit := ()
def tw10169935535847726261 : Unit := ()
def tw15948565085247872070 : Unit := ()
def tw10773535234821158493 : Unit := ()
def tw7659034280121647909 : Unit := ()
def tw3217430331500387776 : Unit := ()
def tw3994679364936549846 : Unit := ()
def tw1027743316752866222 : Unit := ()
def tw16940920531807099609 : Unit := ()
def tw3342587057161578706 : Unit := ()
def tw527383747934791493 : Unit := ()
def tw13355873982965165752 : Unit := ()
def tw6432726885062739936 : Unit := ()
def tw17132846859901405081 : Unit := ()
def tw14905412498360861807 : Unit := ()
def tw14418299369269218289 : Unit := ()
def tw4542070343324180403 : Unit := ()
def tw10380261940687350672 : Unit := ()
def tw17408171716724832575 : Unit := ()
def tw1862791057361200517 : Unit := ()
def tw3298687323950102814 : Unit := ()
def tw2546465093006780031 : Unit := ()
def tw2796697109702687099 : Unit := ()
def tw1645098653975024344 : Unit := ()
def tw18405137360966955862 : Unit := ()
def tw10093229721038559101 : Unit := ()
def tw3114679904419777879 : Unit := ()
def tw13821550224232259083 : Unit := ()
def tw7851932967280649216 : Unit := ()
def tw15929300301494570872 : Unit := ()
def tw17198316472764423969 : Unit := ()
def tw7670291294250203475 : Unit := ()
def tw13477010458831659988 : Unit := ()
def tw18245112559880327094 : Unit := ()
def tw17768284795714003176 : Unit := ()
def tw4013697235322419181 : Unit := ()
def tw5610027275029870063 : Unit := ()
def tw10097391032350403549 : Unit := ()
def tw6277948866757813401 : Unit := ()
def tw3822602153116425800 : Unit := ()
def tw12570944808271002651 : Unit := ()
def tw16335844054277113179 : Unit := ()
def tw4723856006082243918 : Unit := ()
def tw12306545867726699690 : Unit := ()
def tw566760485395320441 : Unit := ()
def tw6636731415688056116 : Unit := ()
def tw979579868973502158 : Unit := ()
def tw15348757301776976942 : Unit := ()
def tw1547263375904928086 : Unit := ()
def tw5813527999927917748 : Unit := ()
def tw6317913211966503478 : Unit := ()
def tw3459377868608332965 : Unit := ()
def tw654444688826211891 : Unit := ()
def tw14928130119991442580 : Unit := ()
def tw4789680236446800748 : Unit := ()
def tw17181715217219283116 : Unit := ()
def tw11634205953612875733 : Unit := ()
def tw5909148341260347648 : Unit := ()
def tw10498157303364942816 : Unit := ()
def tw17227649278840430620 : Unit := ()
def tw11019724083499228636 : Unit := ()
def tw13890526912820674499 : Unit := ()
def tw5850972134233252120 : Unit := ()
def tw7770581961414493998 : Unit := ()
def tw15847554953654216664 : Unit := ()
def tw8884897737776071139 : Unit := ()
def tw6721273930072952339 : Unit := ()
def tw5975090451506829842 : Unit := ()
def tw13442786705162457473 : Unit := ()
def tw13263891973000504002 : Unit := ()
def tw5292911080261364078 : Unit := ()
def tw16128490655165346917 : Unit := ()
def tw5437821845242879107 : Unit := ()
end PySem.W.Fast
namespace Ow
end Ow
open PySem PySem.W PyProof.Rows
set_option maxRecDepth 100000 in
set_option maxHeartbeats 0 in
theorem PySem.Challenge.cw_optionwood_k33_standing_of_options_holds : PySem.Challenge.rw_optionwood_k33_standing_of_options.Holds := by
  w_on; o_law; k_head; (case hw => w_witness2)
  k_fill
  refine' Ow.walk (l := PySem.Challenge.rw_optionwood_k33_standing_of_options) (c12 := _) (P12 := _) rfl rfl (fun w h Y => PySem.W.km_in_of Y) ?K0 ?hT ?F
  case F =>
    intro w mg fa h KX G hmg
    refine' Ow.all_mk KX G hmg ?a1 ?l1 ?c1 ?k1 ?a2 ?l2 ?c2 ?k2 ?a3 ?l3 ?c3 ?k3 ?a4 ?l4 ?c4 ?k4 ?a5 ?l5 ?c5 ?k5 ?a6 ?l6 ?c6 ?k6 ?a7 ?l7 ?c7 ?k7 ?a8 ?l8 ?c8 ?k8 ?a9 ?l9 ?c9 ?k9 ?a10 ?l10 ?c10 ?k10 ?a11 ?l11 ?c11 ?k11 ?a12 ?l12 ?c12 ?k12 ?m12 ?n12 ?a13 ?l13 ?c13 ?k13 ?a14 ?l14 ?c14 ?k14 ?a15 ?l15 ?c15 ?k15 ?a16 ?l16 ?c16 ?k16 ?a17 ?l17 ?c17 ?k17 ?a18 ?l18 ?c18 ?k18 ?a19 ?l19 ?c19 ?k19 ?a20 ?l20 ?c20 ?k20 ?a21 ?l21 ?c21 ?k21 ?a22 ?l22 ?c22 ?k22 ?a23 ?l23 ?c23 ?k23 ?a24 ?l24 ?c24 ?k24 ?a25 ?l25 ?c25 ?k25 ?a26 ?l26 ?c26 ?k26 ?a27 ?l27 ?c27 ?k27 ?a28 ?l28 ?c28 ?k28 ?a29 ?l29 ?c29 ?k29 ?a30 ?l30 ?c30 ?k30 ?a31 ?l31 ?c31 ?k31 ?a32 ?l32 ?c32 ?k32 ?a33 ?l33 ?c33 ?k33 ?a34 ?l34 ?c34 ?k34 ?a35 ?l35 ?c35 ?k35 ?a36 ?l36 ?c36 ?k36 ?a37 ?l37 ?c37 ?k37 ?a38 ?l38 ?c38 ?k38 ?a39 ?l39 ?c39 ?k39 ?a40 ?l40 ?c40 ?k40 ?a41 ?l41 ?c41 ?k41 ?a42 ?l42 ?c42 ?k42 ?z1 ?z2 ?z3 ?z4 ?z5 ?z6 ?z7 ?z8 ?z9 ?z10 ?z11 ?z12
    (case a1 => k_is)
    (case l1 => k_is)
    (case c1 => k_is)
    (case k1 => k_is)
    (case a2 => k_is)
    (case l2 => k_is)
    (case c2 => k_is)
    (case k2 => k_is)
    (case a3 => k_is)
    (case l3 => k_is)
    (case c3 => k_is)
    (case k3 => k_is)
    (case a4 => k_is)
    (case l4 => k_is)
    (case c4 => k_is)
    (case k4 => k_is)
    (case a5 => k_is)
    (case l5 => k_is)
    (case c5 => k_is)
    (case k5 => k_is)
    (case a6 => k_is)
    (case l6 => k_is)
    (case c6 => k_is)
    (case k6 => k_is)
    (case a7 => k_is)
    (case l7 => k_is)
    (case c7 => k_is)
    (case k7 => k_is)
    (case a8 => k_is)
    (case l8 => k_is)
    (case c8 => k_is)
    (case k8 => k_is)
    (case a9 => k_is)
    (case l9 => k_is)
    (case c9 => k_is)
    (case k9 => k_is)
    (case a10 => k_is)
    (case l10 => k_is)
    (case c10 => k_is)
    (case k10 => k_is)
    (case a11 => k_is)
    (case l11 => k_is)
    (case c11 => k_is)
    (case k11 => k_is)
    (case a12 => k_is)
    (case l12 => k_is)
    (case c12 => k_is)
    (case k12 => k_is)
    (case m12 => k_is)
    (case n12 => exact rfl)
    (case a13 => k_is)
    (case l13 => k_is)
    (case c13 => k_is)
    (case k13 => k_is)
    (case a14 => k_is)
    (case l14 => k_is)
    (case c14 => k_is)
    (case k14 => k_is)
    (case a15 => k_is)
    (case l15 => k_is)
    (case c15 => k_is)
    (case k15 => k_is)
    (case a16 => k_is)
    (case l16 => k_is)
    (case c16 => k_is)
    (case k16 => k_is)
    (case a17 => k_is)
    (case l17 => k_is)
    (case c17 => k_is)
    (case k17 => k_is)
    (case a18 => k_is)
    (case l18 => k_is)
    (case c18 => k_is)
    (case k18 => k_is)
    (case a19 => k_is)
    (case l19 => k_is)
    (case c19 => k_is)
    (case k19 => k_is)
    (case a20 => k_is)
    (case l20 => k_is)
    (case c20 => k_is)
    (case k20 => k_is)
    (case a21 => k_is)
    (case l21 => k_is)
    (case c21 => k_is)
    (case k21 => k_is)
    (case a22 => k_is)
    (case l22 => k_is)
    (case c22 => k_is)
    (case k22 => k_is)
    (case a23 => k_is)
    (case l23 => k_is)
    (case c23 => k_is)
    (case k23 => k_is)
    (case a24 => k_is)
    (case l24 => k_is)
    (case c24 => k_is)
    (case k24 => k_is)
    (case a25 => k_is)
    (case l25 => k_is)
    (case c25 => k_is)
    (case k25 => k_is)
    (case a26 => k_is)
    (case l26 => k_is)
    (case c26 => k_is)
    (case k26 => k_is)
    (case a27 => k_is)
    (case l27 => k_is)
    (case c27 => k_is)
    (case k27 => k_is)
    (case a28 => k_is)
    (case l28 => k_is)
    (case c28 => k_is)
    (case k28 => k_is)
    (case a29 => k_is)
    (case l29 => k_is)
    (case c29 => k_is)
    (case k29 => k_is)
    (case a30 => k_is)
    (case l30 => k_is)
    (case c30 => k_is)
    (case k30 => k_is)
    (case a31 => k_is)
    (case l31 => k_is)
    (case c31 => k_is)
    (case k31 => k_is)
    (case a32 => k_is)
    (case l32 => k_is)
    (case c32 => k_is)
    (case k32 => k_is)
    (case a33 => k_is)
    (case l33 => k_is)
    (case c33 => k_is)
    (case k33 => k_is)
    (case a34 => k_is)
    (case l34 => k_is)
    (case c34 => k_is)
    (case k34 => k_is)
    (case a35 => k_is)
    (case l35 => k_is)
    (case c35 => k_is)
    (case k35 => k_is)
    (case a36 => k_is)
    (case l36 => k_is)
    (case c36 => k_is)
    (case k36 => k_is)
    (case a37 => k_is)
    (case l37 => k_is)
    (case c37 => k_is)
    (case k37 => k_is)
    (case a38 => k_is)
    (case l38 => k_is)
    (case c38 => k_is)
    (case k38 => k_is)
    (case a39 => k_is)
    (case l39 => k_is)
    (case c39 => k_is)
    (case k39 => k_is)
    (case a40 => k_is)
    (case l40 => k_is)
    (case c40 => k_is)
    (case k40 => k_is)
    (case a41 => k_is)
    (case l41 => k_is)
    (case c41 => k_is)
    (case k41 => k_is)
    (case a42 => k_is)
    (case l42 => k_is)
    (case c42 => k_is)
    (case k42 => k_is)
    (case z1 => k_is)
    (case z2 => k_is)
    (case z3 => k_is)
    (case z4 => k_is)
    (case z5 => k_is)
    (case z6 => k_is)
    (case z7 => k_is)
    (case z8 => k_is)
    (case z9 => k_is)
    (case z10 => k_is)
    (case z11 => k_is)
    (case z12 => k_is)
  case K0 => intro w; kernel_rfl
  case hT =>
    intro w h Y q hq
    simp only [List.mem_cons, List.not_mem_nil, or_false] at hq
    subst hq
    exact ⟨PySem.W.codeHd_of_K (PySem.W.km_in_of Y) (by kernel_rfl), PySem.W.km_tabs_of Y _ (by decide)⟩
#print axioms PySem.Challenge.cw_optionwood_k33_standing_of_options_holds
